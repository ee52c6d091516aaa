import Derived.Test.YtdkkbgokemimfaaDoorD2d
namespace Go.Proofs.YtdkkbgokemimfaaDoor.Frm
open Go.RowKit Gf8 Aes By8 Cel
/- A Feed's wrong, next, goOn. -/

/-- The sums in the Feed, as they lie there. -/
theorem FAt.sums {F : Nat} {s : FSt} {W : World} (h : FAt F s W) : W.rangeAt F 323 [.int .u32 (s.sa : Int), .int .u32 (s.sb : Int)] := by
  intro j v hv
  match j, hv with
  | 0, hv => exact h.sa.trans hv
  | 1, hv => exact h.sb.trans hv
/-- Is the field wrong? -/
def wrongB (s : FSt) : Bool := if s.f = 8 then decide (nb s.part s.hv ≠ s.sb * 65536 + s.sa) else decide (nb s.part s.hv < low s.f ∨ high s.f < nb s.part s.hv)
set_option maxRecDepth 20000 in
set_option maxHeartbeats 1000000 in
theorem wrong_p (F : Nat) (s : FSt) (V : World) (h : FAt F s V) (g : Rules V) (hf : s.f < 10) (hn : s.hv ≤ 8) (hb : ∀ j, j < s.hv → s.part j < 256) (hsa : s.sa < 65521) (hsb : s.sb < 65521) :
    Calls Tryd.prog 36 #[.pointer (some ⟨F, 0, none⟩)] V fun e w' => e = .returned (.bool (wrongB s)) ∧ Below V.heap.size V w' := by
  have HB : Hid (FAt F s V ∧ s.hv ≤ 8 ∧ (∀ j, j < s.hv → s.part j < 256) ∧ s.sa < 65521 ∧ s.sb < 65521) := ⟨h, hn, hb, hsa, hsb⟩
  have HR : Hid (Rules V ∧ 0 < V.heap.size ∧ s.f < 10) := ⟨g, g.sz, hf⟩
  obtain ⟨N, hN⟩ : ∃ N, nb s.part s.hv = N := ⟨_, rfl⟩
  have HN : Hid (nb s.part s.hv = N) := hN
  unfold wrongB
  rw [hN]
  clear h hn hb hN hsa hsb g
  by_cases e8 : s.f = 8
  · have i1 : (s.f : Int) = 8 := by omega
    rw [if_pos e8]
    clear e8 hf
    go_enter Tryd.func36, Tryd.ntmps36
    go_wp2_with (first
      | (go_at_call 48; refine (fnumber_any F s _ HB.out.1 HB.out.2.1 HB.out.2.2.1).mono ?_; rintro e w1 ⟨rfl, b1⟩; rw [HN.out]; have f1 := HB.out.1.on b1; have c0 := f1.c0; rw [i1] at c0; have F1 : Hid (FAt F s w1 ∧ Below V.heap.size V w1) := ⟨f1, b1⟩; clear f1 b1)
      | (refine atLoad 72 (.tmp 14) rfl ?_; go_must (refine wpList_ex rfl (execLoadMid rfl rfl F1.out.1.sums Tryd.underlying72 rfl (by kernel_rfl)) ?_; simp only [Act.put, List.setIfInBounds_toArray, List.set_cons_succ, List.set_cons_zero]))
      | (go_at_call 43; refine (snumber_any s.sa s.sb _ HB.out.2.2.2.1 HB.out.2.2.2.2).mono ?_; rintro e w2 ⟨rfl, b2⟩))
    go_ret
    refine ⟨?_, F1.out.2.trans (b2.mono F1.out.2.size)⟩
    show Ending.returned (Value.bool ((N : Int) != (s.sb : Int) * 65536 + s.sa)) = _
    congr 2
    rw [Bool.eq_iff_iff]
    simp
    omega
  · rw [if_neg e8]
    have i1 : ¬ (s.f : Int) = 8 := by omega
    have i0 : (s.f : Int) < 10 := by omega
    clear hf e8
    obtain ⟨f, ef⟩ : ∃ f, s.f = f := ⟨_, rfl⟩
    rw [ef] at i1 i0 HR ⊢
    by_cases h1 : N < low f
    · have j1 : (N : Int) < low f := by omega
      rw [decide_eq_true (Or.inl h1)]
      clear h1
      go_enter Tryd.func36, Tryd.ntmps36
      go_wp2_with (first
        | (go_at_call 48; refine (fnumber_any F s _ HB.out.1 HB.out.2.1 HB.out.2.2.1).mono ?_; rintro e w1 ⟨rfl, b1⟩; rw [HN.out]; have f1 := HB.out.1.on b1; have c0 := f1.c0; rw [ef] at c0; have g1 := HR.out.1.on b1 HR.out.2.1; have c1 := g1.lo f HR.out.2.2; have F1 : Hid (FAt F s w1 ∧ Below V.heap.size V w1) := ⟨f1, b1⟩; clear f1 b1 g1))
      go_ret
      exact ⟨rfl, F1.out.2⟩
    · have j1 : ¬ (N : Int) < low f := by omega
      by_cases h2 : high f < N
      · have j2 : (N : Int) > high f := by omega
        rw [decide_eq_true (Or.inr h2)]
        clear h1 h2
        go_enter Tryd.func36, Tryd.ntmps36
        go_wp2_with (first
          | (go_at_call 48; refine (fnumber_any F s _ HB.out.1 HB.out.2.1 HB.out.2.2.1).mono ?_; rintro e w1 ⟨rfl, b1⟩; rw [HN.out]; have f1 := HB.out.1.on b1; have c0 := f1.c0; rw [ef] at c0; have g1 := HR.out.1.on b1 HR.out.2.1; have c1 := g1.lo f HR.out.2.2; have c2 := g1.hi f HR.out.2.2; have F1 : Hid (FAt F s w1 ∧ Below V.heap.size V w1) := ⟨f1, b1⟩; clear f1 b1 g1))
        go_ret
        exact ⟨rfl, F1.out.2⟩
      · have j2 : ¬ (N : Int) > high f := by omega
        rw [decide_eq_false (fun q => q.elim h1 h2)]
        have H12 : Hid (¬ N < low f ∧ ¬ high f < N) := ⟨h1, h2⟩
        clear h1 h2
        go_enter Tryd.func36, Tryd.ntmps36
        go_wp2_with (first
          | (go_at_call 48; refine (fnumber_any F s _ HB.out.1 HB.out.2.1 HB.out.2.2.1).mono ?_; rintro e w1 ⟨rfl, b1⟩; rw [HN.out]; have f1 := HB.out.1.on b1; have c0 := f1.c0; rw [ef] at c0; have g1 := HR.out.1.on b1 HR.out.2.1; have c1 := g1.lo f HR.out.2.2; have c2 := g1.hi f HR.out.2.2; have F1 : Hid (FAt F s w1 ∧ Below V.heap.size V w1) := ⟨f1, b1⟩; clear f1 b1 g1))
        go_ret
        refine ⟨?_, F1.out.2⟩
        show Ending.returned (Value.bool (decide (N < low f) || decide (high f < N))) = _
        rw [decide_eq_false H12.out.1, decide_eq_false H12.out.2]
        rfl
set_option maxRecDepth 20000 in
set_option maxHeartbeats 1000000 in
theorem next_any (F : Nat) (s : FSt) (V : World) (h : FAt F s V) (hf : s.f < 10) (n : Nat) (hc : s.cl = n ∨ (s.f ≠ 5 ∧ s.f ≠ 7)) :
    Calls Tryd.prog 50 #[.pointer (some ⟨F, 0, none⟩)] V fun e w' => e = .returned (.int .i64 (nextF s.f n : Nat)) ∧ w' = V := by
  have c0 := h.c0
  have c1 := h.cl
  obtain ⟨f, ef⟩ : ∃ f, s.f = f := ⟨_, rfl⟩
  rw [ef] at c0 hc hf ⊢
  unfold nextF
  clear h
  by_cases e5 : f = 5
  · have i5 : (f : Int) = 5 := by omega
    rw [if_neg (by omega)]
    have ec : s.cl = n := hc.resolve_right (by omega)
    rw [ec] at c1
    rw [i5] at c0
    clear hc ec
    by_cases h0 : 0 < n
    · have i0 : (n : Int) > 0 := by omega
      rw [if_pos h0]
      clear h0
      go_enter Tryd.func50, Tryd.ntmps50
      go_wp2
      go_ret
      exact ⟨rfl, rfl⟩
    · have i0 : ¬ (n : Int) > 0 := by omega
      rw [if_neg h0]
      clear h0
      go_enter Tryd.func50, Tryd.ntmps50
      go_wp2
      go_ret
      exact ⟨rfl, rfl⟩
  · by_cases e7 : f = 7
    · have i7 : (f : Int) = 7 := by omega
      rw [if_neg (by omega)]
      have ec : s.cl = n := hc.resolve_right (by omega)
      rw [ec] at c1
      rw [i7] at c0
      clear hc ec e5
      by_cases h0 : 0 < n
      · have i0 : (n : Int) > 0 := by omega
        rw [if_pos h0]
        clear h0
        go_enter Tryd.func50, Tryd.ntmps50
        go_wp2
        go_ret
        exact ⟨rfl, rfl⟩
      · have i0 : ¬ (n : Int) > 0 := by omega
        rw [if_neg h0]
        clear h0
        go_enter Tryd.func50, Tryd.ntmps50
        go_wp2
        go_ret
        exact ⟨rfl, rfl⟩
    · have i5 : ¬ (f : Int) = 5 := by omega
      have i7 : ¬ (f : Int) = 7 := by omega
      have i8 : (f : Int) < 10 := by omega
      have k5 : ((f : Int) != 5) = true := by simpa using i5
      have k7 : ((f : Int) != 7) = true := by simpa using i7
      rw [if_pos ⟨e5, e7⟩]
      clear hc e5 e7
      go_enter Tryd.func50, Tryd.ntmps50
      go_wp2
      go_ret
      exact ⟨rfl, rfl⟩
end Go.Proofs.YtdkkbgokemimfaaDoor.Frm
