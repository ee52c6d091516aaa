import Derived.Test.YtgklhjnojmpmlaaGreatDoorD2c
namespace Go.Proofs.YtgklhjnojmpmlaaGreatDoor.Frm
open Go.RowKit Gf8 Aes By8 Cel
/- A Feed's small functions that write. -/

section
variable {o : Oper} {a : Act} {w : World}
/-- part[:n]. -/
theorem slicePartH (F n : Nat) (h2 : n ≤ 320) (W : World) : (Instr.sliceAt 88 (.pointer (some ⟨F, 1, none⟩)) none (some (.int .i64 (n : Int))) none).run Tryz.prog W = .ok (.slice (some ⟨F, 1, none⟩) n 320) W := by
  have a2 : (n : Int) ≤ 320 := by omega
  simp [go_sem, a2]
end
/-- What each operation of empty's first region yields. -/
def emV (F : Nat) (s : FSt) (j : Nat) : Value :=
  match j with
  | 0 => .pointer (some ⟨F, 0, none⟩) | 1 => .pointer (some ⟨F, 0, none⟩) | 2 => .pointer (some ⟨F, 1, none⟩)
  | 3 => .pointer (some ⟨F, 0, none⟩) | 4 => .pointer (some ⟨F, 0, none⟩) | 5 => .pointer (some ⟨F, 321, none⟩) | 6 => .int .i64 (s.hv : Int)
  | 7 => .slice (some ⟨F, 1, none⟩) s.hv 320 | _ => undef
def emptyS (s : FSt) : FSt := { s with part := spl s.part 0 s.hv fun _ => 0, hv := 0 }
set_option maxRecDepth 20000 in
set_option maxHeartbeats 1000000 in
theorem empty_any (F : Nat) (s : FSt) (V : World) (h : FAt F s V) (h0 : 0 < s.hv) (hh : s.hv ≤ 320) :
    Calls Tryz.prog 72 #[.pointer (some ⟨F, 0, none⟩)] V fun e w' => e = .returned (.tuple #[]) ∧ FTo F (emptyS s) V w' := by
  have HB : Hid (FAt F s V ∧ 0 < s.hv ∧ s.hv ≤ 320) := ⟨h, h0, hh⟩
  clear h h0 hh
  go_enter Tryz.func72, Tryz.ntmps72
  go_wp2_with fail
  refine wp_region_det 13 [(0, 2), (1, 3), (2, 4), (3, 5), (4, 6), (5, 7), (6, 8), (7, 9)] (emV F s) (fun l W => ∃ q, FTo F { s with part := q } V W ∧ (l 8 = false → q = s.part) ∧ (l 8 = true → q = spl s.part 0 s.hv fun _ => 0)) (by kernel_rfl) (by kernel_rfl) rfl (by kernel_rfl) (by decide) (by decide) ?_ ?_ ?_
  · exact ⟨s.part, (FTo.refl HB.out.1).on ((Below.refl _ _).drew), fun _ => rfl, fun q => by cases q⟩
  · intro j hj l a W hl hf hdep hl2 hcl _ hT
    obtain ⟨_, h0, hh⟩ := HB.out
    have hT' := hT
    obtain ⟨q, ft, q1, q2⟩ := hT'
    match j, hj with
    | 0, _ => exact stepV rfl rfl (execMvB rfl (hf 0 (by decide))) ⟨⟨_, rfl, rfl⟩, hT⟩
    | 1, _ => exact stepV rfl rfl (execNil rfl (hdep _ rfl 0 rfl _ rfl _ rfl)) ⟨⟨_, rfl, rfl⟩, hT⟩
    | 2, _ => exact stepV rfl rfl (execFld (k := 1) (by decide) rfl (hdep _ rfl 1 rfl _ rfl _ rfl)) ⟨⟨_, rfl, rfl⟩, hT⟩
    | 3, _ => exact stepV rfl rfl (execMvB rfl (hf 0 (by decide))) ⟨⟨_, rfl, rfl⟩, hT⟩
    | 4, _ => exact stepV rfl rfl (execNil rfl (hdep _ rfl 3 rfl _ rfl _ rfl)) ⟨⟨_, rfl, rfl⟩, hT⟩
    | 5, _ => exact stepV rfl rfl (execFld (k := 2) (by decide) rfl (hdep _ rfl 4 rfl _ rfl _ rfl)) ⟨⟨_, rfl, rfl⟩, hT⟩
    | 6, _ => exact stepV rfl rfl (execLdI rfl (hdep _ rfl 5 rfl _ rfl _ rfl) ft.at'.hv) ⟨⟨_, rfl, rfl⟩, hT⟩
    | 7, _ => exact stepV rfl rfl (execSlH rfl (hdep _ rfl 2 rfl _ rfl _ rfl) (hdep _ rfl 6 rfl _ rfl _ rfl) (slicePartH F s.hv hh W)) ⟨⟨_, rfl, rfl⟩, hT⟩
    | 8, _ =>
      have e := q1 hl
      subst e
      exact stepV rfl rfl (execClearP rfl (hdep _ rfl 7 rfl _ rfl _ rfl) ft.at' h0 hh) ⟨⟨_, rfl, rfl⟩, ⟨_, ft.set _, (fun q => by cases q), fun _ => rfl⟩⟩
    | n + 9, h => exact absurd h (by simp)
  · intro l W hall hT
    obtain ⟨q, ft, _, q2⟩ := hT
    have e := q2 (hall 8 (by simp))
    subst e
    have FT : Hid (FTo F { s with part := spl s.part 0 s.hv fun _ => 0 } V W) := ft
    clear hall ft q2 HB
    simp only [putP, emV, Act.put, List.setIfInBounds_toArray, List.set_cons_succ, List.set_cons_zero]
    go_wp2_with (first
      | (refine atStore 3 (.tmp 12) (.const (.int .i64 0)) rfl ?_; go_must (refine wpList_exS rfl (execStV (c' := fC (emptyS s)) rfl rfl rfl FT.out.at'.row (by rw [fC_size]; decide) (by kernel_rfl) rfl (fC_set (j := 0) (by decide) rfl rfl rfl)) ?_)))
    go_end0
    exact ⟨rfl, FT.out.set _⟩
set_option maxRecDepth 20000 in
set_option maxHeartbeats 1000000 in
theorem refuse_any (F : Nat) (s : FSt) (V : World) (h : FAt F s V) (g : Rules V) (hf : s.f < 10) (h0 : 0 < s.hv) (hh : s.hv ≤ 320) :
    Calls Tryz.prog 50 #[.pointer (some ⟨F, 0, none⟩)] V fun e w' => e = .returned (.tuple #[]) ∧ FTo F (emptyS { s with ft := flt s.f }) V w' := by
  have HB : Hid (FAt F s V ∧ 0 < s.hv ∧ s.hv ≤ 320) := ⟨h, h0, hh⟩
  have c0 := h.c0
  have c2 := g.ft _ hf
  have FT : Hid (FTo F { s with ft := flt s.f } V (V.setRow F (fC { s with ft := flt s.f }))) := (FTo.refl h).set _
  have i1 : (s.f : Int) < 10 := by omega
  clear h h0 hh g hf
  go_enter Tryz.func50, Tryz.ntmps50
  go_wp2_with (first
    | (refine atStore 30 (.tmp 11) (.tmp 9) rfl ?_; go_must (refine wpList_exS rfl (execStV (c' := fC { s with ft := flt s.f }) rfl rfl rfl HB.out.1.row (by rw [fC_size]; decide) (by kernel_rfl) rfl (fC_set (j := 8) (by decide) rfl rfl rfl)) ?_))
    | (go_at_call 72; refine (empty_any F _ _ FT.out.at' HB.out.2.1 HB.out.2.2).mono ?_; rintro e w1 ⟨rfl, f1⟩))
  go_end0
  exact ⟨rfl, FT.out.trans f1⟩
/-- What note leaves. -/
def noteS (s : FSt) (n : Nat) : FSt := if s.f = 2 then { s with lf := n } else if s.f = 3 then { s with cl := n } else if s.f = 4 then { s with rd := n } else if s.f = 5 then { s with ep := n } else s
set_option maxRecDepth 20000 in
set_option maxHeartbeats 1000000 in
theorem note_any (F : Nat) (s : FSt) (V : World) (h : FAt F s V) (hf : s.f < 10) (hn : s.hv ≤ 8) (hb : ∀ j, j < s.hv → s.part j < 256) (hl : nb s.part s.hv < 9223372036854775808 ∨ s.f < 2 ∨ 5 < s.f) :
    Calls Tryz.prog 51 #[.pointer (some ⟨F, 0, none⟩)] V fun e w' => e = .returned (.tuple #[]) ∧ FTo F (noteS s (nb s.part s.hv)) V w' := by
  have HB : Hid (FAt F s V ∧ s.hv ≤ 8 ∧ (∀ j, j < s.hv → s.part j < 256)) := ⟨h, hn, hb⟩
  obtain ⟨N, hN⟩ : ∃ N, nb s.part s.hv = N := ⟨_, rfl⟩
  rw [hN] at hl ⊢
  have HN : Hid (nb s.part s.hv = N) := hN
  have HF : Hid (s.f < 10) := hf
  clear h hn hb hN
  by_cases e2 : s.f = 2
  · skip
    have i1 : (s.f : Int) = 2 := by omega
    have i2 : (N : Int) < 9223372036854775808 := by omega
    unfold noteS
    rw [if_pos (by omega)]
    clear hf hl e2
    go_enter Tryz.func51, Tryz.ntmps51
    go_wp2_with (first
      | (go_at_call 70; refine (fnumber_any F s _ HB.out.1 HB.out.2.1 HB.out.2.2).mono ?_; rintro e w1 ⟨rfl, b1⟩; rw [HN.out]; have f1 := (FTo.refl HB.out.1).on b1; have c0 := f1.at'.c0; rw [i1] at c0; have F1 : Hid (_) := f1; clear f1 b1)
      | (refine atStore 3 (.tmp 16) (.tmp 13) rfl ?_; go_must (refine wpList_exS rfl (execStV (c' := fC { s with lf := (N : Int) }) rfl rfl rfl F1.out.at'.row (by rw [fC_size]; decide) (by kernel_rfl) rfl (fC_set (j := 6) (by decide) rfl rfl rfl)) ?_)))
    go_end0
    exact ⟨rfl, F1.out.set _⟩
  by_cases e3 : s.f = 3
  · skip
    have i1 : (s.f : Int) = 3 := by omega
    have i2 : (N : Int) < 9223372036854775808 := by omega
    unfold noteS
    rw [if_neg (by omega), if_pos (by omega)]
    clear hf hl e2 e3
    go_enter Tryz.func51, Tryz.ntmps51
    go_wp2_with (first
      | (go_at_call 70; refine (fnumber_any F s _ HB.out.1 HB.out.2.1 HB.out.2.2).mono ?_; rintro e w1 ⟨rfl, b1⟩; rw [HN.out]; have f1 := (FTo.refl HB.out.1).on b1; have c0 := f1.at'.c0; rw [i1] at c0; have F1 : Hid (_) := f1; clear f1 b1)
      | (refine atStore 3 (.tmp 23) (.tmp 21) rfl ?_; go_must (refine wpList_exS rfl (execStV (c' := fC { s with cl := (N : Int) }) rfl rfl rfl F1.out.at'.row (by rw [fC_size]; decide) (by kernel_rfl) rfl (fC_set (j := 7) (by decide) rfl rfl rfl)) ?_)))
    go_end0
    exact ⟨rfl, F1.out.set _⟩
  by_cases e4 : s.f = 4
  · skip
    have i1 : (s.f : Int) = 4 := by omega
    have i2 : (N : Int) < 9223372036854775808 := by omega
    unfold noteS
    rw [if_neg (by omega), if_neg (by omega), if_pos (by omega)]
    clear hf hl e2 e3 e4
    go_enter Tryz.func51, Tryz.ntmps51
    go_wp2_with (first
      | (go_at_call 70; refine (fnumber_any F s _ HB.out.1 HB.out.2.1 HB.out.2.2).mono ?_; rintro e w1 ⟨rfl, b1⟩; rw [HN.out]; have f1 := (FTo.refl HB.out.1).on b1; have c0 := f1.at'.c0; rw [i1] at c0; have F1 : Hid (_) := f1; clear f1 b1)
      | (refine atStore 2 (.tmp 31) (.tmp 28) rfl ?_; go_must (refine wpList_exS rfl (execStV (c' := fC { s with rd := (N : Int) }) rfl rfl rfl F1.out.at'.row (by rw [fC_size]; decide) (by kernel_rfl) rfl (fC_set (j := 4) (by decide) rfl rfl rfl)) ?_)))
    go_end0
    exact ⟨rfl, F1.out.set _⟩
  by_cases e5 : s.f = 5
  · skip
    have i1 : (s.f : Int) = 5 := by omega
    have i2 : (N : Int) < 9223372036854775808 := by omega
    unfold noteS
    rw [if_neg (by omega), if_neg (by omega), if_neg (by omega), if_pos (by omega)]
    clear hf hl e2 e3 e4 e5
    go_enter Tryz.func51, Tryz.ntmps51
    go_wp2_with (first
      | (go_at_call 70; refine (fnumber_any F s _ HB.out.1 HB.out.2.1 HB.out.2.2).mono ?_; rintro e w1 ⟨rfl, b1⟩; rw [HN.out]; have f1 := (FTo.refl HB.out.1).on b1; have c0 := f1.at'.c0; rw [i1] at c0; have F1 : Hid (_) := f1; clear f1 b1)
      | (refine atStore 2 (.tmp 39) (.tmp 36) rfl ?_; go_must (refine wpList_exS rfl (execStV (c' := fC { s with ep := (N : Int) }) rfl rfl rfl F1.out.at'.row (by rw [fC_size]; decide) (by kernel_rfl) rfl (fC_set (j := 5) (by decide) rfl rfl rfl)) ?_)))
    go_end0
    exact ⟨rfl, F1.out.set _⟩
  unfold noteS
  rw [if_neg e2, if_neg e3, if_neg e4, if_neg e5]
  have i2 : ¬ (s.f : Int) = 2 := by omega
  have i3 : ¬ (s.f : Int) = 3 := by omega
  have i4 : ¬ (s.f : Int) = 4 := by omega
  have i5 : ¬ (s.f : Int) = 5 := by omega
  clear hf hl e2 e3 e4 e5
  go_enter Tryz.func51, Tryz.ntmps51
  go_wp2_with (first
    | (go_at_call 70; refine (fnumber_any F s _ HB.out.1 HB.out.2.1 HB.out.2.2).mono ?_; rintro e w1 ⟨rfl, b1⟩; rw [HN.out]; have f1 := (FTo.refl HB.out.1).on b1; have c0 := f1.at'.c0; have F1 : Hid (_) := f1; clear f1 b1))
  go_end0
  exact ⟨rfl, F1.out⟩
end Go.Proofs.YtgklhjnojmpmlaaGreatDoor.Frm

namespace Go.Proofs.YtgklhjnojmpmlaaGreatDoor.Frm
open Go.RowKit Gf8 Aes By8 Cel
/- A Feed's wrong, next, goOn. -/

/-- The sums in the Feed, as they lie there. -/
theorem FAt.sums {F : Nat} {s : FSt} {W : World} (h : FAt F s W) : W.rangeAt F 323 [.int .u32 (s.sa : Int), .int .u32 (s.sb : Int)] := by
  intro j v hv
  match j, hv with
  | 0, hv => exact h.sa.trans hv
  | 1, hv => exact h.sb.trans hv
/-- Is the field wrong? -/
def wrongB (s : FSt) : Bool := if s.f = 8 then decide (nb s.part s.hv ≠ s.sb * 65536 + s.sa) else decide (nb s.part s.hv < low s.f ∨ high s.f < nb s.part s.hv)
set_option maxRecDepth 20000 in
set_option maxHeartbeats 1000000 in
theorem wrong_p (F : Nat) (s : FSt) (V : World) (h : FAt F s V) (g : Rules V) (hf : s.f < 10) (hn : s.hv ≤ 8) (hb : ∀ j, j < s.hv → s.part j < 256) (hsa : s.sa < 65521) (hsb : s.sb < 65521) :
    Calls Tryz.prog 49 #[.pointer (some ⟨F, 0, none⟩)] V fun e w' => e = .returned (.bool (wrongB s)) ∧ Below V.heap.size V w' := by
  have HB : Hid (FAt F s V ∧ s.hv ≤ 8 ∧ (∀ j, j < s.hv → s.part j < 256) ∧ s.sa < 65521 ∧ s.sb < 65521) := ⟨h, hn, hb, hsa, hsb⟩
  have HR : Hid (Rules V ∧ 0 < V.heap.size ∧ s.f < 10) := ⟨g, g.sz, hf⟩
  obtain ⟨N, hN⟩ : ∃ N, nb s.part s.hv = N := ⟨_, rfl⟩
  have HN : Hid (nb s.part s.hv = N) := hN
  unfold wrongB
  rw [hN]
  clear h hn hb hN hsa hsb g
  by_cases e8 : s.f = 8
  · have i1 : (s.f : Int) = 8 := by omega
    rw [if_pos e8]
    clear e8 hf
    go_enter Tryz.func49, Tryz.ntmps49
    go_wp2_with (first
      | (go_at_call 70; refine (fnumber_any F s _ HB.out.1 HB.out.2.1 HB.out.2.2.1).mono ?_; rintro e w1 ⟨rfl, b1⟩; rw [HN.out]; have f1 := HB.out.1.on b1; have c0 := f1.c0; rw [i1] at c0; have F1 : Hid (FAt F s w1 ∧ Below V.heap.size V w1) := ⟨f1, b1⟩; clear f1 b1)
      | (refine atLoad 91 (.tmp 14) rfl ?_; go_must (refine wpList_ex rfl (execLoadMid rfl rfl F1.out.1.sums Tryz.underlying91 rfl (by kernel_rfl)) ?_; simp only [Act.put, List.setIfInBounds_toArray, List.set_cons_succ, List.set_cons_zero]))
      | (go_at_call 71; refine (snumber_any s.sa s.sb _ HB.out.2.2.2.1 HB.out.2.2.2.2).mono ?_; rintro e w2 ⟨rfl, b2⟩))
    go_ret
    refine ⟨?_, F1.out.2.trans (b2.mono F1.out.2.size)⟩
    show Ending.returned (Value.bool ((N : Int) != (s.sb : Int) * 65536 + s.sa)) = _
    congr 2
    rw [Bool.eq_iff_iff]
    simp
    omega
  · rw [if_neg e8]
    have i1 : ¬ (s.f : Int) = 8 := by omega
    have i0 : (s.f : Int) < 10 := by omega
    clear hf e8
    obtain ⟨f, ef⟩ : ∃ f, s.f = f := ⟨_, rfl⟩
    rw [ef] at i1 i0 HR ⊢
    by_cases h1 : N < low f
    · have j1 : (N : Int) < low f := by omega
      rw [decide_eq_true (Or.inl h1)]
      clear h1
      go_enter Tryz.func49, Tryz.ntmps49
      go_wp2_with (first
        | (go_at_call 70; refine (fnumber_any F s _ HB.out.1 HB.out.2.1 HB.out.2.2.1).mono ?_; rintro e w1 ⟨rfl, b1⟩; rw [HN.out]; have f1 := HB.out.1.on b1; have c0 := f1.c0; rw [ef] at c0; have g1 := HR.out.1.on b1 HR.out.2.1; have c1 := g1.lo f HR.out.2.2; have F1 : Hid (FAt F s w1 ∧ Below V.heap.size V w1) := ⟨f1, b1⟩; clear f1 b1 g1))
      go_ret
      exact ⟨rfl, F1.out.2⟩
    · have j1 : ¬ (N : Int) < low f := by omega
      by_cases h2 : high f < N
      · have j2 : (N : Int) > high f := by omega
        rw [decide_eq_true (Or.inr h2)]
        clear h1 h2
        go_enter Tryz.func49, Tryz.ntmps49
        go_wp2_with (first
          | (go_at_call 70; refine (fnumber_any F s _ HB.out.1 HB.out.2.1 HB.out.2.2.1).mono ?_; rintro e w1 ⟨rfl, b1⟩; rw [HN.out]; have f1 := HB.out.1.on b1; have c0 := f1.c0; rw [ef] at c0; have g1 := HR.out.1.on b1 HR.out.2.1; have c1 := g1.lo f HR.out.2.2; have c2 := g1.hi f HR.out.2.2; have F1 : Hid (FAt F s w1 ∧ Below V.heap.size V w1) := ⟨f1, b1⟩; clear f1 b1 g1))
        go_ret
        exact ⟨rfl, F1.out.2⟩
      · have j2 : ¬ (N : Int) > high f := by omega
        rw [decide_eq_false (fun q => q.elim h1 h2)]
        have H12 : Hid (¬ N < low f ∧ ¬ high f < N) := ⟨h1, h2⟩
        clear h1 h2
        go_enter Tryz.func49, Tryz.ntmps49
        go_wp2_with (first
          | (go_at_call 70; refine (fnumber_any F s _ HB.out.1 HB.out.2.1 HB.out.2.2.1).mono ?_; rintro e w1 ⟨rfl, b1⟩; rw [HN.out]; have f1 := HB.out.1.on b1; have c0 := f1.c0; rw [ef] at c0; have g1 := HR.out.1.on b1 HR.out.2.1; have c1 := g1.lo f HR.out.2.2; have c2 := g1.hi f HR.out.2.2; have F1 : Hid (FAt F s w1 ∧ Below V.heap.size V w1) := ⟨f1, b1⟩; clear f1 b1 g1))
        go_ret
        refine ⟨?_, F1.out.2⟩
        show Ending.returned (Value.bool (decide (N < low f) || decide (high f < N))) = _
        rw [decide_eq_false H12.out.1, decide_eq_false H12.out.2]
        rfl
set_option maxRecDepth 20000 in
set_option maxHeartbeats 1000000 in
theorem next_any (F : Nat) (s : FSt) (V : World) (h : FAt F s V) (hf : s.f < 10) (n : Nat) (hc : s.cl = n ∨ (s.f ≠ 5 ∧ s.f ≠ 7)) :
    Calls Tryz.prog 74 #[.pointer (some ⟨F, 0, none⟩)] V fun e w' => e = .returned (.int .i64 (nextF s.f n : Nat)) ∧ w' = V := by
  have c0 := h.c0
  have c1 := h.cl
  obtain ⟨f, ef⟩ : ∃ f, s.f = f := ⟨_, rfl⟩
  rw [ef] at c0 hc hf ⊢
  unfold nextF
  clear h
  by_cases e5 : f = 5
  · have i5 : (f : Int) = 5 := by omega
    rw [if_neg (by omega)]
    have ec : s.cl = n := hc.resolve_right (by omega)
    rw [ec] at c1
    rw [i5] at c0
    clear hc ec
    by_cases h0 : 0 < n
    · have i0 : (n : Int) > 0 := by omega
      rw [if_pos h0]
      clear h0
      go_enter Tryz.func74, Tryz.ntmps74
      go_wp2
      go_ret
      exact ⟨rfl, rfl⟩
    · have i0 : ¬ (n : Int) > 0 := by omega
      rw [if_neg h0]
      clear h0
      go_enter Tryz.func74, Tryz.ntmps74
      go_wp2
      go_ret
      exact ⟨rfl, rfl⟩
  · by_cases e7 : f = 7
    · have i7 : (f : Int) = 7 := by omega
      rw [if_neg (by omega)]
      have ec : s.cl = n := hc.resolve_right (by omega)
      rw [ec] at c1
      rw [i7] at c0
      clear hc ec e5
      by_cases h0 : 0 < n
      · have i0 : (n : Int) > 0 := by omega
        rw [if_pos h0]
        clear h0
        go_enter Tryz.func74, Tryz.ntmps74
        go_wp2
        go_ret
        exact ⟨rfl, rfl⟩
      · have i0 : ¬ (n : Int) > 0 := by omega
        rw [if_neg h0]
        clear h0
        go_enter Tryz.func74, Tryz.ntmps74
        go_wp2
        go_ret
        exact ⟨rfl, rfl⟩
    · have i5 : ¬ (f : Int) = 5 := by omega
      have i7 : ¬ (f : Int) = 7 := by omega
      have i8 : (f : Int) < 10 := by omega
      have k5 : ((f : Int) != 5) = true := by simpa using i5
      have k7 : ((f : Int) != 7) = true := by simpa using i7
      rw [if_pos ⟨e5, e7⟩]
      clear hc e5 e7
      go_enter Tryz.func74, Tryz.ntmps74
      go_wp2
      go_ret
      exact ⟨rfl, rfl⟩
end Go.Proofs.YtgklhjnojmpmlaaGreatDoor.Frm

namespace Go.Proofs.YtgklhjnojmpmlaaGreatDoor.Frm
open Go.RowKit Gf8 Aes By8 Cel
/- A Feed's goOn. -/

theorem fC_sums (s : FSt) (a b : Nat) : ((fC s).toList.take 323 ++ [Value.int .u32 (a : Int), Value.int .u32 (b : Int)] ++ (fC s).toList.drop 325).toArray = fC { s with sa := a, sb := b } := by
  have l1 : (List.take 323 (fC s).toList).length = 323 := by rw [List.length_take, Array.length_toList, fC_size]; omega
  have e9 := fT_len s
  refine fC_ext ?_ ?_ ?_ ?_
  · have l2 : (fC s).toList.length = 330 := by rw [Array.length_toList, fC_size]
    have l3 : (List.drop 325 (fC s).toList).length = 5 := by rw [List.length_drop, l2]
    have l4 : [Value.int .u32 (a : Int), Value.int .u32 (b : Int)].length = 2 := rfl
    rw [List.size_toArray, List.length_append, List.length_append, l1, l3, l4]
  · rw [List.getElem?_toArray, List.append_assoc, List.getElem?_append_left (by omega), List.getElem?_take, if_pos (by omega), Array.getElem?_toList, fC_0]
  · intro i hi
    rw [List.getElem?_toArray, List.append_assoc, List.getElem?_append_left (by omega), List.getElem?_take, if_pos (by omega), Array.getElem?_toList, fC_p s hi]
  · intro i hi
    rw [List.getElem?_toArray, List.append_assoc]
    by_cases h2 : i < 2
    · rw [List.getElem?_append_left (by omega), List.getElem?_take, if_pos (by omega), Array.getElem?_toList, fC_t]
      match i, h2 with
      | 0, _ => rfl
      | 1, _ => rfl
    · rw [List.getElem?_append_right (by omega), l1]
      by_cases h4 : i < 4
      · rw [List.getElem?_append_left (by simp; omega)]
        match i, h2, h4 with
        | 2, _, _ => rfl
        | 3, _, _ => rfl
      · rw [List.getElem?_append_right (by simp; omega), List.getElem?_drop, Array.getElem?_toList, show 325 + (321 + i - 323 - [Value.int .u32 (a : Int), Value.int .u32 (b : Int)].length) = 321 + i by simp; omega, fC_t]
        match i, h4, hi with
        | 4, _, _ => rfl
        | 5, _, _ => rfl
        | 6, _, _ => rfl
        | 7, _, _ => rfl
        | 8, _, _ => rfl
section
variable {o : Oper} {a : Act} {w : World}
theorem execLdSm {x : Operand} {F : Nat} {s : FSt} (ho : o.op = .load 91 x) (hx : a.eval x = .pointer (some ⟨F, 323, none⟩)) (h : FAt F s w) : (execOp a.eval o).run Tryz.prog w = .ok (.value (smV s.sa s.sb)) w :=
  execLoadMid ho hx h.sums Tryz.underlying91 rfl (by kernel_rfl)
set_option maxRecDepth 8000 in
theorem execStSm {x y : Operand} {F : Nat} {s : FSt} {b c : Nat} (ho : o.op = .store 91 x y) (hx : a.eval x = .pointer (some ⟨F, 323, none⟩)) (hy : a.eval y = smV b c) (h : FAt F s w) : (execOp a.eval o).run Tryz.prog w = .ok .skip (w.setRow F (fC { s with sa := b, sb := c })) := by
  have := execStMid (P := Tryz.prog) (t := 93) ho hx hy h.row (by rw [fC_size]; show 323 + 2 ≤ 330; decide) (by kernel_rfl) (by simp [Value.oneCell'])
  rw [← fC_sums s b c]
  exact this
theorem execStI {x y : Operand} {F : Nat} {s : FSt} {v : Nat} (ho : o.op = .store 3 x y) (hx : a.eval x = .pointer (some ⟨F, 322, none⟩)) (hy : a.eval y = .int .i64 (v : Int)) (h : FAt F s w) : (execOp a.eval o).run Tryz.prog w = .ok .skip (w.setRow F (fC { s with pl := v })) :=
  execStV ho hx hy h.row (by rw [fC_size]; decide) (by kernel_rfl) rfl (fC_set (j := 1) (by decide) rfl rfl rfl)
end
/-- What each operation of goOn's first region yields. -/
def goV (F : Nat) (s : FSt) (q : Nat → Nat) (j : Nat) : Value :=
  match j with
  | 0 => .pointer (some ⟨F, 0, none⟩) | 1 => .pointer (some ⟨F, 0, none⟩) | 2 => .pointer (some ⟨F, 0, none⟩) | 3 => .pointer (some ⟨F, 323, none⟩) | 4 => smV s.sa s.sb
  | 5 => .pointer (some ⟨F, 0, none⟩) | 6 => .pointer (some ⟨F, 0, none⟩) | 7 => .pointer (some ⟨F, 1, none⟩) | 8 => .pointer (some ⟨F, 0, none⟩) | 9 => .pointer (some ⟨F, 0, none⟩) | 10 => .pointer (some ⟨F, 321, none⟩)
  | 11 => .int .i64 (s.hv : Int) | 12 => .slice (some ⟨F, 1, none⟩) s.hv 320 | 13 => smV (adl q (s.pl + s.hv)).1 (adl q (s.pl + s.hv)).2 | 14 => .pointer (some ⟨F, 0, none⟩) | 15 => .pointer (some ⟨F, 323, none⟩) | _ => undef
def goW (F : Nat) (s : FSt) (j : Nat) : Value :=
  match j with
  | 0 => .pointer (some ⟨F, 0, none⟩) | 1 => .pointer (some ⟨F, 0, none⟩) | 2 => .pointer (some ⟨F, 322, none⟩) | 3 => .int .i64 (s.pl : Int)
  | 4 => .pointer (some ⟨F, 0, none⟩) | 5 => .pointer (some ⟨F, 0, none⟩) | 6 => .pointer (some ⟨F, 321, none⟩) | 7 => .int .i64 (s.hv : Int) | 8 => .int .i64 ((s.pl + s.hv : Nat) : Int)
  | 9 => .pointer (some ⟨F, 0, none⟩) | 10 => .pointer (some ⟨F, 322, none⟩) | _ => undef
/-- What goOn leaves. -/
def goS (s : FSt) (q : Nat → Nat) (n : Nat) : FSt := { emptyS { s with sa := (adl q (s.pl + s.hv)).1, sb := (adl q (s.pl + s.hv)).2, pl := s.pl + s.hv } with f := nextF s.f n }
set_option maxRecDepth 20000 in
set_option maxHeartbeats 1000000 in
theorem goOn_any (F : Nat) (s : FSt) (q : Nat → Nat) (n : Nat) (V : World) (h : FAt F s V) (hf : s.f < 10) (h0 : 0 < s.hv) (hh : s.hv ≤ 320) (hpl : s.pl ≤ 140737488351232) (hc : s.cl = n ∨ (s.f ≠ 5 ∧ s.f ≠ 7)) (hsa : s.sa = (adl q s.pl).1) (hsb : s.sb = (adl q s.pl).2) (hp : ∀ j, j < s.hv → s.part j = q (s.pl + j)) (hb : ∀ j, j < s.hv → q (s.pl + j) < 256) :
    Calls Tryz.prog 52 #[.pointer (some ⟨F, 0, none⟩)] V fun e w' => e = .returned (.tuple #[]) ∧ FTo F (goS s q n) V w' := by
  have HB : Hid (FAt F s V ∧ 0 < s.hv ∧ s.hv ≤ 320 ∧ s.pl ≤ 140737488351232 ∧ s.f < 10 ∧ (s.cl = n ∨ (s.f ≠ 5 ∧ s.f ≠ 7))) := ⟨h, h0, hh, hpl, hf, hc⟩
  have HQ : Hid (s.sa = (adl q s.pl).1 ∧ s.sb = (adl q s.pl).2 ∧ (∀ j, j < s.hv → s.part j = q (s.pl + j)) ∧ ∀ j, j < s.hv → q (s.pl + j) < 256) := ⟨hsa, hsb, hp, hb⟩
  clear h h0 hh hpl hf hc hsa hsb hp hb
  go_enter Tryz.func52, Tryz.ntmps52
  go_wp2_with fail
  refine wp_region_det 36 [(0, 2), (1, 3), (2, 4), (3, 5), (4, 6), (5, 7), (6, 8), (7, 9), (8, 10), (9, 11), (10, 12), (11, 13), (12, 14), (13, 15), (14, 16), (15, 17)] (goV F s q) (fun l W => ∃ x y, FTo F { s with sa := x, sb := y } V W ∧ (l 16 = false → x = s.sa ∧ y = s.sb) ∧ (l 16 = true → x = (adl q (s.pl + s.hv)).1 ∧ y = (adl q (s.pl + s.hv)).2)) (by kernel_rfl) (by kernel_rfl) rfl (by kernel_rfl) (by decide) (by decide) ?_ ?_ ?_
  · exact ⟨s.sa, s.sb, (FTo.refl HB.out.1).on ((Below.refl _ _).drew), fun _ => ⟨rfl, rfl⟩, fun q => by cases q⟩
  · intro j hj l a W hl hf hdep hl2 hcl _ hT
    obtain ⟨_, h0, hh, hpl, _, _⟩ := HB.out
    obtain ⟨hsa, hsb, hp, hb⟩ := HQ.out
    have hT' := hT
    obtain ⟨x, y, ft, q1, q2⟩ := hT'
    match j, hj with
    | 0, _ => exact stepV rfl rfl (execMvB rfl (hf 0 (by decide))) ⟨⟨_, rfl, rfl⟩, hT⟩
    | 1, _ => exact stepV rfl rfl (execMvB rfl (hf 0 (by decide))) ⟨⟨_, rfl, rfl⟩, hT⟩
    | 2, _ => exact stepV rfl rfl (execNil rfl (hdep _ rfl 1 rfl _ rfl _ rfl)) ⟨⟨_, rfl, rfl⟩, hT⟩
    | 3, _ => exact stepV rfl rfl (execFld (k := 4) (by decide) rfl (hdep _ rfl 2 rfl _ rfl _ rfl)) ⟨⟨_, rfl, rfl⟩, hT⟩
    | 4, _ =>
      have n16 : l 16 = false := by
        cases h : l 16 with
        | false => rfl
        | true =>
          have := hcl 13 _ rfl (hcl 16 _ rfl h 13 rfl) 4 rfl
          rw [hl] at this
          cases this
      obtain ⟨rfl, rfl⟩ := q1 n16
      exact stepV rfl rfl (execLdSm rfl (hdep _ rfl 3 rfl _ rfl _ rfl) ft.at') ⟨⟨_, rfl, rfl⟩, hT⟩
    | 5, _ => exact stepV rfl rfl (execMvB rfl (hf 0 (by decide))) ⟨⟨_, rfl, rfl⟩, hT⟩
    | 6, _ => exact stepV rfl rfl (execNil rfl (hdep _ rfl 5 rfl _ rfl _ rfl)) ⟨⟨_, rfl, rfl⟩, hT⟩
    | 7, _ => exact stepV rfl rfl (execFld (k := 1) (by decide) rfl (hdep _ rfl 6 rfl _ rfl _ rfl)) ⟨⟨_, rfl, rfl⟩, hT⟩
    | 8, _ => exact stepV rfl rfl (execMvB rfl (hf 0 (by decide))) ⟨⟨_, rfl, rfl⟩, hT⟩
    | 9, _ => exact stepV rfl rfl (execNil rfl (hdep _ rfl 8 rfl _ rfl _ rfl)) ⟨⟨_, rfl, rfl⟩, hT⟩
    | 10, _ => exact stepV rfl rfl (execFld (k := 2) (by decide) rfl (hdep _ rfl 9 rfl _ rfl _ rfl)) ⟨⟨_, rfl, rfl⟩, hT⟩
    | 11, _ => exact stepV rfl rfl (execLdI rfl (hdep _ rfl 10 rfl _ rfl _ rfl) ft.at'.hv) ⟨⟨_, rfl, rfl⟩, hT⟩
    | 12, _ => exact stepV rfl rfl (execSlH rfl (hdep _ rfl 7 rfl _ rfl _ rfl) (hdep _ rfl 11 rfl _ rfl _ rfl) (slicePartH F s.hv hh W)) ⟨⟨_, rfl, rfl⟩, hT⟩
    | 13, _ =>
      have sl : SliceN W (.slice (some ⟨F, 1, none⟩) s.hv 320) s.hv fun j => q (s.pl + j) := sliceN_cg (ft.at'.slice hh fun j hj => by show s.part j < 256; rw [hp j hj]; exact hb j hj) hp
      have ov := over_any q s.pl s.hv _ W sl (by omega)
      rw [← hsa, ← hsb] at ov
      exact stepC rfl rfl (execCall2 Tryz.func73 (by kernel_rfl) (by kernel_rfl) rfl (hdep _ rfl 4 rfl _ rfl _ rfl) (hdep _ rfl 12 rfl _ rfl _ rfl)) ov fun e w' h => ⟨_, h.1, ⟨_, rfl, rfl⟩, ⟨x, y, ft.on h.2, q1, q2⟩⟩
    | 14, _ => exact stepV rfl rfl (execNil rfl (hdep _ rfl 0 rfl _ rfl _ rfl)) ⟨⟨_, rfl, rfl⟩, hT⟩
    | 15, _ => exact stepV rfl rfl (execFld (k := 4) (by decide) rfl (hdep _ rfl 14 rfl _ rfl _ rfl)) ⟨⟨_, rfl, rfl⟩, hT⟩
    | 16, _ => exact stepS rfl rfl (execStSm rfl (hdep _ rfl 15 rfl _ rfl _ rfl) (hdep _ rfl 13 rfl _ rfl _ rfl) ft.at') ⟨⟨_, rfl, rfl⟩, ⟨_, _, ft.set _, (fun q => by cases q), fun _ => ⟨rfl, rfl⟩⟩⟩
    | n + 17, h => exact absurd h (by simp)
  · intro l W hall hT
    obtain ⟨x, y, ft, _, q2⟩ := hT
    obtain ⟨rfl, rfl⟩ := q2 (hall 16 (by simp))
    obtain ⟨s1, e1⟩ : ∃ s1 : FSt, s1 = { s with sa := (adl q (s.pl + s.hv)).1, sb := (adl q (s.pl + s.hv)).2 } := ⟨_, rfl⟩
    have E : Hid (s1.pl = s.pl ∧ s1.hv = s.hv ∧ s1.f = s.f ∧ s1.cl = s.cl ∧ goS s q n = { emptyS { s1 with pl := s.pl + s.hv } with f := nextF s.f n }) := by rw [e1]; exact ⟨rfl, rfl, rfl, rfl, rfl⟩
    rw [← e1] at ft
    have FT : Hid (FTo F s1 V W) := ft
    clear hall ft q2 HQ e1
    simp only [putP, goV, Act.put, List.setIfInBounds_toArray, List.set_cons_succ, List.set_cons_zero]
    go_wp2_with fail
    refine wp_region_det 36 [(0, 18), (1, 19), (2, 20), (3, 21), (4, 22), (5, 23), (6, 24), (7, 25), (8, 26), (9, 27), (10, 28)] (goW F s) (fun l W => ∃ x, FTo F { s1 with pl := x } V W ∧ (l 11 = false → x = s.pl) ∧ (l 11 = true → x = s.pl + s.hv)) (by kernel_rfl) (by kernel_rfl) rfl (by kernel_rfl) (by decide) (by decide) ?_ ?_ ?_
    · refine ⟨s.pl, ?_, fun _ => rfl, fun q => by cases q⟩
      have := FT.out.on ((Below.refl _ _).drew)
      rw [← E.out.1]
      exact this
    · intro j hj l a W hl hf hdep hl2 hcl _ hT
      obtain ⟨_, h0, hh, hpl, _, _⟩ := HB.out
      have hT' := hT
      obtain ⟨x, ft, q1, q2⟩ := hT'
      have eh := E.out.2.1
      match j, hj with
      | 0, _ => exact stepV rfl rfl (execMvB rfl (hf 0 (by decide))) ⟨⟨_, rfl, rfl⟩, hT⟩
      | 1, _ => exact stepV rfl rfl (execNil rfl (hdep _ rfl 0 rfl _ rfl _ rfl)) ⟨⟨_, rfl, rfl⟩, hT⟩
      | 2, _ => exact stepV rfl rfl (execFld (k := 3) (by decide) rfl (hdep _ rfl 1 rfl _ rfl _ rfl)) ⟨⟨_, rfl, rfl⟩, hT⟩
      | 3, _ =>
        have n16 : l 11 = false := by
          cases h : l 11 with
          | false => rfl
          | true =>
            have := hcl 8 _ rfl (hcl 11 _ rfl h 8 rfl) 3 rfl
            rw [hl] at this
            cases this
        have e := q1 n16
        subst e
        exact stepV rfl rfl (execLdI rfl (hdep _ rfl 2 rfl _ rfl _ rfl) ft.at'.pl) ⟨⟨_, rfl, rfl⟩, hT⟩
      | 4, _ => exact stepV rfl rfl (execMvB rfl (hf 0 (by decide))) ⟨⟨_, rfl, rfl⟩, hT⟩
      | 5, _ => exact stepV rfl rfl (execNil rfl (hdep _ rfl 4 rfl _ rfl _ rfl)) ⟨⟨_, rfl, rfl⟩, hT⟩
      | 6, _ => exact stepV rfl rfl (execFld (k := 2) (by decide) rfl (hdep _ rfl 5 rfl _ rfl _ rfl)) ⟨⟨_, rfl, rfl⟩, hT⟩
      | 7, _ =>
        have c := ft.at'.hv
        have c' : W.cell? ⟨F, 321, none⟩ = some (.int .i64 (s.hv : Int)) := by rw [← eh]; exact c
        exact stepV rfl rfl (execLdI rfl (hdep _ rfl 6 rfl _ rfl _ rfl) c') ⟨⟨_, rfl, rfl⟩, hT⟩
      | 8, _ => exact stepV rfl rfl (execAddI rfl (hdep _ rfl 3 rfl _ rfl _ rfl) (hdep _ rfl 7 rfl _ rfl _ rfl) (by omega)) ⟨⟨_, rfl, rfl⟩, hT⟩
      | 9, _ => exact stepV rfl rfl (execNil rfl (hdep _ rfl 0 rfl _ rfl _ rfl)) ⟨⟨_, rfl, rfl⟩, hT⟩
      | 10, _ => exact stepV rfl rfl (execFld (k := 3) (by decide) rfl (hdep _ rfl 9 rfl _ rfl _ rfl)) ⟨⟨_, rfl, rfl⟩, hT⟩
      | 11, _ => exact stepS rfl rfl (execStI rfl (hdep _ rfl 10 rfl _ rfl _ rfl) (hdep _ rfl 8 rfl _ rfl _ rfl) ft.at') ⟨⟨_, rfl, rfl⟩, ⟨_, ft.set _, (fun q => by cases q), fun _ => rfl⟩⟩
      | n + 12, h => exact absurd h (by simp)
    · intro l W' hall hT
      obtain ⟨x, ft, _, q2⟩ := hT
      have e := q2 (hall 11 (by simp))
      subst e
      clear FT hall q2
      have F2 : Hid (FTo F { s1 with pl := s.pl + s.hv } V W') := ft
      clear ft
      simp only [putP, goW, Act.put, List.setIfInBounds_toArray, List.set_cons_succ, List.set_cons_zero]
      go_wp2_with (first
        | (go_at_call 72; refine (empty_any F _ _ F2.out.at' (by show 0 < s1.hv; rw [E.out.2.1]; exact HB.out.2.1) (by show s1.hv ≤ 320; rw [E.out.2.1]; exact HB.out.2.2.1)).mono ?_; rintro e w1 ⟨rfl, f1⟩; have F3 : Hid (FTo F (emptyS { s1 with pl := s.pl + s.hv }) V w1) := F2.out.trans f1; clear f1)
        | (go_at_call 74; refine (next_any F _ _ F3.out.at' (by show s1.f < 10; rw [E.out.2.2.1]; exact HB.out.2.2.2.2.1) n (by show s1.cl = n ∨ (s1.f ≠ 5 ∧ s1.f ≠ 7); rw [E.out.2.2.1, E.out.2.2.2.1]; exact HB.out.2.2.2.2.2)).mono ?_; rintro e w2 ⟨rfl, rfl⟩)
        | (refine atStore 87 (.tmp 35) (.tmp 33) rfl ?_; go_must (refine wpList_exS rfl (execStV (c' := fC { emptyS { s1 with pl := s.pl + s.hv } with f := nextF s1.f n }) rfl rfl rfl F3.out.at'.row (by rw [fC_size]; decide) (by kernel_rfl) rfl (fC_setF _ _)) ?_)))
      go_end0
      refine ⟨rfl, ?_⟩
      rw [E.out.2.2.2.2, ← E.out.2.2.1]
      exact F3.out.set _
end Go.Proofs.YtgklhjnojmpmlaaGreatDoor.Frm
