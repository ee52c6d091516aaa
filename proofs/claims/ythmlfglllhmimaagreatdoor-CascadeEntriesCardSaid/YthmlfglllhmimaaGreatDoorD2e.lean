import Derived.Test.YthmlfglllhmimaaGreatDoorD2c
namespace Go.Proofs.YthmlfglllhmimaaGreatDoor.Frm
open Go.RowKit Gf8 Aes By8 Cel
/- A Feed's small functions that write. -/

section
variable {o : Oper} {a : Act} {w : World}
/-- part[:n]. -/
theorem slicePartH (F n : Nat) (h2 : n ≤ 320) (W : World) : (Instr.sliceAt 93 (.pointer (some ⟨F, 1, none⟩)) none (some (.int .i64 (n : Int))) none).run Tryz.prog W = .ok (.slice (some ⟨F, 1, none⟩) n 320) W := by
  have a2 : (n : Int) ≤ 320 := by omega
  simp [go_sem, a2]
end
/-- What each operation of empty's first region yields. -/
def emV (F : Nat) (s : FSt) (j : Nat) : Value :=
  match j with
  | 0 => .pointer (some ⟨F, 0, none⟩) | 1 => .pointer (some ⟨F, 0, none⟩) | 2 => .pointer (some ⟨F, 1, none⟩)
  | 3 => .pointer (some ⟨F, 0, none⟩) | 4 => .pointer (some ⟨F, 0, none⟩) | 5 => .pointer (some ⟨F, 321, none⟩) | 6 => .int .i64 (s.hv : Int)
  | 7 => .slice (some ⟨F, 1, none⟩) s.hv 320 | _ => undef
def emptyS (s : FSt) : FSt := { s with part := spl s.part 0 s.hv fun _ => 0, hv := 0 }
set_option maxRecDepth 20000 in
set_option maxHeartbeats 1000000 in
theorem empty_any (F : Nat) (s : FSt) (V : World) (h : FAt F s V) (h0 : 0 < s.hv) (hh : s.hv ≤ 320) :
    Calls Tryz.prog 68 #[.pointer (some ⟨F, 0, none⟩)] V fun e w' => e = .returned (.tuple #[]) ∧ FTo F (emptyS s) V w' := by
  have HB : Hid (FAt F s V ∧ 0 < s.hv ∧ s.hv ≤ 320) := ⟨h, h0, hh⟩
  clear h h0 hh
  go_enter Tryz.func68, Tryz.ntmps68
  go_wp2_with fail
  refine wp_region_det 13 [(0, 2), (1, 3), (2, 4), (3, 5), (4, 6), (5, 7), (6, 8), (7, 9)] (emV F s) (fun l W => ∃ q, FTo F { s with part := q } V W ∧ (l 8 = false → q = s.part) ∧ (l 8 = true → q = spl s.part 0 s.hv fun _ => 0)) (by kernel_rfl) (by kernel_rfl) rfl (by kernel_rfl) (by decide) (by decide) ?_ ?_ ?_
  · exact ⟨s.part, (FTo.refl HB.out.1).on ((Below.refl _ _).drew), fun _ => rfl, fun q => by cases q⟩
  · intro j hj l a W hl hf hdep hl2 hcl _ hT
    obtain ⟨_, h0, hh⟩ := HB.out
    have hT' := hT
    obtain ⟨q, ft, q1, q2⟩ := hT'
    match j, hj with
    | 0, _ => exact stepV rfl rfl (execMvB rfl (hf 0 (by decide))) ⟨⟨_, rfl, rfl⟩, hT⟩
    | 1, _ => exact stepV rfl rfl (execNil rfl (hdep _ rfl 0 rfl _ rfl _ rfl)) ⟨⟨_, rfl, rfl⟩, hT⟩
    | 2, _ => exact stepV rfl rfl (execFld (k := 1) (by decide) rfl (hdep _ rfl 1 rfl _ rfl _ rfl)) ⟨⟨_, rfl, rfl⟩, hT⟩
    | 3, _ => exact stepV rfl rfl (execMvB rfl (hf 0 (by decide))) ⟨⟨_, rfl, rfl⟩, hT⟩
    | 4, _ => exact stepV rfl rfl (execNil rfl (hdep _ rfl 3 rfl _ rfl _ rfl)) ⟨⟨_, rfl, rfl⟩, hT⟩
    | 5, _ => exact stepV rfl rfl (execFld (k := 2) (by decide) rfl (hdep _ rfl 4 rfl _ rfl _ rfl)) ⟨⟨_, rfl, rfl⟩, hT⟩
    | 6, _ => exact stepV rfl rfl (execLdI rfl (hdep _ rfl 5 rfl _ rfl _ rfl) ft.at'.hv) ⟨⟨_, rfl, rfl⟩, hT⟩
    | 7, _ => exact stepV rfl rfl (execSlH rfl (hdep _ rfl 2 rfl _ rfl _ rfl) (hdep _ rfl 6 rfl _ rfl _ rfl) (slicePartH F s.hv hh W)) ⟨⟨_, rfl, rfl⟩, hT⟩
    | 8, _ =>
      have e := q1 hl
      subst e
      exact stepV rfl rfl (execClearP rfl (hdep _ rfl 7 rfl _ rfl _ rfl) ft.at' h0 hh) ⟨⟨_, rfl, rfl⟩, ⟨_, ft.set _, (fun q => by cases q), fun _ => rfl⟩⟩
    | n + 9, h => exact absurd h (by simp)
  · intro l W hall hT
    obtain ⟨q, ft, _, q2⟩ := hT
    have e := q2 (hall 8 (by simp))
    subst e
    have FT : Hid (FTo F { s with part := spl s.part 0 s.hv fun _ => 0 } V W) := ft
    clear hall ft q2 HB
    simp only [putP, emV, Act.put, List.setIfInBounds_toArray, List.set_cons_succ, List.set_cons_zero]
    go_wp2_with (first
      | (refine atStore 3 (.tmp 12) (.const (.int .i64 0)) rfl ?_; go_must (refine wpList_exS rfl (execStV (c' := fC (emptyS s)) rfl rfl rfl FT.out.at'.row (by rw [fC_size]; decide) (by kernel_rfl) rfl (fC_set (j := 0) (by decide) rfl rfl rfl)) ?_)))
    go_end0
    exact ⟨rfl, FT.out.set _⟩
set_option maxRecDepth 20000 in
set_option maxHeartbeats 1000000 in
theorem refuse_any (F : Nat) (s : FSt) (V : World) (h : FAt F s V) (g : Rules V) (hf : s.f < 10) (h0 : 0 < s.hv) (hh : s.hv ≤ 320) :
    Calls Tryz.prog 55 #[.pointer (some ⟨F, 0, none⟩)] V fun e w' => e = .returned (.tuple #[]) ∧ FTo F (emptyS { s with ft := flt s.f }) V w' := by
  have HB : Hid (FAt F s V ∧ 0 < s.hv ∧ s.hv ≤ 320) := ⟨h, h0, hh⟩
  have c0 := h.c0
  have c2 := g.ft _ hf
  have FT : Hid (FTo F { s with ft := flt s.f } V (V.setRow F (fC { s with ft := flt s.f }))) := (FTo.refl h).set _
  have i1 : (s.f : Int) < 10 := by omega
  clear h h0 hh g hf
  go_enter Tryz.func55, Tryz.ntmps55
  go_wp2_with (first
    | (refine atStore 29 (.tmp 11) (.tmp 9) rfl ?_; go_must (refine wpList_exS rfl (execStV (c' := fC { s with ft := flt s.f }) rfl rfl rfl HB.out.1.row (by rw [fC_size]; decide) (by kernel_rfl) rfl (fC_set (j := 8) (by decide) rfl rfl rfl)) ?_))
    | (go_at_call 68; refine (empty_any F _ _ FT.out.at' HB.out.2.1 HB.out.2.2).mono ?_; rintro e w1 ⟨rfl, f1⟩))
  go_end0
  exact ⟨rfl, FT.out.trans f1⟩
/-- What note leaves. -/
def noteS (s : FSt) (n : Nat) : FSt := if s.f = 2 then { s with lf := n } else if s.f = 3 then { s with cl := n } else if s.f = 4 then { s with rd := n } else if s.f = 5 then { s with ep := n } else s
set_option maxRecDepth 20000 in
set_option maxHeartbeats 1000000 in
theorem note_any (F : Nat) (s : FSt) (V : World) (h : FAt F s V) (hf : s.f < 10) (hn : s.hv ≤ 8) (hb : ∀ j, j < s.hv → s.part j < 256) (hl : nb s.part s.hv < 9223372036854775808 ∨ s.f < 2 ∨ 5 < s.f) :
    Calls Tryz.prog 56 #[.pointer (some ⟨F, 0, none⟩)] V fun e w' => e = .returned (.tuple #[]) ∧ FTo F (noteS s (nb s.part s.hv)) V w' := by
  have HB : Hid (FAt F s V ∧ s.hv ≤ 8 ∧ (∀ j, j < s.hv → s.part j < 256)) := ⟨h, hn, hb⟩
  obtain ⟨N, hN⟩ : ∃ N, nb s.part s.hv = N := ⟨_, rfl⟩
  rw [hN] at hl ⊢
  have HN : Hid (nb s.part s.hv = N) := hN
  have HF : Hid (s.f < 10) := hf
  clear h hn hb hN
  by_cases e2 : s.f = 2
  · skip
    have i1 : (s.f : Int) = 2 := by omega
    have i2 : (N : Int) < 9223372036854775808 := by omega
    unfold noteS
    rw [if_pos (by omega)]
    clear hf hl e2
    go_enter Tryz.func56, Tryz.ntmps56
    go_wp2_with (first
      | (go_at_call 67; refine (fnumber_any F s _ HB.out.1 HB.out.2.1 HB.out.2.2).mono ?_; rintro e w1 ⟨rfl, b1⟩; rw [HN.out]; have f1 := (FTo.refl HB.out.1).on b1; have c0 := f1.at'.c0; rw [i1] at c0; have F1 : Hid (_) := f1; clear f1 b1)
      | (refine atStore 3 (.tmp 16) (.tmp 13) rfl ?_; go_must (refine wpList_exS rfl (execStV (c' := fC { s with lf := (N : Int) }) rfl rfl rfl F1.out.at'.row (by rw [fC_size]; decide) (by kernel_rfl) rfl (fC_set (j := 6) (by decide) rfl rfl rfl)) ?_)))
    go_end0
    exact ⟨rfl, F1.out.set _⟩
  by_cases e3 : s.f = 3
  · skip
    have i1 : (s.f : Int) = 3 := by omega
    have i2 : (N : Int) < 9223372036854775808 := by omega
    unfold noteS
    rw [if_neg (by omega), if_pos (by omega)]
    clear hf hl e2 e3
    go_enter Tryz.func56, Tryz.ntmps56
    go_wp2_with (first
      | (go_at_call 67; refine (fnumber_any F s _ HB.out.1 HB.out.2.1 HB.out.2.2).mono ?_; rintro e w1 ⟨rfl, b1⟩; rw [HN.out]; have f1 := (FTo.refl HB.out.1).on b1; have c0 := f1.at'.c0; rw [i1] at c0; have F1 : Hid (_) := f1; clear f1 b1)
      | (refine atStore 3 (.tmp 23) (.tmp 21) rfl ?_; go_must (refine wpList_exS rfl (execStV (c' := fC { s with cl := (N : Int) }) rfl rfl rfl F1.out.at'.row (by rw [fC_size]; decide) (by kernel_rfl) rfl (fC_set (j := 7) (by decide) rfl rfl rfl)) ?_)))
    go_end0
    exact ⟨rfl, F1.out.set _⟩
  by_cases e4 : s.f = 4
  · skip
    have i1 : (s.f : Int) = 4 := by omega
    have i2 : (N : Int) < 9223372036854775808 := by omega
    unfold noteS
    rw [if_neg (by omega), if_neg (by omega), if_pos (by omega)]
    clear hf hl e2 e3 e4
    go_enter Tryz.func56, Tryz.ntmps56
    go_wp2_with (first
      | (go_at_call 67; refine (fnumber_any F s _ HB.out.1 HB.out.2.1 HB.out.2.2).mono ?_; rintro e w1 ⟨rfl, b1⟩; rw [HN.out]; have f1 := (FTo.refl HB.out.1).on b1; have c0 := f1.at'.c0; rw [i1] at c0; have F1 : Hid (_) := f1; clear f1 b1)
      | (refine atStore 2 (.tmp 31) (.tmp 28) rfl ?_; go_must (refine wpList_exS rfl (execStV (c' := fC { s with rd := (N : Int) }) rfl rfl rfl F1.out.at'.row (by rw [fC_size]; decide) (by kernel_rfl) rfl (fC_set (j := 4) (by decide) rfl rfl rfl)) ?_)))
    go_end0
    exact ⟨rfl, F1.out.set _⟩
  by_cases e5 : s.f = 5
  · skip
    have i1 : (s.f : Int) = 5 := by omega
    have i2 : (N : Int) < 9223372036854775808 := by omega
    unfold noteS
    rw [if_neg (by omega), if_neg (by omega), if_neg (by omega), if_pos (by omega)]
    clear hf hl e2 e3 e4 e5
    go_enter Tryz.func56, Tryz.ntmps56
    go_wp2_with (first
      | (go_at_call 67; refine (fnumber_any F s _ HB.out.1 HB.out.2.1 HB.out.2.2).mono ?_; rintro e w1 ⟨rfl, b1⟩; rw [HN.out]; have f1 := (FTo.refl HB.out.1).on b1; have c0 := f1.at'.c0; rw [i1] at c0; have F1 : Hid (_) := f1; clear f1 b1)
      | (refine atStore 2 (.tmp 39) (.tmp 36) rfl ?_; go_must (refine wpList_exS rfl (execStV (c' := fC { s with ep := (N : Int) }) rfl rfl rfl F1.out.at'.row (by rw [fC_size]; decide) (by kernel_rfl) rfl (fC_set (j := 5) (by decide) rfl rfl rfl)) ?_)))
    go_end0
    exact ⟨rfl, F1.out.set _⟩
  unfold noteS
  rw [if_neg e2, if_neg e3, if_neg e4, if_neg e5]
  have i2 : ¬ (s.f : Int) = 2 := by omega
  have i3 : ¬ (s.f : Int) = 3 := by omega
  have i4 : ¬ (s.f : Int) = 4 := by omega
  have i5 : ¬ (s.f : Int) = 5 := by omega
  clear hf hl e2 e3 e4 e5
  go_enter Tryz.func56, Tryz.ntmps56
  go_wp2_with (first
    | (go_at_call 67; refine (fnumber_any F s _ HB.out.1 HB.out.2.1 HB.out.2.2).mono ?_; rintro e w1 ⟨rfl, b1⟩; rw [HN.out]; have f1 := (FTo.refl HB.out.1).on b1; have c0 := f1.at'.c0; have F1 : Hid (_) := f1; clear f1 b1))
  go_end0
  exact ⟨rfl, F1.out⟩
end Go.Proofs.YthmlfglllhmimaaGreatDoor.Frm

namespace Go.Proofs.YthmlfglllhmimaaGreatDoor.Frm
open Go.RowKit Gf8 Aes By8 Cel
/- A Feed's wrong, next, goOn. -/

/-- The sums in the Feed, as they lie there. -/
theorem FAt.sums {F : Nat} {s : FSt} {W : World} (h : FAt F s W) : W.rangeAt F 323 [.int .u32 (s.sa : Int), .int .u32 (s.sb : Int)] := by
  intro j v hv
  match j, hv with
  | 0, hv => exact h.sa.trans hv
  | 1, hv => exact h.sb.trans hv
/-- Is the field wrong? -/
def wrongB (s : FSt) : Bool := if s.f = 8 then decide (nb s.part s.hv ≠ s.sb * 65536 + s.sa) else decide (nb s.part s.hv < low s.f ∨ high s.f < nb s.part s.hv)
set_option maxRecDepth 20000 in
set_option maxHeartbeats 1000000 in
theorem wrong_p (F : Nat) (s : FSt) (V : World) (h : FAt F s V) (g : Rules V) (hf : s.f < 10) (hn : s.hv ≤ 8) (hb : ∀ j, j < s.hv → s.part j < 256) (hsa : s.sa < 65521) (hsb : s.sb < 65521) :
    Calls Tryz.prog 54 #[.pointer (some ⟨F, 0, none⟩)] V fun e w' => e = .returned (.bool (wrongB s)) ∧ Below V.heap.size V w' := by
  have HB : Hid (FAt F s V ∧ s.hv ≤ 8 ∧ (∀ j, j < s.hv → s.part j < 256) ∧ s.sa < 65521 ∧ s.sb < 65521) := ⟨h, hn, hb, hsa, hsb⟩
  have HR : Hid (Rules V ∧ 0 < V.heap.size ∧ s.f < 10) := ⟨g, g.sz, hf⟩
  obtain ⟨N, hN⟩ : ∃ N, nb s.part s.hv = N := ⟨_, rfl⟩
  have HN : Hid (nb s.part s.hv = N) := hN
  unfold wrongB
  rw [hN]
  clear h hn hb hN hsa hsb g
  by_cases e8 : s.f = 8
  · have i1 : (s.f : Int) = 8 := by omega
    rw [if_pos e8]
    clear e8 hf
    go_enter Tryz.func54, Tryz.ntmps54
    go_wp2_with (first
      | (go_at_call 67; refine (fnumber_any F s _ HB.out.1 HB.out.2.1 HB.out.2.2.1).mono ?_; rintro e w1 ⟨rfl, b1⟩; rw [HN.out]; have f1 := HB.out.1.on b1; have c0 := f1.c0; rw [i1] at c0; have F1 : Hid (FAt F s w1 ∧ Below V.heap.size V w1) := ⟨f1, b1⟩; clear f1 b1)
      | (refine atLoad 96 (.tmp 14) rfl ?_; go_must (refine wpList_ex rfl (execLoadMid rfl rfl F1.out.1.sums Tryz.underlying96 rfl (by kernel_rfl)) ?_; simp only [Act.put, List.setIfInBounds_toArray, List.set_cons_succ, List.set_cons_zero]))
      | (go_at_call 46; refine (snumber_any s.sa s.sb _ HB.out.2.2.2.1 HB.out.2.2.2.2).mono ?_; rintro e w2 ⟨rfl, b2⟩))
    go_ret
    refine ⟨?_, F1.out.2.trans (b2.mono F1.out.2.size)⟩
    show Ending.returned (Value.bool ((N : Int) != (s.sb : Int) * 65536 + s.sa)) = _
    congr 2
    rw [Bool.eq_iff_iff]
    simp
    omega
  · rw [if_neg e8]
    have i1 : ¬ (s.f : Int) = 8 := by omega
    have i0 : (s.f : Int) < 10 := by omega
    clear hf e8
    obtain ⟨f, ef⟩ : ∃ f, s.f = f := ⟨_, rfl⟩
    rw [ef] at i1 i0 HR ⊢
    by_cases h1 : N < low f
    · have j1 : (N : Int) < low f := by omega
      rw [decide_eq_true (Or.inl h1)]
      clear h1
      go_enter Tryz.func54, Tryz.ntmps54
      go_wp2_with (first
        | (go_at_call 67; refine (fnumber_any F s _ HB.out.1 HB.out.2.1 HB.out.2.2.1).mono ?_; rintro e w1 ⟨rfl, b1⟩; rw [HN.out]; have f1 := HB.out.1.on b1; have c0 := f1.c0; rw [ef] at c0; have g1 := HR.out.1.on b1 HR.out.2.1; have c1 := g1.lo f HR.out.2.2; have F1 : Hid (FAt F s w1 ∧ Below V.heap.size V w1) := ⟨f1, b1⟩; clear f1 b1 g1))
      go_ret
      exact ⟨rfl, F1.out.2⟩
    · have j1 : ¬ (N : Int) < low f := by omega
      by_cases h2 : high f < N
      · have j2 : (N : Int) > high f := by omega
        rw [decide_eq_true (Or.inr h2)]
        clear h1 h2
        go_enter Tryz.func54, Tryz.ntmps54
        go_wp2_with (first
          | (go_at_call 67; refine (fnumber_any F s _ HB.out.1 HB.out.2.1 HB.out.2.2.1).mono ?_; rintro e w1 ⟨rfl, b1⟩; rw [HN.out]; have f1 := HB.out.1.on b1; have c0 := f1.c0; rw [ef] at c0; have g1 := HR.out.1.on b1 HR.out.2.1; have c1 := g1.lo f HR.out.2.2; have c2 := g1.hi f HR.out.2.2; have F1 : Hid (FAt F s w1 ∧ Below V.heap.size V w1) := ⟨f1, b1⟩; clear f1 b1 g1))
        go_ret
        exact ⟨rfl, F1.out.2⟩
      · have j2 : ¬ (N : Int) > high f := by omega
        rw [decide_eq_false (fun q => q.elim h1 h2)]
        have H12 : Hid (¬ N < low f ∧ ¬ high f < N) := ⟨h1, h2⟩
        clear h1 h2
        go_enter Tryz.func54, Tryz.ntmps54
        go_wp2_with (first
          | (go_at_call 67; refine (fnumber_any F s _ HB.out.1 HB.out.2.1 HB.out.2.2.1).mono ?_; rintro e w1 ⟨rfl, b1⟩; rw [HN.out]; have f1 := HB.out.1.on b1; have c0 := f1.c0; rw [ef] at c0; have g1 := HR.out.1.on b1 HR.out.2.1; have c1 := g1.lo f HR.out.2.2; have c2 := g1.hi f HR.out.2.2; have F1 : Hid (FAt F s w1 ∧ Below V.heap.size V w1) := ⟨f1, b1⟩; clear f1 b1 g1))
        go_ret
        refine ⟨?_, F1.out.2⟩
        show Ending.returned (Value.bool (decide (N < low f) || decide (high f < N))) = _
        rw [decide_eq_false H12.out.1, decide_eq_false H12.out.2]
        rfl
set_option maxRecDepth 20000 in
set_option maxHeartbeats 1000000 in
theorem next_any (F : Nat) (s : FSt) (V : World) (h : FAt F s V) (hf : s.f < 10) (n : Nat) (hc : s.cl = n ∨ (s.f ≠ 5 ∧ s.f ≠ 7)) :
    Calls Tryz.prog 69 #[.pointer (some ⟨F, 0, none⟩)] V fun e w' => e = .returned (.int .i64 (nextF s.f n : Nat)) ∧ w' = V := by
  have c0 := h.c0
  have c1 := h.cl
  obtain ⟨f, ef⟩ : ∃ f, s.f = f := ⟨_, rfl⟩
  rw [ef] at c0 hc hf ⊢
  unfold nextF
  clear h
  by_cases e5 : f = 5
  · have i5 : (f : Int) = 5 := by omega
    rw [if_neg (by omega)]
    have ec : s.cl = n := hc.resolve_right (by omega)
    rw [ec] at c1
    rw [i5] at c0
    clear hc ec
    by_cases h0 : 0 < n
    · have i0 : (n : Int) > 0 := by omega
      rw [if_pos h0]
      clear h0
      go_enter Tryz.func69, Tryz.ntmps69
      go_wp2
      go_ret
      exact ⟨rfl, rfl⟩
    · have i0 : ¬ (n : Int) > 0 := by omega
      rw [if_neg h0]
      clear h0
      go_enter Tryz.func69, Tryz.ntmps69
      go_wp2
      go_ret
      exact ⟨rfl, rfl⟩
  · by_cases e7 : f = 7
    · have i7 : (f : Int) = 7 := by omega
      rw [if_neg (by omega)]
      have ec : s.cl = n := hc.resolve_right (by omega)
      rw [ec] at c1
      rw [i7] at c0
      clear hc ec e5
      by_cases h0 : 0 < n
      · have i0 : (n : Int) > 0 := by omega
        rw [if_pos h0]
        clear h0
        go_enter Tryz.func69, Tryz.ntmps69
        go_wp2
        go_ret
        exact ⟨rfl, rfl⟩
      · have i0 : ¬ (n : Int) > 0 := by omega
        rw [if_neg h0]
        clear h0
        go_enter Tryz.func69, Tryz.ntmps69
        go_wp2
        go_ret
        exact ⟨rfl, rfl⟩
    · have i5 : ¬ (f : Int) = 5 := by omega
      have i7 : ¬ (f : Int) = 7 := by omega
      have i8 : (f : Int) < 10 := by omega
      have k5 : ((f : Int) != 5) = true := by simpa using i5
      have k7 : ((f : Int) != 7) = true := by simpa using i7
      rw [if_pos ⟨e5, e7⟩]
      clear hc e5 e7
      go_enter Tryz.func69, Tryz.ntmps69
      go_wp2
      go_ret
      exact ⟨rfl, rfl⟩
end Go.Proofs.YthmlfglllhmimaaGreatDoor.Frm
