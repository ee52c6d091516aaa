import Derived.Test.YtaoncjgllcndmaaDoorD2e
namespace Go.Proofs.YtaoncjgllcndmaaDoor.Frm
open Go.RowKit Gf8 Aes By8 Cel
/- A Feed's goOn. -/

theorem fC_sums (s : FSt) (a b : Nat) : ((fC s).toList.take 323 ++ [Value.int .u32 (a : Int), Value.int .u32 (b : Int)] ++ (fC s).toList.drop 325).toArray = fC { s with sa := a, sb := b } := by
  have l1 : (List.take 323 (fC s).toList).length = 323 := by rw [List.length_take, Array.length_toList, fC_size]; omega
  have e9 := fT_len s
  refine fC_ext ?_ ?_ ?_ ?_
  · have l2 : (fC s).toList.length = 330 := by rw [Array.length_toList, fC_size]
    have l3 : (List.drop 325 (fC s).toList).length = 5 := by rw [List.length_drop, l2]
    have l4 : [Value.int .u32 (a : Int), Value.int .u32 (b : Int)].length = 2 := rfl
    rw [List.size_toArray, List.length_append, List.length_append, l1, l3, l4]
  · rw [List.getElem?_toArray, List.append_assoc, List.getElem?_append_left (by omega), List.getElem?_take, if_pos (by omega), Array.getElem?_toList, fC_0]
  · intro i hi
    rw [List.getElem?_toArray, List.append_assoc, List.getElem?_append_left (by omega), List.getElem?_take, if_pos (by omega), Array.getElem?_toList, fC_p s hi]
  · intro i hi
    rw [List.getElem?_toArray, List.append_assoc]
    by_cases h2 : i < 2
    · rw [List.getElem?_append_left (by omega), List.getElem?_take, if_pos (by omega), Array.getElem?_toList, fC_t]
      match i, h2 with
      | 0, _ => rfl
      | 1, _ => rfl
    · rw [List.getElem?_append_right (by omega), l1]
      by_cases h4 : i < 4
      · rw [List.getElem?_append_left (by simp; omega)]
        match i, h2, h4 with
        | 2, _, _ => rfl
        | 3, _, _ => rfl
      · rw [List.getElem?_append_right (by simp; omega), List.getElem?_drop, Array.getElem?_toList, show 325 + (321 + i - 323 - [Value.int .u32 (a : Int), Value.int .u32 (b : Int)].length) = 321 + i by simp; omega, fC_t]
        match i, h4, hi with
        | 4, _, _ => rfl
        | 5, _, _ => rfl
        | 6, _, _ => rfl
        | 7, _, _ => rfl
        | 8, _, _ => rfl
section
variable {o : Oper} {a : Act} {w : World}
theorem execLdSm {x : Operand} {F : Nat} {s : FSt} (ho : o.op = .load 72 x) (hx : a.eval x = .pointer (some ⟨F, 323, none⟩)) (h : FAt F s w) : (execOp a.eval o).run Tryd.prog w = .ok (.value (smV s.sa s.sb)) w :=
  execLoadMid ho hx h.sums Tryd.underlying72 rfl (by kernel_rfl)
set_option maxRecDepth 8000 in
theorem execStSm {x y : Operand} {F : Nat} {s : FSt} {b c : Nat} (ho : o.op = .store 72 x y) (hx : a.eval x = .pointer (some ⟨F, 323, none⟩)) (hy : a.eval y = smV b c) (h : FAt F s w) : (execOp a.eval o).run Tryd.prog w = .ok .skip (w.setRow F (fC { s with sa := b, sb := c })) := by
  have := execStMid (P := Tryd.prog) (t := 74) ho hx hy h.row (by rw [fC_size]; show 323 + 2 ≤ 330; decide) (by kernel_rfl) (by simp [Value.oneCell'])
  rw [← fC_sums s b c]
  exact this
theorem execStI {x y : Operand} {F : Nat} {s : FSt} {v : Nat} (ho : o.op = .store 3 x y) (hx : a.eval x = .pointer (some ⟨F, 322, none⟩)) (hy : a.eval y = .int .i64 (v : Int)) (h : FAt F s w) : (execOp a.eval o).run Tryd.prog w = .ok .skip (w.setRow F (fC { s with pl := v })) :=
  execStV ho hx hy h.row (by rw [fC_size]; decide) (by kernel_rfl) rfl (fC_set (j := 1) (by decide) rfl rfl rfl)
end
/-- What each operation of goOn's first region yields. -/
def goV (F : Nat) (s : FSt) (q : Nat → Nat) (j : Nat) : Value :=
  match j with
  | 0 => .pointer (some ⟨F, 0, none⟩) | 1 => .pointer (some ⟨F, 0, none⟩) | 2 => .pointer (some ⟨F, 0, none⟩) | 3 => .pointer (some ⟨F, 323, none⟩) | 4 => smV s.sa s.sb
  | 5 => .pointer (some ⟨F, 0, none⟩) | 6 => .pointer (some ⟨F, 0, none⟩) | 7 => .pointer (some ⟨F, 1, none⟩) | 8 => .pointer (some ⟨F, 0, none⟩) | 9 => .pointer (some ⟨F, 0, none⟩) | 10 => .pointer (some ⟨F, 321, none⟩)
  | 11 => .int .i64 (s.hv : Int) | 12 => .slice (some ⟨F, 1, none⟩) s.hv 320 | 13 => smV (adl q (s.pl + s.hv)).1 (adl q (s.pl + s.hv)).2 | 14 => .pointer (some ⟨F, 0, none⟩) | 15 => .pointer (some ⟨F, 323, none⟩) | _ => undef
def goW (F : Nat) (s : FSt) (j : Nat) : Value :=
  match j with
  | 0 => .pointer (some ⟨F, 0, none⟩) | 1 => .pointer (some ⟨F, 0, none⟩) | 2 => .pointer (some ⟨F, 322, none⟩) | 3 => .int .i64 (s.pl : Int)
  | 4 => .pointer (some ⟨F, 0, none⟩) | 5 => .pointer (some ⟨F, 0, none⟩) | 6 => .pointer (some ⟨F, 321, none⟩) | 7 => .int .i64 (s.hv : Int) | 8 => .int .i64 ((s.pl + s.hv : Nat) : Int)
  | 9 => .pointer (some ⟨F, 0, none⟩) | 10 => .pointer (some ⟨F, 322, none⟩) | _ => undef
/-- What goOn leaves. -/
def goS (s : FSt) (q : Nat → Nat) (n : Nat) : FSt := { emptyS { s with sa := (adl q (s.pl + s.hv)).1, sb := (adl q (s.pl + s.hv)).2, pl := s.pl + s.hv } with f := nextF s.f n }
set_option maxRecDepth 20000 in
set_option maxHeartbeats 1000000 in
theorem goOn_any (F : Nat) (s : FSt) (q : Nat → Nat) (n : Nat) (V : World) (h : FAt F s V) (hf : s.f < 10) (h0 : 0 < s.hv) (hh : s.hv ≤ 320) (hpl : s.pl ≤ 140737488351232) (hc : s.cl = n ∨ (s.f ≠ 5 ∧ s.f ≠ 7)) (hsa : s.sa = (adl q s.pl).1) (hsb : s.sb = (adl q s.pl).2) (hp : ∀ j, j < s.hv → s.part j = q (s.pl + j)) (hb : ∀ j, j < s.hv → q (s.pl + j) < 256) :
    Calls Tryd.prog 39 #[.pointer (some ⟨F, 0, none⟩)] V fun e w' => e = .returned (.tuple #[]) ∧ FTo F (goS s q n) V w' := by
  have HB : Hid (FAt F s V ∧ 0 < s.hv ∧ s.hv ≤ 320 ∧ s.pl ≤ 140737488351232 ∧ s.f < 10 ∧ (s.cl = n ∨ (s.f ≠ 5 ∧ s.f ≠ 7))) := ⟨h, h0, hh, hpl, hf, hc⟩
  have HQ : Hid (s.sa = (adl q s.pl).1 ∧ s.sb = (adl q s.pl).2 ∧ (∀ j, j < s.hv → s.part j = q (s.pl + j)) ∧ ∀ j, j < s.hv → q (s.pl + j) < 256) := ⟨hsa, hsb, hp, hb⟩
  clear h h0 hh hpl hf hc hsa hsb hp hb
  go_enter Tryd.func39, Tryd.ntmps39
  go_wp2_with fail
  refine wp_region_det 36 [(0, 2), (1, 3), (2, 4), (3, 5), (4, 6), (5, 7), (6, 8), (7, 9), (8, 10), (9, 11), (10, 12), (11, 13), (12, 14), (13, 15), (14, 16), (15, 17)] (goV F s q) (fun l W => ∃ x y, FTo F { s with sa := x, sb := y } V W ∧ (l 16 = false → x = s.sa ∧ y = s.sb) ∧ (l 16 = true → x = (adl q (s.pl + s.hv)).1 ∧ y = (adl q (s.pl + s.hv)).2)) (by kernel_rfl) (by kernel_rfl) rfl (by kernel_rfl) (by decide) (by decide) ?_ ?_ ?_
  · exact ⟨s.sa, s.sb, (FTo.refl HB.out.1).on ((Below.refl _ _).drew), fun _ => ⟨rfl, rfl⟩, fun q => by cases q⟩
  · intro j hj l a W hl hf hdep hl2 hcl _ hT
    obtain ⟨_, h0, hh, hpl, _, _⟩ := HB.out
    obtain ⟨hsa, hsb, hp, hb⟩ := HQ.out
    have hT' := hT
    obtain ⟨x, y, ft, q1, q2⟩ := hT'
    match j, hj with
    | 0, _ => exact stepV rfl rfl (execMvB rfl (hf 0 (by decide))) ⟨⟨_, rfl, rfl⟩, hT⟩
    | 1, _ => exact stepV rfl rfl (execMvB rfl (hf 0 (by decide))) ⟨⟨_, rfl, rfl⟩, hT⟩
    | 2, _ => exact stepV rfl rfl (execNil rfl (hdep _ rfl 1 rfl _ rfl _ rfl)) ⟨⟨_, rfl, rfl⟩, hT⟩
    | 3, _ => exact stepV rfl rfl (execFld (k := 4) (by decide) rfl (hdep _ rfl 2 rfl _ rfl _ rfl)) ⟨⟨_, rfl, rfl⟩, hT⟩
    | 4, _ =>
      have n16 : l 16 = false := by
        cases h : l 16 with
        | false => rfl
        | true =>
          have := hcl 13 _ rfl (hcl 16 _ rfl h 13 rfl) 4 rfl
          rw [hl] at this
          cases this
      obtain ⟨rfl, rfl⟩ := q1 n16
      exact stepV rfl rfl (execLdSm rfl (hdep _ rfl 3 rfl _ rfl _ rfl) ft.at') ⟨⟨_, rfl, rfl⟩, hT⟩
    | 5, _ => exact stepV rfl rfl (execMvB rfl (hf 0 (by decide))) ⟨⟨_, rfl, rfl⟩, hT⟩
    | 6, _ => exact stepV rfl rfl (execNil rfl (hdep _ rfl 5 rfl _ rfl _ rfl)) ⟨⟨_, rfl, rfl⟩, hT⟩
    | 7, _ => exact stepV rfl rfl (execFld (k := 1) (by decide) rfl (hdep _ rfl 6 rfl _ rfl _ rfl)) ⟨⟨_, rfl, rfl⟩, hT⟩
    | 8, _ => exact stepV rfl rfl (execMvB rfl (hf 0 (by decide))) ⟨⟨_, rfl, rfl⟩, hT⟩
    | 9, _ => exact stepV rfl rfl (execNil rfl (hdep _ rfl 8 rfl _ rfl _ rfl)) ⟨⟨_, rfl, rfl⟩, hT⟩
    | 10, _ => exact stepV rfl rfl (execFld (k := 2) (by decide) rfl (hdep _ rfl 9 rfl _ rfl _ rfl)) ⟨⟨_, rfl, rfl⟩, hT⟩
    | 11, _ => exact stepV rfl rfl (execLdI rfl (hdep _ rfl 10 rfl _ rfl _ rfl) ft.at'.hv) ⟨⟨_, rfl, rfl⟩, hT⟩
    | 12, _ => exact stepV rfl rfl (execSlH rfl (hdep _ rfl 7 rfl _ rfl _ rfl) (hdep _ rfl 11 rfl _ rfl _ rfl) (slicePartH F s.hv hh W)) ⟨⟨_, rfl, rfl⟩, hT⟩
    | 13, _ =>
      have sl : SliceN W (.slice (some ⟨F, 1, none⟩) s.hv 320) s.hv fun j => q (s.pl + j) := sliceN_cg (ft.at'.slice hh fun j hj => by show s.part j < 256; rw [hp j hj]; exact hb j hj) hp
      have ov := over_any q s.pl s.hv _ W sl (by omega)
      rw [← hsa, ← hsb] at ov
      exact stepC rfl rfl (execCall2 Tryd.func42 (by kernel_rfl) (by kernel_rfl) rfl (hdep _ rfl 4 rfl _ rfl _ rfl) (hdep _ rfl 12 rfl _ rfl _ rfl)) ov fun e w' h => ⟨_, h.1, ⟨_, rfl, rfl⟩, ⟨x, y, ft.on h.2, q1, q2⟩⟩
    | 14, _ => exact stepV rfl rfl (execNil rfl (hdep _ rfl 0 rfl _ rfl _ rfl)) ⟨⟨_, rfl, rfl⟩, hT⟩
    | 15, _ => exact stepV rfl rfl (execFld (k := 4) (by decide) rfl (hdep _ rfl 14 rfl _ rfl _ rfl)) ⟨⟨_, rfl, rfl⟩, hT⟩
    | 16, _ => exact stepS rfl rfl (execStSm rfl (hdep _ rfl 15 rfl _ rfl _ rfl) (hdep _ rfl 13 rfl _ rfl _ rfl) ft.at') ⟨⟨_, rfl, rfl⟩, ⟨_, _, ft.set _, (fun q => by cases q), fun _ => ⟨rfl, rfl⟩⟩⟩
    | n + 17, h => exact absurd h (by simp)
  · intro l W hall hT
    obtain ⟨x, y, ft, _, q2⟩ := hT
    obtain ⟨rfl, rfl⟩ := q2 (hall 16 (by simp))
    obtain ⟨s1, e1⟩ : ∃ s1 : FSt, s1 = { s with sa := (adl q (s.pl + s.hv)).1, sb := (adl q (s.pl + s.hv)).2 } := ⟨_, rfl⟩
    have E : Hid (s1.pl = s.pl ∧ s1.hv = s.hv ∧ s1.f = s.f ∧ s1.cl = s.cl ∧ goS s q n = { emptyS { s1 with pl := s.pl + s.hv } with f := nextF s.f n }) := by rw [e1]; exact ⟨rfl, rfl, rfl, rfl, rfl⟩
    rw [← e1] at ft
    have FT : Hid (FTo F s1 V W) := ft
    clear hall ft q2 HQ e1
    simp only [putP, goV, Act.put, List.setIfInBounds_toArray, List.set_cons_succ, List.set_cons_zero]
    go_wp2_with fail
    refine wp_region_det 36 [(0, 18), (1, 19), (2, 20), (3, 21), (4, 22), (5, 23), (6, 24), (7, 25), (8, 26), (9, 27), (10, 28)] (goW F s) (fun l W => ∃ x, FTo F { s1 with pl := x } V W ∧ (l 11 = false → x = s.pl) ∧ (l 11 = true → x = s.pl + s.hv)) (by kernel_rfl) (by kernel_rfl) rfl (by kernel_rfl) (by decide) (by decide) ?_ ?_ ?_
    · refine ⟨s.pl, ?_, fun _ => rfl, fun q => by cases q⟩
      have := FT.out.on ((Below.refl _ _).drew)
      rw [← E.out.1]
      exact this
    · intro j hj l a W hl hf hdep hl2 hcl _ hT
      obtain ⟨_, h0, hh, hpl, _, _⟩ := HB.out
      have hT' := hT
      obtain ⟨x, ft, q1, q2⟩ := hT'
      have eh := E.out.2.1
      match j, hj with
      | 0, _ => exact stepV rfl rfl (execMvB rfl (hf 0 (by decide))) ⟨⟨_, rfl, rfl⟩, hT⟩
      | 1, _ => exact stepV rfl rfl (execNil rfl (hdep _ rfl 0 rfl _ rfl _ rfl)) ⟨⟨_, rfl, rfl⟩, hT⟩
      | 2, _ => exact stepV rfl rfl (execFld (k := 3) (by decide) rfl (hdep _ rfl 1 rfl _ rfl _ rfl)) ⟨⟨_, rfl, rfl⟩, hT⟩
      | 3, _ =>
        have n16 : l 11 = false := by
          cases h : l 11 with
          | false => rfl
          | true =>
            have := hcl 8 _ rfl (hcl 11 _ rfl h 8 rfl) 3 rfl
            rw [hl] at this
            cases this
        have e := q1 n16
        subst e
        exact stepV rfl rfl (execLdI rfl (hdep _ rfl 2 rfl _ rfl _ rfl) ft.at'.pl) ⟨⟨_, rfl, rfl⟩, hT⟩
      | 4, _ => exact stepV rfl rfl (execMvB rfl (hf 0 (by decide))) ⟨⟨_, rfl, rfl⟩, hT⟩
      | 5, _ => exact stepV rfl rfl (execNil rfl (hdep _ rfl 4 rfl _ rfl _ rfl)) ⟨⟨_, rfl, rfl⟩, hT⟩
      | 6, _ => exact stepV rfl rfl (execFld (k := 2) (by decide) rfl (hdep _ rfl 5 rfl _ rfl _ rfl)) ⟨⟨_, rfl, rfl⟩, hT⟩
      | 7, _ =>
        have c := ft.at'.hv
        have c' : W.cell? ⟨F, 321, none⟩ = some (.int .i64 (s.hv : Int)) := by rw [← eh]; exact c
        exact stepV rfl rfl (execLdI rfl (hdep _ rfl 6 rfl _ rfl _ rfl) c') ⟨⟨_, rfl, rfl⟩, hT⟩
      | 8, _ => exact stepV rfl rfl (execAddI rfl (hdep _ rfl 3 rfl _ rfl _ rfl) (hdep _ rfl 7 rfl _ rfl _ rfl) (by omega)) ⟨⟨_, rfl, rfl⟩, hT⟩
      | 9, _ => exact stepV rfl rfl (execNil rfl (hdep _ rfl 0 rfl _ rfl _ rfl)) ⟨⟨_, rfl, rfl⟩, hT⟩
      | 10, _ => exact stepV rfl rfl (execFld (k := 3) (by decide) rfl (hdep _ rfl 9 rfl _ rfl _ rfl)) ⟨⟨_, rfl, rfl⟩, hT⟩
      | 11, _ => exact stepS rfl rfl (execStI rfl (hdep _ rfl 10 rfl _ rfl _ rfl) (hdep _ rfl 8 rfl _ rfl _ rfl) ft.at') ⟨⟨_, rfl, rfl⟩, ⟨_, ft.set _, (fun q => by cases q), fun _ => rfl⟩⟩
      | n + 12, h => exact absurd h (by simp)
    · intro l W' hall hT
      obtain ⟨x, ft, _, q2⟩ := hT
      have e := q2 (hall 11 (by simp))
      subst e
      clear FT hall q2
      have F2 : Hid (FTo F { s1 with pl := s.pl + s.hv } V W') := ft
      clear ft
      simp only [putP, goW, Act.put, List.setIfInBounds_toArray, List.set_cons_succ, List.set_cons_zero]
      go_wp2_with (first
        | (go_at_call 49; refine (empty_any F _ _ F2.out.at' (by show 0 < s1.hv; rw [E.out.2.1]; exact HB.out.2.1) (by show s1.hv ≤ 320; rw [E.out.2.1]; exact HB.out.2.2.1)).mono ?_; rintro e w1 ⟨rfl, f1⟩; have F3 : Hid (FTo F (emptyS { s1 with pl := s.pl + s.hv }) V w1) := F2.out.trans f1; clear f1)
        | (go_at_call 50; refine (next_any F _ _ F3.out.at' (by show s1.f < 10; rw [E.out.2.2.1]; exact HB.out.2.2.2.2.1) n (by show s1.cl = n ∨ (s1.f ≠ 5 ∧ s1.f ≠ 7); rw [E.out.2.2.1, E.out.2.2.2.1]; exact HB.out.2.2.2.2.2)).mono ?_; rintro e w2 ⟨rfl, rfl⟩)
        | (refine atStore 68 (.tmp 35) (.tmp 33) rfl ?_; go_must (refine wpList_exS rfl (execStV (c' := fC { emptyS { s1 with pl := s.pl + s.hv } with f := nextF s1.f n }) rfl rfl rfl F3.out.at'.row (by rw [fC_size]; decide) (by kernel_rfl) rfl (fC_setF _ _)) ?_)))
      go_end0
      refine ⟨rfl, ?_⟩
      rw [E.out.2.2.2.2, ← E.out.2.2.1]
      exact F3.out.set _
end Go.Proofs.YtaoncjgllcndmaaDoor.Frm
