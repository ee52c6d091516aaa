import Derived.Test.YtcibogmghagpoaaV8i
namespace Go.Proofs.Ytcibogmghagpoaa.Dro
open Go.RowKit Gf8 Aes By8 Cel Cf Tap Drw
/- Stage 28: DropBack. Written by tools/mkV8j.py. -/

theorem rq_sl {W : World} {r : Value} {B m : Nat} {nm f : Nat → Nat} (h : W.ownsRow B 5 1 r (rqN m) (bytesL (rqN m) (rqF nm f))) (hn : ∀ j, j < 8 → nm j < 256) (hf : ∀ j, j < m → f j < 256) : SliceN W r (rqN m) (rqF nm f) := own_slice h fun j hj => by
  unfold rqN at hj
  split at hj
  · omega
  · unfold rqF
    split
    · rename_i q; exact hn j q
    · exact hf _ (by omega)
theorem rq_hi {nm f : Nat → Nat} {j : Nat} : rqF nm f (8 + j) = f j := by
  unfold rqF
  rw [if_neg (by omega), Nat.add_sub_cancel_left]
theorem own_L1 (W : World) (r : Value) : (W.alloc (.cells #[r] 23)).ownsRow W.heap.size 23 1 (.slice (some ⟨W.heap.size, 0, none⟩) 1 1) 1 (lL (fun _ => r) 1) :=
  ⟨rfl, Or.inr ⟨W.heap.size, 1, #[r], rfl, Nat.le_refl _, heapNew W _, Nat.le_refl _, by unfold maxLen; omega, rfl, rfl⟩⟩
theorem pushB {W : World} {q m l : Nat} {y : Nat → Value} {v : Value} {lA : Nat → Nat} {cA : Nat → Nat → Nat} {d nm f : Nat → Nat} (hq : 1 ≤ q) (hE : ∀ j, j < q → (SliceN W (y j) (lA j) (cA j) ∧ ∀ l c, y j = .slice none l c → c = 0) ∧ lA j ≤ 1048576) (h0 : lA 0 = 8 + m ∧ cA 0 = rqF nm f) (hF : ∀ j, 0 < j → j < q → ¬ (rgt (lA j) = true ∧ ∀ i, i < 8 → cA j i = nm i)) (hv : (SliceN W v l d ∧ ∀ l c, v = .slice none l c → c = 0) ∧ l ≤ 1048576) (hd : ¬ (rgt l = true ∧ ∀ i, i < 8 → d i = nm i)) :
    (∀ j, j < q + 1 → (SliceN W (updX y q v j) ((fun j => if j = q then l else lA j) j) ((fun j => if j = q then d else cA j) j) ∧ ∀ l c, updX y q v j = .slice none l c → c = 0) ∧ (fun j => if j = q then l else lA j) j ≤ 1048576) ∧ ((fun j => if j = q then l else lA j) 0 = 8 + m ∧ (fun j => if j = q then d else cA j) 0 = rqF nm f) ∧ (∀ j, 0 < j → j < q + 1 → ¬ (rgt ((fun j => if j = q then l else lA j) j) = true ∧ ∀ i, i < 8 → (fun j => if j = q then d else cA j) j i = nm i)) := by
  refine ⟨fun j hj => ?_, ⟨(if_neg (by omega)).trans h0.1, (if_neg (by omega)).trans h0.2⟩, fun j h1 h2 => ?_⟩
  · show (SliceN W (if j = q then v else y j) (if j = q then l else lA j) (if j = q then d else cA j) ∧ ∀ l c, (if j = q then v else y j) = .slice none l c → c = 0) ∧ (if j = q then l else lA j) ≤ 1048576
    by_cases e : j = q
    · rw [if_pos e, if_pos e, if_pos e]; exact hv
    · rw [if_neg e, if_neg e, if_neg e]; exact hE j (by omega)
  · show ¬ (rgt (if j = q then l else lA j) = true ∧ ∀ i, i < 8 → (if j = q then d else cA j) i = nm i)
    by_cases e : j = q
    · rw [if_pos e, if_pos e]; exact hd
    · rw [if_neg e, if_neg e]; exact hF j h1 (by omega)
theorem bk_of {q m s : Nat} {lA lB : Nat → Nat} {cA cB : Nat → Nat → Nat} {nm f p : Nat → Nat} (hq : 1 ≤ q) (h0 : lA 0 = 8 + m ∧ cA 0 = rqF nm f) (hF : ∀ j, 0 < j → j < q → ¬ (rgt (lA j) = true ∧ ∀ i, i < 8 → cA j i = nm i)) (hm : m ≤ 40) (hs : s ≤ 40) (el : lB = fun j => if j < q then lA j else 8 + s) (ec : cB = fun j => if j < q then cA j else rqF nm p) : Bk q lB cB := by
  have e0 : lB 0 = 8 + m := by rw [el]; exact (if_pos (by omega)).trans h0.1
  have c0 : ∀ j, j < 8 → cB 0 j = nm j := fun j hj => by rw [ec]; show (if 0 < q then cA 0 else rqF nm p) j = nm j; rw [if_pos (by omega), h0.2]; exact if_pos hj
  refine ⟨hq, rgt_iff.2 (by omega), fun k hk => ?_, fun k hk j hj => ?_, fun k h1 h2 => ?_⟩
  · rw [el]; show rgt (if k < q then lA k else 8 + s) = true; rw [if_neg (by omega)]; exact rgt_iff.2 (by omega)
  · rw [c0 j hj, ec]; show (if k < q then cA k else rqF nm p) j = nm j; rw [if_neg (by omega)]; exact if_pos hj
  · rintro ⟨r1, r2⟩
    refine hF k h1 h2 ⟨?_, fun i hi => ?_⟩
    · rw [el] at r1; have r3 : rgt (if k < q then lA k else 8 + s) = true := r1; rw [if_pos h2] at r3; exact r3
    · have r3 := (r2 i hi).trans (c0 i hi); rw [ec] at r3; have r4 : (if k < q then cA k else rqF nm p) i = nm i := r3; rw [if_pos h2] at r4; exact r4
theorem ones_of {W : World} {v : Value} {n : Nat} {y : Nat → Value} {ln : Nat → Nat} {c : Nat → Nat → Nat} (h : Ls W v n y ln c) : ∀ z ∈ lL y n, z.oneCell' = true := fun z hz => by
  obtain ⟨i, hi⟩ := List.getElem?_of_mem hz
  have hl : i < n := by have := (List.getElem?_eq_some_iff.1 hi).1; rwa [lL_len] at this
  rw [lL_get y n i hl] at hi
  cases hi
  obtain ⟨_, _, e⟩ := shp (h.cell i hl)
  rw [e]
  rfl
theorem two_of {v : Value} {n : Nat} (h : ∃ a c, v = .slice a n c) : ∀ u ∈ (#[v, v] : Array Value).toList, u.oneCell' = true := by
  obtain ⟨a, c, rfl⟩ := h
  intro u hu
  simp at hu
  subst hu
  rfl
theorem ls_b1 {W : World} {B q l : Nat} {u v b : Value} {y : Nat → Value} {ln : Nat → Nat} {c : Nat → Nat → Nat} {d : Nat → Nat} (own : W.ownsRow B 23 1 v (0 + q + 1) ([] ++ lL y q ++ (#[b] : Array Value).toList)) (hL : Ls W u q y ln c) (hb : SliceN W b l d) (hz : ∀ l c, b = .slice none l c → c = 0) (e1 : ln q = l) (e2 : c q = d) (hl : l ≤ 140737488351232 := by omega) : Ls W v (q + 1) (updX y q b) ln c := by
  have o2 : W.ownsRow B 23 1 v (q + 1) (lL (updX y q b) (q + 1)) := by
    rw [← lL_upd]
    rw [Nat.zero_add, List.nil_append] at own
    exact own
  have key : ∀ i, i < q + 1 → (i = q ∧ updX y q b i = b) ∨ (i < q ∧ updX y q b i = y i) := fun i hi => by
    by_cases e : i = q
    · exact Or.inl ⟨e, if_pos e⟩
    · exact Or.inr ⟨by omega, if_neg e⟩
  refine ls_of o2 (fun i hi => ?_) (fun i hi => ?_) (fun i hi => ?_)
  · rcases key i hi with ⟨rfl, e⟩ | ⟨h, e⟩
    · rw [e, e1, e2]; exact hb
    · rw [e]; exact hL.cell i h
  · rcases key i hi with ⟨rfl, e⟩ | ⟨h, e⟩
    · rw [e]; exact hz
    · rw [e]; exact hL.nil i h
  · rcases key i hi with ⟨rfl, e⟩ | ⟨h, e⟩
    · rw [e1]; exact hl
    · exact hL.lens i h
theorem ls_b2 {W : World} {B q l : Nat} {u v b : Value} {y : Nat → Value} {ln : Nat → Nat} {c : Nat → Nat → Nat} {d : Nat → Nat} (own : W.ownsRow B 23 1 v (0 + q + 2) ([] ++ lL y q ++ (#[b, b] : Array Value).toList)) (hL : Ls W u q y ln c) (hb : SliceN W b l d) (hz : ∀ l c, b = .slice none l c → c = 0) (e1 : ln q = l) (e2 : c q = d) (e3 : ln (q + 1) = l) (e4 : c (q + 1) = d) (hl : l ≤ 140737488351232 := by omega) : Ls W v (q + 2) (updX (updX y q b) (q + 1) b) ln c := by
  have o2 : W.ownsRow B 23 1 v (q + 2) (lL (updX (updX y q b) (q + 1) b) (q + 2)) := by
    rw [← lL_upd, ← lL_upd, List.append_assoc]
    rw [Nat.zero_add, List.nil_append] at own
    exact own
  have key : ∀ i, i < q + 2 → ((i = q ∨ i = q + 1) ∧ updX (updX y q b) (q + 1) b i = b) ∨ (i < q ∧ updX (updX y q b) (q + 1) b i = y i) := fun i hi => by
    by_cases e : i = q + 1
    · exact Or.inl ⟨Or.inr e, if_pos e⟩
    · by_cases e2 : i = q
      · exact Or.inl ⟨Or.inl e2, (if_neg e).trans (if_pos e2)⟩
      · exact Or.inr ⟨by omega, (if_neg e).trans (if_neg e2)⟩
  refine ls_of o2 (fun i hi => ?_) (fun i hi => ?_) (fun i hi => ?_)
  · rcases key i hi with ⟨rfl | rfl, e⟩ | ⟨h, e⟩
    · rw [e, e1, e2]; exact hb
    · rw [e, e3, e4]; exact hb
    · rw [e]; exact hL.cell i h
  · rcases key i hi with ⟨_, e⟩ | ⟨h, e⟩
    · rw [e]; exact hz
    · rw [e]; exact hL.nil i h
  · rcases key i hi with ⟨rfl | rfl, e⟩ | ⟨h, e⟩
    · rw [e1]; exact hl
    · rw [e3]; exact hl
    · exact hL.lens i h
theorem x_str {n i k : Nat} {ln : Nat → Nat} {c : Nat → Nat → Nat} (h : kdF n ln c i = k) (hk : k ≠ 1) : strN (xF n ln c i) (xL n ln c i) = strN (fun _ => k) 1 := by
  obtain ⟨e1, e2⟩ := x_one h hk
  rw [e1]
  exact strN_congr e2
theorem x_hear {n i k l : Nat} {ln : Nat → Nat} {c : Nat → Nat → Nat} {nm g : Nat → Nat} (h : kdF n ln c i = 1) (h2 : paF n ln c i = k) (h3 : ln k = 8 + l) (h4 : c k = rqF nm g) : strN (anF (xF n ln c i)) (xL n ln c i - 1) = strN g l := by
  rw [show xL n ln c i = 1 + l by unfold xL; rw [if_pos h, h2, h3, Nat.add_sub_cancel_left], Nat.add_sub_cancel_left]
  refine strN_congr fun j _ => ?_
  show xF n ln c i (1 + j) = g j
  rw [← x_met, h2, h4, rq_hi]
set_option maxRecDepth 100000 in
set_option maxHeartbeats 4000000 in
/-- DropBack. -/
theorem back28 (I : Impl) (nm f p : Nat → Nat) (m s n : Nat) (fv sv ov : Value) (xv : Nat → Value) (ln : Nat → Nat) (c : Nat → Nat → Nat) (V : World) (hn : ∀ j, j < 8 → nm j < 256) (hf : SliceN V fv m f) (hfz : ∀ l c, fv = .slice none l c → c = 0) (hfl : m ≤ 140737488351232) (hs : SliceN V sv s p) (hsz : ∀ l c, sv = .slice none l c → c = 0) (hsl : s ≤ 140737488351232) (hO : Ls V ov n xv ln c) :
    Calls Try.prog 5 #[.agg (prC nm fv sv ov)] V fun e w' => e = .returned (.bool true) ∧ Below V.heap.size V w' := by
  go_enter Try.func5, Try.ntmps5
  refine wo_ 256 [(0, .agg (prC nm fv sv ov))] ?_
  rintro a A ⟨t0, -⟩
  have BW : Below V.heap.size V V := Below.refl _ _
  have FF := hf
  have FSe := hs
  have FO := hO
  have hfb := hf.bytes
  have hpb := hs.bytes
  refine wp_seq ?_
  obtain ⟨g1, egg1⟩ : ∃ z_ : Nat, V.heap.size = z_ := ⟨_, rfl⟩
  refine wi_ A (h1_ t0) (rs_ 0 (fun a ee => ?_))
  refine stepV rfl rfl (execBxP rfl (ee _)) ⟨.pointer (some ⟨g1, 0, none⟩), ⟨_, rfl, by subst egg1; rfl⟩, fun X0 hX => ?_⟩
  have bQ : Below V.heap.size V X0 := by subst hX egg1; exact (belNew V _)
  have FQ : X0.heap[g1]? = some (.cells (prC nm fv sv ov) 41) := by subst hX egg1; exact heapNew V _
  have bX := bQ
  clear bQ hX egg1 ee a
  refine rg_ [(1, .pointer (some ⟨g1, 0, none⟩)), (2, .bool false)] ?_
  rintro a A ⟨t1, t2, -⟩
  replace FF := (FF.on bX)
  replace FSe := (FSe.on bX)
  replace FO := (FO.on bX)
  have ZX0 := bX.size
  replace BW := BW.trans (bX.mono BW.size)
  clear bX
  refine wp_seq ?_
  refine wp_seq ?_
  refine wi_ A (h2_ t1 t2) (rc_ 0 (awake28 I X0) (cb_ fun X1 bQ => ?_))
  have bX := bQ
  clear bQ
  refine rv_ 1 (.bool false) (fun a ee => execNot8 (b := true) rfl (ee _)) (rf_ [(25, .bool false)] (h1_ t1) ?_)
  rintro a A ⟨t25, -⟩ ⟨t1, -⟩
  replace FF := (FF.on bX)
  replace FSe := (FSe.on bX)
  replace FO := (FO.on bX)
  replace FQ := (on9 FQ bX)
  have ZX1 := bX.size
  replace BW := BW.trans (bX.mono BW.size)
  clear bX
  refine wp_cond_false t25 ?_
  refine wp_skip ?_
  clear t25
  refine wp_seq ?_
  refine wj_ [0, 1, 2, 3, 4, 5, 6, 7, 8, 9, 10, 11, 12] [8, 9] [1, 3, 5, 7] [] A (h1_ t1) (fun X3_0 bD => ?_)
  obtain ⟨g3, egg3⟩ : ∃ z_ : Nat, X3_0.heap.size = z_ := ⟨_, rfl⟩
  refine dw_ 0 (.pointer (some ⟨g1, 0, none⟩)) (fun a X ee => execFP 0 0 (by omega) rfl (ee _)) (dv_ 1 (.agg (bA 8 nm)) (fun a X ee hb => execLdP8 (on9 FQ hb) rfl (ee _)) (dw_ 2 (.pointer (some ⟨g1, 8, none⟩)) (fun a X ee => execFP 1 8 (by omega) rfl (ee _)) (dv_ 3 (fv) (fun a X ee hb => execLdL rfl (ee _) (pr_at (on9 FQ hb) rfl)) (dw_ 4 (.pointer (some ⟨g1, 9, none⟩)) (fun a X ee => execFP 2 9 (by omega) rfl (ee _)) (dv_ 5 (sv) (fun a X ee hb => execLdL rfl (ee _) (pr_at (on9 FQ hb) rfl)) (dw_ 6 (.pointer (some ⟨g1, 10, none⟩)) (fun a X ee => execFP 3 10 (by omega) rfl (ee _)) (dv_ 7 (ov) (fun a X ee hb => execLdLL rfl (ee _) (pr_at (on9 FQ hb) rfl)) (ds_ 8 (fun a ee => ?_)))))))))
  refine stepV rfl rfl (execAl8 rfl) ⟨.pointer (some ⟨g3, 0, none⟩), ⟨_, rfl, by subst egg3; rfl⟩, fun X3_1 hX => ?_⟩
  have bQ : Below X3_0.heap.size X3_0 X3_1 := by subst hX egg3; exact (belNew X3_0 _)
  have F3 : X3_1.heap[g3]? = some (.cells (bA 8 (fun _ => 0)) 22) := by subst hX egg3; exact heapNew X3_0 _
  have Fge3 : (X1.heap.size ≤ g3) := by subst hX egg3; exact (bD).size
  replace bD := bD.trans (bQ.mono bD.size)
  clear bQ hX egg3 ee a
  refine ⟨Or.inr bD, ?_⟩
  refine ds_ 9 (fun a ee => ?_)
  refine stepS rfl rfl (execSt8 F3 rfl (ee _) (ee _)) ⟨_, ⟨_, rfl, rfl⟩, fun X3 hX => ?_⟩
  obtain ⟨bD, F3s⟩ : Below X1.heap.size X1 X3 ∧ X3.heap[g3]? = some (.cells (bA 8 nm) 22) := by rw [hX]; exact ⟨below4 bD Fge3 _, setRow_heap _ _ _ _ _ _ F3⟩
  clear hX ee a F3
  refine ⟨Or.inr bD, ?_⟩
  refine dy_ [(3, .pointer (some ⟨g3, 0, none⟩)), (4, fv), (5, sv), (6, ov)] ?_
  rintro a A ⟨t3, t4, t5, t6, -⟩
  replace FF := (FF.on bD)
  replace FSe := (FSe.on bD)
  replace FO := (FO.on bD)
  replace FQ := (on9 FQ bD)
  have ZX3 := bD.size
  replace BW := BW.trans (bD.mono BW.size)
  clear bD
  clear FQ Fge3
  refine wp_seq ?_
  refine wi_ A (h4_ t3 t4 t5 t6) (rv_ 0 (.agg (bA 8 nm)) (fun a ee => execLd8 F3s rfl (ee _)) (rc_ 2 (I.request nm f m _ X3 hn FF hfz hfl) fun e X4 hh => ?_))
  obtain ⟨⟨v37, he, hk⟩, hb⟩ := hh
  refine ⟨_, he, ?_⟩
  have bQ : Below X3.heap.size X3 X4 := hb
  have FA : (SliceN X4 v37 (rqN m) (rqF nm f)) := rq_sl hk hn hfb
  have FAz : (∀ l c, v37 = .slice none l c → c = 0) := own_nilI hk
  have bX := bQ
  clear bQ
  refine rf_ [(7, v37), (8, .int .i64 ((rqE m : Nat) : Int))] (h4_ t3 t4 t5 t6) ?_
  rintro a A ⟨t7, t8, -⟩ ⟨t3, t4, t5, t6, -⟩
  replace FF := (FF.on bX)
  replace FSe := (FSe.on bX)
  replace FO := (FO.on bX)
  replace F3s := (on9 F3s bX)
  have ZX4 := bX.size
  replace BW := BW.trans (bX.mono BW.size)
  clear bX
  refine wp_seq ?_
  refine wi_ A (h6_ t3 t4 t5 t6 t7 t8) (rv_ 0 (.agg (bA 8 nm)) (fun a ee => execLd8 F3s rfl (ee _)) (rc_ 2 (I.request nm p s _ X4 hn FSe hsz hsl) fun e X5 hh => ?_))
  obtain ⟨⟨v43, he, hk⟩, hb⟩ := hh
  refine ⟨_, he, ?_⟩
  have bQ : Below X4.heap.size X4 X5 := hb
  have FB : (SliceN X5 v43 (rqN s) (rqF nm p)) := rq_sl hk hn hpb
  have FBz : (∀ l c, v43 = .slice none l c → c = 0) := own_nilI hk
  have bX := bQ
  clear bQ
  refine rf_ [(9, v43), (10, .int .i64 ((rqE s : Nat) : Int))] (h6_ t3 t4 t5 t6 t7 t8) ?_
  rintro a A ⟨t9, t10, -⟩ ⟨t3, t4, t5, t6, t7, t8, -⟩
  replace FF := (FF.on bX)
  replace FSe := (FSe.on bX)
  replace FO := (FO.on bX)
  replace F3s := (on9 F3s bX)
  replace FA := (FA.on bX)
  replace FAz := FAz
  have ZX5 := bX.size
  replace BW := BW.trans (bX.mono BW.size)
  clear bX
  refine wp_seq ?_
  refine wp_seq ?_
  by_cases h1 : m ≤ 40
  · by_cases h2 : s ≤ 40
    · have e1 : rqE m = 0 := if_neg (by omega)
      have e2 : rqE s = 0 := if_neg (by omega)
      have n1 : rqN m = 8 + m := if_neg (by omega)
      have n2 : rqN s = 8 + s := if_neg (by omega)
      refine wi_ A (h8_ t3 t4 t5 t6 t7 t8 t9 t10) (rv_ 1 (.bool true) (fun a ee => execDec (execEqE (p := rqE m) (q := 0) rfl (ee _) rfl) (decide_eq_true (by omega))) (rv_ 3 (.int .i64 ((m : Nat) : Int)) (fun a ee => execLenV (len := m) rfl (ee _) (shp (FF))) (rv_ 4 (.bool true) (fun a ee => execDec (execLeN (p := m) (q := 40) rfl (ee _) rfl) (decide_eq_true (by omega))) (rv_ 5 (.bool false) (fun a ee => execDc (execNeB rfl (ee _) (ee _)) rfl) (rv_ 8 (.bool true) (fun a ee => execDec (execEqE (p := rqE s) (q := 0) rfl (ee _) rfl) (decide_eq_true (by omega))) (rv_ 10 (.int .i64 ((s : Nat) : Int)) (fun a ee => execLenV (len := s) rfl (ee _) (shp (FSe))) (rv_ 11 (.bool true) (fun a ee => execDec (execLeN (p := s) (q := 40) rfl (ee _) rfl) (decide_eq_true (by omega))) (rv_ 12 (.bool false) (fun a ee => execDc (execNeB rfl (ee _) (ee _)) rfl) (rf_ [(59, .bool false)] (h8_ t3 t4 t5 t6 t7 t8 t9 t10) ?_)))))))))
      rintro a A ⟨t59, -⟩ ⟨t3, t4, t5, t6, t7, t8, t9, t10, -⟩
      refine wp_cond_false t59 ?_
      refine wp_skip ?_
      clear t59
      refine wp_seq ?_
      refine wp_seq ?_
      refine wi_ A (h8_ t3 t4 t5 t6 t7 t8 t9 t10) (rv_ 1 (.bool false) (fun a ee => execDec (execNeE (p := rqE m) (q := 0) rfl (ee _) rfl) (decide_eq_false (by omega))) (rv_ 4 (.bool false) (fun a ee => execDec (execNeE (p := rqE s) (q := 0) rfl (ee _) rfl) (decide_eq_false (by omega))) (rc_ 8 (great28 n _ xv ln c X5 FO) fun e X8 hh => ?_)))
      obtain ⟨⟨b68, he, hk⟩, hb⟩ := hh
      refine ⟨_, he, ?_⟩
      have bQ : Below X5.heap.size X5 X8 := hb
      have FG : (b68 = false → n ≤ 2048 ∧ ∀ i, i < n → ln i ≤ 1048576) := hk
      have bX := bQ
      clear bQ
      refine rf_ [(69, .bool b68)] (h8_ t3 t4 t5 t6 t7 t8 t9 t10) ?_
      rintro a A ⟨t69, -⟩ ⟨t3, t4, t5, t6, t7, t8, t9, t10, -⟩
      replace FF := (FF.on bX)
      replace FSe := (FSe.on bX)
      replace FO := (FO.on bX)
      replace F3s := (on9 F3s bX)
      replace FA := (FA.on bX)
      replace FAz := FAz
      replace FB := (FB.on bX)
      replace FBz := FBz
      have ZX8 := bX.size
      replace BW := BW.trans (bX.mono BW.size)
      clear bX
      cases b68
      · refine wp_cond_false t69 ?_
        refine wp_skip ?_
        clear t69
        obtain ⟨hn1, hln⟩ := FG rfl
        clear FG
        rw [n1] at FA
        rw [n2] at FB
        clear t8 t10
        have es1 : strN (fun j => (rqF nm f) (8 + j)) (8 + m - 8) = strN f m := by rw [Nat.add_sub_cancel_left]; exact strN_congr (fun j _ => rq_hi)
        have es2 : strN (rqF nm f) 8 = strN nm 8 := strN_congr (fun j hj => if_pos hj)
        refine wp_seq ?_
        refine wp_seq ?_
        refine wj_ [0, 1, 2, 3, 4, 5, 6, 7, 8, 9, 10, 11, 12, 13, 14, 15, 16, 17, 18, 19] [10, 17] [1, 3, 8, 15] [] A (h6_ t3 t4 t5 t6 t7 t9) (fun X10_0 bD => ?_)
        refine dv_ 1 (.int .i64 ((8 + m : Nat) : Int)) (fun a X ee hb => execLenV (len := 8 + m) rfl (ee _) (shp ((FA.on hb)))) (dv_ 3 (.int .i64 ((m : Nat) : Int)) (fun a X ee hb => execLenV (len := m) rfl (ee _) (shp ((FF.on hb)))) (dw_ 4 (.int .i64 ((8 + m : Nat) : Int)) (fun a X ee => execAd8 (p := 8) (q := m) rfl rfl (ee _) (by omega)) (dw_ 5 (.bool false) (fun a X ee => execDec (execNeN (p := 8 + m) (q := 8 + m) rfl (ee _) (ee _)) (decide_eq_false (by omega))) (dv_ 8 (cutL v37 8) (fun a X ee hb => execCutL (k := 8) ((FA.on hb)) rfl (ee _) rfl (by omega)) (dc_ 10 ((decide_eq_true es1 ▸ same28 _ _ _ _ _ _ X10_0 (cutL_is ((FA.on bD)) (by omega)) (FF.on bD))) (cb_ fun X10_1 bQ => ?_))))))
        replace bD := bD.trans (bQ.mono bD.size)
        clear bQ
        refine ⟨Or.inr bD, ?_⟩
        refine dw_ 11 (.bool false) (fun a X ee => execNot8 (b := true) rfl (ee _)) (dv_ 15 (cutH v37 8) (fun a X ee hb => execCutH (k := 8) ((FA.on hb)) rfl (ee _) rfl (by omega)) (dw_ 16 (.slice (some ⟨g3, 0, none⟩) 8 8) (fun a X ee => execSl8 rfl (ee _)) (dc_ 17 ((decide_eq_true es2 ▸ same28 _ _ _ _ _ _ X10_1 (cutH_is ((FA.on bD)) (by omega)) (slice8 (on9 F3s bD) hn))) (cb_ fun X10 bQ => ?_))))
        replace bD := bD.trans (bQ.mono bD.size)
        clear bQ
        refine ⟨Or.inr bD, ?_⟩
        refine dw_ 18 (.bool false) (fun a X ee => execNot8 (b := true) rfl (ee _)) (dz_ [(113, .bool false)] (h6_ t3 t4 t5 t6 t7 t9) ?_)
        rintro a A ⟨t113, -⟩ ⟨t3, t4, t5, t6, t7, t9, -⟩
        replace FF := (FF.on bD)
        replace FSe := (FSe.on bD)
        replace FO := (FO.on bD)
        replace F3s := (on9 F3s bD)
        replace FA := (FA.on bD)
        replace FAz := FAz
        replace FB := (FB.on bD)
        replace FBz := FBz
        have ZX10 := bD.size
        replace BW := BW.trans (bD.mono BW.size)
        clear bD
        refine wp_cond_false t113 ?_
        refine wp_skip ?_
        clear t113
        clear es1 es2
        have BB : Below X10.heap.size X10 X10 := Below.refl _ _
        refine wp_seq ?_
        obtain ⟨g115, egg115⟩ : ∃ z_ : Nat, X10.heap.size = z_ := ⟨_, rfl⟩
        refine wi_ A (h6_ t3 t4 t5 t6 t7 t9) (rs_ 1 (fun a ee => ?_))
        refine stepV rfl rfl (execBsL rfl (ee _) (by obtain ⟨q1, q2, q3⟩ := shp FA; exact ⟨q1, _, q2, q3⟩)) ⟨.slice (some ⟨g115, 0, none⟩) 1 1, ⟨_, rfl, by subst egg115; rfl⟩, fun X12 hX => ?_⟩
        have bQ : Below X10.heap.size X10 X12 := by subst hX egg115; exact (belNew X10 _)
        have FU : (X12.ownsRow X10.heap.size 23 1 (.slice (some ⟨g115, 0, none⟩) 1 1) (1) (lL (fun _ => v37) (1))) := by subst hX egg115; exact ownD_base (own_L1 X10 v37) (BB).size
        replace BB := BB.trans (bQ.mono BB.size)
        clear bQ hX egg115 ee a
        refine rf_ [(11, .slice (some ⟨g115, 0, none⟩) 1 1)] (h6_ t3 t4 t5 t6 t7 t9) ?_
        rintro a A ⟨t11, -⟩ ⟨t3, t4, t5, t6, t7, t9, -⟩
        refine wp_seq ?_
        refine wp_seq ?_
        refine wi_ A (h7_ t3 t4 t5 t6 t7 t9 t11) (rv_ 1 (.int .i64 ((n : Nat) : Int)) (fun a ee => execLenLL rfl (ee _) ((FO.on BB)).shp) (rf_ [(116, ov), (117, .int .i64 ((n : Nat) : Int)), (118, .int .i64 ((0 : Nat) : Int))] (h7_ t3 t4 t5 t6 t7 t9 t11) ?_))
        rintro a A ⟨t116, t117, t118, -⟩ ⟨t3, t4, t5, t6, t7, t9, t11, -⟩
        refine wp_block ?_
        refine wp_loop (fun a W => ∃ (k : Nat) (q : Nat) (u : Value) (y : Nat → Value) (lA : Nat → Nat) (cA : Nat → Nat → Nat), k ≤ n ∧ (1 ≤ q ∧ q ≤ k + 1) ∧ (∀ j, j < q → (SliceN X10 (y j) (lA j) (cA j) ∧ ∀ l c, y j = .slice none l c → c = 0) ∧ lA j ≤ 1048576) ∧ (lA 0 = 8 + m ∧ cA 0 = rqF nm f) ∧ (∀ j, 0 < j → j < q → ¬ (rgt (lA j) = true ∧ ∀ i, i < 8 → cA j i = nm i)) ∧ (a.tmps.size = 256 ∧ a.defers = []) ∧ a.eval (.tmp 3) = .pointer (some ⟨g3, 0, none⟩) ∧ a.eval (.tmp 4) = fv ∧ a.eval (.tmp 5) = sv ∧ a.eval (.tmp 6) = ov ∧ a.eval (.tmp 7) = v37 ∧ a.eval (.tmp 9) = v43 ∧ a.eval (.tmp 11) = u ∧ a.eval (.tmp 116) = ov ∧ a.eval (.tmp 117) = .int .i64 ((n : Nat) : Int) ∧ a.eval (.tmp 118) = .int .i64 ((k : Nat) : Int) ∧ Below X10.heap.size X10 W ∧ (W.ownsRow X10.heap.size 23 1 u (q) (lL y (q)))) (fun a _ => n - (intOf (a.eval (.tmp 118))).toNat) ⟨0, 1, .slice (some ⟨g115, 0, none⟩) 1 1, fun _ => v37, fun _ => 8 + m, fun _ => rqF nm f, Nat.zero_le _, ⟨Nat.le_refl _, Nat.le_refl _⟩, fun j hj => ⟨⟨FA, FAz⟩, (by show 8 + m ≤ 1048576; omega)⟩, ⟨rfl, rfl⟩, fun j h1 h2 => absurd h2 (by omega), A, t3, t4, t5, t6, t7, t9, t11, t116, t117, t118, BB, FU⟩ ?_
        clear A t3 t4 t5 t6 t7 t9 t11 t116 t117 t118 BB FU a
        rintro a XL14 ⟨k, q, u, y, lA, cA, hk, hq, hE, h0, hF, A, t3, t4, t5, t6, t7, t9, t11, t116, t117, t118, BB, FU⟩
        have esk := t118
        refine wp_seq ?_
        refine wi_ A (h10_ t3 t4 t5 t6 t7 t9 t11 t116 t117 t118) (rv_ 0 (.bool (decide (k < n))) (fun a ee => execLtW (p := k) (q := n) rfl (ee _) (ee _)) (rf_ [(119, .bool (decide (k < n)))] (h10_ t3 t4 t5 t6 t7 t9 t11 t116 t117 t118) ?_))
        rintro a A ⟨t119, -⟩ ⟨t3, t4, t5, t6, t7, t9, t11, t116, t117, t118, -⟩
        refine wp_seq ?_
        by_cases ltk : k < n
        · rw [decide_eq_true ltk] at t119
          refine wp_cond_true t119 ?_
          refine wp_skip ?_
          clear t119
          refine wp_seq ?_
          refine wp_block ?_
          refine wp_seq ?_
          refine wi_ A (h10_ t3 t4 t5 t6 t7 t9 t11 t116 t117 t118) (rv_ 0 (.pointer (some ⟨adB ov, adO ov + k, none⟩)) (fun a ee => execIdxLs (k := k) ((FO.on BB)) rfl (ee _) (ee _) ltk) (rv_ 1 (xv k) (fun a ee => execLdLs (k := k) ((FO.on BB)) rfl (ee _) ltk) (rf_ [(13, xv k)] (h10_ t3 t4 t5 t6 t7 t9 t11 t116 t117 t118) ?_)))
          rintro a A ⟨t13, -⟩ ⟨t3, t4, t5, t6, t7, t9, t11, t116, t117, t118, -⟩
          refine wp_seq ?_
          by_cases h8 : ln k < 8
          · refine wj_ [0, 1, 2, 3, 4, 5, 6, 7, 8, 9] [] [1] [] A (h11_ t3 t4 t5 t6 t7 t9 t11 t116 t117 t118 t13) (fun X16 bD => ?_)
            refine dv_ 1 (.int .i64 ((ln k : Nat) : Int)) (fun a X ee hb => execLenV (len := ln k) rfl (ee _) (shp ((((FO.on (BB.trans (hb.mono BB.size)))).cell k ltk)))) (dw_ 2 (.bool true) (fun a X ee => execDec (execLtW (p := ln k) (q := 8) rfl (ee _) rfl) (decide_eq_true (by omega))) (dz_ [(131, .bool true)] (h11_ t3 t4 t5 t6 t7 t9 t11 t116 t117 t118 t13) ?_))
            rintro a A ⟨t131, -⟩ ⟨t3, t4, t5, t6, t7, t9, t11, t116, t117, t118, t13, -⟩
            replace FU := (ownD_below FU bD)
            replace BB := BB.trans (bD.mono BB.size)
            clear bD
            refine wp_cond_true t131 ?_
            clear t131
            have hfar : ¬ (rgt (ln k) = true ∧ ∀ i, i < 8 → c k i = nm i) := fun h => by have := rgt_iff.1 h.1; omega
            obtain ⟨g134, egg134⟩ : ∃ z_ : Nat, X16.heap.size = z_ := ⟨_, rfl⟩
            refine wi_ A (h11_ t3 t4 t5 t6 t7 t9 t11 t116 t117 t118 t13) (rs_ 2 (fun a ee => ?_))
            refine stepV rfl rfl (execBsL rfl (ee _) (by obtain ⟨q1, q2, q3⟩ := shp (FO.cell k ltk); exact ⟨q1, _, q2, q3⟩)) ⟨.slice (some ⟨g134, 0, none⟩) 1 1, ⟨_, rfl, by subst egg134; rfl⟩, fun X17_1 hX => ?_⟩
            have bQ : Below X16.heap.size X16 X17_1 := by subst hX egg134; exact (belNew X16 _)
            have Fg134 : (X17_1.heap[g134]? = some (.cells #[xv k] 23)) := by subst hX egg134; exact heapNew X16 _
            replace FU := (ownD_below FU bQ)
            replace BB := BB.trans (bQ.mono BB.size)
            clear bQ hX egg134 ee a
            refine rs_ 3 (fun a ee => ?_)
            refine stepAppLs rfl rfl rfl (ee _) (ee _) FU Fg134 rfl (one_of (shp (FO.cell k ltk))) (by omega) (BB).size fun v135 X17 own' gr => ⟨_, ⟨_, rfl, rfl⟩, eqw ?_⟩
            obtain ⟨BB, FU2⟩ : Below X10.heap.size X10 X17 ∧ (X17.ownsRow X10.heap.size 23 1 (v135) (q + 1) (lL (updX y q (xv k)) (q + 1))) := ⟨(BB).grown gr (BB).size (fun k hk => (FU.lt k hk).1), (lL_upd y q _ ▸ own')⟩
            clear FU Fg134 ee a
            refine rf_ [(11, v135)] (h9_ t3 t4 t5 t6 t7 t9 t116 t117 t118) ?_
            rintro a A ⟨t11, -⟩ ⟨t3, t4, t5, t6, t7, t9, t116, t117, t118, -⟩
            have hq2 : 1 ≤ q + 1 ∧ q + 1 ≤ k + 1 + 1 := (by omega)
            obtain ⟨hE2, h02, hF2⟩ := pushB hq.1 hE h0 hF ⟨⟨FO.cell k ltk, FO.nil k ltk⟩, hln k ltk⟩ hfar
            refine wi_ A (h10_ t3 t4 t5 t6 t7 t9 t11 t116 t117 t118) (rv_ 0 (.int .i64 ((k + 1 : Nat) : Int)) (fun a ee => execAd8 (p := k) (q := 1) rfl (ee _) rfl (by omega)) (rf_ [(118, .int .i64 ((k + 1 : Nat) : Int))] (h9_ t3 t4 t5 t6 t7 t9 t11 t116 t117) ?_))
            rintro a A ⟨t118, -⟩ ⟨t3, t4, t5, t6, t7, t9, t11, t116, t117, -⟩
            exact ⟨⟨k + 1, q + 1, v135, updX y q (xv k), (fun j => if j = q then ln k else lA j), (fun j => if j = q then c k else cA j), ltk, hq2, hE2, h02, hF2, A, t3, t4, t5, t6, t7, t9, t11, t116, t117, t118, BB, FU2⟩, by show n - (intOf (a.eval (.tmp 118))).toNat < n - (intOf (Act.eval _ (.tmp 118))).toNat; rw [t118, esk]; show n - (k + 1) < n - k; omega⟩
          by_cases hst : strN (c k) 8 = strN nm 8
          · refine wj_ [0, 1, 2, 3, 4, 5, 6, 7, 8, 9] [7] [1, 5] [] A (h11_ t3 t4 t5 t6 t7 t9 t11 t116 t117 t118 t13) (fun X16_0 bD => ?_)
            refine dv_ 1 (.int .i64 ((ln k : Nat) : Int)) (fun a X ee hb => execLenV (len := ln k) rfl (ee _) (shp ((((FO.on (BB.trans (hb.mono BB.size)))).cell k ltk)))) (dw_ 2 (.bool false) (fun a X ee => execDec (execLtW (p := ln k) (q := 8) rfl (ee _) rfl) (decide_eq_false (by omega))) (dv_ 5 (cutH (xv k) 8) (fun a X ee hb => execCutH (k := 8) ((((FO.on (BB.trans (hb.mono BB.size)))).cell k ltk)) rfl (ee _) rfl (by omega)) (dw_ 6 (.slice (some ⟨g3, 0, none⟩) 8 8) (fun a X ee => execSl8 rfl (ee _)) (dc_ 7 ((decide_eq_true hst ▸ same28 (c k) nm 8 8 _ _ X16_0 (cutH_is ((FO.on (BB.trans (bD.mono BB.size))).cell k ltk) (by omega)) (slice8 (on9 F3s (BB.trans (bD.mono BB.size))) hn))) (cb_ fun X16 bQ => ?_)))))
            replace bD := bD.trans (bQ.mono bD.size)
            clear bQ
            refine ⟨Or.inr bD, ?_⟩
            refine dw_ 8 (.bool false) (fun a X ee => execNot8 (b := true) rfl (ee _)) (dz_ [(131, .bool false)] (h11_ t3 t4 t5 t6 t7 t9 t11 t116 t117 t118 t13) ?_)
            rintro a A ⟨t131, -⟩ ⟨t3, t4, t5, t6, t7, t9, t11, t116, t117, t118, t13, -⟩
            replace FU := (ownD_below FU bD)
            replace BB := BB.trans (bD.mono BB.size)
            clear bD
            refine wp_cond_false t131 ?_
            refine wp_skip ?_
            clear t131
            have hq2 : 1 ≤ q ∧ q ≤ k + 1 + 1 := (by omega)
            have hE2 := hE
            have h02 := h0
            have hF2 := hF
            refine wi_ A (h11_ t3 t4 t5 t6 t7 t9 t11 t116 t117 t118 t13) (rv_ 0 (.int .i64 ((k + 1 : Nat) : Int)) (fun a ee => execAd8 (p := k) (q := 1) rfl (ee _) rfl (by omega)) (rf_ [(118, .int .i64 ((k + 1 : Nat) : Int))] (h9_ t3 t4 t5 t6 t7 t9 t11 t116 t117) ?_))
            rintro a A ⟨t118, -⟩ ⟨t3, t4, t5, t6, t7, t9, t11, t116, t117, -⟩
            exact ⟨⟨k + 1, q, u, y, lA, cA, ltk, hq2, hE2, h02, hF2, A, t3, t4, t5, t6, t7, t9, t11, t116, t117, t118, BB, FU⟩, by show n - (intOf (a.eval (.tmp 118))).toNat < n - (intOf (Act.eval _ (.tmp 118))).toNat; rw [t118, esk]; show n - (k + 1) < n - k; omega⟩
          · refine wj_ [0, 1, 2, 3, 4, 5, 6, 7, 8, 9] [7] [1, 5] [] A (h11_ t3 t4 t5 t6 t7 t9 t11 t116 t117 t118 t13) (fun X16_0 bD => ?_)
            refine dv_ 1 (.int .i64 ((ln k : Nat) : Int)) (fun a X ee hb => execLenV (len := ln k) rfl (ee _) (shp ((((FO.on (BB.trans (hb.mono BB.size)))).cell k ltk)))) (dw_ 2 (.bool false) (fun a X ee => execDec (execLtW (p := ln k) (q := 8) rfl (ee _) rfl) (decide_eq_false (by omega))) (dv_ 5 (cutH (xv k) 8) (fun a X ee hb => execCutH (k := 8) ((((FO.on (BB.trans (hb.mono BB.size)))).cell k ltk)) rfl (ee _) rfl (by omega)) (dw_ 6 (.slice (some ⟨g3, 0, none⟩) 8 8) (fun a X ee => execSl8 rfl (ee _)) (dc_ 7 ((decide_eq_false hst ▸ same28 (c k) nm 8 8 _ _ X16_0 (cutH_is ((FO.on (BB.trans (bD.mono BB.size))).cell k ltk) (by omega)) (slice8 (on9 F3s (BB.trans (bD.mono BB.size))) hn))) (cb_ fun X16 bQ => ?_)))))
            replace bD := bD.trans (bQ.mono bD.size)
            clear bQ
            refine ⟨Or.inr bD, ?_⟩
            refine dw_ 8 (.bool true) (fun a X ee => execNot8 (b := false) rfl (ee _)) (dz_ [(131, .bool true)] (h11_ t3 t4 t5 t6 t7 t9 t11 t116 t117 t118 t13) ?_)
            rintro a A ⟨t131, -⟩ ⟨t3, t4, t5, t6, t7, t9, t11, t116, t117, t118, t13, -⟩
            replace FU := (ownD_below FU bD)
            replace BB := BB.trans (bD.mono BB.size)
            clear bD
            refine wp_cond_true t131 ?_
            clear t131
            have hfar : ¬ (rgt (ln k) = true ∧ ∀ i, i < 8 → c k i = nm i) := fun h => hst (strN_congr h.2)
            obtain ⟨g134, egg134⟩ : ∃ z_ : Nat, X16.heap.size = z_ := ⟨_, rfl⟩
            refine wi_ A (h11_ t3 t4 t5 t6 t7 t9 t11 t116 t117 t118 t13) (rs_ 2 (fun a ee => ?_))
            refine stepV rfl rfl (execBsL rfl (ee _) (by obtain ⟨q1, q2, q3⟩ := shp (FO.cell k ltk); exact ⟨q1, _, q2, q3⟩)) ⟨.slice (some ⟨g134, 0, none⟩) 1 1, ⟨_, rfl, by subst egg134; rfl⟩, fun X17_1 hX => ?_⟩
            have bQ : Below X16.heap.size X16 X17_1 := by subst hX egg134; exact (belNew X16 _)
            have Fg134 : (X17_1.heap[g134]? = some (.cells #[xv k] 23)) := by subst hX egg134; exact heapNew X16 _
            replace FU := (ownD_below FU bQ)
            replace BB := BB.trans (bQ.mono BB.size)
            clear bQ hX egg134 ee a
            refine rs_ 3 (fun a ee => ?_)
            refine stepAppLs rfl rfl rfl (ee _) (ee _) FU Fg134 rfl (one_of (shp (FO.cell k ltk))) (by omega) (BB).size fun v135 X17 own' gr => ⟨_, ⟨_, rfl, rfl⟩, eqw ?_⟩
            obtain ⟨BB, FU2⟩ : Below X10.heap.size X10 X17 ∧ (X17.ownsRow X10.heap.size 23 1 (v135) (q + 1) (lL (updX y q (xv k)) (q + 1))) := ⟨(BB).grown gr (BB).size (fun k hk => (FU.lt k hk).1), (lL_upd y q _ ▸ own')⟩
            clear FU Fg134 ee a
            refine rf_ [(11, v135)] (h9_ t3 t4 t5 t6 t7 t9 t116 t117 t118) ?_
            rintro a A ⟨t11, -⟩ ⟨t3, t4, t5, t6, t7, t9, t116, t117, t118, -⟩
            have hq2 : 1 ≤ q + 1 ∧ q + 1 ≤ k + 1 + 1 := (by omega)
            obtain ⟨hE2, h02, hF2⟩ := pushB hq.1 hE h0 hF ⟨⟨FO.cell k ltk, FO.nil k ltk⟩, hln k ltk⟩ hfar
            refine wi_ A (h10_ t3 t4 t5 t6 t7 t9 t11 t116 t117 t118) (rv_ 0 (.int .i64 ((k + 1 : Nat) : Int)) (fun a ee => execAd8 (p := k) (q := 1) rfl (ee _) rfl (by omega)) (rf_ [(118, .int .i64 ((k + 1 : Nat) : Int))] (h9_ t3 t4 t5 t6 t7 t9 t11 t116 t117) ?_))
            rintro a A ⟨t118, -⟩ ⟨t3, t4, t5, t6, t7, t9, t11, t116, t117, -⟩
            exact ⟨⟨k + 1, q + 1, v135, updX y q (xv k), (fun j => if j = q then ln k else lA j), (fun j => if j = q then c k else cA j), ltk, hq2, hE2, h02, hF2, A, t3, t4, t5, t6, t7, t9, t11, t116, t117, t118, BB, FU2⟩, by show n - (intOf (a.eval (.tmp 118))).toNat < n - (intOf (Act.eval _ (.tmp 118))).toNat; rw [t118, esk]; show n - (k + 1) < n - k; omega⟩
        · rw [decide_eq_false ltk] at t119
          refine wp_cond_false t119 ?_
          refine wp_exit ?_
          first | with_reducible refine exit_in ?_ | with_reducible refine exit_then (exit_in ?_) | with_reducible refine exit_then (exit_then (exit_in ?_)) | refine exit_in ?_ | refine exit_then (exit_in ?_) | refine exit_then (exit_then (exit_in ?_))
          clear t119 esk
          clear t116 t117 t118 t6
          obtain ⟨lB, elB⟩ : ∃ lB : Nat → Nat, lB = fun j => if j < q then lA j else 8 + s := ⟨_, rfl⟩
          obtain ⟨cB, ecB⟩ : ∃ cB : Nat → Nat → Nat, cB = fun j => if j < q then cA j else rqF nm p := ⟨_, rfl⟩
          have BK : Bk q lB cB := bk_of hq.1 h0 hF (by omega) (by omega) elB ecB
          have hlB : ∀ j, lB j ≤ 2097152 := fun j => by rw [elB]; show (if j < q then lA j else 8 + s) ≤ 2097152; split; exact Nat.le_trans (hE j (by assumption)).2 (by omega); omega
          have elq : lB q = 8 + s := by rw [elB]; exact if_neg (by omega)
          have ecq : cB q = rqF nm p := by rw [ecB]; exact if_neg (by omega)
          have elr : lB (q + 1) = 8 + s := by rw [elB]; exact if_neg (by omega)
          have ecr : cB (q + 1) = rqF nm p := by rw [ecB]; exact if_neg (by omega)
          have el0 : lB 0 = 8 + m := by rw [elB]; exact (if_pos (by omega)).trans h0.1
          have ec0 : cB 0 = rqF nm f := by rw [ecB]; exact (if_pos (by omega)).trans h0.2
          have FL : (Ls XL14 u (q) y lB cB) := (ls_of FU (fun a ha => (hE a ha).1.1.on BB) (fun a ha => (hE a ha).1.2) (fun a ha => Nat.le_trans (hE a ha).2 (by omega))).cg (fun i hi => by rw [elB, ecB]; exact ⟨(if_pos hi).symm, (if_pos hi).symm⟩)
          clear hE hF h0 elB ecB
          replace FF := (FF.on BB)
          replace FSe := (FSe.on BB)
          replace FO := (FO.on BB)
          replace F3s := (on9 F3s BB)
          replace FA := (FA.on BB)
          replace FAz := FAz
          replace FB := (FB.on BB)
          replace FBz := FBz
          replace BW := BW.trans (BB.mono BW.size)
          clear BB
          refine wp_seq ?_
          refine wi_ A (h6_ t3 t4 t5 t7 t9 t11) (rc_ 1 (I.exchange q u y lB cB XL14 FL (by omega) (fun i _ => hlB i)) fun e X19 hh => ?_)
          obtain ⟨⟨v138, y138, he, hk⟩, hb⟩ := hh
          refine ⟨_, he, ?_⟩
          have bQ : Below XL14.heap.size XL14 X19 := hb
          have FX0 : (Ls X19 v138 (q) (y138) (xL (q) lB cB) (xF (q) lB cB)) := hk.ls (fun t _ => by have := xL_le (n := q) (ln := lB) (c := cB) (i := t); omega)
          have bX := bQ
          clear bQ
          refine rf_ [(14, v138)] (h4_ t4 t5 t9 t11) ?_
          rintro a A ⟨t14, -⟩ ⟨t4, t5, t9, t11, -⟩
          replace FF := (FF.on bX)
          replace FSe := (FSe.on bX)
          replace FO := (FO.on bX)
          replace F3s := (on9 F3s bX)
          replace FA := (FA.on bX)
          replace FAz := FAz
          replace FB := (FB.on bX)
          replace FBz := FBz
          replace FU := (ownD_below FU bX)
          replace FL := (FL.on bX)
          have ZX19 := bX.size
          replace BW := BW.trans (bX.mono BW.size)
          clear bX
          refine wp_seq ?_
          obtain ⟨g139, egg139⟩ : ∃ z_ : Nat, X19.heap.size = z_ := ⟨_, rfl⟩
          refine wi_ A (h5_ t4 t5 t9 t11 t14) (rs_ 0 (fun a ee => ?_))
          refine stepV rfl rfl (execBs0L rfl) ⟨.slice (some ⟨g139, 0, none⟩) 0 0, ⟨_, rfl, by subst egg139; rfl⟩, fun X20_1 hX => ?_⟩
          have bQ : Below X19.heap.size X19 X20_1 := by subst hX egg139; exact (belNew X19 _)
          have FP139 : (X20_1.ownsRow X19.heap.size 23 1 (.slice (some ⟨g139, 0, none⟩) 0 0) (0) ([])) := by subst hX egg139; exact ownD_base (own_ls0 X19) ((Below.refl X19.heap.size X19)).size
          have bX := bQ
          clear bQ hX egg139 ee a
          refine rs_ 2 (fun a ee => ?_)
          refine stepAppLL rfl rfl rfl (ee _) (ee _) FP139 (fun h_ => by cases h_) (ownD_below FU bX) (ones_of (FL.on bX)) (by omega) (bX).size fun v141 X20_2 own' hv' gr => ⟨_, ⟨_, rfl, rfl⟩, eqw ?_⟩
          obtain ⟨bX, FP141⟩ : Below X19.heap.size X19 X20_2 ∧ (X20_2.ownsRow X19.heap.size 23 1 (v141) (0 + q) ([] ++ lL y q)) := ⟨(bX).grown gr (bX).size (fun k hk => (FP139.lt k hk).1), own'⟩
          clear FP139 ee a
          obtain ⟨g143, egg143⟩ : ∃ z_ : Nat, X20_2.heap.size = z_ := ⟨_, rfl⟩
          refine rs_ 4 (fun a ee => ?_)
          refine stepV rfl rfl (execBsL rfl (ee _) (by obtain ⟨q1, q2, q3⟩ := shp FB; exact ⟨q1, _, q2, q3⟩)) ⟨.slice (some ⟨g143, 0, none⟩) 1 1, ⟨_, rfl, by subst egg143; rfl⟩, fun X20_3 hX => ?_⟩
          have bQ : Below X20_2.heap.size X20_2 X20_3 := by subst hX egg143; exact (belNew X20_2 _)
          have Fg143 : (X20_3.heap[g143]? = some (.cells #[v43] 23)) := by subst hX egg143; exact heapNew X20_2 _
          replace FP141 := (ownD_below FP141 bQ)
          replace bX := bX.trans (bQ.mono bX.size)
          clear bQ hX egg143 ee a
          refine rs_ 5 (fun a ee => ?_)
          refine stepAppLs rfl rfl rfl (ee _) (ee _) FP141 Fg143 rfl (one_of (shp FB)) (by omega) (bX).size fun v144 X20_4 own' gr => ⟨_, ⟨_, rfl, rfl⟩, eqw ?_⟩
          obtain ⟨bX, FW144⟩ : Below X19.heap.size X19 X20_4 ∧ (Ls X20_4 v144 (q + 1) (updX y q v43) lB cB) := ⟨(bX).grown gr (bX).size (fun k hk => (FP141.lt k hk).1), ls_b1 own' (FL.on ((bX).grown gr (bX).size (fun k hk => (FP141.lt k hk).1))) (FB.on ((bX).grown gr (bX).size (fun k hk => (FP141.lt k hk).1))) FBz elq ecq⟩
          clear FP141 Fg143 ee a
          refine rc_ 6 (I.exchange (q + 1) _ (updX y q v43) lB cB X20_4 FW144 (by omega) (fun i _ => hlB i)) fun e X20 hh => ?_
          obtain ⟨⟨v145, y145, he, hk⟩, hb⟩ := hh
          refine ⟨_, he, ?_⟩
          have bQ : Below X20_4.heap.size X20_4 X20 := hb
          have FX1 : (Ls X20 v145 (q + 1) (y145) (xL (q + 1) lB cB) (xF (q + 1) lB cB)) := hk.ls (fun t _ => by have := xL_le (n := q + 1) (ln := lB) (c := cB) (i := t); omega)
          replace FW144 := (FW144.on bQ)
          replace bX := bX.trans (bQ.mono bX.size)
          clear bQ
          refine rf_ [(15, v145)] (h5_ t4 t5 t9 t11 t14) ?_
          rintro a A ⟨t15, -⟩ ⟨t4, t5, t9, t11, t14, -⟩
          replace FF := (FF.on bX)
          replace FSe := (FSe.on bX)
          replace FO := (FO.on bX)
          replace F3s := (on9 F3s bX)
          replace FA := (FA.on bX)
          replace FAz := FAz
          replace FB := (FB.on bX)
          replace FBz := FBz
          replace FU := (ownD_below FU bX)
          replace FL := (FL.on bX)
          replace FX0 := (FX0.on bX)
          have ZX20 := bX.size
          replace BW := BW.trans (bX.mono BW.size)
          clear bX
          clear FW144
          refine wp_seq ?_
          obtain ⟨g146, egg146⟩ : ∃ z_ : Nat, X20.heap.size = z_ := ⟨_, rfl⟩
          refine wi_ A (h6_ t4 t5 t9 t11 t14 t15) (rs_ 0 (fun a ee => ?_))
          refine stepV rfl rfl (execBs0L rfl) ⟨.slice (some ⟨g146, 0, none⟩) 0 0, ⟨_, rfl, by subst egg146; rfl⟩, fun X21_1 hX => ?_⟩
          have bQ : Below X20.heap.size X20 X21_1 := by subst hX egg146; exact (belNew X20 _)
          have FP146 : (X21_1.ownsRow X20.heap.size 23 1 (.slice (some ⟨g146, 0, none⟩) 0 0) (0) ([])) := by subst hX egg146; exact ownD_base (own_ls0 X20) ((Below.refl X20.heap.size X20)).size
          have bX := bQ
          clear bQ hX egg146 ee a
          refine rs_ 2 (fun a ee => ?_)
          refine stepAppLL rfl rfl rfl (ee _) (ee _) FP146 (fun h_ => by cases h_) (ownD_below FU bX) (ones_of (FL.on bX)) (by omega) (bX).size fun v148 X21_2 own' hv' gr => ⟨_, ⟨_, rfl, rfl⟩, eqw ?_⟩
          obtain ⟨bX, FP148⟩ : Below X20.heap.size X20 X21_2 ∧ (X21_2.ownsRow X20.heap.size 23 1 (v148) (0 + q) ([] ++ lL y q)) := ⟨(bX).grown gr (bX).size (fun k hk => (FP146.lt k hk).1), own'⟩
          clear FP146 ee a
          obtain ⟨g151, egg151⟩ : ∃ z_ : Nat, X21_2.heap.size = z_ := ⟨_, rfl⟩
          refine rs_ 5 (fun a ee => ?_)
          refine stepV rfl rfl (execBsL2 rfl (ee _) (ee _) (by obtain ⟨q1, q2, q3⟩ := shp FB; exact ⟨q1, _, q2, q3⟩) (by obtain ⟨q1, q2, q3⟩ := shp FB; exact ⟨q1, _, q2, q3⟩)) ⟨.slice (some ⟨g151, 0, none⟩) 2 2, ⟨_, rfl, by subst egg151; rfl⟩, fun X21_3 hX => ?_⟩
          have bQ : Below X21_2.heap.size X21_2 X21_3 := by subst hX egg151; exact (belNew X21_2 _)
          have Fg151 : (X21_3.heap[g151]? = some (.cells #[v43, v43] 23)) := by subst hX egg151; exact heapNew X21_2 _
          replace FP148 := (ownD_below FP148 bQ)
          replace bX := bX.trans (bQ.mono bX.size)
          clear bQ hX egg151 ee a
          refine rs_ 6 (fun a ee => ?_)
          refine stepAppLs rfl rfl rfl (ee _) (ee _) FP148 Fg151 rfl (two_of (shp FB)) (by omega) (bX).size fun v152 X21_4 own' gr => ⟨_, ⟨_, rfl, rfl⟩, eqw ?_⟩
          obtain ⟨bX, FW152⟩ : Below X20.heap.size X20 X21_4 ∧ (Ls X21_4 v152 (q + 2) (updX (updX y q v43) (q + 1) v43) lB cB) := ⟨(bX).grown gr (bX).size (fun k hk => (FP148.lt k hk).1), ls_b2 own' (FL.on ((bX).grown gr (bX).size (fun k hk => (FP148.lt k hk).1))) (FB.on ((bX).grown gr (bX).size (fun k hk => (FP148.lt k hk).1))) FBz elq ecq elr ecr⟩
          clear FP148 Fg151 ee a
          refine rc_ 7 (I.exchange (q + 2) _ (updX (updX y q v43) (q + 1) v43) lB cB X21_4 FW152 (by omega) (fun i _ => hlB i)) fun e X21 hh => ?_
          obtain ⟨⟨v153, y153, he, hk⟩, hb⟩ := hh
          refine ⟨_, he, ?_⟩
          have bQ : Below X21_4.heap.size X21_4 X21 := hb
          have FX2 : (Ls X21 v153 (q + 2) (y153) (xL (q + 2) lB cB) (xF (q + 2) lB cB)) := hk.ls (fun t _ => by have := xL_le (n := q + 2) (ln := lB) (c := cB) (i := t); omega)
          replace FW152 := (FW152.on bQ)
          replace bX := bX.trans (bQ.mono bX.size)
          clear bQ
          refine rf_ [(16, v153)] (h6_ t4 t5 t9 t11 t14 t15) ?_
          rintro a A ⟨t16, -⟩ ⟨t4, t5, t9, t11, t14, t15, -⟩
          replace FF := (FF.on bX)
          replace FSe := (FSe.on bX)
          replace FO := (FO.on bX)
          replace F3s := (on9 F3s bX)
          replace FA := (FA.on bX)
          replace FAz := FAz
          replace FB := (FB.on bX)
          replace FBz := FBz
          replace FU := (ownD_below FU bX)
          replace FL := (FL.on bX)
          replace FX0 := (FX0.on bX)
          replace FX1 := (FX1.on bX)
          have ZX21 := bX.size
          replace BW := BW.trans (bX.mono BW.size)
          clear bX
          clear FW152
          refine wp_seq ?_
          refine wi_ A (h7_ t4 t5 t9 t11 t14 t15 t16) (rv_ 1 (.int .i64 ((q : Nat) : Int)) (fun a ee => execLenLL rfl (ee _) (FL).shp) (rf_ [(17, .int .i64 ((q : Nat) : Int))] (h5_ t4 t5 t14 t15 t16) ?_))
          rintro a A ⟨t17, -⟩ ⟨t4, t5, t14, t15, t16, -⟩
          have esA : strN (xF (q) lB cB 0) (xL (q) lB cB 0) = strN (fun _ => 0) 1 := x_str BK.k0 (by decide)
          have esB : strN (xF (q + 2) lB cB 0) (xL (q + 2) lB cB 0) = strN (fun _ => 2) 1 := x_str BK.k2 (by decide)
          have esC : strN (xF (q + 2) lB cB q) (xL (q + 2) lB cB q) = strN (fun _ => 2) 1 := x_str BK.kq2 (by decide)
          refine wp_seq ?_
          refine wp_seq ?_
          obtain ⟨g178, egg178⟩ : ∃ z_ : Nat, X21.heap.size = z_ := ⟨_, rfl⟩
          refine wi_ A (h6_ t4 t5 t14 t15 t16 t17) (rv_ 1 (.int .i64 ((q : Nat) : Int)) (fun a ee => execLenLL rfl (ee _) (FX0).shp) (rv_ 3 (.bool false) (fun a ee => execDec (execNeN (p := q) (q := q) rfl (ee _) (ee _)) (decide_eq_false (by omega))) (rv_ 6 (.int .i64 ((q + 1 : Nat) : Int)) (fun a ee => execLenLL rfl (ee _) (FX1).shp) (rv_ 8 (.int .i64 ((q + 1 : Nat) : Int)) (fun a ee => execAd8 (p := q) (q := 1) rfl (ee _) rfl (by omega)) (rv_ 9 (.bool false) (fun a ee => execDec (execNeN (p := q + 1) (q := q + 1) rfl (ee _) (ee _)) (decide_eq_false (by omega))) (rv_ 13 (.int .i64 ((q + 2 : Nat) : Int)) (fun a ee => execLenLL rfl (ee _) (FX2).shp) (rv_ 15 (.int .i64 ((q + 2 : Nat) : Int)) (fun a ee => execAd8 (p := q) (q := 2) rfl (ee _) rfl (by omega)) (rv_ 16 (.bool false) (fun a ee => execDec (execNeN (p := q + 2) (q := q + 2) rfl (ee _) (ee _)) (decide_eq_false (by omega))) (rv_ 20 (.pointer (some ⟨adB v138, adO v138 + 0, none⟩)) (fun a ee => execIdxLs (k := 0) (FX0) rfl (ee _) rfl (by omega)) (rv_ 21 (y138 0) (fun a ee => execLdLs (k := 0) (FX0) rfl (ee _) (by omega)) (rs_ 22 (fun a ee => ?_))))))))))))
          refine stepV rfl (wy rfl rfl rfl (ee _)) (execBsU rfl) ⟨.slice (some ⟨g178, 0, none⟩) 1 1, ⟨_, rfl, by subst egg178; rfl⟩, fun X23_1 hX => ?_⟩
          have bQ : Below X21.heap.size X21 X23_1 := by subst hX egg178; exact (belNew X21 _)
          have Fg178 : (X23_1.heap[g178]? = some (.cells #[.int .u8 ((0 : Nat) : Int)] 5)) := by subst hX egg178; exact heapNew X21 _
          have bX := bQ
          clear bQ hX egg178 ee a
          refine rc_ 23 ((decide_eq_true esA ▸ same28 _ _ _ _ _ _ X23_1 (((FX0.on bX)).cell 0 (by omega)) (one_slice Fg178 rfl (by omega)))) (cb_ fun X23_2 bQ => ?_)
          replace Fg178 := (on9 Fg178 bQ)
          replace bX := bX.trans (bQ.mono bX.size)
          clear bQ
          obtain ⟨g186, egg186⟩ : ∃ z_ : Nat, X23_2.heap.size = z_ := ⟨_, rfl⟩
          refine rv_ 24 (.bool false) (fun a ee => execNot8 (b := true) rfl (ee _)) (rv_ 28 (.pointer (some ⟨adB v153, adO v153 + 0, none⟩)) (fun a ee => execIdxLs (k := 0) ((FX2.on bX)) rfl (ee _) rfl (by omega)) (rv_ 29 (y153 0) (fun a ee => execLdLs (k := 0) ((FX2.on bX)) rfl (ee _) (by omega)) (rs_ 30 (fun a ee => ?_))))
          refine stepV rfl (wy rfl rfl rfl (ee _)) (execBsU rfl) ⟨.slice (some ⟨g186, 0, none⟩) 1 1, ⟨_, rfl, by subst egg186; rfl⟩, fun X23_3 hX => ?_⟩
          have bQ : Below X23_2.heap.size X23_2 X23_3 := by subst hX egg186; exact (belNew X23_2 _)
          have Fg186 : (X23_3.heap[g186]? = some (.cells #[.int .u8 ((2 : Nat) : Int)] 5)) := by subst hX egg186; exact heapNew X23_2 _
          replace Fg178 := (on9 Fg178 bQ)
          replace bX := bX.trans (bQ.mono bX.size)
          clear bQ hX egg186 ee a
          refine rc_ 31 ((decide_eq_true esB ▸ same28 _ _ _ _ _ _ X23_3 (((FX2.on bX)).cell 0 (by omega)) (one_slice Fg186 rfl (by omega)))) (cb_ fun X23_4 bQ => ?_)
          replace Fg178 := (on9 Fg178 bQ)
          replace Fg186 := (on9 Fg186 bQ)
          replace bX := bX.trans (bQ.mono bX.size)
          clear bQ
          obtain ⟨g195, egg195⟩ : ∃ z_ : Nat, X23_4.heap.size = z_ := ⟨_, rfl⟩
          refine rv_ 32 (.bool false) (fun a ee => execNot8 (b := true) rfl (ee _)) (rv_ 37 (.pointer (some ⟨adB v153, adO v153 + q, none⟩)) (fun a ee => execIdxLs (k := q) ((FX2.on bX)) rfl (ee _) (ee _) (by omega)) (rv_ 38 (y153 q) (fun a ee => execLdLs (k := q) ((FX2.on bX)) rfl (ee _) (by omega)) (rs_ 39 (fun a ee => ?_))))
          refine stepV rfl (wy rfl rfl rfl (ee _)) (execBsU rfl) ⟨.slice (some ⟨g195, 0, none⟩) 1 1, ⟨_, rfl, by subst egg195; rfl⟩, fun X23_5 hX => ?_⟩
          have bQ : Below X23_4.heap.size X23_4 X23_5 := by subst hX egg195; exact (belNew X23_4 _)
          have Fg195 : (X23_5.heap[g195]? = some (.cells #[.int .u8 ((2 : Nat) : Int)] 5)) := by subst hX egg195; exact heapNew X23_4 _
          replace Fg178 := (on9 Fg178 bQ)
          replace Fg186 := (on9 Fg186 bQ)
          replace bX := bX.trans (bQ.mono bX.size)
          clear bQ hX egg195 ee a
          refine rc_ 40 ((decide_eq_true esC ▸ same28 _ _ _ _ _ _ X23_5 (((FX2.on bX)).cell q (by omega)) (one_slice Fg195 rfl (by omega)))) (cb_ fun X23 bQ => ?_)
          replace Fg178 := (on9 Fg178 bQ)
          replace Fg186 := (on9 Fg186 bQ)
          replace Fg195 := (on9 Fg195 bQ)
          replace bX := bX.trans (bQ.mono bX.size)
          clear bQ
          refine rv_ 41 (.bool false) (fun a ee => execNot8 (b := true) rfl (ee _)) (rf_ [(198, .bool false)] (h6_ t4 t5 t14 t15 t16 t17) ?_)
          rintro a A ⟨t198, -⟩ ⟨t4, t5, t14, t15, t16, t17, -⟩
          replace FF := (FF.on bX)
          replace FSe := (FSe.on bX)
          replace FO := (FO.on bX)
          replace F3s := (on9 F3s bX)
          replace FA := (FA.on bX)
          replace FAz := FAz
          replace FB := (FB.on bX)
          replace FBz := FBz
          replace FU := (ownD_below FU bX)
          replace FL := (FL.on bX)
          replace FX0 := (FX0.on bX)
          replace FX1 := (FX1.on bX)
          replace FX2 := (FX2.on bX)
          have ZX23 := bX.size
          replace BW := BW.trans (bX.mono BW.size)
          clear bX
          refine wp_cond_false t198 ?_
          refine wp_skip ?_
          clear t198
          clear Fg178
          clear Fg186
          clear Fg195
          refine wp_seq ?_
          refine wi_ A (h6_ t4 t5 t14 t15 t16 t17) (rv_ 1 (.pointer (some ⟨adB v145, adO v145 + 0, none⟩)) (fun a ee => execIdxLs (k := 0) (FX1) rfl (ee _) rfl (by omega)) (rv_ 2 (y145 0) (fun a ee => execLdLs (k := 0) (FX1) rfl (ee _) (by omega)) (rc_ 3 (ans28k I _ X23 BK.k1 (FX1.cell 0 (by omega)) (FX1.nil 0 (by omega))) fun e X25 hh => ?_)))
          obtain ⟨⟨v203, he, hk⟩, hb⟩ := hh
          refine ⟨_, he, ?_⟩
          have bQ : Below X23.heap.size X23 X25 := hb
          have FM1 : (SliceN X25 v203 (xL (q + 1) lB cB 0 - 1) (anF (xF (q + 1) lB cB 0))) := hk
          have bX := bQ
          clear bQ
          refine rf_ [(18, .int .i64 ((1 : Nat) : Int)), (19, v203), (20, .int .i64 ((0 : Nat) : Int))] (h6_ t4 t5 t14 t15 t16 t17) ?_
          rintro a A ⟨t18, t19, t20, -⟩ ⟨t4, t5, t14, t15, t16, t17, -⟩
          replace FF := (FF.on bX)
          replace FSe := (FSe.on bX)
          replace FO := (FO.on bX)
          replace F3s := (on9 F3s bX)
          replace FA := (FA.on bX)
          replace FAz := FAz
          replace FB := (FB.on bX)
          replace FBz := FBz
          replace FU := (ownD_below FU bX)
          replace FL := (FL.on bX)
          replace FX0 := (FX0.on bX)
          replace FX1 := (FX1.on bX)
          replace FX2 := (FX2.on bX)
          have ZX25 := bX.size
          replace BW := BW.trans (bX.mono BW.size)
          clear bX
          refine wp_seq ?_
          refine wi_ A (h9_ t4 t5 t14 t15 t16 t17 t18 t19 t20) (rv_ 2 (.pointer (some ⟨adB v145, adO v145 + q, none⟩)) (fun a ee => execIdxLs (k := q) (FX1) rfl (ee _) (ee _) (by omega)) (rv_ 3 (y145 q) (fun a ee => execLdLs (k := q) (FX1) rfl (ee _) (by omega)) (rc_ 4 (ans28k I _ X25 BK.kq1 (FX1.cell q (by omega)) (FX1.nil q (by omega))) fun e X26 hh => ?_)))
          obtain ⟨⟨v212, he, hk⟩, hb⟩ := hh
          refine ⟨_, he, ?_⟩
          have bQ : Below X25.heap.size X25 X26 := hb
          have FM2 : (SliceN X26 v212 (xL (q + 1) lB cB q - 1) (anF (xF (q + 1) lB cB q))) := hk
          have bX := bQ
          clear bQ
          refine rf_ [(21, .int .i64 ((1 : Nat) : Int)), (22, v212), (23, .int .i64 ((0 : Nat) : Int))] (h9_ t4 t5 t14 t15 t16 t17 t18 t19 t20) ?_
          rintro a A ⟨t21, t22, t23, -⟩ ⟨t4, t5, t14, t15, t16, t17, t18, t19, t20, -⟩
          replace FF := (FF.on bX)
          replace FSe := (FSe.on bX)
          replace FO := (FO.on bX)
          replace F3s := (on9 F3s bX)
          replace FA := (FA.on bX)
          replace FAz := FAz
          replace FB := (FB.on bX)
          replace FBz := FBz
          replace FU := (ownD_below FU bX)
          replace FL := (FL.on bX)
          replace FX0 := (FX0.on bX)
          replace FX1 := (FX1.on bX)
          replace FX2 := (FX2.on bX)
          replace FM1 := (FM1.on bX)
          have ZX26 := bX.size
          replace BW := BW.trans (bX.mono BW.size)
          clear bX
          have es1 : strN (anF (xF (q + 1) lB cB 0)) (xL (q + 1) lB cB 0 - 1) = strN p s := x_hear BK.k1 BK.p1 elq ecq
          have es2 : strN (anF (xF (q + 1) lB cB q)) (xL (q + 1) lB cB q - 1) = strN f m := x_hear BK.kq1 BK.pq el0 ec0
          refine wp_seq ?_
          refine wj_ [0, 1, 2, 3, 4, 5, 6, 7, 8, 9, 10, 11, 12, 13, 14, 15, 16, 17, 18, 19, 20, 21, 22, 23, 24, 25, 26, 27, 28, 29, 30, 31, 32, 33, 34, 35, 36, 37, 38, 39, 40] [17, 22, 30, 38] [26, 29, 34, 37] [] A (h12_ t4 t5 t14 t15 t16 t17 t18 t19 t20 t21 t22 t23) (fun X27_0 bD => ?_)
          refine dw_ 1 (.bool true) (fun a X ee => execDec (execEqN (p := 1) (q := 1) rfl (ee _) rfl) (decide_eq_true (by omega))) (dw_ 4 (.bool true) (fun a X ee => execDec (execEqN (p := 1) (q := 1) rfl (ee _) rfl) (decide_eq_true (by omega))) (dw_ 8 (.bool true) (fun a X ee => execDec (execEqE (p := 0) (q := 0) rfl (ee _) rfl) (decide_eq_true (by omega))) (dw_ 12 (.bool true) (fun a X ee => execDec (execEqE (p := 0) (q := 0) rfl (ee _) rfl) (decide_eq_true (by omega))) (dc_ 17 ((decide_eq_true es1 ▸ same28 _ _ _ _ _ _ X27_0 (FM1.on bD) (FSe.on bD))) (cb_ fun X27_1 bQ => ?_)))))
          replace bD := bD.trans (bQ.mono bD.size)
          clear bQ
          refine ⟨Or.inr bD, ?_⟩
          refine dc_ 22 ((decide_eq_true es2 ▸ same28 _ _ _ _ _ _ X27_1 (FM2.on bD) (FF.on bD))) (cb_ fun X27_2 bQ => ?_)
          replace bD := bD.trans (bQ.mono bD.size)
          clear bQ
          refine ⟨Or.inr bD, ?_⟩
          refine dv_ 26 (cutLs v138 1 q) (fun a X ee hb => execCutLh (l := 1) ((FX0.on hb)) rfl (ee _) rfl (by omega)) (dv_ 29 (cutLs v145 1 q) (fun a X ee hb => execCutLL (l := 1) (h := q) ((FX1.on hb)) rfl (ee _) rfl (ee _) (by omega) (by omega)) (dc_ 30 (alike28 (q - 1) _ _ _ _ _ _ _ _ X27_2 (((FX0.on bD)).cut 1 q (by omega) (by omega)) (((FX1.on bD)).cut 1 q (by omega) (by omega)) (fun i hi => BK.m1 (by omega) (by omega)) (by omega)) (cb_ fun X27_3 bQ => ?_)))
          replace bD := bD.trans (bQ.mono bD.size)
          clear bQ
          refine ⟨Or.inr bD, ?_⟩
          refine dv_ 34 (cutLs v138 1 q) (fun a X ee hb => execCutLh (l := 1) ((FX0.on hb)) rfl (ee _) rfl (by omega)) (dv_ 37 (cutLs v153 1 q) (fun a X ee hb => execCutLL (l := 1) (h := q) ((FX2.on hb)) rfl (ee _) rfl (ee _) (by omega) (by omega)) (dc_ 38 (alike28 (q - 1) _ _ _ _ _ _ _ _ X27_3 (((FX0.on bD)).cut 1 q (by omega) (by omega)) (((FX2.on bD)).cut 1 q (by omega) (by omega)) (fun i hi => BK.m2 (by omega) (by omega)) (by omega)) (cb_ fun X27 bQ => ?_)))
          replace bD := bD.trans (bQ.mono bD.size)
          clear bQ
          refine ⟨Or.inr bD, ?_⟩
          refine dy_ [(2, .bool true)] ?_
          rintro a A ⟨t2, -⟩
          replace FF := (FF.on bD)
          replace FSe := (FSe.on bD)
          replace FO := (FO.on bD)
          replace F3s := (on9 F3s bD)
          replace FA := (FA.on bD)
          replace FAz := FAz
          replace FB := (FB.on bD)
          replace FBz := FBz
          replace FU := (ownD_below FU bD)
          replace FL := (FL.on bD)
          replace FX0 := (FX0.on bD)
          replace FX1 := (FX1.on bD)
          replace FX2 := (FX2.on bD)
          replace FM1 := (FM1.on bD)
          replace FM2 := (FM2.on bD)
          have ZX27 := bD.size
          replace BW := BW.trans (bD.mono BW.size)
          clear bD
          refine wp_ret ?_
          repeat (first | with_reducible refine ret_in ?_ | with_reducible refine ret_then ?_)
          refine bodyPost_ret (results_tmp rfl _ _ _) A.2 ⟨?_, BW⟩
          show Ending.returned (a.eval (.tmp 2)) = _
          rw [t2]
      · refine wp_cond_true t69 ?_
        clear t69
        refine wp_seq ?_
        refine wi_ A (h8_ t3 t4 t5 t6 t7 t8 t9 t10) (rv_ 1 (.bool true) (fun a ee => execDec (execEqE (p := rqE m) (q := 0) rfl (ee _) rfl) (decide_eq_true (by omega))) (rv_ 13 (.bool true) (fun a ee => execDec (execEqE (p := rqE s) (q := 0) rfl (ee _) rfl) (decide_eq_true (by omega))) (rg_ [(2, .bool true)] ?_)))
        rintro a A ⟨t2, -⟩
        refine wp_ret ?_
        repeat (first | with_reducible refine ret_in ?_ | with_reducible refine ret_then ?_)
        refine bodyPost_ret (results_tmp rfl _ _ _) A.2 ⟨?_, BW⟩
        show Ending.returned (a.eval (.tmp 2)) = _
        rw [t2]
    · have e1 : rqE m = 0 := if_neg (by omega)
      have e2 : rqE s = 1 := if_pos (by omega)
      have n1 : rqN m = 8 + m := if_neg (by omega)
      have n2 : rqN s = 0 := if_pos (by omega)
      refine wi_ A (h8_ t3 t4 t5 t6 t7 t8 t9 t10) (rv_ 1 (.bool true) (fun a ee => execDec (execEqE (p := rqE m) (q := 0) rfl (ee _) rfl) (decide_eq_true (by omega))) (rv_ 3 (.int .i64 ((m : Nat) : Int)) (fun a ee => execLenV (len := m) rfl (ee _) (shp (FF))) (rv_ 4 (.bool true) (fun a ee => execDec (execLeN (p := m) (q := 40) rfl (ee _) rfl) (decide_eq_true (by omega))) (rv_ 5 (.bool false) (fun a ee => execDc (execNeB rfl (ee _) (ee _)) rfl) (rv_ 8 (.bool false) (fun a ee => execDec (execEqE (p := rqE s) (q := 0) rfl (ee _) rfl) (decide_eq_false (by omega))) (rv_ 10 (.int .i64 ((s : Nat) : Int)) (fun a ee => execLenV (len := s) rfl (ee _) (shp (FSe))) (rv_ 11 (.bool false) (fun a ee => execDec (execLeN (p := s) (q := 40) rfl (ee _) rfl) (decide_eq_false (by omega))) (rv_ 12 (.bool false) (fun a ee => execDc (execNeB rfl (ee _) (ee _)) rfl) (rf_ [(59, .bool false)] (h8_ t3 t4 t5 t6 t7 t8 t9 t10) ?_)))))))))
      rintro a A ⟨t59, -⟩ ⟨t3, t4, t5, t6, t7, t8, t9, t10, -⟩
      refine wp_cond_false t59 ?_
      refine wp_skip ?_
      clear t59
      refine wp_seq ?_
      refine wp_seq ?_
      refine wi_ A (h8_ t3 t4 t5 t6 t7 t8 t9 t10) (rv_ 1 (.bool false) (fun a ee => execDec (execNeE (p := rqE m) (q := 0) rfl (ee _) rfl) (decide_eq_false (by omega))) (rv_ 4 (.bool true) (fun a ee => execDec (execNeE (p := rqE s) (q := 0) rfl (ee _) rfl) (decide_eq_true (by omega))) (rf_ [(69, .bool true)] (h8_ t3 t4 t5 t6 t7 t8 t9 t10) ?_)))
      rintro a A ⟨t69, -⟩ ⟨t3, t4, t5, t6, t7, t8, t9, t10, -⟩
      refine wp_cond_true t69 ?_
      clear t69
      refine wp_seq ?_
      refine wi_ A (h8_ t3 t4 t5 t6 t7 t8 t9 t10) (rv_ 1 (.bool true) (fun a ee => execDec (execEqE (p := rqE m) (q := 0) rfl (ee _) rfl) (decide_eq_true (by omega))) (rv_ 13 (.bool false) (fun a ee => execDec (execEqE (p := rqE s) (q := 0) rfl (ee _) rfl) (decide_eq_false (by omega))) (rv_ 16 (.bool true) (fun a ee => execDec (execEqE (p := rqE s) (q := 1) rfl (ee _) rfl) (decide_eq_true (by omega))) (rv_ 19 (.int .i64 ((rqN s : Nat) : Int)) (fun a ee => execLenV (len := rqN s) rfl (ee _) (shp (FB))) (rv_ 20 (.bool true) (fun a ee => execDec (execEqN (p := rqN s) (q := 0) rfl (ee _) rfl) (decide_eq_true (by omega))) (rg_ [(2, .bool true)] ?_))))))
      rintro a A ⟨t2, -⟩
      refine wp_ret ?_
      repeat (first | with_reducible refine ret_in ?_ | with_reducible refine ret_then ?_)
      refine bodyPost_ret (results_tmp rfl _ _ _) A.2 ⟨?_, BW⟩
      show Ending.returned (a.eval (.tmp 2)) = _
      rw [t2]
  · by_cases h2 : s ≤ 40
    · have e1 : rqE m = 1 := if_pos (by omega)
      have e2 : rqE s = 0 := if_neg (by omega)
      have n1 : rqN m = 0 := if_pos (by omega)
      have n2 : rqN s = 8 + s := if_neg (by omega)
      refine wi_ A (h8_ t3 t4 t5 t6 t7 t8 t9 t10) (rv_ 1 (.bool false) (fun a ee => execDec (execEqE (p := rqE m) (q := 0) rfl (ee _) rfl) (decide_eq_false (by omega))) (rv_ 3 (.int .i64 ((m : Nat) : Int)) (fun a ee => execLenV (len := m) rfl (ee _) (shp (FF))) (rv_ 4 (.bool false) (fun a ee => execDec (execLeN (p := m) (q := 40) rfl (ee _) rfl) (decide_eq_false (by omega))) (rv_ 5 (.bool false) (fun a ee => execDc (execNeB rfl (ee _) (ee _)) rfl) (rv_ 8 (.bool true) (fun a ee => execDec (execEqE (p := rqE s) (q := 0) rfl (ee _) rfl) (decide_eq_true (by omega))) (rv_ 10 (.int .i64 ((s : Nat) : Int)) (fun a ee => execLenV (len := s) rfl (ee _) (shp (FSe))) (rv_ 11 (.bool true) (fun a ee => execDec (execLeN (p := s) (q := 40) rfl (ee _) rfl) (decide_eq_true (by omega))) (rv_ 12 (.bool false) (fun a ee => execDc (execNeB rfl (ee _) (ee _)) rfl) (rf_ [(59, .bool false)] (h8_ t3 t4 t5 t6 t7 t8 t9 t10) ?_)))))))))
      rintro a A ⟨t59, -⟩ ⟨t3, t4, t5, t6, t7, t8, t9, t10, -⟩
      refine wp_cond_false t59 ?_
      refine wp_skip ?_
      clear t59
      refine wp_seq ?_
      refine wp_seq ?_
      refine wi_ A (h8_ t3 t4 t5 t6 t7 t8 t9 t10) (rv_ 1 (.bool true) (fun a ee => execDec (execNeE (p := rqE m) (q := 0) rfl (ee _) rfl) (decide_eq_true (by omega))) (rf_ [(69, .bool true)] (h8_ t3 t4 t5 t6 t7 t8 t9 t10) ?_))
      rintro a A ⟨t69, -⟩ ⟨t3, t4, t5, t6, t7, t8, t9, t10, -⟩
      refine wp_cond_true t69 ?_
      clear t69
      refine wp_seq ?_
      refine wi_ A (h8_ t3 t4 t5 t6 t7 t8 t9 t10) (rv_ 1 (.bool false) (fun a ee => execDec (execEqE (p := rqE m) (q := 0) rfl (ee _) rfl) (decide_eq_false (by omega))) (rv_ 4 (.bool true) (fun a ee => execDec (execEqE (p := rqE m) (q := 1) rfl (ee _) rfl) (decide_eq_true (by omega))) (rv_ 7 (.int .i64 ((rqN m : Nat) : Int)) (fun a ee => execLenV (len := rqN m) rfl (ee _) (shp (FA))) (rv_ 8 (.bool true) (fun a ee => execDec (execEqN (p := rqN m) (q := 0) rfl (ee _) rfl) (decide_eq_true (by omega))) (rv_ 13 (.bool true) (fun a ee => execDec (execEqE (p := rqE s) (q := 0) rfl (ee _) rfl) (decide_eq_true (by omega))) (rg_ [(2, .bool true)] ?_))))))
      rintro a A ⟨t2, -⟩
      refine wp_ret ?_
      repeat (first | with_reducible refine ret_in ?_ | with_reducible refine ret_then ?_)
      refine bodyPost_ret (results_tmp rfl _ _ _) A.2 ⟨?_, BW⟩
      show Ending.returned (a.eval (.tmp 2)) = _
      rw [t2]
    · have e1 : rqE m = 1 := if_pos (by omega)
      have e2 : rqE s = 1 := if_pos (by omega)
      have n1 : rqN m = 0 := if_pos (by omega)
      have n2 : rqN s = 0 := if_pos (by omega)
      refine wi_ A (h8_ t3 t4 t5 t6 t7 t8 t9 t10) (rv_ 1 (.bool false) (fun a ee => execDec (execEqE (p := rqE m) (q := 0) rfl (ee _) rfl) (decide_eq_false (by omega))) (rv_ 3 (.int .i64 ((m : Nat) : Int)) (fun a ee => execLenV (len := m) rfl (ee _) (shp (FF))) (rv_ 4 (.bool false) (fun a ee => execDec (execLeN (p := m) (q := 40) rfl (ee _) rfl) (decide_eq_false (by omega))) (rv_ 5 (.bool false) (fun a ee => execDc (execNeB rfl (ee _) (ee _)) rfl) (rv_ 8 (.bool false) (fun a ee => execDec (execEqE (p := rqE s) (q := 0) rfl (ee _) rfl) (decide_eq_false (by omega))) (rv_ 10 (.int .i64 ((s : Nat) : Int)) (fun a ee => execLenV (len := s) rfl (ee _) (shp (FSe))) (rv_ 11 (.bool false) (fun a ee => execDec (execLeN (p := s) (q := 40) rfl (ee _) rfl) (decide_eq_false (by omega))) (rv_ 12 (.bool false) (fun a ee => execDc (execNeB rfl (ee _) (ee _)) rfl) (rf_ [(59, .bool false)] (h8_ t3 t4 t5 t6 t7 t8 t9 t10) ?_)))))))))
      rintro a A ⟨t59, -⟩ ⟨t3, t4, t5, t6, t7, t8, t9, t10, -⟩
      refine wp_cond_false t59 ?_
      refine wp_skip ?_
      clear t59
      refine wp_seq ?_
      refine wp_seq ?_
      refine wi_ A (h8_ t3 t4 t5 t6 t7 t8 t9 t10) (rv_ 1 (.bool true) (fun a ee => execDec (execNeE (p := rqE m) (q := 0) rfl (ee _) rfl) (decide_eq_true (by omega))) (rf_ [(69, .bool true)] (h8_ t3 t4 t5 t6 t7 t8 t9 t10) ?_))
      rintro a A ⟨t69, -⟩ ⟨t3, t4, t5, t6, t7, t8, t9, t10, -⟩
      refine wp_cond_true t69 ?_
      clear t69
      refine wp_seq ?_
      refine wi_ A (h8_ t3 t4 t5 t6 t7 t8 t9 t10) (rv_ 1 (.bool false) (fun a ee => execDec (execEqE (p := rqE m) (q := 0) rfl (ee _) rfl) (decide_eq_false (by omega))) (rv_ 4 (.bool true) (fun a ee => execDec (execEqE (p := rqE m) (q := 1) rfl (ee _) rfl) (decide_eq_true (by omega))) (rv_ 7 (.int .i64 ((rqN m : Nat) : Int)) (fun a ee => execLenV (len := rqN m) rfl (ee _) (shp (FA))) (rv_ 8 (.bool true) (fun a ee => execDec (execEqN (p := rqN m) (q := 0) rfl (ee _) rfl) (decide_eq_true (by omega))) (rv_ 13 (.bool false) (fun a ee => execDec (execEqE (p := rqE s) (q := 0) rfl (ee _) rfl) (decide_eq_false (by omega))) (rv_ 16 (.bool true) (fun a ee => execDec (execEqE (p := rqE s) (q := 1) rfl (ee _) rfl) (decide_eq_true (by omega))) (rv_ 19 (.int .i64 ((rqN s : Nat) : Int)) (fun a ee => execLenV (len := rqN s) rfl (ee _) (shp (FB))) (rv_ 20 (.bool true) (fun a ee => execDec (execEqN (p := rqN s) (q := 0) rfl (ee _) rfl) (decide_eq_true (by omega))) (rg_ [(2, .bool true)] ?_)))))))))
      rintro a A ⟨t2, -⟩
      refine wp_ret ?_
      repeat (first | with_reducible refine ret_in ?_ | with_reducible refine ret_then ?_)
      refine bodyPost_ret (results_tmp rfl _ _ _) A.2 ⟨?_, BW⟩
      show Ending.returned (a.eval (.tmp 2)) = _
      rw [t2]
end Go.Proofs.Ytcibogmghagpoaa.Dro
