import Derived.Test.YtnfokemikcigbaaK8f
import Derived.Test.YtnfokemikcigbaaK8c
import Derived.Test.YtnfokemikcigbaaK8d
namespace Go.Proofs.Ytnfokemikcigbaa.Ord
open Go.RowKit Gf8 Aes By8 Cel Cf Win Drw Prm
open Go.ChangeMaps Go.MapKept
/- The reference's find, Add, Next, First; place, allBelow, awake. Written by tools/mkK8g.py. -/

theorem keepT {W X : World} {g k : Nat} {c d : Array Value} {t u : TypeId} (h : W.heap[k]? = some (.cells d u)) (hg : W.heap[g]? = some (.cells c t)) (ht : t ≠ u) (gr : W.grownBy X (some g)) : X.heap[k]? = some (.cells d u) := by
  rw [gr.block k (Array.getElem?_eq_some_iff.1 h).1 (fun e => by cases e; rw [h] at hg; cases hg; exact ht rfl)]
  exact h
/-- What the reference's First has found among the first k notes. -/
def rfs (p q : Nat → Int) : Nat → Int × Int
  | 0 => (-1, 0)
  | k + 1 => if 0 ≤ p k ∧ q k ≠ 0 ∧ ((rfs p q k).1 < 0 ∨ p k < (rfs p q k).1) then (p k, q k) else rfs p q k
set_option maxRecDepth 100000 in
set_option maxHeartbeats 4000000 in
/-- The reference's First. -/
theorem rfirst (v : Value) (l : Nat) (p q : Nat → Int) (V : World) (hP : SliceP V v l p q) (hl : l ≤ 8796093022208) :
    Calls Try.prog 17 #[v] V fun e w' => e = .returned (.tuple #[.int .i64 (rfs p q l).1, .int .i64 (rfs p q l).2]) ∧ Below V.heap.size V w' := by
  go_enter Try.func17, Try.ntmps17
  refine wo_ 52 [(0, v)] ?_
  rintro a A ⟨t0, -⟩
  have BW : Below V.heap.size V V := Below.refl _ _
  have BB : Below V.heap.size V V := Below.refl _ _
  refine wp_seq ?_
  refine wi_ A (h1_ t0) (rf_ [] (h1_ t0) ?_)
  rintro a A - ⟨t0, -⟩
  refine wp_seq ?_
  refine wi_ A (h1_ t0) (rf_ [(4, .int .i64 (-1)), (5, .int .i64 ((0 : Nat) : Int))] (h1_ t0) ?_)
  rintro a A ⟨t4, t5, -⟩ ⟨t0, -⟩
  refine wp_seq ?_
  refine wp_seq ?_
  refine wi_ A (h3_ t0 t4 t5) (rf_ [(6, .int .i64 ((0 : Nat) : Int))] (h3_ t0 t4 t5) ?_)
  rintro a A ⟨t6, -⟩ ⟨t0, t4, t5, -⟩
  refine wp_block ?_
  refine wp_loop (fun a W => ∃ (i : Nat), i ≤ l ∧ (a.tmps.size = 52 ∧ a.defers = []) ∧ a.eval (.tmp 0) = v ∧ a.eval (.tmp 4) = .int .i64 (rfs p q i).1 ∧ a.eval (.tmp 5) = .int .i64 (rfs p q i).2 ∧ a.eval (.tmp 6) = .int .i64 ((i : Nat) : Int) ∧ Below V.heap.size V W) (fun a _ => l - (intOf (a.eval (.tmp 6))).toNat) ⟨0, Nat.zero_le _, A, t0, t4, t5, t6, BB⟩ ?_
  clear A t0 t4 t5 t6 BB a
  rintro a XL3 ⟨i, hi, A, t0, t4, t5, t6, BB⟩
  have esi := t6
  refine wp_seq ?_
  refine wp_seq ?_
  refine wi_ A (h4_ t0 t4 t5 t6) (rv_ 2 (.int .i64 ((l : Nat) : Int)) (fun a ee => execLnP (len := l) rfl (Or.inr (Or.inl rfl)) (ee _) hP.shp) (rv_ 3 (.bool (decide (i < l))) (fun a ee => execLtW (p := i) (q := l) rfl (ee _) (ee _)) (rf_ [(10, .bool (decide (i < l)))] (h4_ t0 t4 t5 t6) ?_)))
  rintro a A ⟨t10, -⟩ ⟨t0, t4, t5, t6, -⟩
  by_cases lti : i < l
  · rw [decide_eq_true lti] at t10
    refine wp_cond_true t10 ?_
    refine wp_skip ?_
    clear t10
    refine wp_seq ?_
    refine wp_block ?_
    obtain ⟨pb, po, pc, ep_, hpb, hpc⟩ := hP.at (show 0 < l by omega)
    have cP : ∀ X, Below V.heap.size V X → X.cell? ⟨pb, po + i * 2, none⟩ = some (.int .i64 (p i)) ∧ X.cell? ⟨pb, po + i * 2 + 1, none⟩ = some (.int .i64 (q i)) := fun X hX => ⟨by rw [cell_below hX hpb]; exact (hpc i lti).1, by rw [cell_below hX hpb]; exact (hpc i lti).2⟩
    by_cases c1 : p i ≥ 0
    · by_cases c2 : q i ≠ 0
      · by_cases c3 : (rfs p q i).1 < 0
        · refine wp_seq ?_
          refine wi_ A (h4_ t0 t4 t5 t6) (rv_ 2 (.pointer (some ⟨pb, po + i * 2, none⟩)) (fun a ee => execIxP (k := i) rfl (Or.inr (Or.inl rfl)) ((ee _).trans ep_) (ee _) lti) (rv_ 3 (.pointer (some ⟨pb, po + i * 2, none⟩)) (fun a ee => execFqD0 rfl (ee _)) (rv_ 4 (.int .i64 (p i)) (fun a ee => execL20 rfl (Or.inl rfl) (ee _) (cP XL3 BB).1) (rv_ 5 (.bool true) (fun a ee => execDec (exIgeq3 (p := (p i)) (q := 0) rfl (ee _) rfl) (decide_eq_true c1)) (rv_ 9 (.pointer (some ⟨pb, po + i * 2, none⟩)) (fun a ee => execIxP (k := i) rfl (Or.inr (Or.inl rfl)) ((ee _).trans ep_) (ee _) lti) (rv_ 10 (.pointer (some ⟨pb, po + i * 2 + 1, none⟩)) (fun a ee => execFqD1 rfl (ee _)) (rv_ 11 (.int .i64 (q i)) (fun a ee => execL20 rfl (Or.inl rfl) (ee _) (cP XL3 BB).2) (rv_ 12 (.bool true) (fun a ee => execDec (exIneq3 (p := (q i)) (q := 0) rfl (ee _) rfl) (decide_eq_true c2)) (rv_ 16 (.bool true) (fun a ee => execDec (exIlss3 (p := (rfs p q i).1) (q := 0) rfl (ee _) rfl) (decide_eq_true c3)) (rf_ [(39, .bool true)] (h4_ t0 t4 t5 t6) ?_))))))))))
          rintro a A ⟨t39, -⟩ ⟨t0, t4, t5, t6, -⟩
          refine wp_cond_true t39 ?_
          clear t39
          refine wj_ [0, 1, 2, 3, 4, 5, 6, 7, 8, 9, 10, 11] [] [4, 9] [] A (h4_ t0 t4 t5 t6) (fun X6 bD => ?_)
          refine dw_ 2 (.pointer (some ⟨pb, po + i * 2, none⟩)) (fun a X ee => execIxP (k := i) rfl (Or.inr (Or.inl rfl)) ((ee _).trans ep_) (ee _) lti) (dw_ 3 (.pointer (some ⟨pb, po + i * 2, none⟩)) (fun a X ee => execFqD0 rfl (ee _)) (dv_ 4 (.int .i64 (p i)) (fun a X ee hb => execL20 rfl (Or.inl rfl) (ee _) (cP X (BB.trans (hb.mono BB.size))).1) (dw_ 7 (.pointer (some ⟨pb, po + i * 2, none⟩)) (fun a X ee => execIxP (k := i) rfl (Or.inr (Or.inl rfl)) ((ee _).trans ep_) (ee _) lti) (dw_ 8 (.pointer (some ⟨pb, po + i * 2 + 1, none⟩)) (fun a X ee => execFqD1 rfl (ee _)) (dv_ 9 (.int .i64 (q i)) (fun a X ee hb => execL20 rfl (Or.inl rfl) (ee _) (cP X (BB.trans (hb.mono BB.size))).2) (dz_ [(4, .int .i64 (p i)), (5, .int .i64 (q i))] (h2_ t0 t6) ?_))))))
          rintro a A ⟨t4, t5, -⟩ ⟨t0, t6, -⟩
          replace BB := BB.trans (bD.mono BB.size)
          clear bD
          have ers : rfs p q (i + 1) = (p i, q i) := if_pos ⟨c1, c2, Or.inl c3⟩
          replace t4 : a.eval (.tmp 4) = .int .i64 (rfs p q (i + 1)).1 := by rw [ers]; exact t4
          replace t5 : a.eval (.tmp 5) = .int .i64 (rfs p q (i + 1)).2 := by rw [ers]; exact t5
          refine wi_ A (h4_ t0 t4 t5 t6) (rv_ 1 (.int .i64 ((i + 1 : Nat) : Int)) (fun a ee => execAd8 (p := i) (q := 1) rfl (ee _) rfl (by omega)) (rf_ [(6, .int .i64 ((i + 1 : Nat) : Int))] (h3_ t0 t4 t5) ?_))
          rintro a A ⟨t6, -⟩ ⟨t0, t4, t5, -⟩
          exact ⟨⟨i + 1, lti, A, t0, t4, t5, t6, BB⟩, by show l - (intOf (a.eval (.tmp 6))).toNat < l - (intOf (Act.eval _ (.tmp 6))).toNat; rw [t6, esi]; show l - (i + 1) < l - i; omega⟩
        · by_cases c4 : p i < (rfs p q i).1
          · refine wp_seq ?_
            refine wi_ A (h4_ t0 t4 t5 t6) (rv_ 2 (.pointer (some ⟨pb, po + i * 2, none⟩)) (fun a ee => execIxP (k := i) rfl (Or.inr (Or.inl rfl)) ((ee _).trans ep_) (ee _) lti) (rv_ 3 (.pointer (some ⟨pb, po + i * 2, none⟩)) (fun a ee => execFqD0 rfl (ee _)) (rv_ 4 (.int .i64 (p i)) (fun a ee => execL20 rfl (Or.inl rfl) (ee _) (cP XL3 BB).1) (rv_ 5 (.bool true) (fun a ee => execDec (exIgeq3 (p := (p i)) (q := 0) rfl (ee _) rfl) (decide_eq_true c1)) (rv_ 9 (.pointer (some ⟨pb, po + i * 2, none⟩)) (fun a ee => execIxP (k := i) rfl (Or.inr (Or.inl rfl)) ((ee _).trans ep_) (ee _) lti) (rv_ 10 (.pointer (some ⟨pb, po + i * 2 + 1, none⟩)) (fun a ee => execFqD1 rfl (ee _)) (rv_ 11 (.int .i64 (q i)) (fun a ee => execL20 rfl (Or.inl rfl) (ee _) (cP XL3 BB).2) (rv_ 12 (.bool true) (fun a ee => execDec (exIneq3 (p := (q i)) (q := 0) rfl (ee _) rfl) (decide_eq_true c2)) (rv_ 16 (.bool false) (fun a ee => execDec (exIlss3 (p := (rfs p q i).1) (q := 0) rfl (ee _) rfl) (decide_eq_false c3)) (rv_ 20 (.pointer (some ⟨pb, po + i * 2, none⟩)) (fun a ee => execIxP (k := i) rfl (Or.inr (Or.inl rfl)) ((ee _).trans ep_) (ee _) lti) (rv_ 21 (.pointer (some ⟨pb, po + i * 2, none⟩)) (fun a ee => execFqD0 rfl (ee _)) (rv_ 22 (.int .i64 (p i)) (fun a ee => execL20 rfl (Or.inl rfl) (ee _) (cP XL3 BB).1) (rv_ 24 (.bool true) (fun a ee => execDec (exIlss3 (p := (p i)) (q := (rfs p q i).1) rfl (ee _) (ee _)) (decide_eq_true c4)) (rf_ [(39, .bool true)] (h4_ t0 t4 t5 t6) ?_))))))))))))))
            rintro a A ⟨t39, -⟩ ⟨t0, t4, t5, t6, -⟩
            refine wp_cond_true t39 ?_
            clear t39
            refine wj_ [0, 1, 2, 3, 4, 5, 6, 7, 8, 9, 10, 11] [] [4, 9] [] A (h4_ t0 t4 t5 t6) (fun X6 bD => ?_)
            refine dw_ 2 (.pointer (some ⟨pb, po + i * 2, none⟩)) (fun a X ee => execIxP (k := i) rfl (Or.inr (Or.inl rfl)) ((ee _).trans ep_) (ee _) lti) (dw_ 3 (.pointer (some ⟨pb, po + i * 2, none⟩)) (fun a X ee => execFqD0 rfl (ee _)) (dv_ 4 (.int .i64 (p i)) (fun a X ee hb => execL20 rfl (Or.inl rfl) (ee _) (cP X (BB.trans (hb.mono BB.size))).1) (dw_ 7 (.pointer (some ⟨pb, po + i * 2, none⟩)) (fun a X ee => execIxP (k := i) rfl (Or.inr (Or.inl rfl)) ((ee _).trans ep_) (ee _) lti) (dw_ 8 (.pointer (some ⟨pb, po + i * 2 + 1, none⟩)) (fun a X ee => execFqD1 rfl (ee _)) (dv_ 9 (.int .i64 (q i)) (fun a X ee hb => execL20 rfl (Or.inl rfl) (ee _) (cP X (BB.trans (hb.mono BB.size))).2) (dz_ [(4, .int .i64 (p i)), (5, .int .i64 (q i))] (h2_ t0 t6) ?_))))))
            rintro a A ⟨t4, t5, -⟩ ⟨t0, t6, -⟩
            replace BB := BB.trans (bD.mono BB.size)
            clear bD
            have ers : rfs p q (i + 1) = (p i, q i) := if_pos ⟨c1, c2, Or.inr c4⟩
            replace t4 : a.eval (.tmp 4) = .int .i64 (rfs p q (i + 1)).1 := by rw [ers]; exact t4
            replace t5 : a.eval (.tmp 5) = .int .i64 (rfs p q (i + 1)).2 := by rw [ers]; exact t5
            refine wi_ A (h4_ t0 t4 t5 t6) (rv_ 1 (.int .i64 ((i + 1 : Nat) : Int)) (fun a ee => execAd8 (p := i) (q := 1) rfl (ee _) rfl (by omega)) (rf_ [(6, .int .i64 ((i + 1 : Nat) : Int))] (h3_ t0 t4 t5) ?_))
            rintro a A ⟨t6, -⟩ ⟨t0, t4, t5, -⟩
            exact ⟨⟨i + 1, lti, A, t0, t4, t5, t6, BB⟩, by show l - (intOf (a.eval (.tmp 6))).toNat < l - (intOf (Act.eval _ (.tmp 6))).toNat; rw [t6, esi]; show l - (i + 1) < l - i; omega⟩
          · refine wp_seq ?_
            refine wi_ A (h4_ t0 t4 t5 t6) (rv_ 2 (.pointer (some ⟨pb, po + i * 2, none⟩)) (fun a ee => execIxP (k := i) rfl (Or.inr (Or.inl rfl)) ((ee _).trans ep_) (ee _) lti) (rv_ 3 (.pointer (some ⟨pb, po + i * 2, none⟩)) (fun a ee => execFqD0 rfl (ee _)) (rv_ 4 (.int .i64 (p i)) (fun a ee => execL20 rfl (Or.inl rfl) (ee _) (cP XL3 BB).1) (rv_ 5 (.bool true) (fun a ee => execDec (exIgeq3 (p := (p i)) (q := 0) rfl (ee _) rfl) (decide_eq_true c1)) (rv_ 9 (.pointer (some ⟨pb, po + i * 2, none⟩)) (fun a ee => execIxP (k := i) rfl (Or.inr (Or.inl rfl)) ((ee _).trans ep_) (ee _) lti) (rv_ 10 (.pointer (some ⟨pb, po + i * 2 + 1, none⟩)) (fun a ee => execFqD1 rfl (ee _)) (rv_ 11 (.int .i64 (q i)) (fun a ee => execL20 rfl (Or.inl rfl) (ee _) (cP XL3 BB).2) (rv_ 12 (.bool true) (fun a ee => execDec (exIneq3 (p := (q i)) (q := 0) rfl (ee _) rfl) (decide_eq_true c2)) (rv_ 16 (.bool false) (fun a ee => execDec (exIlss3 (p := (rfs p q i).1) (q := 0) rfl (ee _) rfl) (decide_eq_false c3)) (rv_ 20 (.pointer (some ⟨pb, po + i * 2, none⟩)) (fun a ee => execIxP (k := i) rfl (Or.inr (Or.inl rfl)) ((ee _).trans ep_) (ee _) lti) (rv_ 21 (.pointer (some ⟨pb, po + i * 2, none⟩)) (fun a ee => execFqD0 rfl (ee _)) (rv_ 22 (.int .i64 (p i)) (fun a ee => execL20 rfl (Or.inl rfl) (ee _) (cP XL3 BB).1) (rv_ 24 (.bool false) (fun a ee => execDec (exIlss3 (p := (p i)) (q := (rfs p q i).1) rfl (ee _) (ee _)) (decide_eq_false c4)) (rf_ [(39, .bool false)] (h4_ t0 t4 t5 t6) ?_))))))))))))))
            rintro a A ⟨t39, -⟩ ⟨t0, t4, t5, t6, -⟩
            refine wp_cond_false t39 ?_
            refine wp_skip ?_
            clear t39
            have ers : rfs p q (i + 1) = rfs p q i := if_neg (fun w => w.2.2.elim c3 c4)
            replace t4 : a.eval (.tmp 4) = .int .i64 (rfs p q (i + 1)).1 := by rw [ers]; exact t4
            replace t5 : a.eval (.tmp 5) = .int .i64 (rfs p q (i + 1)).2 := by rw [ers]; exact t5
            refine wi_ A (h4_ t0 t4 t5 t6) (rv_ 1 (.int .i64 ((i + 1 : Nat) : Int)) (fun a ee => execAd8 (p := i) (q := 1) rfl (ee _) rfl (by omega)) (rf_ [(6, .int .i64 ((i + 1 : Nat) : Int))] (h3_ t0 t4 t5) ?_))
            rintro a A ⟨t6, -⟩ ⟨t0, t4, t5, -⟩
            exact ⟨⟨i + 1, lti, A, t0, t4, t5, t6, BB⟩, by show l - (intOf (a.eval (.tmp 6))).toNat < l - (intOf (Act.eval _ (.tmp 6))).toNat; rw [t6, esi]; show l - (i + 1) < l - i; omega⟩
      · refine wp_seq ?_
        refine wi_ A (h4_ t0 t4 t5 t6) (rv_ 2 (.pointer (some ⟨pb, po + i * 2, none⟩)) (fun a ee => execIxP (k := i) rfl (Or.inr (Or.inl rfl)) ((ee _).trans ep_) (ee _) lti) (rv_ 3 (.pointer (some ⟨pb, po + i * 2, none⟩)) (fun a ee => execFqD0 rfl (ee _)) (rv_ 4 (.int .i64 (p i)) (fun a ee => execL20 rfl (Or.inl rfl) (ee _) (cP XL3 BB).1) (rv_ 5 (.bool true) (fun a ee => execDec (exIgeq3 (p := (p i)) (q := 0) rfl (ee _) rfl) (decide_eq_true c1)) (rv_ 9 (.pointer (some ⟨pb, po + i * 2, none⟩)) (fun a ee => execIxP (k := i) rfl (Or.inr (Or.inl rfl)) ((ee _).trans ep_) (ee _) lti) (rv_ 10 (.pointer (some ⟨pb, po + i * 2 + 1, none⟩)) (fun a ee => execFqD1 rfl (ee _)) (rv_ 11 (.int .i64 (q i)) (fun a ee => execL20 rfl (Or.inl rfl) (ee _) (cP XL3 BB).2) (rv_ 12 (.bool false) (fun a ee => execDec (exIneq3 (p := (q i)) (q := 0) rfl (ee _) rfl) (decide_eq_false c2)) (rf_ [(39, .bool false)] (h4_ t0 t4 t5 t6) ?_)))))))))
        rintro a A ⟨t39, -⟩ ⟨t0, t4, t5, t6, -⟩
        refine wp_cond_false t39 ?_
        refine wp_skip ?_
        clear t39
        have ers : rfs p q (i + 1) = rfs p q i := if_neg (fun w => c2 w.2.1)
        replace t4 : a.eval (.tmp 4) = .int .i64 (rfs p q (i + 1)).1 := by rw [ers]; exact t4
        replace t5 : a.eval (.tmp 5) = .int .i64 (rfs p q (i + 1)).2 := by rw [ers]; exact t5
        refine wi_ A (h4_ t0 t4 t5 t6) (rv_ 1 (.int .i64 ((i + 1 : Nat) : Int)) (fun a ee => execAd8 (p := i) (q := 1) rfl (ee _) rfl (by omega)) (rf_ [(6, .int .i64 ((i + 1 : Nat) : Int))] (h3_ t0 t4 t5) ?_))
        rintro a A ⟨t6, -⟩ ⟨t0, t4, t5, -⟩
        exact ⟨⟨i + 1, lti, A, t0, t4, t5, t6, BB⟩, by show l - (intOf (a.eval (.tmp 6))).toNat < l - (intOf (Act.eval _ (.tmp 6))).toNat; rw [t6, esi]; show l - (i + 1) < l - i; omega⟩
    · refine wp_seq ?_
      refine wi_ A (h4_ t0 t4 t5 t6) (rv_ 2 (.pointer (some ⟨pb, po + i * 2, none⟩)) (fun a ee => execIxP (k := i) rfl (Or.inr (Or.inl rfl)) ((ee _).trans ep_) (ee _) lti) (rv_ 3 (.pointer (some ⟨pb, po + i * 2, none⟩)) (fun a ee => execFqD0 rfl (ee _)) (rv_ 4 (.int .i64 (p i)) (fun a ee => execL20 rfl (Or.inl rfl) (ee _) (cP XL3 BB).1) (rv_ 5 (.bool false) (fun a ee => execDec (exIgeq3 (p := (p i)) (q := 0) rfl (ee _) rfl) (decide_eq_false c1)) (rf_ [(39, .bool false)] (h4_ t0 t4 t5 t6) ?_)))))
      rintro a A ⟨t39, -⟩ ⟨t0, t4, t5, t6, -⟩
      refine wp_cond_false t39 ?_
      refine wp_skip ?_
      clear t39
      have ers : rfs p q (i + 1) = rfs p q i := if_neg (fun w => c1 w.1)
      replace t4 : a.eval (.tmp 4) = .int .i64 (rfs p q (i + 1)).1 := by rw [ers]; exact t4
      replace t5 : a.eval (.tmp 5) = .int .i64 (rfs p q (i + 1)).2 := by rw [ers]; exact t5
      refine wi_ A (h4_ t0 t4 t5 t6) (rv_ 1 (.int .i64 ((i + 1 : Nat) : Int)) (fun a ee => execAd8 (p := i) (q := 1) rfl (ee _) rfl (by omega)) (rf_ [(6, .int .i64 ((i + 1 : Nat) : Int))] (h3_ t0 t4 t5) ?_))
      rintro a A ⟨t6, -⟩ ⟨t0, t4, t5, -⟩
      exact ⟨⟨i + 1, lti, A, t0, t4, t5, t6, BB⟩, by show l - (intOf (a.eval (.tmp 6))).toNat < l - (intOf (Act.eval _ (.tmp 6))).toNat; rw [t6, esi]; show l - (i + 1) < l - i; omega⟩
  rw [decide_eq_false lti] at t10
  refine wp_cond_false t10 ?_
  refine wp_exit ?_
  first | with_reducible refine exit_in ?_ | with_reducible refine exit_then (exit_in ?_) | with_reducible refine exit_then (exit_then (exit_in ?_)) | refine exit_in ?_ | refine exit_then (exit_in ?_) | refine exit_then (exit_then (exit_in ?_))
  clear t10 esi
  obtain rfl : l = i := by omega
  refine wp_seq ?_
  refine wi_ A (h4_ t0 t4 t5 t6) (rg_ [(2, .int .i64 (rfs p q l).1), (3, .int .i64 (rfs p q l).2)] ?_)
  rintro a A ⟨t2, t3, -⟩
  refine wp_ret ?_
  refine bodyPost_ret (results_tmp2 rfl _ _ _) A.2 ⟨?_, BB⟩
  show Ending.returned (.tuple #[a.eval (.tmp 2), a.eval (.tmp 3)]) = _
  rw [t2, t3]
end Go.Proofs.Ytnfokemikcigbaa.Ord
