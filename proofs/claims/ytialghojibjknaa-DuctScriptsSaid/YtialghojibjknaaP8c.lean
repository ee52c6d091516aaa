import Derived.Test.YtialghojibjknaaP8b
import Derived.WalkKit
namespace Go.Proofs.Ytialghojibjknaa.Duc
open Go.RowKit Gf8 Aes By8 Cel Cf Win Drw Prm
/- What the law asks of a duct, by its contract. Written by tools/mkP8c.py. -/

section
variable {El : Value → Prop} {zv : Value} {fN fP fT fC fL fK fD fU fE : FuncId} (I : DImpl El zv fN fP fT fC fL fK fD fU fE) {V W X : World} {F : Nat → Prop} {v u : Value} {x : Nat → Value} {n k : Nat} {c : Bool}
theorem DImpl.on (h : I.R V F v x n k c) (hb : Below V.heap.size V X) : I.R X F v x n k c := I.frame h (fun b hF => hb.block b (I.lt h b hF)) hb.size
theorem DImpl.put_t (h : I.R V F v x n k c) (hu : El u) (hq : c = false ∧ n < k) : Calls Try.prog fP #[v, u] V fun e w' => ∃ F', e = .returned (.tuple #[.bool true, .int .i64 ((0 : Nat) : Int)]) ∧ I.R w' F' v (up x n u) (n + 1) k c ∧ Saved F V w' ∧ ∀ q, F' q → F q ∨ V.heap.size ≤ q := by
  have h1 := I.put h hu
  rw [decide_eq_true hq, if_pos hq, hq.1] at h1
  rw [hq.1]
  exact h1
theorem DImpl.put_f (h : I.R V F v x n k false) (hu : El u) (hq : ¬ n < k) : Calls Try.prog fP #[v, u] V fun e w' => ∃ F', e = .returned (.tuple #[.bool false, .int .i64 ((0 : Nat) : Int)]) ∧ I.R w' F' v x n k false ∧ Saved F V w' ∧ ∀ q, F' q → F q ∨ V.heap.size ≤ q := by
  have h1 := I.put h hu
  rw [decide_eq_false (fun w => hq w.2), if_neg (c := false = false ∧ n < k) (fun w => hq w.2)] at h1
  exact Calls.mono h1 fun e w' ⟨F', he, hR, hs, hf⟩ => ⟨F', he, I.cg hR (fun j hj => up_ne _ _ (Nat.ne_of_lt hj)), hs, hf⟩
theorem DImpl.put_c (h : I.R V F v x n k true) (hu : El u) : Calls Try.prog fP #[v, u] V fun e w' => ∃ F', e = .returned (.tuple #[.bool false, .int .i64 ((180 : Nat) : Int)]) ∧ I.R w' F' v x n k true ∧ Saved F V w' ∧ ∀ q, F' q → F q ∨ V.heap.size ≤ q := by
  have h1 := I.put h hu
  rw [decide_eq_false (fun w => by cases w.1), if_neg (c := true = false ∧ n < k) (fun w => by cases w.1)] at h1
  exact Calls.mono h1 fun e w' ⟨F', he, hR, hs, hf⟩ => ⟨F', he, I.cg hR (fun j hj => up_ne _ _ (Nat.ne_of_lt hj)), hs, hf⟩
theorem DImpl.take_o (h : I.R V F v x n k c) (hn : 0 < n) : Calls Try.prog fT #[v] V fun e w' => ∃ F', e = .returned (.tuple #[x 0, .bool true, .int .i64 ((0 : Nat) : Int)]) ∧ I.R w' F' v (fun j => x (j + 1)) (n - 1) k c ∧ Saved F V w' ∧ ∀ q, F' q → F q ∨ V.heap.size ≤ q := by
  have h1 := I.take h
  rw [decide_eq_true hn, if_pos hn, if_neg (fun w => by omega)] at h1
  exact h1
theorem DImpl.take_e (h : I.R V F v x n k false) (hn : n = 0) : Calls Try.prog fT #[v] V fun e w' => ∃ F', e = .returned (.tuple #[zv, .bool false, .int .i64 ((0 : Nat) : Int)]) ∧ I.R w' F' v x n k false ∧ Saved F V w' ∧ ∀ q, F' q → F q ∨ V.heap.size ≤ q := by
  have h1 := I.take h
  rw [decide_eq_false (by omega), if_neg (by omega), if_neg (fun w => by cases w.2), show n - 1 = n by omega] at h1
  exact Calls.mono h1 fun e w' ⟨F', he, hR, hs, hf⟩ => ⟨F', he, I.cg hR (fun j hj => by omega), hs, hf⟩
theorem DImpl.take_c (h : I.R V F v x n k true) (hn : n = 0) : Calls Try.prog fT #[v] V fun e w' => ∃ F', e = .returned (.tuple #[zv, .bool false, .int .i64 ((180 : Nat) : Int)]) ∧ I.R w' F' v x n k true ∧ Saved F V w' ∧ ∀ q, F' q → F q ∨ V.heap.size ≤ q := by
  have h1 := I.take h
  rw [decide_eq_false (by omega), if_neg (by omega), if_pos ⟨hn, rfl⟩, show n - 1 = n by omega] at h1
  exact Calls.mono h1 fun e w' ⟨F', he, hR, hs, hf⟩ => ⟨F', he, I.cg hR (fun j hj => by omega), hs, hf⟩
theorem DImpl.canPut_b (h : I.R V F v x n k c) {b : Bool} (hq : decide (c = false ∧ n < k) = b) : Calls Try.prog fU #[v] V fun e w' => e = .returned (.bool b) ∧ Below V.heap.size V w' := hq ▸ I.canPut h
theorem DImpl.canTake_b (h : I.R V F v x n k c) {b : Bool} (hq : decide (0 < n) = b) : Calls Try.prog fE #[v] V fun e w' => e = .returned (.bool b) ∧ Below V.heap.size V w' := hq ▸ I.canTake h
end
set_option maxRecDepth 100000 in
set_option maxHeartbeats 4000000 in
/-- told. -/
theorem told_c (I : ImplI) (v r : Value) (F : Nat → Prop) (x : Nat → Value) (n k B : Nat) (z : Nat → Int) (V : World) (hR : I.R V F v x n k true) (own : V.ownsRow B 3 1 r n (intsL n z)) :
    Calls Try.prog 10 #[v, .agg (dC r ((k : Nat) : Int) true)] V fun e w' => e = .returned (.bool true) ∧ Below V.heap.size V w' := by
  go_enter Try.func10, Try.ntmps10
  by_cases h0 : 0 < n
  · refine wo_ 48 [(0, v), (1, .agg (dC r ((k : Nat) : Int) true))] ?_
    rintro a A ⟨t0, t1, -⟩
    have BW : Below V.heap.size V V := Below.refl _ _
    have BB : Below V.heap.size V V := Below.refl _ _
    refine wp_seq ?_
    obtain ⟨g3, egg3⟩ : ∃ z_ : Nat, V.heap.size = z_ := ⟨_, rfl⟩
    refine wi_ A (h2_ t0 t1) (rs_ 0 (fun a ee => ?_))
    refine stepV rfl rfl (execBxD rfl (ee _) (own_slq own)) ⟨.pointer (some ⟨g3, 0, none⟩), ⟨_, rfl, by subst egg3; rfl⟩, fun X0 hX => ?_⟩
    have bQ : Below V.heap.size V X0 := by subst hX egg3; exact (belNew V _)
    have Fg3 : (X0.heap[g3]? = some (.cells (dC r ((k : Nat) : Int) true) 32)) := by subst hX egg3; exact heapNew V _
    have Fgeg3 : (V.heap.size ≤ g3) := by subst hX egg3; exact (BB).size
    replace BB := BB.trans (bQ.mono BB.size)
    clear bQ hX egg3 ee a
    refine rf_ [(3, .pointer (some ⟨g3, 0, none⟩))] (h1_ t0) ?_
    rintro a A ⟨t3, -⟩ ⟨t0, -⟩
    refine wp_seq ?_
    refine wp_seq ?_
    refine wj_ [0, 2, 3, 4, 1, 5, 6, 7, 8, 9, 10, 11, 12, 13, 14, 15, 17, 18, 19, 20, 16, 21, 22] [1, 16] [3, 18] [] A (h2_ t0 t3) (fun X1_0 bD => ?_)
    refine dw_ 2 (.pointer (some ⟨g3, 0 + 2, none⟩)) (fun a X ee => execFd2 rfl (ee _)) (dv_ 3 (.bool true) (fun a X ee hb => execLd1 rfl (Or.inr (Or.inr rfl)) (ee _) (dC_at (on9 Fg3 hb)).2.2) (dw_ 4 (.bool false) (fun a X ee => execNot8 (b := true) rfl (ee _)) (dc_ 1 (I.canPut_b (I.on hR (BB.trans (bD.mono BB.size))) (decide_eq_false (fun h => by cases h.1))) (cb_ fun X1_1 bQ => ?_))))
    replace bD := bD.trans (bQ.mono bD.size)
    clear bQ
    refine ⟨Or.inr bD, ?_⟩
    refine dw_ 13 (.bool false) (fun a X ee => execNeBB18 (b := false) rfl (ee _) (ee _)) (dw_ 17 (.pointer (some ⟨g3, 0, none⟩)) (fun a X ee => execFd0 rfl (ee _)) (dv_ 18 (r) (fun a X ee hb => execLd1 rfl (Or.inl rfl) (ee _) (dC_at (on9 Fg3 hb)).1) (dw_ 19 (.int .i64 ((n : Nat) : Int)) (fun a X ee => execLenI (len := n) rfl (ee _) (own_shp own)) (dw_ 20 (.bool true) (fun a X ee => execDec (exIgtr3 (p := ((n : Nat) : Int)) (q := 0) rfl (ee _) rfl) (decide_eq_true (by omega))) (dc_ 16 (I.canTake_b (I.on hR (BB.trans (bD.mono BB.size))) (decide_eq_true h0)) (cb_ fun X1 bQ => ?_))))))
    replace bD := bD.trans (bQ.mono bD.size)
    clear bQ
    refine ⟨Or.inr bD, ?_⟩
    refine dw_ 21 (.bool false) (fun a X ee => execNeBB18 (b := true) rfl (ee _) (ee _)) (dz_ [(27, .bool false)] (h2_ t0 t3) ?_)
    rintro a A ⟨t27, -⟩ ⟨t0, t3, -⟩
    replace Fg3 := (on9 Fg3 bD)
    replace BB := BB.trans (bD.mono BB.size)
    clear bD
    refine wp_cond_false t27 ?_
    refine wp_skip ?_
    clear t27
    refine wp_seq ?_
    refine wj_ [0, 2, 3, 4, 1, 5, 6, 7, 9, 10, 8, 11, 12, 13, 14, 16, 17, 15, 18, 19, 20] [1, 8, 15] [3, 10, 17] [] A (h2_ t0 t3) (fun X3_0 bD => ?_)
    refine dw_ 2 (.pointer (some ⟨g3, 0, none⟩)) (fun a X ee => execFd0 rfl (ee _)) (dv_ 3 (r) (fun a X ee hb => execLd1 rfl (Or.inl rfl) (ee _) (dC_at (on9 Fg3 hb)).1) (dw_ 4 (.int .i64 ((n : Nat) : Int)) (fun a X ee => execLenI (len := n) rfl (ee _) (own_shp own)) (dc_ 1 (I.len (I.on hR (BB.trans (bD.mono BB.size)))) (cb_ fun X3_1 bQ => ?_))))
    replace bD := bD.trans (bQ.mono bD.size)
    clear bQ
    refine ⟨Or.inr bD, ?_⟩
    refine dw_ 5 (.bool true) (fun a X ee => execDec (exIeql3 (p := ((n : Nat) : Int)) (q := ((n : Nat) : Int)) rfl (ee _) (ee _)) (decide_eq_true rfl)) (dw_ 9 (.pointer (some ⟨g3, 0 + 1, none⟩)) (fun a X ee => execFd1 rfl (ee _)) (dv_ 10 (.int .i64 ((k : Nat) : Int)) (fun a X ee hb => execLd1 rfl (Or.inr (Or.inl rfl)) (ee _) (dC_at (on9 Fg3 hb)).2.1) (dc_ 8 (I.cap (I.on hR (BB.trans (bD.mono BB.size)))) (cb_ fun X3_2 bQ => ?_))))
    replace bD := bD.trans (bQ.mono bD.size)
    clear bQ
    refine ⟨Or.inr bD, ?_⟩
    refine dw_ 11 (.bool true) (fun a X ee => execDec (exIeql3 (p := ((k : Nat) : Int)) (q := ((k : Nat) : Int)) rfl (ee _) (ee _)) (decide_eq_true rfl)) (dw_ 16 (.pointer (some ⟨g3, 0 + 2, none⟩)) (fun a X ee => execFd2 rfl (ee _)) (dv_ 17 (.bool true) (fun a X ee hb => execLd1 rfl (Or.inr (Or.inr rfl)) (ee _) (dC_at (on9 Fg3 hb)).2.2) (dc_ 15 (I.closed (I.on hR (BB.trans (bD.mono BB.size)))) (cb_ fun X3 bQ => ?_))))
    replace bD := bD.trans (bQ.mono bD.size)
    clear bQ
    refine ⟨Or.inr bD, ?_⟩
    refine dw_ 18 (.bool true) (fun a X ee => execEqBB (b := true) rfl (ee _) (ee _)) (dy_ [(4, .bool true)] ?_)
    rintro a A ⟨t4, -⟩
    replace Fg3 := (on9 Fg3 bD)
    replace BB := BB.trans (bD.mono BB.size)
    clear bD
    refine wp_ret ?_
    refine bodyPost_ret (results_tmp rfl _ _ _) A.2 ⟨?_, BB⟩
    show Ending.returned (a.eval (.tmp 4)) = _
    rw [t4]
  · refine wo_ 48 [(0, v), (1, .agg (dC r ((k : Nat) : Int) true))] ?_
    rintro a A ⟨t0, t1, -⟩
    have BW : Below V.heap.size V V := Below.refl _ _
    have BB : Below V.heap.size V V := Below.refl _ _
    refine wp_seq ?_
    obtain ⟨g3, egg3⟩ : ∃ z_ : Nat, V.heap.size = z_ := ⟨_, rfl⟩
    refine wi_ A (h2_ t0 t1) (rs_ 0 (fun a ee => ?_))
    refine stepV rfl rfl (execBxD rfl (ee _) (own_slq own)) ⟨.pointer (some ⟨g3, 0, none⟩), ⟨_, rfl, by subst egg3; rfl⟩, fun X0 hX => ?_⟩
    have bQ : Below V.heap.size V X0 := by subst hX egg3; exact (belNew V _)
    have Fg3 : (X0.heap[g3]? = some (.cells (dC r ((k : Nat) : Int) true) 32)) := by subst hX egg3; exact heapNew V _
    have Fgeg3 : (V.heap.size ≤ g3) := by subst hX egg3; exact (BB).size
    replace BB := BB.trans (bQ.mono BB.size)
    clear bQ hX egg3 ee a
    refine rf_ [(3, .pointer (some ⟨g3, 0, none⟩))] (h1_ t0) ?_
    rintro a A ⟨t3, -⟩ ⟨t0, -⟩
    refine wp_seq ?_
    refine wp_seq ?_
    refine wj_ [0, 2, 3, 4, 1, 5, 6, 7, 8, 9, 10, 11, 12, 13, 14, 15, 17, 18, 19, 20, 16, 21, 22] [1, 16] [3, 18] [] A (h2_ t0 t3) (fun X1_0 bD => ?_)
    refine dw_ 2 (.pointer (some ⟨g3, 0 + 2, none⟩)) (fun a X ee => execFd2 rfl (ee _)) (dv_ 3 (.bool true) (fun a X ee hb => execLd1 rfl (Or.inr (Or.inr rfl)) (ee _) (dC_at (on9 Fg3 hb)).2.2) (dw_ 4 (.bool false) (fun a X ee => execNot8 (b := true) rfl (ee _)) (dc_ 1 (I.canPut_b (I.on hR (BB.trans (bD.mono BB.size))) (decide_eq_false (fun h => by cases h.1))) (cb_ fun X1_1 bQ => ?_))))
    replace bD := bD.trans (bQ.mono bD.size)
    clear bQ
    refine ⟨Or.inr bD, ?_⟩
    refine dw_ 13 (.bool false) (fun a X ee => execNeBB18 (b := false) rfl (ee _) (ee _)) (dw_ 17 (.pointer (some ⟨g3, 0, none⟩)) (fun a X ee => execFd0 rfl (ee _)) (dv_ 18 (r) (fun a X ee hb => execLd1 rfl (Or.inl rfl) (ee _) (dC_at (on9 Fg3 hb)).1) (dw_ 19 (.int .i64 ((n : Nat) : Int)) (fun a X ee => execLenI (len := n) rfl (ee _) (own_shp own)) (dw_ 20 (.bool false) (fun a X ee => execDec (exIgtr3 (p := ((n : Nat) : Int)) (q := 0) rfl (ee _) rfl) (decide_eq_false (by omega))) (dc_ 16 (I.canTake_b (I.on hR (BB.trans (bD.mono BB.size))) (decide_eq_false h0)) (cb_ fun X1 bQ => ?_))))))
    replace bD := bD.trans (bQ.mono bD.size)
    clear bQ
    refine ⟨Or.inr bD, ?_⟩
    refine dw_ 21 (.bool false) (fun a X ee => execNeBB18 (b := false) rfl (ee _) (ee _)) (dz_ [(27, .bool false)] (h2_ t0 t3) ?_)
    rintro a A ⟨t27, -⟩ ⟨t0, t3, -⟩
    replace Fg3 := (on9 Fg3 bD)
    replace BB := BB.trans (bD.mono BB.size)
    clear bD
    refine wp_cond_false t27 ?_
    refine wp_skip ?_
    clear t27
    refine wp_seq ?_
    refine wj_ [0, 2, 3, 4, 1, 5, 6, 7, 9, 10, 8, 11, 12, 13, 14, 16, 17, 15, 18, 19, 20] [1, 8, 15] [3, 10, 17] [] A (h2_ t0 t3) (fun X3_0 bD => ?_)
    refine dw_ 2 (.pointer (some ⟨g3, 0, none⟩)) (fun a X ee => execFd0 rfl (ee _)) (dv_ 3 (r) (fun a X ee hb => execLd1 rfl (Or.inl rfl) (ee _) (dC_at (on9 Fg3 hb)).1) (dw_ 4 (.int .i64 ((n : Nat) : Int)) (fun a X ee => execLenI (len := n) rfl (ee _) (own_shp own)) (dc_ 1 (I.len (I.on hR (BB.trans (bD.mono BB.size)))) (cb_ fun X3_1 bQ => ?_))))
    replace bD := bD.trans (bQ.mono bD.size)
    clear bQ
    refine ⟨Or.inr bD, ?_⟩
    refine dw_ 5 (.bool true) (fun a X ee => execDec (exIeql3 (p := ((n : Nat) : Int)) (q := ((n : Nat) : Int)) rfl (ee _) (ee _)) (decide_eq_true rfl)) (dw_ 9 (.pointer (some ⟨g3, 0 + 1, none⟩)) (fun a X ee => execFd1 rfl (ee _)) (dv_ 10 (.int .i64 ((k : Nat) : Int)) (fun a X ee hb => execLd1 rfl (Or.inr (Or.inl rfl)) (ee _) (dC_at (on9 Fg3 hb)).2.1) (dc_ 8 (I.cap (I.on hR (BB.trans (bD.mono BB.size)))) (cb_ fun X3_2 bQ => ?_))))
    replace bD := bD.trans (bQ.mono bD.size)
    clear bQ
    refine ⟨Or.inr bD, ?_⟩
    refine dw_ 11 (.bool true) (fun a X ee => execDec (exIeql3 (p := ((k : Nat) : Int)) (q := ((k : Nat) : Int)) rfl (ee _) (ee _)) (decide_eq_true rfl)) (dw_ 16 (.pointer (some ⟨g3, 0 + 2, none⟩)) (fun a X ee => execFd2 rfl (ee _)) (dv_ 17 (.bool true) (fun a X ee hb => execLd1 rfl (Or.inr (Or.inr rfl)) (ee _) (dC_at (on9 Fg3 hb)).2.2) (dc_ 15 (I.closed (I.on hR (BB.trans (bD.mono BB.size)))) (cb_ fun X3 bQ => ?_))))
    replace bD := bD.trans (bQ.mono bD.size)
    clear bQ
    refine ⟨Or.inr bD, ?_⟩
    refine dw_ 18 (.bool true) (fun a X ee => execEqBB (b := true) rfl (ee _) (ee _)) (dy_ [(4, .bool true)] ?_)
    rintro a A ⟨t4, -⟩
    replace Fg3 := (on9 Fg3 bD)
    replace BB := BB.trans (bD.mono BB.size)
    clear bD
    refine wp_ret ?_
    refine bodyPost_ret (results_tmp rfl _ _ _) A.2 ⟨?_, BB⟩
    show Ending.returned (a.eval (.tmp 4)) = _
    rw [t4]
set_option maxRecDepth 100000 in
set_option maxHeartbeats 4000000 in
/-- told. -/
theorem told_f (I : ImplI) (v r : Value) (F : Nat → Prop) (x : Nat → Value) (n k B : Nat) (z : Nat → Int) (V : World) (hR : I.R V F v x n k false) (own : V.ownsRow B 3 1 r n (intsL n z)) (hf : ¬ n < k) :
    Calls Try.prog 10 #[v, .agg (dC r ((k : Nat) : Int) false)] V fun e w' => e = .returned (.bool true) ∧ Below V.heap.size V w' := by
  go_enter Try.func10, Try.ntmps10
  by_cases h0 : 0 < n
  · refine wo_ 48 [(0, v), (1, .agg (dC r ((k : Nat) : Int) false))] ?_
    rintro a A ⟨t0, t1, -⟩
    have BW : Below V.heap.size V V := Below.refl _ _
    have BB : Below V.heap.size V V := Below.refl _ _
    refine wp_seq ?_
    obtain ⟨g3, egg3⟩ : ∃ z_ : Nat, V.heap.size = z_ := ⟨_, rfl⟩
    refine wi_ A (h2_ t0 t1) (rs_ 0 (fun a ee => ?_))
    refine stepV rfl rfl (execBxD rfl (ee _) (own_slq own)) ⟨.pointer (some ⟨g3, 0, none⟩), ⟨_, rfl, by subst egg3; rfl⟩, fun X0 hX => ?_⟩
    have bQ : Below V.heap.size V X0 := by subst hX egg3; exact (belNew V _)
    have Fg3 : (X0.heap[g3]? = some (.cells (dC r ((k : Nat) : Int) false) 32)) := by subst hX egg3; exact heapNew V _
    have Fgeg3 : (V.heap.size ≤ g3) := by subst hX egg3; exact (BB).size
    replace BB := BB.trans (bQ.mono BB.size)
    clear bQ hX egg3 ee a
    refine rf_ [(3, .pointer (some ⟨g3, 0, none⟩))] (h1_ t0) ?_
    rintro a A ⟨t3, -⟩ ⟨t0, -⟩
    refine wp_seq ?_
    refine wp_seq ?_
    refine wj_ [0, 2, 3, 4, 1, 5, 6, 7, 8, 9, 10, 11, 12, 13, 14, 15, 17, 18, 19, 20, 16, 21, 22] [1, 16] [3, 7, 10, 18] [] A (h2_ t0 t3) (fun X1_0 bD => ?_)
    refine dw_ 2 (.pointer (some ⟨g3, 0 + 2, none⟩)) (fun a X ee => execFd2 rfl (ee _)) (dv_ 3 (.bool false) (fun a X ee hb => execLd1 rfl (Or.inr (Or.inr rfl)) (ee _) (dC_at (on9 Fg3 hb)).2.2) (dw_ 4 (.bool true) (fun a X ee => execNot8 (b := false) rfl (ee _)) (dc_ 1 (I.canPut_b (I.on hR (BB.trans (bD.mono BB.size))) (decide_eq_false (fun h => hf h.2))) (cb_ fun X1_1 bQ => ?_))))
    replace bD := bD.trans (bQ.mono bD.size)
    clear bQ
    refine ⟨Or.inr bD, ?_⟩
    refine dw_ 6 (.pointer (some ⟨g3, 0, none⟩)) (fun a X ee => execFd0 rfl (ee _)) (dv_ 7 (r) (fun a X ee hb => execLd1 rfl (Or.inl rfl) (ee _) (dC_at (on9 Fg3 hb)).1) (dw_ 8 (.int .i64 ((n : Nat) : Int)) (fun a X ee => execLenI (len := n) rfl (ee _) (own_shp own)) (dw_ 9 (.pointer (some ⟨g3, 0 + 1, none⟩)) (fun a X ee => execFd1 rfl (ee _)) (dv_ 10 (.int .i64 ((k : Nat) : Int)) (fun a X ee hb => execLd1 rfl (Or.inr (Or.inl rfl)) (ee _) (dC_at (on9 Fg3 hb)).2.1) (dw_ 11 (.bool false) (fun a X ee => execDec (exIlss3 (p := ((n : Nat) : Int)) (q := ((k : Nat) : Int)) rfl (ee _) (ee _)) (decide_eq_false (by omega))) (dw_ 13 (.bool false) (fun a X ee => execNeBB18 (b := false) rfl (ee _) (ee _)) (dw_ 17 (.pointer (some ⟨g3, 0, none⟩)) (fun a X ee => execFd0 rfl (ee _)) (dv_ 18 (r) (fun a X ee hb => execLd1 rfl (Or.inl rfl) (ee _) (dC_at (on9 Fg3 hb)).1) (dw_ 19 (.int .i64 ((n : Nat) : Int)) (fun a X ee => execLenI (len := n) rfl (ee _) (own_shp own)) (dw_ 20 (.bool true) (fun a X ee => execDec (exIgtr3 (p := ((n : Nat) : Int)) (q := 0) rfl (ee _) rfl) (decide_eq_true (by omega))) (dc_ 16 (I.canTake_b (I.on hR (BB.trans (bD.mono BB.size))) (decide_eq_true h0)) (cb_ fun X1 bQ => ?_))))))))))))
    replace bD := bD.trans (bQ.mono bD.size)
    clear bQ
    refine ⟨Or.inr bD, ?_⟩
    refine dw_ 21 (.bool false) (fun a X ee => execNeBB18 (b := true) rfl (ee _) (ee _)) (dz_ [(27, .bool false)] (h2_ t0 t3) ?_)
    rintro a A ⟨t27, -⟩ ⟨t0, t3, -⟩
    replace Fg3 := (on9 Fg3 bD)
    replace BB := BB.trans (bD.mono BB.size)
    clear bD
    refine wp_cond_false t27 ?_
    refine wp_skip ?_
    clear t27
    refine wp_seq ?_
    refine wj_ [0, 2, 3, 4, 1, 5, 6, 7, 9, 10, 8, 11, 12, 13, 14, 16, 17, 15, 18, 19, 20] [1, 8, 15] [3, 10, 17] [] A (h2_ t0 t3) (fun X3_0 bD => ?_)
    refine dw_ 2 (.pointer (some ⟨g3, 0, none⟩)) (fun a X ee => execFd0 rfl (ee _)) (dv_ 3 (r) (fun a X ee hb => execLd1 rfl (Or.inl rfl) (ee _) (dC_at (on9 Fg3 hb)).1) (dw_ 4 (.int .i64 ((n : Nat) : Int)) (fun a X ee => execLenI (len := n) rfl (ee _) (own_shp own)) (dc_ 1 (I.len (I.on hR (BB.trans (bD.mono BB.size)))) (cb_ fun X3_1 bQ => ?_))))
    replace bD := bD.trans (bQ.mono bD.size)
    clear bQ
    refine ⟨Or.inr bD, ?_⟩
    refine dw_ 5 (.bool true) (fun a X ee => execDec (exIeql3 (p := ((n : Nat) : Int)) (q := ((n : Nat) : Int)) rfl (ee _) (ee _)) (decide_eq_true rfl)) (dw_ 9 (.pointer (some ⟨g3, 0 + 1, none⟩)) (fun a X ee => execFd1 rfl (ee _)) (dv_ 10 (.int .i64 ((k : Nat) : Int)) (fun a X ee hb => execLd1 rfl (Or.inr (Or.inl rfl)) (ee _) (dC_at (on9 Fg3 hb)).2.1) (dc_ 8 (I.cap (I.on hR (BB.trans (bD.mono BB.size)))) (cb_ fun X3_2 bQ => ?_))))
    replace bD := bD.trans (bQ.mono bD.size)
    clear bQ
    refine ⟨Or.inr bD, ?_⟩
    refine dw_ 11 (.bool true) (fun a X ee => execDec (exIeql3 (p := ((k : Nat) : Int)) (q := ((k : Nat) : Int)) rfl (ee _) (ee _)) (decide_eq_true rfl)) (dw_ 16 (.pointer (some ⟨g3, 0 + 2, none⟩)) (fun a X ee => execFd2 rfl (ee _)) (dv_ 17 (.bool false) (fun a X ee hb => execLd1 rfl (Or.inr (Or.inr rfl)) (ee _) (dC_at (on9 Fg3 hb)).2.2) (dc_ 15 (I.closed (I.on hR (BB.trans (bD.mono BB.size)))) (cb_ fun X3 bQ => ?_))))
    replace bD := bD.trans (bQ.mono bD.size)
    clear bQ
    refine ⟨Or.inr bD, ?_⟩
    refine dw_ 18 (.bool true) (fun a X ee => execEqBB (b := false) rfl (ee _) (ee _)) (dy_ [(4, .bool true)] ?_)
    rintro a A ⟨t4, -⟩
    replace Fg3 := (on9 Fg3 bD)
    replace BB := BB.trans (bD.mono BB.size)
    clear bD
    refine wp_ret ?_
    refine bodyPost_ret (results_tmp rfl _ _ _) A.2 ⟨?_, BB⟩
    show Ending.returned (a.eval (.tmp 4)) = _
    rw [t4]
  · refine wo_ 48 [(0, v), (1, .agg (dC r ((k : Nat) : Int) false))] ?_
    rintro a A ⟨t0, t1, -⟩
    have BW : Below V.heap.size V V := Below.refl _ _
    have BB : Below V.heap.size V V := Below.refl _ _
    refine wp_seq ?_
    obtain ⟨g3, egg3⟩ : ∃ z_ : Nat, V.heap.size = z_ := ⟨_, rfl⟩
    refine wi_ A (h2_ t0 t1) (rs_ 0 (fun a ee => ?_))
    refine stepV rfl rfl (execBxD rfl (ee _) (own_slq own)) ⟨.pointer (some ⟨g3, 0, none⟩), ⟨_, rfl, by subst egg3; rfl⟩, fun X0 hX => ?_⟩
    have bQ : Below V.heap.size V X0 := by subst hX egg3; exact (belNew V _)
    have Fg3 : (X0.heap[g3]? = some (.cells (dC r ((k : Nat) : Int) false) 32)) := by subst hX egg3; exact heapNew V _
    have Fgeg3 : (V.heap.size ≤ g3) := by subst hX egg3; exact (BB).size
    replace BB := BB.trans (bQ.mono BB.size)
    clear bQ hX egg3 ee a
    refine rf_ [(3, .pointer (some ⟨g3, 0, none⟩))] (h1_ t0) ?_
    rintro a A ⟨t3, -⟩ ⟨t0, -⟩
    refine wp_seq ?_
    refine wp_seq ?_
    refine wj_ [0, 2, 3, 4, 1, 5, 6, 7, 8, 9, 10, 11, 12, 13, 14, 15, 17, 18, 19, 20, 16, 21, 22] [1, 16] [3, 7, 10, 18] [] A (h2_ t0 t3) (fun X1_0 bD => ?_)
    refine dw_ 2 (.pointer (some ⟨g3, 0 + 2, none⟩)) (fun a X ee => execFd2 rfl (ee _)) (dv_ 3 (.bool false) (fun a X ee hb => execLd1 rfl (Or.inr (Or.inr rfl)) (ee _) (dC_at (on9 Fg3 hb)).2.2) (dw_ 4 (.bool true) (fun a X ee => execNot8 (b := false) rfl (ee _)) (dc_ 1 (I.canPut_b (I.on hR (BB.trans (bD.mono BB.size))) (decide_eq_false (fun h => hf h.2))) (cb_ fun X1_1 bQ => ?_))))
    replace bD := bD.trans (bQ.mono bD.size)
    clear bQ
    refine ⟨Or.inr bD, ?_⟩
    refine dw_ 6 (.pointer (some ⟨g3, 0, none⟩)) (fun a X ee => execFd0 rfl (ee _)) (dv_ 7 (r) (fun a X ee hb => execLd1 rfl (Or.inl rfl) (ee _) (dC_at (on9 Fg3 hb)).1) (dw_ 8 (.int .i64 ((n : Nat) : Int)) (fun a X ee => execLenI (len := n) rfl (ee _) (own_shp own)) (dw_ 9 (.pointer (some ⟨g3, 0 + 1, none⟩)) (fun a X ee => execFd1 rfl (ee _)) (dv_ 10 (.int .i64 ((k : Nat) : Int)) (fun a X ee hb => execLd1 rfl (Or.inr (Or.inl rfl)) (ee _) (dC_at (on9 Fg3 hb)).2.1) (dw_ 11 (.bool false) (fun a X ee => execDec (exIlss3 (p := ((n : Nat) : Int)) (q := ((k : Nat) : Int)) rfl (ee _) (ee _)) (decide_eq_false (by omega))) (dw_ 13 (.bool false) (fun a X ee => execNeBB18 (b := false) rfl (ee _) (ee _)) (dw_ 17 (.pointer (some ⟨g3, 0, none⟩)) (fun a X ee => execFd0 rfl (ee _)) (dv_ 18 (r) (fun a X ee hb => execLd1 rfl (Or.inl rfl) (ee _) (dC_at (on9 Fg3 hb)).1) (dw_ 19 (.int .i64 ((n : Nat) : Int)) (fun a X ee => execLenI (len := n) rfl (ee _) (own_shp own)) (dw_ 20 (.bool false) (fun a X ee => execDec (exIgtr3 (p := ((n : Nat) : Int)) (q := 0) rfl (ee _) rfl) (decide_eq_false (by omega))) (dc_ 16 (I.canTake_b (I.on hR (BB.trans (bD.mono BB.size))) (decide_eq_false h0)) (cb_ fun X1 bQ => ?_))))))))))))
    replace bD := bD.trans (bQ.mono bD.size)
    clear bQ
    refine ⟨Or.inr bD, ?_⟩
    refine dw_ 21 (.bool false) (fun a X ee => execNeBB18 (b := false) rfl (ee _) (ee _)) (dz_ [(27, .bool false)] (h2_ t0 t3) ?_)
    rintro a A ⟨t27, -⟩ ⟨t0, t3, -⟩
    replace Fg3 := (on9 Fg3 bD)
    replace BB := BB.trans (bD.mono BB.size)
    clear bD
    refine wp_cond_false t27 ?_
    refine wp_skip ?_
    clear t27
    refine wp_seq ?_
    refine wj_ [0, 2, 3, 4, 1, 5, 6, 7, 9, 10, 8, 11, 12, 13, 14, 16, 17, 15, 18, 19, 20] [1, 8, 15] [3, 10, 17] [] A (h2_ t0 t3) (fun X3_0 bD => ?_)
    refine dw_ 2 (.pointer (some ⟨g3, 0, none⟩)) (fun a X ee => execFd0 rfl (ee _)) (dv_ 3 (r) (fun a X ee hb => execLd1 rfl (Or.inl rfl) (ee _) (dC_at (on9 Fg3 hb)).1) (dw_ 4 (.int .i64 ((n : Nat) : Int)) (fun a X ee => execLenI (len := n) rfl (ee _) (own_shp own)) (dc_ 1 (I.len (I.on hR (BB.trans (bD.mono BB.size)))) (cb_ fun X3_1 bQ => ?_))))
    replace bD := bD.trans (bQ.mono bD.size)
    clear bQ
    refine ⟨Or.inr bD, ?_⟩
    refine dw_ 5 (.bool true) (fun a X ee => execDec (exIeql3 (p := ((n : Nat) : Int)) (q := ((n : Nat) : Int)) rfl (ee _) (ee _)) (decide_eq_true rfl)) (dw_ 9 (.pointer (some ⟨g3, 0 + 1, none⟩)) (fun a X ee => execFd1 rfl (ee _)) (dv_ 10 (.int .i64 ((k : Nat) : Int)) (fun a X ee hb => execLd1 rfl (Or.inr (Or.inl rfl)) (ee _) (dC_at (on9 Fg3 hb)).2.1) (dc_ 8 (I.cap (I.on hR (BB.trans (bD.mono BB.size)))) (cb_ fun X3_2 bQ => ?_))))
    replace bD := bD.trans (bQ.mono bD.size)
    clear bQ
    refine ⟨Or.inr bD, ?_⟩
    refine dw_ 11 (.bool true) (fun a X ee => execDec (exIeql3 (p := ((k : Nat) : Int)) (q := ((k : Nat) : Int)) rfl (ee _) (ee _)) (decide_eq_true rfl)) (dw_ 16 (.pointer (some ⟨g3, 0 + 2, none⟩)) (fun a X ee => execFd2 rfl (ee _)) (dv_ 17 (.bool false) (fun a X ee hb => execLd1 rfl (Or.inr (Or.inr rfl)) (ee _) (dC_at (on9 Fg3 hb)).2.2) (dc_ 15 (I.closed (I.on hR (BB.trans (bD.mono BB.size)))) (cb_ fun X3 bQ => ?_))))
    replace bD := bD.trans (bQ.mono bD.size)
    clear bQ
    refine ⟨Or.inr bD, ?_⟩
    refine dw_ 18 (.bool true) (fun a X ee => execEqBB (b := false) rfl (ee _) (ee _)) (dy_ [(4, .bool true)] ?_)
    rintro a A ⟨t4, -⟩
    replace Fg3 := (on9 Fg3 bD)
    replace BB := BB.trans (bD.mono BB.size)
    clear bD
    refine wp_ret ?_
    refine bodyPost_ret (results_tmp rfl _ _ _) A.2 ⟨?_, BB⟩
    show Ending.returned (a.eval (.tmp 4)) = _
    rw [t4]
set_option maxRecDepth 100000 in
set_option maxHeartbeats 4000000 in
/-- told. -/
theorem told_o (I : ImplI) (v r : Value) (F : Nat → Prop) (x : Nat → Value) (n k B : Nat) (z : Nat → Int) (V : World) (hR : I.R V F v x n k false) (own : V.ownsRow B 3 1 r n (intsL n z)) (hf : n < k) :
    Calls Try.prog 10 #[v, .agg (dC r ((k : Nat) : Int) false)] V fun e w' => e = .returned (.bool true) ∧ Below V.heap.size V w' := by
  go_enter Try.func10, Try.ntmps10
  by_cases h0 : 0 < n
  · refine wo_ 48 [(0, v), (1, .agg (dC r ((k : Nat) : Int) false))] ?_
    rintro a A ⟨t0, t1, -⟩
    have BW : Below V.heap.size V V := Below.refl _ _
    have BB : Below V.heap.size V V := Below.refl _ _
    refine wp_seq ?_
    obtain ⟨g3, egg3⟩ : ∃ z_ : Nat, V.heap.size = z_ := ⟨_, rfl⟩
    refine wi_ A (h2_ t0 t1) (rs_ 0 (fun a ee => ?_))
    refine stepV rfl rfl (execBxD rfl (ee _) (own_slq own)) ⟨.pointer (some ⟨g3, 0, none⟩), ⟨_, rfl, by subst egg3; rfl⟩, fun X0 hX => ?_⟩
    have bQ : Below V.heap.size V X0 := by subst hX egg3; exact (belNew V _)
    have Fg3 : (X0.heap[g3]? = some (.cells (dC r ((k : Nat) : Int) false) 32)) := by subst hX egg3; exact heapNew V _
    have Fgeg3 : (V.heap.size ≤ g3) := by subst hX egg3; exact (BB).size
    replace BB := BB.trans (bQ.mono BB.size)
    clear bQ hX egg3 ee a
    refine rf_ [(3, .pointer (some ⟨g3, 0, none⟩))] (h1_ t0) ?_
    rintro a A ⟨t3, -⟩ ⟨t0, -⟩
    refine wp_seq ?_
    refine wp_seq ?_
    refine wj_ [0, 2, 3, 4, 1, 5, 6, 7, 8, 9, 10, 11, 12, 13, 14, 15, 17, 18, 19, 20, 16, 21, 22] [1, 16] [3, 7, 10, 18] [] A (h2_ t0 t3) (fun X1_0 bD => ?_)
    refine dw_ 2 (.pointer (some ⟨g3, 0 + 2, none⟩)) (fun a X ee => execFd2 rfl (ee _)) (dv_ 3 (.bool false) (fun a X ee hb => execLd1 rfl (Or.inr (Or.inr rfl)) (ee _) (dC_at (on9 Fg3 hb)).2.2) (dw_ 4 (.bool true) (fun a X ee => execNot8 (b := false) rfl (ee _)) (dc_ 1 (I.canPut_b (I.on hR (BB.trans (bD.mono BB.size))) (decide_eq_true ⟨rfl, hf⟩)) (cb_ fun X1_1 bQ => ?_))))
    replace bD := bD.trans (bQ.mono bD.size)
    clear bQ
    refine ⟨Or.inr bD, ?_⟩
    refine dw_ 6 (.pointer (some ⟨g3, 0, none⟩)) (fun a X ee => execFd0 rfl (ee _)) (dv_ 7 (r) (fun a X ee hb => execLd1 rfl (Or.inl rfl) (ee _) (dC_at (on9 Fg3 hb)).1) (dw_ 8 (.int .i64 ((n : Nat) : Int)) (fun a X ee => execLenI (len := n) rfl (ee _) (own_shp own)) (dw_ 9 (.pointer (some ⟨g3, 0 + 1, none⟩)) (fun a X ee => execFd1 rfl (ee _)) (dv_ 10 (.int .i64 ((k : Nat) : Int)) (fun a X ee hb => execLd1 rfl (Or.inr (Or.inl rfl)) (ee _) (dC_at (on9 Fg3 hb)).2.1) (dw_ 11 (.bool true) (fun a X ee => execDec (exIlss3 (p := ((n : Nat) : Int)) (q := ((k : Nat) : Int)) rfl (ee _) (ee _)) (decide_eq_true (by omega))) (dw_ 13 (.bool false) (fun a X ee => execNeBB18 (b := true) rfl (ee _) (ee _)) (dw_ 17 (.pointer (some ⟨g3, 0, none⟩)) (fun a X ee => execFd0 rfl (ee _)) (dv_ 18 (r) (fun a X ee hb => execLd1 rfl (Or.inl rfl) (ee _) (dC_at (on9 Fg3 hb)).1) (dw_ 19 (.int .i64 ((n : Nat) : Int)) (fun a X ee => execLenI (len := n) rfl (ee _) (own_shp own)) (dw_ 20 (.bool true) (fun a X ee => execDec (exIgtr3 (p := ((n : Nat) : Int)) (q := 0) rfl (ee _) rfl) (decide_eq_true (by omega))) (dc_ 16 (I.canTake_b (I.on hR (BB.trans (bD.mono BB.size))) (decide_eq_true h0)) (cb_ fun X1 bQ => ?_))))))))))))
    replace bD := bD.trans (bQ.mono bD.size)
    clear bQ
    refine ⟨Or.inr bD, ?_⟩
    refine dw_ 21 (.bool false) (fun a X ee => execNeBB18 (b := true) rfl (ee _) (ee _)) (dz_ [(27, .bool false)] (h2_ t0 t3) ?_)
    rintro a A ⟨t27, -⟩ ⟨t0, t3, -⟩
    replace Fg3 := (on9 Fg3 bD)
    replace BB := BB.trans (bD.mono BB.size)
    clear bD
    refine wp_cond_false t27 ?_
    refine wp_skip ?_
    clear t27
    refine wp_seq ?_
    refine wj_ [0, 2, 3, 4, 1, 5, 6, 7, 9, 10, 8, 11, 12, 13, 14, 16, 17, 15, 18, 19, 20] [1, 8, 15] [3, 10, 17] [] A (h2_ t0 t3) (fun X3_0 bD => ?_)
    refine dw_ 2 (.pointer (some ⟨g3, 0, none⟩)) (fun a X ee => execFd0 rfl (ee _)) (dv_ 3 (r) (fun a X ee hb => execLd1 rfl (Or.inl rfl) (ee _) (dC_at (on9 Fg3 hb)).1) (dw_ 4 (.int .i64 ((n : Nat) : Int)) (fun a X ee => execLenI (len := n) rfl (ee _) (own_shp own)) (dc_ 1 (I.len (I.on hR (BB.trans (bD.mono BB.size)))) (cb_ fun X3_1 bQ => ?_))))
    replace bD := bD.trans (bQ.mono bD.size)
    clear bQ
    refine ⟨Or.inr bD, ?_⟩
    refine dw_ 5 (.bool true) (fun a X ee => execDec (exIeql3 (p := ((n : Nat) : Int)) (q := ((n : Nat) : Int)) rfl (ee _) (ee _)) (decide_eq_true rfl)) (dw_ 9 (.pointer (some ⟨g3, 0 + 1, none⟩)) (fun a X ee => execFd1 rfl (ee _)) (dv_ 10 (.int .i64 ((k : Nat) : Int)) (fun a X ee hb => execLd1 rfl (Or.inr (Or.inl rfl)) (ee _) (dC_at (on9 Fg3 hb)).2.1) (dc_ 8 (I.cap (I.on hR (BB.trans (bD.mono BB.size)))) (cb_ fun X3_2 bQ => ?_))))
    replace bD := bD.trans (bQ.mono bD.size)
    clear bQ
    refine ⟨Or.inr bD, ?_⟩
    refine dw_ 11 (.bool true) (fun a X ee => execDec (exIeql3 (p := ((k : Nat) : Int)) (q := ((k : Nat) : Int)) rfl (ee _) (ee _)) (decide_eq_true rfl)) (dw_ 16 (.pointer (some ⟨g3, 0 + 2, none⟩)) (fun a X ee => execFd2 rfl (ee _)) (dv_ 17 (.bool false) (fun a X ee hb => execLd1 rfl (Or.inr (Or.inr rfl)) (ee _) (dC_at (on9 Fg3 hb)).2.2) (dc_ 15 (I.closed (I.on hR (BB.trans (bD.mono BB.size)))) (cb_ fun X3 bQ => ?_))))
    replace bD := bD.trans (bQ.mono bD.size)
    clear bQ
    refine ⟨Or.inr bD, ?_⟩
    refine dw_ 18 (.bool true) (fun a X ee => execEqBB (b := false) rfl (ee _) (ee _)) (dy_ [(4, .bool true)] ?_)
    rintro a A ⟨t4, -⟩
    replace Fg3 := (on9 Fg3 bD)
    replace BB := BB.trans (bD.mono BB.size)
    clear bD
    refine wp_ret ?_
    refine bodyPost_ret (results_tmp rfl _ _ _) A.2 ⟨?_, BB⟩
    show Ending.returned (a.eval (.tmp 4)) = _
    rw [t4]
  · refine wo_ 48 [(0, v), (1, .agg (dC r ((k : Nat) : Int) false))] ?_
    rintro a A ⟨t0, t1, -⟩
    have BW : Below V.heap.size V V := Below.refl _ _
    have BB : Below V.heap.size V V := Below.refl _ _
    refine wp_seq ?_
    obtain ⟨g3, egg3⟩ : ∃ z_ : Nat, V.heap.size = z_ := ⟨_, rfl⟩
    refine wi_ A (h2_ t0 t1) (rs_ 0 (fun a ee => ?_))
    refine stepV rfl rfl (execBxD rfl (ee _) (own_slq own)) ⟨.pointer (some ⟨g3, 0, none⟩), ⟨_, rfl, by subst egg3; rfl⟩, fun X0 hX => ?_⟩
    have bQ : Below V.heap.size V X0 := by subst hX egg3; exact (belNew V _)
    have Fg3 : (X0.heap[g3]? = some (.cells (dC r ((k : Nat) : Int) false) 32)) := by subst hX egg3; exact heapNew V _
    have Fgeg3 : (V.heap.size ≤ g3) := by subst hX egg3; exact (BB).size
    replace BB := BB.trans (bQ.mono BB.size)
    clear bQ hX egg3 ee a
    refine rf_ [(3, .pointer (some ⟨g3, 0, none⟩))] (h1_ t0) ?_
    rintro a A ⟨t3, -⟩ ⟨t0, -⟩
    refine wp_seq ?_
    refine wp_seq ?_
    refine wj_ [0, 2, 3, 4, 1, 5, 6, 7, 8, 9, 10, 11, 12, 13, 14, 15, 17, 18, 19, 20, 16, 21, 22] [1, 16] [3, 7, 10, 18] [] A (h2_ t0 t3) (fun X1_0 bD => ?_)
    refine dw_ 2 (.pointer (some ⟨g3, 0 + 2, none⟩)) (fun a X ee => execFd2 rfl (ee _)) (dv_ 3 (.bool false) (fun a X ee hb => execLd1 rfl (Or.inr (Or.inr rfl)) (ee _) (dC_at (on9 Fg3 hb)).2.2) (dw_ 4 (.bool true) (fun a X ee => execNot8 (b := false) rfl (ee _)) (dc_ 1 (I.canPut_b (I.on hR (BB.trans (bD.mono BB.size))) (decide_eq_true ⟨rfl, hf⟩)) (cb_ fun X1_1 bQ => ?_))))
    replace bD := bD.trans (bQ.mono bD.size)
    clear bQ
    refine ⟨Or.inr bD, ?_⟩
    refine dw_ 6 (.pointer (some ⟨g3, 0, none⟩)) (fun a X ee => execFd0 rfl (ee _)) (dv_ 7 (r) (fun a X ee hb => execLd1 rfl (Or.inl rfl) (ee _) (dC_at (on9 Fg3 hb)).1) (dw_ 8 (.int .i64 ((n : Nat) : Int)) (fun a X ee => execLenI (len := n) rfl (ee _) (own_shp own)) (dw_ 9 (.pointer (some ⟨g3, 0 + 1, none⟩)) (fun a X ee => execFd1 rfl (ee _)) (dv_ 10 (.int .i64 ((k : Nat) : Int)) (fun a X ee hb => execLd1 rfl (Or.inr (Or.inl rfl)) (ee _) (dC_at (on9 Fg3 hb)).2.1) (dw_ 11 (.bool true) (fun a X ee => execDec (exIlss3 (p := ((n : Nat) : Int)) (q := ((k : Nat) : Int)) rfl (ee _) (ee _)) (decide_eq_true (by omega))) (dw_ 13 (.bool false) (fun a X ee => execNeBB18 (b := true) rfl (ee _) (ee _)) (dw_ 17 (.pointer (some ⟨g3, 0, none⟩)) (fun a X ee => execFd0 rfl (ee _)) (dv_ 18 (r) (fun a X ee hb => execLd1 rfl (Or.inl rfl) (ee _) (dC_at (on9 Fg3 hb)).1) (dw_ 19 (.int .i64 ((n : Nat) : Int)) (fun a X ee => execLenI (len := n) rfl (ee _) (own_shp own)) (dw_ 20 (.bool false) (fun a X ee => execDec (exIgtr3 (p := ((n : Nat) : Int)) (q := 0) rfl (ee _) rfl) (decide_eq_false (by omega))) (dc_ 16 (I.canTake_b (I.on hR (BB.trans (bD.mono BB.size))) (decide_eq_false h0)) (cb_ fun X1 bQ => ?_))))))))))))
    replace bD := bD.trans (bQ.mono bD.size)
    clear bQ
    refine ⟨Or.inr bD, ?_⟩
    refine dw_ 21 (.bool false) (fun a X ee => execNeBB18 (b := false) rfl (ee _) (ee _)) (dz_ [(27, .bool false)] (h2_ t0 t3) ?_)
    rintro a A ⟨t27, -⟩ ⟨t0, t3, -⟩
    replace Fg3 := (on9 Fg3 bD)
    replace BB := BB.trans (bD.mono BB.size)
    clear bD
    refine wp_cond_false t27 ?_
    refine wp_skip ?_
    clear t27
    refine wp_seq ?_
    refine wj_ [0, 2, 3, 4, 1, 5, 6, 7, 9, 10, 8, 11, 12, 13, 14, 16, 17, 15, 18, 19, 20] [1, 8, 15] [3, 10, 17] [] A (h2_ t0 t3) (fun X3_0 bD => ?_)
    refine dw_ 2 (.pointer (some ⟨g3, 0, none⟩)) (fun a X ee => execFd0 rfl (ee _)) (dv_ 3 (r) (fun a X ee hb => execLd1 rfl (Or.inl rfl) (ee _) (dC_at (on9 Fg3 hb)).1) (dw_ 4 (.int .i64 ((n : Nat) : Int)) (fun a X ee => execLenI (len := n) rfl (ee _) (own_shp own)) (dc_ 1 (I.len (I.on hR (BB.trans (bD.mono BB.size)))) (cb_ fun X3_1 bQ => ?_))))
    replace bD := bD.trans (bQ.mono bD.size)
    clear bQ
    refine ⟨Or.inr bD, ?_⟩
    refine dw_ 5 (.bool true) (fun a X ee => execDec (exIeql3 (p := ((n : Nat) : Int)) (q := ((n : Nat) : Int)) rfl (ee _) (ee _)) (decide_eq_true rfl)) (dw_ 9 (.pointer (some ⟨g3, 0 + 1, none⟩)) (fun a X ee => execFd1 rfl (ee _)) (dv_ 10 (.int .i64 ((k : Nat) : Int)) (fun a X ee hb => execLd1 rfl (Or.inr (Or.inl rfl)) (ee _) (dC_at (on9 Fg3 hb)).2.1) (dc_ 8 (I.cap (I.on hR (BB.trans (bD.mono BB.size)))) (cb_ fun X3_2 bQ => ?_))))
    replace bD := bD.trans (bQ.mono bD.size)
    clear bQ
    refine ⟨Or.inr bD, ?_⟩
    refine dw_ 11 (.bool true) (fun a X ee => execDec (exIeql3 (p := ((k : Nat) : Int)) (q := ((k : Nat) : Int)) rfl (ee _) (ee _)) (decide_eq_true rfl)) (dw_ 16 (.pointer (some ⟨g3, 0 + 2, none⟩)) (fun a X ee => execFd2 rfl (ee _)) (dv_ 17 (.bool false) (fun a X ee hb => execLd1 rfl (Or.inr (Or.inr rfl)) (ee _) (dC_at (on9 Fg3 hb)).2.2) (dc_ 15 (I.closed (I.on hR (BB.trans (bD.mono BB.size)))) (cb_ fun X3 bQ => ?_))))
    replace bD := bD.trans (bQ.mono bD.size)
    clear bQ
    refine ⟨Or.inr bD, ?_⟩
    refine dw_ 18 (.bool true) (fun a X ee => execEqBB (b := false) rfl (ee _) (ee _)) (dy_ [(4, .bool true)] ?_)
    rintro a A ⟨t4, -⟩
    replace Fg3 := (on9 Fg3 bD)
    replace BB := BB.trans (bD.mono BB.size)
    clear bD
    refine wp_ret ?_
    refine bodyPost_ret (results_tmp rfl _ _ _) A.2 ⟨?_, BB⟩
    show Ending.returned (a.eval (.tmp 4)) = _
    rw [t4]
theorem told_any (I : ImplI) (v r : Value) (F : Nat → Prop) (x : Nat → Value) (n k B : Nat) (c : Bool) (z : Nat → Int) (V : World) (hR : I.R V F v x n k c) (own : V.ownsRow B 3 1 r n (intsL n z)) :
    Calls Try.prog 10 #[v, .agg (dC r ((k : Nat) : Int) c)] V fun e w' => e = .returned (.bool true) ∧ Below V.heap.size V w' := by
  cases c with
  | true => exact told_c I v r F x n k B z V hR own
  | false =>
    by_cases hf : n < k
    · exact told_o I v r F x n k B z V hR own hf
    · exact told_f I v r F x n k B z V hR own hf
end Go.Proofs.Ytialghojibjknaa.Duc
