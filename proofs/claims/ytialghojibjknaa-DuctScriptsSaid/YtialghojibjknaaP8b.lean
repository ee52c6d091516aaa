import Derived.Test.YtialghojibjknaaP8a
import Derived.Test.YtialghojibjknaaP9e
import Derived.WalkKit
namespace Go.Proofs.Ytialghojibjknaa.Duc
open Go.RowKit Gf8 Aes By8 Cel Cf Win Drw Prm
/- The reference's New, Put, Take, Close. Written by tools/mkP8b.py. -/

theorem grC18 {W : World} {g k : Nat} {u : Value} : W.grownBy (W.setCell ⟨g, k, none⟩ u) (some g) := by
  have hb : Below g W (W.setCell ⟨g, k, none⟩ u) := (Below.refl _ _).setCell (p := ⟨g, k, none⟩) (Nat.le_refl _) u
  refine ⟨hb.os, hb.tape, hb.output, hb.size, fun b hbs hne => ?_⟩
  have hn : b ≠ g := fun e => hne (by rw [e])
  simp [World.setCell, Array.getElem?_modify, hn.symm]
theorem keepT {W X : World} {g k : Nat} {c d : Array Value} {t u : TypeId} (h : W.heap[k]? = some (.cells d u)) (hg : W.heap[g]? = some (.cells c t)) (ht : t ≠ u) (gr : W.grownBy X (some g)) : X.heap[k]? = some (.cells d u) := by
  rw [gr.block k (Array.getElem?_eq_some_iff.1 h).1 (fun e => by cases e; rw [h] at hg; cases hg; exact ht rfl)]
  exact h
theorem own_shp {W : World} {B n : Nat} {v : Value} {xs : List Value} {t : TypeId} {s : Nat} (h : W.ownsRow B t s v n xs) : ∃ ao c, v = .slice ao n c := by
  rcases h.2 with ⟨rfl, rfl⟩ | ⟨g, cap, cur, rfl, _⟩
  · exact ⟨_, _, rfl⟩
  · exact ⟨_, _, rfl⟩
theorem own_slq {W : World} {B n : Nat} {v : Value} {xs : List Value} {t : TypeId} {s : Nat} (h : W.ownsRow B t s v n xs) : ∃ g m c, v = .slice g m c := by
  obtain ⟨ao, c, e⟩ := own_shp h
  exact ⟨_, _, _, e⟩
theorem own_nz {W : World} {B n : Nat} {v : Value} {xs : List Value} {t : TypeId} {s : Nat} (h : W.ownsRow B t s v n xs) : ∀ l c, v = .slice none l c → c = 0 := by
  intro l c e
  rcases h.2 with ⟨rfl, _⟩ | ⟨g, cap, cur, rfl, _⟩
  · injection e with _ _ e3; exact e3.symm
  · injection e with e1; cases e1
theorem sliced_nz (g l n c : Nat) : ∀ l' c', sliced (some ⟨g, 0, none⟩) l n c 1 = .slice none l' c' → c' = 0 := by
  intro l' c' e
  unfold sliced at e
  split at e <;> (injection e with e1; cases e1)
theorem own_none18 (W : World) (B : Nat) (z : Nat → Int) : W.ownsRow B 3 1 (.slice none 0 0) 0 (intsL 0 z) := ⟨rfl, Or.inl ⟨rfl, rfl⟩⟩
theorem own_lo {W : World} {B n b : Nat} {v : Value} {xs : List Value} {t : TypeId} {s : Nat} (h : W.ownsRow B t s v n xs) (e : v.ownBlock = some b) : B ≤ b := (h.lt b e).1
def cE (s : Int) : Nat := if 0 ≤ s ∧ s ≤ 1024 then 0 else 2
theorem rnew18 (s : Int) (V : World) : Calls Try.prog 8 #[.int .i64 s] V fun e w' => e = .returned (.int .i64 ((cE s : Nat) : Int)) ∧ w' = V := by
  by_cases h1 : s < 0
  · have ep : Hid (cE s = 2) := if_neg (fun h => by omega)
    go_enter Try.func8, Try.ntmps8
    go_wp2
    go_ret
    rw [ep.out]
    exact ⟨rfl, rfl⟩
  · by_cases h2 : 1024 < s
    · have ep : Hid (cE s = 2) := if_neg (fun h => by omega)
      go_enter Try.func8, Try.ntmps8
      go_wp2
      go_ret
      rw [ep.out]
      exact ⟨rfl, rfl⟩
    · have ep : Hid (cE s = 0) := if_pos ⟨by omega, by omega⟩
      go_enter Try.func8, Try.ntmps8
      go_wp2
      go_ret
      rw [ep.out]
      exact ⟨rfl, rfl⟩
theorem cat0 {W : World} {B n : Nat} {v : Value} {z : Nat → Int} (h : W.ownsRow B 3 1 v (0 + n) (intsL (0 + n) (catI 0 z z))) : W.ownsRow B 3 1 v n (intsL n z) := by
  rw [Nat.zero_add] at h
  rw [intsL_congr (g := z) (fun j hj => by rw [show j = 0 + j by omega, catI_hi, Nat.zero_add])] at h
  exact h
theorem cat1 {W : World} {B n : Nat} {v : Value} {z : Nat → Int} (h : W.ownsRow B 3 1 v (0 + (n - 1)) (intsL (0 + (n - 1)) (catI 0 z (fun j => z (1 + j))))) : W.ownsRow B 3 1 v (n - 1) (intsL (n - 1) (fun j => z (j + 1))) := by
  rw [Nat.zero_add] at h
  rw [intsL_congr (g := fun j => z (j + 1)) (fun j hj => by rw [show j = 0 + j by omega, catI_hi, Nat.zero_add, Nat.add_comm])] at h
  exact h
set_option maxRecDepth 100000 in
set_option maxHeartbeats 4000000 in
/-- The reference's Put. -/
theorem rput_c (r : Value) (x : Int) (k : Int) (n B : Nat) (z : Nat → Int) (V : World) (own : V.ownsRow B 3 1 r n (intsL n z)) :
    Calls Try.prog 23 #[.agg (dC r k true), .int .i64 x] V fun e w' => e = .returned (.tuple #[.agg (dC r k true), .bool false, .int .i64 ((180 : Nat) : Int)]) ∧ Below V.heap.size V w' := by
  go_enter Try.func23, Try.ntmps23
  refine wo_ 29 [(0, .agg (dC r k true)), (1, .int .i64 x)] ?_
  rintro a A ⟨t0, t1, -⟩
  have BW : Below V.heap.size V V := Below.refl _ _
  have BB : Below V.heap.size V V := Below.refl _ _
  refine wp_seq ?_
  obtain ⟨g2, egg2⟩ : ∃ z_ : Nat, V.heap.size = z_ := ⟨_, rfl⟩
  refine wi_ A (h2_ t0 t1) (rs_ 0 (fun a ee => ?_))
  refine stepV rfl rfl (execBxD rfl (ee _) (own_slq own)) ⟨.pointer (some ⟨g2, 0, none⟩), ⟨_, rfl, by subst egg2; rfl⟩, fun X0_1 hX => ?_⟩
  have bQ : Below V.heap.size V X0_1 := by subst hX egg2; exact (belNew V _)
  have Fg2 : (X0_1.heap[g2]? = some (.cells (dC r k true) 32)) := by subst hX egg2; exact heapNew V _
  have Fgeg2 : (V.heap.size ≤ g2) := by subst hX egg2; exact (BB).size
  replace BB := BB.trans (bQ.mono BB.size)
  clear bQ hX egg2 ee a
  obtain ⟨g4, egg4⟩ : ∃ z_ : Nat, X0_1.heap.size = z_ := ⟨_, rfl⟩
  refine rs_ 1 (fun a ee => ?_)
  refine stepV rfl rfl (execAlD rfl) ⟨.pointer (some ⟨g4, 0, none⟩), ⟨_, rfl, by subst egg4; rfl⟩, fun X0 hX => ?_⟩
  have bQ : Below X0_1.heap.size X0_1 X0 := by subst hX egg4; exact (belNew X0_1 _)
  have Fg4 : (X0.heap[g4]? = some (.cells (dC (.slice none 0 0) 0 false) 32)) := by subst hX egg4; exact heapNew X0_1 _
  have Fgeg4 : (V.heap.size ≤ g4) := by subst hX egg4; exact (BB).size
  have Fng4g2 : (g2 ≠ g4) := by subst hX egg4; exact Nat.ne_of_lt (Array.getElem?_eq_some_iff.1 Fg2).1
  replace Fg2 := (on9 Fg2 bQ)
  replace BB := BB.trans (bQ.mono BB.size)
  clear bQ hX egg4 ee a
  refine rf_ [(2, .pointer (some ⟨g2, 0, none⟩)), (4, .pointer (some ⟨g4, 0, none⟩))] (h1_ t1) ?_
  rintro a A ⟨t2, t4, -⟩ ⟨t1, -⟩
  refine wp_seq ?_
  refine wp_seq ?_
  refine wi_ A (h3_ t1 t2 t4) (rv_ 0 (.pointer (some ⟨g2, 0 + 2, none⟩)) (fun a ee => execFd2 rfl (ee _)) (rv_ 1 (.bool true) (fun a ee => execLd1 rfl (Or.inr (Or.inr rfl)) (ee _) (dC_at Fg2).2.2) (rf_ [(9, .bool true)] (h3_ t1 t2 t4) ?_)))
  rintro a A ⟨t9, -⟩ ⟨t1, t2, t4, -⟩
  refine wp_cond_true t9 ?_
  clear t9
  refine wp_seq ?_
  refine wi_ A (h3_ t1 t2 t4) (rv_ 0 (.agg (dC r k true)) (fun a ee => execLdD rfl (ee _) Fg2) (rs_ 1 (fun a ee => ?_)))
  refine stepS rfl rfl (execStD rfl (ee _) (ee _) Fg4 (own_slq own)) ⟨_, ⟨_, rfl, rfl⟩, fun X2 hX => ?_⟩
  obtain ⟨BB, Fg2, Fg4s1⟩ : Below V.heap.size V X2 ∧ (X2.heap[g2]? = some (.cells (dC r k true) 32)) ∧ (X2.heap[g4]? = some (.cells (dC r k true) 32)) := by subst hX; exact ⟨below4 BB Fgeg4 _, (by rw [setRow_other _ _ _ _ Fng4g2]; exact Fg2), setRow_heap _ _ _ _ _ _ Fg4⟩
  clear Fg4 hX ee a
  refine rf_ [(5, .bool false), (6, .int .i64 ((180 : Nat) : Int))] (h1_ t4) ?_
  rintro a A ⟨t5, t6, -⟩ ⟨t4, -⟩
  refine wp_ret ?_
  repeat (first | with_reducible refine ret_in ?_ | with_reducible refine ret_then ?_)
  refine bodyPost_ret (res_c2 _ _ g4 32 _ (0, 0) _ Try.results23 t4 Fg4s1 Try.underlying32 rfl (sizeD _ _ _)) A.2 ⟨?_, BB⟩
  show Ending.returned (.tuple #[.agg (dC r k true), a.eval (.tmp 5), a.eval (.tmp 6)]) = _
  rw [t5, t6]
set_option maxRecDepth 100000 in
set_option maxHeartbeats 4000000 in
/-- The reference's Put. -/
theorem rput_f (r : Value) (x : Int) (k : Int) (n B : Nat) (z : Nat → Int) (V : World) (own : V.ownsRow B 3 1 r n (intsL n z)) (hf : k ≤ ((n : Nat) : Int)) :
    Calls Try.prog 23 #[.agg (dC r k false), .int .i64 x] V fun e w' => e = .returned (.tuple #[.agg (dC r k false), .bool false, .int .i64 ((0 : Nat) : Int)]) ∧ Below V.heap.size V w' := by
  go_enter Try.func23, Try.ntmps23
  refine wo_ 29 [(0, .agg (dC r k false)), (1, .int .i64 x)] ?_
  rintro a A ⟨t0, t1, -⟩
  have BW : Below V.heap.size V V := Below.refl _ _
  have BB : Below V.heap.size V V := Below.refl _ _
  refine wp_seq ?_
  obtain ⟨g2, egg2⟩ : ∃ z_ : Nat, V.heap.size = z_ := ⟨_, rfl⟩
  refine wi_ A (h2_ t0 t1) (rs_ 0 (fun a ee => ?_))
  refine stepV rfl rfl (execBxD rfl (ee _) (own_slq own)) ⟨.pointer (some ⟨g2, 0, none⟩), ⟨_, rfl, by subst egg2; rfl⟩, fun X0_1 hX => ?_⟩
  have bQ : Below V.heap.size V X0_1 := by subst hX egg2; exact (belNew V _)
  have Fg2 : (X0_1.heap[g2]? = some (.cells (dC r k false) 32)) := by subst hX egg2; exact heapNew V _
  have Fgeg2 : (V.heap.size ≤ g2) := by subst hX egg2; exact (BB).size
  replace BB := BB.trans (bQ.mono BB.size)
  clear bQ hX egg2 ee a
  obtain ⟨g4, egg4⟩ : ∃ z_ : Nat, X0_1.heap.size = z_ := ⟨_, rfl⟩
  refine rs_ 1 (fun a ee => ?_)
  refine stepV rfl rfl (execAlD rfl) ⟨.pointer (some ⟨g4, 0, none⟩), ⟨_, rfl, by subst egg4; rfl⟩, fun X0 hX => ?_⟩
  have bQ : Below X0_1.heap.size X0_1 X0 := by subst hX egg4; exact (belNew X0_1 _)
  have Fg4 : (X0.heap[g4]? = some (.cells (dC (.slice none 0 0) 0 false) 32)) := by subst hX egg4; exact heapNew X0_1 _
  have Fgeg4 : (V.heap.size ≤ g4) := by subst hX egg4; exact (BB).size
  have Fng4g2 : (g2 ≠ g4) := by subst hX egg4; exact Nat.ne_of_lt (Array.getElem?_eq_some_iff.1 Fg2).1
  replace Fg2 := (on9 Fg2 bQ)
  replace BB := BB.trans (bQ.mono BB.size)
  clear bQ hX egg4 ee a
  refine rf_ [(2, .pointer (some ⟨g2, 0, none⟩)), (4, .pointer (some ⟨g4, 0, none⟩))] (h1_ t1) ?_
  rintro a A ⟨t2, t4, -⟩ ⟨t1, -⟩
  refine wp_seq ?_
  refine wp_seq ?_
  refine wi_ A (h3_ t1 t2 t4) (rv_ 0 (.pointer (some ⟨g2, 0 + 2, none⟩)) (fun a ee => execFd2 rfl (ee _)) (rv_ 1 (.bool false) (fun a ee => execLd1 rfl (Or.inr (Or.inr rfl)) (ee _) (dC_at Fg2).2.2) (rf_ [(9, .bool false)] (h3_ t1 t2 t4) ?_)))
  rintro a A ⟨t9, -⟩ ⟨t1, t2, t4, -⟩
  refine wp_cond_false t9 ?_
  refine wp_skip ?_
  clear t9
  refine wp_seq ?_
  refine wp_seq ?_
  refine wi_ A (h3_ t1 t2 t4) (rv_ 0 (.pointer (some ⟨g2, 0, none⟩)) (fun a ee => execFd0 rfl (ee _)) (rv_ 1 (r) (fun a ee => execLd1 rfl (Or.inl rfl) (ee _) (dC_at Fg2).1) (rv_ 2 (.int .i64 ((n : Nat) : Int)) (fun a ee => execLenI (len := n) rfl (ee _) (own_shp own)) (rv_ 3 (.pointer (some ⟨g2, 0 + 1, none⟩)) (fun a ee => execFd1 rfl (ee _)) (rv_ 4 (.int .i64 k) (fun a ee => execLd1 rfl (Or.inr (Or.inl rfl)) (ee _) (dC_at Fg2).2.1) (rv_ 5 (.bool true) (fun a ee => execDec (exIgeq3 (p := ((n : Nat) : Int)) (q := k) rfl (ee _) (ee _)) (decide_eq_true hf)) (rf_ [(16, .bool true)] (h3_ t1 t2 t4) ?_)))))))
  rintro a A ⟨t16, -⟩ ⟨t1, t2, t4, -⟩
  refine wp_cond_true t16 ?_
  clear t16
  refine wp_seq ?_
  refine wi_ A (h3_ t1 t2 t4) (rv_ 0 (.agg (dC r k false)) (fun a ee => execLdD rfl (ee _) Fg2) (rs_ 1 (fun a ee => ?_)))
  refine stepS rfl rfl (execStD rfl (ee _) (ee _) Fg4 (own_slq own)) ⟨_, ⟨_, rfl, rfl⟩, fun X4 hX => ?_⟩
  obtain ⟨BB, Fg2, Fg4s1⟩ : Below V.heap.size V X4 ∧ (X4.heap[g2]? = some (.cells (dC r k false) 32)) ∧ (X4.heap[g4]? = some (.cells (dC r k false) 32)) := by subst hX; exact ⟨below4 BB Fgeg4 _, (by rw [setRow_other _ _ _ _ Fng4g2]; exact Fg2), setRow_heap _ _ _ _ _ _ Fg4⟩
  clear Fg4 hX ee a
  refine rf_ [(5, .bool false), (6, .int .i64 ((0 : Nat) : Int))] (h1_ t4) ?_
  rintro a A ⟨t5, t6, -⟩ ⟨t4, -⟩
  refine wp_ret ?_
  repeat (first | with_reducible refine ret_in ?_ | with_reducible refine ret_then ?_)
  refine bodyPost_ret (res_c2 _ _ g4 32 _ (0, 0) _ Try.results23 t4 Fg4s1 Try.underlying32 rfl (sizeD _ _ _)) A.2 ⟨?_, BB⟩
  show Ending.returned (.tuple #[.agg (dC r k false), a.eval (.tmp 5), a.eval (.tmp 6)]) = _
  rw [t5, t6]
set_option maxRecDepth 100000 in
set_option maxHeartbeats 4000000 in
/-- The reference's Put. -/
theorem rput_o (r : Value) (x : Int) (k : Int) (n B : Nat) (z : Nat → Int) (V : World) (own : V.ownsRow B 3 1 r n (intsL n z)) (hz : ∀ j, j < n → I64 (z j)) (hn : n ≤ 1024) (hf : ¬ k ≤ ((n : Nat) : Int)) :
    Calls Try.prog 23 #[.agg (dC r k false), .int .i64 x] V fun e w' => (∃ r', e = .returned (.tuple #[.agg (dC r' k false), .bool true, .int .i64 ((0 : Nat) : Int)]) ∧ w'.ownsRow V.heap.size 3 1 r' (n + 1) (intsL (n + 1) (up z n x))) ∧ Below V.heap.size V w' := by
  go_enter Try.func23, Try.ntmps23
  refine wo_ 29 [(0, .agg (dC r k false)), (1, .int .i64 x)] ?_
  rintro a A ⟨t0, t1, -⟩
  have BW : Below V.heap.size V V := Below.refl _ _
  have BB : Below V.heap.size V V := Below.refl _ _
  refine wp_seq ?_
  obtain ⟨g2, egg2⟩ : ∃ z_ : Nat, V.heap.size = z_ := ⟨_, rfl⟩
  refine wi_ A (h2_ t0 t1) (rs_ 0 (fun a ee => ?_))
  refine stepV rfl rfl (execBxD rfl (ee _) (own_slq own)) ⟨.pointer (some ⟨g2, 0, none⟩), ⟨_, rfl, by subst egg2; rfl⟩, fun X0_1 hX => ?_⟩
  have bQ : Below V.heap.size V X0_1 := by subst hX egg2; exact (belNew V _)
  have Fg2 : (X0_1.heap[g2]? = some (.cells (dC r k false) 32)) := by subst hX egg2; exact heapNew V _
  have Fgeg2 : (V.heap.size ≤ g2) := by subst hX egg2; exact (BB).size
  replace BB := BB.trans (bQ.mono BB.size)
  clear bQ hX egg2 ee a
  obtain ⟨g4, egg4⟩ : ∃ z_ : Nat, X0_1.heap.size = z_ := ⟨_, rfl⟩
  refine rs_ 1 (fun a ee => ?_)
  refine stepV rfl rfl (execAlD rfl) ⟨.pointer (some ⟨g4, 0, none⟩), ⟨_, rfl, by subst egg4; rfl⟩, fun X0 hX => ?_⟩
  have bQ : Below X0_1.heap.size X0_1 X0 := by subst hX egg4; exact (belNew X0_1 _)
  have Fg4 : (X0.heap[g4]? = some (.cells (dC (.slice none 0 0) 0 false) 32)) := by subst hX egg4; exact heapNew X0_1 _
  have Fgeg4 : (V.heap.size ≤ g4) := by subst hX egg4; exact (BB).size
  have Fng4g2 : (g2 ≠ g4) := by subst hX egg4; exact Nat.ne_of_lt (Array.getElem?_eq_some_iff.1 Fg2).1
  replace Fg2 := (on9 Fg2 bQ)
  replace BB := BB.trans (bQ.mono BB.size)
  clear bQ hX egg4 ee a
  refine rf_ [(2, .pointer (some ⟨g2, 0, none⟩)), (4, .pointer (some ⟨g4, 0, none⟩))] (h1_ t1) ?_
  rintro a A ⟨t2, t4, -⟩ ⟨t1, -⟩
  refine wp_seq ?_
  refine wp_seq ?_
  refine wi_ A (h3_ t1 t2 t4) (rv_ 0 (.pointer (some ⟨g2, 0 + 2, none⟩)) (fun a ee => execFd2 rfl (ee _)) (rv_ 1 (.bool false) (fun a ee => execLd1 rfl (Or.inr (Or.inr rfl)) (ee _) (dC_at Fg2).2.2) (rf_ [(9, .bool false)] (h3_ t1 t2 t4) ?_)))
  rintro a A ⟨t9, -⟩ ⟨t1, t2, t4, -⟩
  refine wp_cond_false t9 ?_
  refine wp_skip ?_
  clear t9
  refine wp_seq ?_
  refine wp_seq ?_
  refine wi_ A (h3_ t1 t2 t4) (rv_ 0 (.pointer (some ⟨g2, 0, none⟩)) (fun a ee => execFd0 rfl (ee _)) (rv_ 1 (r) (fun a ee => execLd1 rfl (Or.inl rfl) (ee _) (dC_at Fg2).1) (rv_ 2 (.int .i64 ((n : Nat) : Int)) (fun a ee => execLenI (len := n) rfl (ee _) (own_shp own)) (rv_ 3 (.pointer (some ⟨g2, 0 + 1, none⟩)) (fun a ee => execFd1 rfl (ee _)) (rv_ 4 (.int .i64 k) (fun a ee => execLd1 rfl (Or.inr (Or.inl rfl)) (ee _) (dC_at Fg2).2.1) (rv_ 5 (.bool false) (fun a ee => execDec (exIgeq3 (p := ((n : Nat) : Int)) (q := k) rfl (ee _) (ee _)) (decide_eq_false hf)) (rf_ [(16, .bool false)] (h3_ t1 t2 t4) ?_)))))))
  rintro a A ⟨t16, -⟩ ⟨t1, t2, t4, -⟩
  refine wp_cond_false t16 ?_
  refine wp_skip ?_
  clear t16
  refine wp_seq ?_
  refine wi_ A (h3_ t1 t2 t4) (rf_ [(7, .slice none 0 0)] (h3_ t1 t2 t4) ?_)
  rintro a A ⟨t7, -⟩ ⟨t1, t2, t4, -⟩
  have F0 := own_none18 X0 V.heap.size z
  refine wp_seq ?_
  refine wi_ A (h4_ t1 t2 t4 t7) (rv_ 1 (.pointer (some ⟨g2, 0, none⟩)) (fun a ee => execFd0 rfl (ee _)) (rv_ 2 (r) (fun a ee => execLd1 rfl (Or.inl rfl) (ee _) (dC_at Fg2).1) (rs_ 3 (fun a ee => ?_))))
  refine stepAppIs (f := z) (g := z) rfl rfl rfl (ee _) (ee _) F0 (own_ints (ownD_below own BB) hz) (own_nz own) (by omega) (BB).size fun l1 X6 own' gr => ⟨_, ⟨_, rfl, rfl⟩, eqw ?_⟩
  obtain ⟨BB, Fg2, Fg4, FR⟩ : Below V.heap.size V X6 ∧ (X6.heap[g2]? = some (.cells (dC r k false) 32)) ∧ (X6.heap[g4]? = some (.cells (dC (.slice none 0 0) 0 false) 32)) ∧ (X6.ownsRow V.heap.size 3 1 l1 n (intsL n z)) := ⟨(BB).grown gr (BB).size (fun k hk => (F0.lt k hk).1), (keep_over Fg2 F0 gr (by decide)), (keep_over Fg4 F0 gr (by decide)), (cat0 own')⟩
  clear F0 ee a
  refine rf_ [(7, l1)] (h3_ t1 t2 t4) ?_
  rintro a A ⟨t7, -⟩ ⟨t1, t2, t4, -⟩
  refine wp_seq ?_
  obtain ⟨gs, eggs⟩ : ∃ z_ : Nat, X6.heap.size = z_ := ⟨_, rfl⟩
  refine wi_ A (h4_ t1 t2 t4 t7) (rs_ 2 (fun a ee => ?_))
  refine stepV rfl rfl (execBsZ rfl (ee _)) ⟨.slice (some ⟨gs, 0, none⟩) 1 1, ⟨_, rfl, by subst eggs; rfl⟩, fun X7_1 hX => ?_⟩
  have bQ : Below X6.heap.size X6 X7_1 := by subst hX eggs; exact (belNew X6 _)
  have Fs : (X7_1.heap[gs]? = some (.cells #[.int .i64 x] 3)) := by subst hX eggs; exact heapNew X6 _
  replace Fg2 := (on9 Fg2 bQ)
  replace Fg4 := (on9 Fg4 bQ)
  replace FR := (ownD_below FR bQ)
  replace BB := BB.trans (bQ.mono BB.size)
  clear bQ hX eggs ee a
  refine rs_ 3 (fun a ee => ?_)
  refine stepAppI (f := up z n x) rfl rfl rfl (ee _) (ee _) (by rw [intsL_congr (fun j hj => up_ne z x (Nat.ne_of_lt hj))]; exact FR) (by rw [up_at]; exact Fs) (by omega) (BB).size fun l2 X7 own' gr => ⟨_, ⟨_, rfl, rfl⟩, eqw ?_⟩
  obtain ⟨BB, Fg2, Fg4, FR2⟩ : Below V.heap.size V X7 ∧ (X7.heap[g2]? = some (.cells (dC r k false) 32)) ∧ (X7.heap[g4]? = some (.cells (dC (.slice none 0 0) 0 false) 32)) ∧ (X7.ownsRow V.heap.size 3 1 l2 (n + 1) (intsL (n + 1) (up z n x))) := ⟨(BB).grown gr (BB).size (fun k hk => (FR.lt k hk).1), (keep_over Fg2 FR gr (by decide)), (keep_over Fg4 FR gr (by decide)), own'⟩
  clear FR Fs ee a
  refine rf_ [(7, l2)] (h2_ t2 t4) ?_
  rintro a A ⟨t7, -⟩ ⟨t2, t4, -⟩
  refine wp_seq ?_
  refine wi_ A (h3_ t2 t4 t7) (rv_ 1 (.pointer (some ⟨g2, 0, none⟩)) (fun a ee => execFd0 rfl (ee _)) (rs_ 2 (fun a ee => ?_)))
  refine stepS rfl rfl (execStR rfl (ee _) (ee _) Fg2 (own_slq FR2)) ⟨_, ⟨_, rfl, rfl⟩, fun X8 hX => ?_⟩
  obtain ⟨BB, Fg4, FR2, Fg2s1⟩ : Below V.heap.size V X8 ∧ (X8.heap[g4]? = some (.cells (dC (.slice none 0 0) 0 false) 32)) ∧ (X8.ownsRow V.heap.size 3 1 l2 (n + 1) (intsL (n + 1) (up z n x))) ∧ (X8.heap[g2]? = some (.cells (dC l2 k false) 32)) := by subst hX; exact ⟨(BB).setCell (p := ⟨g2, 0, none⟩) Fgeg2 _, (by rw [heap4o _ Fg2 (Ne.symm Fng4g2)]; exact Fg4), (ownG_T FR2 Fg2 (by decide) grC18), dC_set0 Fg2⟩
  clear Fg2 hX ee a
  refine rf_ [] (h2_ t2 t4) ?_
  rintro a A - ⟨t2, t4, -⟩
  refine wp_seq ?_
  refine wi_ A (h2_ t2 t4) (rv_ 0 (.agg (dC l2 k false)) (fun a ee => execLdD rfl (ee _) Fg2s1) (rs_ 1 (fun a ee => ?_)))
  refine stepS rfl rfl (execStD rfl (ee _) (ee _) Fg4 (own_slq FR2)) ⟨_, ⟨_, rfl, rfl⟩, fun X9 hX => ?_⟩
  obtain ⟨BB, FR2, Fg2s1, Fg4s2⟩ : Below V.heap.size V X9 ∧ (X9.ownsRow V.heap.size 3 1 l2 (n + 1) (intsL (n + 1) (up z n x))) ∧ (X9.heap[g2]? = some (.cells (dC l2 k false) 32)) ∧ (X9.heap[g4]? = some (.cells (dC l2 k false) 32)) := by subst hX; exact ⟨below4 BB Fgeg4 _, (ownG_T FR2 Fg4 (by decide) grR18), (by rw [setRow_other _ _ _ _ Fng4g2]; exact Fg2s1), setRow_heap _ _ _ _ _ _ Fg4⟩
  clear Fg4 hX ee a
  refine rf_ [(5, .bool true), (6, .int .i64 ((0 : Nat) : Int))] (h1_ t4) ?_
  rintro a A ⟨t5, t6, -⟩ ⟨t4, -⟩
  refine wp_ret ?_
  refine bodyPost_ret (res_c2 _ _ g4 32 _ (0, 0) _ Try.results23 t4 Fg4s2 Try.underlying32 rfl (sizeD _ _ _)) A.2 ⟨⟨l2, ?_, FR2⟩, BB⟩
  show Ending.returned (.tuple #[.agg (dC l2 k false), a.eval (.tmp 5), a.eval (.tmp 6)]) = _
  rw [t5, t6]
set_option maxRecDepth 100000 in
set_option maxHeartbeats 4000000 in
/-- The reference's Take. -/
theorem rtake_c (r : Value) (k : Int) (n B : Nat) (z : Nat → Int) (V : World) (own : V.ownsRow B 3 1 r n (intsL n z)) (h0 : n = 0) :
    Calls Try.prog 24 #[.agg (dC r k true)] V fun e w' => e = .returned (.tuple #[.agg (dC r k true), .int .i64 ((0 : Nat) : Int), .bool false, .int .i64 ((180 : Nat) : Int)]) ∧ Below V.heap.size V w' := by
  go_enter Try.func24, Try.ntmps24
  refine wo_ 29 [(0, .agg (dC r k true))] ?_
  rintro a A ⟨t0, -⟩
  have BW : Below V.heap.size V V := Below.refl _ _
  have BB : Below V.heap.size V V := Below.refl _ _
  refine wp_seq ?_
  obtain ⟨g1, egg1⟩ : ∃ z_ : Nat, V.heap.size = z_ := ⟨_, rfl⟩
  refine wi_ A (h1_ t0) (rs_ 0 (fun a ee => ?_))
  refine stepV rfl rfl (execBxD rfl (ee _) (own_slq own)) ⟨.pointer (some ⟨g1, 0, none⟩), ⟨_, rfl, by subst egg1; rfl⟩, fun X0_1 hX => ?_⟩
  have bQ : Below V.heap.size V X0_1 := by subst hX egg1; exact (belNew V _)
  have Fg1 : (X0_1.heap[g1]? = some (.cells (dC r k true) 32)) := by subst hX egg1; exact heapNew V _
  have Fgeg1 : (V.heap.size ≤ g1) := by subst hX egg1; exact (BB).size
  replace BB := BB.trans (bQ.mono BB.size)
  clear bQ hX egg1 ee a
  obtain ⟨g2, egg2⟩ : ∃ z_ : Nat, X0_1.heap.size = z_ := ⟨_, rfl⟩
  refine rs_ 1 (fun a ee => ?_)
  refine stepV rfl rfl (execAlD rfl) ⟨.pointer (some ⟨g2, 0, none⟩), ⟨_, rfl, by subst egg2; rfl⟩, fun X0 hX => ?_⟩
  have bQ : Below X0_1.heap.size X0_1 X0 := by subst hX egg2; exact (belNew X0_1 _)
  have Fg2 : (X0.heap[g2]? = some (.cells (dC (.slice none 0 0) 0 false) 32)) := by subst hX egg2; exact heapNew X0_1 _
  have Fgeg2 : (V.heap.size ≤ g2) := by subst hX egg2; exact (BB).size
  have Fng2g1 : (g1 ≠ g2) := by subst hX egg2; exact Nat.ne_of_lt (Array.getElem?_eq_some_iff.1 Fg1).1
  replace Fg1 := (on9 Fg1 bQ)
  replace BB := BB.trans (bQ.mono BB.size)
  clear bQ hX egg2 ee a
  refine rg_ [(1, .pointer (some ⟨g1, 0, none⟩)), (2, .pointer (some ⟨g2, 0, none⟩))] ?_
  rintro a A ⟨t1, t2, -⟩
  refine wp_seq ?_
  refine wp_seq ?_
  refine wi_ A (h2_ t1 t2) (rv_ 0 (.pointer (some ⟨g1, 0, none⟩)) (fun a ee => execFd0 rfl (ee _)) (rv_ 1 (r) (fun a ee => execLd1 rfl (Or.inl rfl) (ee _) (dC_at Fg1).1) (rv_ 2 (.int .i64 ((n : Nat) : Int)) (fun a ee => execLenI (len := n) rfl (ee _) (own_shp own)) (rv_ 3 (.bool true) (fun a ee => execDec (exIeql3 (p := ((n : Nat) : Int)) (q := 0) rfl (ee _) rfl) (decide_eq_true (by omega))) (rf_ [(11, .bool true)] (h2_ t1 t2) ?_)))))
  rintro a A ⟨t11, -⟩ ⟨t1, t2, -⟩
  refine wp_cond_true t11 ?_
  clear t11
  refine wp_seq ?_
  refine wp_seq ?_
  refine wi_ A (h2_ t1 t2) (rv_ 0 (.pointer (some ⟨g1, 0 + 2, none⟩)) (fun a ee => execFd2 rfl (ee _)) (rv_ 1 (.bool true) (fun a ee => execLd1 rfl (Or.inr (Or.inr rfl)) (ee _) (dC_at Fg1).2.2) (rf_ [(13, .bool true)] (h2_ t1 t2) ?_)))
  rintro a A ⟨t13, -⟩ ⟨t1, t2, -⟩
  refine wp_cond_true t13 ?_
  clear t13
  refine wp_seq ?_
  refine wi_ A (h2_ t1 t2) (rv_ 0 (.agg (dC r k true)) (fun a ee => execLdD rfl (ee _) Fg1) (rs_ 1 (fun a ee => ?_)))
  refine stepS rfl rfl (execStD rfl (ee _) (ee _) Fg2 (own_slq own)) ⟨_, ⟨_, rfl, rfl⟩, fun X3 hX => ?_⟩
  obtain ⟨BB, Fg1, Fg2s1⟩ : Below V.heap.size V X3 ∧ (X3.heap[g1]? = some (.cells (dC r k true) 32)) ∧ (X3.heap[g2]? = some (.cells (dC r k true) 32)) := by subst hX; exact ⟨below4 BB Fgeg2 _, (by rw [setRow_other _ _ _ _ Fng2g1]; exact Fg1), setRow_heap _ _ _ _ _ _ Fg2⟩
  clear Fg2 hX ee a
  refine rf_ [(3, .int .i64 ((0 : Nat) : Int)), (4, .bool false), (5, .int .i64 ((180 : Nat) : Int))] (h1_ t2) ?_
  rintro a A ⟨t3, t4, t5, -⟩ ⟨t2, -⟩
  refine wp_ret ?_
  repeat (first | with_reducible refine ret_in ?_ | with_reducible refine ret_then ?_)
  refine bodyPost_ret (res_c3 _ _ g2 32 _ (0, 0) _ Try.results24 t2 Fg2s1 Try.underlying32 rfl (sizeD _ _ _)) A.2 ⟨?_, BB⟩
  show Ending.returned (.tuple #[.agg (dC r k true), a.eval (.tmp 3), a.eval (.tmp 4), a.eval (.tmp 5)]) = _
  rw [t3, t4, t5]
set_option maxRecDepth 100000 in
set_option maxHeartbeats 4000000 in
/-- The reference's Take. -/
theorem rtake_e (r : Value) (k : Int) (n B : Nat) (z : Nat → Int) (V : World) (own : V.ownsRow B 3 1 r n (intsL n z)) (h0 : n = 0) :
    Calls Try.prog 24 #[.agg (dC r k false)] V fun e w' => e = .returned (.tuple #[.agg (dC r k false), .int .i64 ((0 : Nat) : Int), .bool false, .int .i64 ((0 : Nat) : Int)]) ∧ Below V.heap.size V w' := by
  go_enter Try.func24, Try.ntmps24
  refine wo_ 29 [(0, .agg (dC r k false))] ?_
  rintro a A ⟨t0, -⟩
  have BW : Below V.heap.size V V := Below.refl _ _
  have BB : Below V.heap.size V V := Below.refl _ _
  refine wp_seq ?_
  obtain ⟨g1, egg1⟩ : ∃ z_ : Nat, V.heap.size = z_ := ⟨_, rfl⟩
  refine wi_ A (h1_ t0) (rs_ 0 (fun a ee => ?_))
  refine stepV rfl rfl (execBxD rfl (ee _) (own_slq own)) ⟨.pointer (some ⟨g1, 0, none⟩), ⟨_, rfl, by subst egg1; rfl⟩, fun X0_1 hX => ?_⟩
  have bQ : Below V.heap.size V X0_1 := by subst hX egg1; exact (belNew V _)
  have Fg1 : (X0_1.heap[g1]? = some (.cells (dC r k false) 32)) := by subst hX egg1; exact heapNew V _
  have Fgeg1 : (V.heap.size ≤ g1) := by subst hX egg1; exact (BB).size
  replace BB := BB.trans (bQ.mono BB.size)
  clear bQ hX egg1 ee a
  obtain ⟨g2, egg2⟩ : ∃ z_ : Nat, X0_1.heap.size = z_ := ⟨_, rfl⟩
  refine rs_ 1 (fun a ee => ?_)
  refine stepV rfl rfl (execAlD rfl) ⟨.pointer (some ⟨g2, 0, none⟩), ⟨_, rfl, by subst egg2; rfl⟩, fun X0 hX => ?_⟩
  have bQ : Below X0_1.heap.size X0_1 X0 := by subst hX egg2; exact (belNew X0_1 _)
  have Fg2 : (X0.heap[g2]? = some (.cells (dC (.slice none 0 0) 0 false) 32)) := by subst hX egg2; exact heapNew X0_1 _
  have Fgeg2 : (V.heap.size ≤ g2) := by subst hX egg2; exact (BB).size
  have Fng2g1 : (g1 ≠ g2) := by subst hX egg2; exact Nat.ne_of_lt (Array.getElem?_eq_some_iff.1 Fg1).1
  replace Fg1 := (on9 Fg1 bQ)
  replace BB := BB.trans (bQ.mono BB.size)
  clear bQ hX egg2 ee a
  refine rg_ [(1, .pointer (some ⟨g1, 0, none⟩)), (2, .pointer (some ⟨g2, 0, none⟩))] ?_
  rintro a A ⟨t1, t2, -⟩
  refine wp_seq ?_
  refine wp_seq ?_
  refine wi_ A (h2_ t1 t2) (rv_ 0 (.pointer (some ⟨g1, 0, none⟩)) (fun a ee => execFd0 rfl (ee _)) (rv_ 1 (r) (fun a ee => execLd1 rfl (Or.inl rfl) (ee _) (dC_at Fg1).1) (rv_ 2 (.int .i64 ((n : Nat) : Int)) (fun a ee => execLenI (len := n) rfl (ee _) (own_shp own)) (rv_ 3 (.bool true) (fun a ee => execDec (exIeql3 (p := ((n : Nat) : Int)) (q := 0) rfl (ee _) rfl) (decide_eq_true (by omega))) (rf_ [(11, .bool true)] (h2_ t1 t2) ?_)))))
  rintro a A ⟨t11, -⟩ ⟨t1, t2, -⟩
  refine wp_cond_true t11 ?_
  clear t11
  refine wp_seq ?_
  refine wp_seq ?_
  refine wi_ A (h2_ t1 t2) (rv_ 0 (.pointer (some ⟨g1, 0 + 2, none⟩)) (fun a ee => execFd2 rfl (ee _)) (rv_ 1 (.bool false) (fun a ee => execLd1 rfl (Or.inr (Or.inr rfl)) (ee _) (dC_at Fg1).2.2) (rf_ [(13, .bool false)] (h2_ t1 t2) ?_)))
  rintro a A ⟨t13, -⟩ ⟨t1, t2, -⟩
  refine wp_cond_false t13 ?_
  refine wp_skip ?_
  clear t13
  refine wp_seq ?_
  refine wi_ A (h2_ t1 t2) (rv_ 0 (.agg (dC r k false)) (fun a ee => execLdD rfl (ee _) Fg1) (rs_ 1 (fun a ee => ?_)))
  refine stepS rfl rfl (execStD rfl (ee _) (ee _) Fg2 (own_slq own)) ⟨_, ⟨_, rfl, rfl⟩, fun X4 hX => ?_⟩
  obtain ⟨BB, Fg1, Fg2s1⟩ : Below V.heap.size V X4 ∧ (X4.heap[g1]? = some (.cells (dC r k false) 32)) ∧ (X4.heap[g2]? = some (.cells (dC r k false) 32)) := by subst hX; exact ⟨below4 BB Fgeg2 _, (by rw [setRow_other _ _ _ _ Fng2g1]; exact Fg1), setRow_heap _ _ _ _ _ _ Fg2⟩
  clear Fg2 hX ee a
  refine rf_ [(3, .int .i64 ((0 : Nat) : Int)), (4, .bool false), (5, .int .i64 ((0 : Nat) : Int))] (h1_ t2) ?_
  rintro a A ⟨t3, t4, t5, -⟩ ⟨t2, -⟩
  refine wp_ret ?_
  repeat (first | with_reducible refine ret_in ?_ | with_reducible refine ret_then ?_)
  refine bodyPost_ret (res_c3 _ _ g2 32 _ (0, 0) _ Try.results24 t2 Fg2s1 Try.underlying32 rfl (sizeD _ _ _)) A.2 ⟨?_, BB⟩
  show Ending.returned (.tuple #[.agg (dC r k false), a.eval (.tmp 3), a.eval (.tmp 4), a.eval (.tmp 5)]) = _
  rw [t3, t4, t5]
set_option maxRecDepth 100000 in
set_option maxHeartbeats 4000000 in
/-- The reference's Take. -/
theorem rtake_o (r : Value) (k : Int) (n B : Nat) (z : Nat → Int) (V : World) (own : V.ownsRow B 3 1 r n (intsL n z)) (hz : ∀ j, j < n → I64 (z j)) (hn : n ≤ 1024) (c : Bool) (h0 : 0 < n) :
    Calls Try.prog 24 #[.agg (dC r k c)] V fun e w' => (∃ r', e = .returned (.tuple #[.agg (dC r' k c), .int .i64 (z 0), .bool true, .int .i64 ((0 : Nat) : Int)]) ∧ w'.ownsRow V.heap.size 3 1 r' (n - 1) (intsL (n - 1) (fun j => z (j + 1)))) ∧ Below V.heap.size V w' := by
  go_enter Try.func24, Try.ntmps24
  refine wo_ 29 [(0, .agg (dC r k c))] ?_
  rintro a A ⟨t0, -⟩
  have BW : Below V.heap.size V V := Below.refl _ _
  have BB : Below V.heap.size V V := Below.refl _ _
  refine wp_seq ?_
  obtain ⟨g1, egg1⟩ : ∃ z_ : Nat, V.heap.size = z_ := ⟨_, rfl⟩
  refine wi_ A (h1_ t0) (rs_ 0 (fun a ee => ?_))
  refine stepV rfl rfl (execBxD rfl (ee _) (own_slq own)) ⟨.pointer (some ⟨g1, 0, none⟩), ⟨_, rfl, by subst egg1; rfl⟩, fun X0_1 hX => ?_⟩
  have bQ : Below V.heap.size V X0_1 := by subst hX egg1; exact (belNew V _)
  have Fg1 : (X0_1.heap[g1]? = some (.cells (dC r k c) 32)) := by subst hX egg1; exact heapNew V _
  have Fgeg1 : (V.heap.size ≤ g1) := by subst hX egg1; exact (BB).size
  replace BB := BB.trans (bQ.mono BB.size)
  clear bQ hX egg1 ee a
  obtain ⟨g2, egg2⟩ : ∃ z_ : Nat, X0_1.heap.size = z_ := ⟨_, rfl⟩
  refine rs_ 1 (fun a ee => ?_)
  refine stepV rfl rfl (execAlD rfl) ⟨.pointer (some ⟨g2, 0, none⟩), ⟨_, rfl, by subst egg2; rfl⟩, fun X0 hX => ?_⟩
  have bQ : Below X0_1.heap.size X0_1 X0 := by subst hX egg2; exact (belNew X0_1 _)
  have Fg2 : (X0.heap[g2]? = some (.cells (dC (.slice none 0 0) 0 false) 32)) := by subst hX egg2; exact heapNew X0_1 _
  have Fgeg2 : (V.heap.size ≤ g2) := by subst hX egg2; exact (BB).size
  have Fng2g1 : (g1 ≠ g2) := by subst hX egg2; exact Nat.ne_of_lt (Array.getElem?_eq_some_iff.1 Fg1).1
  replace Fg1 := (on9 Fg1 bQ)
  replace BB := BB.trans (bQ.mono BB.size)
  clear bQ hX egg2 ee a
  refine rg_ [(1, .pointer (some ⟨g1, 0, none⟩)), (2, .pointer (some ⟨g2, 0, none⟩))] ?_
  rintro a A ⟨t1, t2, -⟩
  refine wp_seq ?_
  refine wp_seq ?_
  refine wi_ A (h2_ t1 t2) (rv_ 0 (.pointer (some ⟨g1, 0, none⟩)) (fun a ee => execFd0 rfl (ee _)) (rv_ 1 (r) (fun a ee => execLd1 rfl (Or.inl rfl) (ee _) (dC_at Fg1).1) (rv_ 2 (.int .i64 ((n : Nat) : Int)) (fun a ee => execLenI (len := n) rfl (ee _) (own_shp own)) (rv_ 3 (.bool false) (fun a ee => execDec (exIeql3 (p := ((n : Nat) : Int)) (q := 0) rfl (ee _) rfl) (decide_eq_false (by omega))) (rf_ [(11, .bool false)] (h2_ t1 t2) ?_)))))
  rintro a A ⟨t11, -⟩ ⟨t1, t2, -⟩
  refine wp_cond_false t11 ?_
  refine wp_skip ?_
  clear t11
  obtain ⟨lb, lc, er, hlb, hlt⟩ := ownL_some9 own (show 0 < n by omega)
  have cR : ∀ X, Below V.heap.size V X → X.cell? ⟨lb, 0 + 0, none⟩ = some (.int .i64 (z 0)) := fun X hX => by
    have hq := (ownD_below own hX).cells (g := lb) (by rw [er]; rfl) 0 (.int .i64 (z 0)) (intsL_get (show 0 < n by omega))
    rw [Addr.add_mid] at hq
    exact hq
  refine wp_seq ?_
  refine wi_ A (h2_ t1 t2) (rv_ 0 (.pointer (some ⟨g1, 0, none⟩)) (fun a ee => execFd0 rfl (ee _)) (rv_ 1 (r) (fun a ee => execLd1 rfl (Or.inl rfl) (ee _) (dC_at Fg1).1) (rv_ 2 (.pointer (some ⟨lb, 0 + 0, none⟩)) (fun a ee => execIdxN (k := 0) rfl ((ee _).trans er) rfl (by omega)) (rv_ 3 (.int .i64 (z 0)) (fun a ee => execLd1 rfl (Or.inr (Or.inl rfl)) (ee _) (cR X0 BB)) (rf_ [(6, .int .i64 (z 0))] (h2_ t1 t2) ?_)))))
  rintro a A ⟨t6, -⟩ ⟨t1, t2, -⟩
  refine wp_seq ?_
  refine wi_ A (h3_ t1 t2 t6) (rf_ [(7, .slice none 0 0)] (h3_ t1 t2 t6) ?_)
  rintro a A ⟨t7, -⟩ ⟨t1, t2, t6, -⟩
  have F0 := own_none18 X0 V.heap.size z
  refine wp_seq ?_
  refine wi_ A (h4_ t1 t2 t6 t7) (rv_ 1 (.pointer (some ⟨g1, 0, none⟩)) (fun a ee => execFd0 rfl (ee _)) (rv_ 2 (r) (fun a ee => execLd1 rfl (Or.inl rfl) (ee _) (dC_at Fg1).1) (rv_ 3 ((sliced (some ⟨lb, 0, none⟩) 1 n lc 1)) (fun a ee => execSlLg rfl ((ee _).trans er) rfl (sl_lIg lb n lc 1 (by omega) X0)) (rs_ 4 (fun a ee => ?_)))))
  refine stepAppIs (f := z) (g := fun j => z (1 + j)) rfl rfl rfl (ee _) (ee _) F0 (SliceI.sub (er ▸ own_ints (ownD_below own BB) hz) 1 n (by omega) (Nat.le_refl _)) (sliced_nz lb 1 n lc) (by omega) (BB).size fun l1 X7 own' gr => ⟨_, ⟨_, rfl, rfl⟩, eqw ?_⟩
  obtain ⟨BB, Fg1, Fg2, FR⟩ : Below V.heap.size V X7 ∧ (X7.heap[g1]? = some (.cells (dC r k c) 32)) ∧ (X7.heap[g2]? = some (.cells (dC (.slice none 0 0) 0 false) 32)) ∧ (X7.ownsRow V.heap.size 3 1 l1 (n - 1) (intsL (n - 1) (fun j => z (j + 1)))) := ⟨(BB).grown gr (BB).size (fun k hk => (F0.lt k hk).1), (keep_over Fg1 F0 gr (by decide)), (keep_over Fg2 F0 gr (by decide)), (cat1 own')⟩
  clear F0 ee a
  refine rf_ [(7, l1)] (h3_ t1 t2 t6) ?_
  rintro a A ⟨t7, -⟩ ⟨t1, t2, t6, -⟩
  refine wp_seq ?_
  refine wi_ A (h4_ t1 t2 t6 t7) (rv_ 1 (.pointer (some ⟨g1, 0, none⟩)) (fun a ee => execFd0 rfl (ee _)) (rs_ 2 (fun a ee => ?_)))
  refine stepS rfl rfl (execStR rfl (ee _) (ee _) Fg1 (own_slq FR)) ⟨_, ⟨_, rfl, rfl⟩, fun X8 hX => ?_⟩
  obtain ⟨BB, Fg2, FR, Fg1s1⟩ : Below V.heap.size V X8 ∧ (X8.heap[g2]? = some (.cells (dC (.slice none 0 0) 0 false) 32)) ∧ (X8.ownsRow V.heap.size 3 1 l1 (n - 1) (intsL (n - 1) (fun j => z (j + 1)))) ∧ (X8.heap[g1]? = some (.cells (dC l1 k c) 32)) := by subst hX; exact ⟨(BB).setCell (p := ⟨g1, 0, none⟩) Fgeg1 _, (by rw [heap4o _ Fg1 (Ne.symm Fng2g1)]; exact Fg2), (ownG_T FR Fg1 (by decide) grC18), dC_set0 Fg1⟩
  clear Fg1 hX ee a
  refine rf_ [] (h3_ t1 t2 t6) ?_
  rintro a A - ⟨t1, t2, t6, -⟩
  refine wp_seq ?_
  refine wi_ A (h3_ t1 t2 t6) (rv_ 0 (.agg (dC l1 k c)) (fun a ee => execLdD rfl (ee _) Fg1s1) (rs_ 2 (fun a ee => ?_)))
  refine stepS rfl rfl (execStD rfl (ee _) (ee _) Fg2 (own_slq FR)) ⟨_, ⟨_, rfl, rfl⟩, fun X9 hX => ?_⟩
  obtain ⟨BB, FR, Fg1s1, Fg2s2⟩ : Below V.heap.size V X9 ∧ (X9.ownsRow V.heap.size 3 1 l1 (n - 1) (intsL (n - 1) (fun j => z (j + 1)))) ∧ (X9.heap[g1]? = some (.cells (dC l1 k c) 32)) ∧ (X9.heap[g2]? = some (.cells (dC l1 k c) 32)) := by subst hX; exact ⟨below4 BB Fgeg2 _, (ownG_T FR Fg2 (by decide) grR18), (by rw [setRow_other _ _ _ _ Fng2g1]; exact Fg1s1), setRow_heap _ _ _ _ _ _ Fg2⟩
  clear Fg2 hX ee a
  refine rf_ [(3, .int .i64 (z 0)), (4, .bool true), (5, .int .i64 ((0 : Nat) : Int))] (h1_ t2) ?_
  rintro a A ⟨t3, t4, t5, -⟩ ⟨t2, -⟩
  refine wp_ret ?_
  refine bodyPost_ret (res_c3 _ _ g2 32 _ (0, 0) _ Try.results24 t2 Fg2s2 Try.underlying32 rfl (sizeD _ _ _)) A.2 ⟨⟨l1, ?_, FR⟩, BB⟩
  show Ending.returned (.tuple #[.agg (dC l1 k c), a.eval (.tmp 3), a.eval (.tmp 4), a.eval (.tmp 5)]) = _
  rw [t3, t4, t5]
set_option maxRecDepth 100000 in
set_option maxHeartbeats 4000000 in
/-- The reference's Close. -/
theorem rclose_c (r : Value) (k : Int) (n B : Nat) (z : Nat → Int) (V : World) (own : V.ownsRow B 3 1 r n (intsL n z)) :
    Calls Try.prog 26 #[.agg (dC r k true)] V fun e w' => e = .returned (.tuple #[.agg (dC r k true), .int .i64 ((180 : Nat) : Int)]) ∧ Below V.heap.size V w' := by
  go_enter Try.func26, Try.ntmps26
  refine wo_ 9 [(0, .agg (dC r k true))] ?_
  rintro a A ⟨t0, -⟩
  have BW : Below V.heap.size V V := Below.refl _ _
  have BB : Below V.heap.size V V := Below.refl _ _
  refine wp_seq ?_
  obtain ⟨g1, egg1⟩ : ∃ z_ : Nat, V.heap.size = z_ := ⟨_, rfl⟩
  refine wi_ A (h1_ t0) (rs_ 0 (fun a ee => ?_))
  refine stepV rfl rfl (execBxD rfl (ee _) (own_slq own)) ⟨.pointer (some ⟨g1, 0, none⟩), ⟨_, rfl, by subst egg1; rfl⟩, fun X0_1 hX => ?_⟩
  have bQ : Below V.heap.size V X0_1 := by subst hX egg1; exact (belNew V _)
  have Fg1 : (X0_1.heap[g1]? = some (.cells (dC r k true) 32)) := by subst hX egg1; exact heapNew V _
  have Fgeg1 : (V.heap.size ≤ g1) := by subst hX egg1; exact (BB).size
  replace BB := BB.trans (bQ.mono BB.size)
  clear bQ hX egg1 ee a
  obtain ⟨g2, egg2⟩ : ∃ z_ : Nat, X0_1.heap.size = z_ := ⟨_, rfl⟩
  refine rs_ 1 (fun a ee => ?_)
  refine stepV rfl rfl (execAlD rfl) ⟨.pointer (some ⟨g2, 0, none⟩), ⟨_, rfl, by subst egg2; rfl⟩, fun X0 hX => ?_⟩
  have bQ : Below X0_1.heap.size X0_1 X0 := by subst hX egg2; exact (belNew X0_1 _)
  have Fg2 : (X0.heap[g2]? = some (.cells (dC (.slice none 0 0) 0 false) 32)) := by subst hX egg2; exact heapNew X0_1 _
  have Fgeg2 : (V.heap.size ≤ g2) := by subst hX egg2; exact (BB).size
  have Fng2g1 : (g1 ≠ g2) := by subst hX egg2; exact Nat.ne_of_lt (Array.getElem?_eq_some_iff.1 Fg1).1
  replace Fg1 := (on9 Fg1 bQ)
  replace BB := BB.trans (bQ.mono BB.size)
  clear bQ hX egg2 ee a
  refine rg_ [(1, .pointer (some ⟨g1, 0, none⟩)), (2, .pointer (some ⟨g2, 0, none⟩))] ?_
  rintro a A ⟨t1, t2, -⟩
  refine wp_seq ?_
  refine wp_seq ?_
  refine wi_ A (h2_ t1 t2) (rv_ 0 (.pointer (some ⟨g1, 0 + 2, none⟩)) (fun a ee => execFd2 rfl (ee _)) (rv_ 1 (.bool true) (fun a ee => execLd1 rfl (Or.inr (Or.inr rfl)) (ee _) (dC_at Fg1).2.2) (rf_ [(5, .bool true)] (h2_ t1 t2) ?_)))
  rintro a A ⟨t5, -⟩ ⟨t1, t2, -⟩
  refine wp_cond_true t5 ?_
  clear t5
  refine wp_seq ?_
  refine wi_ A (h2_ t1 t2) (rv_ 0 (.agg (dC r k true)) (fun a ee => execLdD rfl (ee _) Fg1) (rs_ 1 (fun a ee => ?_)))
  refine stepS rfl rfl (execStD rfl (ee _) (ee _) Fg2 (own_slq own)) ⟨_, ⟨_, rfl, rfl⟩, fun X2 hX => ?_⟩
  obtain ⟨BB, Fg1, Fg2s1⟩ : Below V.heap.size V X2 ∧ (X2.heap[g1]? = some (.cells (dC r k true) 32)) ∧ (X2.heap[g2]? = some (.cells (dC r k true) 32)) := by subst hX; exact ⟨below4 BB Fgeg2 _, (by rw [setRow_other _ _ _ _ Fng2g1]; exact Fg1), setRow_heap _ _ _ _ _ _ Fg2⟩
  clear Fg2 hX ee a
  refine rf_ [(3, .int .i64 ((180 : Nat) : Int))] (h1_ t2) ?_
  rintro a A ⟨t3, -⟩ ⟨t2, -⟩
  refine wp_ret ?_
  repeat (first | with_reducible refine ret_in ?_ | with_reducible refine ret_then ?_)
  refine bodyPost_ret (res_c1 _ _ g2 32 _ (0, 0) _ Try.results26 t2 Fg2s1 Try.underlying32 rfl (sizeD _ _ _)) A.2 ⟨?_, BB⟩
  show Ending.returned (.tuple #[.agg (dC r k true), a.eval (.tmp 3)]) = _
  rw [t3]
set_option maxRecDepth 100000 in
set_option maxHeartbeats 4000000 in
/-- The reference's Close. -/
theorem rclose_o (r : Value) (k : Int) (n B : Nat) (z : Nat → Int) (V : World) (own : V.ownsRow B 3 1 r n (intsL n z)) :
    Calls Try.prog 26 #[.agg (dC r k false)] V fun e w' => e = .returned (.tuple #[.agg (dC r k true), .int .i64 ((0 : Nat) : Int)]) ∧ Below V.heap.size V w' := by
  go_enter Try.func26, Try.ntmps26
  refine wo_ 9 [(0, .agg (dC r k false))] ?_
  rintro a A ⟨t0, -⟩
  have BW : Below V.heap.size V V := Below.refl _ _
  have BB : Below V.heap.size V V := Below.refl _ _
  refine wp_seq ?_
  obtain ⟨g1, egg1⟩ : ∃ z_ : Nat, V.heap.size = z_ := ⟨_, rfl⟩
  refine wi_ A (h1_ t0) (rs_ 0 (fun a ee => ?_))
  refine stepV rfl rfl (execBxD rfl (ee _) (own_slq own)) ⟨.pointer (some ⟨g1, 0, none⟩), ⟨_, rfl, by subst egg1; rfl⟩, fun X0_1 hX => ?_⟩
  have bQ : Below V.heap.size V X0_1 := by subst hX egg1; exact (belNew V _)
  have Fg1 : (X0_1.heap[g1]? = some (.cells (dC r k false) 32)) := by subst hX egg1; exact heapNew V _
  have Fgeg1 : (V.heap.size ≤ g1) := by subst hX egg1; exact (BB).size
  replace BB := BB.trans (bQ.mono BB.size)
  clear bQ hX egg1 ee a
  obtain ⟨g2, egg2⟩ : ∃ z_ : Nat, X0_1.heap.size = z_ := ⟨_, rfl⟩
  refine rs_ 1 (fun a ee => ?_)
  refine stepV rfl rfl (execAlD rfl) ⟨.pointer (some ⟨g2, 0, none⟩), ⟨_, rfl, by subst egg2; rfl⟩, fun X0 hX => ?_⟩
  have bQ : Below X0_1.heap.size X0_1 X0 := by subst hX egg2; exact (belNew X0_1 _)
  have Fg2 : (X0.heap[g2]? = some (.cells (dC (.slice none 0 0) 0 false) 32)) := by subst hX egg2; exact heapNew X0_1 _
  have Fgeg2 : (V.heap.size ≤ g2) := by subst hX egg2; exact (BB).size
  have Fng2g1 : (g1 ≠ g2) := by subst hX egg2; exact Nat.ne_of_lt (Array.getElem?_eq_some_iff.1 Fg1).1
  replace Fg1 := (on9 Fg1 bQ)
  replace BB := BB.trans (bQ.mono BB.size)
  clear bQ hX egg2 ee a
  refine rg_ [(1, .pointer (some ⟨g1, 0, none⟩)), (2, .pointer (some ⟨g2, 0, none⟩))] ?_
  rintro a A ⟨t1, t2, -⟩
  refine wp_seq ?_
  refine wp_seq ?_
  refine wi_ A (h2_ t1 t2) (rv_ 0 (.pointer (some ⟨g1, 0 + 2, none⟩)) (fun a ee => execFd2 rfl (ee _)) (rv_ 1 (.bool false) (fun a ee => execLd1 rfl (Or.inr (Or.inr rfl)) (ee _) (dC_at Fg1).2.2) (rf_ [(5, .bool false)] (h2_ t1 t2) ?_)))
  rintro a A ⟨t5, -⟩ ⟨t1, t2, -⟩
  refine wp_cond_false t5 ?_
  refine wp_skip ?_
  clear t5
  refine wp_seq ?_
  refine wi_ A (h2_ t1 t2) (rv_ 0 (.pointer (some ⟨g1, 0 + 2, none⟩)) (fun a ee => execFd2 rfl (ee _)) (rs_ 1 (fun a ee => ?_)))
  refine stepS rfl rfl (execStC rfl (ee _) rfl Fg1) ⟨_, ⟨_, rfl, rfl⟩, fun X3 hX => ?_⟩
  obtain ⟨BB, Fg2, Fg1s1⟩ : Below V.heap.size V X3 ∧ (X3.heap[g2]? = some (.cells (dC (.slice none 0 0) 0 false) 32)) ∧ (X3.heap[g1]? = some (.cells (dC r k true) 32)) := by subst hX; exact ⟨(BB).setCell (p := ⟨g1, 0 + 2, none⟩) Fgeg1 _, (by rw [heap4o _ Fg1 (Ne.symm Fng2g1)]; exact Fg2), dC_set2 Fg1⟩
  clear Fg1 hX ee a
  refine rf_ [] (h2_ t1 t2) ?_
  rintro a A - ⟨t1, t2, -⟩
  refine wp_seq ?_
  refine wi_ A (h2_ t1 t2) (rv_ 0 (.agg (dC r k true)) (fun a ee => execLdD rfl (ee _) Fg1s1) (rs_ 1 (fun a ee => ?_)))
  refine stepS rfl rfl (execStD rfl (ee _) (ee _) Fg2 (own_slq own)) ⟨_, ⟨_, rfl, rfl⟩, fun X4 hX => ?_⟩
  obtain ⟨BB, Fg1s1, Fg2s2⟩ : Below V.heap.size V X4 ∧ (X4.heap[g1]? = some (.cells (dC r k true) 32)) ∧ (X4.heap[g2]? = some (.cells (dC r k true) 32)) := by subst hX; exact ⟨below4 BB Fgeg2 _, (by rw [setRow_other _ _ _ _ Fng2g1]; exact Fg1s1), setRow_heap _ _ _ _ _ _ Fg2⟩
  clear Fg2 hX ee a
  refine rf_ [(3, .int .i64 ((0 : Nat) : Int))] (h1_ t2) ?_
  rintro a A ⟨t3, -⟩ ⟨t2, -⟩
  refine wp_ret ?_
  refine bodyPost_ret (res_c1 _ _ g2 32 _ (0, 0) _ Try.results26 t2 Fg2s2 Try.underlying32 rfl (sizeD _ _ _)) A.2 ⟨?_, BB⟩
  show Ending.returned (.tuple #[.agg (dC r k true), a.eval (.tmp 3)]) = _
  rw [t3]
end Go.Proofs.Ytialghojibjknaa.Duc
