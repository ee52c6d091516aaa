import Derived.Test.YtnfokemikcigbaaK8f
import Derived.Test.YtnfokemikcigbaaK8c
import Derived.Test.YtnfokemikcigbaaK8d
namespace Go.Proofs.Ytnfokemikcigbaa.Ord
open Go.RowKit Gf8 Aes By8 Cel Cf Win Drw Prm
open Go.ChangeMaps Go.MapKept
/- The reference's find, Add, Next, First; place, allBelow, awake. Written by tools/mkK8g.py. -/

theorem keepT {W X : World} {g k : Nat} {c d : Array Value} {t u : TypeId} (h : W.heap[k]? = some (.cells d u)) (hg : W.heap[g]? = some (.cells c t)) (ht : t ≠ u) (gr : W.grownBy X (some g)) : X.heap[k]? = some (.cells d u) := by
  rw [gr.block k (Array.getElem?_eq_some_iff.1 h).1 (fun e => by cases e; rw [h] at hg; cases hg; exact ht rfl)]
  exact h
set_option maxRecDepth 100000 in
set_option maxHeartbeats 4000000 in
/-- allBelow. -/
theorem allb_t (v : Value) (l : Nat) (p q : Nat → Int) (V : World) (hP : SliceP V v l p q) (h : ∀ j, j < l → q j = 0) (hl : l ≤ 8796093022208) :
    Calls Try.prog 18 #[v] V fun e w' => e = .returned (.bool true) ∧ Below V.heap.size V w' := by
  go_enter Try.func18, Try.ntmps18
  refine wo_ 15 [(0, v)] ?_
  rintro a A ⟨t0, -⟩
  have BW : Below V.heap.size V V := Below.refl _ _
  have BB : Below V.heap.size V V := Below.refl _ _
  refine wp_seq ?_
  refine wi_ A (h1_ t0) (rf_ [] (h1_ t0) ?_)
  rintro a A - ⟨t0, -⟩
  refine wp_seq ?_
  refine wp_seq ?_
  refine wi_ A (h1_ t0) (rv_ 1 (.int .i64 ((l : Nat) : Int)) (fun a ee => execLnP (len := l) rfl (Or.inr (Or.inr (Or.inl rfl))) (ee _) hP.shp) (rg_ [(5, v), (6, .int .i64 ((l : Nat) : Int)), (7, .int .i64 ((0 : Nat) : Int))] ?_))
  rintro a A ⟨t5, t6, t7, -⟩
  refine wp_block ?_
  refine wp_loop (fun a W => ∃ (k : Nat), k ≤ l ∧ (a.tmps.size = 15 ∧ a.defers = []) ∧ a.eval (.tmp 5) = v ∧ a.eval (.tmp 6) = .int .i64 ((l : Nat) : Int) ∧ a.eval (.tmp 7) = .int .i64 ((k : Nat) : Int) ∧ Below V.heap.size V W) (fun a _ => l - (intOf (a.eval (.tmp 7))).toNat) ⟨0, Nat.zero_le _, A, t5, t6, t7, BB⟩ ?_
  clear A t5 t6 t7 BB a
  rintro a XL2 ⟨k, hk, A, t5, t6, t7, BB⟩
  have esk := t7
  refine wp_seq ?_
  refine wi_ A (h3_ t5 t6 t7) (rv_ 0 (.bool (decide (k < l))) (fun a ee => execLtW (p := k) (q := l) rfl (ee _) (ee _)) (rf_ [(8, .bool (decide (k < l)))] (h3_ t5 t6 t7) ?_))
  rintro a A ⟨t8, -⟩ ⟨t5, t6, t7, -⟩
  refine wp_seq ?_
  by_cases ltk : k < l
  · rw [decide_eq_true ltk] at t8
    refine wp_cond_true t8 ?_
    refine wp_skip ?_
    clear t8
    refine wp_seq ?_
    refine wp_block ?_
    obtain ⟨pb, po, pc, ep_, hpb, hpc⟩ := hP.at (show 0 < l by omega)
    have cP : ∀ X, Below V.heap.size V X → X.cell? ⟨pb, po + k * 2, none⟩ = some (.int .i64 (p k)) ∧ X.cell? ⟨pb, po + k * 2 + 1, none⟩ = some (.int .i64 (q k)) := fun X hX => ⟨by rw [cell_below hX hpb]; exact (hpc k ltk).1, by rw [cell_below hX hpb]; exact (hpc k ltk).2⟩
    refine wp_seq ?_
    obtain ⟨g4, egg4⟩ : ∃ z_ : Nat, XL2.heap.size = z_ := ⟨_, rfl⟩
    refine wi_ A (h3_ t5 t6 t7) (rv_ 0 (.pointer (some ⟨pb, po + k * 2, none⟩)) (fun a ee => execIxP (k := k) rfl (Or.inr (Or.inr (rfl))) ((ee _).trans ep_) (ee _) ltk) (rv_ 1 (.agg (fC (p k) (q k))) (fun a ee => execLdN rfl (ee _) (cP XL2 BB).1 (cP XL2 BB).2) (rs_ 2 (fun a ee => ?_))))
    refine stepV rfl rfl (execAl2 rfl (Or.inl rfl)) ⟨.pointer (some ⟨g4, 0, none⟩), ⟨_, rfl, by subst egg4; rfl⟩, fun X3_1 hX => ?_⟩
    have bQ : Below XL2.heap.size XL2 X3_1 := by subst hX egg4; exact (belNew XL2 _)
    have Fg4 : (X3_1.heap[g4]? = some (.cells (fC 0 0) 53)) := by subst hX egg4; exact heapNew XL2 _
    have Fgeg4 : (V.heap.size ≤ g4) := by subst hX egg4; exact (BB).size
    replace BB := BB.trans (bQ.mono BB.size)
    clear bQ hX egg4 ee a
    refine rs_ 3 (fun a ee => ?_)
    refine stepS rfl rfl (execStN rfl (ee _) (ee _) Fg4) ⟨_, ⟨_, rfl, rfl⟩, fun X3 hX => ?_⟩
    obtain ⟨BB, Fg4s1⟩ : Below V.heap.size V X3 ∧ (X3.heap[g4]? = some (.cells (fC (p k) (q k)) 53)) := by subst hX; exact ⟨below4 BB Fgeg4 _, setRow_heap _ _ _ _ _ _ Fg4⟩
    clear Fg4 hX ee a
    refine rf_ [(4, .pointer (some ⟨g4, 0, none⟩))] (h3_ t5 t6 t7) ?_
    rintro a A ⟨t4, -⟩ ⟨t5, t6, t7, -⟩
    refine wp_seq ?_
    refine wi_ A (h4_ t4 t5 t6 t7) (rv_ 0 (.pointer (some ⟨g4, 1, none⟩)) (fun a ee => execFzN1 rfl (ee _)) (rv_ 1 (.int .i64 (q k)) (fun a ee => execL20 rfl (Or.inr (Or.inl rfl)) (ee _) (fC_at Fg4s1).2) (rv_ 2 (.bool false) (fun a ee => execDec (exIneqE (p := (q k)) (q := 0) rfl (ee _) rfl) (decide_eq_false (fun w => w (h k ltk)))) (rf_ [(13, .bool false)] (h3_ t5 t6 t7) ?_))))
    rintro a A ⟨t13, -⟩ ⟨t5, t6, t7, -⟩
    refine wp_cond_false t13 ?_
    refine wp_skip ?_
    clear t13
    refine wi_ A (h3_ t5 t6 t7) (rv_ 0 (.int .i64 ((k + 1 : Nat) : Int)) (fun a ee => execAd8 (p := k) (q := 1) rfl (ee _) rfl (by omega)) (rf_ [(7, .int .i64 ((k + 1 : Nat) : Int))] (h2_ t5 t6) ?_))
    rintro a A ⟨t7, -⟩ ⟨t5, t6, -⟩
    exact ⟨⟨k + 1, ltk, A, t5, t6, t7, BB⟩, by show l - (intOf (a.eval (.tmp 7))).toNat < l - (intOf (Act.eval _ (.tmp 7))).toNat; rw [t7, esk]; show l - (k + 1) < l - k; omega⟩
  rw [decide_eq_false ltk] at t8
  refine wp_cond_false t8 ?_
  refine wp_exit ?_
  first | with_reducible refine exit_in ?_ | with_reducible refine exit_then (exit_in ?_) | with_reducible refine exit_then (exit_then (exit_in ?_)) | refine exit_in ?_ | refine exit_then (exit_in ?_) | refine exit_then (exit_then (exit_in ?_))
  clear t8 esk
  refine wp_seq ?_
  refine wi_ A (h3_ t5 t6 t7) (rg_ [(2, .bool true)] ?_)
  rintro a A ⟨t2, -⟩
  refine wp_ret ?_
  refine bodyPost_ret (results_tmp rfl _ _ _) A.2 ⟨?_, BB⟩
  show Ending.returned (a.eval (.tmp 2)) = _
  rw [t2]
set_option maxRecDepth 100000 in
set_option maxHeartbeats 4000000 in
/-- allBelow. -/
theorem allb_f (v : Value) (l : Nat) (p q : Nat → Int) (V : World) (hP : SliceP V v l p q) (j0 : Nat) (h0 : j0 < l) (hj : q j0 ≠ 0) (hb : ∀ k, k < j0 → q k = 0) (hl : l ≤ 8796093022208) :
    Calls Try.prog 18 #[v] V fun e w' => e = .returned (.bool false) ∧ Below V.heap.size V w' := by
  go_enter Try.func18, Try.ntmps18
  refine wo_ 15 [(0, v)] ?_
  rintro a A ⟨t0, -⟩
  have BW : Below V.heap.size V V := Below.refl _ _
  have BB : Below V.heap.size V V := Below.refl _ _
  refine wp_seq ?_
  refine wi_ A (h1_ t0) (rf_ [] (h1_ t0) ?_)
  rintro a A - ⟨t0, -⟩
  refine wp_seq ?_
  refine wp_seq ?_
  refine wi_ A (h1_ t0) (rv_ 1 (.int .i64 ((l : Nat) : Int)) (fun a ee => execLnP (len := l) rfl (Or.inr (Or.inr (Or.inl rfl))) (ee _) hP.shp) (rg_ [(5, v), (6, .int .i64 ((l : Nat) : Int)), (7, .int .i64 ((0 : Nat) : Int))] ?_))
  rintro a A ⟨t5, t6, t7, -⟩
  refine wp_block ?_
  refine wp_loop (fun a W => ∃ (k : Nat), k ≤ l ∧ (k ≤ j0) ∧ (a.tmps.size = 15 ∧ a.defers = []) ∧ a.eval (.tmp 5) = v ∧ a.eval (.tmp 6) = .int .i64 ((l : Nat) : Int) ∧ a.eval (.tmp 7) = .int .i64 ((k : Nat) : Int) ∧ Below V.heap.size V W) (fun a _ => l - (intOf (a.eval (.tmp 7))).toNat) ⟨0, Nat.zero_le _, Nat.zero_le _, A, t5, t6, t7, BB⟩ ?_
  clear A t5 t6 t7 BB a
  rintro a XL2 ⟨k, hk, hk0, A, t5, t6, t7, BB⟩
  have esk := t7
  refine wp_seq ?_
  refine wi_ A (h3_ t5 t6 t7) (rv_ 0 (.bool (decide (k < l))) (fun a ee => execLtW (p := k) (q := l) rfl (ee _) (ee _)) (rf_ [(8, .bool (decide (k < l)))] (h3_ t5 t6 t7) ?_))
  rintro a A ⟨t8, -⟩ ⟨t5, t6, t7, -⟩
  refine wp_seq ?_
  by_cases ltk : k < l
  · rw [decide_eq_true ltk] at t8
    refine wp_cond_true t8 ?_
    refine wp_skip ?_
    clear t8
    refine wp_seq ?_
    refine wp_block ?_
    obtain ⟨pb, po, pc, ep_, hpb, hpc⟩ := hP.at (show 0 < l by omega)
    have cP : ∀ X, Below V.heap.size V X → X.cell? ⟨pb, po + k * 2, none⟩ = some (.int .i64 (p k)) ∧ X.cell? ⟨pb, po + k * 2 + 1, none⟩ = some (.int .i64 (q k)) := fun X hX => ⟨by rw [cell_below hX hpb]; exact (hpc k ltk).1, by rw [cell_below hX hpb]; exact (hpc k ltk).2⟩
    refine wp_seq ?_
    obtain ⟨g4, egg4⟩ : ∃ z_ : Nat, XL2.heap.size = z_ := ⟨_, rfl⟩
    refine wi_ A (h3_ t5 t6 t7) (rv_ 0 (.pointer (some ⟨pb, po + k * 2, none⟩)) (fun a ee => execIxP (k := k) rfl (Or.inr (Or.inr (rfl))) ((ee _).trans ep_) (ee _) ltk) (rv_ 1 (.agg (fC (p k) (q k))) (fun a ee => execLdN rfl (ee _) (cP XL2 BB).1 (cP XL2 BB).2) (rs_ 2 (fun a ee => ?_))))
    refine stepV rfl rfl (execAl2 rfl (Or.inl rfl)) ⟨.pointer (some ⟨g4, 0, none⟩), ⟨_, rfl, by subst egg4; rfl⟩, fun X3_1 hX => ?_⟩
    have bQ : Below XL2.heap.size XL2 X3_1 := by subst hX egg4; exact (belNew XL2 _)
    have Fg4 : (X3_1.heap[g4]? = some (.cells (fC 0 0) 53)) := by subst hX egg4; exact heapNew XL2 _
    have Fgeg4 : (V.heap.size ≤ g4) := by subst hX egg4; exact (BB).size
    replace BB := BB.trans (bQ.mono BB.size)
    clear bQ hX egg4 ee a
    refine rs_ 3 (fun a ee => ?_)
    refine stepS rfl rfl (execStN rfl (ee _) (ee _) Fg4) ⟨_, ⟨_, rfl, rfl⟩, fun X3 hX => ?_⟩
    obtain ⟨BB, Fg4s1⟩ : Below V.heap.size V X3 ∧ (X3.heap[g4]? = some (.cells (fC (p k) (q k)) 53)) := by subst hX; exact ⟨below4 BB Fgeg4 _, setRow_heap _ _ _ _ _ _ Fg4⟩
    clear Fg4 hX ee a
    refine rf_ [(4, .pointer (some ⟨g4, 0, none⟩))] (h3_ t5 t6 t7) ?_
    rintro a A ⟨t4, -⟩ ⟨t5, t6, t7, -⟩
    by_cases hk : k = j0
    · refine wp_seq ?_
      refine wi_ A (h4_ t4 t5 t6 t7) (rv_ 0 (.pointer (some ⟨g4, 1, none⟩)) (fun a ee => execFzN1 rfl (ee _)) (rv_ 1 (.int .i64 (q k)) (fun a ee => execL20 rfl (Or.inr (Or.inl rfl)) (ee _) (fC_at Fg4s1).2) (rv_ 2 (.bool true) (fun a ee => execDec (exIneqE (p := (q k)) (q := 0) rfl (ee _) rfl) (decide_eq_true (by rw [hk]; exact hj))) (rf_ [(13, .bool true)] (h3_ t5 t6 t7) ?_))))
      rintro a A ⟨t13, -⟩ ⟨t5, t6, t7, -⟩
      refine wp_cond_true t13 ?_
      clear t13
      refine wp_seq ?_
      refine wi_ A (h3_ t5 t6 t7) (rg_ [(2, .bool false)] ?_)
      rintro a A ⟨t2, -⟩
      refine wp_ret ?_
      repeat (first | with_reducible refine ret_in ?_ | with_reducible refine ret_then ?_)
      refine bodyPost_ret (results_tmp rfl _ _ _) A.2 ⟨?_, BB⟩
      show Ending.returned (a.eval (.tmp 2)) = _
      rw [t2]
    · have hk1 : k + 1 ≤ j0 := by omega
      refine wp_seq ?_
      refine wi_ A (h4_ t4 t5 t6 t7) (rv_ 0 (.pointer (some ⟨g4, 1, none⟩)) (fun a ee => execFzN1 rfl (ee _)) (rv_ 1 (.int .i64 (q k)) (fun a ee => execL20 rfl (Or.inr (Or.inl rfl)) (ee _) (fC_at Fg4s1).2) (rv_ 2 (.bool false) (fun a ee => execDec (exIneqE (p := (q k)) (q := 0) rfl (ee _) rfl) (decide_eq_false (fun w => w (hb k (by omega))))) (rf_ [(13, .bool false)] (h3_ t5 t6 t7) ?_))))
      rintro a A ⟨t13, -⟩ ⟨t5, t6, t7, -⟩
      refine wp_cond_false t13 ?_
      refine wp_skip ?_
      clear t13
      refine wi_ A (h3_ t5 t6 t7) (rv_ 0 (.int .i64 ((k + 1 : Nat) : Int)) (fun a ee => execAd8 (p := k) (q := 1) rfl (ee _) rfl (by omega)) (rf_ [(7, .int .i64 ((k + 1 : Nat) : Int))] (h2_ t5 t6) ?_))
      rintro a A ⟨t7, -⟩ ⟨t5, t6, -⟩
      exact ⟨⟨k + 1, ltk, hk1, A, t5, t6, t7, BB⟩, by show l - (intOf (a.eval (.tmp 7))).toNat < l - (intOf (Act.eval _ (.tmp 7))).toNat; rw [t7, esk]; show l - (k + 1) < l - k; omega⟩
  rw [decide_eq_false ltk] at t8
  refine wp_cond_false t8 ?_
  refine wp_exit ?_
  first | with_reducible refine exit_in ?_ | with_reducible refine exit_then (exit_in ?_) | with_reducible refine exit_then (exit_then (exit_in ?_)) | refine exit_in ?_ | refine exit_then (exit_in ?_) | refine exit_then (exit_then (exit_in ?_))
  clear t8 esk
  omega
end Go.Proofs.Ytnfokemikcigbaa.Ord
