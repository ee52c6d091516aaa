import Derived.Test.YtnfokemikcigbaaK8f
import Derived.Test.YtnfokemikcigbaaK8b
import Derived.Test.YtnfokemikcigbaaK8e
namespace Go.Proofs.Ytnfokemikcigbaa.Ord
open Go.RowKit Gf8 Aes By8 Cel Cf Win Drw Prm
open Go.ChangeMaps Go.MapKept
/- The reference's find, Add, Next, First; place, allBelow, awake. Written by tools/mkK8g.py. -/

def plc (i : Int) (n : Nat) : Nat := (if i < 0 then -(i + 1) else i).toNat % n
theorem place20 (i : Int) (n : Nat) (V : World) (h1 : -9223372036854775808 ≤ i) (h2 : i < 9223372036854775808) (hn : 0 < n) (hm : n < 9223372036854775808) :
    Calls Try.prog 9 #[.int .i64 i, .int .i64 (n : Int)] V fun e w' => e = .returned (.int .i64 (plc i n : Nat)) ∧ w' = V := by
  have n1 : (n : Int) < 9223372036854775808 := by omega
  have n0 : (n : Int) ≠ 0 := by omega
  have HN : Hid (0 < n) := hn
  clear hn hm
  by_cases h0 : i < 0
  · obtain ⟨k, hk⟩ : ∃ k : Nat, -(i + 1) = k := ⟨(-(i + 1)).toNat, by omega⟩
    have k1 : (k : Int) < 9223372036854775808 := by omega
    have ep : plc i n = k % n := by unfold plc; rw [if_pos h0, hk]; simp
    have HK : Hid (_) := hk
    have EP : Hid (_) := ep
    clear ep
    go_enter Try.func9, Try.ntmps9
    go_wp2
    go_ret
    rw [EP.out]
    exact ⟨rfl, rfl⟩
  · obtain ⟨k, rfl⟩ : ∃ k : Nat, i = k := ⟨i.toNat, by omega⟩
    have ep : plc (k : Int) n = k % n := by unfold plc; rw [if_neg h0]; simp
    have EP : Hid (_) := ep
    clear ep
    go_enter Try.func9, Try.ntmps9
    go_wp2
    go_ret
    rw [EP.out]
    exact ⟨rfl, rfl⟩
theorem keepT {W X : World} {g k : Nat} {c d : Array Value} {t u : TypeId} (h : W.heap[k]? = some (.cells d u)) (hg : W.heap[g]? = some (.cells c t)) (ht : t ≠ u) (gr : W.grownBy X (some g)) : X.heap[k]? = some (.cells d u) := by
  rw [gr.block k (Array.getElem?_eq_some_iff.1 h).1 (fun e => by cases e; rw [h] at hg; cases hg; exact ht rfl)]
  exact h
set_option maxRecDepth 100000 in
set_option maxHeartbeats 4000000 in
/-- The reference's find. -/
theorem rfind_n (v : Value) (l : Nat) (p q : Nat → Int) (i : Int) (V : World) (hP : SliceP V v l p q) (hno : ∀ j, j < l → p j ≠ i) (hl : l ≤ 8796093022208) :
    Calls Try.prog 24 #[v, .int .i64 i] V fun e w' => e = .returned (.int .i64 (-1)) ∧ Below V.heap.size V w' := by
  go_enter Try.func24, Try.ntmps24
  refine wo_ 20 [(0, v), (1, .int .i64 i)] ?_
  rintro a A ⟨t0, t1, -⟩
  have BW : Below V.heap.size V V := Below.refl _ _
  have BB : Below V.heap.size V V := Below.refl _ _
  refine wp_seq ?_
  refine wi_ A (h2_ t0 t1) (rf_ [] (h2_ t0 t1) ?_)
  rintro a A - ⟨t0, t1, -⟩
  refine wp_seq ?_
  refine wp_seq ?_
  refine wi_ A (h2_ t0 t1) (rf_ [(5, .int .i64 ((0 : Nat) : Int))] (h2_ t0 t1) ?_)
  rintro a A ⟨t5, -⟩ ⟨t0, t1, -⟩
  refine wp_block ?_
  refine wp_loop (fun a W => ∃ (k : Nat), k ≤ l ∧ (a.tmps.size = 20 ∧ a.defers = []) ∧ a.eval (.tmp 0) = v ∧ a.eval (.tmp 1) = .int .i64 i ∧ a.eval (.tmp 5) = .int .i64 ((k : Nat) : Int) ∧ Below V.heap.size V W) (fun a _ => l - (intOf (a.eval (.tmp 5))).toNat) ⟨0, Nat.zero_le _, A, t0, t1, t5, BB⟩ ?_
  clear A t0 t1 t5 BB a
  rintro a XL2 ⟨k, hk, A, t0, t1, t5, BB⟩
  have esk := t5
  refine wp_seq ?_
  refine wp_seq ?_
  refine wi_ A (h3_ t0 t1 t5) (rv_ 2 (.int .i64 ((l : Nat) : Int)) (fun a ee => execLnP (len := l) rfl (Or.inl rfl) (ee _) hP.shp) (rv_ 3 (.bool (decide (k < l))) (fun a ee => execLtW (p := k) (q := l) rfl (ee _) (ee _)) (rf_ [(9, .bool (decide (k < l)))] (h3_ t0 t1 t5) ?_)))
  rintro a A ⟨t9, -⟩ ⟨t0, t1, t5, -⟩
  by_cases ltk : k < l
  · rw [decide_eq_true ltk] at t9
    refine wp_cond_true t9 ?_
    refine wp_skip ?_
    clear t9
    refine wp_seq ?_
    refine wp_block ?_
    obtain ⟨pb, po, pc, ep_, hpb, hpc⟩ := hP.at (show 0 < l by omega)
    have cP : ∀ X, Below V.heap.size V X → X.cell? ⟨pb, po + k * 2, none⟩ = some (.int .i64 (p k)) ∧ X.cell? ⟨pb, po + k * 2 + 1, none⟩ = some (.int .i64 (q k)) := fun X hX => ⟨by rw [cell_below hX hpb]; exact (hpc k ltk).1, by rw [cell_below hX hpb]; exact (hpc k ltk).2⟩
    refine wp_seq ?_
    refine wi_ A (h3_ t0 t1 t5) (rv_ 2 (.pointer (some ⟨pb, po + k * 2, none⟩)) (fun a ee => execIxP (k := k) rfl (Or.inl rfl) ((ee _).trans ep_) (ee _) ltk) (rv_ 3 (.pointer (some ⟨pb, po + k * 2, none⟩)) (fun a ee => execFqP0 rfl (ee _)) (rv_ 4 (.int .i64 (p k)) (fun a ee => execL20 rfl (Or.inl rfl) (ee _) (cP XL2 BB).1) (rv_ 6 (.bool false) (fun a ee => execDec (exIeql3 (p := (p k)) (q := i) rfl (ee _) (ee _)) (decide_eq_false (hno k ltk))) (rf_ [(18, .bool false)] (h3_ t0 t1 t5) ?_)))))
    rintro a A ⟨t18, -⟩ ⟨t0, t1, t5, -⟩
    refine wp_cond_false t18 ?_
    refine wp_skip ?_
    clear t18
    refine wi_ A (h3_ t0 t1 t5) (rv_ 1 (.int .i64 ((k + 1 : Nat) : Int)) (fun a ee => execAd8 (p := k) (q := 1) rfl (ee _) rfl (by omega)) (rf_ [(5, .int .i64 ((k + 1 : Nat) : Int))] (h2_ t0 t1) ?_))
    rintro a A ⟨t5, -⟩ ⟨t0, t1, -⟩
    exact ⟨⟨k + 1, ltk, A, t0, t1, t5, BB⟩, by show l - (intOf (a.eval (.tmp 5))).toNat < l - (intOf (Act.eval _ (.tmp 5))).toNat; rw [t5, esk]; show l - (k + 1) < l - k; omega⟩
  rw [decide_eq_false ltk] at t9
  refine wp_cond_false t9 ?_
  refine wp_exit ?_
  first | with_reducible refine exit_in ?_ | with_reducible refine exit_then (exit_in ?_) | with_reducible refine exit_then (exit_then (exit_in ?_)) | refine exit_in ?_ | refine exit_then (exit_in ?_) | refine exit_then (exit_then (exit_in ?_))
  clear t9 esk
  refine wp_seq ?_
  refine wi_ A (h3_ t0 t1 t5) (rg_ [(4, .int .i64 (-1))] ?_)
  rintro a A ⟨t4, -⟩
  refine wp_ret ?_
  refine bodyPost_ret (results_tmp rfl _ _ _) A.2 ⟨?_, BB⟩
  show Ending.returned (a.eval (.tmp 4)) = _
  rw [t4]
set_option maxRecDepth 100000 in
set_option maxHeartbeats 4000000 in
/-- The reference's find. -/
theorem rfind_s (v : Value) (l : Nat) (p q : Nat → Int) (i : Int) (V : World) (hP : SliceP V v l p q) (j0 : Nat) (h0 : j0 < l) (hj : p j0 = i) (hb : ∀ k, k < j0 → ¬ p k = i) (hl : l ≤ 8796093022208) :
    Calls Try.prog 24 #[v, .int .i64 i] V fun e w' => e = .returned (.int .i64 ((j0 : Nat) : Int)) ∧ Below V.heap.size V w' := by
  go_enter Try.func24, Try.ntmps24
  refine wo_ 20 [(0, v), (1, .int .i64 i)] ?_
  rintro a A ⟨t0, t1, -⟩
  have BW : Below V.heap.size V V := Below.refl _ _
  have BB : Below V.heap.size V V := Below.refl _ _
  refine wp_seq ?_
  refine wi_ A (h2_ t0 t1) (rf_ [] (h2_ t0 t1) ?_)
  rintro a A - ⟨t0, t1, -⟩
  refine wp_seq ?_
  refine wp_seq ?_
  refine wi_ A (h2_ t0 t1) (rf_ [(5, .int .i64 ((0 : Nat) : Int))] (h2_ t0 t1) ?_)
  rintro a A ⟨t5, -⟩ ⟨t0, t1, -⟩
  refine wp_block ?_
  refine wp_loop (fun a W => ∃ (k : Nat), k ≤ l ∧ (k ≤ j0) ∧ (a.tmps.size = 20 ∧ a.defers = []) ∧ a.eval (.tmp 0) = v ∧ a.eval (.tmp 1) = .int .i64 i ∧ a.eval (.tmp 5) = .int .i64 ((k : Nat) : Int) ∧ Below V.heap.size V W) (fun a _ => l - (intOf (a.eval (.tmp 5))).toNat) ⟨0, Nat.zero_le _, Nat.zero_le _, A, t0, t1, t5, BB⟩ ?_
  clear A t0 t1 t5 BB a
  rintro a XL2 ⟨k, hk, hk0, A, t0, t1, t5, BB⟩
  have esk := t5
  refine wp_seq ?_
  refine wp_seq ?_
  refine wi_ A (h3_ t0 t1 t5) (rv_ 2 (.int .i64 ((l : Nat) : Int)) (fun a ee => execLnP (len := l) rfl (Or.inl rfl) (ee _) hP.shp) (rv_ 3 (.bool (decide (k < l))) (fun a ee => execLtW (p := k) (q := l) rfl (ee _) (ee _)) (rf_ [(9, .bool (decide (k < l)))] (h3_ t0 t1 t5) ?_)))
  rintro a A ⟨t9, -⟩ ⟨t0, t1, t5, -⟩
  by_cases ltk : k < l
  · rw [decide_eq_true ltk] at t9
    refine wp_cond_true t9 ?_
    refine wp_skip ?_
    clear t9
    refine wp_seq ?_
    refine wp_block ?_
    obtain ⟨pb, po, pc, ep_, hpb, hpc⟩ := hP.at (show 0 < l by omega)
    have cP : ∀ X, Below V.heap.size V X → X.cell? ⟨pb, po + k * 2, none⟩ = some (.int .i64 (p k)) ∧ X.cell? ⟨pb, po + k * 2 + 1, none⟩ = some (.int .i64 (q k)) := fun X hX => ⟨by rw [cell_below hX hpb]; exact (hpc k ltk).1, by rw [cell_below hX hpb]; exact (hpc k ltk).2⟩
    by_cases hk : k = j0
    · refine wp_seq ?_
      refine wi_ A (h3_ t0 t1 t5) (rv_ 2 (.pointer (some ⟨pb, po + k * 2, none⟩)) (fun a ee => execIxP (k := k) rfl (Or.inl rfl) ((ee _).trans ep_) (ee _) ltk) (rv_ 3 (.pointer (some ⟨pb, po + k * 2, none⟩)) (fun a ee => execFqP0 rfl (ee _)) (rv_ 4 (.int .i64 (p k)) (fun a ee => execL20 rfl (Or.inl rfl) (ee _) (cP XL2 BB).1) (rv_ 6 (.bool true) (fun a ee => execDec (exIeql3 (p := (p k)) (q := i) rfl (ee _) (ee _)) (decide_eq_true (by rw [hk]; exact hj))) (rf_ [(18, .bool true)] (h3_ t0 t1 t5) ?_)))))
      rintro a A ⟨t18, -⟩ ⟨t0, t1, t5, -⟩
      refine wp_cond_true t18 ?_
      clear t18
      refine wp_seq ?_
      refine wi_ A (h3_ t0 t1 t5) (rg_ [(4, .int .i64 ((k : Nat) : Int))] ?_)
      rintro a A ⟨t4, -⟩
      rw [hk] at t4
      refine wp_ret ?_
      repeat (first | with_reducible refine ret_in ?_ | with_reducible refine ret_then ?_)
      refine bodyPost_ret (results_tmp rfl _ _ _) A.2 ⟨?_, BB⟩
      show Ending.returned (a.eval (.tmp 4)) = _
      rw [t4]
    · refine wp_seq ?_
      refine wi_ A (h3_ t0 t1 t5) (rv_ 2 (.pointer (some ⟨pb, po + k * 2, none⟩)) (fun a ee => execIxP (k := k) rfl (Or.inl rfl) ((ee _).trans ep_) (ee _) ltk) (rv_ 3 (.pointer (some ⟨pb, po + k * 2, none⟩)) (fun a ee => execFqP0 rfl (ee _)) (rv_ 4 (.int .i64 (p k)) (fun a ee => execL20 rfl (Or.inl rfl) (ee _) (cP XL2 BB).1) (rv_ 6 (.bool false) (fun a ee => execDec (exIeql3 (p := (p k)) (q := i) rfl (ee _) (ee _)) (decide_eq_false (hb k (by omega)))) (rf_ [(18, .bool false)] (h3_ t0 t1 t5) ?_)))))
      rintro a A ⟨t18, -⟩ ⟨t0, t1, t5, -⟩
      have hk1 : k + 1 ≤ j0 := by omega
      refine wp_cond_false t18 ?_
      refine wp_skip ?_
      clear t18
      refine wi_ A (h3_ t0 t1 t5) (rv_ 1 (.int .i64 ((k + 1 : Nat) : Int)) (fun a ee => execAd8 (p := k) (q := 1) rfl (ee _) rfl (by omega)) (rf_ [(5, .int .i64 ((k + 1 : Nat) : Int))] (h2_ t0 t1) ?_))
      rintro a A ⟨t5, -⟩ ⟨t0, t1, -⟩
      exact ⟨⟨k + 1, ltk, hk1, A, t0, t1, t5, BB⟩, by show l - (intOf (a.eval (.tmp 5))).toNat < l - (intOf (Act.eval _ (.tmp 5))).toNat; rw [t5, esk]; show l - (k + 1) < l - k; omega⟩
  rw [decide_eq_false ltk] at t9
  refine wp_cond_false t9 ?_
  refine wp_exit ?_
  first | with_reducible refine exit_in ?_ | with_reducible refine exit_then (exit_in ?_) | with_reducible refine exit_then (exit_then (exit_in ?_)) | refine exit_in ?_ | refine exit_then (exit_in ?_) | refine exit_then (exit_then (exit_in ?_))
  clear t9 esk
  omega
theorem rfind_j {v : Value} {l : Nat} {p q : Nat → Int} {i : Int} {V : World} (hP : SliceP V v l p q) {j : Nat} (h0 : j < l) (hj : p j = i) (inj : ∀ a b, a < l → b < l → p a = p b → a = b) (hl : l ≤ 8796093022208) : Calls Try.prog 24 #[v, .int .i64 i] V fun e w' => e = .returned (.int .i64 ((j : Nat) : Int)) ∧ Below V.heap.size V w' :=
  rfind_s v l p q i V hP j h0 hj (fun k hk e => by have := inj k j (by omega) h0 (e.trans hj.symm); omega) hl
set_option maxRecDepth 100000 in
set_option maxHeartbeats 4000000 in
/-- The reference's Add. -/
theorem radd_a (v : Value) (i : Int) (V : World) (h0 : i < 0) :
    Calls Try.prog 22 #[v, .int .i64 i] V fun e w' => e = .returned (.int .i64 ((2 : Nat) : Int)) ∧ Below V.heap.size V w' := by
  go_enter Try.func22, Try.ntmps22
  refine wo_ 11 [(0, v), (1, .int .i64 i)] ?_
  rintro a A ⟨t0, t1, -⟩
  have BW : Below V.heap.size V V := Below.refl _ _
  have BB : Below V.heap.size V V := Below.refl _ _
  refine wp_seq ?_
  refine wi_ A (h2_ t0 t1) (rf_ [] (h2_ t0 t1) ?_)
  rintro a A - ⟨t0, t1, -⟩
  refine wp_seq ?_
  refine wp_seq ?_
  refine wi_ A (h2_ t0 t1) (rv_ 1 (.bool true) (fun a ee => execDec (exIlss3 (p := i) (q := 0) rfl (ee _) rfl) (decide_eq_true h0)) (rf_ [(6, .bool true)] (h2_ t0 t1) ?_))
  rintro a A ⟨t6, -⟩ ⟨t0, t1, -⟩
  refine wp_cond_true t6 ?_
  clear t6
  refine wp_seq ?_
  refine wi_ A (h2_ t0 t1) (rg_ [(4, .int .i64 ((2 : Nat) : Int))] ?_)
  rintro a A ⟨t4, -⟩
  refine wp_ret ?_
  repeat (first | with_reducible refine ret_in ?_ | with_reducible refine ret_then ?_)
  refine bodyPost_ret (results_tmp rfl _ _ _) A.2 ⟨?_, BB⟩
  show Ending.returned (a.eval (.tmp 4)) = _
  rw [t4]
set_option maxRecDepth 100000 in
set_option maxHeartbeats 4000000 in
/-- The reference's Add. -/
theorem radd_t (v : Value) (l : Nat) (p q : Nat → Int) (i : Int) (V : World) (hP : SliceP V v l p q) (h0 : ¬ i < 0) (j : Nat) (hjl : j < l) (hj : p j = i) (inj : ∀ a b, a < l → b < l → p a = p b → a = b) (hl : l ≤ 8796093022208) :
    Calls Try.prog 22 #[v, .int .i64 i] V fun e w' => e = .returned (.int .i64 ((200 : Nat) : Int)) ∧ Below V.heap.size V w' := by
  go_enter Try.func22, Try.ntmps22
  refine wo_ 11 [(0, v), (1, .int .i64 i)] ?_
  rintro a A ⟨t0, t1, -⟩
  have BW : Below V.heap.size V V := Below.refl _ _
  have BB : Below V.heap.size V V := Below.refl _ _
  refine wp_seq ?_
  refine wi_ A (h2_ t0 t1) (rf_ [] (h2_ t0 t1) ?_)
  rintro a A - ⟨t0, t1, -⟩
  refine wp_seq ?_
  refine wp_seq ?_
  refine wi_ A (h2_ t0 t1) (rv_ 1 (.bool false) (fun a ee => execDec (exIlss3 (p := i) (q := 0) rfl (ee _) rfl) (decide_eq_false h0)) (rf_ [(6, .bool false)] (h2_ t0 t1) ?_))
  rintro a A ⟨t6, -⟩ ⟨t0, t1, -⟩
  refine wp_cond_false t6 ?_
  refine wp_skip ?_
  clear t6
  refine wp_seq ?_
  refine wp_seq ?_
  refine wi_ A (h2_ t0 t1) (rc_ 2 (rfind_j (hP.on BB) hjl hj inj hl) (cb_ fun X3 bQ => ?_))
  replace BB := BB.trans (bQ.mono BB.size)
  clear bQ
  refine rv_ 3 (.bool true) (fun a ee => execDec (exIgeq3 (p := ((j : Nat) : Int)) (q := 0) rfl (ee _) rfl) (decide_eq_true (by omega))) (rg_ [(10, .bool true)] ?_)
  rintro a A ⟨t10, -⟩
  refine wp_cond_true t10 ?_
  clear t10
  refine wp_seq ?_
  refine wi_ A h0_ (rg_ [(4, .int .i64 ((200 : Nat) : Int))] ?_)
  rintro a A ⟨t4, -⟩
  refine wp_ret ?_
  repeat (first | with_reducible refine ret_in ?_ | with_reducible refine ret_then ?_)
  refine bodyPost_ret (results_tmp rfl _ _ _) A.2 ⟨?_, BB⟩
  show Ending.returned (a.eval (.tmp 4)) = _
  rw [t4]
set_option maxRecDepth 100000 in
set_option maxHeartbeats 4000000 in
/-- The reference's Add. -/
theorem radd_o (v : Value) (l : Nat) (p q : Nat → Int) (i : Int) (V : World) (hP : SliceP V v l p q) (h0 : ¬ i < 0) (hno : ∀ j, j < l → p j ≠ i) (hl : l ≤ 8796093022208) :
    Calls Try.prog 22 #[v, .int .i64 i] V fun e w' => e = .returned (.int .i64 ((0 : Nat) : Int)) ∧ Below V.heap.size V w' := by
  go_enter Try.func22, Try.ntmps22
  refine wo_ 11 [(0, v), (1, .int .i64 i)] ?_
  rintro a A ⟨t0, t1, -⟩
  have BW : Below V.heap.size V V := Below.refl _ _
  have BB : Below V.heap.size V V := Below.refl _ _
  refine wp_seq ?_
  refine wi_ A (h2_ t0 t1) (rf_ [] (h2_ t0 t1) ?_)
  rintro a A - ⟨t0, t1, -⟩
  refine wp_seq ?_
  refine wp_seq ?_
  refine wi_ A (h2_ t0 t1) (rv_ 1 (.bool false) (fun a ee => execDec (exIlss3 (p := i) (q := 0) rfl (ee _) rfl) (decide_eq_false h0)) (rf_ [(6, .bool false)] (h2_ t0 t1) ?_))
  rintro a A ⟨t6, -⟩ ⟨t0, t1, -⟩
  refine wp_cond_false t6 ?_
  refine wp_skip ?_
  clear t6
  refine wp_seq ?_
  refine wp_seq ?_
  refine wi_ A (h2_ t0 t1) (rc_ 2 (rfind_n _ l p q i V (hP.on BB) hno hl) (cb_ fun X3 bQ => ?_))
  replace BB := BB.trans (bQ.mono BB.size)
  clear bQ
  refine rv_ 3 (.bool false) (fun a ee => execDec (exIgeq3 (p := (-1)) (q := 0) rfl (ee _) rfl) (decide_eq_false (by omega))) (rg_ [(10, .bool false)] ?_)
  rintro a A ⟨t10, -⟩
  refine wp_cond_false t10 ?_
  refine wp_skip ?_
  clear t10
  refine wp_seq ?_
  refine wi_ A h0_ (rg_ [(4, .int .i64 ((0 : Nat) : Int))] ?_)
  rintro a A ⟨t4, -⟩
  refine wp_ret ?_
  refine bodyPost_ret (results_tmp rfl _ _ _) A.2 ⟨?_, BB⟩
  show Ending.returned (a.eval (.tmp 4)) = _
  rw [t4]
set_option maxRecDepth 100000 in
set_option maxHeartbeats 4000000 in
/-- The reference's Next. -/
theorem rnext_n (v : Value) (l : Nat) (p q : Nat → Int) (i : Int) (V : World) (hP : SliceP V v l p q) (hno : ∀ j, j < l → p j ≠ i) (hl : l ≤ 8796093022208) :
    Calls Try.prog 23 #[v, .int .i64 i] V fun e w' => e = .returned (.tuple #[.int .i64 ((0 : Nat) : Int), .bool false]) ∧ Below V.heap.size V w' := by
  go_enter Try.func23, Try.ntmps23
  refine wo_ 17 [(0, v), (1, .int .i64 i)] ?_
  rintro a A ⟨t0, t1, -⟩
  have BW : Below V.heap.size V V := Below.refl _ _
  have BB : Below V.heap.size V V := Below.refl _ _
  refine wp_seq ?_
  refine wi_ A (h2_ t0 t1) (rf_ [] (h2_ t0 t1) ?_)
  rintro a A - ⟨t0, t1, -⟩
  refine wp_seq ?_
  refine wi_ A (h2_ t0 t1) (rc_ 2 (rfind_n _ l p q i V (hP.on BB) hno hl) (cb_ fun X1 bQ => ?_))
  replace BB := BB.trans (bQ.mono BB.size)
  clear bQ
  refine rf_ [(6, .int .i64 (-1))] (h1_ t0) ?_
  rintro a A ⟨t6, -⟩ ⟨t0, -⟩
  refine wp_seq ?_
  refine wp_seq ?_
  refine wi_ A (h2_ t0 t6) (rv_ 1 (.bool true) (fun a ee => execDec (exIlss3 (p := (-1)) (q := 0) rfl (ee _) rfl) (decide_eq_true (by omega))) (rf_ [(11, .bool true)] (h2_ t0 t6) ?_))
  rintro a A ⟨t11, -⟩ ⟨t0, t6, -⟩
  refine wp_cond_true t11 ?_
  clear t11
  refine wp_seq ?_
  refine wi_ A (h2_ t0 t6) (rg_ [(4, .int .i64 ((0 : Nat) : Int)), (5, .bool false)] ?_)
  rintro a A ⟨t4, t5, -⟩
  refine wp_ret ?_
  repeat (first | with_reducible refine ret_in ?_ | with_reducible refine ret_then ?_)
  refine bodyPost_ret (results_tmp2 rfl _ _ _) A.2 ⟨?_, BB⟩
  show Ending.returned (.tuple #[a.eval (.tmp 4), a.eval (.tmp 5)]) = _
  rw [t4, t5]
set_option maxRecDepth 100000 in
set_option maxHeartbeats 4000000 in
/-- The reference's Next. -/
theorem rnext_s (v : Value) (l : Nat) (p q : Nat → Int) (i : Int) (V : World) (hP : SliceP V v l p q) (j : Nat) (hjl : j < l) (hj : p j = i) (inj : ∀ a b, a < l → b < l → p a = p b → a = b) (hl : l ≤ 8796093022208) :
    Calls Try.prog 23 #[v, .int .i64 i] V fun e w' => e = .returned (.tuple #[.int .i64 (q j), .bool true]) ∧ Below V.heap.size V w' := by
  go_enter Try.func23, Try.ntmps23
  refine wo_ 17 [(0, v), (1, .int .i64 i)] ?_
  rintro a A ⟨t0, t1, -⟩
  have BW : Below V.heap.size V V := Below.refl _ _
  have BB : Below V.heap.size V V := Below.refl _ _
  refine wp_seq ?_
  refine wi_ A (h2_ t0 t1) (rf_ [] (h2_ t0 t1) ?_)
  rintro a A - ⟨t0, t1, -⟩
  refine wp_seq ?_
  refine wi_ A (h2_ t0 t1) (rc_ 2 (rfind_j (hP.on BB) hjl hj inj hl) (cb_ fun X1 bQ => ?_))
  replace BB := BB.trans (bQ.mono BB.size)
  clear bQ
  refine rf_ [(6, .int .i64 ((j : Nat) : Int))] (h1_ t0) ?_
  rintro a A ⟨t6, -⟩ ⟨t0, -⟩
  refine wp_seq ?_
  refine wp_seq ?_
  refine wi_ A (h2_ t0 t6) (rv_ 1 (.bool false) (fun a ee => execDec (exIlss3 (p := ((j : Nat) : Int)) (q := 0) rfl (ee _) rfl) (decide_eq_false (by omega))) (rf_ [(11, .bool false)] (h2_ t0 t6) ?_))
  rintro a A ⟨t11, -⟩ ⟨t0, t6, -⟩
  refine wp_cond_false t11 ?_
  refine wp_skip ?_
  clear t11
  obtain ⟨pb, po, pc, ep_, hpb, hpc⟩ := hP.at (show 0 < l by omega)
  have cP : ∀ X, Below V.heap.size V X → X.cell? ⟨pb, po + j * 2, none⟩ = some (.int .i64 (p j)) ∧ X.cell? ⟨pb, po + j * 2 + 1, none⟩ = some (.int .i64 (q j)) := fun X hX => ⟨by rw [cell_below hX hpb]; exact (hpc j hjl).1, by rw [cell_below hX hpb]; exact (hpc j hjl).2⟩
  refine wp_seq ?_
  refine wi_ A (h2_ t0 t6) (rv_ 2 (.pointer (some ⟨pb, po + j * 2, none⟩)) (fun a ee => execIxP (k := j) rfl (Or.inl rfl) ((ee _).trans ep_) (ee _) hjl) (rv_ 3 (.pointer (some ⟨pb, po + j * 2 + 1, none⟩)) (fun a ee => execFqP1 rfl (ee _)) (rv_ 4 (.int .i64 (q j)) (fun a ee => execL20 rfl (Or.inl rfl) (ee _) (cP X1 BB).2) (rg_ [(4, .int .i64 (q j)), (5, .bool true)] ?_))))
  rintro a A ⟨t4, t5, -⟩
  refine wp_ret ?_
  refine bodyPost_ret (results_tmp2 rfl _ _ _) A.2 ⟨?_, BB⟩
  show Ending.returned (.tuple #[a.eval (.tmp 4), a.eval (.tmp 5)]) = _
  rw [t4, t5]
theorem execEqSt {o : Oper} {a : Act} {w : World} {x y : Operand} {s : ByteArray} (ho : o.op = .binOp .eql 9 x y 9) (hx : a.eval x = .string s) (hy : a.eval y = .string s) : (execOp a.eval o).run Try.prog w = .ok (.value (.bool true)) w := by
  unfold execOp
  simp only [ho, hx, hy]
  simp [go_sem]
set_option maxRecDepth 100000 in
set_option maxHeartbeats 4000000 in
/-- awake. -/
theorem awake20 (V : World) :
    Calls Try.prog 7 #[] V fun e w' => e = .returned (.bool true) ∧ Below V.heap.size V w' := by
  go_enter Try.func7, Try.ntmps7
  refine wo_ 54 [] ?_
  rintro a A -
  have BW : Below V.heap.size V V := Below.refl _ _
  have BB : Below V.heap.size V V := Below.refl _ _
  refine wp_seq ?_
  refine wi_ A h0_ (rg_ [] ?_)
  rintro a A -
  refine wp_seq ?_
  refine wi_ A h0_ (rc_ 0 (pnewS V) fun e X1 hh => ?_)
  obtain ⟨⟨g, fp1, he, hk, hf⟩, hb⟩ := hh
  refine ⟨_, he, ?_⟩
  have bQ : Below V.heap.size V X1 := hb
  have FR1 : (BR 73 X1 fp1 (.pointer (some ⟨g, 0, none⟩)) [] 0) := hk
  have Fg1 : (∀ q, fp1 q → V.heap.size ≤ q) := fun q hq => Nat.le_trans (BB).size (hf q hq)
  replace BB := BB.trans (bQ.mono BB.size)
  clear bQ
  refine rg_ [(1, .pointer (some ⟨g, 0, none⟩))] ?_
  rintro a A ⟨t1, -⟩
  refine wp_seq ?_
  refine wp_seq ?_
  refine wi_ A (h1_ t1) (rv_ 1 (.bool false) (fun a ee => execPSeqls rfl (ee _)) (rc_ 4 (pput_oS FR1 (i := 1) (.string ⟨#[98]⟩) (by unfold I64; omega) (by decide) (by decide) (by decide)) fun e X2 hh => ?_))
  obtain ⟨fp2, he, hk, hs, hf⟩ := hh
  refine ⟨_, he, ?_⟩
  obtain ⟨BB, FR2, Fg2⟩ : Below V.heap.size V X2 ∧ (BR 73 X2 fp2 (.pointer (some ⟨g, 0, none⟩)) [(1, .string ⟨#[98]⟩)] 0) ∧ (∀ q, fp2 q → V.heap.size ≤ q) := ⟨sv_bel BB hs Fg1, hk, fun q hq => (hf q hq).elim (Fg1 q) (fun w => Nat.le_trans (BB).size w)⟩
  clear FR1 Fg1
  refine rv_ 5 (.bool false) (fun a ee => execDec (exIneqE (p := ((0 : Nat) : Int)) (q := 0) rfl (ee _) rfl) (decide_eq_false (by decide))) (rf_ [(16, .bool false)] (h1_ t1) ?_)
  rintro a A ⟨t16, -⟩ ⟨t1, -⟩
  refine wp_cond_false t16 ?_
  refine wp_skip ?_
  clear t16
  refine wp_seq ?_
  refine wi_ A (h1_ t1) (rc_ 1 (pnext_eS FR2 (by omega) (by decide)) (cb_ fun X4 bQ => ?_))
  replace FR2 := (FR2.on bQ)
  replace BB := BB.trans (bQ.mono BB.size)
  clear bQ
  refine rf_ [(3, .bool false)] (h1_ t1) ?_
  rintro a A ⟨t3, -⟩ ⟨t1, -⟩
  refine wp_seq ?_
  refine wi_ A (h2_ t1 t3) (rc_ 1 (pput_oS FR2 (i := 0) (.string ⟨#[97]⟩) (by unfold I64; omega) (by decide) (by decide) (by decide)) fun e X5 hh => ?_)
  obtain ⟨fp3, he, hk, hs, hf⟩ := hh
  refine ⟨_, he, ?_⟩
  obtain ⟨BB, FR3, Fg3⟩ : Below V.heap.size V X5 ∧ (BR 73 X5 fp3 (.pointer (some ⟨g, 0, none⟩)) [(1, .string ⟨#[98]⟩), (0, .string ⟨#[97]⟩)] 0) ∧ (∀ q, fp3 q → V.heap.size ≤ q) := ⟨sv_bel BB hs Fg2, hk, fun q hq => (hf q hq).elim (Fg2 q) (fun w => Nat.le_trans (BB).size w)⟩
  clear FR2 Fg2
  refine rf_ [(4, .int .i64 ((0 : Nat) : Int))] (h2_ t1 t3) ?_
  rintro a A ⟨t4, -⟩ ⟨t1, t3, -⟩
  refine wp_seq ?_
  refine wi_ A (h3_ t1 t3 t4) (rc_ 1 (pnext_oS (x := .string ⟨#[97]⟩) FR3 (by omega) rfl) fun e X6 hh => ?_)
  obtain ⟨fp4, he, hk, hs, hf⟩ := hh
  refine ⟨_, he, ?_⟩
  obtain ⟨BB, FR4, Fg4⟩ : Below V.heap.size V X6 ∧ (BR 73 X6 fp4 (.pointer (some ⟨g, 0, none⟩)) [(1, .string ⟨#[98]⟩)] 1) ∧ (∀ q, fp4 q → V.heap.size ≤ q) := ⟨sv_bel BB hs Fg3, hk, fun q hq => (hf q hq).elim (Fg3 q) (fun w => Nat.le_trans (BB).size w)⟩
  clear FR3 Fg3
  refine rf_ [(5, .string ⟨#[97]⟩), (6, .bool true)] (h3_ t1 t3 t4) ?_
  rintro a A ⟨t5, t6, -⟩ ⟨t1, t3, t4, -⟩
  refine wp_seq ?_
  refine wi_ A (h5_ t1 t3 t4 t5 t6) (rc_ 1 (pnext_oS (x := .string ⟨#[98]⟩) FR4 (by omega) rfl) fun e X7 hh => ?_)
  obtain ⟨fp5, he, hk, hs, hf⟩ := hh
  refine ⟨_, he, ?_⟩
  obtain ⟨BB, FR5, Fg5⟩ : Below V.heap.size V X7 ∧ (BR 73 X7 fp5 (.pointer (some ⟨g, 0, none⟩)) [] 2) ∧ (∀ q, fp5 q → V.heap.size ≤ q) := ⟨sv_bel BB hs Fg4, hk, fun q hq => (hf q hq).elim (Fg4 q) (fun w => Nat.le_trans (BB).size w)⟩
  clear FR4 Fg4
  refine rf_ [(7, .string ⟨#[98]⟩), (8, .bool true)] (h4_ t3 t4 t5 t6) ?_
  rintro a A ⟨t7, t8, -⟩ ⟨t3, t4, t5, t6, -⟩
  refine wp_seq ?_
  refine wi_ A (h6_ t3 t4 t5 t6 t7 t8) (rv_ 1 (.bool true) (fun a ee => execNot8 (b := false) rfl (ee _)) (rv_ 4 (.bool true) (fun a ee => execDec (exIeqlE (p := ((0 : Nat) : Int)) (q := 0) rfl (ee _) rfl) (decide_eq_true (by decide))) (rv_ 8 (.bool true) (fun a ee => execEqSt rfl (ee _) rfl) (rv_ 15 (.bool true) (fun a ee => execEqSt rfl (ee _) rfl) (rg_ [(0, .bool true)] ?_)))))
  rintro a A ⟨t0, -⟩
  refine wp_ret ?_
  refine bodyPost_ret (results_tmp rfl _ _ _) A.2 ⟨?_, BB⟩
  show Ending.returned (a.eval (.tmp 0)) = _
  rw [t0]
end Go.Proofs.Ytnfokemikcigbaa.Ord
