import Derived.Test.YtcgkelgncehekaaE8n
namespace Go.Proofs.Ytcgkelgncehekaa.Loo
open Go.RowKit Gf8 Aes By8 Cel Cf Win Drw Prm
/- LoomPipes: once. Written by tools/mkE8o.py. -/

def cnF (L : Nat → List Int) (i j : Nat) (z : Int) : Nat := sm i (fun t => (L t).count z) + ((L i).take j).count z
def snF (L : Nat → List Int) (i j k : Nat) : Bool := decide (0 < cnF L i j (k : Int))
section
variable {L : Nat → List Int} {i j m n : Nat}
theorem take_next {l : List Int} {z : Int} (h : j < l.length) : (l.take (j + 1)).count z = (l.take j).count z + ind (decide (z = l.getD j 0)) := by
  rw [List.getD_eq_getElem?_getD, List.getElem?_eq_getElem h, List.take_add_one, List.getElem?_eq_getElem h]
  exact cnt_app
theorem sn_step {z k : Nat} (h : j < (L i).length) (e : (L i).getD j 0 = (z : Int)) : snF L i (j + 1) k = if k = z then true else snF L i j k := by
  unfold snF cnF
  rw [take_next h, e]
  by_cases q : k = z
  · subst q
    rw [if_pos rfl]
    exact decide_eq_true (by simp [ind]; omega)
  · rw [if_neg q]
    have : decide ((k : Int) = (z : Int)) = false := decide_eq_false (by omega)
    rw [this]
    simp [ind]
theorem sm_two {f : Nat → Nat} (h : i < m) : sm i f + f i ≤ sm m f := by
  induction m with
  | zero => omega
  | succ m ih =>
    rw [sm]
    by_cases e : i = m
    · subst e; omega
    · have := ih (by omega); omega
theorem cn_zero (hi : i < m) (hj : j < (L i).length) (hb : ∀ x : Int, sm m (fun t => (L t).count x) = box x n) : 1 ≤ (L i).getD j 0 ∧ (L i).getD j 0 ≤ n ∧ cnF L i j ((L i).getD j 0) = 0 := by
  have h1 := take_next (l := L i) (z := (L i).getD j 0) hj
  have h2 : ind (decide ((L i).getD j 0 = (L i).getD j 0)) = 1 := by simp [ind]
  have h3 : ((L i).take (j + 1)).count ((L i).getD j 0) ≤ (L i).count ((L i).getD j 0) := List.Sublist.count_le _ (List.take_sublist _ _)
  have h4 := sm_two (f := fun t => (L t).count ((L i).getD j 0)) hi
  rw [hb] at h4
  have h5 : box ((L i).getD j 0) n ≤ 1 := by unfold box ind; split <;> omega
  have h6 : 1 ≤ box ((L i).getD j 0) n := by omega
  have h7 : 1 ≤ (L i).getD j 0 ∧ (L i).getD j 0 ≤ n := by
    unfold box ind at h6
    split at h6
    · rename_i q; exact of_decide_eq_true q
    · omega
  refine ⟨h7.1, h7.2, ?_⟩
  unfold cnF
  omega
theorem sn_next (k : Nat) : snF L i (L i).length k = snF L (i + 1) 0 k := by
  unfold snF cnF
  rw [List.take_length, List.take_zero, sm]
  rfl
end
set_option maxRecDepth 100000 in
set_option maxHeartbeats 4000000 in
/-- The laws' once. -/
theorem once19 (m n : Nat) (x : Nat → Value) (Lx : Nat → List Int) (v : Value) (V : World) (hv : SliceV V v m x) (hx : ∀ t, t < m → SliceI V (x t) (Lx t).length (fun j => (Lx t).getD j 0)) (hs : sm m (fun t => (Lx t).length) = n) (hb : ∀ z : Int, sm m (fun t => (Lx t).count z) = box z n) (hn : n ≤ 1000) (hm : m ≤ 1000) :
    Calls Try.prog 25 #[v, .int .i64 ((n : Nat) : Int)] V fun e w' => e = .returned (.bool true) ∧ Below V.heap.size V w' := by
  go_enter Try.func25, Try.ntmps25
  refine wo_ 56 [(0, v), (1, .int .i64 ((n : Nat) : Int))] ?_
  rintro a A ⟨t0, t1, -⟩
  have BW : Below V.heap.size V V := Below.refl _ _
  have BB : Below V.heap.size V V := Below.refl _ _
  refine wp_seq ?_
  refine wi_ A (h2_ t0 t1) (rf_ [] (h2_ t0 t1) ?_)
  rintro a A - ⟨t0, t1, -⟩
  refine wp_seq ?_
  obtain ⟨sb, egsb⟩ : ∃ z_ : Nat, V.heap.size = z_ := ⟨_, rfl⟩
  refine wi_ A (h2_ t0 t1) (rv_ 1 (.int .i64 ((n + 1 : Nat) : Int)) (fun a ee => execAd8 (p := n) (q := 1) rfl (ee _) rfl (by omega)) (rs_ 2 (fun a ee => ?_)))
  refine stepV rfl rfl (execMkBl rfl (ee _) (ee _) (by omega)) ⟨.slice (some ⟨sb, 0, none⟩) (n + 1) (n + 1), ⟨_, rfl, by subst egsb; rfl⟩, fun X1 hX => ?_⟩
  have bQ : Below V.heap.size V X1 := by subst hX egsb; exact (belNew V _)
  have FXs : (X1.ownsRow V.heap.size 4 1 (.slice (some ⟨sb, 0, none⟩) (n + 1) (n + 1)) (n + 1) (boolsL (n + 1) (snF Lx 0 0))) := by subst hX egsb; exact ownD_base (own_mkBl V (n + 1) _ (by omega) (fun _ _ => rfl)) (BB).size
  have Fge : (V.heap.size ≤ sb) := by subst hX egsb; exact (BB).size
  replace BB := BB.trans (bQ.mono BB.size)
  clear bQ hX egsb ee a
  refine rf_ [(5, .slice (some ⟨sb, 0, none⟩) (n + 1) (n + 1))] (h2_ t0 t1) ?_
  rintro a A ⟨t5, -⟩ ⟨t0, t1, -⟩
  refine wp_seq ?_
  refine wi_ A (h3_ t0 t1 t5) (rf_ [(6, .int .i64 ((0 : Nat) : Int))] (h3_ t0 t1 t5) ?_)
  rintro a A ⟨t6, -⟩ ⟨t0, t1, t5, -⟩
  refine wp_seq ?_
  refine wp_seq ?_
  refine wi_ A (h4_ t0 t1 t5 t6) (rf_ [(7, .int .i64 ((0 : Nat) : Int))] (h4_ t0 t1 t5 t6) ?_)
  rintro a A ⟨t7, -⟩ ⟨t0, t1, t5, t6, -⟩
  replace t6 : a.eval (.tmp 6) = .int .i64 ((sm 0 (fun t => (Lx t).length) : Nat) : Int) := t6
  refine wp_block ?_
  refine wp_loop (fun a W => ∃ (i : Nat), i ≤ m ∧ (a.tmps.size = 56 ∧ a.defers = []) ∧ a.eval (.tmp 0) = v ∧ a.eval (.tmp 1) = .int .i64 ((n : Nat) : Int) ∧ a.eval (.tmp 5) = .slice (some ⟨sb, 0, none⟩) (n + 1) (n + 1) ∧ a.eval (.tmp 6) = .int .i64 ((sm i (fun t => (Lx t).length) : Nat) : Int) ∧ a.eval (.tmp 7) = .int .i64 ((i : Nat) : Int) ∧ Below V.heap.size V W ∧ (W.ownsRow V.heap.size 4 1 (.slice (some ⟨sb, 0, none⟩) (n + 1) (n + 1)) (n + 1) (boolsL (n + 1) (snF Lx i 0)))) (fun a _ => m - (intOf (a.eval (.tmp 7))).toNat) ⟨0, Nat.zero_le _, A, t0, t1, t5, t6, t7, BB, FXs⟩ ?_
  clear A t0 t1 t5 t6 t7 BB FXs a
  rintro a XL4 ⟨i, hi, A, t0, t1, t5, t6, t7, BB, FXs⟩
  have esi := t7
  refine wp_seq ?_
  refine wp_seq ?_
  refine wi_ A (h5_ t0 t1 t5 t6 t7) (rv_ 2 (.int .i64 ((m : Nat) : Int)) (fun a ee => execLnLL (len := m) rfl (ee _) (hv.shp)) (rv_ 3 (.bool (decide (i < m))) (fun a ee => execLtW (p := i) (q := m) rfl (ee _) (ee _)) (rf_ [(16, .bool (decide (i < m)))] (h5_ t0 t1 t5 t6 t7) ?_)))
  rintro a A ⟨t16, -⟩ ⟨t0, t1, t5, t6, t7, -⟩
  by_cases lti : i < m
  · rw [decide_eq_true lti] at t16
    refine wp_cond_true t16 ?_
    refine wp_skip ?_
    clear t16
    refine wp_seq ?_
    refine wp_block ?_
    have hlen := sm_two (f := fun t => (Lx t).length) lti
    rw [hs] at hlen
    obtain ⟨lb, lo_, lc, e0⟩ := hv.open (by omega)
    refine wp_seq ?_
    refine wi_ A (h5_ t0 t1 t5 t6 t7) (rf_ [(8, .int .i64 ((0 : Nat) : Int))] (h5_ t0 t1 t5 t6 t7) ?_)
    rintro a A ⟨t8, -⟩ ⟨t0, t1, t5, t6, t7, -⟩
    replace t6 : a.eval (.tmp 6) = .int .i64 ((sm i (fun t => (Lx t).length) + 0 : Nat) : Int) := t6
    refine wp_block ?_
    refine wp_loop (fun a W => ∃ (j : Nat), j ≤ (Lx i).length ∧ (a.tmps.size = 56 ∧ a.defers = []) ∧ a.eval (.tmp 0) = v ∧ a.eval (.tmp 1) = .int .i64 ((n : Nat) : Int) ∧ a.eval (.tmp 5) = .slice (some ⟨sb, 0, none⟩) (n + 1) (n + 1) ∧ a.eval (.tmp 6) = .int .i64 ((sm i (fun t => (Lx t).length) + j : Nat) : Int) ∧ a.eval (.tmp 7) = .int .i64 ((i : Nat) : Int) ∧ a.eval (.tmp 8) = .int .i64 ((j : Nat) : Int) ∧ Below V.heap.size V W ∧ (W.ownsRow V.heap.size 4 1 (.slice (some ⟨sb, 0, none⟩) (n + 1) (n + 1)) (n + 1) (boolsL (n + 1) (snF Lx i j)))) (fun a _ => (Lx i).length - (intOf (a.eval (.tmp 8))).toNat) ⟨0, Nat.zero_le _, A, t0, t1, t5, t6, t7, t8, BB, FXs⟩ ?_
    clear A t0 t1 t5 t6 t7 t8 BB FXs a
    rintro a XL7 ⟨j, hj, A, t0, t1, t5, t6, t7, t8, BB, FXs⟩
    have esj := t8
    refine wp_seq ?_
    refine wp_seq ?_
    refine wi_ A (h6_ t0 t1 t5 t6 t7 t8) (rv_ 3 (.pointer (some ⟨lb, lo_ + i, none⟩)) (fun a ee => execIxLL (k := i) rfl ((ee _).trans e0) (ee _) lti) (rv_ 4 (x i) (fun a ee => execLdG rfl (Or.inl rfl) (ee _) (SliceV.at (hv.on BB) e0 lti)) (rv_ 5 (.int .i64 (((Lx i).length : Nat) : Int)) (fun a ee => execLenI (len := (Lx i).length) rfl (ee _) ((hx i lti).shp)) (rv_ 6 (.bool (decide (j < (Lx i).length))) (fun a ee => execLtW (p := j) (q := (Lx i).length) rfl (ee _) (ee _)) (rf_ [(25, .bool (decide (j < (Lx i).length)))] (h6_ t0 t1 t5 t6 t7 t8) ?_)))))
    rintro a A ⟨t25, -⟩ ⟨t0, t1, t5, t6, t7, t8, -⟩
    by_cases ltj : j < (Lx i).length
    · rw [decide_eq_true ltj] at t25
      refine wp_cond_true t25 ?_
      refine wp_skip ?_
      clear t25
      refine wp_seq ?_
      refine wp_block ?_
      obtain ⟨c1, c2, c3⟩ := cn_zero lti ltj hb
      obtain ⟨z, ez⟩ : ∃ z : Nat, (Lx i).getD j 0 = ((z : Nat) : Int) := ⟨((Lx i).getD j 0).toNat, by omega⟩
      have hsn : snF Lx i j z = false := by unfold snF; rw [← ez, c3]; rfl
      obtain ⟨xb, xo, xc, ex, hxb, hxc⟩ := ints_open (hx i lti) (by omega)
      have cX : ∀ X, Below V.heap.size V X → X.cell? ⟨xb, xo + j, none⟩ = some (.int .i64 ((z : Nat) : Int)) := fun X hX => by rw [cell_below hX hxb, ← ez]; exact hxc j ltj
      refine wp_seq ?_
      refine wi_ A (h6_ t0 t1 t5 t6 t7 t8) (rv_ 2 (.pointer (some ⟨lb, lo_ + i, none⟩)) (fun a ee => execIxLL (k := i) rfl ((ee _).trans e0) (ee _) lti) (rv_ 3 (x i) (fun a ee => execLdG rfl (Or.inl rfl) (ee _) (SliceV.at (hv.on BB) e0 lti)) (rv_ 5 (.pointer (some ⟨xb, xo + j, none⟩)) (fun a ee => execIdxN (k := j) rfl ((ee _).trans ex) (ee _) ltj) (rv_ 6 (.int .i64 ((z : Nat) : Int)) (fun a ee => execLdG rfl (Or.inr (Or.inl rfl)) (ee _) (cX XL7 BB)) (rf_ [(9, .int .i64 ((z : Nat) : Int))] (h6_ t0 t1 t5 t6 t7 t8) ?_)))))
      rintro a A ⟨t9, -⟩ ⟨t0, t1, t5, t6, t7, t8, -⟩
      refine wp_seq ?_
      refine wp_seq ?_
      refine wi_ A (h7_ t0 t1 t5 t6 t7 t8 t9) (rv_ 1 (.bool false) (fun a ee => execDec (execLtW (p := z) (q := 1) rfl (ee _) rfl) (decide_eq_false (by omega))) (rv_ 5 (.bool false) (fun a ee => execDec (execGtN (p := z) (q := n) rfl (ee _) (ee _)) (decide_eq_false (by omega))) (rv_ 10 (.pointer (some ⟨sb, 0 + z, none⟩)) (fun a ee => execIdxBl (k := z) rfl (ee _) (ee _) (by omega)) (rv_ 11 (.bool false) (fun a ee => execLdG rfl (Or.inr (Or.inr (Or.inl rfl))) (ee _) (by rw [← hsn]; exact (own_cellBl FXs (by omega)).1)) (rf_ [(47, .bool false)] (h7_ t0 t1 t5 t6 t7 t8 t9) ?_)))))
      rintro a A ⟨t47, -⟩ ⟨t0, t1, t5, t6, t7, t8, t9, -⟩
      refine wp_cond_false t47 ?_
      refine wp_skip ?_
      clear t47
      refine wp_seq ?_
      refine wi_ A (h7_ t0 t1 t5 t6 t7 t8 t9) (rv_ 2 (.pointer (some ⟨sb, 0 + z, none⟩)) (fun a ee => execIdxBl (k := z) rfl (ee _) (ee _) (by omega)) (rs_ 3 (fun a ee => ?_)))
      refine stepS rfl rfl (execStBl rfl (ee _) rfl (own_cellBl FXs (show z < n + 1 by omega)).1 (own_cellBl FXs (show z < n + 1 by omega)).2) ⟨_, ⟨_, rfl, rfl⟩, fun X12 hX => ?_⟩
      obtain ⟨BB, FS2⟩ : Below V.heap.size V X12 ∧ (X12.ownsRow V.heap.size 4 1 (.slice (some ⟨sb, 0, none⟩) (n + 1) (n + 1)) (n + 1) (boolsL (n + 1) (snF Lx i (j + 1)))) := by subst hX; exact ⟨(BB).setCell (p := ⟨sb, 0 + z, none⟩) Fge _, (by rw [boolsL_congr (fun k _ => sn_step ltj ez)]; exact own_setBl true FXs)⟩
      clear FXs hX ee a
      refine rf_ [] (h6_ t0 t1 t5 t6 t7 t8) ?_
      rintro a A - ⟨t0, t1, t5, t6, t7, t8, -⟩
      refine wi_ A (h6_ t0 t1 t5 t6 t7 t8) (rv_ 1 (.int .i64 ((sm i (fun t => (Lx t).length) + j + 1 : Nat) : Int)) (fun a ee => execAd8 (p := sm i (fun t => (Lx t).length) + j) (q := 1) rfl (ee _) rfl (by omega)) (rf_ [(6, .int .i64 ((sm i (fun t => (Lx t).length) + j + 1 : Nat) : Int))] (h5_ t0 t1 t5 t7 t8) ?_))
      rintro a A ⟨t6, -⟩ ⟨t0, t1, t5, t7, t8, -⟩
      replace t6 : a.eval (.tmp 6) = .int .i64 ((sm i (fun t => (Lx t).length) + (j + 1) : Nat) : Int) := t6
      refine wi_ A (h6_ t0 t1 t5 t6 t7 t8) (rv_ 1 (.int .i64 ((j + 1 : Nat) : Int)) (fun a ee => execAd8 (p := j) (q := 1) rfl (ee _) rfl (by omega)) (rf_ [(8, .int .i64 ((j + 1 : Nat) : Int))] (h5_ t0 t1 t5 t6 t7) ?_))
      rintro a A ⟨t8, -⟩ ⟨t0, t1, t5, t6, t7, -⟩
      exact ⟨⟨j + 1, ltj, A, t0, t1, t5, t6, t7, t8, BB, FS2⟩, by show (Lx i).length - (intOf (a.eval (.tmp 8))).toNat < (Lx i).length - (intOf (Act.eval _ (.tmp 8))).toNat; rw [t8, esj]; show (Lx i).length - (j + 1) < (Lx i).length - j; omega⟩
    · rw [decide_eq_false ltj] at t25
      refine wp_cond_false t25 ?_
      refine wp_exit ?_
      first | with_reducible refine exit_in ?_ | with_reducible refine exit_then (exit_in ?_) | with_reducible refine exit_then (exit_then (exit_in ?_)) | refine exit_in ?_ | refine exit_then (exit_in ?_) | refine exit_then (exit_then (exit_in ?_))
      clear t25 esj
      obtain rfl : j = (Lx i).length := by omega
      replace t6 : a.eval (.tmp 6) = .int .i64 ((sm (i + 1) (fun t => (Lx t).length) : Nat) : Int) := t6
      replace FXs : (XL7.ownsRow V.heap.size 4 1 (.slice (some ⟨sb, 0, none⟩) (n + 1) (n + 1)) (n + 1) (boolsL (n + 1) (snF Lx (i + 1) 0))) := by rw [← boolsL_congr (fun k _ => sn_next k)]; exact FXs
      refine wi_ A (h5_ t0 t1 t5 t6 t7) (rv_ 1 (.int .i64 ((i + 1 : Nat) : Int)) (fun a ee => execAd8 (p := i) (q := 1) rfl (ee _) rfl (by omega)) (rf_ [(7, .int .i64 ((i + 1 : Nat) : Int))] (h4_ t0 t1 t5 t6) ?_))
      rintro a A ⟨t7, -⟩ ⟨t0, t1, t5, t6, -⟩
      exact ⟨⟨i + 1, lti, A, t0, t1, t5, t6, t7, BB, FXs⟩, by show m - (intOf (a.eval (.tmp 7))).toNat < m - (intOf (Act.eval _ (.tmp 7))).toNat; rw [t7, esi]; show m - (i + 1) < m - i; omega⟩
  · rw [decide_eq_false lti] at t16
    refine wp_cond_false t16 ?_
    refine wp_exit ?_
    first | with_reducible refine exit_in ?_ | with_reducible refine exit_then (exit_in ?_) | with_reducible refine exit_then (exit_then (exit_in ?_)) | refine exit_in ?_ | refine exit_then (exit_in ?_) | refine exit_then (exit_then (exit_in ?_))
    clear t16 esi
    obtain rfl : i = m := by omega
    rw [hs] at t6
    refine wp_seq ?_
    refine wi_ A (h2_ t1 t6) (rv_ 2 (.bool true) (fun a ee => execDec (execEqN (p := n) (q := n) rfl (ee _) (ee _)) (decide_eq_true (by rfl))) (rg_ [(4, .bool true)] ?_))
    rintro a A ⟨t4, -⟩
    refine wp_ret ?_
    refine bodyPost_ret (results_tmp rfl _ _ _) A.2 ⟨?_, BB⟩
    show Ending.returned (a.eval (.tmp 4)) = _
    rw [t4]
end Go.Proofs.Ytcgkelgncehekaa.Loo
