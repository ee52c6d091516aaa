import Derived.Test.YtmfaapbhehhlpaaB9d
import Derived.Laws.Concat
import Derived.Test.YtmfaapbhehhlpaaJ0
namespace Go.Proofs.Ytmfaapbhehhlpaa.Noi
open Go.RowKit Gf8 Aes By8 Cel Cf Tap Drw Prm Brd
/- NoiseCounts. Written by tools/mkB9e.py. -/

/-- The cells of an Ask; a tape with room. -/
def anC (pv : Value) (a d m c l : Int) : Array Value := #[pv, .int .i64 a, .int .i64 d, .int .i64 m, .int .i64 c, .int .i64 l]
section
variable {p : Nat → Nat} {L : Nat}
end
section
variable {W : World} {g : Nat} {pv : Value} {a d m c l : Int} {t : TypeId}
theorem an_at0 (h : W.heap[g]? = some (.cells (anC pv a d m c l) t)) : W.cell? ⟨g, 0, none⟩ = some pv := by rw [cell_of_row _ _ _ _ _ _ h]; rfl
theorem an_at1 (h : W.heap[g]? = some (.cells (anC pv a d m c l) t)) : W.cell? ⟨g, 1, none⟩ = some (.int .i64 a) := by rw [cell_of_row _ _ _ _ _ _ h]; rfl
theorem an_at2 (h : W.heap[g]? = some (.cells (anC pv a d m c l) t)) : W.cell? ⟨g, 2, none⟩ = some (.int .i64 d) := by rw [cell_of_row _ _ _ _ _ _ h]; rfl
theorem an_at3 (h : W.heap[g]? = some (.cells (anC pv a d m c l) t)) : W.cell? ⟨g, 3, none⟩ = some (.int .i64 m) := by rw [cell_of_row _ _ _ _ _ _ h]; rfl
theorem an_at4 (h : W.heap[g]? = some (.cells (anC pv a d m c l) t)) : W.cell? ⟨g, 4, none⟩ = some (.int .i64 c) := by rw [cell_of_row _ _ _ _ _ _ h]; rfl
theorem an_at5 (h : W.heap[g]? = some (.cells (anC pv a d m c l) t)) : W.cell? ⟨g, 5, none⟩ = some (.int .i64 l) := by rw [cell_of_row _ _ _ _ _ _ h]; rfl
end
section
variable {o : Oper} {a : Act} {w : World}
theorem execBoxAn {x : Operand} {pv : Value} {b d m c l : Int} (ho : o.op = .box 33 x) (hx : a.eval x = .agg (anC pv b d m c l)) : (execOp a.eval o).run Try.prog w = .ok (.value (.pointer (some ⟨w.heap.size, 0, none⟩))) (w.alloc (.cells (anC pv b d m c l) 33)) := by
  unfold execOp
  simp only [ho, hx]
  simp [go_sem, anC]
theorem execFldAn {x : Operand} {b k : Nat} (ho : o.op = .fieldAddr 33 x k) (hx : a.eval x = .pointer (some ⟨b, 0, none⟩)) (hk : Nat.blt k 6 = true) : (execOp a.eval o).run Try.prog w = .ok (.value (.pointer (some ⟨b, k, none⟩))) w := by
  match k, hk with
  | 0, _ => unfold execOp; simp only [ho, hx]; simp [go_sem]
  | 1, _ => unfold execOp; simp only [ho, hx]; simp [go_sem]
  | 2, _ => unfold execOp; simp only [ho, hx]; simp [go_sem]
  | 3, _ => unfold execOp; simp only [ho, hx]; simp [go_sem]
  | 4, _ => unfold execOp; simp only [ho, hx]; simp [go_sem]
  | 5, _ => unfold execOp; simp only [ho, hx]; simp [go_sem]
  | k + 6, h => exact absurd h (by simp)
end
end Go.Proofs.Ytmfaapbhehhlpaa.Noi

namespace Go.Proofs.Ytmfaapbhehhlpaa.Noi
open Go.RowKit Gf8 Aes By8 Cel Cf Tap Drw Prm Brd
/- Lists of cells, alike. Written by tools/mkB9h.py. -/

/-- A list of n cells. -/
structure LB (W : World) (v : Value) (n : Nat) (y : Nat → Value) (f : Nat → Nat → Nat) : Prop where
  shape : ∃ a c, v = .slice a n c ∧ n ≤ c ∧ (0 < n → ∃ b o, a = some ⟨b, o, none⟩ ∧ b < W.heap.size ∧ ∀ j, j < n → W.cell? ⟨b, o + j, none⟩ = some (y j))
  lists : ∀ j, j < n → SliceN W (y j) 320 (f j)
section
variable {W W' : World} {v : Value} {n : Nat} {y : Nat → Value} {f : Nat → Nat → Nat}
theorem LB.on (h : LB W v n y f) (hb : Below W.heap.size W W') : LB W' v n y f := by
  obtain ⟨a, c, e, hc, h1⟩ := h.shape
  refine ⟨⟨a, c, e, hc, fun h0 => ?_⟩, fun j hj => (h.lists j hj).on hb⟩
  obtain ⟨b, o, e1, e2, e3⟩ := h1 h0
  exact ⟨b, o, e1, Nat.lt_of_lt_of_le e2 hb.size, fun j hj => by rw [cell_below hb e2]; exact e3 j hj⟩
theorem LB.shp (h : LB W v n y f) : ∃ a c, v = .slice a n c := by
  obtain ⟨a, c, e, _⟩ := h.shape
  exact ⟨a, c, e⟩
theorem LB.at (h : LB W v n y f) (h0 : 0 < n) : ∃ b o c, v = .slice (some ⟨b, o, none⟩) n c ∧ b < W.heap.size ∧ ∀ j, j < n → W.cell? ⟨b, o + j, none⟩ = some (y j) := by
  obtain ⟨a, c, e, _, h1⟩ := h.shape
  obtain ⟨b, o, e1, e2, e3⟩ := h1 h0
  exact ⟨b, o, c, by rw [e, e1], e2, e3⟩
theorem LB.cg {g : Nat → Nat → Nat} (h : LB W v n y f) (e : ∀ j, j < n → ∀ k, k < 320 → f j k = g j k) : LB W v n y g := ⟨h.shape, fun j hj => sliceN_cg (h.lists j hj) (e j hj)⟩
theorem lb_of {B C : Nat} (h1 : W.ownsRow B 31 1 v n (lL y n)) (h2 : Fam C n y (fun _ => 320) f W) (hb : ∀ t, t < n → ∀ j, j < 320 → f t j < 256) : LB W v n y f := by
  refine ⟨?_, fun j hj => own_slice (h2.rows j hj) (hb j hj)⟩
  rcases h1.2 with ⟨rfl, rfl⟩ | ⟨g, c, cur, rfl, _, hg, q1, q2, q3, q4⟩
  · exact ⟨none, 0, rfl, Nat.le_refl _, fun h => absurd h (Nat.lt_irrefl _)⟩
  · refine ⟨_, _, rfl, q1, fun _ => ⟨g, 0, rfl, (Array.getElem?_eq_some_iff.1 hg).1, fun j hj => ?_⟩⟩
    rw [cell_of_row _ _ _ _ _ _ hg, Nat.zero_add, ← Array.getElem?_toList]
    have h5 : (cur.toList.take (n * 1))[j]? = some (y j) := by rw [q4]; exact lL_get _ _ _ hj
    rw [List.getElem?_take_of_lt (by omega)] at h5
    exact h5
end
theorem execLenLs {o : Oper} {a : Act} {w : World} {x : Operand} {v : Value} {len : Nat} (ho : o.op = .call { callee := .builtin .len, args := #[x], argTypes := #[39] }) (hx : a.eval x = v) (hv : ∃ ao c, v = .slice ao len c) : (execOp a.eval o).run Try.prog w = .ok (.value (.int .i64 (len : Int))) w := by
  obtain ⟨g, c, rfl⟩ := hv
  unfold execOp
  simp only [ho, resolve, invoke, builtin, List.map_toArray, List.map_cons, List.map_nil, hx]
  simp [go_sem]
theorem kw_congr {key key' : Nat → Nat} (h : ∀ i, i < 16 → key i = key' i) : kw key = kw key' := by
  funext i
  induction i using Nat.strongRecOn with
  | ind i ih =>
    by_cases q : i < 16
    · rw [kw_low _ q, kw_low _ q]; exact h i q
    · by_cases h4 : i % 16 < 4
      · rw [kw_turn _ (by omega) h4, kw_turn _ (by omega) h4, ih _ (by omega), ih _ (by omega)]
      · rw [kw_plain _ (by omega) h4, kw_plain _ (by omega) h4, ih _ (by omega), ih _ (by omega)]
/-- The cells hang on the sixteen bytes of the key. -/
theorem cl_key {p q : Nat → Nat} {l : Nat} (h : ∀ i, i < 16 → p (2 + i) = q (2 + i)) : clC p l = clC q l := by
  unfold clC stC
  rw [kw_congr h]
theorem st_byte {p : Nat → Nat} {L : Nat} (hp : ∀ j, j < L → p j < 256) (hL : 18 ≤ L) (i : Nat) : stC p i < 256 := by
  unfold stC maskF
  show (0 ^^^ _) < 256
  rw [Nat.zero_xor]
  refine enc_by (fun j _ => kw_lt (fun i hi => hp _ (by omega)) j) (fun j _ => Nat.mod_lt _ (by omega)) (i % 16) (Nat.mod_lt _ (by omega))
theorem cl_lt {p : Nat → Nat} {L l t : Nat} (hp : ∀ j, j < L → p j < 256) (hL : 18 ≤ L) (j : Nat) : clC p l t j < 256 := by
  unfold clC cellF
  by_cases h1 : j < (if l = 0 then 1 else 0)
  · rw [if_pos h1]; show 0 < 256; omega
  · rw [if_neg h1]
    by_cases h2 : j < (if l = 0 then 1 else 0) + szC l
    · rw [if_pos h2]; exact st_byte hp hL _
    · rw [if_neg h2]; omega
theorem cl_byte {p : Nat → Nat} {L l t : Nat} {nc nl : Int} (hp : ∀ j, j < L → p j < 256) (ht : t < zl (clE L nc nl) nc.toNat) : ∀ j, j < 320 → clC p l t j < 256 := fun j _ => cl_lt hp (by
  by_cases h : 18 ≤ L
  · exact h
  · have hE : clE L nc nl ≠ 0 := by
      unfold clE
      by_cases q : 0 ≤ nc ∧ nc ≤ 16 ∧ 0 ≤ nl ∧ nl < 8
      · rw [if_pos q, if_neg h]; decide
      · rw [if_neg q]; decide
    rw [zl_no hE] at ht
    omega) j
theorem cl_len {L : Nat} {nc nl : Int} : zl (clE L nc nl) nc.toNat ≤ 16 := by
  by_cases q : 0 ≤ nc ∧ nc ≤ 16 ∧ 0 ≤ nl ∧ nl < 8
  · unfold zl
    by_cases h : clE L nc nl = 0
    · rw [if_pos h]; omega
    · rw [if_neg h]; omega
  · have hE : clE L nc nl = 2 := if_neg q
    rw [hE, zl_no (by decide)]
    omega
set_option maxRecDepth 100000 in
set_option maxHeartbeats 4000000 in
/-- The law's alike, of like lists. -/
theorem alike15 (f g : Nat → Nat → Nat) (y z : Nat → Value) (n : Nat) (v u0 : Value) (V : World) (FI : LB V v n y f) (FJ : LB V u0 n z g) (hfg : ∀ j, j < n → ∀ k, k < 320 → f j k = g j k) (hn17 : n ≤ 1000) :
    Calls Try.prog 16 #[v, u0] V fun e w' => e = .returned (.bool true) ∧ Below V.heap.size V w' := by
  go_enter Try.func16, Try.ntmps16
  refine wp_seq ?_
  refine wo_ 28 [(0, v), (1, u0)] ?_
  rintro a A ⟨t0, t1, -⟩
  refine wi_ A (h2_ t0 t1) (rf_ [] (h2_ t0 t1) ?_)
  rintro a A - ⟨t0, t1, -⟩
  have BW : Below V.heap.size V V := Below.refl _ _
  have BB := BW
  refine wp_seq ?_
  refine wp_seq ?_
  refine wi_ A (h2_ t0 t1) (rv_ 1 (.int .i64 ((n : Nat) : Int)) (fun a ee => execLenLs (len := n) rfl (ee _) FI.shp) (rv_ 3 (.int .i64 ((n : Nat) : Int)) (fun a ee => execLenLs (len := n) rfl (ee _) FJ.shp) (rv_ 4 (.bool false) (fun a ee => execDec (execNeN (p := n) (q := n) rfl (ee _) (ee _)) (decide_eq_false (by omega))) (rf_ [(10, .bool false)] (h2_ t0 t1) ?_))))
  rintro a A ⟨t10, -⟩ ⟨t0, t1, -⟩
  refine wp_cond_false t10 ?_
  refine wp_skip ?_
  clear t10
  refine wp_seq ?_
  refine wp_seq ?_
  refine wi_ A (h2_ t0 t1) (rv_ 1 (.int .i64 ((n : Nat) : Int)) (fun a ee => execLenLs (len := n) rfl (ee _) FI.shp) (rf_ [(12, .int .i64 ((n : Nat) : Int)), (13, .int .i64 ((0 : Nat) : Int))] (h2_ t0 t1) ?_))
  rintro a A ⟨t12, t13, -⟩ ⟨t0, t1, -⟩
  refine wp_block ?_
  refine wp_loop (fun a W => ∃ (i : Nat), i ≤ n ∧ (a.tmps.size = 28 ∧ a.defers = []) ∧ a.eval (.tmp 0) = v ∧ a.eval (.tmp 1) = u0 ∧ a.eval (.tmp 12) = .int .i64 ((n : Nat) : Int) ∧ a.eval (.tmp 13) = .int .i64 ((i : Nat) : Int) ∧ Below V.heap.size V W) (fun a _ => n - (intOf (a.eval (.tmp 13))).toNat) ⟨0, Nat.zero_le _, A, t0, t1, t12, t13, BB⟩ ?_
  clear A t0 t1 t12 t13 BB a
  rintro a XL4 ⟨i, hi, A, t0, t1, t12, t13, BB⟩
  have esi := t13
  refine wp_seq ?_
  refine wi_ A (h4_ t0 t1 t12 t13) (rv_ 0 (.bool (decide (i < n))) (fun a ee => execLtW (p := i) (q := n) rfl (ee _) (ee _)) (rf_ [(14, .bool (decide (i < n)))] (h4_ t0 t1 t12 t13) ?_))
  rintro a A ⟨t14, -⟩ ⟨t0, t1, t12, t13, -⟩
  refine wp_seq ?_
  by_cases lti : i < n
  · rw [decide_eq_true lti] at t14
    refine wp_cond_true t14 ?_
    refine wp_skip ?_
    clear t14
    refine wp_seq ?_
    refine wp_block ?_
    obtain ⟨vb, vo, vc, ev, hvb, hvc⟩ := FI.at (show 0 < n by omega)
    obtain ⟨ub, uo, uc, eu, hub, huc⟩ := FJ.at (show 0 < n by omega)
    have cV : ∀ X, Below V.heap.size V X → X.cell? ⟨vb, vo + i, none⟩ = some (y i) := fun X hX => by rw [cell_below hX hvb]; exact hvc i lti
    have cU : ∀ X, Below V.heap.size V X → X.cell? ⟨ub, uo + i, none⟩ = some (z i) := fun X hX => by rw [cell_below hX hub]; exact huc i lti
    refine wp_seq ?_
    refine wi_ A (h4_ t0 t1 t12 t13) (rf_ [(5, .int .i64 ((i : Nat) : Int))] (h4_ t0 t1 t12 t13) ?_)
    rintro a A ⟨t5, -⟩ ⟨t0, t1, t12, t13, -⟩
    refine wp_seq ?_
    refine wj_ [0, 1, 2, 3, 4, 5, 6, 7, 8, 9, 10] [] [3, 4, 8, 9] [] A (h5_ t0 t1 t12 t5 t13) (fun X6 bD => ?_)
    refine dw_ 2 (.pointer (some ⟨vb, vo + i, none⟩)) (fun a X ee => Cf.execIdxL (k := i) rfl ((ee _).trans ev) (ee _) lti) (dv_ 3 (y i) (fun a X ee hb => execLdL rfl (ee _) (cV X (BB.trans (hb.mono BB.size)))) (dv_ 4 (.string (strN (f i) 320)) (fun a X ee hb => By8.execStr rfl (ee _) ((FI.lists i lti).on (BB.trans (hb.mono BB.size)))) (dw_ 7 (.pointer (some ⟨ub, uo + i, none⟩)) (fun a X ee => Cf.execIdxL (k := i) rfl ((ee _).trans eu) (ee _) lti) (dv_ 8 (z i) (fun a X ee hb => execLdL rfl (ee _) (cU X (BB.trans (hb.mono BB.size)))) (dv_ 9 (.string (strN (f i) 320)) (fun a X ee hb => By8.execStr rfl (ee _) (sliceN_cg ((FJ.lists i lti).on (BB.trans (hb.mono BB.size))) (fun k hk => (hfg i lti k hk).symm))) (dw_ 10 (.bool false) (fun a X ee => By8.execNeqS rfl (ee _) (ee _)) (dz_ [(26, .bool false)] (h4_ t0 t1 t12 t13) ?_)))))))
    rintro a A ⟨t26, -⟩ ⟨t0, t1, t12, t13, -⟩
    replace BB := BB.trans (bD.mono BB.size)
    clear bD
    refine wp_cond_false t26 ?_
    refine wp_skip ?_
    clear t26
    refine wi_ A (h4_ t0 t1 t12 t13) (rv_ 0 (.int .i64 ((i + 1 : Nat) : Int)) (fun a ee => execAd8 (p := i) (q := 1) rfl (ee _) rfl (by omega)) (rf_ [(13, .int .i64 ((i + 1 : Nat) : Int))] (h3_ t0 t1 t12) ?_))
    rintro a A ⟨t13, -⟩ ⟨t0, t1, t12, -⟩
    exact ⟨⟨i + 1, lti, A, t0, t1, t12, t13, BB⟩, by show n - (intOf (a.eval (.tmp 13))).toNat < n - (intOf (Act.eval _ (.tmp 13))).toNat; rw [t13, esi]; show n - (i + 1) < n - i; omega⟩
  · rw [decide_eq_false lti] at t14
    refine wp_cond_false t14 ?_
    refine wp_exit ?_
    first | with_reducible refine exit_in ?_ | with_reducible refine exit_then (exit_in ?_) | with_reducible refine exit_then (exit_then (exit_in ?_)) | refine exit_in ?_ | refine exit_then (exit_in ?_) | refine exit_then (exit_then (exit_in ?_))
    clear t14 esi
    clear t0 t1 t12 t13
    refine wp_seq ?_
    refine wi_ A h0_ (rg_ [(4, .bool true)] ?_)
    rintro a A ⟨t4, -⟩
    refine wp_ret ?_
    refine bodyPost_ret (results_tmp rfl _ _ _) A.2 ⟨?_, BB⟩
    show Ending.returned (a.eval (.tmp 4)) = _
    rw [t4]
end Go.Proofs.Ytmfaapbhehhlpaa.Noi
