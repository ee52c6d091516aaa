import Derived.Test.YteekoabgbjbabaaGreatDoorW8f
import Derived.Test.YteekoabgbjbabaaGreatDoorW8n
import Derived.Test.YteekoabgbjbabaaGreatDoorV8r
namespace Go.Proofs.YteekoabgbjbabaaGreatDoor.Rpl
open Go.RowKit Gf8 Aes By8 Cel Cf Tap Drw Dro Oni Rou
/- Stage 27: the law's fit. Written by tools/mkW8g.py. -/

section
variable {o : Oper} {a : Act} {w : World} {x : Operand} {b : Nat}
theorem execLdJob {u v y : Value} (ho : o.op = .load 26 x) (hx : a.eval x = .pointer (some ⟨b, 0, none⟩)) (h : w.heap[b]? = some (.cells #[u, v, y] 26)) : (execOp a.eval o).run Tryz.prog w = .ok (.value (.agg #[u, v, y])) w := by
  have h0 := at7 (k := 0) h rfl
  have h1 := at7 (k := 1) h rfl
  have h2 := at7 (k := 2) h rfl
  unfold execOp
  simp only [ho, hx]
  simp [go_sem, h0, h1, h2]
end
set_option maxRecDepth 100000 in
set_option maxHeartbeats 4000000 in
/-- The law's fit. -/
theorem fit27 (h hn n : Nat) (kv nv pv : Value) (xv : Nat → Value) (lk : Nat → Nat) (key q : Nat → Nat → Nat) (p : Nat → Nat) (V : World) (hK : Ls V kv h xv lk key) (hN : Nons V nv hn q) (hP : SliceN V pv n p) (hh : h ≤ 140737488351232) :
    Calls Tryz.prog 5 #[.agg #[kv, nv, pv]] V fun e w' => e = .returned (.int .i64 ((rwE h hn lk n : Nat) : Int)) ∧ Below V.heap.size V w' := by
  go_enter Tryz.func5, Tryz.ntmps5
  refine wo_ 41 [(0, .agg #[kv, nv, pv])] ?_
  rintro a A ⟨t0, -⟩
  have BW : Below V.heap.size V V := Below.refl _ _
  have BB := BW
  refine wp_seq ?_
  obtain ⟨g1, egg1⟩ : ∃ z_ : Nat, V.heap.size = z_ := ⟨_, rfl⟩
  refine wi_ A (h1_ t0) (rs_ 0 (fun a ee => ?_))
  refine stepV rfl rfl (execBxJob rfl (ee _)) ⟨.pointer (some ⟨g1, 0, none⟩), ⟨_, rfl, by subst egg1; rfl⟩, fun X0 hX => ?_⟩
  have bQ : Below V.heap.size V X0 := by subst hX egg1; exact (belNew V _)
  have Fg1 : (X0.heap[g1]? = some (.cells #[kv, nv, pv] 26)) := by subst hX egg1; exact heapNew V _
  replace BB := BB.trans (bQ.mono BB.size)
  clear bQ hX egg1 ee a
  refine rg_ [(1, .pointer (some ⟨g1, 0, none⟩))] ?_
  rintro a A ⟨t1, -⟩
  refine wp_seq ?_
  refine wp_seq ?_
  by_cases h1 : h < 1
  · refine wi_ A (h1_ t1) (rv_ 0 (.pointer (some ⟨g1, 0, none⟩)) (fun a ee => execFldJb (k := 0) rfl (ee _) rfl) (rv_ 1 (kv) (fun a ee => execLdLL7 rfl (ee _) (at7 Fg1 rfl)) (rv_ 2 (.int .i64 ((h : Nat) : Int)) (fun a ee => execLenLL rfl (ee _) (hK.on BB).shp) (rv_ 3 (.bool true) (fun a ee => execDec (execLtW (p := h) (q := 1) rfl (ee _) rfl) (decide_eq_true (by omega))) (rf_ [(22, .bool true)] (h1_ t1) ?_)))))
    rintro a A ⟨t22, -⟩ ⟨t1, -⟩
    refine wp_cond_true t22 ?_
    clear t22
    refine wp_seq ?_
    refine wi_ A (h1_ t1) (rg_ [(2, .int .i64 ((80 : Nat) : Int))] ?_)
    rintro a A ⟨t2, -⟩
    rw [show rwE h hn lk n = 80 from if_pos (by omega)]
    refine wp_ret ?_
    repeat (first | with_reducible refine ret_in ?_ | with_reducible refine ret_then ?_)
    refine bodyPost_ret (results_tmp rfl _ _ _) A.2 ⟨?_, BB⟩
    show Ending.returned (a.eval (.tmp 2)) = _
    rw [t2]
  by_cases h2 : 8 < h
  · refine wi_ A (h1_ t1) (rv_ 0 (.pointer (some ⟨g1, 0, none⟩)) (fun a ee => execFldJb (k := 0) rfl (ee _) rfl) (rv_ 1 (kv) (fun a ee => execLdLL7 rfl (ee _) (at7 Fg1 rfl)) (rv_ 2 (.int .i64 ((h : Nat) : Int)) (fun a ee => execLenLL rfl (ee _) (hK.on BB).shp) (rv_ 3 (.bool false) (fun a ee => execDec (execLtW (p := h) (q := 1) rfl (ee _) rfl) (decide_eq_false (by omega))) (rv_ 5 (.pointer (some ⟨g1, 0, none⟩)) (fun a ee => execFldJb (k := 0) rfl (ee _) rfl) (rv_ 6 (kv) (fun a ee => execLdLL7 rfl (ee _) (at7 Fg1 rfl)) (rv_ 7 (.int .i64 ((h : Nat) : Int)) (fun a ee => execLenLL rfl (ee _) (hK.on BB).shp) (rv_ 8 (.bool true) (fun a ee => execDec (execGtN (p := h) (q := 8) rfl (ee _) rfl) (decide_eq_true (by omega))) (rf_ [(22, .bool true)] (h1_ t1) ?_)))))))))
    rintro a A ⟨t22, -⟩ ⟨t1, -⟩
    refine wp_cond_true t22 ?_
    clear t22
    refine wp_seq ?_
    refine wi_ A (h1_ t1) (rg_ [(2, .int .i64 ((80 : Nat) : Int))] ?_)
    rintro a A ⟨t2, -⟩
    rw [show rwE h hn lk n = 80 from if_pos (by omega)]
    refine wp_ret ?_
    repeat (first | with_reducible refine ret_in ?_ | with_reducible refine ret_then ?_)
    refine bodyPost_ret (results_tmp rfl _ _ _) A.2 ⟨?_, BB⟩
    show Ending.returned (a.eval (.tmp 2)) = _
    rw [t2]
  by_cases h3 : hn ≠ h
  · refine wi_ A (h1_ t1) (rv_ 0 (.pointer (some ⟨g1, 0, none⟩)) (fun a ee => execFldJb (k := 0) rfl (ee _) rfl) (rv_ 1 (kv) (fun a ee => execLdLL7 rfl (ee _) (at7 Fg1 rfl)) (rv_ 2 (.int .i64 ((h : Nat) : Int)) (fun a ee => execLenLL rfl (ee _) (hK.on BB).shp) (rv_ 3 (.bool false) (fun a ee => execDec (execLtW (p := h) (q := 1) rfl (ee _) rfl) (decide_eq_false (by omega))) (rv_ 5 (.pointer (some ⟨g1, 0, none⟩)) (fun a ee => execFldJb (k := 0) rfl (ee _) rfl) (rv_ 6 (kv) (fun a ee => execLdLL7 rfl (ee _) (at7 Fg1 rfl)) (rv_ 7 (.int .i64 ((h : Nat) : Int)) (fun a ee => execLenLL rfl (ee _) (hK.on BB).shp) (rv_ 8 (.bool false) (fun a ee => execDec (execGtN (p := h) (q := 8) rfl (ee _) rfl) (decide_eq_false (by omega))) (rv_ 11 (.pointer (some ⟨g1, 1, none⟩)) (fun a ee => execFldJb (k := 1) rfl (ee _) rfl) (rv_ 12 (nv) (fun a ee => execLdLA7 rfl (ee _) (at7 Fg1 rfl)) (rv_ 13 (.int .i64 ((hn : Nat) : Int)) (fun a ee => execLenNs (hN.on BB) rfl (ee _)) (rv_ 14 (.pointer (some ⟨g1, 0, none⟩)) (fun a ee => execFldJb (k := 0) rfl (ee _) rfl) (rv_ 15 (kv) (fun a ee => execLdLL7 rfl (ee _) (at7 Fg1 rfl)) (rv_ 16 (.int .i64 ((h : Nat) : Int)) (fun a ee => execLenLL rfl (ee _) (hK.on BB).shp) (rv_ 17 (.bool true) (fun a ee => execDec (execNeN (p := hn) (q := h) rfl (ee _) (ee _)) (decide_eq_true (by omega))) (rf_ [(22, .bool true)] (h1_ t1) ?_))))))))))))))))
    rintro a A ⟨t22, -⟩ ⟨t1, -⟩
    refine wp_cond_true t22 ?_
    clear t22
    refine wp_seq ?_
    refine wi_ A (h1_ t1) (rg_ [(2, .int .i64 ((80 : Nat) : Int))] ?_)
    rintro a A ⟨t2, -⟩
    rw [show rwE h hn lk n = 80 from if_pos (by omega)]
    refine wp_ret ?_
    repeat (first | with_reducible refine ret_in ?_ | with_reducible refine ret_then ?_)
    refine bodyPost_ret (results_tmp rfl _ _ _) A.2 ⟨?_, BB⟩
    show Ending.returned (a.eval (.tmp 2)) = _
    rw [t2]
  refine wi_ A (h1_ t1) (rv_ 0 (.pointer (some ⟨g1, 0, none⟩)) (fun a ee => execFldJb (k := 0) rfl (ee _) rfl) (rv_ 1 (kv) (fun a ee => execLdLL7 rfl (ee _) (at7 Fg1 rfl)) (rv_ 2 (.int .i64 ((h : Nat) : Int)) (fun a ee => execLenLL rfl (ee _) (hK.on BB).shp) (rv_ 3 (.bool false) (fun a ee => execDec (execLtW (p := h) (q := 1) rfl (ee _) rfl) (decide_eq_false (by omega))) (rv_ 5 (.pointer (some ⟨g1, 0, none⟩)) (fun a ee => execFldJb (k := 0) rfl (ee _) rfl) (rv_ 6 (kv) (fun a ee => execLdLL7 rfl (ee _) (at7 Fg1 rfl)) (rv_ 7 (.int .i64 ((h : Nat) : Int)) (fun a ee => execLenLL rfl (ee _) (hK.on BB).shp) (rv_ 8 (.bool false) (fun a ee => execDec (execGtN (p := h) (q := 8) rfl (ee _) rfl) (decide_eq_false (by omega))) (rv_ 11 (.pointer (some ⟨g1, 1, none⟩)) (fun a ee => execFldJb (k := 1) rfl (ee _) rfl) (rv_ 12 (nv) (fun a ee => execLdLA7 rfl (ee _) (at7 Fg1 rfl)) (rv_ 13 (.int .i64 ((hn : Nat) : Int)) (fun a ee => execLenNs (hN.on BB) rfl (ee _)) (rv_ 14 (.pointer (some ⟨g1, 0, none⟩)) (fun a ee => execFldJb (k := 0) rfl (ee _) rfl) (rv_ 15 (kv) (fun a ee => execLdLL7 rfl (ee _) (at7 Fg1 rfl)) (rv_ 16 (.int .i64 ((h : Nat) : Int)) (fun a ee => execLenLL rfl (ee _) (hK.on BB).shp) (rv_ 17 (.bool false) (fun a ee => execDec (execNeN (p := hn) (q := h) rfl (ee _) (ee _)) (decide_eq_false (by omega))) (rf_ [(22, .bool false)] (h1_ t1) ?_))))))))))))))))
  rintro a A ⟨t22, -⟩ ⟨t1, -⟩
  refine wp_cond_false t22 ?_
  refine wp_skip ?_
  clear t22
  have e0 : rwE h hn lk n = if ksOk h lk then (if 48 < n then 1 else 0) else 2 := if_neg (by omega)
  refine wp_seq ?_
  refine wp_seq ?_
  refine wi_ A (h1_ t1) (rf_ [(3, .int .i64 ((0 : Nat) : Int))] (h1_ t1) ?_)
  rintro a A ⟨t3, -⟩ ⟨t1, -⟩
  refine wp_block ?_
  refine wp_loop (fun a W => ∃ (i : Nat), i ≤ h ∧ (∀ k, k < i → lk k = 32) ∧ (a.tmps.size = 41 ∧ a.defers = []) ∧ a.eval (.tmp 1) = .pointer (some ⟨g1, 0, none⟩) ∧ a.eval (.tmp 3) = .int .i64 ((i : Nat) : Int) ∧ Below V.heap.size V W ∧ (W.heap[g1]? = some (.cells #[kv, nv, pv] 26))) (fun a _ => h - (intOf (a.eval (.tmp 3))).toNat) ⟨0, Nat.zero_le _, fun k hk => absurd hk (Nat.not_lt_zero k), A, t1, t3, BB, Fg1⟩ ?_
  clear A t1 t3 BB Fg1 a
  rintro a XL4 ⟨i, hi, hs, A, t1, t3, BB, Fg1⟩
  have esi := t3
  refine wp_seq ?_
  refine wp_seq ?_
  refine wi_ A (h2_ t1 t3) (rv_ 1 (.pointer (some ⟨g1, 0, none⟩)) (fun a ee => execFldJb (k := 0) rfl (ee _) rfl) (rv_ 2 (kv) (fun a ee => execLdLL7 rfl (ee _) (at7 Fg1 rfl)) (rv_ 3 (.int .i64 ((h : Nat) : Int)) (fun a ee => execLenLL rfl (ee _) (hK.on BB).shp) (rv_ 4 (.bool (decide (i < h))) (fun a ee => execLtW (p := i) (q := h) rfl (ee _) (ee _)) (rf_ [(27, .bool (decide (i < h)))] (h2_ t1 t3) ?_)))))
  rintro a A ⟨t27, -⟩ ⟨t1, t3, -⟩
  by_cases lti : i < h
  · rw [decide_eq_true lti] at t27
    refine wp_cond_true t27 ?_
    refine wp_skip ?_
    clear t27
    refine wp_seq ?_
    refine wp_block ?_
    refine wp_seq ?_
    by_cases h4 : lk i = 32
    · refine wi_ A (h2_ t1 t3) (rv_ 0 (.pointer (some ⟨g1, 0, none⟩)) (fun a ee => execFldJb (k := 0) rfl (ee _) rfl) (rv_ 1 (kv) (fun a ee => execLdLL7 rfl (ee _) (at7 Fg1 rfl)) (rv_ 3 (.pointer (some ⟨adB kv, adO kv + i, none⟩)) (fun a ee => execIdxLs (k := i) (hK.on BB) rfl (ee _) (ee _) lti) (rv_ 4 (xv i) (fun a ee => execLdLs (k := i) (hK.on BB) rfl (ee _) lti) (rv_ 5 (.int .i64 ((lk i : Nat) : Int)) (fun a ee => execLenV (len := lk i) rfl (ee _) (shp (((hK.on BB).cell i lti)))) (rv_ 6 (.bool false) (fun a ee => execDec (execNeN (p := lk i) (q := 32) rfl (ee _) rfl) (decide_eq_false (by omega))) (rf_ [(36, .bool false)] (h2_ t1 t3) ?_)))))))
      rintro a A ⟨t36, -⟩ ⟨t1, t3, -⟩
      refine wp_cond_false t36 ?_
      refine wp_skip ?_
      clear t36
      have hs2 : ∀ k, k < i + 1 → lk k = 32 := fun k hk => by
        by_cases e : k = i
        · subst e; exact h4
        · exact hs k (by omega)
      refine wi_ A (h2_ t1 t3) (rv_ 1 (.int .i64 ((i + 1 : Nat) : Int)) (fun a ee => execAd8 (p := i) (q := 1) rfl (ee _) rfl (by omega)) (rf_ [(3, .int .i64 ((i + 1 : Nat) : Int))] (h1_ t1) ?_))
      rintro a A ⟨t3, -⟩ ⟨t1, -⟩
      exact ⟨⟨i + 1, lti, hs2, A, t1, t3, BB, Fg1⟩, by show h - (intOf (a.eval (.tmp 3))).toNat < h - (intOf (Act.eval _ (.tmp 3))).toNat; rw [t3, esi]; show h - (i + 1) < h - i; omega⟩
    · refine wi_ A (h2_ t1 t3) (rv_ 0 (.pointer (some ⟨g1, 0, none⟩)) (fun a ee => execFldJb (k := 0) rfl (ee _) rfl) (rv_ 1 (kv) (fun a ee => execLdLL7 rfl (ee _) (at7 Fg1 rfl)) (rv_ 3 (.pointer (some ⟨adB kv, adO kv + i, none⟩)) (fun a ee => execIdxLs (k := i) (hK.on BB) rfl (ee _) (ee _) lti) (rv_ 4 (xv i) (fun a ee => execLdLs (k := i) (hK.on BB) rfl (ee _) lti) (rv_ 5 (.int .i64 ((lk i : Nat) : Int)) (fun a ee => execLenV (len := lk i) rfl (ee _) (shp (((hK.on BB).cell i lti)))) (rv_ 6 (.bool true) (fun a ee => execDec (execNeN (p := lk i) (q := 32) rfl (ee _) rfl) (decide_eq_true (by omega))) (rg_ [(36, .bool true)] ?_)))))))
      rintro a A ⟨t36, -⟩
      refine wp_cond_true t36 ?_
      clear t36
      refine wp_seq ?_
      refine wi_ A h0_ (rg_ [(2, .int .i64 ((2 : Nat) : Int))] ?_)
      rintro a A ⟨t2, -⟩
      rw [e0, if_neg (fun hx => h4 ((ksOk_iff h lk).1 hx i lti))]
      refine wp_ret ?_
      repeat (first | with_reducible refine ret_in ?_ | with_reducible refine ret_then ?_)
      refine bodyPost_ret (results_tmp rfl _ _ _) A.2 ⟨?_, BB⟩
      show Ending.returned (a.eval (.tmp 2)) = _
      rw [t2]
  · rw [decide_eq_false lti] at t27
    refine wp_cond_false t27 ?_
    refine wp_exit ?_
    first | with_reducible refine exit_in ?_ | with_reducible refine exit_then (exit_in ?_) | with_reducible refine exit_then (exit_then (exit_in ?_)) | refine exit_in ?_ | refine exit_then (exit_in ?_) | refine exit_then (exit_then (exit_in ?_))
    clear t27 esi
    have ein : i = h := (by omega)
    rw [ein] at hs
    have e1 := e0.trans (if_pos ((ksOk_iff h lk).2 hs))
    refine wp_seq ?_
    refine wp_seq ?_
    by_cases h5 : 48 < n
    · refine wi_ A (h2_ t1 t3) (rv_ 0 (.pointer (some ⟨g1, 2, none⟩)) (fun a ee => execFldJb (k := 2) rfl (ee _) rfl) (rv_ 1 (pv) (fun a ee => execLdL7 rfl (ee _) (at7 Fg1 rfl)) (rv_ 2 (.int .i64 ((n : Nat) : Int)) (fun a ee => execLenV (len := n) rfl (ee _) (shp (hP.on BB))) (rv_ 3 (.bool true) (fun a ee => execDec (execGtN (p := n) (q := 48) rfl (ee _) rfl) (decide_eq_true (by omega))) (rg_ [(40, .bool true)] ?_)))))
      rintro a A ⟨t40, -⟩
      refine wp_cond_true t40 ?_
      clear t40
      refine wp_seq ?_
      refine wi_ A h0_ (rg_ [(2, .int .i64 ((1 : Nat) : Int))] ?_)
      rintro a A ⟨t2, -⟩
      rw [e1, if_pos h5]
      refine wp_ret ?_
      repeat (first | with_reducible refine ret_in ?_ | with_reducible refine ret_then ?_)
      refine bodyPost_ret (results_tmp rfl _ _ _) A.2 ⟨?_, BB⟩
      show Ending.returned (a.eval (.tmp 2)) = _
      rw [t2]
    · refine wi_ A (h2_ t1 t3) (rv_ 0 (.pointer (some ⟨g1, 2, none⟩)) (fun a ee => execFldJb (k := 2) rfl (ee _) rfl) (rv_ 1 (pv) (fun a ee => execLdL7 rfl (ee _) (at7 Fg1 rfl)) (rv_ 2 (.int .i64 ((n : Nat) : Int)) (fun a ee => execLenV (len := n) rfl (ee _) (shp (hP.on BB))) (rv_ 3 (.bool false) (fun a ee => execDec (execGtN (p := n) (q := 48) rfl (ee _) rfl) (decide_eq_false (by omega))) (rg_ [(40, .bool false)] ?_)))))
      rintro a A ⟨t40, -⟩
      refine wp_cond_false t40 ?_
      refine wp_skip ?_
      clear t40
      refine wp_seq ?_
      refine wi_ A h0_ (rg_ [(2, .int .i64 ((0 : Nat) : Int))] ?_)
      rintro a A ⟨t2, -⟩
      rw [e1, if_neg h5]
      refine wp_ret ?_
      repeat (first | with_reducible refine ret_in ?_ | with_reducible refine ret_then ?_)
      refine bodyPost_ret (results_tmp rfl _ _ _) A.2 ⟨?_, BB⟩
      show Ending.returned (a.eval (.tmp 2)) = _
      rw [t2]
end Go.Proofs.YteekoabgbjbabaaGreatDoor.Rpl

namespace Go.Proofs.YteekoabgbjbabaaGreatDoor.Rpl
open Go.RowKit Gf8 Aes By8 Cel Cf Tap Drw Dro Oni Rou
/- ReplyKeeps: regions 0 to 15. Written by tools/mkW8o.py. -/

theorem two_s2 {W : World} {g a b : Nat} (h : W.heap[g]? = some (.cells #[.int .u8 ((a : Nat) : Int), .int .u8 ((b : Nat) : Int)] 5)) (ha : a < 256) (hb : b < 256) : SliceN W (.slice (some ⟨g, 0, none⟩) 2 2) 2 (fun j => if j = 0 then a else b) := Cf.lit_slice h (fun j hj => by match j, hj with | 0, _ => rfl | 1, _ => rfl) (fun j _ => by
  show (if j = 0 then a else b) < 256
  split
  · exact ha
  · exact hb) (by omega)
theorem rmK_lo {p : Nat → Nat} {j : Nat} (hj : j < 32) : p j = rmK p (0 + j) := by rw [Nat.zero_add]; exact (if_pos hj).symm
theorem rmK_hi {p : Nat → Nat} {j : Nat} (hj : j < 2) : (fun j => if j = 0 then 161 else 162) j = rmK p (32 + j) := by
  match j, hj with
  | 0, _ => rfl
  | 1, _ => rfl
theorem rmR_lo {p : Nat → Nat} {n j : Nat} (hj : j < n) : p j = rmR p n (0 + j) := by rw [Nat.zero_add]; exact (if_pos hj).symm
theorem rmR_hi {p : Nat → Nat} {n j : Nat} (hj : j < 2) : (fun j => if j = 0 then 163 else 164) j = rmR p n (n + j) := by
  match j, hj with
  | 0, _ => exact (rmR_0 (p := p) (n := n)).symm
  | 1, _ => exact (rmR_1 (p := p) (n := n)).symm
theorem fx_lo {A : Nat → Nat} {j : Nat} (hj : j < 320) : A j = fxF A (0 + j) := by rw [Nat.zero_add]; exact (if_pos hj).symm
theorem fx_hi {A : Nat → Nat} {j : Nat} (hj : j < 2) : (fun j => if j = 0 then 165 else 166) j = fxF A (320 + j) := by
  match j, hj with
  | 0, _ => rfl
  | 1, _ => rfl
theorem slice_room {W : World} {B g m c k : Nat} {xs : List Value} (h : W.ownsRow B 5 1 (.slice (some ⟨g, 0, none⟩) m c) m xs) (hk : k ≤ m) : k ≤ c := by
  rcases h.2 with ⟨e, _⟩ | ⟨g', c', cur, e, _, _, h3, _⟩
  · cases e
  · injection e with _ _ e3; omega
theorem tgs_nons {W : World} {v : Value} {n : Nat} {q : Nat → Nat → Nat} (h : Nons W v n q) (hn : 0 < n) : Win.Tgs W v n q := by
  obtain ⟨a, c, e, h1, h2, h3⟩ := h.shape
  obtain ⟨b, o, e2, _⟩ := h3 hn
  exact ⟨⟨a, c, e, h1, h2, fun _ => h3 hn⟩, h.by_, fun l c e3 => by rw [e, e2] at e3; cases e3⟩
theorem tg_0 {t q : Nat → Nat → Nat} {n : Nat} : Win.tgV (Win.catT 0 t q) (0 + n) = Win.tgV q n := by
  rw [Nat.zero_add]
  exact Win.tgV_cg n fun j _ => (if_neg (Nat.not_lt_zero j)).trans rfl
theorem own_e16 {W : World} {B : Nat} (t : Nat → Nat → Nat) (h : B ≤ W.heap.size) : (W.alloc (.cells #[] 35)).ownsRow B 35 16 (.slice (some ⟨W.heap.size, 0, none⟩) 0 0) 0 (Win.tgV t 0) := ⟨rfl, Or.inr ⟨W.heap.size, 0, #[], rfl, h, heapNew W _, Nat.le_refl _, by unfold maxLen; omega, rfl, rfl⟩⟩
theorem execBs16 {o : Oper} {a : Act} {w : World} (ho : o.op = .buildSlice 23 0 #[]) : (execOp a.eval o).run Tryz.prog w = .ok (.value (.slice (some ⟨w.heap.size, 0, none⟩) 0 0)) (w.alloc (.cells #[] 35)) := by
  unfold execOp
  simp only [ho]
  simp [go_sem]
theorem rchO {X : World} {h n : Nat} {kv nv pv : Value} {xv : Nat → Value} {key q : Nat → Nat → Nat} {p : Nat → Nat} (hL : Ls X kv h xv (fun _ => 32) key) (hN : Nons X nv h q) (hP : SliceN X pv n p) (hz : ∀ l c, pv = .slice none l c → c = 0) (w1 : 1 ≤ h) (w2 : h ≤ 8) (w5 : n ≤ 48) :
    Calls Tryz.prog 6 #[kv, nv, pv] X fun e w' => ∃ r, e = .returned (.tuple #[r, .int .i64 ((0 : Nat) : Int)]) ∧ SliceN w' r 320 (rwF h (bks key q) q n p) ∧ Below X.heap.size X w' := by
  have hre : rwE h h (fun _ => 32) n = 0 := rwE_is w1 w2 rfl (fun _ _ => rfl) w5
  have hrn : rwN h h (fun _ => 32) n = 320 := if_pos hre
  refine (rchS h h kv nv xv _ key q n p pv X hL hN (by omega) (by omega) hP hz (by omega)).mono ?_
  rintro e w' ⟨r, he, hr, hb⟩
  rw [hre] at he
  rw [hrn] at hr
  exact ⟨r, he, hr, hb⟩
theorem nil_320 {W : World} {v : Value} {A : Nat → Nat} (h : SliceN W v 320 A) : ∀ l c, v = .slice none l c → c = 0 := fun l c e => by
  obtain ⟨a, cap, e1, h1, _, q⟩ := h.shape
  obtain ⟨b, off, e2, _⟩ := q (by omega)
  rw [e1, e2] at e
  cases e
theorem cp_list32 {W : World} {B i a b : Nat} {v : Value} {g cp : Nat → Nat} (h : W.ownsRow B 24 1 v (i + 1) (lL (fun t => .slice (some ⟨g t, 0, none⟩) 32 (cp t)) i ++ (#[.slice (some ⟨a, 0, none⟩) 32 b] : Array Value).toList)) : W.ownsRow B 24 1 v (i + 1) (lL (fun t => .slice (some ⟨(fun t => if t = i then a else g t) t, 0, none⟩) 32 ((fun t => if t = i then b else cp t) t)) (i + 1)) := cp_list (ln := fun _ => 32) h
theorem cp_fam34 {W : World} {B i a b : Nat} {g cp : Nat → Nat} {ff : Nat → Nat → Nat} (h : Fam B (i + 1) (updX (fun t => .slice (some ⟨g t, 0, none⟩) 34 (cp t)) i (.slice (some ⟨a, 0, none⟩) 34 b)) (fun _ => 34) ff W) : Fam B (i + 1) (fun t => .slice (some ⟨(fun t => if t = i then a else g t) t, 0, none⟩) 34 ((fun t => if t = i then b else cp t) t)) (fun _ => 34) ff W := cp_fam (nn := fun _ => 34) h
set_option maxRecDepth 100000 in
set_option maxHeartbeats 4000000 in
/-- ReplyKeeps. -/
theorem keeps27 {G : World → Prop} (I : Impl G) (h hn n : Nat) (kv nv pv : Value) (xv : Nat → Value) (lk : Nat → Nat) (key q : Nat → Nat → Nat) (p : Nat → Nat) (V : World) (hg : ∀ W, Below V.heap.size V W → G W) (hK : Ls V kv h xv lk key) (hN : Nons V nv hn q) (hP : SliceN V pv n p) (hh : h ≤ 140737488351232) (hhn : hn ≤ 140737488351232) (hPz : ∀ l c, pv = .slice none l c → c = 0) (hpn : n ≤ 140737488351232) :
    Calls Tryz.prog 3 #[.agg #[kv, nv, pv]] V fun e w' => e = .returned (.bool true) ∧ Below V.heap.size V w' := by
  go_enter Tryz.func3, Tryz.ntmps3
  by_cases e1 : rwE h hn lk n = 0
  · obtain ⟨w1, w2, w3, w4, w5⟩ := rwE_ok e1
    refine wo_ 369 [(0, .agg #[kv, nv, pv])] ?_
    rintro a A ⟨t0, -⟩
    have BW : Below V.heap.size V V := Below.refl _ _
    have BB := BW
    refine wp_seq ?_
    obtain ⟨g1, egg1⟩ : ∃ z_ : Nat, V.heap.size = z_ := ⟨_, rfl⟩
    refine wi_ A (h1_ t0) (rs_ 0 (fun a ee => ?_))
    refine stepV rfl rfl (execBxJob rfl (ee _)) ⟨.pointer (some ⟨g1, 0, none⟩), ⟨_, rfl, by subst egg1; rfl⟩, fun X0 hX => ?_⟩
    have bQ : Below V.heap.size V X0 := by subst hX egg1; exact (belNew V _)
    have Fg1 : (X0.heap[g1]? = some (.cells #[kv, nv, pv] 26)) := by subst hX egg1; exact heapNew V _
    replace BB := BB.trans (bQ.mono BB.size)
    clear bQ hX egg1 ee a
    refine rg_ [(1, .pointer (some ⟨g1, 0, none⟩))] ?_
    rintro a A ⟨t1, -⟩
    refine wp_seq ?_
    refine wp_seq ?_
    refine wi_ A (h1_ t1) (rc_ 0 (alive27 I X0 (fun W h => hg W ((BB).trans (h.mono (BB).size)))) (cb_ fun X1 bQ => ?_))
    replace Fg1 := (on9 Fg1 bQ)
    replace BB := BB.trans (bQ.mono BB.size)
    clear bQ
    refine rv_ 1 (.bool false) (fun a ee => execNot8 (b := true) rfl (ee _)) (rf_ [(35, .bool false)] (h1_ t1) ?_)
    rintro a A ⟨t35, -⟩ ⟨t1, -⟩
    refine wp_cond_false t35 ?_
    refine wp_skip ?_
    clear t35
    refine wp_seq ?_
    refine wp_seq ?_
    refine wi_ A (h1_ t1) (rv_ 0 (.agg #[kv, nv, pv]) (fun a ee => execLdJob rfl (ee _) Fg1) (rc_ 1 (fit27 h hn n kv nv pv xv lk key q p X1 (hK.on BB) (hN.on BB) (hP.on BB) hh) (cb_ fun X3 bQ => ?_)))
    replace Fg1 := (on9 Fg1 bQ)
    replace BB := BB.trans (bQ.mono BB.size)
    clear bQ
    refine rv_ 2 (.bool false) (fun a ee => execDec (execNeE (p := rwE h hn lk n) (q := 0) rfl (ee _) rfl) (decide_eq_false (by exact fun z_ => z_ e1))) (rf_ [(38, .bool false)] (h1_ t1) ?_)
    rintro a A ⟨t38, -⟩ ⟨t1, -⟩
    refine wp_cond_false t38 ?_
    refine wp_skip ?_
    clear t38
    replace hK := hK.cg (lm := fun _ => 32) (d := key) (fun i hi => ⟨w4 i hi, rfl⟩)
    replace w3 := w3.symm
    subst w3
    refine wp_seq ?_
    refine wi_ A (h1_ t1) (rf_ [(3, .slice none 0 0)] (h1_ t1) ?_)
    rintro a A ⟨t3, -⟩ ⟨t1, -⟩
    refine wp_seq ?_
    refine wp_seq ?_
    refine wi_ A (h2_ t1 t3) (rf_ [(4, .int .i64 ((0 : Nat) : Int))] (h2_ t1 t3) ?_)
    rintro a A ⟨t4, -⟩ ⟨t1, t3, -⟩
    have hK1 := hK.on BB
    have hN1 := hN.on BB
    have hP1 := hP.on BB
    replace BW := BW.trans (BB.mono BW.size)
    clear BB
    have BB : Below X3.heap.size X3 X3 := Below.refl _ _
    have FU : (X3.ownsRow X3.heap.size 24 1 (.slice none 0 0) (0) (lL (fun t => .slice (some ⟨(fun _ => 0) t, 0, none⟩) 32 ((fun _ => 0) t)) (0))) := World.ownsRow_nil _ _ _ _
    have FF : (Fam X3.heap.size (0) (fun t => .slice (some ⟨(fun _ => 0) t, 0, none⟩) 34 ((fun _ => 0) t)) (fun _ => 34) (fun t => rmK (key t)) X3) := Fam.none _ _ _ _ _
    refine wp_block ?_
    refine wp_loop (fun a W => ∃ (i : Nat) (u : Value) (g : Nat → Nat) (cp : Nat → Nat), i ≤ h ∧ (a.tmps.size = 369 ∧ a.defers = []) ∧ a.eval (.tmp 1) = .pointer (some ⟨g1, 0, none⟩) ∧ a.eval (.tmp 3) = u ∧ a.eval (.tmp 4) = .int .i64 ((i : Nat) : Int) ∧ Below X3.heap.size X3 W ∧ (W.ownsRow X3.heap.size 24 1 u (i) (lL (fun t => .slice (some ⟨g t, 0, none⟩) 32 (cp t)) (i))) ∧ (Fam X3.heap.size (i) (fun t => .slice (some ⟨g t, 0, none⟩) 34 (cp t)) (fun _ => 34) (fun t => rmK (key t)) W)) (fun a _ => h - (intOf (a.eval (.tmp 4))).toNat) ⟨0, .slice none 0 0, fun _ => 0, fun _ => 0, Nat.zero_le _, A, t1, t3, t4, BB, FU, FF⟩ ?_
    clear A t1 t3 t4 BB FU FF a
    rintro a XL7 ⟨i, u, g, cp, hi, A, t1, t3, t4, BB, FU, FF⟩
    have esi := t4
    refine wp_seq ?_
    refine wp_seq ?_
    refine wi_ A (h3_ t1 t3 t4) (rv_ 1 (.pointer (some ⟨g1, 0, none⟩)) (fun a ee => execFldJb (k := 0) rfl (ee _) rfl) (rv_ 2 (kv) (fun a ee => execLdLL7 rfl (ee _) (at7 (on9 Fg1 BB) rfl)) (rv_ 3 (.int .i64 ((h : Nat) : Int)) (fun a ee => execLenLL rfl (ee _) (hK1.on BB).shp) (rv_ 4 (.bool (decide (i < h))) (fun a ee => execLtW (p := i) (q := h) rfl (ee _) (ee _)) (rf_ [(43, .bool (decide (i < h)))] (h3_ t1 t3 t4) ?_)))))
    rintro a A ⟨t43, -⟩ ⟨t1, t3, t4, -⟩
    by_cases lti : i < h
    · rw [decide_eq_true lti] at t43
      refine wp_cond_true t43 ?_
      refine wp_skip ?_
      clear t43
      refine wp_seq ?_
      refine wp_block ?_
      have hVs := BB.size
      have FB : Below XL7.heap.size XL7 XL7 := Below.refl _ _
      have FF0 := FF
      clear FF
      refine wp_seq ?_
      obtain ⟨g46, egg46⟩ : ∃ z_ : Nat, XL7.heap.size = z_ := ⟨_, rfl⟩
      refine wi_ A (h3_ t1 t3 t4) (rs_ 0 (fun a ee => ?_))
      refine stepV rfl rfl (Cf.execBs0 rfl) ⟨.slice (some ⟨g46, 0, none⟩) 0 0, ⟨_, rfl, by subst egg46; rfl⟩, fun X9_1 hX => ?_⟩
      have bQ : Below XL7.heap.size XL7 X9_1 := by subst hX egg46; exact (belNew XL7 _)
      have FO : (X9_1.ownsRow XL7.heap.size 5 1 (.slice (some ⟨g46, 0, none⟩) 0 0) (0) (bytesL (0) (rmK (key i)))) := by subst hX egg46; exact own_e0 FB.size
      replace FU := (ownD_below FU bQ)
      replace FB := (FB.trans (bQ.mono FB.size))
      replace BB := BB.trans (bQ.mono BB.size)
      clear bQ hX egg46 ee a
      refine rv_ 1 (.pointer (some ⟨g1, 0, none⟩)) (fun a ee => execFldJb (k := 0) rfl (ee _) rfl) (rv_ 2 (kv) (fun a ee => execLdLL7 rfl (ee _) (at7 (on9 Fg1 BB) rfl)) (rv_ 4 (.pointer (some ⟨adB kv, adO kv + i, none⟩)) (fun a ee => execIdxLs (k := i) (hK1.on BB) rfl (ee _) (ee _) lti) (rv_ 5 (xv i) (fun a ee => execLdLs (k := i) (hK1.on BB) rfl (ee _) lti) (rs_ 6 (fun a ee => ?_)))))
      refine stepAppN (m := 32) (p := rmK (key i)) rfl rfl rfl (ee _) (ee _) FO (slice_cg ((hK1.on BB).cell i lti) (fun j hj => rmK_lo hj)) (hK.nil i lti) (by omega) FB.size fun v52 X9_2 own' gr => ?_
      rw [Nat.zero_add] at own'
      refine ⟨_, ⟨_, rfl, rfl⟩, eqw ?_⟩
      obtain ⟨BB, FU, FB, FO1⟩ : Below X3.heap.size X3 X9_2 ∧ (X9_2.ownsRow X3.heap.size 24 1 u (i) (lL (fun t => .slice (some ⟨g t, 0, none⟩) 32 (cp t)) (i))) ∧ (Below XL7.heap.size XL7 X9_2) ∧ (X9_2.ownsRow XL7.heap.size 5 1 (v52) (32) (bytesL (32) (rmK (key i)))) := ⟨(BB).grown gr (BB).size (fun k hk => Nat.le_trans hVs (FO.lt k hk).1), (ownW_grown FU gr (fun k hk => row_ne8 FO FU (by decide) hk)), (FB.grown gr FB.size (fun k hk => (FO.lt k hk).1)), own'⟩
      clear FO ee a
      obtain ⟨g53, egg53⟩ : ∃ z_ : Nat, X9_2.heap.size = z_ := ⟨_, rfl⟩
      refine rs_ 7 (fun a ee => ?_)
      refine stepV rfl rfl (Cf.execBsU2 rfl) ⟨.slice (some ⟨g53, 0, none⟩) 2 2, ⟨_, rfl, by subst egg53; rfl⟩, fun X9_3 hX => ?_⟩
      have bQ : Below X9_2.heap.size X9_2 X9_3 := by subst hX egg53; exact (belNew X9_2 _)
      have FSe : (SliceN X9_3 (.slice (some ⟨g53, 0, none⟩) 2 2) 2 (fun j => if j = 0 then 161 else 162)) := by subst hX egg53; exact two_s2 (heapNew X9_2 _) (by decide) (by decide)
      replace FU := (ownD_below FU bQ)
      replace FB := (FB.trans (bQ.mono FB.size))
      replace FO1 := (ownsRow_below FO1 bQ)
      replace BB := BB.trans (bQ.mono BB.size)
      clear bQ hX egg53 ee a
      refine rs_ 8 (fun a ee => ?_)
      refine stepAppN (m := 2) (p := rmK (key i)) rfl rfl rfl (ee _) (ee _) FO1 (slice_cg FSe (fun j hj => rmK_hi hj)) (fun _ _ h => by cases h) (by omega) FB.size fun v' X9 own' gr => ?_
      obtain ⟨g54, c54, ev_⟩ := own_some own' (by omega)
      subst ev_
      refine ⟨_, ⟨_, rfl, rfl⟩, eqw ?_⟩
      obtain ⟨BB, FU, FB, FA⟩ : Below X3.heap.size X3 X9 ∧ (X9.ownsRow X3.heap.size 24 1 u (i) (lL (fun t => .slice (some ⟨g t, 0, none⟩) 32 (cp t)) (i))) ∧ (Below XL7.heap.size XL7 X9) ∧ (X9.ownsRow XL7.heap.size 5 1 (.slice (some ⟨g54, 0, none⟩) 34 c54) (34) (bytesL (34) (rmK (key i)))) := ⟨(BB).grown gr (BB).size (fun k hk => Nat.le_trans hVs (FO1.lt k hk).1), (ownW_grown FU gr (fun k hk => row_ne8 FO1 FU (by decide) hk)), (FB.grown gr FB.size (fun k hk => (FO1.lt k hk).1)), own'⟩
      clear FO1 FSe ee a
      refine rf_ [(5, .slice (some ⟨g54, 0, none⟩) 34 c54)] (h3_ t1 t3 t4) ?_
      rintro a A ⟨t5, -⟩ ⟨t1, t3, t4, -⟩
      obtain ⟨g58, egg58⟩ : ∃ z_ : Nat, X9.heap.size = z_ := ⟨_, rfl⟩
      refine wi_ A (h4_ t1 t3 t4 t5) (rv_ 2 (.slice (some ⟨g54, 0, none⟩) 32 c54) (fun a ee => execSlH rfl (ee _) rfl (sl_h8 g54 34 c54 32 (slice_room FA (by omega)) X9)) (rs_ 3 (fun a ee => ?_)))
      refine stepV rfl rfl (Cf.execBsL rfl (ee _) ⟨_, _, _, rfl⟩) ⟨.slice (some ⟨g58, 0, none⟩) 1 1, ⟨_, rfl, by subst egg58; rfl⟩, fun X10_1 hX => ?_⟩
      have bQ : Below X9.heap.size X9 X10_1 := by subst hX egg58; exact (belNew X9 _)
      have Fg58 : (X10_1.heap[g58]? = some (.cells #[.slice (some ⟨g54, 0, none⟩) 32 c54] 24)) := by subst hX egg58; exact heapNew X9 _
      replace FU := (ownD_below FU bQ)
      replace FB := (FB.trans (bQ.mono FB.size))
      replace FA := (ownsRow_below FA bQ)
      replace BB := BB.trans (bQ.mono BB.size)
      clear bQ hX egg58 ee a
      refine rs_ 4 (fun a ee => ?_)
      refine Cf.stepAppLs rfl rfl rfl (ee _) (ee _) FU Fg58 rfl (Dro.one_of ⟨_, _, rfl⟩) (by omega) (BB).size fun v59 X10 own' gr => ⟨_, ⟨_, rfl, rfl⟩, eqw ?_⟩
      obtain ⟨BB, FU2, FF2⟩ : Below X3.heap.size X3 X10 ∧ (X10.ownsRow X3.heap.size 24 1 (v59) (i + 1) (lL (fun t => .slice (some ⟨(fun t => if t = i then g54 else g t) t, 0, none⟩) 32 ((fun t => if t = i then c54 else cp t) t)) (i + 1))) ∧ (Fam X3.heap.size (i + 1) (fun t => .slice (some ⟨(fun t => if t = i then g54 else g t) t, 0, none⟩) 34 ((fun t => if t = i then c54 else cp t) t)) (fun _ => 34) (fun t => rmK (key t)) X10) := ⟨(BB).grown gr (BB).size (fun k hk => (FU.lt k hk).1), cp_list32 own', (cp_fam34 (FF0.add FB hVs FA)).grown FU gr⟩
      clear FU FB FA Fg58 ee a
      refine rf_ [(3, v59)] (h2_ t1 t4) ?_
      rintro a A ⟨t3, -⟩ ⟨t1, t4, -⟩
      refine wi_ A (h3_ t1 t3 t4) (rv_ 1 (.int .i64 ((i + 1 : Nat) : Int)) (fun a ee => execAd8 (p := i) (q := 1) rfl (ee _) rfl (by omega)) (rf_ [(4, .int .i64 ((i + 1 : Nat) : Int))] (h2_ t1 t3) ?_))
      rintro a A ⟨t4, -⟩ ⟨t1, t3, -⟩
      exact ⟨⟨i + 1, v59, (fun t => if t = i then g54 else g t), (fun t => if t = i then c54 else cp t), lti, A, t1, t3, t4, BB, FU2, FF2⟩, by show h - (intOf (a.eval (.tmp 4))).toNat < h - (intOf (Act.eval _ (.tmp 4))).toNat; rw [t4, esi]; show h - (i + 1) < h - i; omega⟩
    · rw [decide_eq_false lti] at t43
      refine wp_cond_false t43 ?_
      refine wp_exit ?_
      first | with_reducible refine exit_in ?_ | with_reducible refine exit_then (exit_in ?_) | with_reducible refine exit_then (exit_then (exit_in ?_)) | refine exit_in ?_ | refine exit_then (exit_in ?_) | refine exit_then (exit_then (exit_in ?_))
      clear t43 esi
      have ei : i = h := by omega
      rw [ei] at FU FF
      have FI : (CpK V.heap.size XL7.heap.size XL7 u h g cp key) := ⟨ownD_base FU BW.size, fam_base FF BW.size, fun t ht => (hK.cell t ht).bytes, fun k hk => (FU.lt k hk).2, fun t ht => ((FF.rows t ht).lt (g t) rfl).2⟩
      clear FU FF
      have hs3 : XL7.heap.size ≤ XL7.heap.size := Nat.le_refl _
      replace hK1 := hK1.on BB
      replace hN1 := hN1.on BB
      replace hP1 := hP1.on BB
      replace Fg1 := (on9 Fg1 BB)
      replace BW := BW.trans (BB.mono BW.size)
      clear BB
      have BB : Below XL7.heap.size XL7 XL7 := Below.refl _ _
      refine wp_seq ?_
      obtain ⟨g60, egg60⟩ : ∃ z_ : Nat, XL7.heap.size = z_ := ⟨_, rfl⟩
      refine wi_ A (h2_ t1 t3) (rs_ 0 (fun a ee => ?_))
      refine stepV rfl rfl (execBs16 rfl) ⟨.slice (some ⟨g60, 0, none⟩) 0 0, ⟨_, rfl, by subst egg60; rfl⟩, fun X11_1 hX => ?_⟩
      have bQ : Below XL7.heap.size XL7 X11_1 := by subst hX egg60; exact (belNew XL7 _)
      have FE : (X11_1.ownsRow XL7.heap.size 35 16 (.slice (some ⟨g60, 0, none⟩) 0 0) 0 (Win.tgV q 0)) := by subst hX egg60; exact own_e16 q (BB).size
      replace BB := BB.trans (bQ.mono BB.size)
      clear bQ hX egg60 ee a
      refine rv_ 1 (.pointer (some ⟨g1, 1, none⟩)) (fun a ee => execFldJb (k := 1) rfl (ee _) rfl) (rv_ 2 (nv) (fun a ee => execLdLA7 rfl (ee _) (at7 (on9 Fg1 BB) rfl)) (rs_ 3 (fun a ee => ?_)))
      refine Win.stepAppT rfl rfl rfl (ee _) (ee _) FE (tgs_nons (hN1.on BB) w1) (by omega) (BB).size fun v63 X11 own' gr => ?_
      rw [tg_0, Nat.zero_add] at own'
      refine ⟨_, ⟨_, rfl, rfl⟩, eqw ?_⟩
      obtain ⟨BB, FO6⟩ : Below XL7.heap.size XL7 X11 ∧ (X11.ownsRow XL7.heap.size 35 16 v63 h (Win.tgV q h)) := ⟨(BB).grown gr (BB).size (fun k hk => (FE.lt k hk).1), own'⟩
      clear FE ee a
      refine rf_ [(6, v63)] (h2_ t1 t3) ?_
      rintro a A ⟨t6, -⟩ ⟨t1, t3, -⟩
      replace hs3 := Nat.le_trans hs3 BB.size
      replace hK1 := hK1.on BB
      replace hN1 := hN1.on BB
      replace hP1 := hP1.on BB
      replace Fg1 := (on9 Fg1 BB)
      replace FI := (FI.on BB)
      replace BW := BW.trans (BB.mono BW.size)
      clear BB
      have BB : Below X11.heap.size X11 X11 := Below.refl _ _
      refine wp_seq ?_
      obtain ⟨g64, egg64⟩ : ∃ z_ : Nat, X11.heap.size = z_ := ⟨_, rfl⟩
      refine wi_ A (h3_ t1 t3 t6) (rs_ 0 (fun a ee => ?_))
      refine stepV rfl rfl (Cf.execBs0 rfl) ⟨.slice (some ⟨g64, 0, none⟩) 0 0, ⟨_, rfl, by subst egg64; rfl⟩, fun X12_1 hX => ?_⟩
      have bQ : Below X11.heap.size X11 X12_1 := by subst hX egg64; exact (belNew X11 _)
      have FQ0 : (X12_1.ownsRow X11.heap.size 5 1 (.slice (some ⟨g64, 0, none⟩) 0 0) (0) (bytesL (0) (rmR p n))) := by subst hX egg64; exact own_e0 (BB).size
      replace BB := BB.trans (bQ.mono BB.size)
      clear bQ hX egg64 ee a
      refine rv_ 1 (.pointer (some ⟨g1, 2, none⟩)) (fun a ee => execFldJb (k := 2) rfl (ee _) rfl) (rv_ 2 (pv) (fun a ee => execLdL7 rfl (ee _) (at7 (on9 Fg1 BB) rfl)) (rs_ 3 (fun a ee => ?_)))
      refine stepAppN (m := n) (p := rmR p n) rfl rfl rfl (ee _) (ee _) FQ0 (slice_cg (hP1.on BB) (fun j hj => rmR_lo hj)) hPz (by omega) (BB).size fun v67 X12_2 own' gr => ?_
      rw [Nat.zero_add] at own'
      refine ⟨_, ⟨_, rfl, rfl⟩, eqw ?_⟩
      obtain ⟨BB, FQ1⟩ : Below X11.heap.size X11 X12_2 ∧ (X12_2.ownsRow X11.heap.size 5 1 v67 (n) (bytesL (n) (rmR p n))) := ⟨(BB).grown gr (BB).size (fun k hk => (FQ0.lt k hk).1), own'⟩
      clear FQ0 ee a
      obtain ⟨g68, egg68⟩ : ∃ z_ : Nat, X12_2.heap.size = z_ := ⟨_, rfl⟩
      refine rs_ 4 (fun a ee => ?_)
      refine stepV rfl rfl (Cf.execBsU2 rfl) ⟨.slice (some ⟨g68, 0, none⟩) 2 2, ⟨_, rfl, by subst egg68; rfl⟩, fun X12_3 hX => ?_⟩
      have bQ : Below X12_2.heap.size X12_2 X12_3 := by subst hX egg68; exact (belNew X12_2 _)
      have FSe : (SliceN X12_3 (.slice (some ⟨g68, 0, none⟩) 2 2) 2 (fun j => if j = 0 then 163 else 164)) := by subst hX egg68; exact two_s2 (heapNew X12_2 _) (by decide) (by decide)
      replace FQ1 := (ownsRow_below FQ1 bQ)
      replace BB := BB.trans (bQ.mono BB.size)
      clear bQ hX egg68 ee a
      refine rs_ 5 (fun a ee => ?_)
      refine stepAppN (m := 2) (p := rmR p n) rfl rfl rfl (ee _) (ee _) FQ1 (slice_cg FSe (fun j hj => rmR_hi hj)) (fun _ _ h => by cases h) (by omega) (BB).size fun v69 X12 own' gr => ⟨_, ⟨_, rfl, rfl⟩, eqw ?_⟩
      obtain ⟨BB, FR0⟩ : Below X11.heap.size X11 X12 ∧ (X12.ownsRow X11.heap.size 5 1 v69 (n + 2) (bytesL (n + 2) (rmR p n))) := ⟨(BB).grown gr (BB).size (fun k hk => (FQ1.lt k hk).1), own'⟩
      clear FQ1 FSe ee a
      refine rf_ [(7, v69)] (h3_ t1 t3 t6) ?_
      rintro a A ⟨t7, -⟩ ⟨t1, t3, t6, -⟩
      have FR : (X12.ownsRow XL7.heap.size 5 1 v69 (n + 2) (bytesL (n + 2) (rmR p n))) := own_base FR0 hs3
      clear FR0
      refine wp_seq ?_
      refine wi_ A (h4_ t1 t3 t6 t7) (rv_ 1 (.pointer (some ⟨g1, 2, none⟩)) (fun a ee => execFldJb (k := 2) rfl (ee _) rfl) (rv_ 2 (pv) (fun a ee => execLdL7 rfl (ee _) (at7 (on9 Fg1 BB) rfl)) (rv_ 3 (.int .i64 ((n : Nat) : Int)) (fun a ee => execLenV (len := n) rfl (ee _) (shp ((hP1.on BB)))) (rv_ 4 (cutH v69 n) (fun a ee => execCutH (k := n) (own_slice FR fun _ _ => rmR_lt hP.bytes) rfl (ee _) (ee _) (by omega)) (rf_ [(8, cutH v69 n)] (h4_ t1 t3 t6 t7) ?_)))))
      rintro a A ⟨t8, -⟩ ⟨t1, t3, t6, t7, -⟩
      refine wp_seq ?_
      refine wi_ A (h5_ t1 t3 t6 t7 t8) (rv_ 0 (.pointer (some ⟨g1, 0, none⟩)) (fun a ee => execFldJb (k := 0) rfl (ee _) rfl) (rv_ 1 (kv) (fun a ee => execLdLL7 rfl (ee _) (at7 (on9 Fg1 BB) rfl)) (rv_ 2 (.pointer (some ⟨g1, 1, none⟩)) (fun a ee => execFldJb (k := 1) rfl (ee _) rfl) (rv_ 3 (nv) (fun a ee => execLdLA7 rfl (ee _) (at7 (on9 Fg1 BB) rfl)) (rv_ 4 (.pointer (some ⟨g1, 2, none⟩)) (fun a ee => execFldJb (k := 2) rfl (ee _) rfl) (rv_ 5 (pv) (fun a ee => execLdL7 rfl (ee _) (at7 (on9 Fg1 BB) rfl)) (rc_ 6 (rchO (hK1.on BB) (hN1.on BB) (hP1.on BB) hPz w1 w2 w5) fun e X14 hh => ?_)))))))
      obtain ⟨v82, he, hk, hb⟩ := hh
      refine ⟨_, he, ?_⟩
      have bQ : Below X12.heap.size X12 X14 := hb
      have FW : (SliceN X14 v82 (320) (rwF h (bks key q) q n p)) := hk
      replace FR := (ownsRow_below FR bQ)
      replace BB := BB.trans (bQ.mono BB.size)
      clear bQ
      refine rf_ [(9, v82)] (h5_ t1 t3 t6 t7 t8) ?_
      rintro a A ⟨t9, -⟩ ⟨t1, t3, t6, t7, t8, -⟩
      replace hs3 := Nat.le_trans hs3 BB.size
      replace hK1 := hK1.on BB
      replace hN1 := hN1.on BB
      replace hP1 := hP1.on BB
      replace Fg1 := (on9 Fg1 BB)
      replace FI := (FI.on BB)
      replace FO6 := (ownD_below FO6 BB)
      replace BW := BW.trans (BB.mono BW.size)
      clear BB
      have BB : Below X14.heap.size X14 X14 := Below.refl _ _
      refine wp_seq ?_
      obtain ⟨g85, egg85⟩ : ∃ z_ : Nat, X14.heap.size = z_ := ⟨_, rfl⟩
      refine wi_ A (h6_ t1 t3 t6 t7 t8 t9) (rs_ 0 (fun a ee => ?_))
      refine stepV rfl rfl (Cf.execBs0 rfl) ⟨.slice (some ⟨g85, 0, none⟩) 0 0, ⟨_, rfl, by subst egg85; rfl⟩, fun X15_1 hX => ?_⟩
      have bQ : Below X14.heap.size X14 X15_1 := by subst hX egg85; exact (belNew X14 _)
      have FQ0 : (X15_1.ownsRow X14.heap.size 5 1 (.slice (some ⟨g85, 0, none⟩) 0 0) (0) (bytesL (0) (fxF (rwF h (bks key q) q n p)))) := by subst hX egg85; exact own_e0 (BB).size
      replace BB := BB.trans (bQ.mono BB.size)
      clear bQ hX egg85 ee a
      refine rs_ 2 (fun a ee => ?_)
      refine stepAppN (m := 320) (p := fxF (rwF h (bks key q) q n p)) rfl rfl rfl (ee _) (ee _) FQ0 (slice_cg (FW.on BB) (fun j hj => fx_lo hj)) (nil_320 (FW.on BB)) (by omega) (BB).size fun v87 X15_2 own' gr => ?_
      rw [Nat.zero_add] at own'
      refine ⟨_, ⟨_, rfl, rfl⟩, eqw ?_⟩
      obtain ⟨BB, FQ1⟩ : Below X14.heap.size X14 X15_2 ∧ (X15_2.ownsRow X14.heap.size 5 1 v87 (320) (bytesL (320) (fxF (rwF h (bks key q) q n p)))) := ⟨(BB).grown gr (BB).size (fun k hk => (FQ0.lt k hk).1), own'⟩
      clear FQ0 ee a
      obtain ⟨g88, egg88⟩ : ∃ z_ : Nat, X15_2.heap.size = z_ := ⟨_, rfl⟩
      refine rs_ 3 (fun a ee => ?_)
      refine stepV rfl rfl (Cf.execBsU2 rfl) ⟨.slice (some ⟨g88, 0, none⟩) 2 2, ⟨_, rfl, by subst egg88; rfl⟩, fun X15_3 hX => ?_⟩
      have bQ : Below X15_2.heap.size X15_2 X15_3 := by subst hX egg88; exact (belNew X15_2 _)
      have FSe : (SliceN X15_3 (.slice (some ⟨g88, 0, none⟩) 2 2) 2 (fun j => if j = 0 then 165 else 166)) := by subst hX egg88; exact two_s2 (heapNew X15_2 _) (by decide) (by decide)
      replace FQ1 := (ownsRow_below FQ1 bQ)
      replace BB := BB.trans (bQ.mono BB.size)
      clear bQ hX egg88 ee a
      refine rs_ 4 (fun a ee => ?_)
      refine stepAppN (m := 2) (p := fxF (rwF h (bks key q) q n p)) rfl rfl rfl (ee _) (ee _) FQ1 (slice_cg FSe (fun j hj => fx_hi hj)) (fun _ _ h => by cases h) (by omega) (BB).size fun v89 X15 own' gr => ⟨_, ⟨_, rfl, rfl⟩, eqw ?_⟩
      obtain ⟨BB, FF0⟩ : Below X14.heap.size X14 X15 ∧ (X15.ownsRow X14.heap.size 5 1 v89 (320 + 2) (bytesL (320 + 2) (fxF (rwF h (bks key q) q n p)))) := ⟨(BB).grown gr (BB).size (fun k hk => (FQ1.lt k hk).1), own'⟩
      clear FQ1 FSe ee a
      refine rf_ [(11, v89)] (h6_ t1 t3 t6 t7 t8 t9) ?_
      rintro a A ⟨t11, -⟩ ⟨t1, t3, t6, t7, t8, t9, -⟩
      exact keepsB I h n kv nv pv xv key q p V hg hK hN hP w1 w2 w5 X15 u v63 v69 v82 v89 g cp g1 XL7.heap.size (BW.trans (BB.mono BW.size)) (FI.on BB) (on9 Fg1 BB) (ownD_below FO6 BB) (ownsRow_below FR BB) (FW.on BB) (own_slice FF0 fun j _ => fx_lt (fun j _ => rw_lt hN.by_ w2 w5 hP.bytes j)) a A t1 t3 t6 t7 t8 t9 t11
  · refine wo_ 369 [(0, .agg #[kv, nv, pv])] ?_
    rintro a A ⟨t0, -⟩
    have BW : Below V.heap.size V V := Below.refl _ _
    have BB := BW
    refine wp_seq ?_
    obtain ⟨g1, egg1⟩ : ∃ z_ : Nat, V.heap.size = z_ := ⟨_, rfl⟩
    refine wi_ A (h1_ t0) (rs_ 0 (fun a ee => ?_))
    refine stepV rfl rfl (execBxJob rfl (ee _)) ⟨.pointer (some ⟨g1, 0, none⟩), ⟨_, rfl, by subst egg1; rfl⟩, fun X0 hX => ?_⟩
    have bQ : Below V.heap.size V X0 := by subst hX egg1; exact (belNew V _)
    have Fg1 : (X0.heap[g1]? = some (.cells #[kv, nv, pv] 26)) := by subst hX egg1; exact heapNew V _
    replace BB := BB.trans (bQ.mono BB.size)
    clear bQ hX egg1 ee a
    refine rg_ [(1, .pointer (some ⟨g1, 0, none⟩))] ?_
    rintro a A ⟨t1, -⟩
    refine wp_seq ?_
    refine wp_seq ?_
    refine wi_ A (h1_ t1) (rc_ 0 (alive27 I X0 (fun W h => hg W ((BB).trans (h.mono (BB).size)))) (cb_ fun X1 bQ => ?_))
    replace Fg1 := (on9 Fg1 bQ)
    replace BB := BB.trans (bQ.mono BB.size)
    clear bQ
    refine rv_ 1 (.bool false) (fun a ee => execNot8 (b := true) rfl (ee _)) (rf_ [(35, .bool false)] (h1_ t1) ?_)
    rintro a A ⟨t35, -⟩ ⟨t1, -⟩
    refine wp_cond_false t35 ?_
    refine wp_skip ?_
    clear t35
    refine wp_seq ?_
    refine wp_seq ?_
    refine wi_ A (h1_ t1) (rv_ 0 (.agg #[kv, nv, pv]) (fun a ee => execLdJob rfl (ee _) Fg1) (rc_ 1 (fit27 h hn n kv nv pv xv lk key q p X1 (hK.on BB) (hN.on BB) (hP.on BB) hh) (cb_ fun X3 bQ => ?_)))
    replace Fg1 := (on9 Fg1 bQ)
    replace BB := BB.trans (bQ.mono BB.size)
    clear bQ
    refine rv_ 2 (.bool true) (fun a ee => execDec (execNeE (p := rwE h hn lk n) (q := 0) rfl (ee _) rfl) (decide_eq_true (by exact e1))) (rf_ [(38, .bool true)] (h1_ t1) ?_)
    rintro a A ⟨t38, -⟩ ⟨t1, -⟩
    refine wp_cond_true t38 ?_
    clear t38
    refine wp_seq ?_
    refine wi_ A (h1_ t1) (rg_ [(2, .bool true)] ?_)
    rintro a A ⟨t2, -⟩
    refine wp_ret ?_
    repeat (first | with_reducible refine ret_in ?_ | with_reducible refine ret_then ?_)
    refine bodyPost_ret (results_tmp rfl _ _ _) A.2 ⟨?_, BB⟩
    show Ending.returned (a.eval (.tmp 2)) = _
    rw [t2]
end Go.Proofs.YteekoabgbjbabaaGreatDoor.Rpl
