import Derived.Test.YtaiiomoajjhliaaDoorW8e
import Derived.Test.YtaiiomoajjhliaaDoorC6
import Derived.Test.YtaiiomoajjhliaaDoorX6n
import Derived.Test.YtaiiomoajjhliaaDoorX5l
import Derived.Test.YtaiiomoajjhliaaDoorP3
namespace Go.Proofs.YtaiiomoajjhliaaDoor.Rpl
open Go.RowKit Gf8 Aes By8 Cel Cf Tap Drw Dro Oni Rou
/- Stage 27: ReplyOpens, ReplyChains, ReplyWraps. Written by tools/mkW8f.py. -/

theorem rwN_lt {h hn n j : Nat} {lk : Nat → Nat} {key q : Nat → Nat → Nat} {p : Nat → Nat} (hq : ∀ i, i < hn → By (q i)) (hp : ∀ j, j < n → p j < 256) (hj : j < rwN h hn lk n) : rwF h (bks key q) q n p j < 256 := by
  by_cases e : rwE h hn lk n = 0
  · obtain ⟨h1, h2, h3, h4, h5⟩ := rwE_ok e
    exact rw_lt (fun i hi => hq i (by omega)) h2 h5 hp j
  · unfold rwN at hj
    rw [if_neg e] at hj
    omega
theorem wrN_lt {key nonce inner : Nat → Nat} {lk n j : Nat} {left : Int} (hno : By nonce) (hi : ∀ j, j < n → inner j < 256) (hj : j < wrN lk left n) : wrF (bk key nonce) nonce left.toNat n inner j < 256 := by
  have hs := sz_le left
  by_cases e : wrE lk left n = 0
  · refine wrF_lt hno ?_ hi j
    unfold wrE at e
    by_cases e1 : lk ≠ 32 ∨ sz left = 0
    · rw [if_pos e1] at e; omega
    · rw [if_neg e1] at e
      by_cases e2 : sz left - 34 < n
      · rw [if_pos e2] at e; omega
      · omega
  · unfold wrN at hj
    rw [if_neg e] at hj
    omega
theorem at7 {W : World} {g k t : Nat} {C : Array Value} {v : Value} (h : W.heap[g]? = some (.cells C t)) (hk : C[k]? = some v) : W.cell? ⟨g, k, none⟩ = some v := by
  rw [cell_of_row _ _ _ _ _ _ h]
  exact hk
section
variable {o : Oper} {a : Act} {w : World} {x : Operand} {b f : Nat} {v : Value}
theorem execLdL7 (ho : o.op = .load 24 x) (hx : a.eval x = .pointer (some ⟨b, f, none⟩)) (hc : w.cell? ⟨b, f, none⟩ = some v) : (execOp a.eval o).run Tryd.prog w = .ok (.value v) w := by
  unfold execOp
  simp only [ho, hx]
  simp [go_sem, hc]
theorem execLdLL7 (ho : o.op = .load 22 x) (hx : a.eval x = .pointer (some ⟨b, f, none⟩)) (hc : w.cell? ⟨b, f, none⟩ = some v) : (execOp a.eval o).run Tryd.prog w = .ok (.value v) w := by
  unfold execOp
  simp only [ho, hx]
  simp [go_sem, hc]
theorem execLdLA7 (ho : o.op = .load 23 x) (hx : a.eval x = .pointer (some ⟨b, f, none⟩)) (hc : w.cell? ⟨b, f, none⟩ = some v) : (execOp a.eval o).run Tryd.prog w = .ok (.value v) w := by
  unfold execOp
  simp only [ho, hx]
  simp [go_sem, hc]
theorem execBxJob {u v w' : Value} (ho : o.op = .box 26 x) (hx : a.eval x = .agg #[u, v, w']) : (execOp a.eval o).run Tryd.prog w = .ok (.value (.pointer (some ⟨w.heap.size, 0, none⟩))) (w.alloc (.cells #[u, v, w'] 26)) := by
  unfold execOp
  simp only [ho, hx]
  simp [go_sem]
theorem execFldJb {k : Nat} (ho : o.op = .fieldAddr 26 x k) (hx : a.eval x = .pointer (some ⟨b, 0, none⟩)) (hk : Nat.blt k 3 = true) : (execOp a.eval o).run Tryd.prog w = .ok (.value (.pointer (some ⟨b, k, none⟩))) w := by
  match k, hk with
  | 0, _ => unfold execOp; simp only [ho, hx]; simp [go_sem]
  | 1, _ => unfold execOp; simp only [ho, hx]; simp [go_sem]
  | 2, _ => unfold execOp; simp only [ho, hx]; simp [go_sem]
end
end Go.Proofs.YtaiiomoajjhliaaDoor.Rpl

namespace Go.Proofs.YtaiiomoajjhliaaDoor.Rpl
open Go.RowKit Gf8 Aes By8 Cel Cf Tap Drw Dro Oni Rou
/- Stage 27: the law's fit. Written by tools/mkW8g.py. -/

section
variable {o : Oper} {a : Act} {w : World} {x : Operand} {b : Nat}
theorem execLdJob {u v y : Value} (ho : o.op = .load 26 x) (hx : a.eval x = .pointer (some ⟨b, 0, none⟩)) (h : w.heap[b]? = some (.cells #[u, v, y] 26)) : (execOp a.eval o).run Tryd.prog w = .ok (.value (.agg #[u, v, y])) w := by
  have h0 := at7 (k := 0) h rfl
  have h1 := at7 (k := 1) h rfl
  have h2 := at7 (k := 2) h rfl
  unfold execOp
  simp only [ho, hx]
  simp [go_sem, h0, h1, h2]
end
set_option maxRecDepth 100000 in
set_option maxHeartbeats 4000000 in
/-- The law's fit. -/
theorem fit27 (h hn n : Nat) (kv nv pv : Value) (xv : Nat → Value) (lk : Nat → Nat) (key q : Nat → Nat → Nat) (p : Nat → Nat) (V : World) (hK : Ls V kv h xv lk key) (hN : Nons V nv hn q) (hP : SliceN V pv n p) (hh : h ≤ 140737488351232) :
    Calls Tryd.prog 7 #[.agg #[kv, nv, pv]] V fun e w' => e = .returned (.int .i64 ((rwE h hn lk n : Nat) : Int)) ∧ Below V.heap.size V w' := by
  go_enter Tryd.func7, Tryd.ntmps7
  refine wo_ 41 [(0, .agg #[kv, nv, pv])] ?_
  rintro a A ⟨t0, -⟩
  have BW : Below V.heap.size V V := Below.refl _ _
  have BB := BW
  refine wp_seq ?_
  obtain ⟨g1, egg1⟩ : ∃ z_ : Nat, V.heap.size = z_ := ⟨_, rfl⟩
  refine wi_ A (h1_ t0) (rs_ 0 (fun a ee => ?_))
  refine stepV rfl rfl (execBxJob rfl (ee _)) ⟨.pointer (some ⟨g1, 0, none⟩), ⟨_, rfl, by subst egg1; rfl⟩, fun X0 hX => ?_⟩
  have bQ : Below V.heap.size V X0 := by subst hX egg1; exact (belNew V _)
  have Fg1 : (X0.heap[g1]? = some (.cells #[kv, nv, pv] 26)) := by subst hX egg1; exact heapNew V _
  replace BB := BB.trans (bQ.mono BB.size)
  clear bQ hX egg1 ee a
  refine rg_ [(1, .pointer (some ⟨g1, 0, none⟩))] ?_
  rintro a A ⟨t1, -⟩
  refine wp_seq ?_
  refine wp_seq ?_
  by_cases h1 : h < 1
  · refine wi_ A (h1_ t1) (rv_ 0 (.pointer (some ⟨g1, 0, none⟩)) (fun a ee => execFldJb (k := 0) rfl (ee _) rfl) (rv_ 1 (kv) (fun a ee => execLdLL7 rfl (ee _) (at7 Fg1 rfl)) (rv_ 2 (.int .i64 ((h : Nat) : Int)) (fun a ee => execLenLL rfl (ee _) (hK.on BB).shp) (rv_ 3 (.bool true) (fun a ee => execDec (execLtW (p := h) (q := 1) rfl (ee _) rfl) (decide_eq_true (by omega))) (rf_ [(22, .bool true)] (h1_ t1) ?_)))))
    rintro a A ⟨t22, -⟩ ⟨t1, -⟩
    refine wp_cond_true t22 ?_
    clear t22
    refine wp_seq ?_
    refine wi_ A (h1_ t1) (rg_ [(2, .int .i64 ((80 : Nat) : Int))] ?_)
    rintro a A ⟨t2, -⟩
    rw [show rwE h hn lk n = 80 from if_pos (by omega)]
    refine wp_ret ?_
    repeat (first | with_reducible refine ret_in ?_ | with_reducible refine ret_then ?_)
    refine bodyPost_ret (results_tmp rfl _ _ _) A.2 ⟨?_, BB⟩
    show Ending.returned (a.eval (.tmp 2)) = _
    rw [t2]
  by_cases h2 : 8 < h
  · refine wi_ A (h1_ t1) (rv_ 0 (.pointer (some ⟨g1, 0, none⟩)) (fun a ee => execFldJb (k := 0) rfl (ee _) rfl) (rv_ 1 (kv) (fun a ee => execLdLL7 rfl (ee _) (at7 Fg1 rfl)) (rv_ 2 (.int .i64 ((h : Nat) : Int)) (fun a ee => execLenLL rfl (ee _) (hK.on BB).shp) (rv_ 3 (.bool false) (fun a ee => execDec (execLtW (p := h) (q := 1) rfl (ee _) rfl) (decide_eq_false (by omega))) (rv_ 5 (.pointer (some ⟨g1, 0, none⟩)) (fun a ee => execFldJb (k := 0) rfl (ee _) rfl) (rv_ 6 (kv) (fun a ee => execLdLL7 rfl (ee _) (at7 Fg1 rfl)) (rv_ 7 (.int .i64 ((h : Nat) : Int)) (fun a ee => execLenLL rfl (ee _) (hK.on BB).shp) (rv_ 8 (.bool true) (fun a ee => execDec (execGtN (p := h) (q := 8) rfl (ee _) rfl) (decide_eq_true (by omega))) (rf_ [(22, .bool true)] (h1_ t1) ?_)))))))))
    rintro a A ⟨t22, -⟩ ⟨t1, -⟩
    refine wp_cond_true t22 ?_
    clear t22
    refine wp_seq ?_
    refine wi_ A (h1_ t1) (rg_ [(2, .int .i64 ((80 : Nat) : Int))] ?_)
    rintro a A ⟨t2, -⟩
    rw [show rwE h hn lk n = 80 from if_pos (by omega)]
    refine wp_ret ?_
    repeat (first | with_reducible refine ret_in ?_ | with_reducible refine ret_then ?_)
    refine bodyPost_ret (results_tmp rfl _ _ _) A.2 ⟨?_, BB⟩
    show Ending.returned (a.eval (.tmp 2)) = _
    rw [t2]
  by_cases h3 : hn ≠ h
  · refine wi_ A (h1_ t1) (rv_ 0 (.pointer (some ⟨g1, 0, none⟩)) (fun a ee => execFldJb (k := 0) rfl (ee _) rfl) (rv_ 1 (kv) (fun a ee => execLdLL7 rfl (ee _) (at7 Fg1 rfl)) (rv_ 2 (.int .i64 ((h : Nat) : Int)) (fun a ee => execLenLL rfl (ee _) (hK.on BB).shp) (rv_ 3 (.bool false) (fun a ee => execDec (execLtW (p := h) (q := 1) rfl (ee _) rfl) (decide_eq_false (by omega))) (rv_ 5 (.pointer (some ⟨g1, 0, none⟩)) (fun a ee => execFldJb (k := 0) rfl (ee _) rfl) (rv_ 6 (kv) (fun a ee => execLdLL7 rfl (ee _) (at7 Fg1 rfl)) (rv_ 7 (.int .i64 ((h : Nat) : Int)) (fun a ee => execLenLL rfl (ee _) (hK.on BB).shp) (rv_ 8 (.bool false) (fun a ee => execDec (execGtN (p := h) (q := 8) rfl (ee _) rfl) (decide_eq_false (by omega))) (rv_ 11 (.pointer (some ⟨g1, 1, none⟩)) (fun a ee => execFldJb (k := 1) rfl (ee _) rfl) (rv_ 12 (nv) (fun a ee => execLdLA7 rfl (ee _) (at7 Fg1 rfl)) (rv_ 13 (.int .i64 ((hn : Nat) : Int)) (fun a ee => execLenNs (hN.on BB) rfl (ee _)) (rv_ 14 (.pointer (some ⟨g1, 0, none⟩)) (fun a ee => execFldJb (k := 0) rfl (ee _) rfl) (rv_ 15 (kv) (fun a ee => execLdLL7 rfl (ee _) (at7 Fg1 rfl)) (rv_ 16 (.int .i64 ((h : Nat) : Int)) (fun a ee => execLenLL rfl (ee _) (hK.on BB).shp) (rv_ 17 (.bool true) (fun a ee => execDec (execNeN (p := hn) (q := h) rfl (ee _) (ee _)) (decide_eq_true (by omega))) (rf_ [(22, .bool true)] (h1_ t1) ?_))))))))))))))))
    rintro a A ⟨t22, -⟩ ⟨t1, -⟩
    refine wp_cond_true t22 ?_
    clear t22
    refine wp_seq ?_
    refine wi_ A (h1_ t1) (rg_ [(2, .int .i64 ((80 : Nat) : Int))] ?_)
    rintro a A ⟨t2, -⟩
    rw [show rwE h hn lk n = 80 from if_pos (by omega)]
    refine wp_ret ?_
    repeat (first | with_reducible refine ret_in ?_ | with_reducible refine ret_then ?_)
    refine bodyPost_ret (results_tmp rfl _ _ _) A.2 ⟨?_, BB⟩
    show Ending.returned (a.eval (.tmp 2)) = _
    rw [t2]
  refine wi_ A (h1_ t1) (rv_ 0 (.pointer (some ⟨g1, 0, none⟩)) (fun a ee => execFldJb (k := 0) rfl (ee _) rfl) (rv_ 1 (kv) (fun a ee => execLdLL7 rfl (ee _) (at7 Fg1 rfl)) (rv_ 2 (.int .i64 ((h : Nat) : Int)) (fun a ee => execLenLL rfl (ee _) (hK.on BB).shp) (rv_ 3 (.bool false) (fun a ee => execDec (execLtW (p := h) (q := 1) rfl (ee _) rfl) (decide_eq_false (by omega))) (rv_ 5 (.pointer (some ⟨g1, 0, none⟩)) (fun a ee => execFldJb (k := 0) rfl (ee _) rfl) (rv_ 6 (kv) (fun a ee => execLdLL7 rfl (ee _) (at7 Fg1 rfl)) (rv_ 7 (.int .i64 ((h : Nat) : Int)) (fun a ee => execLenLL rfl (ee _) (hK.on BB).shp) (rv_ 8 (.bool false) (fun a ee => execDec (execGtN (p := h) (q := 8) rfl (ee _) rfl) (decide_eq_false (by omega))) (rv_ 11 (.pointer (some ⟨g1, 1, none⟩)) (fun a ee => execFldJb (k := 1) rfl (ee _) rfl) (rv_ 12 (nv) (fun a ee => execLdLA7 rfl (ee _) (at7 Fg1 rfl)) (rv_ 13 (.int .i64 ((hn : Nat) : Int)) (fun a ee => execLenNs (hN.on BB) rfl (ee _)) (rv_ 14 (.pointer (some ⟨g1, 0, none⟩)) (fun a ee => execFldJb (k := 0) rfl (ee _) rfl) (rv_ 15 (kv) (fun a ee => execLdLL7 rfl (ee _) (at7 Fg1 rfl)) (rv_ 16 (.int .i64 ((h : Nat) : Int)) (fun a ee => execLenLL rfl (ee _) (hK.on BB).shp) (rv_ 17 (.bool false) (fun a ee => execDec (execNeN (p := hn) (q := h) rfl (ee _) (ee _)) (decide_eq_false (by omega))) (rf_ [(22, .bool false)] (h1_ t1) ?_))))))))))))))))
  rintro a A ⟨t22, -⟩ ⟨t1, -⟩
  refine wp_cond_false t22 ?_
  refine wp_skip ?_
  clear t22
  have e0 : rwE h hn lk n = if ksOk h lk then (if 48 < n then 1 else 0) else 2 := if_neg (by omega)
  refine wp_seq ?_
  refine wp_seq ?_
  refine wi_ A (h1_ t1) (rf_ [(3, .int .i64 ((0 : Nat) : Int))] (h1_ t1) ?_)
  rintro a A ⟨t3, -⟩ ⟨t1, -⟩
  refine wp_block ?_
  refine wp_loop (fun a W => ∃ (i : Nat), i ≤ h ∧ (∀ k, k < i → lk k = 32) ∧ (a.tmps.size = 41 ∧ a.defers = []) ∧ a.eval (.tmp 1) = .pointer (some ⟨g1, 0, none⟩) ∧ a.eval (.tmp 3) = .int .i64 ((i : Nat) : Int) ∧ Below V.heap.size V W ∧ (W.heap[g1]? = some (.cells #[kv, nv, pv] 26))) (fun a _ => h - (intOf (a.eval (.tmp 3))).toNat) ⟨0, Nat.zero_le _, fun k hk => absurd hk (Nat.not_lt_zero k), A, t1, t3, BB, Fg1⟩ ?_
  clear A t1 t3 BB Fg1 a
  rintro a XL4 ⟨i, hi, hs, A, t1, t3, BB, Fg1⟩
  have esi := t3
  refine wp_seq ?_
  refine wp_seq ?_
  refine wi_ A (h2_ t1 t3) (rv_ 1 (.pointer (some ⟨g1, 0, none⟩)) (fun a ee => execFldJb (k := 0) rfl (ee _) rfl) (rv_ 2 (kv) (fun a ee => execLdLL7 rfl (ee _) (at7 Fg1 rfl)) (rv_ 3 (.int .i64 ((h : Nat) : Int)) (fun a ee => execLenLL rfl (ee _) (hK.on BB).shp) (rv_ 4 (.bool (decide (i < h))) (fun a ee => execLtW (p := i) (q := h) rfl (ee _) (ee _)) (rf_ [(27, .bool (decide (i < h)))] (h2_ t1 t3) ?_)))))
  rintro a A ⟨t27, -⟩ ⟨t1, t3, -⟩
  by_cases lti : i < h
  · rw [decide_eq_true lti] at t27
    refine wp_cond_true t27 ?_
    refine wp_skip ?_
    clear t27
    refine wp_seq ?_
    refine wp_block ?_
    refine wp_seq ?_
    by_cases h4 : lk i = 32
    · refine wi_ A (h2_ t1 t3) (rv_ 0 (.pointer (some ⟨g1, 0, none⟩)) (fun a ee => execFldJb (k := 0) rfl (ee _) rfl) (rv_ 1 (kv) (fun a ee => execLdLL7 rfl (ee _) (at7 Fg1 rfl)) (rv_ 3 (.pointer (some ⟨adB kv, adO kv + i, none⟩)) (fun a ee => execIdxLs (k := i) (hK.on BB) rfl (ee _) (ee _) lti) (rv_ 4 (xv i) (fun a ee => execLdLs (k := i) (hK.on BB) rfl (ee _) lti) (rv_ 5 (.int .i64 ((lk i : Nat) : Int)) (fun a ee => execLenV (len := lk i) rfl (ee _) (shp (((hK.on BB).cell i lti)))) (rv_ 6 (.bool false) (fun a ee => execDec (execNeN (p := lk i) (q := 32) rfl (ee _) rfl) (decide_eq_false (by omega))) (rf_ [(36, .bool false)] (h2_ t1 t3) ?_)))))))
      rintro a A ⟨t36, -⟩ ⟨t1, t3, -⟩
      refine wp_cond_false t36 ?_
      refine wp_skip ?_
      clear t36
      have hs2 : ∀ k, k < i + 1 → lk k = 32 := fun k hk => by
        by_cases e : k = i
        · subst e; exact h4
        · exact hs k (by omega)
      refine wi_ A (h2_ t1 t3) (rv_ 1 (.int .i64 ((i + 1 : Nat) : Int)) (fun a ee => execAd8 (p := i) (q := 1) rfl (ee _) rfl (by omega)) (rf_ [(3, .int .i64 ((i + 1 : Nat) : Int))] (h1_ t1) ?_))
      rintro a A ⟨t3, -⟩ ⟨t1, -⟩
      exact ⟨⟨i + 1, lti, hs2, A, t1, t3, BB, Fg1⟩, by show h - (intOf (a.eval (.tmp 3))).toNat < h - (intOf (Act.eval _ (.tmp 3))).toNat; rw [t3, esi]; show h - (i + 1) < h - i; omega⟩
    · refine wi_ A (h2_ t1 t3) (rv_ 0 (.pointer (some ⟨g1, 0, none⟩)) (fun a ee => execFldJb (k := 0) rfl (ee _) rfl) (rv_ 1 (kv) (fun a ee => execLdLL7 rfl (ee _) (at7 Fg1 rfl)) (rv_ 3 (.pointer (some ⟨adB kv, adO kv + i, none⟩)) (fun a ee => execIdxLs (k := i) (hK.on BB) rfl (ee _) (ee _) lti) (rv_ 4 (xv i) (fun a ee => execLdLs (k := i) (hK.on BB) rfl (ee _) lti) (rv_ 5 (.int .i64 ((lk i : Nat) : Int)) (fun a ee => execLenV (len := lk i) rfl (ee _) (shp (((hK.on BB).cell i lti)))) (rv_ 6 (.bool true) (fun a ee => execDec (execNeN (p := lk i) (q := 32) rfl (ee _) rfl) (decide_eq_true (by omega))) (rg_ [(36, .bool true)] ?_)))))))
      rintro a A ⟨t36, -⟩
      refine wp_cond_true t36 ?_
      clear t36
      refine wp_seq ?_
      refine wi_ A h0_ (rg_ [(2, .int .i64 ((2 : Nat) : Int))] ?_)
      rintro a A ⟨t2, -⟩
      rw [e0, if_neg (fun hx => h4 ((ksOk_iff h lk).1 hx i lti))]
      refine wp_ret ?_
      repeat (first | with_reducible refine ret_in ?_ | with_reducible refine ret_then ?_)
      refine bodyPost_ret (results_tmp rfl _ _ _) A.2 ⟨?_, BB⟩
      show Ending.returned (a.eval (.tmp 2)) = _
      rw [t2]
  · rw [decide_eq_false lti] at t27
    refine wp_cond_false t27 ?_
    refine wp_exit ?_
    first | with_reducible refine exit_in ?_ | with_reducible refine exit_then (exit_in ?_) | with_reducible refine exit_then (exit_then (exit_in ?_)) | refine exit_in ?_ | refine exit_then (exit_in ?_) | refine exit_then (exit_then (exit_in ?_))
    clear t27 esi
    have ein : i = h := (by omega)
    rw [ein] at hs
    have e1 := e0.trans (if_pos ((ksOk_iff h lk).2 hs))
    refine wp_seq ?_
    refine wp_seq ?_
    by_cases h5 : 48 < n
    · refine wi_ A (h2_ t1 t3) (rv_ 0 (.pointer (some ⟨g1, 2, none⟩)) (fun a ee => execFldJb (k := 2) rfl (ee _) rfl) (rv_ 1 (pv) (fun a ee => execLdL7 rfl (ee _) (at7 Fg1 rfl)) (rv_ 2 (.int .i64 ((n : Nat) : Int)) (fun a ee => execLenV (len := n) rfl (ee _) (shp (hP.on BB))) (rv_ 3 (.bool true) (fun a ee => execDec (execGtN (p := n) (q := 48) rfl (ee _) rfl) (decide_eq_true (by omega))) (rg_ [(40, .bool true)] ?_)))))
      rintro a A ⟨t40, -⟩
      refine wp_cond_true t40 ?_
      clear t40
      refine wp_seq ?_
      refine wi_ A h0_ (rg_ [(2, .int .i64 ((1 : Nat) : Int))] ?_)
      rintro a A ⟨t2, -⟩
      rw [e1, if_pos h5]
      refine wp_ret ?_
      repeat (first | with_reducible refine ret_in ?_ | with_reducible refine ret_then ?_)
      refine bodyPost_ret (results_tmp rfl _ _ _) A.2 ⟨?_, BB⟩
      show Ending.returned (a.eval (.tmp 2)) = _
      rw [t2]
    · refine wi_ A (h2_ t1 t3) (rv_ 0 (.pointer (some ⟨g1, 2, none⟩)) (fun a ee => execFldJb (k := 2) rfl (ee _) rfl) (rv_ 1 (pv) (fun a ee => execLdL7 rfl (ee _) (at7 Fg1 rfl)) (rv_ 2 (.int .i64 ((n : Nat) : Int)) (fun a ee => execLenV (len := n) rfl (ee _) (shp (hP.on BB))) (rv_ 3 (.bool false) (fun a ee => execDec (execGtN (p := n) (q := 48) rfl (ee _) rfl) (decide_eq_false (by omega))) (rg_ [(40, .bool false)] ?_)))))
      rintro a A ⟨t40, -⟩
      refine wp_cond_false t40 ?_
      refine wp_skip ?_
      clear t40
      refine wp_seq ?_
      refine wi_ A h0_ (rg_ [(2, .int .i64 ((0 : Nat) : Int))] ?_)
      rintro a A ⟨t2, -⟩
      rw [e1, if_neg h5]
      refine wp_ret ?_
      repeat (first | with_reducible refine ret_in ?_ | with_reducible refine ret_then ?_)
      refine bodyPost_ret (results_tmp rfl _ _ _) A.2 ⟨?_, BB⟩
      show Ending.returned (a.eval (.tmp 2)) = _
      rw [t2]
end Go.Proofs.YtaiiomoajjhliaaDoor.Rpl

namespace Go.Proofs.YtaiiomoajjhliaaDoor.Rpl
open Go.RowKit Gf8 Aes By8 Cel Cf Tap Drw Dro Oni Rou
/- Stage 27: ReplyBack. Written by tools/mkW8h.py. -/

theorem chB {G : World → Prop} (I : Impl G) (h hn : Nat) (kv nv : Value) (xv : Nat → Value) (lk : Nat → Nat) (key q : Nat → Nat → Nat) (n : Nat) (p : Nat → Nat) (pv : Value) (V : World) (hG : G V) (hK : Ls V kv h xv lk key) (hN : Nons V nv hn q) (hh : h ≤ 140737488351232) (hhn : hn ≤ 140737488351232) (hP : SliceN V pv n p) (hz : ∀ l c, pv = .slice none l c → c = 0) (hn_ : n ≤ 140737488351232) (E N : Nat) (he : rwE h hn lk n = E) (hN_ : rwN h hn lk n = N) :
    Calls Tryd.prog 6 #[kv, nv, pv] V fun e w' => ∃ r, e = .returned (.tuple #[r, .int .i64 ((E : Nat) : Int)]) ∧ SliceN w' r N (rwF h (bks key q) q n p) ∧ (∀ l c, r = .slice none l c → c = 0) ∧ Below V.heap.size V w' := by
  subst he hN_
  refine (I.chain h hn kv nv xv lk key q n p pv V hG hK hh hN hhn hP hz hn_).mono ?_
  rintro e w' ⟨⟨r, he, hr⟩, hb⟩
  exact ⟨r, he, own_slice hr fun j hj => rwN_lt hN.by_ hP.bytes hj, own_nilI hr, hb⟩
theorem fitB (h hn n : Nat) (kv nv pv : Value) (xv : Nat → Value) (lk : Nat → Nat) (key q : Nat → Nat → Nat) (p : Nat → Nat) (V : World) (hK : Ls V kv h xv lk key) (hN : Nons V nv hn q) (hP : SliceN V pv n p) (hh : h ≤ 140737488351232) (E N : Nat) (he : rwE h hn lk n = E) (_ : rwN h hn lk n = N) :
    Calls Tryd.prog 7 #[.agg #[kv, nv, pv]] V fun e w' => e = .returned (.int .i64 ((E : Nat) : Int)) ∧ Below V.heap.size V w' := by
  subst he
  exact fit27 h hn n kv nv pv xv lk key q p V hK hN hP hh
section
variable {o : Oper} {a : Act} {W : World} {x : Operand} {g f : Nat}
end
end Go.Proofs.YtaiiomoajjhliaaDoor.Rpl
