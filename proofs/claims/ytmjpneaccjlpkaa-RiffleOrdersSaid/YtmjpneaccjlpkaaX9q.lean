import Derived.Test.YtmjpneaccjlpkaaF9c
import Derived.Test.YtmjpneaccjlpkaaF9b
import Derived.Test.YtmjpneaccjlpkaaX9h
import Derived.Test.YtmjpneaccjlpkaaQ9t
import Derived.Test.YtmjpneaccjlpkaaX9p
namespace Go.Proofs.Ytmjpneaccjlpkaa.Rif
open Go.RowKit Gf8 Aes By8 Cel Cf Tap Drw Prm Brd
/- Stage 13's RiffleOrders. Written by tools/mkX9q.py. -/
def bb2 (i j : Nat) : Nat := if j = 0 then i % 256 else i / 256 % 256
def ss2 (i : Nat) : ByteArray := strN (bb2 i) 2
theorem zl_256 {L : Nat} {n ch : Int} {p : Nat → Nat} : zl (riE L n ch p) n.toNat ≤ 256 := by
 by_cases h : riE L n ch p = 0
 ·rw [h, zl_ok]
  have := (ri_ok h).le
  exact this
 ·rw [zl_no h]
  omega
theorem open_ss {W : World} {v : Value} {n : Nat} {s : Nat → ByteArray} (h : SliceS W v n s) (hn : 0 < n) : ∃ b o c, v = .slice (some ⟨b, o, none⟩) n c ∧ b < W.heap.size ∧ ∀ j, j < n → W.cell? ⟨b, o + j, none⟩ = some (.string (s j)) := by
 obtain ⟨a, c, e, _, _, h3⟩ := h.shape
 obtain ⟨b, o, e2, h4, h5⟩ := h3 hn
 subst e2
 exact ⟨b, o, c, e, h4, h5⟩
theorem strsL_succ (n : Nat) (f : Nat → ByteArray) : strsL (n + 1) f = strsL n f ++ [.string (f n)] := by simp [strsL, List.range_succ]
theorem two_slice {W : World} {g i : Nat} (h : W.heap[g]? = some (.cells #[.int .u8 ((i % 256 : Nat) : Int), .int .u8 ((i / 256 % 256 : Nat) : Int)] 5)) : SliceN W (.slice (some ⟨g, 0, none⟩) 2 2) 2 (bb2 i) :=
 lit_slice h (fun j hj => by
  match j, hj with
  | 0, _ => rfl
  | 1, _ => rfl
  | j + 2, h => omega) (fun j hj => by
  match j, hj with
  | 0, _ => exact Nat.mod_lt _ (by decide)
  | 1, _ => exact Nat.mod_lt _ (by decide)
  | j + 2, h => omega) (by decide)
section
variable {o : Oper} {a : Act} {w : World}
theorem execShrI {x : Operand} {n : Nat} (ho : o.op = .binOp .shr 3 x (.const (.int .u64 8)) 33) (hx : a.eval x = .int .i64 (n : Int)) (_hn : n ≤ 300) : (execOp a.eval o).run Try.prog w = .ok (.value (.int .i64 ((n / 256 : Nat) : Int))) w := by
 have e : a.eval (.const (.int .u64 8)) = .int .u64 8 := rfl
 unfold execOp
 simp only [ho, hx, e]
 simp [go_sem]
theorem execBsU2v {x y : Operand} {p q : Int} (ho : o.op = .buildSlice 23 2 #[(0, x), (1, y)]) (hx : a.eval x = .int .u8 p) (hy : a.eval y = .int .u8 q) : (execOp a.eval o).run Try.prog w = .ok (.value (.slice (some ⟨w.heap.size, 0, none⟩) 2 2)) (w.alloc (.cells #[.int .u8 p, .int .u8 q] 5)) := by
 unfold execOp
 simp only [ho, List.map_toArray, List.map_cons, List.map_nil, hx, hy]
 simp [go_sem]
theorem execBsS1 {x : Operand} {s : ByteArray} (ho : o.op = .buildSlice 32 1 #[(0, x)]) (hx : a.eval x = .string s) : (execOp a.eval o).run Try.prog w = .ok (.value (.slice (some ⟨w.heap.size, 0, none⟩) 1 1)) (w.alloc (.cells #[.string s] 9)) := by
 unfold execOp
 simp only [ho, List.map_toArray, List.map_cons, List.map_nil, hx]
 simp [go_sem]
theorem execMkS0 {x : Operand} {n : Nat} (ho : o.op = .makeSlice 32 (.const (.int .i64 0)) x) (hx : a.eval x = .int .i64 (n : Int)) (hn : n ≤ 1000000) : (execOp a.eval o).run Try.prog w = .ok (.value (.slice (some ⟨w.heap.size, 0, none⟩) 0 n)) (w.alloc (.cells (madeCells #[.string ByteArray.empty] n) 9)) := by
 obtain ⟨i, h1, h2, h3, h4⟩ := infoS
 have h := run_make (P := Try.prog) w 32 9 i (.string ByteArray.empty) Try.underlying32 h1 h2 .i64 .i64 0 (n : Int) (by omega) (by omega) (by rw [h4]; omega) (by omega)
 rw [h3, Int.toNat_natCast, Nat.mul_one] at h
 have ec : a.eval (.const (.int .i64 0)) = .int .i64 0 := rfl
 unfold execOp
 simp only [ho, hx, ec, Sem.run_bind, h, Result.andThen_ok, Sem.run_pure]
 rfl
end
theorem own_mkS0 (W : World) (n : Nat) (f : Nat → ByteArray) (hn : n ≤ 1000000) : (W.alloc (.cells (madeCells #[.string ByteArray.empty] n) 9)).ownsRow W.heap.size 9 1 (.slice (some ⟨W.heap.size, 0, none⟩) 0 n) 0 (strsL 0 f) :=
 ⟨rfl, Or.inr ⟨W.heap.size, n, _, rfl, Nat.le_refl _, heapNew W _, Nat.zero_le _, by unfold maxLen; omega, by simp [madeCells], rfl⟩⟩
theorem stepAppSt {ops : Array Oper} {Q : Exit → Act → World → Prop} {K : Act → World → Prop} {j : Nat} {o : Oper} {a : Act} {W : World} {s x : Operand} {B n g : Nat} {v : Value} {f : Nat → ByteArray} (hos : ops[j]? = some o) (hgd : Region.wanted o (yielded ops a.tmps) = true)
  (ho : o.op = .call { callee := .builtin .append, args := #[s, x], argTypes := #[32, 32] }) (hs : a.eval s = v) (hx : a.eval x = .slice (some ⟨g, 0, none⟩) 1 1) (hown : W.ownsRow B 9 1 v n (strsL n f)) (hg : W.heap[g]? = some (.cells #[.string (f n)] 9)) (hn : n + 1 ≤ 1000000) (hB : B ≤ W.heap.size)
  (hK : ∀ v' W', W'.ownsRow B 9 1 v' (n + 1) (strsL (n + 1) f) → W.grownBy W' v.ownBlock → K (a.put o.dst v') W') : wpOp Try.prog ops Q j K a W := by
 obtain ⟨i, i1, i2, i3, i4⟩ := infoS
 obtain ⟨v', W', run, q1, q2⟩ := execAppO (W := W) (news := [.string (f n)]) ho Try.underlying32 i1 i2 i3 i4 rfl (by decide) hs hown hx rfl (fun j u hu => by
  rw [Go.WideShapes.add_plain, cell_of_row _ _ _ _ _ _ hg, Nat.zero_add, ← Array.getElem?_toList]
  exact hu) (fun u hu => by
  obtain rfl := List.mem_singleton.1 hu
  rfl) (by unfold maxLen; omega) (by omega) hB
 rw [← strsL_succ] at q1
 exact stepV hos hgd run (hK v' W' q1 q2)
set_option maxRecDepth 100000 in
set_option maxHeartbeats 4000000 in
theorem orders13 (p : Nat → Nat) (L : Nat) (n ch : Int) (pv : Value) (V : World) (FP : SliceN V pv L p) (hl : L ≤ 140737488351232) :
  Calls Try.prog 4 #[pv, .int .i64 n, .int .i64 ch] V fun e w' => e = .returned (.bool true) ∧ Below V.heap.size V w' := by
 go_enter Try.func4, Try.ntmps4
 refine wp_seq ?_
 refine wo_ 98 [(0, pv), (1, .int .i64 n), (2, .int .i64 ch)] ?_
 rintro a A ⟨t0, t1, t2, -⟩
 refine wi_ A (h3_ t0 t1 t2) (rf_ [] (h3_ t0 t1 t2) ?_)
 rintro a A - ⟨t0, t1, t2, -⟩
 have BW : Below V.heap.size V V := Below.refl _ _
 refine wp_seq (wp_seq ?_)
 refine wi_ A (h3_ t0 t1 t2) (rc_ 0 (alive13 V) (cb_ fun X1 bQ => ?_))
 have bX := bQ
 clear bQ
 refine rv_ 1 (.bool false) (fun a e => execNot8 (b := true) rfl (e _)) (rf_ [(16, .bool false)] (h3_ t0 t1 t2) ?_)
 rintro a A ⟨t16, -⟩ ⟨t0, t1, t2, -⟩
 replace FP := (FP.on bX)
 have ZX1 := bX.size
 replace BW := BW.trans (bX.mono BW.size)
 clear bX
 refine wp_cond_false t16 (wp_skip ?_)
 clear t16
 refine wp_seq ?_
 refine wi_ A (h3_ t0 t1 t2) (rc_ 3 (rorder p L n ch _ X1 FP (by omega)) fun e X3 hh => ?_)
 obtain ⟨v21, he, hk, hb⟩ := hh
 refine ⟨_, he, ?_⟩
 have bQ : Below X1.heap.size X1 X3 := hb
 have Fv21 : (SliceI X3 v21 (zl (riE L n ch p) (n).toNat) (orF L n ch p)) := own_ints hk or_fits
 have bX := bQ
 clear bQ
 refine rf_ [(7, v21), (8, .int .i64 ((riE L n ch p : Nat) : Int))] (h3_ t0 t1 t2) ?_
 rintro a A ⟨t7, t8, -⟩ ⟨t0, t1, t2, -⟩
 replace FP := (FP.on bX)
 have ZX3 := bX.size
 replace BW := BW.trans (bX.mono BW.size)
 clear bX
 refine wp_seq ?_
 refine wi_ A (h5_ t0 t1 t2 t7 t8) (rc_ 3 (porder p L n ch _ X3 FP (by omega)) fun e X4 hh => ?_)
 obtain ⟨v28, he, hk, hb⟩ := hh
 refine ⟨_, he, ?_⟩
 have bQ : Below X3.heap.size X3 X4 := hb
 have Fv28 : (SliceI X4 v28 (zl (riE L n ch p) (n).toNat) (orF L n ch p)) := own_ints hk or_fits
 have bX := bQ
 clear bQ
 refine rf_ [(9, v28), (10, .int .i64 ((riE L n ch p : Nat) : Int))] (h5_ t0 t1 t2 t7 t8) ?_
 rintro a A ⟨t9, t10, -⟩ ⟨t0, t1, t2, t7, t8, -⟩
 replace FP := (FP.on bX)
 replace Fv21 := (Fv21.on bX)
 have ZX4 := bX.size
 replace BW := BW.trans (bX.mono BW.size)
 clear bX
 have hl7 : zl (riE L n ch p) n.toNat ≤ 256 := zl_256
 refine wp_seq (wp_seq ?_)
 refine wi_ A (h7_ t0 t1 t2 t7 t8 t9 t10) (rv_ 2 (.bool false) (fun a e => execDec (execNeN (p := riE L n ch p) (q := riE L n ch p) rfl (e _) (e _)) (decide_eq_false (by omega))) (rc_ 6 (sm_t _ _ (zl (riE L n ch p) (n).toNat) _ _ X4 Fv28 Fv21 (fun j _ => rfl) (by omega)) (cb_ fun X5 bQ => ?_)))
 have bX := bQ
 clear bQ
 refine rv_ 7 (.bool false) (fun a e => execNot8 (b := true) rfl (e _)) (rf_ [(39, .bool false)] (h5_ t0 t1 t2 t7 t8) ?_)
 rintro a A ⟨t39, -⟩ ⟨t0, t1, t2, t7, t8, -⟩
 replace FP := (FP.on bX)
 replace Fv21 := (Fv21.on bX)
 replace Fv28 := (Fv28.on bX)
 have ZX5 := bX.size
 replace BW := BW.trans (bX.mono BW.size)
 clear bX
 refine wp_cond_false t39 (wp_skip ?_)
 clear t39
 refine wp_seq (wp_seq ?_)
 by_cases hn0 : n < 0
 ·refine wi_ A (h5_ t0 t1 t2 t7 t8) (rv_ 1 (.bool true) (fun a e => execLtCt (p := n) (q := 0) rfl (e _) hn0) (rg_ [(45, .bool true)] ?_))
  rintro a A ⟨t45, -⟩
  refine wp_cond_true t45 ?_
  clear t45
  refine wp_seq ?_
  refine wi_ A h0_ (rg_ [(6, .bool true)] ?_)
  rintro a A ⟨t6, -⟩
  refine wp_ret ?_
  repeat (first | with_reducible refine ret_in ?_ | with_reducible refine ret_then ?_)
  refine bodyPost_ret (results_tmp rfl _ _ _) A.2 ⟨?_, BW⟩
  show Ending.returned (a.eval (.tmp 6)) = _
  rw [t6]
 ·by_cases hn3 : 300 < n
  ·refine wi_ A (h5_ t0 t1 t2 t7 t8) (rv_ 1 (.bool false) (fun a e => execLtCf (p := n) (q := 0) rfl (e _) hn0) (rv_ 4 (.bool true) (fun a e => execGtCt (p := n) (q := 300) rfl (e _) hn3) (rg_ [(45, .bool true)] ?_)))
   rintro a A ⟨t45, -⟩
   refine wp_cond_true t45 ?_
   clear t45
   refine wp_seq ?_
   refine wi_ A h0_ (rg_ [(6, .bool true)] ?_)
   rintro a A ⟨t6, -⟩
   refine wp_ret ?_
   repeat (first | with_reducible refine ret_in ?_ | with_reducible refine ret_then ?_)
   refine bodyPost_ret (results_tmp rfl _ _ _) A.2 ⟨?_, BW⟩
   show Ending.returned (a.eval (.tmp 6)) = _
   rw [t6]
  ·refine wi_ A (h5_ t0 t1 t2 t7 t8) (rv_ 1 (.bool false) (fun a e => execLtCf (p := n) (q := 0) rfl (e _) hn0) (rv_ 4 (.bool false) (fun a e => execGtCf (p := n) (q := 300) rfl (e _) hn3) (rf_ [(45, .bool false)] (h5_ t0 t1 t2 t7 t8) ?_)))
   rintro a A ⟨t45, -⟩ ⟨t0, t1, t2, t7, t8, -⟩
   refine wp_cond_false t45 (wp_skip ?_)
   clear t45
   obtain ⟨N, rfl⟩ : ∃ N : Nat, n = N := ⟨n.toNat, by omega⟩
   have hN3 : N ≤ 300 := by omega
   clear Fv28
   have BB : Below X5.heap.size X5 X5 := Below.refl _ _
   refine wp_seq ?_
   obtain ⟨g47, egg47⟩ : ∃ z_ : Nat, X5.heap.size = z_ := ⟨_, rfl⟩
   refine wi_ A (h5_ t0 t1 t2 t7 t8) (rs_ 1 (fun a e => ?_))
   refine stepV rfl rfl (execMkS0 rfl (e _) (by omega)) ⟨.slice (some ⟨g47, 0, none⟩) 0 N, ⟨_, rfl, by subst egg47; rfl⟩, fun X9 hX => ?_⟩
   have bQ : Below X5.heap.size X5 X9 := by subst hX egg47; exact (belNew X5 _)
   have FT : (X9.ownsRow X5.heap.size 9 1 (.slice (some ⟨g47, 0, none⟩) 0 N) (0) (strsL (0) ss2)) := by subst hX egg47; exact ownD_base (own_mkS0 X5 N _ (by omega)) (BB).size
   replace BB := BB.trans (bQ.mono BB.size)
   clear bQ hX egg47 e a
   refine rf_ [(11, .slice (some ⟨g47, 0, none⟩) 0 N)] (h5_ t0 t1 t2 t7 t8) ?_
   rintro a A ⟨t11, -⟩ ⟨t0, t1, t2, t7, t8, -⟩
   refine wp_seq (wp_seq ?_)
   refine wi_ A (h6_ t0 t1 t2 t7 t8 t11) (rf_ [(12, .int .i64 ((0 : Nat) : Int))] (h6_ t0 t1 t2 t7 t8 t11) ?_)
   rintro a A ⟨t12, -⟩ ⟨t0, t1, t2, t7, t8, t11, -⟩
   refine wp_block ?_
   refine wp_loop (fun a W => ∃ (i : Nat) (lv : Value), i ≤ N ∧ (a.tmps.size = 98 ∧ a.defers = []) ∧ a.eval (.tmp 0) = pv ∧ a.eval (.tmp 1) = .int .i64 ((N : Nat) : Int) ∧ a.eval (.tmp 2) = .int .i64 ch ∧ a.eval (.tmp 7) = v21 ∧ a.eval (.tmp 8) = .int .i64 ((riE L ((N : Nat) : Int) ch p : Nat) : Int) ∧ a.eval (.tmp 11) = lv ∧ a.eval (.tmp 12) = .int .i64 ((i : Nat) : Int) ∧ Below X5.heap.size X5 W ∧ (W.ownsRow X5.heap.size 9 1 lv (i) (strsL (i) ss2))) (fun a _ => N - (intOf (a.eval (.tmp 12))).toNat) ⟨0, .slice (some ⟨g47, 0, none⟩) 0 N, Nat.zero_le _, A, t0, t1, t2, t7, t8, t11, t12, BB, FT⟩ ?_
   rintro a XL11 ⟨i, lv, hi, A, t0, t1, t2, t7, t8, t11, t12, BB, FT⟩
   have esi := t12
   refine wp_seq (wp_seq ?_)
   refine wi_ A (h7_ t0 t1 t2 t7 t8 t11 t12) (rv_ 2 (.bool (decide (i < N))) (fun a e => execLtW (p := i) (q := N) rfl (e _) (e _)) (rf_ [(50, .bool (decide (i < N)))] (h7_ t0 t1 t2 t7 t8 t11 t12) ?_))
   rintro a A ⟨t50, -⟩ ⟨t0, t1, t2, t7, t8, t11, t12, -⟩
   by_cases lti : i < N
   ·rw [decide_eq_true lti] at t50
    refine wp_cond_true t50 (wp_skip ?_)
    clear t50
    refine wp_seq (wp_block ?_)
    obtain ⟨g59, egg59⟩ : ∃ z_ : Nat, XL11.heap.size = z_ := ⟨_, rfl⟩
    refine wi_ A (h7_ t0 t1 t2 t7 t8 t11 t12) (rv_ 2 (.int .u8 ((i % 256 : Nat) : Int)) (fun a e => execU8 (n := i) rfl (e _)) (rv_ 4 (.int .i64 ((i / 256 : Nat) : Int)) (fun a e => execShrI (n := i) rfl (e _) (by omega)) (rv_ 5 (.int .u8 ((i / 256 % 256 : Nat) : Int)) (fun a e => execU8 (n := i / 256) rfl (e _)) (rs_ 6 (fun a e => ?_)))))
    refine stepV rfl rfl (execBsU2v rfl (e _) (e _)) ⟨.slice (some ⟨g59, 0, none⟩) 2 2, ⟨_, rfl, by subst egg59; rfl⟩, fun X13_1 hX => ?_⟩
    have bQ : Below XL11.heap.size XL11 X13_1 := by subst hX egg59; exact (belNew XL11 _)
    have F59 : (SliceN X13_1 (.slice (some ⟨g59, 0, none⟩) 2 2) 2 (bb2 i)) := by subst hX egg59; exact two_slice (heapNew XL11 _)
    replace FT := (ownD_below FT bQ)
    replace BB := BB.trans (bQ.mono BB.size)
    clear bQ hX egg59 e a
    obtain ⟨g61, egg61⟩ : ∃ z_ : Nat, X13_1.heap.size = z_ := ⟨_, rfl⟩
    refine rv_ 7 (.string (ss2 i)) (fun a e => By8.execStr rfl (e _) F59) (rs_ 8 (fun a e => ?_))
    refine stepV rfl rfl (execBsS1 rfl (e _)) ⟨.slice (some ⟨g61, 0, none⟩) 1 1, ⟨_, rfl, by subst egg61; rfl⟩, fun X13_2 hX => ?_⟩
    have bQ : Below X13_1.heap.size X13_1 X13_2 := by subst hX egg61; exact (belNew X13_1 _)
    have F61 : (X13_2.heap[g61]? = some (.cells #[.string (ss2 i)] 9)) := by subst hX egg61; exact heapNew X13_1 _
    replace FT := (ownD_below FT bQ)
    replace BB := BB.trans (bQ.mono BB.size)
    clear F59 bQ hX egg61 e a
    refine rs_ 9 (fun a e => ?_)
    refine stepAppSt (f := ss2) rfl rfl rfl (e _) (e _) FT F61 (by omega) (BB).size fun v62 X13 own' gr => ⟨_, ⟨_, rfl, rfl⟩, eqw ?_⟩
    obtain ⟨BB, FT2⟩ : Below X5.heap.size X5 X13 ∧ (X13.ownsRow X5.heap.size 9 1 v62 (i + 1) (strsL (i + 1) ss2)) := ⟨(BB).grown gr (BB).size (fun k hk => (FT.lt k hk).1), own'⟩
    clear FT F61 e a
    refine rf_ [(11, v62)] (h6_ t0 t1 t2 t7 t8 t12) ?_
    rintro a A ⟨t11, -⟩ ⟨t0, t1, t2, t7, t8, t12, -⟩
    refine wi_ A (h7_ t0 t1 t2 t7 t8 t11 t12) (rv_ 1 (.int .i64 ((i + 1 : Nat) : Int)) (fun a e => execAd8 (p := i) (q := 1) rfl (e _) rfl (by omega)) (rf_ [(12, .int .i64 ((i + 1 : Nat) : Int))] (h6_ t0 t1 t2 t7 t8 t11) ?_))
    rintro a A ⟨t12, -⟩ ⟨t0, t1, t2, t7, t8, t11, -⟩
    exact ⟨⟨i + 1, v62, lti, A, t0, t1, t2, t7, t8, t11, t12, BB, FT2⟩, by show N - (intOf (a.eval (.tmp 12))).toNat < N - (intOf (Act.eval _ (.tmp 12))).toNat; rw [t12, esi]; show N - (i + 1) < N - i; omega⟩
   ·rw [decide_eq_false lti] at t50
    refine wp_cond_false t50 ?_
    refine wp_exit ?_
    first | with_reducible refine exit_in ?_ | with_reducible refine exit_then (exit_in ?_) | with_reducible refine exit_then (exit_then (exit_in ?_)) | refine exit_in ?_ | refine exit_then (exit_in ?_) | refine exit_then (exit_then (exit_in ?_))
    clear t50 esi
    have hiN : i = N := by omega
    rw [hiN] at FT
    have FXs : SliceS XL11 lv N ss2 := own_strs FT
    clear FT t12
    replace FP := (FP.on BB)
    replace Fv21 := (Fv21.on BB)
    replace BW := BW.trans (BB.mono BW.size)
    clear BB
    refine wp_seq ?_
    refine wi_ A (h6_ t0 t1 t2 t7 t8 t11) (rc_ 3 (pshuffleS p L N ch ss2 _ _ XL11 FP (by omega) FXs) fun e X14 hh => ?_)
    obtain ⟨v67, he, hk, hb⟩ := hh
    refine ⟨_, he, ?_⟩
    have bQ : Below XL11.heap.size XL11 X14 := hb
    have FU : (SliceS X14 v67 (zl (riE L ((N : Nat) : Int) ch p) N) (fun i => ss2 (orF L ((N : Nat) : Int) ch p i).toNat)) := own_strs hk
    have bX := bQ
    clear bQ
    refine rf_ [(10, .int .i64 ((riE L ((N : Nat) : Int) ch p : Nat) : Int)), (13, v67)] (h3_ t7 t8 t11) ?_
    rintro a A ⟨t10, t13, -⟩ ⟨t7, t8, t11, -⟩
    replace FP := (FP.on bX)
    replace Fv21 := (Fv21.on bX)
    replace FXs := (FXs.on bX)
    have ZX14 := bX.size
    replace BW := BW.trans (bX.mono BW.size)
    clear bX
    replace Fv21 : SliceI X14 v21 (zl (riE L ((N : Nat) : Int) ch p) N) (orF L ((N : Nat) : Int) ch p) := (by have h_ := Fv21; exact h_)
    refine wp_seq (wp_seq ?_)
    refine wi_ A (h5_ t7 t8 t10 t11 t13) (rv_ 2 (.bool false) (fun a e => execDec (execNeN (p := riE L ((N : Nat) : Int) ch p) (q := riE L ((N : Nat) : Int) ch p) rfl (e _) (e _)) (decide_eq_false (by omega))) (rv_ 5 (.int .i64 ((zl (riE L ((N : Nat) : Int) ch p) N : Nat) : Int)) (fun a e => execLenS (len := zl (riE L ((N : Nat) : Int) ch p) N) rfl (e _) FU.shp) (rv_ 7 (.int .i64 ((zl (riE L ((N : Nat) : Int) ch p) N : Nat) : Int)) (fun a e => execLenI (len := zl (riE L ((N : Nat) : Int) ch p) N) rfl (e _) (Fv21).shp) (rv_ 8 (.bool false) (fun a e => execDec (execNeN (p := zl (riE L ((N : Nat) : Int) ch p) N) (q := zl (riE L ((N : Nat) : Int) ch p) N) rfl (e _) (e _)) (decide_eq_false (by omega))) (rf_ [(79, .bool false)] (h3_ t7 t11 t13) ?_)))))
    rintro a A ⟨t79, -⟩ ⟨t7, t11, t13, -⟩
    refine wp_cond_false t79 (wp_skip ?_)
    clear t79
    refine wp_seq (wp_seq ?_)
    by_cases hE : riE L ((N : Nat) : Int) ch p = 0
    ·replace Fv21 : SliceI X14 v21 (N) (orF L ((N : Nat) : Int) ch p) := (by have h_ := Fv21; rw [hE, zl_ok] at h_; exact h_)
     rw [hE, zl_ok] at FU
     have hft := ri_ok hE
     refine wi_ A (h3_ t7 t11 t13) (rf_ [(14, .int .i64 ((0 : Nat) : Int))] (h3_ t7 t11 t13) ?_)
     rintro a A ⟨t14, -⟩ ⟨t7, t11, t13, -⟩
     have BB : Below X14.heap.size X14 X14 := Below.refl _ _
     refine wp_block ?_
     refine wp_loop (fun a W => ∃ (i : Nat), i ≤ N ∧ (a.tmps.size = 98 ∧ a.defers = []) ∧ a.eval (.tmp 7) = v21 ∧ a.eval (.tmp 11) = lv ∧ a.eval (.tmp 13) = v67 ∧ a.eval (.tmp 14) = .int .i64 ((i : Nat) : Int) ∧ Below X14.heap.size X14 W) (fun a _ => N - (intOf (a.eval (.tmp 14))).toNat) ⟨0, Nat.zero_le _, A, t7, t11, t13, t14, BB⟩ ?_
     rintro a XL18 ⟨i, hi, A, t7, t11, t13, t14, BB⟩
     have esi := t14
     refine wp_seq (wp_seq ?_)
     refine wi_ A (h4_ t7 t11 t13 t14) (rv_ 2 (.int .i64 ((N : Nat) : Int)) (fun a e => execLenI (len := N) rfl (e _) ((Fv21.on BB)).shp) (rv_ 3 (.bool (decide (i < N))) (fun a e => execLtW (p := i) (q := N) rfl (e _) (e _)) (rf_ [(83, .bool (decide (i < N)))] (h4_ t7 t11 t13 t14) ?_)))
     rintro a A ⟨t83, -⟩ ⟨t7, t11, t13, t14, -⟩
     by_cases lti : i < N
     ·rw [decide_eq_true lti] at t83
      refine wp_cond_true t83 (wp_skip ?_)
      clear t83
      refine wp_seq (wp_block ?_)
      obtain ⟨oob, ooo, ooc, eoo, hoob, hooc⟩ := open_sl Fv21 (by omega)
      have coo : ∀ k, k < N → ∀ X, Below X14.heap.size X14 X → X.cell? ⟨oob, ooo + k, none⟩ = some (.int .i64 ((orF L ((N : Nat) : Int) ch p) k)) := fun k hk X hX => by rw [cell_below hX hoob]; exact hooc k hk
      have hor := hft.or_lt lti
      obtain ⟨w, ew⟩ : ∃ w : Nat, orF L ((N : Nat) : Int) ch p i = w := ⟨(orF L ((N : Nat) : Int) ch p i).toNat, by omega⟩
      have hwN : w < N := by simp at hor; omega
      obtain ⟨llb, llo, llc, ell, hllb, hllc⟩ := open_ss FU (by omega)
      have cll : ∀ k, k < N → ∀ X, Below X14.heap.size X14 X → X.cell? ⟨llb, llo + k, none⟩ = some (.string ((fun i => ss2 (orF L ((N : Nat) : Int) ch p i).toNat) k)) := fun k hk X hX => by rw [cell_below hX hllb]; exact hllc k hk
      obtain ⟨kkb, kko, kkc, ekk, hkkb, hkkc⟩ := open_ss FXs (by omega)
      have ckk : ∀ k, k < N → ∀ X, Below X14.heap.size X14 X → X.cell? ⟨kkb, kko + k, none⟩ = some (.string ((ss2) k)) := fun k hk X hX => by rw [cell_below hX hkkb]; exact hkkc k hk
      refine wp_seq ?_
      refine wj_ [0, 1, 2, 3, 4, 5, 6, 7, 8, 9, 10, 11] [] [3, 8, 10] [] A (h4_ t7 t11 t13 t14) (fun X20 bD => ?_)
      refine dw_ 2 (.pointer (some ⟨llb, llo + i, none⟩)) (fun a X e => Prm.execIdxS (k := i) rfl ((e _).trans ell) (e _) lti) (dv_ 3 (.string (ss2 w)) (fun a X e hb => Prm.execLdS rfl (e _) ((cll i lti X (BB.trans (hb.mono BB.size))).trans (by show some (Value.string (ss2 (orF L ((N : Nat) : Int) ch p i).toNat)) = _; rw [ew]; rfl))) (dw_ 7 (.pointer (some ⟨oob, ooo + i, none⟩)) (fun a X e => execIdxN (k := i) rfl ((e _).trans eoo) (e _) lti) (dv_ 8 (.int .i64 ((w : Nat) : Int)) (fun a X e hb => execLd3 rfl (e _) ((coo i lti X (BB.trans (hb.mono BB.size))).trans (by rw [ew]))) (dw_ 9 (.pointer (some ⟨kkb, kko + w, none⟩)) (fun a X e => Prm.execIdxS (k := w) rfl ((e _).trans ekk) (e _) hwN) (dv_ 10 (.string (ss2 w)) (fun a X e hb => Prm.execLdS rfl (e _) (ckk w hwN X (BB.trans (hb.mono BB.size)))) (dw_ 11 (.bool false) (fun a X e => By8.execNeqS rfl (e _) (e _)) (dz_ [(97, .bool false)] (h4_ t7 t11 t13 t14) ?_)))))))
      rintro a A ⟨t97, -⟩ ⟨t7, t11, t13, t14, -⟩
      replace BB := BB.trans (bD.mono BB.size)
      clear bD
      refine wp_cond_false t97 (wp_skip ?_)
      clear t97
      refine wi_ A (h4_ t7 t11 t13 t14) (rv_ 1 (.int .i64 ((i + 1 : Nat) : Int)) (fun a e => execAd8 (p := i) (q := 1) rfl (e _) rfl (by omega)) (rf_ [(14, .int .i64 ((i + 1 : Nat) : Int))] (h3_ t7 t11 t13) ?_))
      rintro a A ⟨t14, -⟩ ⟨t7, t11, t13, -⟩
      exact ⟨⟨i + 1, lti, A, t7, t11, t13, t14, BB⟩, by show N - (intOf (a.eval (.tmp 14))).toNat < N - (intOf (Act.eval _ (.tmp 14))).toNat; rw [t14, esi]; show N - (i + 1) < N - i; omega⟩
     ·rw [decide_eq_false lti] at t83
      refine wp_cond_false t83 ?_
      refine wp_exit ?_
      first | with_reducible refine exit_in ?_ | with_reducible refine exit_then (exit_in ?_) | with_reducible refine exit_then (exit_then (exit_in ?_)) | refine exit_in ?_ | refine exit_then (exit_in ?_) | refine exit_then (exit_then (exit_in ?_))
      clear t83 esi
      clear t14
      replace FP := (FP.on BB)
      replace Fv21 := (Fv21.on BB)
      replace FXs := (FXs.on BB)
      replace FU := (FU.on BB)
      replace BW := BW.trans (BB.mono BW.size)
      clear BB
      refine wp_seq ?_
      refine wi_ A (h3_ t7 t11 t13) (rg_ [(6, .bool true)] ?_)
      rintro a A ⟨t6, -⟩
      refine wp_ret ?_
      refine bodyPost_ret (results_tmp rfl _ _ _) A.2 ⟨?_, BW⟩
      show Ending.returned (a.eval (.tmp 6)) = _
      rw [t6]
    ·replace Fv21 : SliceI X14 v21 (0) (orF L ((N : Nat) : Int) ch p) := (by have h_ := Fv21; rw [zl_no hE] at h_; exact h_)
     clear FU
     refine wi_ A (h3_ t7 t11 t13) (rf_ [(14, .int .i64 ((0 : Nat) : Int))] (h3_ t7 t11 t13) ?_)
     rintro a A ⟨t14, -⟩ ⟨t7, t11, t13, -⟩
     have BB : Below X14.heap.size X14 X14 := Below.refl _ _
     refine wp_block ?_
     refine wp_loop (fun a W => ∃ (i : Nat), i ≤ 0 ∧ (a.tmps.size = 98 ∧ a.defers = []) ∧ a.eval (.tmp 7) = v21 ∧ a.eval (.tmp 11) = lv ∧ a.eval (.tmp 13) = v67 ∧ a.eval (.tmp 14) = .int .i64 ((i : Nat) : Int) ∧ Below X14.heap.size X14 W) (fun a _ => 0 - (intOf (a.eval (.tmp 14))).toNat) ⟨0, Nat.zero_le _, A, t7, t11, t13, t14, BB⟩ ?_
     rintro a XL18 ⟨i, hi, A, t7, t11, t13, t14, BB⟩
     have esi := t14
     refine wp_seq (wp_seq ?_)
     refine wi_ A (h4_ t7 t11 t13 t14) (rv_ 2 (.int .i64 ((0 : Nat) : Int)) (fun a e => execLenI (len := 0) rfl (e _) ((Fv21.on BB)).shp) (rv_ 3 (.bool (decide (i < 0))) (fun a e => execLtW (p := i) (q := 0) rfl (e _) (e _)) (rf_ [(83, .bool (decide (i < 0)))] (h4_ t7 t11 t13 t14) ?_)))
     rintro a A ⟨t83, -⟩ ⟨t7, t11, t13, t14, -⟩
     by_cases lti : i < 0
     ·rw [decide_eq_true lti] at t83
      refine wp_cond_true t83 (wp_skip ?_)
      clear t83
      refine wp_seq (wp_block ?_)
      exact absurd lti (Nat.not_lt_zero _)
     ·rw [decide_eq_false lti] at t83
      refine wp_cond_false t83 ?_
      refine wp_exit ?_
      first | with_reducible refine exit_in ?_ | with_reducible refine exit_then (exit_in ?_) | with_reducible refine exit_then (exit_then (exit_in ?_)) | refine exit_in ?_ | refine exit_then (exit_in ?_) | refine exit_then (exit_then (exit_in ?_))
      clear t83 esi
      clear t14
      replace FP := (FP.on BB)
      replace Fv21 := (Fv21.on BB)
      replace FXs := (FXs.on BB)
      replace BW := BW.trans (BB.mono BW.size)
      clear BB
      refine wp_seq ?_
      refine wi_ A (h3_ t7 t11 t13) (rg_ [(6, .bool true)] ?_)
      rintro a A ⟨t6, -⟩
      refine wp_ret ?_
      refine bodyPost_ret (results_tmp rfl _ _ _) A.2 ⟨?_, BW⟩
      show Ending.returned (a.eval (.tmp 6)) = _
      rw [t6]
end Go.Proofs.Ytmjpneaccjlpkaa.Rif
