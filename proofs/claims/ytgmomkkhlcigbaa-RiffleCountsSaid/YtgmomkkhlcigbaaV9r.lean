import Derived.Test.YtgmomkkhlcigbaaP9h
import Derived.Test.YtgmomkkhlcigbaaV9i
import Derived.Test.YtgmomkkhlcigbaaF9b
import Derived.Test.YtgmomkkhlcigbaaF9a
namespace Go.Proofs.Ytgmomkkhlcigbaa.Tap
open Go.RowKit Gf8 Aes By8 Cel Cf
/- What Split answers. -/
def spE (len : Nat) (ch : Int) : Nat := if ch < 1 ∨ 64 < ch then 2 else if len < 18 then 3 else 0
def spC (len : Nat) (ch : Int) : Nat := if spE len ch = 0 then ch.toNat else 0
def spA (len : Nat) (ch : Int) : Nat := if spE len ch = 0 then 18 else 0
def spB (len : Nat) (ch : Int) : Nat := if spE len ch = 0 then (len - 18) / 2 else 0
def spQ (len : Nat) (ch : Int) : Nat := if spE len ch = 0 then (len - 18 - (len - 18) / 2) / ch.toNat else 0
def ptX (nv bv : Value) (x : Nat → Value) : Nat → Value := fun t => if t = 0 then nv else if t = 1 then bv else x (t - 2)
def ptN (ln lb lq : Nat) : Nat → Nat := fun t => if t = 0 then ln else if t = 1 then lb else lq
def ptF (f : Nat → Nat) (ln lb lq : Nat) : Nat → Nat → Nat := fun t j => if t = 0 then f j else if t = 1 then f (ln + j) else f (ln + lb + (t - 2) * lq + j)
structure PtS (W : World) (B n : Nat) (nv bv cv : Value) (x : Nat → Value) (ln lb lq : Nat) (f : Nat → Nat) : Prop where
 own : W.ownsRow B 24 1 cv n (lL x n)
 fam : Fam B (2 + n) (ptX nv bv x) (ptN ln lb lq) (ptF f ln lb lq) W
theorem ownsLL_below {W W' : World} {B n : Nat} {v : Value} {xs : List Value} {t : TypeId} {s : Nat} (h : W.ownsRow B t s v n xs) (hb : Below W.heap.size W W') : W'.ownsRow B t s v n xs := by
 refine ⟨h.1, ?_⟩
 rcases h.2 with h | ⟨g, cap, cur, e, hB, hg, hr⟩
 ·exact Or.inl h
 ·exact Or.inr ⟨g, cap, cur, e, hB, on9 hg hb, hr⟩
theorem PtS.on {W W' : World} {B n : Nat} {nv bv cv : Value} {x : Nat → Value} {ln lb lq : Nat} {f : Nat → Nat} (h : PtS W B n nv bv cv x ln lb lq f) (hb : Below W.heap.size W W') : PtS W' B n nv bv cv x ln lb lq f := ⟨ownsLL_below h.own hb, h.fam.on hb⟩
theorem PtS.base {W : World} {B C n : Nat} {nv bv cv : Value} {x : Nat → Value} {ln lb lq : Nat} {f : Nat → Nat} (h : PtS W C n nv bv cv x ln lb lq f) (hB : B ≤ C) : PtS W B n nv bv cv x ln lb lq f := ⟨ownW_base9 h.own hB, fam_base h.fam hB⟩
theorem pts_none (W : World) (B : Nat) (x : Nat → Value) (f : Nat → Nat) : PtS W B 0 (.slice none 0 0) (.slice none 0 0) (.slice none 0 0) x 0 0 0 f := by
 refine ⟨World.ownsRow_nil _ _ _ _, ⟨fun t ht => ?_, fun s t hs ht _ q h => ?_⟩⟩
 ·have e : t = 0 ∨ t = 1 := by omega
  rcases e with rfl | rfl <;> exact World.ownsRow_nil _ _ _ _
 ·have e : s = 0 ∨ s = 1 := by omega
  rcases e with rfl | rfl <;> cases h
def LiR (R n i : Nat) (x : Nat → Value) (W : World) : Prop := ∃ c, W.heap[R]? = some (.cells c 24) ∧ c.size = n ∧ ∀ t, t < i → c[t]? = some (x t)
theorem LiR.on {R n i : Nat} {x : Nat → Value} {W W' : World} (h : LiR R n i x W) (hb : Below W.heap.size W W') : LiR R n i x W' := by
 obtain ⟨c, h1, h2, h3⟩ := h
 exact ⟨c, on9 h1 hb, h2, h3⟩
theorem LiR.begin (W : World) (n : Nat) (x : Nat → Value) : LiR W.heap.size n 0 x (W.alloc (.cells (madeCells #[.slice none 0 0] n) 24)) := ⟨_, heapNew W _, by simp [madeCells], fun t ht => by omega⟩
theorem LiR.put {R n i : Nat} {x : Nat → Value} {W : World} (h : LiR R n i x W) (hi : i < n) (r : Value) : LiR R n (i + 1) (updX x i r) (W.setCell ⟨R, 0 + i, none⟩ r) := by
 obtain ⟨c, h1, h2, h3⟩ := h
 refine ⟨c.setIfInBounds (0 + i) r, heap4 _ h1, by rw [Array.size_setIfInBounds]; exact h2, fun t ht => ?_⟩
 rw [Array.getElem?_setIfInBounds, Nat.zero_add]
 unfold updX
 by_cases e : i = t
 ·subst e
  rw [if_pos rfl, if_pos rfl, if_pos (by omega)]
 ·rw [if_neg e, if_neg (fun q => e q.symm)]
  exact h3 t (by omega)
theorem LiR.cell {R n i : Nat} {x : Nat → Value} {W : World} (h : LiR R n i x W) {k : Nat} (hk : k < n) : (∃ v, W.cell? ⟨R, k, none⟩ = some v) ∧ W.frozen? ⟨R, k, none⟩ = false := by
 obtain ⟨c, h1, h2, _⟩ := h
 exact ⟨⟨_, by rw [cell_of_row _ _ _ _ _ _ h1]; exact Array.getElem?_eq_getElem (by omega)⟩, frozen4 h1⟩
theorem LiR.own {R n B : Nat} {x : Nat → Value} {W : World} (h : LiR R n n x W) (hB : B ≤ R) (hn : n ≤ 1000) : W.ownsRow B 24 1 (.slice (some ⟨R, 0, none⟩) n n) n (lL x n) := by
 obtain ⟨c, h1, h2, h3⟩ := h
 refine ⟨by rw [lL_len, Nat.mul_one], Or.inr ⟨R, n, c, rfl, hB, h1, Nat.le_refl _, by unfold maxLen; omega, by rw [h2, Nat.mul_one], ?_⟩⟩
 apply List.ext_getElem?
 intro k
 by_cases e : k < n
 ·rw [List.getElem?_take, if_pos (by omega), Array.getElem?_toList, h3 k e, lL_get x n k e]
 ·rw [List.getElem?_eq_none (by simp; omega), List.getElem?_eq_none (by rw [lL_len]; omega)]
theorem fam_setL {B m R k : Nat} {x : Nat → Value} {nn : Nat → Nat} {ff : Nat → Nat → Nat} {W : World} {v : Value} {c : Array Value} (h : Fam B m x nn ff W) (hR : W.heap[R]? = some (.cells c 24)) : Fam B m x nn ff (W.setCell ⟨R, k, none⟩ v) :=
 ⟨fun t ht => by
  have ht2 := h.rows t ht
  refine ⟨ht2.1, ?_⟩
  rcases ht2.2 with e | ⟨g, cap, cur, e, hB, hg, hr⟩
  ·exact Or.inl e
  ·refine Or.inr ⟨g, cap, cur, e, hB, ?_, hr⟩
   rw [heap4o _ hR (fun q => ?_)]
   ·exact hg
   ·subst q
    rw [hR] at hg
    injection hg with hg
    injection hg with _ hg _
    exact absurd hg (by decide), h.dis⟩
section
variable {o : Oper} {a : Act} {w : World}
theorem execQuoN {x y : Operand} {p q : Nat} (ho : o.op = .binOp .quo 3 x y 3) (hx : a.eval x = .int .i64 (p : Int)) (hy : a.eval y = .int .i64 (q : Int)) (hq : 0 < q) (hp : p < 9223372036854775808) : (execOp a.eval o).run Try.prog w = .ok (.value (.int .i64 ((p / q : Nat) : Int))) w := by
 have hl : p / q ≤ p := Nat.div_le_self _ _
 have ew : ∀ k : Nat, k < 9223372036854775808 → IntKind.i64.wrap (k : Int) = (k : Int) := fun k hk => by simp [IntKind.wrap, IntKind.bits, IntKind.signed]; omega
 have ec : (p : Int) / (q : Int) = ((p / q : Nat) : Int) := by simp
 have e2 := ew (p / q) (by omega)
 unfold execOp
 simp only [ho, hx, hy]
 simp [go_sem]
 rw [if_neg (by omega), ec, e2]
theorem execMulN {x y : Operand} {p q : Nat} (ho : o.op = .binOp .mul 3 x y 3) (hx : a.eval x = .int .i64 (p : Int)) (hy : a.eval y = .int .i64 (q : Int)) (h : p * q < 9223372036854775808) : (execOp a.eval o).run Try.prog w = .ok (.value (.int .i64 ((p * q : Nat) : Int))) w := by
 have ew : IntKind.i64.wrap ((p : Int) * q) = ((p * q : Nat) : Int) := by
  rw [← Int.natCast_mul]
  simp [IntKind.wrap, IntKind.bits, IntKind.signed]
  omega
 unfold execOp
 simp only [ho, hx, hy]
 simp [go_sem, ew]
end
end Go.Proofs.Ytgmomkkhlcigbaa.Tap

namespace Go.Proofs.Ytgmomkkhlcigbaa.Tap
open Go.RowKit Gf8 Aes By8 Cel Cf
/- The program's pieces. Written by tools/mkV9r.py. -/
set_option maxRecDepth 100000 in
set_option maxHeartbeats 4000000 in
theorem pieces_any (f : Nat → Nat) (len n : Nat) (v : Value) (V : World) (hv : SliceN V v len f) (hl : len ≤ 140737488351232) (hn0 : 0 < n) (hn : n ≤ 64) (q : Nat) (hq : len / n = q) :
  Calls Try.prog 21 #[v, .int .i64 (n : Int)] V fun e w' => ∃ r x, e = .returned r ∧ w'.ownsRow V.heap.size 24 1 r n (lL x n) ∧ Fam V.heap.size n x (fun _ => q) (fun i j => f (i * q + j)) w' ∧ Below V.heap.size V w' := by
 obtain ⟨ao, cap, rfl, hcl, _⟩ := id hv.shape
 have hql : q ≤ len := by rw [← hq]; exact Nat.div_le_self _ _
 go_enter Try.func21, Try.ntmps21
 refine wp_seq ?_
 refine wo_ 34 [(0, .slice ao len cap), (1, .int .i64 ((n : Nat) : Int))] ?_
 rintro a A ⟨t0, t1, -⟩
 refine wi_ A (h2_ t0 t1) (rf_ [] (h2_ t0 t1) ?_)
 rintro a A - ⟨t0, t1, -⟩
 have BW : Below V.heap.size V V := Below.refl _ _
 have BB := BW
 refine wp_seq ?_
 refine wi_ A (h2_ t0 t1) (rv_ 1 (.int .i64 ((len : Nat) : Int)) (fun a e => execLenV (len := len) rfl (e _) ⟨_, _, rfl⟩) (rv_ 3 (.int .i64 ((q : Nat) : Int)) (fun a e => hq ▸ execQuoN (p := len) (q := n) rfl (e _) (e _) (by omega) (by omega)) (rf_ [(5, .int .i64 ((q : Nat) : Int))] (h2_ t0 t1) ?_)))
 rintro a A ⟨t5, -⟩ ⟨t0, t1, -⟩
 refine wp_seq ?_
 obtain ⟨g6, egg6⟩ : ∃ z_ : Nat, V.heap.size = z_ := ⟨_, rfl⟩
 refine wi_ A (h3_ t0 t1 t5) (rs_ 1 (fun a e => ?_))
 refine stepV rfl rfl (execMkL rfl (e _) (e _) (by omega)) ⟨.slice (some ⟨g6, 0, none⟩) n n, ⟨_, rfl, by subst egg6; rfl⟩, fun X2 hX => ?_⟩
 have bQ : Below V.heap.size V X2 := by subst hX egg6; exact (belNew V _)
 have FR : (LiR g6 n 0 (fun _ => undef) X2) := by subst hX egg6; exact LiR.begin V n _
 have FF : (Fam V.heap.size 0 (fun _ => undef) (fun _ => q) (fun i j => f (i * q + j)) X2) := by subst hX egg6; exact Fam.none _ _ _ _ _
 have Fge6 : (V.heap.size ≤ g6) := by subst hX egg6; exact (BB).size
 replace BB := BB.trans (bQ.mono BB.size)
 clear bQ hX egg6 e a
 refine rf_ [(6, .slice (some ⟨g6, 0, none⟩) n n)] (h3_ t0 t1 t5) ?_
 rintro a A ⟨t6, -⟩ ⟨t0, t1, t5, -⟩
 refine wp_seq (wp_seq ?_)
 refine wi_ A (h4_ t0 t1 t5 t6) (rv_ 1 (.int .i64 ((n : Nat) : Int)) (fun a e => execLenL (len := n) rfl (e _)) (rf_ [(15, .int .i64 ((n : Nat) : Int)), (16, .int .i64 ((0 : Nat) : Int))] (h4_ t0 t1 t5 t6) ?_))
 rintro a A ⟨t15, t16, -⟩ ⟨t0, t1, t5, t6, -⟩
 refine wp_block ?_
 refine wp_loop (fun a W => ∃ (i : Nat) (x : Nat → Value), i ≤ n ∧ ((a.tmps.size = 34 ∧ a.defers = []) ∧ a.eval (.tmp 0) = .slice ao len cap ∧ a.eval (.tmp 1) = .int .i64 ((n : Nat) : Int) ∧ a.eval (.tmp 5) = .int .i64 ((q : Nat) : Int) ∧ a.eval (.tmp 6) = .slice (some ⟨g6, 0, none⟩) n n ∧ a.eval (.tmp 15) = .int .i64 ((n : Nat) : Int) ∧ a.eval (.tmp 16) = .int .i64 ((i : Nat) : Int) ∧ Below V.heap.size V W ∧ LiR g6 n i x W ∧ Fam V.heap.size i x (fun _ => q) (fun i j => f (i * q + j)) W)) (fun a _ => n - (intOf (a.eval (.tmp 16))).toNat) ⟨0, _, by omega, A, t0, t1, t5, t6, t15, t16, BB, FR, FF⟩ ?_
 rintro a XL ⟨i, x, hi, A, t0, t1, t5, t6, t15, t16, BB, FR, FF⟩
 have e16 := t16
 refine wp_seq ?_
 refine wi_ A (h6_ t0 t1 t5 t6 t15 t16) (rv_ 0 (.bool (decide (i < n))) (fun a e => execLtW (p := i) (q := n) rfl (e _) (e _)) (rf_ [(17, .bool (decide (i < n)))] (h6_ t0 t1 t5 t6 t15 t16) ?_))
 rintro a A ⟨t17, -⟩ ⟨t0, t1, t5, t6, t15, t16, -⟩
 refine wp_seq ?_
 by_cases hlt : i < n
 ·rw [decide_eq_true hlt] at t17
  refine wp_cond_true t17 (wp_skip ?_)
  clear t17
  have h1q : i * q ≤ (i + 1) * q := Nat.mul_le_mul_right _ (by omega)
  have h2q : (i + 1) * q ≤ len := Nat.le_trans (Nat.mul_le_mul_right q (show i + 1 ≤ n by omega)) (by rw [← hq]; exact Nat.mul_div_le len n)
  have h3q : (i + 1) * q = i * q + q := by rw [Nat.add_mul, Nat.one_mul]
  have hs : SliceN V (sliced ao (i * q) ((i + 1) * q) cap 1) q (fun j => f (i * q + j)) := by
   have := hv.sub (i * q) ((i + 1) * q) h1q h2q
   rw [show (i + 1) * q - i * q = q by omega] at this
   exact this
  refine wp_seq (wp_block ?_)
  refine wp_seq ?_
  refine wi_ A (h6_ t0 t1 t5 t6 t15 t16) (rf_ [(7, .int .i64 ((i : Nat) : Int))] (h6_ t0 t1 t5 t6 t15 t16) ?_)
  rintro a A ⟨t7, -⟩ ⟨t0, t1, t5, t6, t15, t16, -⟩
  refine wi_ A (h7_ t0 t1 t5 t6 t15 t16 t7) (rv_ 5 (.int .i64 ((i * q : Nat) : Int)) (fun a e => execMulN (p := i) (q := q) rfl (e _) (e _) (by omega)) (rv_ 7 (.int .i64 ((i + 1 : Nat) : Int)) (fun a e => execAd8 (p := i) (q := 1) rfl (e _) rfl (by omega)) (rv_ 9 (.int .i64 (((i + 1) * q : Nat) : Int)) (fun a e => execMulN (p := i + 1) (q := q) rfl (e _) (e _) (by omega)) (rv_ 10 ((sliced ao (i * q) ((i + 1) * q) cap 1)) (fun a e => By8.execSlLH rfl (e _) (e _) (e _) (By8.slice_lh ao len cap (i * q) ((i + 1) * q) h1q (by omega) XL)) (rc_ 11 (clone9 (fun j => f (i * q + j)) q _ XL (hs.on BB) (by omega)) fun e X6_1 hh => ?_)))))
  obtain ⟨v30, he, hown, hb⟩ := hh
  refine ⟨_, he, ?_⟩
  have bQ : Below XL.heap.size XL X6_1 := hb
  have FG : (Fam V.heap.size (i + 1) (updX x i v30) (fun _ => q) (fun i j => f (i * q + j)) X6_1) := FF.add hb (BB).size hown
  have Fsh : (∃ g_ n_ c_, v30 = .slice g_ n_ c_) := (by obtain ⟨g_, c_, e_⟩ := ownQ_shape hown; exact ⟨g_, _, c_, e_⟩)
  replace FR := (FR.on bQ)
  replace BB := BB.trans (bQ.mono BB.size)
  clear FF bQ
  refine rv_ 12 (.pointer (some ⟨g6, 0 + i, none⟩)) (fun a e => Cf.execIdxL (k := i) rfl (e _) (e _) hlt) (rs_ 13 (fun a e => ?_))
  obtain ⟨⟨old, hc⟩, hfz⟩ := FR.cell (show 0 + i < n by omega)
  obtain ⟨c_, hR, _⟩ := id FR
  refine stepS rfl rfl (execStL rfl (e _) (e _) Fsh hc hfz) ⟨_, ⟨_, rfl, rfl⟩, fun X6 hX => ?_⟩
  obtain ⟨BB, FG, FR2⟩ : Below V.heap.size V X6 ∧ (Fam V.heap.size (i + 1) (updX x i v30) (fun _ => q) (fun i j => f (i * q + j)) X6) ∧ (LiR g6 n (i + 1) (updX x i v30) X6) := by subst hX; exact ⟨(BB).setCell Fge6 _, fam_setL FG hR, FR.put hlt _⟩
  clear FR Fsh hX e a
  refine rf_ [] (h6_ t0 t1 t5 t6 t15 t16) ?_
  rintro a A - ⟨t0, t1, t5, t6, t15, t16, -⟩
  refine wi_ A (h6_ t0 t1 t5 t6 t15 t16) (rv_ 0 (.int .i64 ((i + 1 : Nat) : Int)) (fun a e => execAd8 (p := i) (q := 1) rfl (e _) rfl (by omega)) (rf_ [(16, .int .i64 ((i + 1 : Nat) : Int))] (h5_ t0 t1 t5 t6 t15) ?_))
  rintro a A ⟨t16, -⟩ ⟨t0, t1, t5, t6, t15, -⟩
  exact ⟨⟨i + 1, _, hlt, A, t0, t1, t5, t6, t15, t16, BB, FR2, FG⟩, by show n - (intOf (a.eval (.tmp 16))).toNat < n - (intOf (Act.eval _ (.tmp 16))).toNat; rw [t16, e16]; show n - (i + 1) < n - i; omega⟩
 ·rw [decide_eq_false hlt] at t17
  refine wp_cond_false t17 ?_
  refine wp_exit ?_
  first | with_reducible refine exit_in ?_ | with_reducible refine exit_then (exit_in ?_) | with_reducible refine exit_then (exit_then (exit_in ?_)) | refine exit_in ?_ | refine exit_then (exit_in ?_) | refine exit_then (exit_then (exit_in ?_))
  clear t17
  have hin : i = n := by omega
  rw [hin] at FR FF
  refine wp_seq ?_
  refine wi_ A (h6_ t0 t1 t5 t6 t15 t16) (rg_ [(4, .slice (some ⟨g6, 0, none⟩) n n)] ?_)
  rintro a A ⟨t4, -⟩
  refine wp_ret ?_
  refine bodyPost_ret (results_tmp rfl _ _ _) A.2 ⟨_, x, ?_, FR.own Fge6 (by omega), FF, BB⟩
  show Ending.returned (a.eval (.tmp 4)) = _
  rw [t4]
end Go.Proofs.Ytgmomkkhlcigbaa.Tap
