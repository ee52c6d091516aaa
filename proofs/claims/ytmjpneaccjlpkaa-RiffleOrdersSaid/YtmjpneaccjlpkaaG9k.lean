import Derived.Test.YtmjpneaccjlpkaaF9b
import Derived.Test.YtmjpneaccjlpkaaG9e
import Derived.Test.YtmjpneaccjlpkaaZ9a
import Derived.Test.YtmjpneaccjlpkaaF9c
namespace Go.Proofs.Ytmjpneaccjlpkaa.Drw
open Go.RowKit Gf8 Aes By8 Cel Cf Tap
/- The reference's All. Written by tools/mkG9f.py. -/
theorem okA_succ {p : Nat → Nat} {l : Nat} {bs : Nat → Int} {n : Nat} (h : okA p l bs n) (e : dE p l (plA p l bs n) (bs n) = 0) : okA p l bs (n + 1) := fun i hi => by
 by_cases q : i = n
 ·subst q; exact e
 ·exact h i (by omega)
set_option maxRecDepth 100000 in
set_option maxHeartbeats 4000000 in
theorem rall_any (p : Nat → Nat) (l : Nat) (bs : Nat → Int) (n : Nat) (pv bv : Value) (V : World) (hp : SliceN V pv l p) (hl : l ≤ 140737488351232) (hb : SliceI V bv n bs) (hn17 : n ≤ 17592186044416) :
  Calls Try.prog 51 #[pv, bv] V fun e w' => ∃ r, e = .returned (.tuple #[r, .int .i64 ((allK p l bs n : Nat) : Int), .int .i64 ((allE p l bs n : Nat) : Int)]) ∧ w'.ownsRow V.heap.size 3 1 r (allN p l bs n) (intsL (allN p l bs n) (fun i => (dA p l bs i : Int))) ∧ Below V.heap.size V w' := by
 obtain ⟨ia, ic, rfl, -, -, hsh⟩ := id hb.shape
 have FI := hb
 go_enter Try.func51, Try.ntmps51
 refine wp_seq ?_
 refine wo_ 45 [(0, pv), (1, .slice ia n ic)] ?_
 rintro a A ⟨t0, t1, -⟩
 refine wi_ A (h2_ t0 t1) (rf_ [] (h2_ t0 t1) ?_)
 rintro a A - ⟨t0, t1, -⟩
 have BW : Below V.heap.size V V := Below.refl _ _
 have BB := BW
 refine wp_seq (wp_seq ?_)
 refine wi_ A (h2_ t0 t1) (rc_ 1 (wrong_any bs n _ V (FI.on BB) hn17) (cb_ fun X1 bQ => ?_))
 replace BB := BB.trans (bQ.mono BB.size)
 clear bQ
 refine rf_ [(14, .bool (anyB bs n))] (h2_ t0 t1) ?_
 rintro a A ⟨t14, -⟩ ⟨t0, t1, -⟩
 by_cases hw : anyB bs n = true
 ·rw [hw] at t14
  refine wp_cond_true t14 ?_
  refine wp_seq ?_
  refine wi_ A (h2_ t0 t1) (rg_ [(4, .slice none 0 0), (5, .int .i64 ((0 : Nat) : Int)), (6, .int .i64 ((2 : Nat) : Int))] ?_)
  rintro a A ⟨t4, t5, t6, -⟩
  have hE : allE p l bs n = 2 := by unfold allE; rw [if_pos hw]
  have hN : allN p l bs n = 0 := by unfold allN; rw [if_neg (by rw [hE]; decide)]
  have hK : allK p l bs n = 0 := by unfold allK; rw [if_neg (by rw [hE]; decide)]
  rw [hE, hN, hK]
  refine wp_ret ?_
  repeat (first | with_reducible refine ret_in ?_ | with_reducible refine ret_then ?_)
  refine bodyPost_ret (results_tmp3 rfl _ _ _) A.2 ⟨_, ?_, World.ownsRow_nil _ _ _ _, BB⟩
  show Ending.returned (.tuple #[a.eval (.tmp 4), a.eval (.tmp 5), a.eval (.tmp 6)]) = _
  rw [t4, t5, t6]
 ·rw [Bool.eq_false_iff.2 hw] at t14
  refine wp_cond_false t14 (wp_skip ?_)
  clear t14
  have hno := anyB_no (Bool.eq_false_iff.2 hw)
  refine wp_seq ?_
  obtain ⟨g7, egg7⟩ : ∃ z_ : Nat, X1.heap.size = z_ := ⟨_, rfl⟩
  refine wi_ A (h2_ t0 t1) (rv_ 1 (.int .i64 ((n : Nat) : Int)) (fun a e => execLenI (len := n) rfl (e _) ((FI.on BB)).shp) (rs_ 2 (fun a e => ?_)))
  refine stepV rfl rfl (execMkI rfl (e _) hn17) ⟨.slice (some ⟨g7, 0, none⟩) 0 n, ⟨_, rfl, by subst egg7; rfl⟩, fun X3 hX => ?_⟩
  have bQ : Below X1.heap.size X1 X3 := by subst hX egg7; exact (belNew X1 _)
  have FO : (X3.ownsRow V.heap.size 3 1 (.slice (some ⟨g7, 0, none⟩) 0 n) 0 (intsL 0 (fun i => (dA p l bs i : Int)))) := by subst hX egg7; exact ownD_base (own_mkI X1 n _ hn17) (BB).size
  replace BB := BB.trans (bQ.mono BB.size)
  clear bQ hX egg7 e a
  refine rf_ [(7, .slice (some ⟨g7, 0, none⟩) 0 n)] (h2_ t0 t1) ?_
  rintro a A ⟨t7, -⟩ ⟨t0, t1, -⟩
  refine wp_seq ?_
  refine wi_ A (h3_ t0 t1 t7) (rf_ [(8, .int .i64 ((0 : Nat) : Int))] (h3_ t0 t1 t7) ?_)
  rintro a A ⟨t8, -⟩ ⟨t0, t1, t7, -⟩
  refine wp_seq (wp_seq ?_)
  refine wi_ A (h4_ t0 t1 t7 t8) (rf_ [(9, .int .i64 ((0 : Nat) : Int))] (h4_ t0 t1 t7 t8) ?_)
  rintro a A ⟨t9, -⟩ ⟨t0, t1, t7, t8, -⟩
  refine wp_block ?_
  refine wp_loop (fun a W => ∃ (i : Nat) (u : Value), i ≤ n ∧ okA p l bs i ∧ (a.tmps.size = 45 ∧ a.defers = []) ∧ a.eval (.tmp 0) = pv ∧ a.eval (.tmp 1) = .slice ia n ic ∧ a.eval (.tmp 7) = u ∧ a.eval (.tmp 8) = .int .i64 ((plA p l bs i : Nat) : Int) ∧ a.eval (.tmp 9) = .int .i64 ((i : Nat) : Int) ∧ Below V.heap.size V W ∧ W.ownsRow V.heap.size 3 1 u i (intsL i (fun i => (dA p l bs i : Int)))) (fun a _ => n - (intOf (a.eval (.tmp 9))).toNat) ⟨0, _, Nat.zero_le _, (fun i hi => absurd hi (Nat.not_lt_zero _)), A, t0, t1, t7, t8, t9, BB, FO⟩ ?_
  rintro a XL ⟨i, u, hi, hok, A, t0, t1, t7, t8, t9, BB, FO⟩
  have e9 := t9
  refine wp_seq (wp_seq ?_)
  refine wi_ A (h5_ t0 t1 t7 t8 t9) (rv_ 2 (.int .i64 ((n : Nat) : Int)) (fun a e => execLenI (len := n) rfl (e _) ((FI.on BB)).shp) (rv_ 3 (.bool (decide (i < n))) (fun a e => execLtW (p := i) (q := n) rfl (e _) (e _)) (rf_ [(21, .bool (decide (i < n)))] (h5_ t0 t1 t7 t8 t9) ?_)))
  rintro a A ⟨t21, -⟩ ⟨t0, t1, t7, t8, t9, -⟩
  by_cases hlt : i < n
  ·rw [decide_eq_true hlt] at t21
   refine wp_cond_true t21 (wp_skip ?_)
   clear t21
   obtain ⟨ib, io, rfl, hib, hcell⟩ := hsh (by omega)
   have cI : ∀ X, Below V.heap.size V X → X.cell? ⟨ib, io + i, none⟩ = some (.int .i64 (bs i)) := fun X hX => by rw [cell_below hX hib]; exact hcell i hlt
   refine wp_seq (wp_block ?_)
   refine wp_seq ?_
   refine wi_ A (h5_ t0 t1 t7 t8 t9) (rv_ 4 (.pointer (some ⟨ib, io + i, none⟩)) (fun a e => execIdxN (k := i) rfl (e _) (e _) hlt) (rv_ 5 (.int .i64 (bs i)) (fun a e => execLd3 rfl (e _) (cI XL BB)) (rc_ 6 (rbelow_any p l (plA p l bs i) (bs i) _ XL (hp.on BB) hl (plA_le p l bs i)) (cb_ fun X8 bQ => ?_))))
   replace FO := (ownD_below FO bQ)
   replace BB := BB.trans (bQ.mono BB.size)
   clear bQ
   refine rf_ [(10, .int .i64 ((dV p l (plA p l bs i) (bs i) : Nat) : Int)), (11, .int .i64 ((dN p l (plA p l bs i) (bs i) : Nat) : Int)), (12, .int .i64 ((dE p l (plA p l bs i) (bs i) : Nat) : Int))] (h5_ t0 t1 t7 t8 t9) ?_
   rintro a A ⟨t10, t11, t12, -⟩ ⟨t0, t1, t7, t8, t9, -⟩
   refine wp_seq (wp_seq ?_)
   refine wi_ A (h8_ t0 t1 t7 t8 t9 t10 t11 t12) (rv_ 1 (.bool (decide (dE p l (plA p l bs i) (bs i) ≠ 0))) (fun a e => execNeN (p := dE p l (plA p l bs i) (bs i)) (q := 0) rfl (e _) rfl) (rf_ [(36, .bool (decide (dE p l (plA p l bs i) (bs i) ≠ 0)))] (h8_ t0 t1 t7 t8 t9 t10 t11 t12) ?_))
   rintro a A ⟨t36, -⟩ ⟨t0, t1, t7, t8, t9, t10, t11, t12, -⟩
   by_cases hE0 : dE p l (plA p l bs i) (bs i) = 0
   ·rw [decide_eq_false (by omega)] at t36
    refine wp_cond_false t36 (wp_skip ?_)
    clear t36
    refine wp_seq ?_
    obtain ⟨g40, egg40⟩ : ∃ z_ : Nat, X8.heap.size = z_ := ⟨_, rfl⟩
    refine wi_ A (h8_ t0 t1 t7 t8 t9 t10 t11 t12) (rs_ 2 (fun a e => ?_))
    refine stepV rfl rfl (execBsI (z := ((dA p l bs i : Nat) : Int)) rfl (e _)) ⟨.slice (some ⟨g40, 0, none⟩) 1 1, ⟨_, rfl, by subst egg40; rfl⟩, fun X11_1 hX => ?_⟩
    have bQ : Below X8.heap.size X8 X11_1 := by subst hX egg40; exact (belNew X8 _)
    have F40 : (X11_1.heap[g40]? = some (.cells #[.int .i64 ((dA p l bs i : Nat) : Int)] 3)) := by subst hX egg40; exact heapNew X8 _
    replace FO := (ownD_below FO bQ)
    replace BB := BB.trans (bQ.mono BB.size)
    clear bQ hX egg40 e a
    refine rs_ 3 (fun a e => ?_)
    refine stepAppI (f := fun i => (dA p l bs i : Int)) rfl rfl rfl (e _) (e _) FO F40 (by omega) (BB).size fun v41 X11 own' gr => ⟨_, ⟨_, rfl, rfl⟩, eqw ?_⟩
    obtain ⟨BB, FO2⟩ : Below V.heap.size V X11 ∧ (X11.ownsRow V.heap.size 3 1 v41 (i + 1) (intsL (i + 1) (fun i => (dA p l bs i : Int)))) := ⟨(BB).grown gr (BB).size (fun k hk => (FO.lt k hk).1), own'⟩
    clear FO F40 e a
    refine rf_ [(7, v41)] (h5_ t0 t1 t8 t9 t11) ?_
    rintro a A ⟨t7, -⟩ ⟨t0, t1, t8, t9, t11, -⟩
    refine wi_ A (h6_ t0 t1 t7 t8 t9 t11) (rf_ [(8, .int .i64 ((dN p l (plA p l bs i) (bs i) : Nat) : Int))] (h4_ t0 t1 t7 t9) ?_)
    rintro a A ⟨t8, -⟩ ⟨t0, t1, t7, t9, -⟩
    refine wi_ A (h5_ t0 t1 t7 t8 t9) (rv_ 1 (.int .i64 ((i + 1 : Nat) : Int)) (fun a e => execAd8 (p := i) (q := 1) rfl (e _) rfl (by omega)) (rf_ [(9, .int .i64 ((i + 1 : Nat) : Int))] (h4_ t0 t1 t7 t8) ?_))
    rintro a A ⟨t9, -⟩ ⟨t0, t1, t7, t8, -⟩
    exact ⟨⟨i + 1, _, hlt, okA_succ hok hE0, A, t0, t1, t7, t8, t9, BB, FO2⟩, by show n - (intOf (a.eval (.tmp 9))).toNat < n - (intOf (Act.eval _ (.tmp 9))).toNat; rw [t9, e9]; show n - (i + 1) < n - i; omega⟩
   ·rw [decide_eq_true hE0] at t36
    refine wp_cond_true t36 ?_
    refine wp_seq ?_
    refine wi_ A (h8_ t0 t1 t7 t8 t9 t10 t11 t12) (rg_ [(4, .slice none 0 0), (5, .int .i64 ((0 : Nat) : Int)), (6, .int .i64 ((dE p l (plA p l bs i) (bs i) : Nat) : Int))] ?_)
    rintro a A ⟨t4, t5, t6, -⟩
    have hE3 : dE p l (plA p l bs i) (bs i) = 3 := (dE_good (hno i hlt)).resolve_left hE0
    rw [hE3] at t6
    have hE : allE p l bs n = 3 := by unfold allE; rw [if_neg hw, if_neg (fun q => hE0 (okB_iff.1 q i hlt))]
    have hN : allN p l bs n = 0 := by unfold allN; rw [if_neg (by rw [hE]; decide)]
    have hK : allK p l bs n = 0 := by unfold allK; rw [if_neg (by rw [hE]; decide)]
    rw [hE, hN, hK]
    refine wp_ret ?_
    repeat (first | with_reducible refine ret_in ?_ | with_reducible refine ret_then ?_)
    refine bodyPost_ret (results_tmp3 rfl _ _ _) A.2 ⟨_, ?_, World.ownsRow_nil _ _ _ _, BB⟩
    show Ending.returned (.tuple #[a.eval (.tmp 4), a.eval (.tmp 5), a.eval (.tmp 6)]) = _
    rw [t4, t5, t6]
  ·rw [decide_eq_false hlt] at t21
   refine wp_cond_false t21 ?_
   refine wp_exit ?_
   first | with_reducible refine exit_in ?_ | with_reducible refine exit_then (exit_in ?_) | with_reducible refine exit_then (exit_then (exit_in ?_)) | refine exit_in ?_ | refine exit_then (exit_in ?_) | refine exit_then (exit_then (exit_in ?_))
   clear t21
   have hin : i = n := by omega
   rw [hin] at hok FO t8
   refine wp_seq ?_
   refine wi_ A (h5_ t0 t1 t7 t8 t9) (rg_ [(4, u), (5, .int .i64 ((plA p l bs n : Nat) : Int)), (6, .int .i64 ((0 : Nat) : Int))] ?_)
   rintro a A ⟨t4, t5, t6, -⟩
   have hE : allE p l bs n = 0 := by unfold allE; rw [if_neg hw, if_pos (okB_iff.2 hok)]
   have hN : allN p l bs n = n := by unfold allN; rw [if_pos hE]
   have hK : allK p l bs n = plA p l bs n := by unfold allK; rw [if_pos hE]
   rw [hE, hN, hK]
   refine wp_ret ?_
   refine bodyPost_ret (results_tmp3 rfl _ _ _) A.2 ⟨u, ?_, FO, BB⟩
   show Ending.returned (.tuple #[a.eval (.tmp 4), a.eval (.tmp 5), a.eval (.tmp 6)]) = _
   rw [t4, t5, t6]
end Go.Proofs.Ytmjpneaccjlpkaa.Drw

namespace Go.Proofs.Ytmjpneaccjlpkaa.Drw
open Go.RowKit Gf8 Aes By8 Cel Cf Tap
/- The reference's Turn. Written by tools/mkG9h.py. -/
def trN (p : Nat → Nat) (l : Nat) (bs : Nat → Int) (n : Nat) (ws : Nat → Int) (m : Nat) : Nat := if trE p l bs n ws m = 0 then l else 0
theorem anyW_yes {bs ws : Nat → Int} : ∀ {n i}, i < n → (ws i < 0 ∨ bs i ≤ ws i) → anyW bs ws n = true
 | 0, i, h, _ => by omega
 | n + 1, i, h, hb => by
  simp only [anyW, Bool.or_eq_true, decide_eq_true_eq]
  by_cases q : i = n
  ·subst q; exact Or.inr hb
  ·exact Or.inl (anyW_yes (by omega) hb)
section
variable {o : Oper} {a : Act} {w : World}
theorem execU8S {x : Operand} {n : Nat} (ho : o.op = .convert 3 5 x) (hx : a.eval x = .int .i64 (n : Int)) (h : n < 256) : (execOp a.eval o).run Try.prog w = .ok (.value (.int .u8 (n : Int))) w := by
 have e := execU8 (w := w) (n := n) ho hx
 rw [Nat.mod_eq_of_lt h] at e
 exact e
theorem execStB9d {x y : Operand} {b k : Nat} {z : Int} {old : Value} (ho : o.op = .store 5 x y) (hx : a.eval x = .pointer (some ⟨b, k, none⟩)) (hy : a.eval y = .int .u8 z) (hc : w.cell? ⟨b, k, none⟩ = some old) (hf : w.frozen? ⟨b, k, none⟩ = false) : (execOp a.eval o).run Try.prog w = .ok .skip (w.setCell ⟨b, k, none⟩ (.int .u8 z)) := by
 unfold execOp
 simp only [ho, hx, hy]
 simp [go_sem, hc, hf]
end
theorem own_cell9 {W : World} {B n g cap j : Nat} {p : Nat → Nat} (h : W.ownsRow B 5 1 (.slice (some ⟨g, 0, none⟩) n cap) n (bytesL n p)) (hj : j < n) : W.cell? ⟨g, 0 + j, none⟩ = some (.int .u8 (p j : Nat)) ∧ W.frozen? ⟨g, 0 + j, none⟩ = false := by
 rw [Nat.zero_add]
 refine ⟨own_at8 h hj, ?_⟩
 rcases h.2 with ⟨e, _⟩ | ⟨g', cap', cur, e, _, hg, _⟩
 ·cases e
 ·injection e with e1 _ _
  injection e1 with e1
  injection e1 with e1 _ _
  subst e1
  exact frozen4 hg
theorem trS {W : World} {B l g cap i S D w0 : Nat} {p : Nat → Nat} {bs ws : Nat → Int} (h : W.ownsRow B 5 1 (.slice (some ⟨g, 0, none⟩) l cap) l (bytesL l (trF p l bs ws i))) (hb : bs i ≠ 1) (hS : plA p l bs (i + 1) = S + 1) (hD : dV p l (plA p l bs i) (bs i) = D) (hw : ws i = (w0 : Int)) : (W.setCell ⟨g, 0 + S, none⟩ (.int .u8 ((p S - D + w0 : Nat) : Int))).ownsRow B 5 1 (.slice (some ⟨g, 0, none⟩) l cap) l (bytesL l (trF p l bs ws (i + 1))) := by
 have h2 := own_set8 (m := S) (p S - D + w0) h
 rw [Nat.zero_add]
 have e : trF p l bs ws (i + 1) = fun j => if j = S then p S - D + w0 else trF p l bs ws i j := by
  funext j
  show (if bs i ≠ 1 ∧ j = plA p l bs (i + 1) - 1 then p j - dA p l bs i + (ws i).toNat else trF p l bs ws i j) = _
  rw [hS, hw, Int.toNat_natCast]
  by_cases q : j = S
  ·subst q
   rw [if_pos ⟨hb, rfl⟩, if_pos rfl]
   show p j - dV p l (plA p l bs i) (bs i) + w0 = _
   rw [hD]
  ·rw [if_neg (fun x => q x.2), if_neg q]
 rw [e]
 exact h2
end Go.Proofs.Ytmjpneaccjlpkaa.Drw

namespace Go.Proofs.Ytmjpneaccjlpkaa.Drw
open Go.RowKit Gf8 Aes By8 Cel Cf Tap
/- What the program's draw answers (Impl); the laws' alive, DrawAlls, DrawTurns over any Impl. Written by tools/mkG9i.py. -/
structure Impl : Prop where
 below : ∀ (p : Nat → Nat) (l at' : Nat) (b : Int) (V : World), at' ≤ l → l ≤ 140737488351232 → (∀ j, j < l → p j < 256) →
  Calls Try.prog 67 #[.agg (tpC p l at'), .int .i64 b] V fun e w' => e = .returned (.tuple #[.int .i64 ((dV p l at' b : Nat) : Int), .agg (tpC p (if dE p l at' b = 0 then l else 0) (dN p l at' b)), .int .i64 ((dE p l at' b : Nat) : Int)]) ∧ Below V.heap.size V w'
 all : ∀ (p : Nat → Nat) (l : Nat) (bs : Nat → Int) (n : Nat) (pv bv : Value) (V : World), SliceN V pv l p → l ≤ 140737488351232 → SliceI V bv n bs → n ≤ 17592186044416 →
  Calls Try.prog 41 #[pv, bv] V fun e w' => ∃ r, e = .returned (.tuple #[r, .int .i64 ((allK p l bs n : Nat) : Int), .int .i64 ((allE p l bs n : Nat) : Int)]) ∧ w'.ownsRow V.heap.size 3 1 r (allN p l bs n) (intsL (allN p l bs n) (fun i => (dA p l bs i : Int))) ∧ Below V.heap.size V w'
 turn : ∀ (p : Nat → Nat) (l : Nat) (bs ws : Nat → Int) (n m : Nat) (pv bv wv : Value) (V : World), SliceN V pv l p → l ≤ 140737488351232 → (∀ l c, pv = .slice none l c → c = 0) → SliceI V bv n bs → n ≤ 17592186044416 → SliceI V wv m ws → m ≤ 17592186044416 →
  Calls Try.prog 62 #[pv, bv, wv] V fun e w' => ∃ r, e = .returned (.tuple #[r, .int .i64 ((trE p l bs n ws m : Nat) : Int)]) ∧ TkA w' V.heap.size r (trN p l bs n ws m) (trF p l bs ws n) ∧ Below V.heap.size V w'
theorem dV_le (p : Nat → Nat) (l at' : Nat) (b : Int) : dV p l at' b ≤ 256 := by
 unfold dV
 by_cases h : dE p l at' b = 0 ∧ b ≠ 1
 ·rw [if_pos h]
  have hb := (dE_ok h.1).1
  unfold bad at hb
  have : p (dS p l at' b) % b.toNat < b.toNat := Nat.mod_lt _ (by omega)
  omega
 ·rw [if_neg h]; omega
theorem dA_fits (p : Nat → Nat) (l : Nat) (bs : Nat → Int) (n : Nat) : ∀ j, j < n → -9223372036854775808 ≤ ((dA p l bs j : Nat) : Int) ∧ ((dA p l bs j : Nat) : Int) < 9223372036854775808 := fun j _ => by
 have := dV_le p l (plA p l bs j) (bs j)
 unfold dA
 omega
def b1 : Nat → Int := fun j => if j = 0 then 3 else if j = 1 then 1 else 256
end Go.Proofs.Ytmjpneaccjlpkaa.Drw

namespace Go.Proofs.Ytmjpneaccjlpkaa.Drw
open Go.RowKit Gf8 Aes By8 Cel Cf Tap
/- DrawEven over any Impl. Written by tools/mkG9k.py. -/
theorem tk_nil {W : World} {B n : Nat} {v : Value} {q : Nat → Nat} (h : TkA W B v n q) : ∀ l c, v = .slice none l c → c = 0 := by
 intro l c e
 rcases h with ⟨rfl, _⟩ | h
 ·injection e with _ _ e
  exact e.symm
 ·exact absurd e (h.some l c)
end Go.Proofs.Ytmjpneaccjlpkaa.Drw
