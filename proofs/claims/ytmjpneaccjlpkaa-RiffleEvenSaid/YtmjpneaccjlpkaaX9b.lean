import Derived.Test.YtmjpneaccjlpkaaF9b
import Derived.Test.YtmjpneaccjlpkaaF9a
import Derived.Test.YtmjpneaccjlpkaaX9a
namespace Go.Proofs.Ytmjpneaccjlpkaa.Rif
open Go.RowKit Gf8 Aes By8 Cel Cf Tap Drw Prm Brd
/- Package riffle as it landed: Order, Shuffle. Written by tools/mkX9b.py. -/
theorem sz2 {n ch : Int} (hin : ¬ inL n ch) (V : World) : Calls Try.prog 19 #[.int .i64 n, .int .i64 ch] V fun e w' => ∃ r, e = .returned (.tuple #[r, .int .i64 ((2 : Nat) : Int)]) ∧ Below V.heap.size V w' :=
 Calls.mono (psizes n ch V) fun e w' ⟨r, g1, g2, g3⟩ => ⟨r, by rw [show szE n ch = 2 from if_neg hin] at g1; exact g1, g3⟩
theorem sz0 {N J : Nat} (hin : inL (N : Int) (J : Int)) (V : World) : Calls Try.prog 19 #[.int .i64 ((N : Nat) : Int), .int .i64 ((J : Nat) : Int)] V fun e w' => ∃ r, e = .returned (.tuple #[r, .int .i64 ((0 : Nat) : Int)]) ∧ SliceI w' r J (sI N J) ∧ Below V.heap.size V w' :=
 Calls.mono (psizes (N : Int) (J : Int) V) fun e w' ⟨r, g1, g2, g3⟩ => by
  have hE : szE (N : Int) (J : Int) = 0 := if_pos hin
  rw [hE] at g1
  rw [hE, zl_ok] at g2
  refine ⟨r, g1, own_ints g2 (fun j hj => ?_), g3⟩
  have h3 := szF_le N (D := J) hj
  have h4 := hin.2.1
  show -9223372036854775808 ≤ ((szF N J j : Nat) : Int) ∧ ((szF N J j : Nat) : Int) < 9223372036854775808
  omega
theorem spl0 (p : Nat → Nat) (L J : Nat) (v : Value) (V : World) (hv : SliceN V v L p) (hl : L ≤ 140737488351232) (hL : 18 ≤ L) (h1 : 1 ≤ J) (h2 : J ≤ 64) :
  Calls Try.prog 20 #[v, .int .i64 ((J : Nat) : Int)] V fun e w' => ∃ nv bv cv x, e = .returned (.tuple #[.agg (ptC nv bv cv), .int .i64 ((0 : Nat) : Int)]) ∧ PtS w' V.heap.size J nv bv cv x 18 (lb L) (lq L J) p ∧ Below V.heap.size V w' :=
 Calls.mono (split_any p L (J : Int) v V hv hl) fun e w' ⟨nv, bv, cv, x, g1, g2, g3⟩ => by
  have hE : spE L (J : Int) = 0 := by
   unfold spE
   rw [if_neg (by omega), if_neg (by omega)]
  have e1 : spC L (J : Int) = J := if_pos hE
  have e2 : spA L (J : Int) = 18 := if_pos hE
  have e3 : spB L (J : Int) = lb L := if_pos hE
  have e4 : spQ L (J : Int) = lq L J := if_pos hE
  rw [hE] at g1
  rw [e1, e2, e3, e4] at g2
  exact ⟨nv, bv, cv, x, g1, g2, g3⟩
theorem spl3 (p : Nat → Nat) (L J : Nat) (v : Value) (V : World) (hv : SliceN V v L p) (hl : L ≤ 140737488351232) (hL : L < 18) (h1 : 1 ≤ J) (h2 : J ≤ 64) :
  Calls Try.prog 20 #[v, .int .i64 ((J : Nat) : Int)] V fun e w' => ∃ nv bv cv x, e = .returned (.tuple #[.agg (ptC nv bv cv), .int .i64 ((3 : Nat) : Int)]) ∧ PtS w' V.heap.size 0 nv bv cv x 0 0 0 p ∧ Below V.heap.size V w' :=
 Calls.mono (split_any p L (J : Int) v V hv hl) fun e w' ⟨nv, bv, cv, x, g1, g2, g3⟩ => by
  have hE : spE L (J : Int) = 3 := by
   unfold spE
   rw [if_neg (by omega), if_pos hL]
  have hn : spE L (J : Int) ≠ 0 := by rw [hE]; decide
  have e1 : spC L (J : Int) = 0 := if_neg hn
  have e2 : spA L (J : Int) = 0 := if_neg hn
  have e3 : spB L (J : Int) = 0 := if_neg hn
  have e4 : spQ L (J : Int) = 0 := if_neg hn
  rw [hE] at g1
  rw [e1, e2, e3, e4] at g2
  exact ⟨nv, bv, cv, x, g1, g2, g3⟩
section
variable {W : World} {B J L : Nat} {nv bv cv : Value} {x : Nat → Value} {p : Nat → Nat}
theorem pts_br (h : PtS W B J nv bv cv x 18 (lb L) (lq L J) p) (hL : 18 ≤ L) (hp : ∀ j, j < L → p j < 256) : SliceN W bv (lb L) (brP p) := own_slice h.rowB (fun _ hj => hp _ (br_in hL hj))
theorem pts_nz (h : PtS W B J nv bv cv x 18 (lb L) (lq L J) p) (hL : 18 ≤ L) (hp : ∀ j, j < L → p j < 256) : SliceN W nv 18 p := own_slice h.rowN (fun _ hj => hp _ (Nat.lt_of_lt_of_le hj hL))
theorem own_nilB {n : Nat} {v : Value} {xs : List Value} {t : TypeId} {s : Nat} (h : W.ownsRow B t s v n xs) : ∀ l c, v = .slice none l c → c = 0 := fun l c e => by
 rcases h.2 with ⟨e2, _⟩ | ⟨g, cap, cur, e2, _⟩
 ·rw [e2] at e
  injection e with _ _ e3
  exact e3.symm
 ·rw [e2] at e
  injection e with e3 _ _
  cases e3
theorem pts_ck (h : PtS W B J nv bv cv x 18 (lb L) (lq L J) p) (hL : 18 ≤ L) (hp : ∀ j, j < L → p j < 256) : LLB W cv J x (lq L J) (ckP L J p) := by
 refine ⟨?_, fun j hj => own_slice (h.rowC j hj) (fun _ hk => hp _ (ck_in hL hj hk)), fun j hj => own_nilB (h.rowC j hj)⟩
 obtain ⟨a, c, e⟩ := shpO h.own
 refine ⟨a, c, e, fun h0 => ?_⟩
 obtain ⟨g, c', e2, _, hg⟩ := ownL_some9 h.own h0
 rw [e2] at e
 injection e with e3 _ _
 have h5 := h.own
 rw [e2] at h5
 exact ⟨g, 0, e3.symm, hg, fun j hj => ownL_cell h5 hj⟩
end
section
variable (q : Nat → Nat) (l N J : Nat) (pv sv : Value) (V : World)
theorem br0 (FP : SliceN V pv l q) (hl : l ≤ 140737488351232) (FXs : SliceI V sv J (sI N J)) (hN : N ≤ 256) (h1 : 1 ≤ J) (h2 : J ≤ 64) (hok : okB q l (bI N) N = true) :
  Calls Try.prog 21 #[pv, .int .i64 ((N : Nat) : Int), sv] V fun e w' => ∃ r1 r2, e = .returned (.tuple #[r1, r2, .int .i64 ((0 : Nat) : Int)]) ∧ FmI V.heap.size 2 (x2 r1 r2) (fun _ => N) (f2 (pcF (sI N J) J (dQ q l N)) (poF (sI N J) J (dQ q l N) N)) w' ∧ Below V.heap.size V w' :=
 Calls.mono (pbraided q l N J pv sv V FP hl FXs hN h1 h2) fun e w' ⟨r1, r2, g1, g2, g3⟩ => by
  have hE : brE q l N = 0 := if_pos hok
  rw [hE] at g1
  rw [hE, zl_ok] at g2
  exact ⟨r1, r2, g1, g2, g3⟩
theorem br3 (FP : SliceN V pv l q) (hl : l ≤ 140737488351232) (FXs : SliceI V sv J (sI N J)) (hN : N ≤ 256) (h1 : 1 ≤ J) (h2 : J ≤ 64) (hok : okB q l (bI N) N = false) :
  Calls Try.prog 21 #[pv, .int .i64 ((N : Nat) : Int), sv] V fun e w' => ∃ r1 r2, e = .returned (.tuple #[r1, r2, .int .i64 ((3 : Nat) : Int)]) ∧ Below V.heap.size V w' :=
 Calls.mono (pbraided q l N J pv sv V FP hl FXs hN h1 h2) fun e w' ⟨r1, r2, g1, g2, g3⟩ => by
  have hE : brE q l N = 3 := if_neg (by rw [hok]; decide)
  rw [hE] at g1
  exact ⟨r1, r2, g1, g3⟩
end
section
variable (x : Nat → Value) (gg : Nat → Nat → Nat) (l N J : Nat) (cv sv : Value) (V : World)
theorem sh0 (hL : LLB V cv J x l gg) (hl : l ≤ 140737488351232) (FXs : SliceI V sv J (sI N J)) (hN : N ≤ 256) (h1 : 1 ≤ J) (h2 : J ≤ 64) (hok : allB (fun t => okB (gg t) l (bI (szF N J t)) (szF N J t - 1)) J = true) :
  Calls Try.prog 22 #[cv, sv] V fun e w' => ∃ r y, e = .returned (.tuple #[r, .int .i64 ((0 : Nat) : Int)]) ∧ LLI w' r J y (szF N J) (thF gg l N J) ∧ Below V.heap.size V w' :=
 Calls.mono (pshuffled x gg l N J cv sv V hL hl FXs hN h1 h2) fun e w' ⟨r, y, g1, g2, g3⟩ => by
  have hE : shE gg l N J = 0 := if_pos hok
  rw [hE] at g1
  exact ⟨r, y, g1, g2 hE, g3⟩
theorem sh3 (hL : LLB V cv J x l gg) (hl : l ≤ 140737488351232) (FXs : SliceI V sv J (sI N J)) (hN : N ≤ 256) (h1 : 1 ≤ J) (h2 : J ≤ 64) (hok : allB (fun t => okB (gg t) l (bI (szF N J t)) (szF N J t - 1)) J = false) :
  Calls Try.prog 22 #[cv, sv] V fun e w' => ∃ r, e = .returned (.tuple #[r, .int .i64 ((3 : Nat) : Int)]) ∧ Below V.heap.size V w' :=
 Calls.mono (pshuffled x gg l N J cv sv V hL hl FXs hN h1 h2) fun e w' ⟨r, y, g1, g2, g3⟩ => by
  have hE : shE gg l N J = 3 := if_neg (by rw [hok]; decide)
  rw [hE] at g1
  exact ⟨r, g1, g3⟩
end
theorem we0 (cf : Nat → Int) (n J : Nat) (x : Nat → Value) (ln : Nat → Nat) (gg : Nat → Nat → Int) (u0 v : Value) (V : World) (FJ : SliceI V u0 n cf) (hn17 : n ≤ 17592186044416) (hL : LLI V v J x ln gg) (hJ : J ≤ 1000000) (hst : stQ cf n (fun j => (ln j : Int)) J = true) :
  Calls Try.prog 23 #[u0, v] V fun e w' => ∃ r, e = .returned (.tuple #[r, .int .i64 ((0 : Nat) : Int)]) ∧ w'.ownsRow V.heap.size 3 1 r n (intsL n (fun j => gg (gN cf j) (cntC (gN cf) (gN cf j) j))) ∧ Below V.heap.size V w' :=
 Calls.mono (pweaveI cf n J x ln gg u0 v V FJ hn17 hL hJ) fun e w' ⟨r, g1, g2, g3⟩ => by
  have hE : weE cf n ln J = 0 := if_pos hst
  rw [hE] at g1
  rw [hE, zl_ok] at g2
  exact ⟨r, g1, g2, g3⟩
theorem or_is {L N J : Nat} {p : Nat → Nat} (i : Nat) : thF (ckP L J p) (lq L J) N J (gN (pcF (sI N J) J (dQ (brP p) (lb L) N)) i) (cntC (gN (pcF (sI N J) J (dQ (brP p) (lb L) N))) (gN (pcF (sI N J) J (dQ (brP p) (lb L) N)) i) i) = orF L ((N : Nat) : Int) ((J : Nat) : Int) p i := by
 show ((frA _ _ _ _ + sumN (szF N J) (ptT L J N (szF N J) p i) : Nat) : Int) = ((sumN (szF N J) (ptT L J N (szF N J) p i) + _ : Nat) : Int)
 rw [Nat.add_comm]
 rfl
theorem or_fits {L : Nat} {n ch : Int} {p : Nat → Nat} : ∀ j, j < zl (riE L n ch p) n.toNat → -9223372036854775808 ≤ orF L n ch p j ∧ orF L n ch p j < 9223372036854775808 := fun j hj => by
 by_cases h : riE L n ch p = 0
 ·rw [h, zl_ok] at hj
  have f := ri_ok h
  have h1 := f.or_lt hj
  have h2 := f.le
  omega
 ·rw [zl_no h] at hj
  exact absurd hj (Nat.not_lt_zero _)
theorem aps0 (f : Nat → Int) (g : Nat → ByteArray) (n m : Nat) (v u : Value) (V : World) (hv : SliceI V v n f) (hn : n ≤ 17592186044416) (hu : SliceS V u m g) (hE : apE f n m = 0) :
  Calls Try.prog 27 #[v, u] V fun e w' => ∃ r, e = .returned (.tuple #[r, .int .i64 ((0 : Nat) : Int)]) ∧ w'.ownsRow V.heap.size 9 1 r n (strsL n (fun j => g (f j).toNat)) ∧ Below V.heap.size V w' :=
 Calls.mono (papplyS f g n m v u V hv hn hu) fun e w' ⟨r, g1, g2, g3⟩ => by
  rw [hE] at g1
  rw [hE, zl_ok] at g2
  exact ⟨r, g1, g2, g3⟩
set_option maxRecDepth 100000 in
set_option maxHeartbeats 4000000 in
theorem porder (p : Nat → Nat) (L : Nat) (n ch : Int) (pv : Value) (V : World) (FP : SliceN V pv L p) (hl : L ≤ 140737488351232) :
  Calls Try.prog 10 #[pv, .int .i64 n, .int .i64 ch] V fun e w' => ∃ r, e = .returned (.tuple #[r, .int .i64 ((riE L n ch p : Nat) : Int)]) ∧ w'.ownsRow V.heap.size 3 1 r (zl (riE L n ch p) n.toNat) (intsL (zl (riE L n ch p) n.toNat) (orF L n ch p)) ∧ Below V.heap.size V w' := by
 go_enter Try.func10, Try.ntmps10
 refine wp_seq ?_
 refine wo_ 59 [(0, pv), (1, .int .i64 n), (2, .int .i64 ch)] ?_
 rintro a A ⟨t0, t1, t2, -⟩
 refine wi_ A (h3_ t0 t1 t2) (rf_ [] (h3_ t0 t1 t2) ?_)
 rintro a A - ⟨t0, t1, t2, -⟩
 have BW : Below V.heap.size V V := Below.refl _ _
 by_cases hin : inL n ch
 ·obtain ⟨N, rfl⟩ : ∃ N : Nat, n = N := ⟨n.toNat, by have := hin.1; omega⟩
  obtain ⟨J, rfl⟩ : ∃ J : Nat, ch = J := ⟨ch.toNat, by have := hin.2.2.1; omega⟩
  obtain ⟨h0, hN, h1, h2⟩ := id hin
  replace hN : N ≤ 256 := by omega
  replace h1 : 1 ≤ J := by omega
  replace h2 : J ≤ 64 := by omega
  refine wp_seq ?_
  refine wi_ A (h3_ t0 t1 t2) (rc_ 2 (sz0 (N := N) (J := J) hin V) fun e X1 hh => ?_)
  obtain ⟨z_, he, hk, hb⟩ := hh
  refine ⟨_, he, ?_⟩
  have bQ : Below V.heap.size V X1 := hb
  have Fz : (SliceI X1 z_ (J) (sI N J)) := hk
  have bX := bQ
  clear bQ
  refine rf_ [(8, z_), (9, .int .i64 ((0 : Nat) : Int))] (h3_ t0 t1 t2) ?_
  rintro a A ⟨t8, t9, -⟩ ⟨t0, t1, t2, -⟩
  replace FP := (FP.on bX)
  have ZX1 := bX.size
  replace BW := BW.trans (bX.mono BW.size)
  clear bX
  refine wp_seq (wp_seq ?_)
  refine wi_ A (h5_ t0 t1 t2 t8 t9) (rv_ 1 (.bool false) (fun a e => execDec (execNeE (p := 0) (q := 0) rfl (e _) rfl) (decide_eq_false (by decide))) (rf_ [(21, .bool false)] (h4_ t0 t1 t2 t8) ?_))
  rintro a A ⟨t21, -⟩ ⟨t0, t1, t2, t8, -⟩
  refine wp_cond_false t21 (wp_skip ?_)
  clear t21
  refine wp_seq ?_
  by_cases hL18 : 18 ≤ L
  ·refine wi_ A (h4_ t0 t1 t2 t8) (rc_ 2 (spl0 p L J _ X1 FP hl hL18 h1 h2) fun e X4_1 hh => ?_)
   obtain ⟨nv, bv, cv, xs, he, hk, hb⟩ := hh
   refine ⟨_, he, ?_⟩
   have bQ : Below X1.heap.size X1 X4_1 := hb
   have FPT : (PtS X4_1 V.heap.size J nv bv cv xs 18 (lb L) (lq L J) p) := hk.base (Nat.le_trans BW.size ((Below.refl X1.heap.size X1)).size)
   have bX := bQ
   clear bQ
   obtain ⟨g10, egg10⟩ : ∃ z_ : Nat, X4_1.heap.size = z_ := ⟨_, rfl⟩
   refine rs_ 6 (fun a e => ?_)
   refine stepV rfl rfl (execAllPt rfl) ⟨.pointer (some ⟨g10, 0, none⟩), ⟨_, rfl, by subst egg10; rfl⟩, fun X4_2 hX => ?_⟩
   have bQ : Below X4_1.heap.size X4_1 X4_2 := by subst hX egg10; exact (belNew X4_1 _)
   have F10 : X4_2.heap[g10]? = some (.cells (ptC (.slice none 0 0) (.slice none 0 0) (.slice none 0 0)) 55) := by subst hX egg10; exact heapNew X4_1 _
   have Fge10 : (X1.heap.size ≤ g10) := by subst hX egg10; exact (bX).size
   replace FPT := (FPT.on bQ)
   replace bX := bX.trans (bQ.mono bX.size)
   clear bQ hX egg10 e a
   refine rs_ 7 (fun a e => ?_)
   refine stepS rfl rfl (execStPt rfl (e _) (e _) F10 rfl (pts_one FPT)) ⟨_, ⟨_, rfl, rfl⟩, fun X4 hX => ?_⟩
   obtain ⟨bX, FPT, F10⟩ : Below X1.heap.size X1 X4 ∧ (PtS X4 V.heap.size J nv bv cv xs 18 (lb L) (lq L J) p) ∧ X4.heap[g10]? = some (.cells (ptC nv bv cv) 55) := by rw [hX]; exact ⟨below4 bX Fge10 _, (FPT.set F10 (by decide) (by decide)), setRow_heap _ _ _ _ _ _ F10⟩
   clear hX e a
   refine rf_ [(9, .int .i64 ((0 : Nat) : Int)), (10, .pointer (some ⟨g10, 0, none⟩))] (h2_ t1 t8) ?_
   rintro a A ⟨t9, t10, -⟩ ⟨t1, t8, -⟩
   replace FP := (FP.on bX)
   replace Fz := (Fz.on bX)
   have ZX4 := bX.size
   replace BW := BW.trans (bX.mono BW.size)
   clear bX
   refine wp_seq (wp_seq ?_)
   refine wi_ A (h4_ t1 t8 t9 t10) (rv_ 1 (.bool false) (fun a e => execDec (execNeE (p := 0) (q := 0) rfl (e _) rfl) (decide_eq_false (by decide))) (rf_ [(30, .bool false)] (h3_ t1 t8 t10) ?_))
   rintro a A ⟨t30, -⟩ ⟨t1, t8, t10, -⟩
   refine wp_cond_false t30 (wp_skip ?_)
   clear t30
   have hpb : ∀ j, j < L → p j < 256 := FP.bytes
   have FBv : SliceN X4 bv (lb L) (brP p) := pts_br FPT hL18 hpb
   have FCv : LLB X4 cv J xs (lq L J) (ckP L J p) := pts_ck FPT hL18 hpb
   have hlb : lb L ≤ 140737488351232 := by unfold lb; omega
   have hlq : lq L J ≤ 140737488351232 := by have := lq_le L (J := J) hL18; have h3 : 1 * lq L J ≤ J * lq L J := Nat.mul_le_mul_right _ h1; omega
   refine wp_seq ?_
   cases hbr : okB (brP p) (lb L) (bI N) N with
   | false =>
    refine wi_ A (h3_ t1 t8 t10) (rv_ 0 (.pointer (some ⟨g10, 1, none⟩)) (fun a e => execPt1 rfl (e _)) (rv_ 1 (bv) (fun a e => execLdL rfl (e _) (ptC_at F10).2.1) (rc_ 4 (br3 (brP p) (lb L) N J _ _ X4 FBv hlb Fz hN h1 h2 hbr) fun e X7 hh => ?_)))
    obtain ⟨u_, w_, he, hb⟩ := hh
    refine ⟨_, he, ?_⟩
    have bQ : Below X4.heap.size X4 X7 := hb
    have bX := bQ
    clear bQ
    refine rg_ [(9, .int .i64 ((3 : Nat) : Int))] ?_
    rintro a A ⟨t9, -⟩
    replace FP := (FP.on bX)
    replace Fz := (Fz.on bX)
    replace FPT := (FPT.on bX)
    replace Fge10 := Fge10
    replace F10 := (on9 F10 bX)
    replace FBv := (FBv.on bX)
    replace FCv := (FCv.on bX)
    have ZX7 := bX.size
    replace BW := BW.trans (bX.mono BW.size)
    clear bX
    refine wp_seq (wp_seq ?_)
    refine wi_ A (h1_ t9) (rv_ 1 (.bool true) (fun a e => execDec (execNeE (p := 3) (q := 0) rfl (e _) rfl) (decide_eq_true (by decide))) (rf_ [(42, .bool true)] (h1_ t9) ?_))
    rintro a A ⟨t42, -⟩ ⟨t9, -⟩
    refine wp_cond_true t42 ?_
    clear t42
    refine wp_seq ?_
    refine wi_ A (h1_ t9) (rg_ [(6, .slice none 0 0), (7, .int .i64 ((3 : Nat) : Int))] ?_)
    rintro a A ⟨t6, t7, -⟩
    have hE : riE L ((N : Nat) : Int) ((J : Nat) : Int) p = 3 := by show (if inL _ _ then _ else _) = 3; rw [if_pos hin]; exact if_neg fun q => by have h_ : OkT L J N (szF N J) p := okT_iff.1 q.2; rw [okB_iff.2 h_.br] at hbr; cases hbr
    rw [hE, zl_no (by decide)]
    refine wp_ret ?_
    repeat (first | with_reducible refine ret_in ?_ | with_reducible refine ret_then ?_)
    refine bodyPost_ret (results_tmp2 rfl _ _ _) A.2 ⟨_, ?_, World.ownsRow_nil _ _ _ _, BW⟩
    show Ending.returned (.tuple #[a.eval (.tmp 6), a.eval (.tmp 7)]) = _
    rw [t6, t7]
   | true =>
    refine wi_ A (h3_ t1 t8 t10) (rv_ 0 (.pointer (some ⟨g10, 1, none⟩)) (fun a e => execPt1 rfl (e _)) (rv_ 1 (bv) (fun a e => execLdL rfl (e _) (ptC_at F10).2.1) (rc_ 4 (br0 (brP p) (lb L) N J _ _ X4 FBv hlb Fz hN h1 h2 hbr) fun e X7 hh => ?_)))
    obtain ⟨u_, w_, he, hk, hb⟩ := hh
    refine ⟨_, he, ?_⟩
    have bQ : Below X4.heap.size X4 X7 := hb
    have Fu : (SliceI X7 u_ (N) (pcF (sI N J) J (dQ (brP p) (lb L) N))) := own_ints (hk.rows 0 (by omega)) (pc_fits (by omega))
    have bX := bQ
    clear bQ
    refine rf_ [(9, .int .i64 ((0 : Nat) : Int)), (11, u_)] (h2_ t8 t10) ?_
    rintro a A ⟨t9, t11, -⟩ ⟨t8, t10, -⟩
    replace FP := (FP.on bX)
    replace Fz := (Fz.on bX)
    replace FPT := (FPT.on bX)
    replace Fge10 := Fge10
    replace F10 := (on9 F10 bX)
    replace FBv := (FBv.on bX)
    replace FCv := (FCv.on bX)
    have ZX7 := bX.size
    replace BW := BW.trans (bX.mono BW.size)
    clear bX
    refine wp_seq (wp_seq ?_)
    refine wi_ A (h4_ t8 t9 t10 t11) (rv_ 1 (.bool false) (fun a e => execDec (execNeE (p := 0) (q := 0) rfl (e _) rfl) (decide_eq_false (by decide))) (rf_ [(42, .bool false)] (h3_ t8 t10 t11) ?_))
    rintro a A ⟨t42, -⟩ ⟨t8, t10, t11, -⟩
    refine wp_cond_false t42 (wp_skip ?_)
    clear t42
    refine wp_seq ?_
    cases hsh : allB (fun t => okB (ckP L J p t) (lq L J) (bI (szF N J t)) (szF N J t - 1)) J with
    | false =>
     refine wi_ A (h3_ t8 t10 t11) (rv_ 0 (.pointer (some ⟨g10, 2, none⟩)) (fun a e => execPt2 rfl (e _)) (rv_ 1 (cv) (fun a e => execLdLL rfl (e _) (ptC_at F10).2.2) (rc_ 3 (sh3 xs (ckP L J p) (lq L J) N J _ _ X7 FCv hlq Fz hN h1 h2 hsh) fun e X10 hh => ?_)))
     obtain ⟨t_, he, hb⟩ := hh
     refine ⟨_, he, ?_⟩
     have bQ : Below X7.heap.size X7 X10 := hb
     have bX := bQ
     clear bQ
     refine rg_ [(9, .int .i64 ((3 : Nat) : Int))] ?_
     rintro a A ⟨t9, -⟩
     replace FP := (FP.on bX)
     replace Fz := (Fz.on bX)
     replace FPT := (FPT.on bX)
     replace Fge10 := Fge10
     replace F10 := (on9 F10 bX)
     replace FBv := (FBv.on bX)
     replace FCv := (FCv.on bX)
     replace Fu := (Fu.on bX)
     have ZX10 := bX.size
     replace BW := BW.trans (bX.mono BW.size)
     clear bX
     refine wp_seq (wp_seq ?_)
     refine wi_ A (h1_ t9) (rv_ 1 (.bool true) (fun a e => execDec (execNeE (p := 3) (q := 0) rfl (e _) rfl) (decide_eq_true (by decide))) (rf_ [(52, .bool true)] (h1_ t9) ?_))
     rintro a A ⟨t52, -⟩ ⟨t9, -⟩
     refine wp_cond_true t52 ?_
     clear t52
     refine wp_seq ?_
     refine wi_ A (h1_ t9) (rg_ [(6, .slice none 0 0), (7, .int .i64 ((3 : Nat) : Int))] ?_)
     rintro a A ⟨t6, t7, -⟩
     have hE : riE L ((N : Nat) : Int) ((J : Nat) : Int) p = 3 := by show (if inL _ _ then _ else _) = 3; rw [if_pos hin]; exact if_neg fun q => by have h_ : OkT L J N (szF N J) p := okT_iff.1 q.2; rw [allB_iff.2 fun t ht => okB_iff.2 (h_.ck t ht)] at hsh; cases hsh
     rw [hE, zl_no (by decide)]
     refine wp_ret ?_
     repeat (first | with_reducible refine ret_in ?_ | with_reducible refine ret_then ?_)
     refine bodyPost_ret (results_tmp2 rfl _ _ _) A.2 ⟨_, ?_, World.ownsRow_nil _ _ _ _, BW⟩
     show Ending.returned (.tuple #[a.eval (.tmp 6), a.eval (.tmp 7)]) = _
     rw [t6, t7]
    | true =>
     refine wi_ A (h3_ t8 t10 t11) (rv_ 0 (.pointer (some ⟨g10, 2, none⟩)) (fun a e => execPt2 rfl (e _)) (rv_ 1 (cv) (fun a e => execLdLL rfl (e _) (ptC_at F10).2.2) (rc_ 3 (sh0 xs (ckP L J p) (lq L J) N J _ _ X7 FCv hlq Fz hN h1 h2 hsh) fun e X10 hh => ?_)))
     obtain ⟨t_, y_, he, hk, hb⟩ := hh
     refine ⟨_, he, ?_⟩
     have bQ : Below X7.heap.size X7 X10 := hb
     have FLL : (LLI X10 t_ J y_ (szF N J) (thF (ckP L J p) (lq L J) N J)) := hk
     have bX := bQ
     clear bQ
     refine rf_ [(9, .int .i64 ((0 : Nat) : Int)), (13, t_)] (h1_ t11) ?_
     rintro a A ⟨t9, t13, -⟩ ⟨t11, -⟩
     replace FP := (FP.on bX)
     replace Fz := (Fz.on bX)
     replace FPT := (FPT.on bX)
     replace Fge10 := Fge10
     replace F10 := (on9 F10 bX)
     replace FBv := (FBv.on bX)
     replace FCv := (FCv.on bX)
     replace Fu := (Fu.on bX)
     have ZX10 := bX.size
     replace BW := BW.trans (bX.mono BW.size)
     clear bX
     refine wp_seq (wp_seq ?_)
     refine wi_ A (h3_ t9 t11 t13) (rv_ 1 (.bool false) (fun a e => execDec (execNeE (p := 0) (q := 0) rfl (e _) rfl) (decide_eq_false (by decide))) (rf_ [(52, .bool false)] (h2_ t11 t13) ?_))
     rintro a A ⟨t52, -⟩ ⟨t11, t13, -⟩
     refine wp_cond_false t52 (wp_skip ?_)
     clear t52
     have hok : OkT L J N (szF N J) p := ⟨okB_iff.1 hbr, fun t ht => okB_iff.1 (allB_iff.1 hsh t ht)⟩
     have hFit : Fit L N J ((N : Nat) : Int) ((J : Nat) : Int) p := ⟨rfl, rfl, hN, h1, h2, hL18, hok⟩
     have hE : riE L ((N : Nat) : Int) ((J : Nat) : Int) p = 0 := hFit.ri
     rw [hE, zl_ok]
     have hpt : IsPat (szF N J) J N (ptT L J N (szF N J) p) := ptT_pat (szF_sum N h1) hok
     have hst : stQ (pcF (sI N J) J (dQ (brP p) (lb L) N)) N (fun j => (szF N J j : Int)) J = true := stQ_iff.2 ⟨fun i hi => by have := hpt.lt i hi; show 0 ≤ ((ptT L J N (szF N J) p i : Nat) : Int) ∧ ((ptT L J N (szF N J) p i : Nat) : Int) < _; omega, fun j hj => by show ((szF N J j : Nat) : Int) = ((cntC (ptT L J N (szF N J) p) j N : Nat) : Int); rw [hpt.cnt j hj]⟩
     refine wp_seq ?_
     refine wi_ A (h2_ t11 t13) (rc_ 2 (we0 (pcF (sI N J) J (dQ (brP p) (lb L) N)) N J y_ (szF N J) (thF (ckP L J p) (lq L J) N J) _ _ X10 Fu (by omega) FLL (by omega) hst) fun e X13 hh => ?_)
     obtain ⟨o_, he, hk, hb⟩ := hh
     refine ⟨_, he, ?_⟩
     have bQ : Below X10.heap.size X10 X13 := hb
     have FO : (X13.ownsRow V.heap.size 3 1 o_ N (intsL N (orF L ((N : Nat) : Int) ((J : Nat) : Int) p))) := ownD_base (by rw [intsL_congr (g := orF L ((N : Nat) : Int) ((J : Nat) : Int) p) (fun i _ => or_is i)] at hk; exact hk) (Nat.le_trans BW.size ((Below.refl X10.heap.size X10)).size)
     have bX := bQ
     clear bQ
     refine rg_ [(6, o_), (7, .int .i64 ((0 : Nat) : Int))] ?_
     rintro a A ⟨t6, t7, -⟩
     replace FP := (FP.on bX)
     replace Fz := (Fz.on bX)
     replace FPT := (FPT.on bX)
     replace Fge10 := Fge10
     replace F10 := (on9 F10 bX)
     replace FBv := (FBv.on bX)
     replace FCv := (FCv.on bX)
     replace Fu := (Fu.on bX)
     replace FLL := (FLL.on bX)
     have ZX13 := bX.size
     replace BW := BW.trans (bX.mono BW.size)
     clear bX
     refine wp_ret ?_
     repeat (first | with_reducible refine ret_in ?_ | with_reducible refine ret_then ?_)
     refine bodyPost_ret (results_tmp2 rfl _ _ _) A.2 ⟨_, ?_, FO, BW⟩
     show Ending.returned (.tuple #[a.eval (.tmp 6), a.eval (.tmp 7)]) = _
     rw [t6, t7]
  ·refine wi_ A (h4_ t0 t1 t2 t8) (rc_ 2 (spl3 p L J _ X1 FP hl (by omega) h1 h2) fun e X4_1 hh => ?_)
   obtain ⟨nv, bv, cv, xs, he, hk, hb⟩ := hh
   refine ⟨_, he, ?_⟩
   have bQ : Below X1.heap.size X1 X4_1 := hb
   have FPT : (PtS X4_1 V.heap.size 0 nv bv cv xs 0 0 0 p) := hk.base (Nat.le_trans BW.size ((Below.refl X1.heap.size X1)).size)
   have bX := bQ
   clear bQ
   obtain ⟨g10, egg10⟩ : ∃ z_ : Nat, X4_1.heap.size = z_ := ⟨_, rfl⟩
   refine rs_ 6 (fun a e => ?_)
   refine stepV rfl rfl (execAllPt rfl) ⟨.pointer (some ⟨g10, 0, none⟩), ⟨_, rfl, by subst egg10; rfl⟩, fun X4_2 hX => ?_⟩
   have bQ : Below X4_1.heap.size X4_1 X4_2 := by subst hX egg10; exact (belNew X4_1 _)
   have F10 : X4_2.heap[g10]? = some (.cells (ptC (.slice none 0 0) (.slice none 0 0) (.slice none 0 0)) 55) := by subst hX egg10; exact heapNew X4_1 _
   have Fge10 : (X1.heap.size ≤ g10) := by subst hX egg10; exact (bX).size
   replace FPT := (FPT.on bQ)
   replace bX := bX.trans (bQ.mono bX.size)
   clear bQ hX egg10 e a
   refine rs_ 7 (fun a e => ?_)
   refine stepS rfl rfl (execStPt rfl (e _) (e _) F10 rfl (pts_one FPT)) ⟨_, ⟨_, rfl, rfl⟩, fun X4 hX => ?_⟩
   obtain ⟨bX, FPT, F10⟩ : Below X1.heap.size X1 X4 ∧ (PtS X4 V.heap.size 0 nv bv cv xs 0 0 0 p) ∧ X4.heap[g10]? = some (.cells (ptC nv bv cv) 55) := by rw [hX]; exact ⟨below4 bX Fge10 _, (FPT.set F10 (by decide) (by decide)), setRow_heap _ _ _ _ _ _ F10⟩
   clear hX e a
   refine rg_ [(9, .int .i64 ((3 : Nat) : Int))] ?_
   rintro a A ⟨t9, -⟩
   replace FP := (FP.on bX)
   replace Fz := (Fz.on bX)
   have ZX4 := bX.size
   replace BW := BW.trans (bX.mono BW.size)
   clear bX
   refine wp_seq (wp_seq ?_)
   refine wi_ A (h1_ t9) (rv_ 1 (.bool true) (fun a e => execDec (execNeE (p := 3) (q := 0) rfl (e _) rfl) (decide_eq_true (by decide))) (rf_ [(30, .bool true)] (h1_ t9) ?_))
   rintro a A ⟨t30, -⟩ ⟨t9, -⟩
   refine wp_cond_true t30 ?_
   clear t30
   refine wp_seq ?_
   refine wi_ A (h1_ t9) (rg_ [(6, .slice none 0 0), (7, .int .i64 ((3 : Nat) : Int))] ?_)
   rintro a A ⟨t6, t7, -⟩
   have hE : riE L ((N : Nat) : Int) ((J : Nat) : Int) p = 3 := by show (if inL _ _ then _ else _) = 3; rw [if_pos hin]; exact if_neg fun q => hL18 q.1
   rw [hE, zl_no (by decide)]
   refine wp_ret ?_
   repeat (first | with_reducible refine ret_in ?_ | with_reducible refine ret_then ?_)
   refine bodyPost_ret (results_tmp2 rfl _ _ _) A.2 ⟨_, ?_, World.ownsRow_nil _ _ _ _, BW⟩
   show Ending.returned (.tuple #[a.eval (.tmp 6), a.eval (.tmp 7)]) = _
   rw [t6, t7]
 ·refine wp_seq ?_
  refine wi_ A (h3_ t0 t1 t2) (rc_ 2 (sz2 hin V) fun e X1 hh => ?_)
  obtain ⟨z_, he, hb⟩ := hh
  refine ⟨_, he, ?_⟩
  have bQ : Below V.heap.size V X1 := hb
  have bX := bQ
  clear bQ
  refine rf_ [(8, z_), (9, .int .i64 ((2 : Nat) : Int))] (h3_ t0 t1 t2) ?_
  rintro a A ⟨t8, t9, -⟩ ⟨t0, t1, t2, -⟩
  replace FP := (FP.on bX)
  have ZX1 := bX.size
  replace BW := BW.trans (bX.mono BW.size)
  clear bX
  refine wp_seq (wp_seq ?_)
  refine wi_ A (h5_ t0 t1 t2 t8 t9) (rv_ 1 (.bool true) (fun a e => execDec (execNeE (p := 2) (q := 0) rfl (e _) rfl) (decide_eq_true (by decide))) (rf_ [(21, .bool true)] (h1_ t9) ?_))
  rintro a A ⟨t21, -⟩ ⟨t9, -⟩
  refine wp_cond_true t21 ?_
  clear t21
  refine wp_seq ?_
  refine wi_ A (h1_ t9) (rg_ [(6, .slice none 0 0), (7, .int .i64 ((2 : Nat) : Int))] ?_)
  rintro a A ⟨t6, t7, -⟩
  have hE : riE L n ch p = 2 := if_neg hin
  rw [hE, zl_no (by decide)]
  refine wp_ret ?_
  repeat (first | with_reducible refine ret_in ?_ | with_reducible refine ret_then ?_)
  refine bodyPost_ret (results_tmp2 rfl _ _ _) A.2 ⟨_, ?_, World.ownsRow_nil _ _ _ _, BW⟩
  show Ending.returned (.tuple #[a.eval (.tmp 6), a.eval (.tmp 7)]) = _
  rw [t6, t7]
set_option maxRecDepth 100000 in
set_option maxHeartbeats 4000000 in
theorem pshuffleS (p : Nat → Nat) (L m : Nat) (ch : Int) (g : Nat → ByteArray) (pv lv : Value) (V : World) (FP : SliceN V pv L p) (hl : L ≤ 140737488351232) (FI : SliceS V lv m g) :
  Calls Try.prog 14 #[pv, .int .i64 ch, lv] V fun e w' => ∃ r, e = .returned (.tuple #[r, .int .i64 ((riE L ((m : Nat) : Int) ch p : Nat) : Int)]) ∧ w'.ownsRow V.heap.size 9 1 r (zl (riE L ((m : Nat) : Int) ch p) m) (strsL (zl (riE L ((m : Nat) : Int) ch p) m) (fun i => g (orF L ((m : Nat) : Int) ch p i).toNat)) ∧ Below V.heap.size V w' := by
 go_enter Try.func14, Try.ntmps14
 refine wp_seq ?_
 refine wo_ 26 [(0, pv), (1, .int .i64 ch), (2, lv)] ?_
 rintro a A ⟨t0, t1, t2, -⟩
 refine wi_ A (h3_ t0 t1 t2) (rf_ [] (h3_ t0 t1 t2) ?_)
 rintro a A - ⟨t0, t1, t2, -⟩
 have BW : Below V.heap.size V V := Below.refl _ _
 refine wp_seq ?_
 refine wi_ A (h3_ t0 t1 t2) (rv_ 2 (.int .i64 ((m : Nat) : Int)) (fun a e => execLenS (len := m) rfl (e _) FI.shp) (rc_ 4 (porder p L ((m : Nat) : Int) ch _ V FP hl) fun e X1 hh => ?_))
 obtain ⟨o_, he, hk, hb⟩ := hh
 refine ⟨_, he, ?_⟩
 have bQ : Below V.heap.size V X1 := hb
 have FO : (SliceI X1 o_ (zl (riE L ((m : Nat) : Int) ch p) m) (orF L ((m : Nat) : Int) ch p)) := own_ints hk or_fits
 have bX := bQ
 clear bQ
 refine rf_ [(8, o_), (9, .int .i64 ((riE L ((m : Nat) : Int) ch p : Nat) : Int))] (h1_ t2) ?_
 rintro a A ⟨t8, t9, -⟩ ⟨t2, -⟩
 replace FP := (FP.on bX)
 replace FI := (FI.on bX)
 have ZX1 := bX.size
 replace BW := BW.trans (bX.mono BW.size)
 clear bX
 refine wp_seq (wp_seq ?_)
 by_cases hE : riE L ((m : Nat) : Int) ch p = 0
 ·refine wi_ A (h3_ t2 t8 t9) (rv_ 1 (.bool false) (fun a e => execDec (execNeE (p := riE L ((m : Nat) : Int) ch p) (q := 0) rfl (e _) rfl) (decide_eq_false (by omega))) (rf_ [(19, .bool false)] (h2_ t2 t8) ?_))
  rintro a A ⟨t19, -⟩ ⟨t2, t8, -⟩
  refine wp_cond_false t19 (wp_skip ?_)
  clear t19
  have hFit := ri_ok hE
  have hm : m ≤ 256 := hFit.le
  have hap : apE (orF L ((m : Nat) : Int) ch p) m m = 0 := if_pos ⟨hFit.or_pE, rfl⟩
  rw [hE, zl_ok]
  rw [hE, zl_ok] at FO
  refine wp_seq ?_
  refine wi_ A (h2_ t2 t8) (rc_ 2 (aps0 (orF L ((m : Nat) : Int) ch p) g m m _ _ X1 FO (by omega) FI hap) fun e X4 hh => ?_)
  obtain ⟨r_, he, hk, hb⟩ := hh
  refine ⟨_, he, ?_⟩
  have bQ : Below X1.heap.size X1 X4 := hb
  have FR : (X4.ownsRow V.heap.size 9 1 r_ m (strsL m (fun i => g (orF L ((m : Nat) : Int) ch p i).toNat))) := ownD_base hk (Nat.le_trans BW.size ((Below.refl X1.heap.size X1)).size)
  have bX := bQ
  clear bQ
  refine rg_ [(6, r_), (7, .int .i64 ((0 : Nat) : Int))] ?_
  rintro a A ⟨t6, t7, -⟩
  replace FP := (FP.on bX)
  replace FI := (FI.on bX)
  replace FO := (FO.on bX)
  have ZX4 := bX.size
  replace BW := BW.trans (bX.mono BW.size)
  clear bX
  refine wp_ret ?_
  repeat (first | with_reducible refine ret_in ?_ | with_reducible refine ret_then ?_)
  refine bodyPost_ret (results_tmp2 rfl _ _ _) A.2 ⟨_, ?_, FR, BW⟩
  show Ending.returned (.tuple #[a.eval (.tmp 6), a.eval (.tmp 7)]) = _
  rw [t6, t7]
 ·refine wi_ A (h3_ t2 t8 t9) (rv_ 1 (.bool true) (fun a e => execDec (execNeE (p := riE L ((m : Nat) : Int) ch p) (q := 0) rfl (e _) rfl) (decide_eq_true (by omega))) (rf_ [(19, .bool true)] (h3_ t2 t8 t9) ?_))
  rintro a A ⟨t19, -⟩ ⟨t2, t8, t9, -⟩
  refine wp_cond_true t19 ?_
  clear t19
  refine wp_seq ?_
  refine wi_ A (h3_ t2 t8 t9) (rg_ [(6, .slice none 0 0), (7, .int .i64 ((riE L ((m : Nat) : Int) ch p : Nat) : Int))] ?_)
  rintro a A ⟨t6, t7, -⟩
  rw [zl_no hE]
  refine wp_ret ?_
  repeat (first | with_reducible refine ret_in ?_ | with_reducible refine ret_then ?_)
  refine bodyPost_ret (results_tmp2 rfl _ _ _) A.2 ⟨_, ?_, World.ownsRow_nil _ _ _ _, BW⟩
  show Ending.returned (.tuple #[a.eval (.tmp 6), a.eval (.tmp 7)]) = _
  rw [t6, t7]
end Go.Proofs.Ytmjpneaccjlpkaa.Rif
