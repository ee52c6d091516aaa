import Derived.Test.YtmjpneaccjlpkaaF9c
import Derived.Test.YtmjpneaccjlpkaaF9b
import Derived.Test.YtmjpneaccjlpkaaS9e
import Derived.Test.YtmjpneaccjlpkaaQ9n
import Derived.Test.YtmjpneaccjlpkaaQ9u
import Derived.Test.YtmjpneaccjlpkaaQ9t
import Derived.Test.YtmjpneaccjlpkaaQ9x
import Derived.Test.YtmjpneaccjlpkaaV9v
import Derived.Test.YtmjpneaccjlpkaaV9y
import Derived.Test.YtmjpneaccjlpkaaH9d
import Derived.Test.YtmjpneaccjlpkaaM9e
namespace Go.Proofs.Ytmjpneaccjlpkaa.Rif
open Go.RowKit Gf8 Aes By8 Cel Cf Tap Drw Prm Brd
/- Package riffle as it landed: raised, braided, shuffled. Written by tools/mkX9a.py. -/
structure LLB (W : World) (v : Value) (J : Nat) (x : Nat → Value) (l : Nat) (gg : Nat → Nat → Nat) : Prop where
 shape : ∃ a cap, v = .slice a J cap ∧ (0 < J → ∃ b off, a = some ⟨b, off, none⟩ ∧ b < W.heap.size ∧ ∀ j, j < J → W.cell? ⟨b, off + j, none⟩ = some (x j))
 lists : ∀ j, j < J → SliceN W (x j) l (gg j)
 nils : ∀ j, j < J → ∀ l c, x j = .slice none l c → c = 0
section
variable {W W' : World} {v : Value} {J l : Nat} {x : Nat → Value} {gg : Nat → Nat → Nat}
theorem LLB.on (h : LLB W v J x l gg) (hb : Below W.heap.size W W') : LLB W' v J x l gg := by
 obtain ⟨a, cap, e, hs⟩ := h.shape
 refine ⟨⟨a, cap, e, fun h0 => ?_⟩, fun j hj => (h.lists j hj).on hb, h.nils⟩
 obtain ⟨b, off, e1, e2, e3⟩ := hs h0
 exact ⟨b, off, e1, Nat.lt_of_lt_of_le e2 hb.size, fun j hj => by rw [cell_below hb e2]; exact e3 j hj⟩
theorem LLB.at (h : LLB W v J x l gg) (hJ : 0 < J) : ∃ b o c, v = .slice (some ⟨b, o, none⟩) J c ∧ b < W.heap.size ∧ ∀ j, j < J → W.cell? ⟨b, o + j, none⟩ = some (x j) := by
 obtain ⟨a, c, rfl, hs⟩ := h.shape
 obtain ⟨b, o, rfl, h1, h2⟩ := hs hJ
 exact ⟨b, o, c, rfl, h1, h2⟩
end
def dN_ (q : Nat → Nat) (l N i : Nat) : Nat := dA q l (bI N) i
def dQ (q : Nat → Nat) (l N i : Nat) : Int := (dA q l (bI N) i : Int)
def brE (q : Nat → Nat) (l N : Nat) : Nat := if okB q l (bI N) N = true then 0 else 3
def shE (gg : Nat → Nat → Nat) (l N J : Nat) : Nat := if allB (fun t => okB (gg t) l (bI (szF N J t)) (szF N J t - 1)) J = true then 0 else 3
def thF (gg : Nat → Nat → Nat) (l N J t k : Nat) : Int := ((frA (szF N J t) (dN_ (gg t) l (szF N J t)) (szF N J t - 1) k + sumN (szF N J) t : Nat) : Int)
theorem bI_fits {n m : Nat} (hn : n ≤ 256) : ∀ j, j < m → m ≤ n → -9223372036854775808 ≤ bI n j ∧ bI n j < 9223372036854775808 := fun j hj hm => by
 show -9223372036854775808 ≤ (n : Int) - (j : Int) ∧ (n : Int) - (j : Int) < 9223372036854775808
 omega
theorem pbd {N : Nat} (hN : N ≤ 256) (V : World) : Calls Try.prog 42 #[.int .i64 ((N : Nat) : Int)] V fun e w' => ∃ r, e = .returned r ∧ SliceI w' r N (bI N) ∧ Below V.heap.size V w' :=
 Calls.mono (pbounds12 (N : Int) V) fun e w' ⟨r, g1, g2, g3⟩ => ⟨r, g1, by
  rw [show bdN ((N : Nat) : Int) = N from if_pos (by omega)] at g2
  exact own_ints g2 (fun j hj => bI_fits hN j hj (Nat.le_refl _)), g3⟩
theorem rbd {N : Nat} (hN : N ≤ 256) (V : World) : Calls Try.prog 32 #[.int .i64 ((N : Nat) : Int)] V fun e w' => ∃ r, e = .returned r ∧ SliceI w' r N (bI N) ∧ Below V.heap.size V w' :=
 Calls.mono (rbounds12 (N : Int) V) fun e w' ⟨r, g1, g2, g3⟩ => ⟨r, g1, by
  rw [show bdN ((N : Nat) : Int) = N from if_pos (by omega)] at g2
  exact own_ints g2 (fun j hj => bI_fits hN j hj (Nat.le_refl _)), g3⟩
theorem pm1 (m : Nat) : (((m : Nat) : Int) - 1).toNat = m - 1 := by omega
theorem ppb {m : Nat} (hm : m ≤ 256) (V : World) : Calls Try.prog 44 #[.int .i64 ((m : Nat) : Int)] V fun e w' => ∃ r, e = .returned r ∧ SliceI w' r (m - 1) (bI m) ∧ Below V.heap.size V w' :=
 Calls.mono (pbounds (m : Int) V (by omega)) fun e w' ⟨r, g1, g2, g3⟩ => ⟨r, g1, by
  rw [pm1] at g2
  exact own_ints g2 (fun j hj => bI_fits hm j hj (by omega)), g3⟩
theorem rpb {m : Nat} (hm : m ≤ 256) (V : World) : Calls Try.prog 34 #[.int .i64 ((m : Nat) : Int)] V fun e w' => ∃ r, e = .returned r ∧ SliceI w' r (m - 1) (bI m) ∧ Below V.heap.size V w' :=
 Calls.mono (rbounds (m : Int) V (by omega)) fun e w' ⟨r, g1, g2, g3⟩ => ⟨r, g1, by
  rw [pm1] at g2
  exact own_ints g2 (fun j hj => bI_fits hm j hj (by omega)), g3⟩
section
variable (q : Nat → Nat) (l N m : Nat) (pv bv : Value) (V : World)
theorem al0 (FP : SliceN V pv l q) (hl : l ≤ 140737488351232) (FB : SliceI V bv m (bI N)) (hN : N ≤ 256) (hm : m ≤ N) (hok : okB q l (bI N) m = true) :
  Calls Try.prog 41 #[pv, bv] V fun e w' => ∃ r, e = .returned (.tuple #[r, .int .i64 ((plA q l (bI N) m : Nat) : Int), .int .i64 ((0 : Nat) : Int)]) ∧ SliceI w' r m (dQ q l N) ∧ Below V.heap.size V w' :=
 Calls.mono (Drw.impl.all q l (bI N) m pv bv V FP hl FB (by omega)) fun e w' ⟨r, g1, g2, g3⟩ => by
  have hE : allE q l (bI N) m = 0 := by rw [allE_bI hN hm, if_pos hok]
  have hK : allK q l (bI N) m = plA q l (bI N) m := if_pos hE
  have hA : allN q l (bI N) m = m := if_pos hE
  rw [hE, hK] at g1
  rw [hA] at g2
  exact ⟨r, g1, own_ints g2 (dA_fits _ _ _ _), g3⟩
theorem al3 (FP : SliceN V pv l q) (hl : l ≤ 140737488351232) (FB : SliceI V bv m (bI N)) (hN : N ≤ 256) (hm : m ≤ N) (hok : okB q l (bI N) m = false) :
  Calls Try.prog 41 #[pv, bv] V fun e w' => ∃ r, e = .returned (.tuple #[r, .int .i64 ((0 : Nat) : Int), .int .i64 ((3 : Nat) : Int)]) ∧ Below V.heap.size V w' :=
 Calls.mono (Drw.impl.all q l (bI N) m pv bv V FP hl FB (by omega)) fun e w' ⟨r, g1, g2, g3⟩ => by
  have hE : allE q l (bI N) m = 3 := by rw [allE_bI hN hm, if_neg (by rw [hok]; decide)]
  have hK : allK q l (bI N) m = 0 := if_neg (by rw [hE]; decide)
  rw [hE, hK] at g1
  exact ⟨r, g1, g3⟩
theorem ral0 (FP : SliceN V pv l q) (hl : l ≤ 140737488351232) (FB : SliceI V bv m (bI N)) (hN : N ≤ 256) (hm : m ≤ N) (hok : okB q l (bI N) m = true) :
  Calls Try.prog 51 #[pv, bv] V fun e w' => ∃ r, e = .returned (.tuple #[r, .int .i64 ((plA q l (bI N) m : Nat) : Int), .int .i64 ((0 : Nat) : Int)]) ∧ SliceI w' r m (dQ q l N) ∧ Below V.heap.size V w' :=
 Calls.mono (rall_any q l (bI N) m pv bv V FP hl FB (by omega)) fun e w' ⟨r, g1, g2, g3⟩ => by
  have hE : allE q l (bI N) m = 0 := by rw [allE_bI hN hm, if_pos hok]
  have hK : allK q l (bI N) m = plA q l (bI N) m := if_pos hE
  have hA : allN q l (bI N) m = m := if_pos hE
  rw [hE, hK] at g1
  rw [hA] at g2
  exact ⟨r, g1, own_ints g2 (dA_fits _ _ _ _), g3⟩
theorem ral3 (FP : SliceN V pv l q) (hl : l ≤ 140737488351232) (FB : SliceI V bv m (bI N)) (hN : N ≤ 256) (hm : m ≤ N) (hok : okB q l (bI N) m = false) :
  Calls Try.prog 51 #[pv, bv] V fun e w' => ∃ r, e = .returned (.tuple #[r, .int .i64 ((0 : Nat) : Int), .int .i64 ((3 : Nat) : Int)]) ∧ Below V.heap.size V w' :=
 Calls.mono (rall_any q l (bI N) m pv bv V FP hl FB (by omega)) fun e w' ⟨r, g1, g2, g3⟩ => by
  have hE : allE q l (bI N) m = 3 := by rw [allE_bI hN hm, if_neg (by rw [hok]; decide)]
  have hK : allK q l (bI N) m = 0 := if_neg (by rw [hE]; decide)
  rw [hE, hK] at g1
  exact ⟨r, g1, g3⟩
end
theorem pat0 (sf df : Nat → Int) (J m : Nat) (v u0 : Value) (V : World) (hv : SliceI V v J sf) (hJ17 : J ≤ 17592186044416) (hv2 : SliceI V u0 m df) (hm17 : m ≤ 17592186044416) (hpa : paQ sf J df m = true) :
  Calls Try.prog 43 #[v, u0] V fun e w' => ∃ r1 r2, e = .returned (.tuple #[r1, r2, .int .i64 ((0 : Nat) : Int)]) ∧ FmI V.heap.size 2 (x2 r1 r2) (fun _ => m) (f2 (pcF sf J df) (poF sf J df m)) w' ∧ Below V.heap.size V w' :=
 Calls.mono (ppattern sf df J m v u0 V hv hJ17 hv2 hm17) fun e w' ⟨r1, r2, g1, g2, g3⟩ => ⟨r1, r2, by rw [paE_ok hpa] at g1; exact g1, by rw [paE_ok hpa, zl_ok] at g2; exact g2, g3⟩
theorem rpat0 (sf df : Nat → Int) (J m : Nat) (v u0 : Value) (V : World) (hv : SliceI V v J sf) (hJ17 : J ≤ 17592186044416) (hv2 : SliceI V u0 m df) (hm17 : m ≤ 17592186044416) (hpa : paQ sf J df m = true) :
  Calls Try.prog 52 #[v, u0] V fun e w' => ∃ r1 r2, e = .returned (.tuple #[r1, r2, .int .i64 ((0 : Nat) : Int)]) ∧ FmI V.heap.size 2 (x2 r1 r2) (fun _ => m) (f2 (pcF sf J df) (poF sf J df m)) w' ∧ Below V.heap.size V w' :=
 Calls.mono (rpattern sf df J m v u0 V hv hJ17 hv2 hm17) fun e w' ⟨r1, r2, g1, g2, g3⟩ => ⟨r1, r2, by rw [paE_ok hpa] at g1; exact g1, by rw [paE_ok hpa, zl_ok] at g2; exact g2, g3⟩
theorem fr0 (m : Nat) (d : Nat → Int) (k : Nat) (v : Value) (V : World) (hv : SliceI V v k d) (hk : k ≤ 17592186043904) (hfr : frE ((m : Nat) : Int) d k = 0) (hm : m < 9223372036854775808 := by omega) :
  Calls Try.prog 45 #[.int .i64 ((m : Nat) : Int), v] V fun e w' => ∃ r, e = .returned (.tuple #[r, .int .i64 ((0 : Nat) : Int)]) ∧ w'.ownsRow V.heap.size 3 1 r m (intsL m (fun j => (frA m (gN d) k j : Int))) ∧ Below V.heap.size V w' :=
 Calls.mono (pfrom (m : Int) d k v V hv hk (by omega)) fun e w' ⟨r, g1, g2, g3⟩ => ⟨r, by rw [hfr] at g1; exact g1, by rw [hfr, zl_ok] at g2; exact g2, g3⟩
theorem rfr0 (m : Nat) (d : Nat → Int) (k : Nat) (v : Value) (V : World) (hv : SliceI V v k d) (hk : k ≤ 17592186043904) (hfr : frE ((m : Nat) : Int) d k = 0) :
  Calls Try.prog 53 #[.int .i64 ((m : Nat) : Int), v] V fun e w' => ∃ r, e = .returned (.tuple #[r, .int .i64 ((0 : Nat) : Int)]) ∧ w'.ownsRow V.heap.size 3 1 r m (intsL m (fun j => (frA m (gN d) k j : Int))) ∧ Below V.heap.size V w' :=
 Calls.mono (rfrom (m : Int) d k v V hv hk) fun e w' ⟨r, g1, g2, g3⟩ => ⟨r, by rw [hfr] at g1; exact g1, by rw [hfr, zl_ok] at g2; exact g2, g3⟩
theorem frA_le {q : Nat → Nat} {l N m : Nat} (hm : m ≤ N) (hok : okB q l (bI m) (m - 1) = true) (hN : N ≤ 256) : ∀ k, k < m → frA m (dN_ q l m) (m - 1) k ≤ 256 := fun k hk => by
 have h := (frA_isP (n := m) (k := m - 1) (d := dN_ q l m) (by omega) fun i hi => by
  have : (dA q l (bI m) i : Int) < (m : Int) - (i : Int) := dA_lt' (okB_iff.1 hok) hi
  show dA q l (bI m) i < m - i
  omega).1 k hk
 omega
theorem frA_fits {q : Nat → Nat} {l N m : Nat} (hm : m ≤ N) (hok : okB q l (bI m) (m - 1) = true) (hN : N ≤ 256) : ∀ k, k < m → -9223372036854775808 ≤ ((frA m (dN_ q l m) (m - 1) k : Nat) : Int) ∧ ((frA m (dN_ q l m) (m - 1) k : Nat) : Int) < 9223372036854775808 := fun k hk => by
 have := frA_le hm hok hN k hk
 omega
theorem thF_fits {gg : Nat → Nat → Nat} {l N J : Nat} (hN : N ≤ 256) (h1 : 1 ≤ J) (hall : ∀ t, t < J → okB (gg t) l (bI (szF N J t)) (szF N J t - 1) = true) : ∀ t, t < J → ∀ k, k < szF N J t → -9223372036854775808 ≤ thF gg l N J t k ∧ thF gg l N J t k < 9223372036854775808 := fun t ht k hk => by
 have h3 := frA_le (szF_le N ht) (hall t ht) hN k hk
 have h4 := sumN_at (r := szF N J) ht
 rw [szF_sum N h1] at h4
 show -9223372036854775808 ≤ ((_ + _ : Nat) : Int) ∧ ((_ + _ : Nat) : Int) < 9223372036854775808
 omega
theorem fmI_base {B C k : Nat} {x : Nat → Value} {nn : Nat → Nat} {ff : Nat → Nat → Int} {W : World} (h : FmI C k x nn ff W) (hB : B ≤ C) : FmI B k x nn ff W := ⟨fun t ht => ownD_base (h.rows t ht) hB, h.dis⟩
theorem ownL_cell2 {W : World} {B n g cap j : Nat} {y : Nat → Value} (h : W.ownsRow B 24 1 (.slice (some ⟨g, 0, none⟩) n cap) n (lL y n)) (hj : j < n) : W.cell? ⟨g, 0 + j, none⟩ = some (y j) ∧ W.frozen? ⟨g, 0 + j, none⟩ = false := by
 refine ⟨ownL_cellI h hj, ?_⟩
 obtain ⟨cur, hg, _⟩ := own_cur h
 rw [Nat.zero_add]
 exact frozen4 hg
set_option maxRecDepth 100000 in
set_option maxHeartbeats 4000000 in
theorem praised (g : Nat → Nat) (n B : Nat) (v : Value) (V : World) (FI : SliceI V v n (fun j => (g j : Int))) (hn : n ≤ 256) (hg : ∀ j, j < n → g j ≤ 256) (hB : B ≤ 256) :
  Calls Try.prog 46 #[v, .int .i64 ((B : Nat) : Int)] V fun e w' => ∃ r, e = .returned r ∧ w'.ownsRow V.heap.size 3 1 r n (intsL n (fun j => ((g j + B : Nat) : Int))) ∧ Below V.heap.size V w' := by
 go_enter Try.func46, Try.ntmps46
 refine wp_seq ?_
 refine wo_ 26 [(0, v), (1, .int .i64 ((B : Nat) : Int))] ?_
 rintro a A ⟨t0, t1, -⟩
 refine wi_ A (h2_ t0 t1) (rf_ [] (h2_ t0 t1) ?_)
 rintro a A - ⟨t0, t1, -⟩
 have BW : Below V.heap.size V V := Below.refl _ _
 have BB := BW
 refine wp_seq ?_
 obtain ⟨g10, egg10⟩ : ∃ z_ : Nat, V.heap.size = z_ := ⟨_, rfl⟩
 refine wi_ A (h2_ t0 t1) (rv_ 1 (.int .i64 ((n : Nat) : Int)) (fun a e => execLenI (len := n) rfl (e _) ((FI.on BB)).shp) (rs_ 2 (fun a e => ?_)))
 refine stepV rfl rfl (execMkN rfl (e _) (e _) (by omega)) ⟨.slice (some ⟨g10, 0, none⟩) n n, ⟨_, rfl, by subst egg10; rfl⟩, fun X1 hX => ?_⟩
 have bQ : Below V.heap.size V X1 := by subst hX egg10; exact (belNew V _)
 have FO : (X1.ownsRow V.heap.size 3 1 (.slice (some ⟨g10, 0, none⟩) n n) (n) (intsL (n) (fun j => if j < 0 then ((g j + B : Nat) : Int) else 0))) := by subst hX egg10; exact ownD_base (own_mkZ V n _ (by omega) (fun j_ _ => if_neg (Nat.not_lt_zero _))) (BB).size
 have Fg : (V.heap.size ≤ g10) := by subst hX egg10; exact (BB).size
 replace BB := BB.trans (bQ.mono BB.size)
 clear bQ hX egg10 e a
 refine rf_ [(5, .slice (some ⟨g10, 0, none⟩) n n)] (h2_ t0 t1) ?_
 rintro a A ⟨t5, -⟩ ⟨t0, t1, -⟩
 refine wp_seq (wp_seq ?_)
 refine wi_ A (h3_ t0 t1 t5) (rv_ 1 (.int .i64 ((n : Nat) : Int)) (fun a e => execLenI (len := n) rfl (e _) ((FI.on BB)).shp) (rf_ [(11, v), (12, .int .i64 ((n : Nat) : Int)), (13, .int .i64 ((0 : Nat) : Int))] (h2_ t1 t5) ?_))
 rintro a A ⟨t11, t12, t13, -⟩ ⟨t1, t5, -⟩
 refine wp_block ?_
 refine wp_loop (fun a W => ∃ (i : Nat), i ≤ n ∧ (a.tmps.size = 26 ∧ a.defers = []) ∧ a.eval (.tmp 1) = .int .i64 ((B : Nat) : Int) ∧ a.eval (.tmp 5) = .slice (some ⟨g10, 0, none⟩) n n ∧ a.eval (.tmp 11) = v ∧ a.eval (.tmp 12) = .int .i64 ((n : Nat) : Int) ∧ a.eval (.tmp 13) = .int .i64 ((i : Nat) : Int) ∧ Below V.heap.size V W ∧ (W.ownsRow V.heap.size 3 1 (.slice (some ⟨g10, 0, none⟩) n n) (n) (intsL (n) (fun j => if j < i then ((g j + B : Nat) : Int) else 0)))) (fun a _ => n - (intOf (a.eval (.tmp 13))).toNat) ⟨0, Nat.zero_le _, A, t1, t5, t11, t12, t13, BB, FO⟩ ?_
 rintro a XL3 ⟨i, hi, A, t1, t5, t11, t12, t13, BB, FO⟩
 have esi := t13
 refine wp_seq ?_
 refine wi_ A (h5_ t1 t5 t11 t12 t13) (rv_ 0 (.bool (decide (i < n))) (fun a e => execLtW (p := i) (q := n) rfl (e _) (e _)) (rf_ [(14, .bool (decide (i < n)))] (h5_ t1 t5 t11 t12 t13) ?_))
 rintro a A ⟨t14, -⟩ ⟨t1, t5, t11, t12, t13, -⟩
 refine wp_seq ?_
 by_cases lti : i < n
 ·rw [decide_eq_true lti] at t14
  refine wp_cond_true t14 (wp_skip ?_)
  clear t14
  refine wp_seq (wp_block ?_)
  obtain ⟨vvb, vvo, vvc, evv, hvvb, hvvc⟩ := open_sl FI (by omega)
  have cvv : ∀ k, k < n → ∀ X, Below V.heap.size V X → X.cell? ⟨vvb, vvo + k, none⟩ = some (.int .i64 ((fun j => (g j : Int)) k)) := fun k hk X hX => by rw [cell_below hX hvvb]; exact hvvc k hk
  have hgi := hg i lti
  refine wp_seq ?_
  refine wi_ A (h5_ t1 t5 t11 t12 t13) (rv_ 1 (.pointer (some ⟨vvb, vvo + i, none⟩)) (fun a e => execIdxN (k := i) rfl ((e _).trans evv) (e _) lti) (rv_ 2 (.int .i64 ((g i : Nat) : Int)) (fun a e => execLd3 rfl (e _) (cvv i lti XL3 BB)) (rf_ [(6, .int .i64 ((i : Nat) : Int)), (7, .int .i64 ((g i : Nat) : Int))] (h5_ t1 t5 t11 t12 t13) ?_)))
  rintro a A ⟨t6, t7, -⟩ ⟨t1, t5, t11, t12, t13, -⟩
  refine wi_ A (h7_ t1 t5 t11 t12 t13 t6 t7) (rv_ 4 (.int .i64 ((g i + B : Nat) : Int)) (fun a e => execAd8 (p := g i) (q := B) rfl (e _) (e _) (by omega)) (rv_ 5 (.pointer (some ⟨g10, 0 + i, none⟩)) (fun a e => execIdxN (k := i) rfl (e _) (e _) lti) (rs_ 6 (fun a e => ?_))))
  obtain ⟨hc_, hf_⟩ := own_cellI FO lti
  refine stepS rfl rfl (execStI9 rfl (e _) (e _) hc_ hf_) ⟨_, ⟨_, rfl, rfl⟩, fun X5 hX => ?_⟩
  obtain ⟨BB, FO2⟩ : Below V.heap.size V X5 ∧ (X5.ownsRow V.heap.size 3 1 (.slice (some ⟨g10, 0, none⟩) n n) (n) (intsL (n) (fun j => if j < (i + 1) then ((g j + B : Nat) : Int) else 0))) := by subst hX; exact ⟨(BB).setCell Fg _, own_fill (F := fun j => ((g j + B : Nat) : Int)) FO rfl⟩
  clear FO hX e a
  refine rf_ [] (h5_ t1 t5 t11 t12 t13) ?_
  rintro a A - ⟨t1, t5, t11, t12, t13, -⟩
  refine wi_ A (h5_ t1 t5 t11 t12 t13) (rv_ 0 (.int .i64 ((i + 1 : Nat) : Int)) (fun a e => execAd8 (p := i) (q := 1) rfl (e _) rfl (by omega)) (rf_ [(13, .int .i64 ((i + 1 : Nat) : Int))] (h4_ t1 t5 t11 t12) ?_))
  rintro a A ⟨t13, -⟩ ⟨t1, t5, t11, t12, -⟩
  exact ⟨⟨i + 1, lti, A, t1, t5, t11, t12, t13, BB, FO2⟩, by show n - (intOf (a.eval (.tmp 13))).toNat < n - (intOf (Act.eval _ (.tmp 13))).toNat; rw [t13, esi]; show n - (i + 1) < n - i; omega⟩
 ·rw [decide_eq_false lti] at t14
  refine wp_cond_false t14 ?_
  refine wp_exit ?_
  first | with_reducible refine exit_in ?_ | with_reducible refine exit_then (exit_in ?_) | with_reducible refine exit_then (exit_then (exit_in ?_)) | refine exit_in ?_ | refine exit_then (exit_in ?_) | refine exit_then (exit_then (exit_in ?_))
  clear t14 esi
  have hiJ : i = n := by omega
  rw [hiJ, intsL_congr (g := fun j => ((g j + B : Nat) : Int)) (fun j hj => if_pos hj)] at FO
  clear t1 t11 t12 t13
  refine wp_seq ?_
  refine wi_ A (h1_ t5) (rg_ [(4, .slice (some ⟨g10, 0, none⟩) n n)] ?_)
  rintro a A ⟨t4, -⟩
  refine wp_ret ?_
  refine bodyPost_ret (results_tmp rfl _ _ _) A.2 ⟨_, ?_, FO, BB⟩
  show Ending.returned (a.eval (.tmp 4)) = _
  rw [t4]
set_option maxRecDepth 100000 in
set_option maxHeartbeats 4000000 in
theorem pbraided (q : Nat → Nat) (l N J : Nat) (pv sv : Value) (V : World) (FP : SliceN V pv l q) (hl : l ≤ 140737488351232) (FXs : SliceI V sv J (sI N J)) (hN : N ≤ 256) (h1 : 1 ≤ J) (h2 : J ≤ 64) :
  Calls Try.prog 21 #[pv, .int .i64 ((N : Nat) : Int), sv] V fun e w' => ∃ r1 r2, e = .returned (.tuple #[r1, r2, .int .i64 ((brE q l N : Nat) : Int)]) ∧ FmI V.heap.size 2 (x2 r1 r2) (fun _ => zl (brE q l N) N) (f2 (pcF (sI N J) J (dQ q l N)) (poF (sI N J) J (dQ q l N) N)) w' ∧ Below V.heap.size V w' := by
 go_enter Try.func21, Try.ntmps21
 refine wp_seq ?_
 refine wo_ 28 [(0, pv), (1, .int .i64 ((N : Nat) : Int)), (2, sv)] ?_
 rintro a A ⟨t0, t1, t2, -⟩
 refine wi_ A (h3_ t0 t1 t2) (rf_ [] (h3_ t0 t1 t2) ?_)
 rintro a A - ⟨t0, t1, t2, -⟩
 have BW : Below V.heap.size V V := Below.refl _ _
 refine wp_seq ?_
 cases hok : okB q l (bI N) N with
 | false =>
  refine wi_ A (h3_ t0 t1 t2) (rc_ 2 (pbd hN V) fun e X1_1 hh => ?_)
  obtain ⟨b14, he, hk, hb⟩ := hh
  refine ⟨_, he, ?_⟩
  have bQ : Below V.heap.size V X1_1 := hb
  have Fb14 : (SliceI X1_1 b14 (N) (bI N)) := hk
  have bX := bQ
  clear bQ
  refine rc_ 3 (al3 q l N N _ _ X1_1 (FP.on bX) hl Fb14 hN (Nat.le_refl _) hok) fun e X1 hh => ?_
  obtain ⟨a15, he, hb⟩ := hh
  refine ⟨_, he, ?_⟩
  have bQ : Below X1_1.heap.size X1_1 X1 := hb
  replace Fb14 := (Fb14.on bQ)
  replace bX := bX.trans (bQ.mono bX.size)
  clear bQ
  refine rf_ [(8, .int .i64 ((3 : Nat) : Int)), (9, a15)] (h1_ t2) ?_
  rintro a A ⟨t8, t9, -⟩ ⟨t2, -⟩
  replace FP := (FP.on bX)
  replace FXs := (FXs.on bX)
  have ZX1 := bX.size
  replace BW := BW.trans (bX.mono BW.size)
  clear bX
  refine wp_seq (wp_seq ?_)
  refine wi_ A (h3_ t2 t8 t9) (rv_ 1 (.bool true) (fun a e => execDec (execNeE (p := 3) (q := 0) rfl (e _) rfl) (decide_eq_true (by decide))) (rf_ [(20, .bool true)] (h3_ t2 t8 t9) ?_))
  rintro a A ⟨t20, -⟩ ⟨t2, t8, t9, -⟩
  refine wp_cond_true t20 ?_
  clear t20
  refine wp_seq ?_
  refine wi_ A (h3_ t2 t8 t9) (rg_ [(6, .slice none 0 0), (7, .slice none 0 0), (8, .int .i64 ((3 : Nat) : Int))] ?_)
  rintro a A ⟨t6, t7, t8, -⟩
  have hE : brE q l N = 3 := if_neg (by rw [hok]; decide)
  rw [hE, zl_no (by decide)]
  refine wp_ret ?_
  repeat (first | with_reducible refine ret_in ?_ | with_reducible refine ret_then ?_)
  refine bodyPost_ret (results_tmp3 rfl _ _ _) A.2 ⟨_, _, ?_, fm2nil _ _ _, BW⟩
  show Ending.returned (.tuple #[a.eval (.tmp 6), a.eval (.tmp 7), a.eval (.tmp 8)]) = _
  rw [t6, t7, t8]
 | true =>
  refine wi_ A (h3_ t0 t1 t2) (rc_ 2 (pbd hN V) fun e X1_1 hh => ?_)
  obtain ⟨b14, he, hk, hb⟩ := hh
  refine ⟨_, he, ?_⟩
  have bQ : Below V.heap.size V X1_1 := hb
  have Fb14 : (SliceI X1_1 b14 (N) (bI N)) := hk
  have bX := bQ
  clear bQ
  refine rc_ 3 (al0 q l N N _ _ X1_1 (FP.on bX) hl Fb14 hN (Nat.le_refl _) hok) fun e X1 hh => ?_
  obtain ⟨a15, he, hk, hb⟩ := hh
  refine ⟨_, he, ?_⟩
  have bQ : Below X1_1.heap.size X1_1 X1 := hb
  have Fa15 : (SliceI X1 a15 (N) (dQ q l N)) := hk
  replace Fb14 := (Fb14.on bQ)
  replace bX := bX.trans (bQ.mono bX.size)
  clear bQ
  refine rf_ [(8, .int .i64 ((0 : Nat) : Int)), (9, a15)] (h1_ t2) ?_
  rintro a A ⟨t8, t9, -⟩ ⟨t2, -⟩
  replace FP := (FP.on bX)
  replace FXs := (FXs.on bX)
  have ZX1 := bX.size
  replace BW := BW.trans (bX.mono BW.size)
  clear bX
  refine wp_seq (wp_seq ?_)
  refine wi_ A (h3_ t2 t8 t9) (rv_ 1 (.bool false) (fun a e => execDec (execNeE (p := 0) (q := 0) rfl (e _) rfl) (decide_eq_false (by decide))) (rf_ [(20, .bool false)] (h3_ t2 t8 t9) ?_))
  rintro a A ⟨t20, -⟩ ⟨t2, t8, t9, -⟩
  refine wp_cond_false t20 (wp_skip ?_)
  clear t20
  have hE : brE q l N = 0 := if_pos hok
  rw [hE, zl_ok]
  have hpa : paQ (sI N J) J (dQ q l N) N = true := paQ_iff.2 ⟨sI_szQ hN h1 h2, by rw [sI_g, szF_sum N h1], dA_fa (okB_iff.1 hok)⟩
  refine wp_seq ?_
  refine wi_ A (h3_ t2 t8 t9) (rc_ 2 (pat0 (sI N J) (dQ q l N) J N _ _ X1 FXs (by omega) Fa15 (by omega) hpa) fun e X4 hh => ?_)
  obtain ⟨p24, o24, he, hk, hb⟩ := hh
  refine ⟨_, he, ?_⟩
  have bQ : Below X1.heap.size X1 X4 := hb
  have FM : (FmI V.heap.size 2 (x2 p24 o24) (fun _ => N) (f2 (pcF (sI N J) J (dQ q l N)) (poF (sI N J) J (dQ q l N) N)) X4) := fmI_base hk (Nat.le_trans BW.size ((Below.refl X1.heap.size X1)).size)
  have bX := bQ
  clear bQ
  refine rg_ [(6, p24), (7, o24), (8, .int .i64 ((0 : Nat) : Int))] ?_
  rintro a A ⟨t6, t7, t8, -⟩
  replace FP := (FP.on bX)
  replace FXs := (FXs.on bX)
  replace Fb14 := (Fb14.on bX)
  replace Fa15 := (Fa15.on bX)
  have ZX4 := bX.size
  replace BW := BW.trans (bX.mono BW.size)
  clear bX
  refine wp_ret ?_
  repeat (first | with_reducible refine ret_in ?_ | with_reducible refine ret_then ?_)
  refine bodyPost_ret (results_tmp3 rfl _ _ _) A.2 ⟨_, _, ?_, FM, BW⟩
  show Ending.returned (.tuple #[a.eval (.tmp 6), a.eval (.tmp 7), a.eval (.tmp 8)]) = _
  rw [t6, t7, t8]
set_option maxRecDepth 100000 in
set_option maxHeartbeats 4000000 in
theorem pshuffled (x : Nat → Value) (gg : Nat → Nat → Nat) (l N J : Nat) (cv sv : Value) (V : World) (hL : LLB V cv J x l gg) (hl : l ≤ 140737488351232) (FXs : SliceI V sv J (sI N J)) (hN : N ≤ 256) (h1 : 1 ≤ J) (h2 : J ≤ 64) :
  Calls Try.prog 22 #[cv, sv] V fun e w' => ∃ r y, e = .returned (.tuple #[r, .int .i64 ((shE gg l N J : Nat) : Int)]) ∧ (shE gg l N J = 0 → LLI w' r J y (szF N J) (thF gg l N J)) ∧ Below V.heap.size V w' := by
 go_enter Try.func22, Try.ntmps22
 refine wp_seq ?_
 refine wo_ 58 [(0, cv), (1, sv)] ?_
 rintro a A ⟨t0, t1, -⟩
 refine wi_ A (h2_ t0 t1) (rf_ [] (h2_ t0 t1) ?_)
 rintro a A - ⟨t0, t1, -⟩
 have BW : Below V.heap.size V V := Below.refl _ _
 have BB := BW
 refine wp_seq ?_
 obtain ⟨g16, egg16⟩ : ∃ z_ : Nat, V.heap.size = z_ := ⟨_, rfl⟩
 refine wi_ A (h2_ t0 t1) (rv_ 1 (.int .i64 ((J : Nat) : Int)) (fun a e => execLenI (len := J) rfl (e _) ((FXs.on BB)).shp) (rs_ 2 (fun a e => ?_)))
 refine stepV rfl rfl (execMkLI rfl (e _) (e _) (by omega)) ⟨.slice (some ⟨g16, 0, none⟩) J J, ⟨_, rfl, by subst egg16; rfl⟩, fun X1 hX => ?_⟩
 have bQ : Below V.heap.size V X1 := by subst hX egg16; exact (belNew V _)
 have FT : (X1.ownsRow V.heap.size 24 1 (.slice (some ⟨g16, 0, none⟩) J J) J (lL (fun _ => .slice none 0 0) J)) := by subst hX egg16; exact ownD_base (own_mkLI V J (by omega)) (BB).size
 have Fg : (V.heap.size ≤ g16) := by subst hX egg16; exact (BB).size
 replace BB := BB.trans (bQ.mono BB.size)
 clear bQ hX egg16 e a
 refine rf_ [(6, .slice (some ⟨g16, 0, none⟩) J J)] (h2_ t0 t1) ?_
 rintro a A ⟨t6, -⟩ ⟨t0, t1, -⟩
 refine wp_seq ?_
 refine wi_ A (h3_ t0 t1 t6) (rf_ [(7, .int .i64 ((0 : Nat) : Int))] (h3_ t0 t1 t6) ?_)
 rintro a A ⟨t7, -⟩ ⟨t0, t1, t6, -⟩
 refine wp_seq (wp_seq ?_)
 refine wi_ A (h4_ t0 t1 t6 t7) (rv_ 1 (.int .i64 ((J : Nat) : Int)) (fun a e => execLenI (len := J) rfl (e _) ((FXs.on BB)).shp) (rf_ [(17, sv), (18, .int .i64 ((J : Nat) : Int)), (19, .int .i64 ((0 : Nat) : Int))] (h3_ t0 t6 t7) ?_))
 rintro a A ⟨t17, t18, t19, -⟩ ⟨t0, t6, t7, -⟩
 have FM : (FmI V.heap.size 0 (fun _ => .slice none 0 0) (szF N J) (thF gg l N J) X1) := ⟨fun t ht => absurd ht (Nat.not_lt_zero _), fun s t hs => absurd hs (Nat.not_lt_zero _)⟩
 refine wp_block ?_
 refine wp_loop (fun a W => ∃ (j : Nat) (y : Nat → Value), j ≤ J ∧ (∀ t, t < j → okB (gg t) l (bI (szF N J t)) (szF N J t - 1) = true) ∧ (a.tmps.size = 58 ∧ a.defers = []) ∧ a.eval (.tmp 0) = cv ∧ a.eval (.tmp 6) = .slice (some ⟨g16, 0, none⟩) J J ∧ a.eval (.tmp 7) = .int .i64 ((sumN (szF N J) j : Nat) : Int) ∧ a.eval (.tmp 17) = sv ∧ a.eval (.tmp 18) = .int .i64 ((J : Nat) : Int) ∧ a.eval (.tmp 19) = .int .i64 ((j : Nat) : Int) ∧ Below V.heap.size V W ∧ (W.ownsRow V.heap.size 24 1 (.slice (some ⟨g16, 0, none⟩) J J) J (lL (y) J)) ∧ (FmI V.heap.size j (y) (szF N J) (thF gg l N J) W)) (fun a _ => J - (intOf (a.eval (.tmp 19))).toNat) ⟨0, fun _ => .slice none 0 0, Nat.zero_le _, fun t ht => absurd ht (Nat.not_lt_zero _), A, t0, t6, t7, t17, t18, t19, BB, FT, FM⟩ ?_
 rintro a XL4 ⟨j, y, hj, hall, A, t0, t6, t7, t17, t18, t19, BB, FT, FM⟩
 have esj := t19
 refine wp_seq ?_
 refine wi_ A (h6_ t0 t6 t7 t17 t18 t19) (rv_ 0 (.bool (decide (j < J))) (fun a e => execLtW (p := j) (q := J) rfl (e _) (e _)) (rf_ [(20, .bool (decide (j < J)))] (h6_ t0 t6 t7 t17 t18 t19) ?_))
 rintro a A ⟨t20, -⟩ ⟨t0, t6, t7, t17, t18, t19, -⟩
 refine wp_seq ?_
 by_cases ltj : j < J
 ·rw [decide_eq_true ltj] at t20
  refine wp_cond_true t20 (wp_skip ?_)
  clear t20
  refine wp_seq (wp_block ?_)
  obtain ⟨ssb, sso, ssc, ess, hssb, hssc⟩ := open_sl FXs (by omega)
  have css : ∀ k, k < J → ∀ X, Below V.heap.size V X → X.cell? ⟨ssb, sso + k, none⟩ = some (.int .i64 ((sI N J) k)) := fun k hk X hX => by rw [cell_below hX hssb]; exact hssc k hk
  obtain ⟨cb, co, cc, ec, hcb, hcc⟩ := hL.at (show 0 < J by omega)
  have cC : ∀ X, Below V.heap.size V X → X.cell? ⟨cb, co + j, none⟩ = some (x j) := fun X hX => by rw [cell_below hX hcb]; exact hcc j ltj
  obtain ⟨m, em⟩ : ∃ m, szF N J j = m := ⟨_, rfl⟩
  have hm : m ≤ N := by rw [← em]; exact szF_le N ltj
  have hsj := sumN_at (r := szF N J) ltj
  rw [szF_sum N h1, em] at hsj
  refine wp_seq ?_
  refine wi_ A (h6_ t0 t6 t7 t17 t18 t19) (rv_ 1 (.pointer (some ⟨ssb, sso + j, none⟩)) (fun a e => execIdxN (k := j) rfl ((e _).trans ess) (e _) ltj) (rv_ 2 (.int .i64 ((m : Nat) : Int)) (fun a e => execLd3 rfl (e _) ((css j ltj XL4 BB).trans (by rw [← em]; rfl))) (rf_ [(8, .int .i64 ((j : Nat) : Int)), (9, .int .i64 ((m : Nat) : Int))] (h6_ t0 t6 t7 t17 t18 t19) ?_)))
  rintro a A ⟨t8, t9, -⟩ ⟨t0, t6, t7, t17, t18, t19, -⟩
  refine wp_seq ?_
  cases hok : okB (gg j) l (bI m) (m - 1) with
  | false =>
   refine wj_ [0, 1, 2, 3, 4, 5, 6, 7, 8, 9, 10, 11, 12, 13] [5, 6] [3] [] A (h8_ t0 t6 t7 t17 t18 t19 t8 t9) (fun X6_0 bD => ?_)
   refine dw_ 2 (.pointer (some ⟨cb, co + j, none⟩)) (fun a X e => Cf.execIdxL (k := j) rfl ((e _).trans ec) (e _) ltj) (dv_ 3 (x j) (fun a X e hb => execLdL rfl (e _) (cC X (BB.trans (hb.mono BB.size)))) (dc_ 5 (ppb (show m ≤ 256 by omega) X6_0) fun e X6_1 hh => ?_))
   obtain ⟨b30, he, hk, hb⟩ := hh
   refine ⟨_, he, ?_⟩
   have bQ : Below X6_0.heap.size X6_0 X6_1 := hb
   have Fb30 : (SliceI X6_1 b30 (m - 1) (bI m)) := hk
   replace bD := bD.trans (bQ.mono bD.size)
   clear bQ
   refine ⟨Or.inr bD, ?_⟩
   refine dc_ 6 (al3 (gg j) l m (m - 1) _ _ X6_1 ((hL.lists j ltj).on (BB.trans (bD.mono BB.size))) hl Fb30 (by omega) (by omega) hok) fun e X6 hh => ?_
   obtain ⟨a31, he, hb⟩ := hh
   refine ⟨_, he, ?_⟩
   have bQ : Below X6_1.heap.size X6_1 X6 := hb
   replace Fb30 := (Fb30.on bQ)
   replace bD := bD.trans (bQ.mono bD.size)
   clear bQ
   refine ⟨Or.inr bD, ?_⟩
   refine dz_ [(10, a31), (12, .int .i64 ((3 : Nat) : Int))] (h8_ t0 t6 t7 t17 t18 t19 t8 t9) ?_
   rintro a A ⟨t10, t12, -⟩ ⟨t0, t6, t7, t17, t18, t19, t8, t9, -⟩
   replace FT := (ownD_below FT bD)
   replace FM := (FM.on bD)
   replace BB := BB.trans (bD.mono BB.size)
   clear bD
   clear Fb30
   refine wp_seq (wp_seq ?_)
   refine wi_ A (h10_ t0 t6 t7 t17 t18 t19 t8 t9 t10 t12) (rv_ 1 (.bool true) (fun a e => execDec (execNeE (p := 3) (q := 0) rfl (e _) rfl) (decide_eq_true (by decide))) (rf_ [(36, .bool true)] (h10_ t0 t6 t7 t17 t18 t19 t8 t9 t10 t12) ?_))
   rintro a A ⟨t36, -⟩ ⟨t0, t6, t7, t17, t18, t19, t8, t9, t10, t12, -⟩
   refine wp_cond_true t36 ?_
   clear t36
   refine wp_seq ?_
   clear FT FM
   refine wi_ A (h10_ t0 t6 t7 t17 t18 t19 t8 t9 t10 t12) (rg_ [(4, .slice none 0 0), (5, .int .i64 ((3 : Nat) : Int))] ?_)
   rintro a A ⟨t4, t5, -⟩
   have hE : shE gg l N J = 3 := if_neg fun q => by have h_ := allB_iff.1 q j ltj; rw [em, hok] at h_; cases h_
   rw [hE]
   refine wp_ret ?_
   repeat (first | with_reducible refine ret_in ?_ | with_reducible refine ret_then ?_)
   refine bodyPost_ret (results_tmp2 rfl _ _ _) A.2 ⟨.slice none 0 0, fun _ => undef, ?_, (fun q => absurd q (by decide)), BB⟩
   show Ending.returned (.tuple #[a.eval (.tmp 4), a.eval (.tmp 5)]) = _
   rw [t4, t5]
  | true =>
   refine wj_ [0, 1, 2, 3, 4, 5, 6, 7, 8, 9, 10, 11, 12, 13] [5, 6] [3] [] A (h8_ t0 t6 t7 t17 t18 t19 t8 t9) (fun X6_0 bD => ?_)
   refine dw_ 2 (.pointer (some ⟨cb, co + j, none⟩)) (fun a X e => Cf.execIdxL (k := j) rfl ((e _).trans ec) (e _) ltj) (dv_ 3 (x j) (fun a X e hb => execLdL rfl (e _) (cC X (BB.trans (hb.mono BB.size)))) (dc_ 5 (ppb (show m ≤ 256 by omega) X6_0) fun e X6_1 hh => ?_))
   obtain ⟨b30, he, hk, hb⟩ := hh
   refine ⟨_, he, ?_⟩
   have bQ : Below X6_0.heap.size X6_0 X6_1 := hb
   have Fb30 : (SliceI X6_1 b30 (m - 1) (bI m)) := hk
   replace bD := bD.trans (bQ.mono bD.size)
   clear bQ
   refine ⟨Or.inr bD, ?_⟩
   refine dc_ 6 (al0 (gg j) l m (m - 1) _ _ X6_1 ((hL.lists j ltj).on (BB.trans (bD.mono BB.size))) hl Fb30 (by omega) (by omega) hok) fun e X6 hh => ?_
   obtain ⟨a31, he, hk, hb⟩ := hh
   refine ⟨_, he, ?_⟩
   have bQ : Below X6_1.heap.size X6_1 X6 := hb
   have Fa31 : (SliceI X6 a31 (m - 1) (dQ (gg j) l m)) := hk
   replace Fb30 := (Fb30.on bQ)
   replace bD := bD.trans (bQ.mono bD.size)
   clear bQ
   refine ⟨Or.inr bD, ?_⟩
   refine dz_ [(10, a31), (12, .int .i64 ((0 : Nat) : Int))] (h8_ t0 t6 t7 t17 t18 t19 t8 t9) ?_
   rintro a A ⟨t10, t12, -⟩ ⟨t0, t6, t7, t17, t18, t19, t8, t9, -⟩
   replace FT := (ownD_below FT bD)
   replace FM := (FM.on bD)
   replace BB := BB.trans (bD.mono BB.size)
   clear bD
   clear Fb30
   refine wp_seq (wp_seq ?_)
   refine wi_ A (h10_ t0 t6 t7 t17 t18 t19 t8 t9 t10 t12) (rv_ 1 (.bool false) (fun a e => execDec (execNeE (p := 0) (q := 0) rfl (e _) rfl) (decide_eq_false (by decide))) (rf_ [(36, .bool false)] (h10_ t0 t6 t7 t17 t18 t19 t8 t9 t10 t12) ?_))
   rintro a A ⟨t36, -⟩ ⟨t0, t6, t7, t17, t18, t19, t8, t9, t10, t12, -⟩
   refine wp_cond_false t36 (wp_skip ?_)
   clear t36
   have hfr : frE ((m : Nat) : Int) (dQ (gg j) l m) (m - 1) = 0 := dA_from (okB_iff.1 hok)
   refine wp_seq ?_
   refine wi_ A (h10_ t0 t6 t7 t17 t18 t19 t8 t9 t10 t12) (rc_ 2 (fr0 m (dQ (gg j) l m) (m - 1) _ X6 Fa31 (by omega) hfr) fun e X9 hh => ?_)
   obtain ⟨o41, he, hk, hb⟩ := hh
   refine ⟨_, he, ?_⟩
   have bQ : Below X6.heap.size X6 X9 := hb
   have Fo41 : (SliceI X9 o41 (m) (fun k => (frA m (dN_ (gg j) l m) (m - 1) k : Int))) := own_ints hk (frA_fits hm hok hN)
   replace FT := (ownD_below FT bQ)
   replace FM := (FM.on bQ)
   replace BB := BB.trans (bQ.mono BB.size)
   clear Fa31 bQ
   refine rf_ [(12, .int .i64 ((0 : Nat) : Int)), (13, o41)] (h8_ t0 t6 t7 t17 t18 t19 t8 t9) ?_
   rintro a A ⟨t12, t13, -⟩ ⟨t0, t6, t7, t17, t18, t19, t8, t9, -⟩
   refine wp_seq (wp_seq ?_)
   refine wi_ A (h10_ t0 t6 t7 t17 t18 t19 t8 t9 t12 t13) (rv_ 1 (.bool false) (fun a e => execDec (execNeE (p := 0) (q := 0) rfl (e _) rfl) (decide_eq_false (by decide))) (rf_ [(45, .bool false)] (h10_ t0 t6 t7 t17 t18 t19 t8 t9 t12 t13) ?_))
   rintro a A ⟨t45, -⟩ ⟨t0, t6, t7, t17, t18, t19, t8, t9, t12, t13, -⟩
   refine wp_cond_false t45 (wp_skip ?_)
   clear t45
   have BC := BB.size
   have hlt : ∀ t, t < j → ∀ b, (y t).ownBlock = some b → b < X9.heap.size := fun t ht b q => ((FM.rows t ht).lt b q).2
   have FC0 : X9.heap.size ≤ X9.heap.size := Nat.le_refl _
   refine wp_seq ?_
   refine wi_ A (h10_ t0 t6 t7 t17 t18 t19 t8 t9 t12 t13) (rc_ 4 (praised (frA m (dN_ (gg j) l m) (m - 1)) m (sumN (szF N J) j) _ X9 Fo41 (by omega) (frA_le hm hok hN) (by omega)) fun e X12_1 hh => ?_)
   obtain ⟨r51, he, hk, hb⟩ := hh
   refine ⟨_, he, ?_⟩
   have bQ : Below X9.heap.size X9 X12_1 := hb
   have FR : (X12_1.ownsRow X9.heap.size 3 1 r51 m (intsL m (fun k => ((frA m (dN_ (gg j) l m) (m - 1) k + sumN (szF N J) j : Nat) : Int)))) := ownD_base hk FC0
   replace FT := (ownD_below FT bQ)
   replace FM := (FM.on bQ)
   replace BB := BB.trans (bQ.mono BB.size)
   clear Fo41 FC0 bQ
   refine rv_ 5 (.pointer (some ⟨g16, 0 + j, none⟩)) (fun a e => execIdxLI (k := j) rfl (e _) (e _) ltj) (rs_ 6 (fun a e => ?_))
   obtain ⟨hc_, hf_⟩ := ownL_cell2 FT ltj
   refine stepS rfl rfl (execStLI rfl (e _) (e _) (Brd.shp3 FR) hc_ hf_) ⟨_, ⟨_, rfl, rfl⟩, fun X12 hX => ?_⟩
   obtain ⟨BB, FM, FR, FT2⟩ : Below V.heap.size V X12 ∧ (FmI V.heap.size j (y) (szF N J) (thF gg l N J) X12) ∧ (X12.ownsRow X9.heap.size 3 1 r51 m (intsL m (fun k => ((frA m (dN_ (gg j) l m) (m - 1) k + sumN (szF N J) j : Nat) : Int)))) ∧ (X12.ownsRow V.heap.size 24 1 (.slice (some ⟨g16, 0, none⟩) J J) J (lL (updX y j r51) J)) := by subst hX; exact ⟨(BB).setCell Fg _, (Brd.FmI.offT FM (own_cur FT).choose_spec.1 (by decide)), (own_offT FR (own_cur FT).choose_spec.1 (by decide)), ownL_setI FT⟩
   clear FT hX e a
   refine rf_ [] (h7_ t0 t6 t7 t17 t18 t19 t9) ?_
   rintro a A - ⟨t0, t6, t7, t17, t18, t19, t9, -⟩
   have FM2 : (FmI V.heap.size (j + 1) (updX y j r51) (szF N J) (thF gg l N J) X12) := FmI.add FM hlt FR BC em (fun k hk => by show (((_ : Nat)) : Int) = _; rw [em])
   clear FM FR
   refine wi_ A (h7_ t0 t6 t7 t17 t18 t19 t9) (rv_ 2 (.int .i64 ((sumN (szF N J) j + m : Nat) : Int)) (fun a e => execAd8 (p := sumN (szF N J) j) (q := m) rfl (e _) (e _) (by omega)) (rf_ [(7, .int .i64 ((sumN (szF N J) j + m : Nat) : Int))] (h5_ t0 t6 t17 t18 t19) ?_))
   rintro a A ⟨t7, -⟩ ⟨t0, t6, t17, t18, t19, -⟩
   have e7 : sumN (szF N J) j + m = sumN (szF N J) (j + 1) := by show _ = sumN (szF N J) j + szF N J j; rw [em]
   rw [e7] at t7
   refine wi_ A (h6_ t0 t6 t7 t17 t18 t19) (rv_ 0 (.int .i64 ((j + 1 : Nat) : Int)) (fun a e => execAd8 (p := j) (q := 1) rfl (e _) rfl (by omega)) (rf_ [(19, .int .i64 ((j + 1 : Nat) : Int))] (h5_ t0 t6 t7 t17 t18) ?_))
   rintro a A ⟨t19, -⟩ ⟨t0, t6, t7, t17, t18, -⟩
   exact ⟨⟨j + 1, updX y j r51, ltj, fun t ht => (if q : t = j then by subst q; rw [em]; exact hok else hall t (by omega)), A, t0, t6, t7, t17, t18, t19, BB, FT2, FM2⟩, by show J - (intOf (a.eval (.tmp 19))).toNat < J - (intOf (Act.eval _ (.tmp 19))).toNat; rw [t19, esj]; show J - (j + 1) < J - j; omega⟩
 ·rw [decide_eq_false ltj] at t20
  refine wp_cond_false t20 ?_
  refine wp_exit ?_
  first | with_reducible refine exit_in ?_ | with_reducible refine exit_then (exit_in ?_) | with_reducible refine exit_then (exit_then (exit_in ?_)) | refine exit_in ?_ | refine exit_then (exit_in ?_) | refine exit_then (exit_then (exit_in ?_))
  clear t20 esj
  have hjJ : j = J := by omega
  rw [hjJ] at FM hall
  clear t0 t7 t17 t18 t19
  refine wp_seq ?_
  refine wi_ A (h1_ t6) (rg_ [(4, .slice (some ⟨g16, 0, none⟩) J J), (5, .int .i64 ((0 : Nat) : Int))] ?_)
  rintro a A ⟨t4, t5, -⟩
  have hE : shE gg l N J = 0 := if_pos (allB_iff.2 hall)
  rw [hE]
  refine wp_ret ?_
  refine bodyPost_ret (results_tmp2 rfl _ _ _) A.2 ⟨_, y, ?_, (fun _ => lli_of FM FT (thF_fits hN h1 hall)), BB⟩
  show Ending.returned (.tuple #[a.eval (.tmp 4), a.eval (.tmp 5)]) = _
  rw [t4, t5]
end Go.Proofs.Ytmjpneaccjlpkaa.Rif
