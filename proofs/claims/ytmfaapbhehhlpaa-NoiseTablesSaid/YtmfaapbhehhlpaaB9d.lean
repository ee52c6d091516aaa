import Derived.Test.YtmfaapbhehhlpaaB9c
import Derived.Test.YtmfaapbhehhlpaaQ9i
namespace Go.Proofs.Ytmfaapbhehhlpaa.Noi
open Go.RowKit Gf8 Aes By8 Cel Cf Tap Drw Prm Brd
/- Stage 15's Impl; same, awake, NoiseTables. Written by tools/mkB9d.py. -/

abbrev I64 (z : Int) : Prop := -9223372036854775808 ≤ z ∧ z < 9223372036854775808
/-- What the program's package keeps. -/
structure Impl : Prop where
  table : ∀ (na nd nm : Int) (V : World), I64 na → I64 nd → I64 nm → Calls Try.prog 10 #[.int .i64 na, .int .i64 nd, .int .i64 nm] V fun e w' => ∃ r, e = .returned (.tuple #[r, .int .i64 ((tbE na nd nm : Nat) : Int)]) ∧ w'.ownsRow V.heap.size 3 1 r (zl (tbE na nd nm) (nm.toNat + 1)) (intsL (zl (tbE na nd nm) (nm.toNat + 1)) (tbF na nd nm)) ∧ Below V.heap.size V w'
  count : ∀ (p : Nat → Nat) (L : Nat) (na nd nm : Int) (pv : Value) (V : World), SliceN V pv L p → L ≤ 140737488351232 → I64 na → I64 nd → I64 nm → Calls Try.prog 13 #[pv, .int .i64 na, .int .i64 nd, .int .i64 nm] V fun e w' => e = .returned (.tuple #[.int .i64 ((zl (ctE L na nd nm) (ctN p na nd nm) : Nat) : Int), .int .i64 ((ctE L na nd nm : Nat) : Int)]) ∧ Below V.heap.size V w'
  cells : ∀ (p : Nat → Nat) (L : Nat) (nc nl : Int) (pv : Value) (V : World), SliceN V pv L p → L ≤ 140737488351232 → I64 nc → I64 nl → Calls Try.prog 14 #[pv, .int .i64 nc, .int .i64 nl] V fun e w' => ∃ r y, e = .returned (.tuple #[r, .int .i64 ((clE L nc nl : Nat) : Int)]) ∧ w'.ownsRow V.heap.size 31 1 r (zl (clE L nc nl) nc.toNat) (lL y (zl (clE L nc nl) nc.toNat)) ∧ Fam V.heap.size (zl (clE L nc nl) nc.toNat) y (fun _ => 320) (clC p nl.toNat) w' ∧ Below V.heap.size V w'
theorem tb_len {na nd nm : Int} : zl (tbE na nd nm) (nm.toNat + 1) ≤ 17 := by
  by_cases h : fiN na nd nm
  · have hE : tbE na nd nm = 0 := if_pos h
    rw [hE, zl_ok]
    have := h.2.2.2.2.2
    omega
  · have hE : tbE na nd nm = 2 := if_neg h
    rw [hE, zl_no (by decide)]
    omega
/-- The plain table. -/
def aw4 (j : Nat) : Int := if j = 0 then 34952 else if j = 1 then 52428 else if j = 2 then 61166 else 65536
theorem aw_like : ∀ j, j < 4 → tbF 1 2 3 j = aw4 j := fun j hj => by
  match j, hj with
  | 0, _ => decide
  | 1, _ => decide
  | 2, _ => decide
  | 3, _ => decide
  | j + 4, h => omega
theorem aw_1 (I : Impl) (V : World) : Calls Try.prog 10 #[.int .i64 1, .int .i64 2, .int .i64 3] V fun e w' => ∃ r, e = .returned (.tuple #[r, .int .i64 ((0 : Nat) : Int)]) ∧ SliceI w' r 4 (tbF 1 2 3) ∧ Below V.heap.size V w' :=
  Calls.mono (I.table 1 2 3 V (by decide) (by decide) (by decide)) fun e w' ⟨r, g1, g2, g3⟩ => by
    have hE : tbE 1 2 3 = 0 := rfl
    have hf := tb_fits (na := 1) (nd := 2) (nm := 3)
    rw [hE] at g1
    rw [hE, zl_ok] at g2 hf
    exact ⟨r, g1, own_ints g2 hf, g3⟩
section
variable {o : Oper} {a : Act} {w : World}
theorem execBsA4 (ho : o.op = .buildSlice 23 4 #[(0, .const (.int .i64 34952)), (1, .const (.int .i64 52428)), (2, .const (.int .i64 61166)), (3, .const (.int .i64 65536))]) : (execOp a.eval o).run Try.prog w = .ok (.value (.slice (some ⟨w.heap.size, 0, none⟩) 4 4)) (w.alloc (.cells #[.int .i64 34952, .int .i64 52428, .int .i64 61166, .int .i64 65536] 3)) := by
  unfold execOp
  simp only [ho]
  simp [go_sem, Act.eval]
theorem execBsM3 (ho : o.op = .buildSlice 23 3 #[(0, .const (.int .i64 (-1))), (1, .const (.int .i64 (-1))), (2, .const (.int .i64 (-1)))]) : (execOp a.eval o).run Try.prog w = .ok (.value (.slice (some ⟨w.heap.size, 0, none⟩) 3 3)) (w.alloc (.cells #[.int .i64 (-1), .int .i64 (-1), .int .i64 (-1)] 3)) := by
  unfold execOp
  simp only [ho]
  simp [go_sem, Act.eval]
theorem execNeIgf {x y : Operand} {p q : Int} (ho : o.op = .binOp .neq 3 x y 3) (hx : a.eval x = .int .i64 p) (hy : a.eval y = .int .i64 q) (h : p = q) : (execOp a.eval o).run Try.prog w = .ok (.value (.bool false)) w := by
  subst h
  exact execNeI ho hx hy
end
theorem aw_lit (X : World) : SliceI (X.alloc (.cells #[.int .i64 34952, .int .i64 52428, .int .i64 61166, .int .i64 65536] 3)) (.slice (some ⟨X.heap.size, 0, none⟩) 4 4) 4 aw4 :=
  lit_ints (heapNew X _) (fun j hj => by
    match j, hj with
    | 0, _ => rfl
    | 1, _ => rfl
    | 2, _ => rfl
    | 3, _ => rfl
    | j + 4, h => omega) (fun j hj => by
    match j, hj with
    | 0, _ => decide
    | 1, _ => decide
    | 2, _ => decide
    | 3, _ => decide
    | j + 4, h => omega) (by decide)
theorem m3_lit (X : World) : SliceI (X.alloc (.cells #[.int .i64 (-1), .int .i64 (-1), .int .i64 (-1)] 3)) (.slice (some ⟨X.heap.size, 0, none⟩) 3 3) 3 (fun _ => -1) :=
  lit_ints (heapNew X _) (fun j hj => by
    match j, hj with
    | 0, _ => rfl
    | 1, _ => rfl
    | 2, _ => rfl
    | j + 3, h => omega) (fun j _ => by show (-9223372036854775808 : Int) ≤ -1 ∧ (-1 : Int) < 9223372036854775808; decide) (by decide)
theorem fm_one {B n : Nat} {v : Value} {f : Nat → Int} {W : World} (h : W.ownsRow B 3 1 v n (intsL n f)) : FmI B 1 (updX (fun _ => undef) 0 v) (fun _ => n) (fun _ => f) W :=
  ⟨fun t ht => by
    obtain rfl : t = 0 := by omega
    exact h, fun s t hs ht hst => absurd (show s = t by omega) hst⟩
theorem fm_two {B k n : Nat} {x : Nat → Value} {r : Value} {f : Nat → Int} {W W' : World} (h : FmI B k x (fun _ => n) (fun _ => f) W) (hb : Below W.heap.size W W') (hB : B ≤ W.heap.size) (hr : W'.ownsRow W.heap.size 3 1 r n (intsL n f)) : FmI B (k + 1) (updX x k r) (fun _ => n) (fun _ => f) W' :=
  FmI.add (h.on hb) (fun t ht b e => ((h.rows t ht).lt b e).2) hr hB rfl (fun _ _ => rfl)
/-- The first row marked up to a place. -/
def mk1 (f : Nat → Int) (i t j : Nat) : Int := if t = 0 ∧ j < i then -1 else f j
theorem mk1_0 {f : Nat → Int} (t : Nat) {j : Nat} : mk1 f 0 t j = f j := if_neg (by omega)
theorem mk1_set {f : Nat → Int} {i j : Nat} (t : Nat) : updF (mk1 f i) 0 i (-1) t j = mk1 f (i + 1) t j := by
  show (if t = 0 then (if j = i then -1 else mk1 f i 0 j) else mk1 f i t j) = _
  unfold mk1
  by_cases h : t = 0
  · rw [if_pos h]
    by_cases h2 : j = i
    · rw [if_pos h2, if_pos (by omega)]
    · rw [if_neg h2]
      by_cases h3 : j < i
      · rw [if_pos (by omega), if_pos (by omega)]
      · rw [if_neg (by omega), if_neg (by omega)]
  · rw [if_neg h, if_neg (by omega), if_neg (by omega)]
theorem mk1_1 {f : Nat → Int} {i : Nat} {q : Nat → Int} : updG (mk1 f i) 0 q 1 = f := by
  funext j
  show mk1 f i 1 j = f j
  exact if_neg (by omega)
set_option maxRecDepth 100000 in
set_option maxHeartbeats 4000000 in
/-- The law's same, of like lists. -/
theorem same15 (f g : Nat → Int) (n : Nat) (v u0 : Value) (V : World) (FI : SliceI V v n f) (FJ : SliceI V u0 n g) (hfg : ∀ j, j < n → f j = g j) (hn17 : n ≤ 17592186044416) :
    Calls Try.prog 11 #[v, u0] V fun e w' => e = .returned (.bool true) ∧ Below V.heap.size V w' := by
  go_enter Try.func11, Try.ntmps11
  refine wp_seq ?_
  refine wo_ 26 [(0, v), (1, u0)] ?_
  rintro a A ⟨t0, t1, -⟩
  refine wi_ A (h2_ t0 t1) (rf_ [] (h2_ t0 t1) ?_)
  rintro a A - ⟨t0, t1, -⟩
  have BW : Below V.heap.size V V := Below.refl _ _
  have BB := BW
  refine wp_seq ?_
  refine wp_seq ?_
  refine wi_ A (h2_ t0 t1) (rv_ 1 (.int .i64 ((n : Nat) : Int)) (fun a ee => execLenI (len := n) rfl (ee _) FI.shp) (rv_ 3 (.int .i64 ((n : Nat) : Int)) (fun a ee => execLenI (len := n) rfl (ee _) FJ.shp) (rv_ 4 (.bool false) (fun a ee => execDec (execNeN (p := n) (q := n) rfl (ee _) (ee _)) (decide_eq_false (by omega))) (rf_ [(10, .bool false)] (h2_ t0 t1) ?_))))
  rintro a A ⟨t10, -⟩ ⟨t0, t1, -⟩
  refine wp_cond_false t10 ?_
  refine wp_skip ?_
  clear t10
  refine wp_seq ?_
  refine wp_seq ?_
  refine wi_ A (h2_ t0 t1) (rv_ 1 (.int .i64 ((n : Nat) : Int)) (fun a ee => execLenI (len := n) rfl (ee _) FI.shp) (rf_ [(12, .int .i64 ((n : Nat) : Int)), (13, .int .i64 ((0 : Nat) : Int))] (h2_ t0 t1) ?_))
  rintro a A ⟨t12, t13, -⟩ ⟨t0, t1, -⟩
  refine wp_block ?_
  refine wp_loop (fun a W => ∃ (i : Nat), i ≤ n ∧ (a.tmps.size = 26 ∧ a.defers = []) ∧ a.eval (.tmp 0) = v ∧ a.eval (.tmp 1) = u0 ∧ a.eval (.tmp 12) = .int .i64 ((n : Nat) : Int) ∧ a.eval (.tmp 13) = .int .i64 ((i : Nat) : Int) ∧ Below V.heap.size V W) (fun a _ => n - (intOf (a.eval (.tmp 13))).toNat) ⟨0, Nat.zero_le _, A, t0, t1, t12, t13, BB⟩ ?_
  clear A t0 t1 t12 t13 BB a
  rintro a XL4 ⟨i, hi, A, t0, t1, t12, t13, BB⟩
  have esi := t13
  refine wp_seq ?_
  refine wi_ A (h4_ t0 t1 t12 t13) (rv_ 0 (.bool (decide (i < n))) (fun a ee => execLtW (p := i) (q := n) rfl (ee _) (ee _)) (rf_ [(14, .bool (decide (i < n)))] (h4_ t0 t1 t12 t13) ?_))
  rintro a A ⟨t14, -⟩ ⟨t0, t1, t12, t13, -⟩
  refine wp_seq ?_
  by_cases lti : i < n
  · rw [decide_eq_true lti] at t14
    refine wp_cond_true t14 ?_
    refine wp_skip ?_
    clear t14
    refine wp_seq ?_
    refine wp_block ?_
    obtain ⟨iib, iio, iic, eii, hiib, hiic⟩ := open_sl FI (by omega)
    have cii : ∀ k, k < n → ∀ X, Below V.heap.size V X → X.cell? ⟨iib, iio + k, none⟩ = some (.int .i64 ((f) k)) := fun k hk X hX => by rw [cell_below hX hiib]; exact hiic k hk
    obtain ⟨jjb, jjo, jjc, ejj, hjjb, hjjc⟩ := open_sl FJ (by omega)
    have cjj : ∀ k, k < n → ∀ X, Below V.heap.size V X → X.cell? ⟨jjb, jjo + k, none⟩ = some (.int .i64 ((g) k)) := fun k hk X hX => by rw [cell_below hX hjjb]; exact hjjc k hk
    refine wp_seq ?_
    refine wi_ A (h4_ t0 t1 t12 t13) (rf_ [(5, .int .i64 ((i : Nat) : Int))] (h4_ t0 t1 t12 t13) ?_)
    rintro a A ⟨t5, -⟩ ⟨t0, t1, t12, t13, -⟩
    refine wp_seq ?_
    refine wj_ [0, 1, 2, 3, 4, 5, 6, 7, 8] [] [3, 7] [] A (h5_ t0 t1 t12 t5 t13) (fun X6 bD => ?_)
    refine dw_ 2 (.pointer (some ⟨iib, iio + i, none⟩)) (fun a X ee => execIdxN (k := i) rfl ((ee _).trans eii) (ee _) lti) (dv_ 3 (.int .i64 (f i)) (fun a X ee hb => execLd3 rfl (ee _) (cii i lti X (BB.trans (hb.mono BB.size)))) (dw_ 6 (.pointer (some ⟨jjb, jjo + i, none⟩)) (fun a X ee => execIdxN (k := i) rfl ((ee _).trans ejj) (ee _) lti) (dv_ 7 (.int .i64 (g i)) (fun a X ee hb => execLd3 rfl (ee _) (cjj i lti X (BB.trans (hb.mono BB.size)))) (dw_ 8 (.bool false) (fun a X ee => execNeIgf rfl (ee _) (ee _) (hfg i lti)) (dz_ [(24, .bool false)] (h4_ t0 t1 t12 t13) ?_)))))
    rintro a A ⟨t24, -⟩ ⟨t0, t1, t12, t13, -⟩
    replace BB := BB.trans (bD.mono BB.size)
    clear bD
    refine wp_cond_false t24 ?_
    refine wp_skip ?_
    clear t24
    refine wi_ A (h4_ t0 t1 t12 t13) (rv_ 0 (.int .i64 ((i + 1 : Nat) : Int)) (fun a ee => execAd8 (p := i) (q := 1) rfl (ee _) rfl (by omega)) (rf_ [(13, .int .i64 ((i + 1 : Nat) : Int))] (h3_ t0 t1 t12) ?_))
    rintro a A ⟨t13, -⟩ ⟨t0, t1, t12, -⟩
    exact ⟨⟨i + 1, lti, A, t0, t1, t12, t13, BB⟩, by show n - (intOf (a.eval (.tmp 13))).toNat < n - (intOf (Act.eval _ (.tmp 13))).toNat; rw [t13, esi]; show n - (i + 1) < n - i; omega⟩
  · rw [decide_eq_false lti] at t14
    refine wp_cond_false t14 ?_
    refine wp_exit ?_
    first | with_reducible refine exit_in ?_ | with_reducible refine exit_then (exit_in ?_) | with_reducible refine exit_then (exit_then (exit_in ?_)) | refine exit_in ?_ | refine exit_then (exit_in ?_) | refine exit_then (exit_then (exit_in ?_))
    clear t14 esi
    clear t0 t1 t12 t13
    refine wp_seq ?_
    refine wi_ A h0_ (rg_ [(4, .bool true)] ?_)
    rintro a A ⟨t4, -⟩
    refine wp_ret ?_
    refine bodyPost_ret (results_tmp rfl _ _ _) A.2 ⟨?_, BB⟩
    show Ending.returned (a.eval (.tmp 4)) = _
    rw [t4]
set_option maxRecDepth 100000 in
set_option maxHeartbeats 4000000 in
/-- awake. -/
theorem awake15 (I : Impl) (V : World) :
    Calls Try.prog 8 #[] V fun e w' => e = .returned (.bool true) ∧ Below V.heap.size V w' := by
  go_enter Try.func8, Try.ntmps8
  refine wp_seq ?_
  refine wo_ 14 [] ?_
  rintro a A -
  refine wi_ A h0_ (rg_ [] ?_)
  rintro a A -
  have BW : Below V.heap.size V V := Below.refl _ _
  refine wp_seq ?_
  refine wi_ A h0_ (rc_ 0 (aw_1 I V) fun e X1 hh => ?_)
  obtain ⟨l_, he, hk, hb⟩ := hh
  refine ⟨_, he, ?_⟩
  have bQ : Below V.heap.size V X1 := hb
  have Fl : (SliceI X1 l_ (4) (tbF 1 2 3)) := hk
  have bX := bQ
  clear bQ
  refine rg_ [(1, l_), (2, .int .i64 ((0 : Nat) : Int))] ?_
  rintro a A ⟨t1, t2, -⟩
  have ZX1 := bX.size
  replace BW := BW.trans (bX.mono BW.size)
  clear bX
  refine wp_seq ?_
  obtain ⟨g11, egg11⟩ : ∃ z_ : Nat, X1.heap.size = z_ := ⟨_, rfl⟩
  refine wi_ A (h2_ t1 t2) (rv_ 1 (.bool true) (fun a ee => execDec (execEqE (p := 0) (q := 0) rfl (ee _) rfl) (decide_eq_true (by rfl))) (rs_ 4 (fun a ee => ?_)))
  refine stepV rfl (wy rfl rfl rfl (ee _)) (execBsA4 rfl) ⟨.slice (some ⟨g11, 0, none⟩) 4 4, ⟨_, rfl, by subst egg11; rfl⟩, fun X2_1 hX => ?_⟩
  have bQ : Below X1.heap.size X1 X2_1 := by subst hX egg11; exact (belNew X1 _)
  have F11 : (SliceI X2_1 (.slice (some ⟨g11, 0, none⟩) 4 4) (4) (aw4)) := by subst hX egg11; exact aw_lit X1
  have bX := bQ
  clear bQ hX egg11 ee a
  refine rc_ 5 (same15 _ _ (4) _ _ X2_1 (Fl.on bX) F11 (aw_like) (by omega)) (cb_ fun X2 bQ => ?_)
  replace F11 := (F11.on bQ)
  replace bX := bX.trans (bQ.mono bX.size)
  clear bQ
  refine rg_ [(0, .bool true)] ?_
  rintro a A ⟨t0, -⟩
  replace Fl := (Fl.on bX)
  have ZX2 := bX.size
  replace BW := BW.trans (bX.mono BW.size)
  clear bX
  refine wp_ret ?_
  refine bodyPost_ret (results_tmp rfl _ _ _) A.2 ⟨?_, BW⟩
  show Ending.returned (a.eval (.tmp 0)) = _
  rw [t0]
set_option maxRecDepth 100000 in
set_option maxHeartbeats 4000000 in
/-- NoiseTables. -/
theorem tables15 (I : Impl) (na nd nm : Int) (V : World) (hna : I64 na) (hnd : I64 nd) (hnm : I64 nm) :
    Calls Try.prog 3 #[.int .i64 na, .int .i64 nd, .int .i64 nm] V fun e w' => e = .returned (.bool true) ∧ Below V.heap.size V w' := by
  go_enter Try.func3, Try.ntmps3
  refine wp_seq ?_
  refine wo_ 96 [(0, .int .i64 na), (1, .int .i64 nd), (2, .int .i64 nm)] ?_
  rintro a A ⟨t0, t1, t2, -⟩
  refine wi_ A (h3_ t0 t1 t2) (rf_ [] (h3_ t0 t1 t2) ?_)
  rintro a A - ⟨t0, t1, t2, -⟩
  have BW : Below V.heap.size V V := Below.refl _ _
  refine wp_seq ?_
  refine wp_seq ?_
  refine wi_ A (h3_ t0 t1 t2) (rc_ 0 (awake15 I V) (cb_ fun X1 bQ => ?_))
  have bX := bQ
  clear bQ
  refine rv_ 1 (.bool false) (fun a ee => execNot8 (b := true) rfl (ee _)) (rf_ [(17, .bool false)] (h3_ t0 t1 t2) ?_)
  rintro a A ⟨t17, -⟩ ⟨t0, t1, t2, -⟩
  have ZX1 := bX.size
  replace BW := BW.trans (bX.mono BW.size)
  clear bX
  refine wp_cond_false t17 ?_
  refine wp_skip ?_
  clear t17
  refine wp_seq ?_
  refine wi_ A (h3_ t0 t1 t2) (rc_ 3 (rtable na nd nm X1) fun e X3 hh => ?_)
  obtain ⟨v22, he, hk, hb⟩ := hh
  refine ⟨_, he, ?_⟩
  have bQ : Below X1.heap.size X1 X3 := hb
  have Fv22 : (SliceI X3 v22 (zl (tbE na nd nm) ((nm).toNat + 1)) (tbF na nd nm)) := own_ints hk tb_fits
  have bX := bQ
  clear bQ
  refine rf_ [(7, v22), (8, .int .i64 ((tbE na nd nm : Nat) : Int))] (h3_ t0 t1 t2) ?_
  rintro a A ⟨t7, t8, -⟩ ⟨t0, t1, t2, -⟩
  have ZX3 := bX.size
  replace BW := BW.trans (bX.mono BW.size)
  clear bX
  have hz17 : zl (tbE na nd nm) (nm.toNat + 1) ≤ 17 := tb_len
  have BB : Below X3.heap.size X3 X3 := Below.refl _ _
  refine wp_seq ?_
  refine wi_ A (h5_ t0 t1 t2 t7 t8) (rc_ 3 (I.table na nd nm X3 hna hnd hnm) fun e X4 hh => ?_)
  obtain ⟨va, he, hk, hb⟩ := hh
  refine ⟨_, he, ?_⟩
  have bQ : Below X3.heap.size X3 X4 := hb
  have FM : (FmI X3.heap.size 1 (updX (fun _ => undef) 0 va) (fun _ => zl (tbE na nd nm) (nm.toNat + 1)) (fun _ => tbF na nd nm) X4) := fm_one (ownD_base hk (BB).size)
  replace BB := BB.trans (bQ.mono BB.size)
  clear bQ
  refine rf_ [(9, va), (10, .int .i64 ((tbE na nd nm : Nat) : Int))] (h5_ t0 t1 t2 t7 t8) ?_
  rintro a A ⟨t9, t10, -⟩ ⟨t0, t1, t2, t7, t8, -⟩
  refine wp_seq ?_
  refine wi_ A (h7_ t0 t1 t2 t7 t8 t9 t10) (rc_ 3 (I.table na nd nm X4 hna hnd hnm) fun e X5 hh => ?_)
  obtain ⟨vb, he, hk, hb⟩ := hh
  refine ⟨_, he, ?_⟩
  have bQ : Below X4.heap.size X4 X5 := hb
  have FM2 : (FmI X3.heap.size 2 (updX (updX (fun _ => undef) 0 va) 1 vb) (fun _ => zl (tbE na nd nm) (nm.toNat + 1)) (fun _ => tbF na nd nm) X5) := fm_two FM hb (BB).size hk
  replace BB := BB.trans (bQ.mono BB.size)
  clear FM bQ
  refine rf_ [(11, vb), (12, .int .i64 ((tbE na nd nm : Nat) : Int))] (h7_ t0 t1 t2 t7 t8 t9 t10) ?_
  rintro a A ⟨t11, t12, -⟩ ⟨t0, t1, t2, t7, t8, t9, t10, -⟩
  obtain ⟨x, ex⟩ : ∃ x, updX (updX (fun _ => undef) 0 va) 1 vb = x := ⟨_, rfl⟩
  replace t9 : a.eval (.tmp 9) = x 0 := t9.trans (by rw [← ex]; rfl)
  replace t11 : a.eval (.tmp 11) = x 1 := t11.trans (by rw [← ex]; rfl)
  rw [ex] at FM2
  have FM := FM2
  clear FM2 ex
  refine wp_seq ?_
  refine wp_seq ?_
  refine wi_ A (h9_ t0 t1 t2 t7 t8 t9 t10 t11 t12) (rv_ 2 (.bool false) (fun a ee => execDec (execNeN (p := tbE na nd nm) (q := tbE na nd nm) rfl (ee _) (ee _)) (decide_eq_false (by omega))) (rv_ 6 (.bool false) (fun a ee => execDec (execNeN (p := tbE na nd nm) (q := tbE na nd nm) rfl (ee _) (ee _)) (decide_eq_false (by omega))) (rc_ 11 (same15 _ _ (zl (tbE na nd nm) (nm.toNat + 1)) _ _ X5 (own_ints (FM.rows 0 (by omega)) tb_fits) (Fv22.on BB) (fun _ _ => rfl) (by omega)) (cb_ fun X6_1 bQ => ?_))))
  replace FM := (FM.on bQ)
  replace BB := BB.trans (bQ.mono BB.size)
  clear bQ
  refine rv_ 12 (.bool false) (fun a ee => execNot8 (b := true) rfl (ee _)) (rc_ 17 (same15 _ _ (zl (tbE na nd nm) (nm.toNat + 1)) _ _ X6_1 (own_ints (FM.rows 1 (by omega)) tb_fits) (Fv22.on BB) (fun _ _ => rfl) (by omega)) (cb_ fun X6 bQ => ?_))
  replace FM := (FM.on bQ)
  replace BB := BB.trans (bQ.mono BB.size)
  clear bQ
  refine rv_ 18 (.bool false) (fun a ee => execNot8 (b := true) rfl (ee _)) (rf_ [(58, .bool false)] (h7_ t0 t1 t2 t7 t8 t9 t11) ?_)
  rintro a A ⟨t58, -⟩ ⟨t0, t1, t2, t7, t8, t9, t11, -⟩
  refine wp_cond_false t58 ?_
  refine wp_skip ?_
  clear t58
  refine wp_seq ?_
  refine wp_seq ?_
  refine wi_ A (h7_ t0 t1 t2 t7 t8 t9 t11) (rv_ 1 (.int .i64 ((zl (tbE na nd nm) (nm.toNat + 1) : Nat) : Int)) (fun a ee => execLenI (len := zl (tbE na nd nm) (nm.toNat + 1)) rfl (ee _) (shpO (FM.rows 0 (by omega)))) (rf_ [(60, .int .i64 ((zl (tbE na nd nm) (nm.toNat + 1) : Nat) : Int)), (61, .int .i64 ((0 : Nat) : Int))] (h7_ t0 t1 t2 t7 t8 t9 t11) ?_))
  rintro a A ⟨t60, t61, -⟩ ⟨t0, t1, t2, t7, t8, t9, t11, -⟩
  have FM0 : (FmI X3.heap.size 2 (x) (fun _ => zl (tbE na nd nm) (nm.toNat + 1)) (mk1 (tbF na nd nm) 0) X6) := FmI.cgF FM (fun t ht j hj => (mk1_0 t).symm)
  clear FM
  have FM := FM0
  clear FM0
  refine wp_block ?_
  refine wp_loop (fun a W => ∃ (i : Nat), i ≤ zl (tbE na nd nm) (nm.toNat + 1) ∧ (a.tmps.size = 96 ∧ a.defers = []) ∧ a.eval (.tmp 0) = .int .i64 na ∧ a.eval (.tmp 1) = .int .i64 nd ∧ a.eval (.tmp 2) = .int .i64 nm ∧ a.eval (.tmp 7) = v22 ∧ a.eval (.tmp 8) = .int .i64 ((tbE na nd nm : Nat) : Int) ∧ a.eval (.tmp 9) = x 0 ∧ a.eval (.tmp 11) = x 1 ∧ a.eval (.tmp 60) = .int .i64 ((zl (tbE na nd nm) (nm.toNat + 1) : Nat) : Int) ∧ a.eval (.tmp 61) = .int .i64 ((i : Nat) : Int) ∧ Below X3.heap.size X3 W ∧ (FmI X3.heap.size 2 (x) (fun _ => zl (tbE na nd nm) (nm.toNat + 1)) (mk1 (tbF na nd nm) i) W)) (fun a _ => zl (tbE na nd nm) (nm.toNat + 1) - (intOf (a.eval (.tmp 61))).toNat) ⟨0, Nat.zero_le _, A, t0, t1, t2, t7, t8, t9, t11, t60, t61, BB, FM⟩ ?_
  clear A t0 t1 t2 t7 t8 t9 t11 t60 t61 BB FM a
  rintro a XL9 ⟨i, hi, A, t0, t1, t2, t7, t8, t9, t11, t60, t61, BB, FM⟩
  have esi := t61
  refine wp_seq ?_
  refine wi_ A (h9_ t0 t1 t2 t7 t8 t9 t11 t60 t61) (rv_ 0 (.bool (decide (i < zl (tbE na nd nm) (nm.toNat + 1)))) (fun a ee => execLtW (p := i) (q := zl (tbE na nd nm) (nm.toNat + 1)) rfl (ee _) (ee _)) (rf_ [(62, .bool (decide (i < zl (tbE na nd nm) (nm.toNat + 1))))] (h9_ t0 t1 t2 t7 t8 t9 t11 t60 t61) ?_))
  rintro a A ⟨t62, -⟩ ⟨t0, t1, t2, t7, t8, t9, t11, t60, t61, -⟩
  refine wp_seq ?_
  by_cases lti : i < zl (tbE na nd nm) (nm.toNat + 1)
  · rw [decide_eq_true lti] at t62
    refine wp_cond_true t62 ?_
    refine wp_skip ?_
    clear t62
    refine wp_seq ?_
    refine wp_block ?_
    obtain ⟨g0, c0, ex0, hg0, -⟩ := ownL_some9 (FM.rows 0 (by omega)) (show 0 < zl (tbE na nd nm) (nm.toNat + 1) by omega)
    refine wp_seq ?_
    refine wi_ A (h9_ t0 t1 t2 t7 t8 t9 t11 t60 t61) (rf_ [(13, .int .i64 ((i : Nat) : Int))] (h9_ t0 t1 t2 t7 t8 t9 t11 t60 t61) ?_)
    rintro a A ⟨t13, -⟩ ⟨t0, t1, t2, t7, t8, t9, t11, t60, t61, -⟩
    refine wi_ A (h10_ t0 t1 t2 t7 t8 t9 t11 t60 t13 t61) (rv_ 2 (.pointer (some ⟨g0, 0 + i, none⟩)) (fun a ee => execIdxN (k := i) rfl ((ee _).trans ex0) (ee _) lti) (rs_ 3 (fun a ee => ?_)))
    obtain ⟨hc_, hf_⟩ := FM.cell (by omega) ex0 lti
    refine stepS rfl rfl (execStI9 (z := -1) rfl (ee _) rfl hc_ hf_) ⟨_, ⟨_, rfl, rfl⟩, fun X11 hX => ?_⟩
    obtain ⟨BB, FM1⟩ : Below X3.heap.size X3 X11 ∧ (FmI X3.heap.size 2 (x) (fun _ => zl (tbE na nd nm) (nm.toNat + 1)) (updF (mk1 (tbF na nd nm) i) 0 i (-1)) X11) := by subst hX; exact ⟨(BB).setCell hg0 _, FM.set (by omega) ex0 (-1)⟩
    clear FM hX ee a
    refine rf_ [] (h9_ t0 t1 t2 t7 t8 t9 t11 t60 t61) ?_
    rintro a A - ⟨t0, t1, t2, t7, t8, t9, t11, t60, t61, -⟩
    have FM2 : (FmI X3.heap.size 2 (x) (fun _ => zl (tbE na nd nm) (nm.toNat + 1)) (mk1 (tbF na nd nm) (i + 1)) X11) := FmI.cgF FM1 (fun t ht j hj => mk1_set t)
    clear FM1
    refine wi_ A (h9_ t0 t1 t2 t7 t8 t9 t11 t60 t61) (rv_ 0 (.int .i64 ((i + 1 : Nat) : Int)) (fun a ee => execAd8 (p := i) (q := 1) rfl (ee _) rfl (by omega)) (rf_ [(61, .int .i64 ((i + 1 : Nat) : Int))] (h8_ t0 t1 t2 t7 t8 t9 t11 t60) ?_))
    rintro a A ⟨t61, -⟩ ⟨t0, t1, t2, t7, t8, t9, t11, t60, -⟩
    exact ⟨⟨i + 1, lti, A, t0, t1, t2, t7, t8, t9, t11, t60, t61, BB, FM2⟩, by show zl (tbE na nd nm) (nm.toNat + 1) - (intOf (a.eval (.tmp 61))).toNat < zl (tbE na nd nm) (nm.toNat + 1) - (intOf (Act.eval _ (.tmp 61))).toNat; rw [t61, esi]; show zl (tbE na nd nm) (nm.toNat + 1) - (i + 1) < zl (tbE na nd nm) (nm.toNat + 1) - i; omega⟩
  · rw [decide_eq_false lti] at t62
    refine wp_cond_false t62 ?_
    refine wp_exit ?_
    first | with_reducible refine exit_in ?_ | with_reducible refine exit_then (exit_in ?_) | with_reducible refine exit_then (exit_then (exit_in ?_)) | refine exit_in ?_ | refine exit_then (exit_in ?_) | refine exit_then (exit_then (exit_in ?_))
    clear t62 esi
    clear t60 t61
    refine wp_seq ?_
    obtain ⟨g69, egg69⟩ : ∃ z_ : Nat, XL9.heap.size = z_ := ⟨_, rfl⟩
    refine wi_ A (h7_ t0 t1 t2 t7 t8 t9 t11) (rs_ 1 (fun a ee => ?_))
    refine stepV rfl rfl (execBsM3 rfl) ⟨.slice (some ⟨g69, 0, none⟩) 3 3, ⟨_, rfl, by subst egg69; rfl⟩, fun X13_1 hX => ?_⟩
    have bQ : Below XL9.heap.size XL9 X13_1 := by subst hX egg69; exact (belNew XL9 _)
    have F69 : (SliceI X13_1 (.slice (some ⟨g69, 0, none⟩) 3 3) (3) (fun _ => -1)) := by subst hX egg69; exact m3_lit XL9
    replace FM := (FM.on bQ)
    replace BB := BB.trans (bQ.mono BB.size)
    clear bQ hX egg69 ee a
    refine rs_ 2 (fun a ee => ?_)
    refine stepFm (x := x) (t := 0) (l := 3) (q := fun _ => -1) rfl rfl rfl (ee _) (ee _) FM (by omega) F69 ⟨_, _, rfl⟩ (by omega) (by show zl (tbE na nd nm) (nm.toNat + 1) + 3 ≤ _; omega) (BB).size fun v70 X13 fm' gr => ⟨_, ⟨_, rfl, rfl⟩, eqw ?_⟩
    obtain ⟨BB, FR⟩ : Below X3.heap.size X3 X13 ∧ (FmI X3.heap.size 2 (updX x 0 v70) (updD (fun _ => zl (tbE na nd nm) (nm.toNat + 1)) 0 3) (updG (mk1 (tbF na nd nm) i) 0 (catI ((fun _ => zl (tbE na nd nm) (nm.toNat + 1)) 0) (mk1 (tbF na nd nm) i 0) (fun _ => -1))) X13) := ⟨(BB).grown gr (BB).size (fun k hk => ((FM.rows 0 (by omega)).lt k hk).1), fm'⟩
    clear FM F69 ee a
    refine rf_ [(9, v70)] (h6_ t0 t1 t2 t7 t8 t11) ?_
    rintro a A ⟨t9, -⟩ ⟨t0, t1, t2, t7, t8, t11, -⟩
    have FB : SliceI X13 (x 1) (zl (tbE na nd nm) (nm.toNat + 1)) (tbF na nd nm) := own_ints (by have h_ := FR.rows 1 (by omega); rw [show updG (mk1 (tbF na nd nm) i) 0 (catI ((fun _ => zl (tbE na nd nm) (nm.toNat + 1)) 0) (mk1 (tbF na nd nm) i 0) (fun _ => -1)) 1 = tbF na nd nm from mk1_1] at h_; exact h_) tb_fits
    have FA : ∃ ao c, v70 = .slice ao (zl (tbE na nd nm) (nm.toNat + 1) + 3) c := shpO (FR.rows 0 (by omega))
    clear FR
    replace Fv22 := (Fv22.on BB)
    replace BW := BW.trans (BB.mono BW.size)
    clear BB
    refine wp_seq ?_
    refine wi_ A (h7_ t0 t1 t2 t7 t8 t9 t11) (rc_ 3 (I.table na nd nm X13 hna hnd hnm) fun e X14 hh => ?_)
    obtain ⟨vc, he, hk, hb⟩ := hh
    refine ⟨_, he, ?_⟩
    have bQ : Below X13.heap.size X13 X14 := hb
    have FC : (SliceI X14 vc (zl (tbE na nd nm) (nm.toNat + 1)) (tbF na nd nm)) := own_ints hk tb_fits
    have bX := bQ
    clear bQ
    refine rf_ [(14, vc), (15, .int .i64 ((tbE na nd nm : Nat) : Int))] (h4_ t7 t8 t9 t11) ?_
    rintro a A ⟨t14, t15, -⟩ ⟨t7, t8, t9, t11, -⟩
    replace Fv22 := (Fv22.on bX)
    replace FB := (FB.on bX)
    replace FA := FA
    have ZX14 := bX.size
    replace BW := BW.trans (bX.mono BW.size)
    clear bX
    refine wp_seq ?_
    refine wi_ A (h6_ t7 t8 t9 t11 t14 t15) (rv_ 2 (.bool true) (fun a ee => execDec (execEqN (p := tbE na nd nm) (q := tbE na nd nm) rfl (ee _) (ee _)) (decide_eq_true (by omega))) (rc_ 6 (same15 _ _ (zl (tbE na nd nm) (nm.toNat + 1)) _ _ X14 FB Fv22 (fun _ _ => rfl) (by omega)) (cb_ fun X15_1 bQ => ?_)))
    have bX := bQ
    clear bQ
    refine rc_ 11 (same15 _ _ (zl (tbE na nd nm) (nm.toNat + 1)) _ _ X15_1 (FC.on bX) (Fv22.on bX) (fun _ _ => rfl) (by omega)) (cb_ fun X15 bQ => ?_)
    replace bX := bX.trans (bQ.mono bX.size)
    clear bQ
    refine rv_ 15 (.int .i64 ((zl (tbE na nd nm) (nm.toNat + 1) + 3 : Nat) : Int)) (fun a ee => execLenI (len := zl (tbE na nd nm) (nm.toNat + 1) + 3) rfl (ee _) FA) (rv_ 16 (.bool true) (fun a ee => execDec (execGe8 (p := zl (tbE na nd nm) (nm.toNat + 1) + 3) (q := 3) rfl (ee _) rfl) (decide_eq_true (by omega))) (rg_ [(6, .bool true)] ?_))
    rintro a A ⟨t6, -⟩
    replace Fv22 := (Fv22.on bX)
    replace FB := (FB.on bX)
    replace FA := FA
    replace FC := (FC.on bX)
    have ZX15 := bX.size
    replace BW := BW.trans (bX.mono BW.size)
    clear bX
    refine wp_ret ?_
    refine bodyPost_ret (results_tmp rfl _ _ _) A.2 ⟨?_, BW⟩
    show Ending.returned (a.eval (.tmp 6)) = _
    rw [t6]
end Go.Proofs.Ytmfaapbhehhlpaa.Noi
