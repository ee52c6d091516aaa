import Derived.Test.YtmfaapbhehhlpaaB9c
import Derived.Test.YtmfaapbhehhlpaaQ9i
namespace Go.Proofs.Ytmfaapbhehhlpaa.Noi
open Go.RowKit Gf8 Aes By8 Cel Cf Tap Drw Prm Brd
/- Stage 15's Impl; same, awake, NoiseTables. Written by tools/mkB9d.py. -/

abbrev I64 (z : Int) : Prop := -9223372036854775808 ≤ z ∧ z < 9223372036854775808
/-- What the program's package keeps. -/
structure Impl : Prop where
  table : ∀ (na nd nm : Int) (V : World), I64 na → I64 nd → I64 nm → Calls Try.prog 10 #[.int .i64 na, .int .i64 nd, .int .i64 nm] V fun e w' => ∃ r, e = .returned (.tuple #[r, .int .i64 ((tbE na nd nm : Nat) : Int)]) ∧ w'.ownsRow V.heap.size 3 1 r (zl (tbE na nd nm) (nm.toNat + 1)) (intsL (zl (tbE na nd nm) (nm.toNat + 1)) (tbF na nd nm)) ∧ Below V.heap.size V w'
  count : ∀ (p : Nat → Nat) (L : Nat) (na nd nm : Int) (pv : Value) (V : World), SliceN V pv L p → L ≤ 140737488351232 → I64 na → I64 nd → I64 nm → Calls Try.prog 13 #[pv, .int .i64 na, .int .i64 nd, .int .i64 nm] V fun e w' => e = .returned (.tuple #[.int .i64 ((zl (ctE L na nd nm) (ctN p na nd nm) : Nat) : Int), .int .i64 ((ctE L na nd nm : Nat) : Int)]) ∧ Below V.heap.size V w'
  cells : ∀ (p : Nat → Nat) (L : Nat) (nc nl : Int) (pv : Value) (V : World), SliceN V pv L p → L ≤ 140737488351232 → I64 nc → I64 nl → Calls Try.prog 14 #[pv, .int .i64 nc, .int .i64 nl] V fun e w' => ∃ r y, e = .returned (.tuple #[r, .int .i64 ((clE L nc nl : Nat) : Int)]) ∧ w'.ownsRow V.heap.size 31 1 r (zl (clE L nc nl) nc.toNat) (lL y (zl (clE L nc nl) nc.toNat)) ∧ Fam V.heap.size (zl (clE L nc nl) nc.toNat) y (fun _ => 320) (clC p nl.toNat) w' ∧ Below V.heap.size V w'
/-- The plain table. -/
def aw4 (j : Nat) : Int := if j = 0 then 34952 else if j = 1 then 52428 else if j = 2 then 61166 else 65536
theorem aw_like : ∀ j, j < 4 → tbF 1 2 3 j = aw4 j := fun j hj => by
  match j, hj with
  | 0, _ => decide
  | 1, _ => decide
  | 2, _ => decide
  | 3, _ => decide
  | j + 4, h => omega
theorem aw_1 (I : Impl) (V : World) : Calls Try.prog 10 #[.int .i64 1, .int .i64 2, .int .i64 3] V fun e w' => ∃ r, e = .returned (.tuple #[r, .int .i64 ((0 : Nat) : Int)]) ∧ SliceI w' r 4 (tbF 1 2 3) ∧ Below V.heap.size V w' :=
  Calls.mono (I.table 1 2 3 V (by decide) (by decide) (by decide)) fun e w' ⟨r, g1, g2, g3⟩ => by
    have hE : tbE 1 2 3 = 0 := rfl
    have hf := tb_fits (na := 1) (nd := 2) (nm := 3)
    rw [hE] at g1
    rw [hE, zl_ok] at g2 hf
    exact ⟨r, g1, own_ints g2 hf, g3⟩
section
variable {o : Oper} {a : Act} {w : World}
theorem execBsA4 (ho : o.op = .buildSlice 23 4 #[(0, .const (.int .i64 34952)), (1, .const (.int .i64 52428)), (2, .const (.int .i64 61166)), (3, .const (.int .i64 65536))]) : (execOp a.eval o).run Try.prog w = .ok (.value (.slice (some ⟨w.heap.size, 0, none⟩) 4 4)) (w.alloc (.cells #[.int .i64 34952, .int .i64 52428, .int .i64 61166, .int .i64 65536] 3)) := by
  unfold execOp
  simp only [ho]
  simp [go_sem, Act.eval]
theorem execNeIgf {x y : Operand} {p q : Int} (ho : o.op = .binOp .neq 3 x y 3) (hx : a.eval x = .int .i64 p) (hy : a.eval y = .int .i64 q) (h : p = q) : (execOp a.eval o).run Try.prog w = .ok (.value (.bool false)) w := by
  subst h
  exact execNeI ho hx hy
end
theorem aw_lit (X : World) : SliceI (X.alloc (.cells #[.int .i64 34952, .int .i64 52428, .int .i64 61166, .int .i64 65536] 3)) (.slice (some ⟨X.heap.size, 0, none⟩) 4 4) 4 aw4 :=
  lit_ints (heapNew X _) (fun j hj => by
    match j, hj with
    | 0, _ => rfl
    | 1, _ => rfl
    | 2, _ => rfl
    | 3, _ => rfl
    | j + 4, h => omega) (fun j hj => by
    match j, hj with
    | 0, _ => decide
    | 1, _ => decide
    | 2, _ => decide
    | 3, _ => decide
    | j + 4, h => omega) (by decide)
set_option maxRecDepth 100000 in
set_option maxHeartbeats 4000000 in
/-- The law's same, of like lists. -/
theorem same15 (f g : Nat → Int) (n : Nat) (v u0 : Value) (V : World) (FI : SliceI V v n f) (FJ : SliceI V u0 n g) (hfg : ∀ j, j < n → f j = g j) (hn17 : n ≤ 17592186044416) :
    Calls Try.prog 11 #[v, u0] V fun e w' => e = .returned (.bool true) ∧ Below V.heap.size V w' := by
  go_enter Try.func11, Try.ntmps11
  refine wp_seq ?_
  refine wo_ 26 [(0, v), (1, u0)] ?_
  rintro a A ⟨t0, t1, -⟩
  refine wi_ A (h2_ t0 t1) (rf_ [] (h2_ t0 t1) ?_)
  rintro a A - ⟨t0, t1, -⟩
  have BW : Below V.heap.size V V := Below.refl _ _
  have BB := BW
  refine wp_seq ?_
  refine wp_seq ?_
  refine wi_ A (h2_ t0 t1) (rv_ 1 (.int .i64 ((n : Nat) : Int)) (fun a ee => execLenI (len := n) rfl (ee _) FI.shp) (rv_ 3 (.int .i64 ((n : Nat) : Int)) (fun a ee => execLenI (len := n) rfl (ee _) FJ.shp) (rv_ 4 (.bool false) (fun a ee => execDec (execNeN (p := n) (q := n) rfl (ee _) (ee _)) (decide_eq_false (by omega))) (rf_ [(10, .bool false)] (h2_ t0 t1) ?_))))
  rintro a A ⟨t10, -⟩ ⟨t0, t1, -⟩
  refine wp_cond_false t10 ?_
  refine wp_skip ?_
  clear t10
  refine wp_seq ?_
  refine wp_seq ?_
  refine wi_ A (h2_ t0 t1) (rv_ 1 (.int .i64 ((n : Nat) : Int)) (fun a ee => execLenI (len := n) rfl (ee _) FI.shp) (rf_ [(12, .int .i64 ((n : Nat) : Int)), (13, .int .i64 ((0 : Nat) : Int))] (h2_ t0 t1) ?_))
  rintro a A ⟨t12, t13, -⟩ ⟨t0, t1, -⟩
  refine wp_block ?_
  refine wp_loop (fun a W => ∃ (i : Nat), i ≤ n ∧ (a.tmps.size = 26 ∧ a.defers = []) ∧ a.eval (.tmp 0) = v ∧ a.eval (.tmp 1) = u0 ∧ a.eval (.tmp 12) = .int .i64 ((n : Nat) : Int) ∧ a.eval (.tmp 13) = .int .i64 ((i : Nat) : Int) ∧ Below V.heap.size V W) (fun a _ => n - (intOf (a.eval (.tmp 13))).toNat) ⟨0, Nat.zero_le _, A, t0, t1, t12, t13, BB⟩ ?_
  clear A t0 t1 t12 t13 BB a
  rintro a XL4 ⟨i, hi, A, t0, t1, t12, t13, BB⟩
  have esi := t13
  refine wp_seq ?_
  refine wi_ A (h4_ t0 t1 t12 t13) (rv_ 0 (.bool (decide (i < n))) (fun a ee => execLtW (p := i) (q := n) rfl (ee _) (ee _)) (rf_ [(14, .bool (decide (i < n)))] (h4_ t0 t1 t12 t13) ?_))
  rintro a A ⟨t14, -⟩ ⟨t0, t1, t12, t13, -⟩
  refine wp_seq ?_
  by_cases lti : i < n
  · rw [decide_eq_true lti] at t14
    refine wp_cond_true t14 ?_
    refine wp_skip ?_
    clear t14
    refine wp_seq ?_
    refine wp_block ?_
    obtain ⟨iib, iio, iic, eii, hiib, hiic⟩ := open_sl FI (by omega)
    have cii : ∀ k, k < n → ∀ X, Below V.heap.size V X → X.cell? ⟨iib, iio + k, none⟩ = some (.int .i64 ((f) k)) := fun k hk X hX => by rw [cell_below hX hiib]; exact hiic k hk
    obtain ⟨jjb, jjo, jjc, ejj, hjjb, hjjc⟩ := open_sl FJ (by omega)
    have cjj : ∀ k, k < n → ∀ X, Below V.heap.size V X → X.cell? ⟨jjb, jjo + k, none⟩ = some (.int .i64 ((g) k)) := fun k hk X hX => by rw [cell_below hX hjjb]; exact hjjc k hk
    refine wp_seq ?_
    refine wi_ A (h4_ t0 t1 t12 t13) (rf_ [(5, .int .i64 ((i : Nat) : Int))] (h4_ t0 t1 t12 t13) ?_)
    rintro a A ⟨t5, -⟩ ⟨t0, t1, t12, t13, -⟩
    refine wp_seq ?_
    refine wj_ [0, 1, 2, 3, 4, 5, 6, 7, 8] [] [3, 7] [] A (h5_ t0 t1 t12 t5 t13) (fun X6 bD => ?_)
    refine dw_ 2 (.pointer (some ⟨iib, iio + i, none⟩)) (fun a X ee => execIdxN (k := i) rfl ((ee _).trans eii) (ee _) lti) (dv_ 3 (.int .i64 (f i)) (fun a X ee hb => execLd3 rfl (ee _) (cii i lti X (BB.trans (hb.mono BB.size)))) (dw_ 6 (.pointer (some ⟨jjb, jjo + i, none⟩)) (fun a X ee => execIdxN (k := i) rfl ((ee _).trans ejj) (ee _) lti) (dv_ 7 (.int .i64 (g i)) (fun a X ee hb => execLd3 rfl (ee _) (cjj i lti X (BB.trans (hb.mono BB.size)))) (dw_ 8 (.bool false) (fun a X ee => execNeIgf rfl (ee _) (ee _) (hfg i lti)) (dz_ [(24, .bool false)] (h4_ t0 t1 t12 t13) ?_)))))
    rintro a A ⟨t24, -⟩ ⟨t0, t1, t12, t13, -⟩
    replace BB := BB.trans (bD.mono BB.size)
    clear bD
    refine wp_cond_false t24 ?_
    refine wp_skip ?_
    clear t24
    refine wi_ A (h4_ t0 t1 t12 t13) (rv_ 0 (.int .i64 ((i + 1 : Nat) : Int)) (fun a ee => execAd8 (p := i) (q := 1) rfl (ee _) rfl (by omega)) (rf_ [(13, .int .i64 ((i + 1 : Nat) : Int))] (h3_ t0 t1 t12) ?_))
    rintro a A ⟨t13, -⟩ ⟨t0, t1, t12, -⟩
    exact ⟨⟨i + 1, lti, A, t0, t1, t12, t13, BB⟩, by show n - (intOf (a.eval (.tmp 13))).toNat < n - (intOf (Act.eval _ (.tmp 13))).toNat; rw [t13, esi]; show n - (i + 1) < n - i; omega⟩
  · rw [decide_eq_false lti] at t14
    refine wp_cond_false t14 ?_
    refine wp_exit ?_
    first | with_reducible refine exit_in ?_ | with_reducible refine exit_then (exit_in ?_) | with_reducible refine exit_then (exit_then (exit_in ?_)) | refine exit_in ?_ | refine exit_then (exit_in ?_) | refine exit_then (exit_then (exit_in ?_))
    clear t14 esi
    clear t0 t1 t12 t13
    refine wp_seq ?_
    refine wi_ A h0_ (rg_ [(4, .bool true)] ?_)
    rintro a A ⟨t4, -⟩
    refine wp_ret ?_
    refine bodyPost_ret (results_tmp rfl _ _ _) A.2 ⟨?_, BB⟩
    show Ending.returned (a.eval (.tmp 4)) = _
    rw [t4]
set_option maxRecDepth 100000 in
set_option maxHeartbeats 4000000 in
/-- awake. -/
theorem awake15 (I : Impl) (V : World) :
    Calls Try.prog 8 #[] V fun e w' => e = .returned (.bool true) ∧ Below V.heap.size V w' := by
  go_enter Try.func8, Try.ntmps8
  refine wp_seq ?_
  refine wo_ 14 [] ?_
  rintro a A -
  refine wi_ A h0_ (rg_ [] ?_)
  rintro a A -
  have BW : Below V.heap.size V V := Below.refl _ _
  refine wp_seq ?_
  refine wi_ A h0_ (rc_ 0 (aw_1 I V) fun e X1 hh => ?_)
  obtain ⟨l_, he, hk, hb⟩ := hh
  refine ⟨_, he, ?_⟩
  have bQ : Below V.heap.size V X1 := hb
  have Fl : (SliceI X1 l_ (4) (tbF 1 2 3)) := hk
  have bX := bQ
  clear bQ
  refine rg_ [(1, l_), (2, .int .i64 ((0 : Nat) : Int))] ?_
  rintro a A ⟨t1, t2, -⟩
  have ZX1 := bX.size
  replace BW := BW.trans (bX.mono BW.size)
  clear bX
  refine wp_seq ?_
  obtain ⟨g11, egg11⟩ : ∃ z_ : Nat, X1.heap.size = z_ := ⟨_, rfl⟩
  refine wi_ A (h2_ t1 t2) (rv_ 1 (.bool true) (fun a ee => execDec (execEqE (p := 0) (q := 0) rfl (ee _) rfl) (decide_eq_true (by rfl))) (rs_ 4 (fun a ee => ?_)))
  refine stepV rfl (wy rfl rfl rfl (ee _)) (execBsA4 rfl) ⟨.slice (some ⟨g11, 0, none⟩) 4 4, ⟨_, rfl, by subst egg11; rfl⟩, fun X2_1 hX => ?_⟩
  have bQ : Below X1.heap.size X1 X2_1 := by subst hX egg11; exact (belNew X1 _)
  have F11 : (SliceI X2_1 (.slice (some ⟨g11, 0, none⟩) 4 4) (4) (aw4)) := by subst hX egg11; exact aw_lit X1
  have bX := bQ
  clear bQ hX egg11 ee a
  refine rc_ 5 (same15 _ _ (4) _ _ X2_1 (Fl.on bX) F11 (aw_like) (by omega)) (cb_ fun X2 bQ => ?_)
  replace F11 := (F11.on bQ)
  replace bX := bX.trans (bQ.mono bX.size)
  clear bQ
  refine rg_ [(0, .bool true)] ?_
  rintro a A ⟨t0, -⟩
  replace Fl := (Fl.on bX)
  have ZX2 := bX.size
  replace BW := BW.trans (bX.mono BW.size)
  clear bX
  refine wp_ret ?_
  refine bodyPost_ret (results_tmp rfl _ _ _) A.2 ⟨?_, BW⟩
  show Ending.returned (a.eval (.tmp 0)) = _
  rw [t0]
end Go.Proofs.Ytmfaapbhehhlpaa.Noi
