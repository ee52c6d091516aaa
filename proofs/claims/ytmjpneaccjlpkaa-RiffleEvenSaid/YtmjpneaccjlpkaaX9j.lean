import Derived.Test.YtmjpneaccjlpkaaX9h
import Derived.Test.YtmjpneaccjlpkaaQ9u
namespace Go.Proofs.Ytmjpneaccjlpkaa.Rif
open Go.RowKit Gf8 Aes By8 Cel Cf Tap Drw Prm Brd
/- Stage 13's RiffleEven. Written by tools/mkX9j.py. -/
section
variable {o : Oper} {a : Act} {w : World}
theorem execBoxJb {x : Operand} {p q r s : Value} (ho : o.op = .box 38 x) (hx : a.eval x = .agg (akC p q r s)) : (execOp a.eval o).run Try.prog w = .ok (.value (.pointer (some ⟨w.heap.size, 0, none⟩))) (w.alloc (.cells (akC p q r s) 38)) := by
 unfold execOp
 simp only [ho, hx]
 simp [go_sem, akC]
theorem execFldJb0 {x : Operand} {b : Nat} (ho : o.op = .fieldAddr 38 x 0) (hx : a.eval x = .pointer (some ⟨b, 0, none⟩)) : (execOp a.eval o).run Try.prog w = .ok (.value (.pointer (some ⟨b, 0, none⟩))) w := by
 unfold execOp
 simp only [ho, hx]
 simp [go_sem]
theorem execFldJb1 {x : Operand} {b : Nat} (ho : o.op = .fieldAddr 38 x 1) (hx : a.eval x = .pointer (some ⟨b, 0, none⟩)) : (execOp a.eval o).run Try.prog w = .ok (.value (.pointer (some ⟨b, 1, none⟩))) w := by
 unfold execOp
 simp only [ho, hx]
 simp [go_sem]
theorem execFldJb2 {x : Operand} {b : Nat} (ho : o.op = .fieldAddr 38 x 2) (hx : a.eval x = .pointer (some ⟨b, 0, none⟩)) : (execOp a.eval o).run Try.prog w = .ok (.value (.pointer (some ⟨b, 2, none⟩))) w := by
 unfold execOp
 simp only [ho, hx]
 simp [go_sem]
theorem execFldJb3 {x : Operand} {b : Nat} (ho : o.op = .fieldAddr 38 x 3) (hx : a.eval x = .pointer (some ⟨b, 0, none⟩)) : (execOp a.eval o).run Try.prog w = .ok (.value (.pointer (some ⟨b, 3, none⟩))) w := by
 unfold execOp
 simp only [ho, hx]
 simp [go_sem]
theorem execEqZt {x y : Operand} {p q : Int} (ho : o.op = .binOp .eql 3 x y 3) (hx : a.eval x = .int .i64 p) (hy : a.eval y = .int .i64 q) (h : p = q) : (execOp a.eval o).run Try.prog w = .ok (.value (.bool true)) w := by
 subst h
 unfold execOp
 simp only [ho, hx, hy]
 simp [go_sem]
theorem execEqZf {x y : Operand} {p q : Int} (ho : o.op = .binOp .eql 3 x y 3) (hx : a.eval x = .int .i64 p) (hy : a.eval y = .int .i64 q) (h : ¬ p = q) : (execOp a.eval o).run Try.prog w = .ok (.value (.bool false)) w := by
 unfold execOp
 simp only [ho, hx, hy]
 simp [go_sem, h]
theorem execNeZt {x y : Operand} {p q : Int} (ho : o.op = .binOp .neq 3 x y 3) (hx : a.eval x = .int .i64 p) (hy : a.eval y = .int .i64 q) (h : ¬ p = q) : (execOp a.eval o).run Try.prog w = .ok (.value (.bool true)) w := by
 unfold execOp
 simp only [ho, hx, hy]
 simp [go_sem, h]
theorem execNeZf {x y : Operand} {p q : Int} (ho : o.op = .binOp .neq 3 x y 3) (hx : a.eval x = .int .i64 p) (hy : a.eval y = .int .i64 q) (h : p = q) : (execOp a.eval o).run Try.prog w = .ok (.value (.bool false)) w := by
 subst h
 unfold execOp
 simp only [ho, hx, hy]
 simp [go_sem]
end
set_option maxRecDepth 100000 in
set_option maxHeartbeats 4000000 in
theorem even13 (p : Nat → Nat) (L : Nat) (n ch : Int) (wf tf : Nat → Int) (m k : Nat) (pv wv tv : Value) (V : World) (FP : SliceN V pv L p) (hl : L ≤ 140737488351232) (FW : SliceI V wv m wf) (hm17 : m ≤ 17592186043904) (FT : SliceI V tv k tf) (_hk17 : k ≤ 17592186043904) :
  Calls Try.prog 6 #[.agg (akC pv (.int .i64 n) (.int .i64 ch) wv), tv] V fun e w' => e = .returned (.bool true) ∧ Below V.heap.size V w' := by
 go_enter Try.func6, Try.ntmps6
 refine wp_open (fun a => (a.tmps.size = 171 ∧ a.defers = []) ∧ a.eval (.tmp 0) = .agg (akC pv (.int .i64 n) (.int .i64 ch) wv) ∧ a.eval (.tmp 1) = tv) ⟨⟨rfl, rfl⟩, rfl, rfl⟩ ?_
 rintro a ⟨A, t0, t1⟩
 have BW : Below V.heap.size V V := Below.refl _ _
 refine wp_seq ?_
 refine wp_se (σ := Nat) 171 [0] [0] (fun k_ s X => match k_ with | 0 => Below V.heap.size V X | _ => Below V.heap.size V X ∧ (X.heap[s]? = some (.cells (akC pv (.int .i64 n) (.int .i64 ch) wv) 38))) (fun s => fun i_ => match i_ with | 0 => .pointer (some ⟨s, 0, none⟩) | _ => undef) 0 A (Below.refl _ _) (And.intro ?_ trivial) ?_
 ·intro s a X e hS
  refine stepV rfl rfl (execBoxJb rfl ((e (.tmp 0)).trans t0)) ⟨X.heap.size, ⟨_, rfl, rfl⟩, ⟨(hS).trans (((belNew X _)).mono (hS).size), heapNew X _⟩, (And.intro (fun h => absurd h (by decide)) trivial)⟩
 rintro gq a X0 A e (hS : Below V.heap.size V X0 ∧ (X0.heap[gq]? = some (.cells (akC pv (.int .i64 n) (.int .i64 ch) wv) 38)))
 obtain ⟨bX, FQ⟩ := hS
 have t2 : a.eval (.tmp 2) = .pointer (some ⟨gq, 0, none⟩) := e _
 replace t1 := kt e t1
 replace FP := (FP.on bX)
 replace FW := (FW.on bX)
 replace FT := (FT.on bX)
 have ZX0 := bX.size
 replace BW := BW.trans (bX.mono BW.size)
 clear bX
 clear e t0
 refine wp_seq (wp_seq ?_)
 refine wp_se 171 [0, 1] [] (fun _ s X => Below X0.heap.size X0 X) (fun s => fun i_ => match i_ with | 0 => .bool true | 1 => .bool false | _ => undef) () A (Below.refl _ _) (And.intro ?_ (And.intro ?_ trivial)) ?_
 ·exact fun s a X e hS => stepC rfl rfl (execCall0 Try.func9 (by kernel_rfl) (by kernel_rfl) rfl ) (alive13 X) fun e w' hh => ⟨_, hh.1, s, ⟨_, rfl, rfl⟩, (hS).trans ((hh.2).mono (hS).size), ar⟩
 ·exact fun s a X e hS => stepV rfl rfl (execNot8 rfl (e (.tmp 18))) ⟨s, ⟨_, rfl, rfl⟩, hS, ar⟩
 rintro _ a X1 A e (bX : Below X0.heap.size X0 X1)
 have t19 : a.eval (.tmp 19) = .bool false := e _
 replace t1 := kt e t1
 replace t2 := kt e t2
 replace FP := (FP.on bX)
 replace FW := (FW.on bX)
 replace FT := (FT.on bX)
 replace FQ := (on9 FQ bX)
 have ZX1 := bX.size
 replace BW := BW.trans (bX.mono BW.size)
 clear bX
 clear e
 refine wp_cond_false t19 (wp_skip ?_)
 clear t19
 refine wp_seq ?_
 refine wp_se (σ := Value) 171 [0, 1, 2, 3, 4, 5, 6] [6] (fun k_ s X => match k_ with | 0 => Below X1.heap.size X1 X | _ => Below X1.heap.size X1 X ∧ (SliceI X s (zl (riE L n ch p) (n).toNat) (orF L n ch p))) (fun s => fun i_ => match i_ with | 0 => .pointer (some ⟨gq, 0, none⟩) | 1 => pv | 2 => .pointer (some ⟨gq, 1, none⟩) | 3 => .int .i64 n | 4 => .pointer (some ⟨gq, 2, none⟩) | 5 => .int .i64 ch | 6 => .tuple #[s, .int .i64 ((riE L n ch p : Nat) : Int)] | _ => undef) undef A (Below.refl _ _) (And.intro ?_ (And.intro ?_ (And.intro ?_ (And.intro ?_ (And.intro ?_ (And.intro ?_ (And.intro ?_ trivial))))))) ?_
 ·exact fun s a X e hS => stepV rfl rfl (execFldJb0 rfl ((e (.tmp 2)).trans t2)) ⟨s, ⟨_, rfl, rfl⟩, hS, ar⟩
 ·exact fun s a X e hS => stepV rfl rfl (execLdL rfl (e (.tmp 21)) (ak_at0 (on9 FQ hS))) ⟨s, ⟨_, rfl, rfl⟩, hS, ar⟩
 ·exact fun s a X e hS => stepV rfl rfl (execFldJb1 rfl ((e (.tmp 2)).trans t2)) ⟨s, ⟨_, rfl, rfl⟩, hS, ar⟩
 ·exact fun s a X e hS => stepV rfl rfl (execLd3 rfl (e (.tmp 23)) (ak_at1 (on9 FQ hS))) ⟨s, ⟨_, rfl, rfl⟩, hS, ar⟩
 ·exact fun s a X e hS => stepV rfl rfl (execFldJb2 rfl ((e (.tmp 2)).trans t2)) ⟨s, ⟨_, rfl, rfl⟩, hS, ar⟩
 ·exact fun s a X e hS => stepV rfl rfl (execLd3 rfl (e (.tmp 25)) (ak_at2 (on9 FQ hS))) ⟨s, ⟨_, rfl, rfl⟩, hS, ar⟩
 ·intro s a X e hS
  refine stepC rfl rfl (execCall3 Try.func10 (by kernel_rfl) (by kernel_rfl) rfl (e (.tmp 22)) (e (.tmp 24)) (e (.tmp 26))) (porder p L n ch _ X (FP.on hS) (by omega)) fun e w' hh => ?_
  obtain ⟨r_, he, hk, hb⟩ := hh
  refine ⟨_, he, r_, ⟨_, rfl, rfl⟩, ⟨(hS).trans ((hb).mono (hS).size), own_ints hk or_fits⟩, (And.intro (fun _ => rfl) (And.intro (fun _ => rfl) (And.intro (fun _ => rfl) (And.intro (fun _ => rfl) (And.intro (fun _ => rfl) (And.intro (fun _ => rfl) (And.intro (fun h => absurd h (by decide)) trivial)))))))⟩
 rintro v27 a X3 A e (hS : Below X1.heap.size X1 X3 ∧ (SliceI X3 v27 (zl (riE L n ch p) (n).toNat) (orF L n ch p)))
 obtain ⟨bX, Fv27⟩ := hS
 have t5 : a.eval (.tmp 5) = v27 := e _
 have t6 : a.eval (.tmp 6) = .int .i64 ((riE L n ch p : Nat) : Int) := e _
 replace t1 := kt e t1
 replace t2 := kt e t2
 replace FP := (FP.on bX)
 replace FW := (FW.on bX)
 replace FT := (FT.on bX)
 replace FQ := (on9 FQ bX)
 have ZX3 := bX.size
 replace BW := BW.trans (bX.mono BW.size)
 clear bX
 clear e
 refine wp_seq ?_
 refine wp_se (σ := Value) 171 [0, 1, 2, 3, 4, 5, 6, 7, 8] [8] (fun k_ s X => match k_ with | 0 => Below X3.heap.size X3 X | _ => Below X3.heap.size X3 X ∧ SliceN X s (zl (tnE L n ch wf m p) L) (tnF L n ch wf p)) (fun s => fun i_ => match i_ with | 0 => .pointer (some ⟨gq, 0, none⟩) | 1 => pv | 2 => .pointer (some ⟨gq, 1, none⟩) | 3 => .int .i64 n | 4 => .pointer (some ⟨gq, 2, none⟩) | 5 => .int .i64 ch | 6 => .pointer (some ⟨gq, 3, none⟩) | 7 => wv | 8 => .tuple #[s, .int .i64 ((tnE L n ch wf m p : Nat) : Int)] | _ => undef) undef A (Below.refl _ _) (And.intro ?_ (And.intro ?_ (And.intro ?_ (And.intro ?_ (And.intro ?_ (And.intro ?_ (And.intro ?_ (And.intro ?_ (And.intro ?_ trivial))))))))) ?_
 ·exact fun s a X e hS => stepV rfl rfl (execFldJb0 rfl ((e (.tmp 2)).trans t2)) ⟨s, ⟨_, rfl, rfl⟩, hS, ar⟩
 ·exact fun s a X e hS => stepV rfl rfl (execLdL rfl (e (.tmp 31)) (ak_at0 (on9 FQ hS))) ⟨s, ⟨_, rfl, rfl⟩, hS, ar⟩
 ·exact fun s a X e hS => stepV rfl rfl (execFldJb1 rfl ((e (.tmp 2)).trans t2)) ⟨s, ⟨_, rfl, rfl⟩, hS, ar⟩
 ·exact fun s a X e hS => stepV rfl rfl (execLd3 rfl (e (.tmp 33)) (ak_at1 (on9 FQ hS))) ⟨s, ⟨_, rfl, rfl⟩, hS, ar⟩
 ·exact fun s a X e hS => stepV rfl rfl (execFldJb2 rfl ((e (.tmp 2)).trans t2)) ⟨s, ⟨_, rfl, rfl⟩, hS, ar⟩
 ·exact fun s a X e hS => stepV rfl rfl (execLd3 rfl (e (.tmp 35)) (ak_at2 (on9 FQ hS))) ⟨s, ⟨_, rfl, rfl⟩, hS, ar⟩
 ·exact fun s a X e hS => stepV rfl rfl (execFldJb3 rfl ((e (.tmp 2)).trans t2)) ⟨s, ⟨_, rfl, rfl⟩, hS, ar⟩
 ·exact fun s a X e hS => stepV rfl rfl (execLdLI (v := wv) rfl (e (.tmp 37)) (ak_at3 (on9 FQ hS))) ⟨s, ⟨_, rfl, rfl⟩, hS, ar⟩
 ·intro s a X e hS
  refine stepC rfl rfl (execCall4 Try.func16 (by kernel_rfl) (by kernel_rfl) rfl (e (.tmp 32)) (e (.tmp 34)) (e (.tmp 36)) (e (.tmp 38))) (pturn p L n ch wf m _ _ X (FP.on hS) (by omega) (FW.on hS)) fun e w' hh => ?_
  obtain ⟨r_, he, hk, hb⟩ := hh
  refine ⟨_, he, r_, ⟨_, rfl, rfl⟩, ⟨(hS).trans ((hb).mono (hS).size), own_slice hk (fun _ hj => tn_byte ((FP.on hS)).bytes hj)⟩, (And.intro (fun _ => rfl) (And.intro (fun _ => rfl) (And.intro (fun _ => rfl) (And.intro (fun _ => rfl) (And.intro (fun _ => rfl) (And.intro (fun _ => rfl) (And.intro (fun _ => rfl) (And.intro (fun _ => rfl) (And.intro (fun h => absurd h (by decide)) trivial)))))))))⟩
 rintro v39 a X4 A e (hS : Below X3.heap.size X3 X4 ∧ SliceN X4 v39 (zl (tnE L n ch wf m p) L) (tnF L n ch wf p))
 obtain ⟨bX, Fv39⟩ := hS
 have t7 : a.eval (.tmp 7) = v39 := e _
 have t8 : a.eval (.tmp 8) = .int .i64 ((tnE L n ch wf m p : Nat) : Int) := e _
 replace t1 := kt e t1
 replace t2 := kt e t2
 replace t5 := kt e t5
 replace t6 := kt e t6
 replace FP := (FP.on bX)
 replace FW := (FW.on bX)
 replace FT := (FT.on bX)
 replace FQ := (on9 FQ bX)
 replace Fv27 := (Fv27.on bX)
 have ZX4 := bX.size
 replace BW := BW.trans (bX.mono BW.size)
 clear bX
 clear e
 refine wp_seq (wp_seq ?_)
 by_cases hF : tnE L n ch wf m p = 0
 ·refine wp_se 171 [1] [] (fun _ s X => Below X4.heap.size X4 X) (fun s => fun i_ => match i_ with | 1 => .bool false | _ => undef) () A (Below.refl _ _) (And.intro ?_ trivial) ?_
  ·exact fun s a X e hS => stepV rfl rfl (execDec (execNeE (p := tnE L n ch wf m p) (q := 0) rfl ((e (.tmp 42)).trans t8) rfl) (decide_eq_false (by omega))) ⟨s, ⟨_, rfl, rfl⟩, hS, ar⟩
  rintro _ a X5 A e (bX : Below X4.heap.size X4 X5)
  have t43 : a.eval (.tmp 43) = .bool false := e _
  replace t1 := kt e t1
  replace t2 := kt e t2
  replace t5 := kt e t5
  replace t6 := kt e t6
  replace t7 := kt e t7
  replace t8 := kt e t8
  replace FP := (FP.on bX)
  replace FW := (FW.on bX)
  replace FT := (FT.on bX)
  replace FQ := (on9 FQ bX)
  replace Fv27 := (Fv27.on bX)
  replace Fv39 := (Fv39.on bX)
  have ZX5 := bX.size
  replace BW := BW.trans (bX.mono BW.size)
  clear bX
  clear e
  refine wp_cond_false t43 (wp_skip ?_)
  clear t43
  obtain ⟨hft, hw, hwi⟩ := tn_ok hF
  have hnm : n = (m : Int) := hft.n
  have hm : m ≤ 256 := hft.le
  have hnt : n.toNat = m := by omega
  have hR1 : riE L n ch p = 0 := hft.ri
  rw [hR1] at t6
  have hwE : pE wf m = 0 := pE_zero.2 (okQ_iff.2 ⟨fun i hi => by have h3 := hw.lt i hi; have h4 := hwi i hi; omega, fun i j hi hj hij => hw.inj i j hi hj (by show (wf i).toNat = (wf j).toNat; rw [hij])⟩)
  have hft2 := hft.tu hw
  clear t8
  replace Fv39 : SliceN X5 v39 (L) (tnF L n ch wf p) := (by have h_ := Fv39; rw [hF, zl_ok] at h_; exact h_)
  replace Fv27 : SliceI X5 v27 (m) (orF L n ch p) := (by have h_ := Fv27; rw [hR1, zl_ok, hnt] at h_; exact h_)
  have hR2 : riE L n ch (tnF L n ch wf p) = 0 := hft2.ri
  refine wp_seq ?_
  refine wp_se (σ := Value) 171 [1, 2, 3, 4, 5] [5] (fun k_ s X => match k_ with | 0 => Below X5.heap.size X5 X | _ => Below X5.heap.size X5 X ∧ (SliceI X s (zl (riE L n ch (tnF L n ch wf p)) (n).toNat) (orF L n ch (tnF L n ch wf p)))) (fun s => fun i_ => match i_ with | 1 => .pointer (some ⟨gq, 1, none⟩) | 2 => .int .i64 n | 3 => .pointer (some ⟨gq, 2, none⟩) | 4 => .int .i64 ch | 5 => .tuple #[s, .int .i64 ((riE L n ch (tnF L n ch wf p) : Nat) : Int)] | _ => undef) undef A (Below.refl _ _) (And.intro ?_ (And.intro ?_ (And.intro ?_ (And.intro ?_ (And.intro ?_ trivial))))) ?_
  ·exact fun s a X e hS => stepV rfl rfl (execFldJb1 rfl ((e (.tmp 2)).trans t2)) ⟨s, ⟨_, rfl, rfl⟩, hS, ar⟩
  ·exact fun s a X e hS => stepV rfl rfl (execLd3 rfl (e (.tmp 78)) (ak_at1 (on9 FQ hS))) ⟨s, ⟨_, rfl, rfl⟩, hS, ar⟩
  ·exact fun s a X e hS => stepV rfl rfl (execFldJb2 rfl ((e (.tmp 2)).trans t2)) ⟨s, ⟨_, rfl, rfl⟩, hS, ar⟩
  ·exact fun s a X e hS => stepV rfl rfl (execLd3 rfl (e (.tmp 80)) (ak_at2 (on9 FQ hS))) ⟨s, ⟨_, rfl, rfl⟩, hS, ar⟩
  ·intro s a X e hS
   refine stepC rfl rfl (execCall3 Try.func10 (by kernel_rfl) (by kernel_rfl) rfl ((e (.tmp 77)).trans t7) (e (.tmp 79)) (e (.tmp 81))) (porder (tnF L n ch wf p) L n ch _ X (Fv39.on hS) (by omega)) fun e w' hh => ?_
   obtain ⟨r_, he, hk, hb⟩ := hh
   refine ⟨_, he, r_, ⟨_, rfl, rfl⟩, ⟨(hS).trans ((hb).mono (hS).size), own_ints hk or_fits⟩, (And.intro (fun _ => rfl) (And.intro (fun _ => rfl) (And.intro (fun _ => rfl) (And.intro (fun _ => rfl) (And.intro (fun h => absurd h (by decide)) trivial)))))⟩
  rintro v82 a X8 A e (hS : Below X5.heap.size X5 X8 ∧ (SliceI X8 v82 (zl (riE L n ch (tnF L n ch wf p)) (n).toNat) (orF L n ch (tnF L n ch wf p))))
  obtain ⟨bX, Fv82⟩ := hS
  have t10 : a.eval (.tmp 10) = v82 := e _
  have t11 : a.eval (.tmp 11) = .int .i64 ((riE L n ch (tnF L n ch wf p) : Nat) : Int) := e _
  replace t1 := kt e t1
  replace t2 := kt e t2
  replace t5 := kt e t5
  replace t6 := kt e t6
  replace t7 := kt e t7
  replace FP := (FP.on bX)
  replace FW := (FW.on bX)
  replace FT := (FT.on bX)
  replace FQ := (on9 FQ bX)
  replace Fv27 := (Fv27.on bX)
  replace Fv39 := (Fv39.on bX)
  have ZX8 := bX.size
  replace BW := BW.trans (bX.mono BW.size)
  clear bX
  clear e
  rw [hR2] at t11
  replace Fv82 : SliceI X8 v82 (m) (wf) := (by have h_ := Fv82; rw [hR2, zl_ok, hnt] at h_; exact SliceI.cg h_ (fun i hi => hft.tu_or hw hwi hi))
  have hT9 : tnE L n ch (orF L n ch p) m (tnF L n ch wf p) = 0 := hft2.tn hft.or_pE
  refine wp_seq ?_
  refine wp_se (σ := Value) 171 [1, 2, 3, 4, 6] [6] (fun k_ s X => match k_ with | 0 => Below X8.heap.size X8 X | _ => Below X8.heap.size X8 X ∧ SliceN X s (zl (tnE L n ch (orF L n ch p) m (tnF L n ch wf p)) L) (tnF L n ch (orF L n ch p) (tnF L n ch wf p))) (fun s => fun i_ => match i_ with | 1 => .pointer (some ⟨gq, 1, none⟩) | 2 => .int .i64 n | 3 => .pointer (some ⟨gq, 2, none⟩) | 4 => .int .i64 ch | 6 => .tuple #[s, .int .i64 ((tnE L n ch (orF L n ch p) m (tnF L n ch wf p) : Nat) : Int)] | _ => undef) undef A (Below.refl _ _) (And.intro ?_ (And.intro ?_ (And.intro ?_ (And.intro ?_ (And.intro ?_ trivial))))) ?_
  ·exact fun s a X e hS => stepV rfl rfl (execFldJb1 rfl ((e (.tmp 2)).trans t2)) ⟨s, ⟨_, rfl, rfl⟩, hS, ar⟩
  ·exact fun s a X e hS => stepV rfl rfl (execLd3 rfl (e (.tmp 87)) (ak_at1 (on9 FQ hS))) ⟨s, ⟨_, rfl, rfl⟩, hS, ar⟩
  ·exact fun s a X e hS => stepV rfl rfl (execFldJb2 rfl ((e (.tmp 2)).trans t2)) ⟨s, ⟨_, rfl, rfl⟩, hS, ar⟩
  ·exact fun s a X e hS => stepV rfl rfl (execLd3 rfl (e (.tmp 89)) (ak_at2 (on9 FQ hS))) ⟨s, ⟨_, rfl, rfl⟩, hS, ar⟩
  ·intro s a X e hS
   refine stepC rfl rfl (execCall4 Try.func16 (by kernel_rfl) (by kernel_rfl) rfl ((e (.tmp 86)).trans t7) (e (.tmp 88)) (e (.tmp 90)) ((e (.tmp 91)).trans t5)) (pturn (tnF L n ch wf p) L n ch (orF L n ch p) m _ _ X (Fv39.on hS) (by omega) (Fv27.on hS)) fun e w' hh => ?_
   obtain ⟨r_, he, hk, hb⟩ := hh
   refine ⟨_, he, r_, ⟨_, rfl, rfl⟩, ⟨(hS).trans ((hb).mono (hS).size), own_slice hk (fun _ hj => tn_byte ((Fv39.on hS)).bytes hj)⟩, (And.intro (fun _ => rfl) (And.intro (fun _ => rfl) (And.intro (fun _ => rfl) (And.intro (fun _ => rfl) (And.intro (fun h => absurd h (by decide)) trivial)))))⟩
  rintro v92 a X9 A e (hS : Below X8.heap.size X8 X9 ∧ SliceN X9 v92 (zl (tnE L n ch (orF L n ch p) m (tnF L n ch wf p)) L) (tnF L n ch (orF L n ch p) (tnF L n ch wf p)))
  obtain ⟨bX, Fv92⟩ := hS
  have t12 : a.eval (.tmp 12) = v92 := e _
  have t13 : a.eval (.tmp 13) = .int .i64 ((tnE L n ch (orF L n ch p) m (tnF L n ch wf p) : Nat) : Int) := e _
  replace t1 := kt e t1
  replace t2 := kt e t2
  replace t6 := kt e t6
  replace t7 := kt e t7
  replace t10 := kt e t10
  replace t11 := kt e t11
  replace FP := (FP.on bX)
  replace FW := (FW.on bX)
  replace FT := (FT.on bX)
  replace FQ := (on9 FQ bX)
  replace Fv27 := (Fv27.on bX)
  replace Fv39 := (Fv39.on bX)
  replace Fv82 := (Fv82.on bX)
  have ZX9 := bX.size
  replace BW := BW.trans (bX.mono BW.size)
  clear bX
  clear e t5
  rw [hT9] at t13
  replace Fv92 : SliceN X9 v92 (L) (p) := (by have h_ := Fv92; rw [hT9, zl_ok] at h_; exact sliceN_cg h_ (fun x hx => hft.tu_back hw x))
  refine wp_seq (wp_seq ?_)
  refine wp_se 171 [1, 4, 8, 12, 13, 14, 15, 16, 20, 21, 22, 23, 27, 28, 29, 30, 31] [] (fun _ s X => Below X9.heap.size X9 X) (fun s => fun i_ => match i_ with | 1 => .bool false | 4 => .bool false | 8 => .bool false | 12 => .int .i64 ((L : Nat) : Int) | 13 => .pointer (some ⟨gq, 0, none⟩) | 14 => pv | 15 => .int .i64 ((L : Nat) : Int) | 16 => .bool false | 20 => .pointer (some ⟨gq, 3, none⟩) | 21 => wv | 22 => .bool true | 23 => .bool false | 27 => .string (strN p L) | 28 => .pointer (some ⟨gq, 0, none⟩) | 29 => pv | 30 => .string (strN p L) | 31 => .bool false | _ => undef) () A (Below.refl _ _) (And.intro ?_ (And.intro ?_ (And.intro ?_ (And.intro ?_ (And.intro ?_ (And.intro ?_ (And.intro ?_ (And.intro ?_ (And.intro ?_ (And.intro ?_ (And.intro ?_ (And.intro ?_ (And.intro ?_ (And.intro ?_ (And.intro ?_ (And.intro ?_ (And.intro ?_ trivial))))))))))))))))) ?_
  ·exact fun s a X e hS => stepV rfl rfl (execDec (execNeE (p := 0) (q := 0) rfl ((e (.tmp 95)).trans t6) rfl) (decide_eq_false (by omega))) ⟨s, ⟨_, rfl, rfl⟩, hS, ar⟩
  ·exact fun s a X e hS => stepV rfl (wy rfl rfl rfl (e (.tmp 97))) (execDec (execNeE (p := 0) (q := 0) rfl ((e (.tmp 98)).trans t11) rfl) (decide_eq_false (by omega))) ⟨s, ⟨_, rfl, rfl⟩, hS, ar⟩
  ·exact fun s a X e hS => stepV rfl (wy rfl rfl rfl (e (.tmp 101))) (execDec (execNeE (p := 0) (q := 0) rfl ((e (.tmp 102)).trans t13) rfl) (decide_eq_false (by omega))) ⟨s, ⟨_, rfl, rfl⟩, hS, ar⟩
  ·exact fun s a X e hS => stepV rfl (wy rfl rfl rfl (e (.tmp 105))) (execLenV (len := L) rfl ((e (.tmp 106)).trans t7) (shp9 (Fv39.on hS))) ⟨s, ⟨_, rfl, rfl⟩, hS, ar⟩
  ·exact fun s a X e hS => stepV rfl (wy rfl rfl rfl (e (.tmp 105))) (execFldJb0 rfl ((e (.tmp 2)).trans t2)) ⟨s, ⟨_, rfl, rfl⟩, hS, ar⟩
  ·exact fun s a X e hS => stepV rfl (wy rfl rfl rfl (e (.tmp 105))) (execLdL rfl (e (.tmp 108)) (ak_at0 (on9 FQ hS))) ⟨s, ⟨_, rfl, rfl⟩, hS, ar⟩
  ·exact fun s a X e hS => stepV rfl (wy rfl rfl rfl (e (.tmp 105))) (execLenV (len := L) rfl (e (.tmp 109)) (shp9 (FP.on hS))) ⟨s, ⟨_, rfl, rfl⟩, hS, ar⟩
  ·exact fun s a X e hS => stepV rfl (wy rfl rfl rfl (e (.tmp 105))) (execDec (execNeN (p := L) (q := L) rfl (e (.tmp 107)) (e (.tmp 110))) (decide_eq_false (by omega))) ⟨s, ⟨_, rfl, rfl⟩, hS, ar⟩
  ·exact fun s a X e hS => stepV rfl (wy rfl rfl rfl (e (.tmp 113))) (execFldJb3 rfl ((e (.tmp 2)).trans t2)) ⟨s, ⟨_, rfl, rfl⟩, hS, ar⟩
  ·exact fun s a X e hS => stepV rfl (wy rfl rfl rfl (e (.tmp 113))) (execLdLI (v := wv) rfl (e (.tmp 115)) (ak_at3 (on9 FQ hS))) ⟨s, ⟨_, rfl, rfl⟩, hS, ar⟩
  ·exact fun s a X e hS => stepC rfl (wy rfl rfl rfl (e (.tmp 113))) (execCall2 Try.func13 (by kernel_rfl) (by kernel_rfl) rfl ((e (.tmp 114)).trans t10) (e (.tmp 116))) (sm_t _ _ (m) _ _ X (Fv82.on hS) (FW.on hS) (fun _ _ => rfl) (by omega)) fun e w' hh => ⟨_, hh.1, s, ⟨_, rfl, rfl⟩, (hS).trans ((hh.2).mono (hS).size), ar⟩
  ·exact fun s a X e hS => stepV rfl (wy rfl rfl rfl (e (.tmp 113))) (execNot8 rfl (e (.tmp 117))) ⟨s, ⟨_, rfl, rfl⟩, hS, ar⟩
  ·exact fun s a X e hS => stepV rfl (wy rfl rfl rfl (e (.tmp 120))) (By8.execStr rfl ((e (.tmp 121)).trans t12) (Fv92.on hS)) ⟨s, ⟨_, rfl, rfl⟩, hS, ar⟩
  ·exact fun s a X e hS => stepV rfl (wy rfl rfl rfl (e (.tmp 120))) (execFldJb0 rfl ((e (.tmp 2)).trans t2)) ⟨s, ⟨_, rfl, rfl⟩, hS, ar⟩
  ·exact fun s a X e hS => stepV rfl (wy rfl rfl rfl (e (.tmp 120))) (execLdL rfl (e (.tmp 123)) (ak_at0 (on9 FQ hS))) ⟨s, ⟨_, rfl, rfl⟩, hS, ar⟩
  ·exact fun s a X e hS => stepV rfl (wy rfl rfl rfl (e (.tmp 120))) (By8.execStr rfl (e (.tmp 124)) (FP.on hS)) ⟨s, ⟨_, rfl, rfl⟩, hS, ar⟩
  ·exact fun s a X e hS => stepV rfl (wy rfl rfl rfl (e (.tmp 120))) (By8.execNeqS rfl (e (.tmp 122)) (e (.tmp 125))) ⟨s, ⟨_, rfl, rfl⟩, hS, ar⟩
  rintro _ a X10 A e (bX : Below X9.heap.size X9 X10)
  have t127 : a.eval (.tmp 127) = .bool false := e _
  replace t1 := kt e t1
  replace t2 := kt e t2
  replace t7 := kt e t7
  replace FP := (FP.on bX)
  replace FW := (FW.on bX)
  replace FT := (FT.on bX)
  replace FQ := (on9 FQ bX)
  replace Fv27 := (Fv27.on bX)
  replace Fv39 := (Fv39.on bX)
  replace Fv82 := (Fv82.on bX)
  replace Fv92 := (Fv92.on bX)
  have ZX10 := bX.size
  replace BW := BW.trans (bX.mono BW.size)
  clear bX
  clear e t6 t10 t11 t12 t13
  refine wp_cond_false t127 (wp_skip ?_)
  clear t127
  refine wp_seq ?_
  refine wp_se (σ := Value) 171 [0, 1, 2, 3, 4, 5, 7] [7] (fun k_ s X => match k_ with | 0 => Below X10.heap.size X10 X | _ => Below X10.heap.size X10 X ∧ SliceN X s (zl (tnE L n ch tf k p) L) (tnF L n ch tf p)) (fun s => fun i_ => match i_ with | 0 => .pointer (some ⟨gq, 0, none⟩) | 1 => pv | 2 => .pointer (some ⟨gq, 1, none⟩) | 3 => .int .i64 n | 4 => .pointer (some ⟨gq, 2, none⟩) | 5 => .int .i64 ch | 7 => .tuple #[s, .int .i64 ((tnE L n ch tf k p : Nat) : Int)] | _ => undef) undef A (Below.refl _ _) (And.intro ?_ (And.intro ?_ (And.intro ?_ (And.intro ?_ (And.intro ?_ (And.intro ?_ (And.intro ?_ trivial))))))) ?_
  ·exact fun s a X e hS => stepV rfl rfl (execFldJb0 rfl ((e (.tmp 2)).trans t2)) ⟨s, ⟨_, rfl, rfl⟩, hS, ar⟩
  ·exact fun s a X e hS => stepV rfl rfl (execLdL rfl (e (.tmp 129)) (ak_at0 (on9 FQ hS))) ⟨s, ⟨_, rfl, rfl⟩, hS, ar⟩
  ·exact fun s a X e hS => stepV rfl rfl (execFldJb1 rfl ((e (.tmp 2)).trans t2)) ⟨s, ⟨_, rfl, rfl⟩, hS, ar⟩
  ·exact fun s a X e hS => stepV rfl rfl (execLd3 rfl (e (.tmp 131)) (ak_at1 (on9 FQ hS))) ⟨s, ⟨_, rfl, rfl⟩, hS, ar⟩
  ·exact fun s a X e hS => stepV rfl rfl (execFldJb2 rfl ((e (.tmp 2)).trans t2)) ⟨s, ⟨_, rfl, rfl⟩, hS, ar⟩
  ·exact fun s a X e hS => stepV rfl rfl (execLd3 rfl (e (.tmp 133)) (ak_at2 (on9 FQ hS))) ⟨s, ⟨_, rfl, rfl⟩, hS, ar⟩
  ·intro s a X e hS
   refine stepC rfl rfl (execCall4 Try.func16 (by kernel_rfl) (by kernel_rfl) rfl (e (.tmp 130)) (e (.tmp 132)) (e (.tmp 134)) ((e (.tmp 135)).trans t1)) (pturn p L n ch tf k _ _ X (FP.on hS) (by omega) (FT.on hS)) fun e w' hh => ?_
   obtain ⟨r_, he, hk, hb⟩ := hh
   refine ⟨_, he, r_, ⟨_, rfl, rfl⟩, ⟨(hS).trans ((hb).mono (hS).size), own_slice hk (fun _ hj => tn_byte ((FP.on hS)).bytes hj)⟩, (And.intro (fun _ => rfl) (And.intro (fun _ => rfl) (And.intro (fun _ => rfl) (And.intro (fun _ => rfl) (And.intro (fun _ => rfl) (And.intro (fun _ => rfl) (And.intro (fun h => absurd h (by decide)) trivial)))))))⟩
  rintro v136 a X12 A e (hS : Below X10.heap.size X10 X12 ∧ SliceN X12 v136 (zl (tnE L n ch tf k p) L) (tnF L n ch tf p))
  obtain ⟨bX, Fv136⟩ := hS
  have t14 : a.eval (.tmp 14) = v136 := e _
  have t15 : a.eval (.tmp 15) = .int .i64 ((tnE L n ch tf k p : Nat) : Int) := e _
  replace t1 := kt e t1
  replace t2 := kt e t2
  replace t7 := kt e t7
  replace FP := (FP.on bX)
  replace FW := (FW.on bX)
  replace FT := (FT.on bX)
  replace FQ := (on9 FQ bX)
  replace Fv27 := (Fv27.on bX)
  replace Fv39 := (Fv39.on bX)
  replace Fv82 := (Fv82.on bX)
  replace Fv92 := (Fv92.on bX)
  have ZX12 := bX.size
  replace BW := BW.trans (bX.mono BW.size)
  clear bX
  clear e
  refine wp_seq (wp_seq ?_)
  by_cases hI : tnE L n ch tf k p = 0
  ·refine wp_se 171 [1] [] (fun _ s X => Below X12.heap.size X12 X) (fun s => fun i_ => match i_ with | 1 => .bool false | _ => undef) () A (Below.refl _ _) (And.intro ?_ trivial) ?_
   ·exact fun s a X e hS => stepV rfl rfl (execDec (execNeE (p := tnE L n ch tf k p) (q := 0) rfl ((e (.tmp 139)).trans t15) rfl) (decide_eq_false (by omega))) ⟨s, ⟨_, rfl, rfl⟩, hS, ar⟩
   rintro _ a X13 A e (bX : Below X12.heap.size X12 X13)
   have t140 : a.eval (.tmp 140) = .bool false := e _
   replace t2 := kt e t2
   replace t7 := kt e t7
   replace t14 := kt e t14
   replace t15 := kt e t15
   replace FP := (FP.on bX)
   replace FW := (FW.on bX)
   replace FT := (FT.on bX)
   replace FQ := (on9 FQ bX)
   replace Fv27 := (Fv27.on bX)
   replace Fv39 := (Fv39.on bX)
   replace Fv82 := (Fv82.on bX)
   replace Fv92 := (Fv92.on bX)
   replace Fv136 := (Fv136.on bX)
   have ZX13 := bX.size
   replace BW := BW.trans (bX.mono BW.size)
   clear bX
   clear e t1
   refine wp_cond_false t140 (wp_skip ?_)
   clear t140
   obtain ⟨hft3, ht3, _⟩ := tn_ok hI
   have hkm : k = m := by have := hft3.n; omega
   have ht : IsP (gN tf) m := hkm ▸ ht3
   have hT15 : tnE L n ch wf m (tnF L n ch tf p) = 0 := (hft.tu ht).tn hwE
   clear t15
   replace Fv136 : SliceN X13 v136 (L) (tnF L n ch tf p) := (by have h_ := Fv136; rw [hI, zl_ok] at h_; exact h_)
   refine wp_seq ?_
   refine wp_se (σ := Value) 171 [1, 2, 3, 4, 5, 6, 7] [7] (fun k_ s X => match k_ with | 0 => Below X13.heap.size X13 X | _ => Below X13.heap.size X13 X ∧ SliceN X s (zl (tnE L n ch wf m (tnF L n ch tf p)) L) (tnF L n ch wf (tnF L n ch tf p))) (fun s => fun i_ => match i_ with | 1 => .pointer (some ⟨gq, 1, none⟩) | 2 => .int .i64 n | 3 => .pointer (some ⟨gq, 2, none⟩) | 4 => .int .i64 ch | 5 => .pointer (some ⟨gq, 3, none⟩) | 6 => wv | 7 => .tuple #[s, .int .i64 ((tnE L n ch wf m (tnF L n ch tf p) : Nat) : Int)] | _ => undef) undef A (Below.refl _ _) (And.intro ?_ (And.intro ?_ (And.intro ?_ (And.intro ?_ (And.intro ?_ (And.intro ?_ (And.intro ?_ trivial))))))) ?_
   ·exact fun s a X e hS => stepV rfl rfl (execFldJb1 rfl ((e (.tmp 2)).trans t2)) ⟨s, ⟨_, rfl, rfl⟩, hS, ar⟩
   ·exact fun s a X e hS => stepV rfl rfl (execLd3 rfl (e (.tmp 153)) (ak_at1 (on9 FQ hS))) ⟨s, ⟨_, rfl, rfl⟩, hS, ar⟩
   ·exact fun s a X e hS => stepV rfl rfl (execFldJb2 rfl ((e (.tmp 2)).trans t2)) ⟨s, ⟨_, rfl, rfl⟩, hS, ar⟩
   ·exact fun s a X e hS => stepV rfl rfl (execLd3 rfl (e (.tmp 155)) (ak_at2 (on9 FQ hS))) ⟨s, ⟨_, rfl, rfl⟩, hS, ar⟩
   ·exact fun s a X e hS => stepV rfl rfl (execFldJb3 rfl ((e (.tmp 2)).trans t2)) ⟨s, ⟨_, rfl, rfl⟩, hS, ar⟩
   ·exact fun s a X e hS => stepV rfl rfl (execLdLI (v := wv) rfl (e (.tmp 157)) (ak_at3 (on9 FQ hS))) ⟨s, ⟨_, rfl, rfl⟩, hS, ar⟩
   ·intro s a X e hS
    refine stepC rfl rfl (execCall4 Try.func16 (by kernel_rfl) (by kernel_rfl) rfl ((e (.tmp 152)).trans t14) (e (.tmp 154)) (e (.tmp 156)) (e (.tmp 158))) (pturn (tnF L n ch tf p) L n ch wf m _ _ X (Fv136.on hS) (by omega) (FW.on hS)) fun e w' hh => ?_
    obtain ⟨r_, he, hk, hb⟩ := hh
    refine ⟨_, he, r_, ⟨_, rfl, rfl⟩, ⟨(hS).trans ((hb).mono (hS).size), own_slice hk (fun _ hj => tn_byte ((Fv136.on hS)).bytes hj)⟩, (And.intro (fun _ => rfl) (And.intro (fun _ => rfl) (And.intro (fun _ => rfl) (And.intro (fun _ => rfl) (And.intro (fun _ => rfl) (And.intro (fun _ => rfl) (And.intro (fun h => absurd h (by decide)) trivial)))))))⟩
   rintro v159 a X15 A e (hS : Below X13.heap.size X13 X15 ∧ SliceN X15 v159 (zl (tnE L n ch wf m (tnF L n ch tf p)) L) (tnF L n ch wf (tnF L n ch tf p)))
   obtain ⟨bX, Fv159⟩ := hS
   have t16 : a.eval (.tmp 16) = v159 := e _
   have t17 : a.eval (.tmp 17) = .int .i64 ((tnE L n ch wf m (tnF L n ch tf p) : Nat) : Int) := e _
   replace t7 := kt e t7
   replace FP := (FP.on bX)
   replace FW := (FW.on bX)
   replace FT := (FT.on bX)
   replace FQ := (on9 FQ bX)
   replace Fv27 := (Fv27.on bX)
   replace Fv39 := (Fv39.on bX)
   replace Fv82 := (Fv82.on bX)
   replace Fv92 := (Fv92.on bX)
   replace Fv136 := (Fv136.on bX)
   have ZX15 := bX.size
   replace BW := BW.trans (bX.mono BW.size)
   clear bX
   clear e t2 t14
   rw [hT15] at t17
   replace Fv159 : SliceN X15 v159 (L) (tnF L n ch wf p) := (by have h_ := Fv159; rw [hT15, zl_ok] at h_; exact sliceN_cg h_ (fun x hx => hft.tu_tu ht hw x))
   refine wp_seq ?_
   refine wp_se 171 [1, 4, 6, 7] [] (fun _ s X => Below X15.heap.size X15 X) (fun s => fun i_ => match i_ with | 1 => .bool true | 4 => .string (strN (tnF L n ch wf p) L) | 6 => .string (strN (tnF L n ch wf p) L) | 7 => .bool true | _ => undef) () A (Below.refl _ _) (And.intro ?_ (And.intro ?_ (And.intro ?_ (And.intro ?_ trivial)))) ?_
   ·exact fun s a X e hS => stepV rfl rfl (execDec (execEqE (p := 0) (q := 0) rfl ((e (.tmp 162)).trans t17) rfl) (decide_eq_true (by omega))) ⟨s, ⟨_, rfl, rfl⟩, hS, ar⟩
   ·exact fun s a X e hS => stepV rfl (wy rfl rfl rfl (e (.tmp 164))) (By8.execStr rfl ((e (.tmp 165)).trans t16) (Fv159.on hS)) ⟨s, ⟨_, rfl, rfl⟩, hS, ar⟩
   ·exact fun s a X e hS => stepV rfl (wy rfl rfl rfl (e (.tmp 164))) (By8.execStr rfl ((e (.tmp 167)).trans t7) (Fv39.on hS)) ⟨s, ⟨_, rfl, rfl⟩, hS, ar⟩
   ·exact fun s a X e hS => stepV rfl (wy rfl rfl rfl (e (.tmp 164))) (By8.execEqlS rfl (e (.tmp 166)) (e (.tmp 168))) ⟨s, ⟨_, rfl, rfl⟩, hS, ar⟩
   rintro _ a X16 A e (bX : Below X15.heap.size X15 X16)
   have t4 : a.eval (.tmp 4) = .bool true := e _
   replace FP := (FP.on bX)
   replace FW := (FW.on bX)
   replace FT := (FT.on bX)
   replace FQ := (on9 FQ bX)
   replace Fv27 := (Fv27.on bX)
   replace Fv39 := (Fv39.on bX)
   replace Fv82 := (Fv82.on bX)
   replace Fv92 := (Fv92.on bX)
   replace Fv136 := (Fv136.on bX)
   replace Fv159 := (Fv159.on bX)
   have ZX16 := bX.size
   replace BW := BW.trans (bX.mono BW.size)
   clear bX
   clear e t7 t16 t17
   refine wp_ret ?_
   repeat (first | with_reducible refine ret_in ?_ | with_reducible refine ret_then ?_)
   refine bodyPost_ret (results_tmp rfl _ _ _) A.2 ⟨?_, BW⟩
   show Ending.returned (a.eval (.tmp 4)) = _
   rw [t4]
  ·refine wp_se 171 [1] [] (fun _ s X => Below X12.heap.size X12 X) (fun s => fun i_ => match i_ with | 1 => .bool true | _ => undef) () A (Below.refl _ _) (And.intro ?_ trivial) ?_
   ·exact fun s a X e hS => stepV rfl rfl (execDec (execNeE (p := tnE L n ch tf k p) (q := 0) rfl ((e (.tmp 139)).trans t15) rfl) (decide_eq_true (by omega))) ⟨s, ⟨_, rfl, rfl⟩, hS, ar⟩
   rintro _ a X13 A e (bX : Below X12.heap.size X12 X13)
   have t140 : a.eval (.tmp 140) = .bool true := e _
   replace t1 := kt e t1
   replace t2 := kt e t2
   replace FP := (FP.on bX)
   replace FW := (FW.on bX)
   replace FT := (FT.on bX)
   replace FQ := (on9 FQ bX)
   replace Fv27 := (Fv27.on bX)
   replace Fv39 := (Fv39.on bX)
   replace Fv82 := (Fv82.on bX)
   replace Fv92 := (Fv92.on bX)
   replace Fv136 := (Fv136.on bX)
   have ZX13 := bX.size
   replace BW := BW.trans (bX.mono BW.size)
   clear bX
   clear e t7 t14 t15
   refine wp_cond_true t140 ?_
   clear t140
   refine wp_seq ?_
   by_cases hk : (k : Int) = n
   ·have hkm : k = m := by omega
    have htE : pE tf k ≠ 0 := fun q => hI (by subst hkm; exact hft.tn q)
    refine wp_se 171 [1, 2, 3, 4, 7, 8] [] (fun _ s X => Below X13.heap.size X13 X) (fun s => fun i_ => match i_ with | 1 => .int .i64 ((k : Nat) : Int) | 2 => .pointer (some ⟨gq, 1, none⟩) | 3 => .int .i64 n | 4 => .bool false | 7 => .int .i64 ((pE tf k : Nat) : Int) | 8 => .bool true | _ => undef) () A (Below.refl _ _) (And.intro ?_ (And.intro ?_ (And.intro ?_ (And.intro ?_ (And.intro ?_ (And.intro ?_ trivial)))))) ?_
    ·exact fun s a X e hS => stepV rfl rfl (execLenI (len := k) rfl ((e (.tmp 141)).trans t1) ((FT.on hS)).shp) ⟨s, ⟨_, rfl, rfl⟩, hS, ar⟩
    ·exact fun s a X e hS => stepV rfl rfl (execFldJb1 rfl ((e (.tmp 2)).trans t2)) ⟨s, ⟨_, rfl, rfl⟩, hS, ar⟩
    ·exact fun s a X e hS => stepV rfl rfl (execLd3 rfl (e (.tmp 143)) (ak_at1 (on9 FQ hS))) ⟨s, ⟨_, rfl, rfl⟩, hS, ar⟩
    ·exact fun s a X e hS => stepV rfl rfl (execNeZf rfl (e (.tmp 142)) (e (.tmp 144)) (hk)) ⟨s, ⟨_, rfl, rfl⟩, hS, ar⟩
    ·exact fun s a X e hS => stepC rfl (wy rfl rfl rfl (e (.tmp 146))) (execCall1 Try.func17 (by kernel_rfl) (by kernel_rfl) rfl ((e (.tmp 147)).trans t1)) (pcheck tf k _ X (FT.on hS) (by omega)) fun e w' hh => ⟨_, hh.1, s, ⟨_, rfl, rfl⟩, (hS).trans ((hh.2).mono (hS).size), ar⟩
    ·exact fun s a X e hS => stepV rfl (wy rfl rfl rfl (e (.tmp 146))) (execDec (execNeE (p := pE tf k) (q := 0) rfl (e (.tmp 148)) rfl) (decide_eq_true (by omega))) ⟨s, ⟨_, rfl, rfl⟩, hS, ar⟩
    rintro _ a X14 A e (bX : Below X13.heap.size X13 X14)
    have t4 : a.eval (.tmp 4) = .bool true := e _
    replace FP := (FP.on bX)
    replace FW := (FW.on bX)
    replace FT := (FT.on bX)
    replace FQ := (on9 FQ bX)
    replace Fv27 := (Fv27.on bX)
    replace Fv39 := (Fv39.on bX)
    replace Fv82 := (Fv82.on bX)
    replace Fv92 := (Fv92.on bX)
    replace Fv136 := (Fv136.on bX)
    have ZX14 := bX.size
    replace BW := BW.trans (bX.mono BW.size)
    clear bX
    clear e t1 t2
    refine wp_ret ?_
    repeat (first | with_reducible refine ret_in ?_ | with_reducible refine ret_then ?_)
    refine bodyPost_ret (results_tmp rfl _ _ _) A.2 ⟨?_, BW⟩
    show Ending.returned (a.eval (.tmp 4)) = _
    rw [t4]
   ·refine wp_se 171 [1, 2, 3, 4] [] (fun _ s X => Below X13.heap.size X13 X) (fun s => fun i_ => match i_ with | 1 => .int .i64 ((k : Nat) : Int) | 2 => .pointer (some ⟨gq, 1, none⟩) | 3 => .int .i64 n | 4 => .bool true | _ => undef) () A (Below.refl _ _) (And.intro ?_ (And.intro ?_ (And.intro ?_ (And.intro ?_ trivial)))) ?_
    ·exact fun s a X e hS => stepV rfl rfl (execLenI (len := k) rfl ((e (.tmp 141)).trans t1) ((FT.on hS)).shp) ⟨s, ⟨_, rfl, rfl⟩, hS, ar⟩
    ·exact fun s a X e hS => stepV rfl rfl (execFldJb1 rfl ((e (.tmp 2)).trans t2)) ⟨s, ⟨_, rfl, rfl⟩, hS, ar⟩
    ·exact fun s a X e hS => stepV rfl rfl (execLd3 rfl (e (.tmp 143)) (ak_at1 (on9 FQ hS))) ⟨s, ⟨_, rfl, rfl⟩, hS, ar⟩
    ·exact fun s a X e hS => stepV rfl rfl (execNeZt rfl (e (.tmp 142)) (e (.tmp 144)) (hk)) ⟨s, ⟨_, rfl, rfl⟩, hS, ar⟩
    rintro _ a X14 A e (bX : Below X13.heap.size X13 X14)
    have t4 : a.eval (.tmp 4) = .bool true := e _
    replace FP := (FP.on bX)
    replace FW := (FW.on bX)
    replace FT := (FT.on bX)
    replace FQ := (on9 FQ bX)
    replace Fv27 := (Fv27.on bX)
    replace Fv39 := (Fv39.on bX)
    replace Fv82 := (Fv82.on bX)
    replace Fv92 := (Fv92.on bX)
    replace Fv136 := (Fv136.on bX)
    have ZX14 := bX.size
    replace BW := BW.trans (bX.mono BW.size)
    clear bX
    clear e t1 t2
    refine wp_ret ?_
    repeat (first | with_reducible refine ret_in ?_ | with_reducible refine ret_then ?_)
    refine bodyPost_ret (results_tmp rfl _ _ _) A.2 ⟨?_, BW⟩
    show Ending.returned (a.eval (.tmp 4)) = _
    rw [t4]
 ·refine wp_se 171 [1] [] (fun _ s X => Below X4.heap.size X4 X) (fun s => fun i_ => match i_ with | 1 => .bool true | _ => undef) () A (Below.refl _ _) (And.intro ?_ trivial) ?_
  ·exact fun s a X e hS => stepV rfl rfl (execDec (execNeE (p := tnE L n ch wf m p) (q := 0) rfl ((e (.tmp 42)).trans t8) rfl) (decide_eq_true (by omega))) ⟨s, ⟨_, rfl, rfl⟩, hS, ar⟩
  rintro _ a X5 A e (bX : Below X4.heap.size X4 X5)
  have t43 : a.eval (.tmp 43) = .bool true := e _
  replace t2 := kt e t2
  replace t6 := kt e t6
  replace t7 := kt e t7
  replace t8 := kt e t8
  replace FP := (FP.on bX)
  replace FW := (FW.on bX)
  replace FT := (FT.on bX)
  replace FQ := (on9 FQ bX)
  replace Fv27 := (Fv27.on bX)
  replace Fv39 := (Fv39.on bX)
  have ZX5 := bX.size
  replace BW := BW.trans (bX.mono BW.size)
  clear bX
  clear e t1 t5
  refine wp_cond_true t43 ?_
  clear t43
  refine wp_seq ?_
  replace Fv39 : SliceN X5 v39 (0) (tnF L n ch wf p) := (by have h_ := Fv39; rw [zl_no hF] at h_; exact h_)
  by_cases hc1 : pE wf m = 0
  ·by_cases hc2 : (m : Int) = n
   ·by_cases heq : tnE L n ch wf m p = riE L n ch p
    ·refine wp_se 171 [0, 1, 2, 3, 5, 6, 7, 8, 9, 10] [] (fun _ s X => Below X5.heap.size X5 X) (fun s => fun i_ => match i_ with | 0 => .pointer (some ⟨gq, 3, none⟩) | 1 => wv | 2 => .int .i64 ((pE wf m : Nat) : Int) | 3 => .bool true | 5 => .pointer (some ⟨gq, 3, none⟩) | 6 => wv | 7 => .int .i64 ((m : Nat) : Int) | 8 => .pointer (some ⟨gq, 1, none⟩) | 9 => .int .i64 n | 10 => .bool true | _ => undef) () A (Below.refl _ _) (And.intro ?_ (And.intro ?_ (And.intro ?_ (And.intro ?_ (And.intro ?_ (And.intro ?_ (And.intro ?_ (And.intro ?_ (And.intro ?_ (And.intro ?_ trivial)))))))))) ?_
     ·exact fun s a X e hS => stepV rfl rfl (execFldJb3 rfl ((e (.tmp 2)).trans t2)) ⟨s, ⟨_, rfl, rfl⟩, hS, ar⟩
     ·exact fun s a X e hS => stepV rfl rfl (execLdLI (v := wv) rfl (e (.tmp 44)) (ak_at3 (on9 FQ hS))) ⟨s, ⟨_, rfl, rfl⟩, hS, ar⟩
     ·exact fun s a X e hS => stepC rfl rfl (execCall1 Try.func17 (by kernel_rfl) (by kernel_rfl) rfl (e (.tmp 45))) (pcheck wf m _ X (FW.on hS) (by omega)) fun e w' hh => ⟨_, hh.1, s, ⟨_, rfl, rfl⟩, (hS).trans ((hh.2).mono (hS).size), ar⟩
     ·exact fun s a X e hS => stepV rfl rfl (execDec (execEqE (p := pE wf m) (q := 0) rfl (e (.tmp 46)) rfl) (decide_eq_true (by omega))) ⟨s, ⟨_, rfl, rfl⟩, hS, ar⟩
     ·exact fun s a X e hS => stepV rfl (wy rfl rfl rfl (e (.tmp 48))) (execFldJb3 rfl ((e (.tmp 2)).trans t2)) ⟨s, ⟨_, rfl, rfl⟩, hS, ar⟩
     ·exact fun s a X e hS => stepV rfl (wy rfl rfl rfl (e (.tmp 48))) (execLdLI (v := wv) rfl (e (.tmp 49)) (ak_at3 (on9 FQ hS))) ⟨s, ⟨_, rfl, rfl⟩, hS, ar⟩
     ·exact fun s a X e hS => stepV rfl (wy rfl rfl rfl (e (.tmp 48))) (execLenI (len := m) rfl (e (.tmp 50)) ((FW.on hS)).shp) ⟨s, ⟨_, rfl, rfl⟩, hS, ar⟩
     ·exact fun s a X e hS => stepV rfl (wy rfl rfl rfl (e (.tmp 48))) (execFldJb1 rfl ((e (.tmp 2)).trans t2)) ⟨s, ⟨_, rfl, rfl⟩, hS, ar⟩
     ·exact fun s a X e hS => stepV rfl (wy rfl rfl rfl (e (.tmp 48))) (execLd3 rfl (e (.tmp 52)) (ak_at1 (on9 FQ hS))) ⟨s, ⟨_, rfl, rfl⟩, hS, ar⟩
     ·exact fun s a X e hS => stepV rfl (wy rfl rfl rfl (e (.tmp 48))) (execEqZt rfl (e (.tmp 51)) (e (.tmp 53)) (hc2)) ⟨s, ⟨_, rfl, rfl⟩, hS, ar⟩
     rintro _ a X6 A e (bX : Below X5.heap.size X5 X6)
     have t9 : a.eval (.tmp 9) = .bool true := e _
     replace t6 := kt e t6
     replace t7 := kt e t7
     replace t8 := kt e t8
     replace FP := (FP.on bX)
     replace FW := (FW.on bX)
     replace FT := (FT.on bX)
     replace FQ := (on9 FQ bX)
     replace Fv27 := (Fv27.on bX)
     replace Fv39 := (Fv39.on bX)
     have ZX6 := bX.size
     replace BW := BW.trans (bX.mono BW.size)
     clear bX
     clear e t2
     refine wp_seq ?_
     refine wp_region_sq (σ := Unit) 171 [(0, 56), (1, 57), (2, 58), (3, 59), (4, 60), (5, 61), (6, 62), (7, 63), (8, 64), (9, 65), (10, 66), (11, 67), (12, 68), (13, 69), (14, 70), (15, 71), (16, 72), (17, 73), (18, 74), (19, 75), (20, 4)] (fun j_ s X => match j_ with | 0 => Below X6.heap.size X6 X | 1 => Below X6.heap.size X6 X | 2 => Below X6.heap.size X6 X | 3 => Below X6.heap.size X6 X | 4 => Below X6.heap.size X6 X | 5 => Below X6.heap.size X6 X | 6 => Below X6.heap.size X6 X | 7 => Below X6.heap.size X6 X | 8 => Below X6.heap.size X6 X | 9 => Below X6.heap.size X6 X | 10 => Below X6.heap.size X6 X | 11 => Below X6.heap.size X6 X | 12 => Below X6.heap.size X6 X | 13 => Below X6.heap.size X6 X | 14 => Below X6.heap.size X6 X | 15 => Below X6.heap.size X6 X | 16 => Below X6.heap.size X6 X | 17 => Below X6.heap.size X6 X | 18 => Below X6.heap.size X6 X | 19 => Below X6.heap.size X6 X | 20 => Below X6.heap.size X6 X | _ => Below X6.heap.size X6 X) (fun s => fun i_ => match i_ with | 0 => v39 | 1 => .int .i64 ((0 : Nat) : Int) | 2 => .bool true | 3 => .bool true | 4 => .int .i64 ((tnE L n ch wf m p : Nat) : Int) | 5 => .int .i64 ((riE L n ch p : Nat) : Int) | 6 => .bool true | 7 => .bool true | 8 => undef | 9 => undef | 10 => undef | 11 => undef | 12 => undef | 13 => undef | 14 => undef | 15 => undef | 16 => undef | 17 => undef | 18 => .bool true | 19 => .bool true | 20 => .bool true | _ => undef) () A.1 (by kernel_rfl) (by decide) (by decide) (Below.refl _ _) ?_ ?_
     ·intro i_ hi_ s a X hf hv hn hS
      match i_, hi_ with
      | 0, _ => exact stepV rfl rfl (execMvB rfl ((hf 7 (by decide)).trans t7)) ⟨s, ⟨_, rfl, rfl⟩, hS, fun _ _ => rfl⟩
      | 1, _ => exact stepV rfl rfl (execLenV (len := 0) rfl (hv 0 (by decide) _ rfl _ rfl) (shp9 (Fv39.on hS))) ⟨s, ⟨_, rfl, rfl⟩, hS, fun _ _ => rfl⟩
      | 2, _ => exact stepV rfl rfl (execDec (execEqN (p := 0) (q := 0) rfl (hv 1 (by decide) _ rfl _ rfl) rfl) (decide_eq_true (by omega))) ⟨s, ⟨_, rfl, rfl⟩, hS, fun _ _ => rfl⟩
      | 3, _ => exact stepV rfl rfl (execMvB rfl (hv 2 (by decide) _ rfl _ rfl)) ⟨s, ⟨_, rfl, rfl⟩, hS, fun _ _ => rfl⟩
      | 4, _ => exact stepV rfl (wantedOf rfl (yieldedAt rfl rfl (show a.eval (.tmp 59) = .bool true from (hv 3 (by decide) _ rfl _ rfl)))) (execMvB rfl ((hf 8 (by decide)).trans t8)) ⟨s, ⟨_, rfl, rfl⟩, hS, fun _ _ => rfl⟩
      | 5, _ => exact stepV rfl (wantedOf rfl (yieldedAt rfl rfl (show a.eval (.tmp 59) = .bool true from (hv 3 (by decide) _ rfl _ rfl)))) (execMvB rfl ((hf 6 (by decide)).trans t6)) ⟨s, ⟨_, rfl, rfl⟩, hS, fun _ _ => rfl⟩
      | 6, _ => exact stepV rfl (wantedOf rfl (yieldedAt rfl rfl (show a.eval (.tmp 59) = .bool true from (hv 3 (by decide) _ rfl _ rfl)))) (execDec (execEqE (p := tnE L n ch wf m p) (q := riE L n ch p) rfl (hv 4 (by decide) _ rfl _ rfl) (hv 5 (by decide) _ rfl _ rfl)) (decide_eq_true (by omega))) ⟨s, ⟨_, rfl, rfl⟩, hS, fun _ _ => rfl⟩
      | 7, _ => exact stepV rfl (wantedOf rfl (yieldedAt rfl rfl (show a.eval (.tmp 59) = .bool true from (hv 3 (by decide) _ rfl _ rfl)))) (execMvB rfl (hv 6 (by decide) _ rfl _ rfl)) ⟨s, ⟨_, rfl, rfl⟩, hS, fun _ _ => rfl⟩
      | 8, _ => exact stepU rfl (unwantedOf rfl (yieldedAt rfl rfl (show a.eval (.tmp 63) = .bool (!false) from (hv 7 (by decide) _ rfl _ rfl)))) ⟨s, ⟨_, rfl, rfl⟩, hS, fun _ _ => rfl⟩
      | 9, _ => exact stepU rfl (unwantedOf rfl (yieldedAt rfl rfl (show a.eval (.tmp 63) = .bool (!false) from (hv 7 (by decide) _ rfl _ rfl)))) ⟨s, ⟨_, rfl, rfl⟩, hS, fun _ _ => rfl⟩
      | 10, _ => exact stepU rfl (unwantedOf rfl (yieldedAt rfl rfl (show a.eval (.tmp 63) = .bool (!false) from (hv 7 (by decide) _ rfl _ rfl)))) ⟨s, ⟨_, rfl, rfl⟩, hS, fun _ _ => rfl⟩
      | 11, _ => exact stepU rfl (unwantedNo rfl (yieldedNo rfl rfl (show a.eval (.tmp 66) = undef from (hv 10 (by decide) _ rfl _ rfl)))) ⟨s, ⟨_, rfl, rfl⟩, hS, fun _ _ => rfl⟩
      | 12, _ => exact stepU rfl (unwantedNo rfl (yieldedNo rfl rfl (show a.eval (.tmp 66) = undef from (hv 10 (by decide) _ rfl _ rfl)))) ⟨s, ⟨_, rfl, rfl⟩, hS, fun _ _ => rfl⟩
      | 13, _ => exact stepU rfl (unwantedNo rfl (yieldedNo rfl rfl (show a.eval (.tmp 66) = undef from (hv 10 (by decide) _ rfl _ rfl)))) ⟨s, ⟨_, rfl, rfl⟩, hS, fun _ _ => rfl⟩
      | 14, _ => exact stepU rfl (unwantedNo rfl (yieldedNo rfl rfl (show a.eval (.tmp 69) = undef from (hv 13 (by decide) _ rfl _ rfl)))) ⟨s, ⟨_, rfl, rfl⟩, hS, fun _ _ => rfl⟩
      | 15, _ => exact stepU rfl (unwantedNo rfl (yieldedNo rfl rfl (show a.eval (.tmp 69) = undef from (hv 13 (by decide) _ rfl _ rfl)))) ⟨s, ⟨_, rfl, rfl⟩, hS, fun _ _ => rfl⟩
      | 16, _ => exact stepU rfl (unwantedNo rfl (yieldedNo rfl rfl (show a.eval (.tmp 66) = undef from (hv 10 (by decide) _ rfl _ rfl)))) ⟨s, ⟨_, rfl, rfl⟩, hS, fun _ _ => rfl⟩
      | 17, _ => exact stepU rfl (unwantedOf rfl (yieldedAt rfl rfl (show a.eval (.tmp 63) = .bool (!false) from (hv 7 (by decide) _ rfl _ rfl)))) ⟨s, ⟨_, rfl, rfl⟩, hS, fun _ _ => rfl⟩
      | 18, _ => exact stepV rfl (wantedOf rfl (yieldedAt rfl rfl (show a.eval (.tmp 59) = .bool true from (hv 3 (by decide) _ rfl _ rfl)))) (execPickT rfl (hv 7 (by decide) _ rfl _ rfl) rfl) ⟨s, ⟨_, rfl, rfl⟩, hS, fun _ _ => rfl⟩
      | 19, _ => exact stepV rfl rfl (execPickT rfl (hv 3 (by decide) _ rfl _ rfl) (hv 18 (by decide) _ rfl _ rfl)) ⟨s, ⟨_, rfl, rfl⟩, hS, fun _ _ => rfl⟩
      | 20, _ => exact stepV rfl rfl (execAsgB rfl (hv 19 (by decide) _ rfl _ rfl)) ⟨s, ⟨_, rfl, rfl⟩, hS, fun _ _ => rfl⟩
      | k_ + 21, h_ => exact absurd h_ (by simp)
     rintro _ a X7 h1 h2 h3 h4 hS
     replace hS : Below X6.heap.size X6 X7 := hS
     have bX := hS
     clear hS
     have t4 : a.eval (.tmp 4) = .bool true := h4 20 _ rfl _ rfl
     replace FP := (FP.on bX)
     replace FW := (FW.on bX)
     replace FT := (FT.on bX)
     replace FQ := (on9 FQ bX)
     replace Fv27 := (Fv27.on bX)
     replace Fv39 := (Fv39.on bX)
     have ZX7 := bX.size
     replace BW := BW.trans (bX.mono BW.size)
     clear bX
     replace A := (⟨h1, h2.trans A.2⟩ : a.tmps.size = 171 ∧ a.defers = [])
     clear h1 h2 h3 h4
     clear t6 t7 t8 t9
     refine wp_ret ?_
     repeat (first | with_reducible refine ret_in ?_ | with_reducible refine ret_then ?_)
     refine bodyPost_ret (results_tmp rfl _ _ _) A.2 ⟨?_, BW⟩
     show Ending.returned (a.eval (.tmp 4)) = _
     rw [t4]
    ·rcases tn_no (L := L) (n := n) (ch := ch) (wf := wf) (m := m) (p := p) with h_ | h_
     ·exact absurd h_ heq
     ·exact absurd ⟨hc1, hc2⟩ h_.1
   ·by_cases heq : tnE L n ch wf m p = riE L n ch p
    ·refine wp_se 171 [0, 1, 2, 3, 5, 6, 7, 8, 9, 10] [] (fun _ s X => Below X5.heap.size X5 X) (fun s => fun i_ => match i_ with | 0 => .pointer (some ⟨gq, 3, none⟩) | 1 => wv | 2 => .int .i64 ((pE wf m : Nat) : Int) | 3 => .bool true | 5 => .pointer (some ⟨gq, 3, none⟩) | 6 => wv | 7 => .int .i64 ((m : Nat) : Int) | 8 => .pointer (some ⟨gq, 1, none⟩) | 9 => .int .i64 n | 10 => .bool false | _ => undef) () A (Below.refl _ _) (And.intro ?_ (And.intro ?_ (And.intro ?_ (And.intro ?_ (And.intro ?_ (And.intro ?_ (And.intro ?_ (And.intro ?_ (And.intro ?_ (And.intro ?_ trivial)))))))))) ?_
     ·exact fun s a X e hS => stepV rfl rfl (execFldJb3 rfl ((e (.tmp 2)).trans t2)) ⟨s, ⟨_, rfl, rfl⟩, hS, ar⟩
     ·exact fun s a X e hS => stepV rfl rfl (execLdLI (v := wv) rfl (e (.tmp 44)) (ak_at3 (on9 FQ hS))) ⟨s, ⟨_, rfl, rfl⟩, hS, ar⟩
     ·exact fun s a X e hS => stepC rfl rfl (execCall1 Try.func17 (by kernel_rfl) (by kernel_rfl) rfl (e (.tmp 45))) (pcheck wf m _ X (FW.on hS) (by omega)) fun e w' hh => ⟨_, hh.1, s, ⟨_, rfl, rfl⟩, (hS).trans ((hh.2).mono (hS).size), ar⟩
     ·exact fun s a X e hS => stepV rfl rfl (execDec (execEqE (p := pE wf m) (q := 0) rfl (e (.tmp 46)) rfl) (decide_eq_true (by omega))) ⟨s, ⟨_, rfl, rfl⟩, hS, ar⟩
     ·exact fun s a X e hS => stepV rfl (wy rfl rfl rfl (e (.tmp 48))) (execFldJb3 rfl ((e (.tmp 2)).trans t2)) ⟨s, ⟨_, rfl, rfl⟩, hS, ar⟩
     ·exact fun s a X e hS => stepV rfl (wy rfl rfl rfl (e (.tmp 48))) (execLdLI (v := wv) rfl (e (.tmp 49)) (ak_at3 (on9 FQ hS))) ⟨s, ⟨_, rfl, rfl⟩, hS, ar⟩
     ·exact fun s a X e hS => stepV rfl (wy rfl rfl rfl (e (.tmp 48))) (execLenI (len := m) rfl (e (.tmp 50)) ((FW.on hS)).shp) ⟨s, ⟨_, rfl, rfl⟩, hS, ar⟩
     ·exact fun s a X e hS => stepV rfl (wy rfl rfl rfl (e (.tmp 48))) (execFldJb1 rfl ((e (.tmp 2)).trans t2)) ⟨s, ⟨_, rfl, rfl⟩, hS, ar⟩
     ·exact fun s a X e hS => stepV rfl (wy rfl rfl rfl (e (.tmp 48))) (execLd3 rfl (e (.tmp 52)) (ak_at1 (on9 FQ hS))) ⟨s, ⟨_, rfl, rfl⟩, hS, ar⟩
     ·exact fun s a X e hS => stepV rfl (wy rfl rfl rfl (e (.tmp 48))) (execEqZf rfl (e (.tmp 51)) (e (.tmp 53)) (hc2)) ⟨s, ⟨_, rfl, rfl⟩, hS, ar⟩
     rintro _ a X6 A e (bX : Below X5.heap.size X5 X6)
     have t9 : a.eval (.tmp 9) = .bool false := e _
     replace t6 := kt e t6
     replace t7 := kt e t7
     replace t8 := kt e t8
     replace FP := (FP.on bX)
     replace FW := (FW.on bX)
     replace FT := (FT.on bX)
     replace FQ := (on9 FQ bX)
     replace Fv27 := (Fv27.on bX)
     replace Fv39 := (Fv39.on bX)
     have ZX6 := bX.size
     replace BW := BW.trans (bX.mono BW.size)
     clear bX
     clear e t2
     refine wp_seq ?_
     refine wp_region_sq (σ := Unit) 171 [(0, 56), (1, 57), (2, 58), (3, 59), (4, 60), (5, 61), (6, 62), (7, 63), (8, 64), (9, 65), (10, 66), (11, 67), (12, 68), (13, 69), (14, 70), (15, 71), (16, 72), (17, 73), (18, 74), (19, 75), (20, 4)] (fun j_ s X => match j_ with | 0 => Below X6.heap.size X6 X | 1 => Below X6.heap.size X6 X | 2 => Below X6.heap.size X6 X | 3 => Below X6.heap.size X6 X | 4 => Below X6.heap.size X6 X | 5 => Below X6.heap.size X6 X | 6 => Below X6.heap.size X6 X | 7 => Below X6.heap.size X6 X | 8 => Below X6.heap.size X6 X | 9 => Below X6.heap.size X6 X | 10 => Below X6.heap.size X6 X | 11 => Below X6.heap.size X6 X | 12 => Below X6.heap.size X6 X | 13 => Below X6.heap.size X6 X | 14 => Below X6.heap.size X6 X | 15 => Below X6.heap.size X6 X | 16 => Below X6.heap.size X6 X | 17 => Below X6.heap.size X6 X | 18 => Below X6.heap.size X6 X | 19 => Below X6.heap.size X6 X | 20 => Below X6.heap.size X6 X | _ => Below X6.heap.size X6 X) (fun s => fun i_ => match i_ with | 0 => v39 | 1 => .int .i64 ((0 : Nat) : Int) | 2 => .bool true | 3 => .bool true | 4 => .int .i64 ((tnE L n ch wf m p : Nat) : Int) | 5 => .int .i64 ((riE L n ch p : Nat) : Int) | 6 => .bool true | 7 => .bool true | 8 => undef | 9 => undef | 10 => undef | 11 => undef | 12 => undef | 13 => undef | 14 => undef | 15 => undef | 16 => undef | 17 => undef | 18 => .bool true | 19 => .bool true | 20 => .bool true | _ => undef) () A.1 (by kernel_rfl) (by decide) (by decide) (Below.refl _ _) ?_ ?_
     ·intro i_ hi_ s a X hf hv hn hS
      match i_, hi_ with
      | 0, _ => exact stepV rfl rfl (execMvB rfl ((hf 7 (by decide)).trans t7)) ⟨s, ⟨_, rfl, rfl⟩, hS, fun _ _ => rfl⟩
      | 1, _ => exact stepV rfl rfl (execLenV (len := 0) rfl (hv 0 (by decide) _ rfl _ rfl) (shp9 (Fv39.on hS))) ⟨s, ⟨_, rfl, rfl⟩, hS, fun _ _ => rfl⟩
      | 2, _ => exact stepV rfl rfl (execDec (execEqN (p := 0) (q := 0) rfl (hv 1 (by decide) _ rfl _ rfl) rfl) (decide_eq_true (by omega))) ⟨s, ⟨_, rfl, rfl⟩, hS, fun _ _ => rfl⟩
      | 3, _ => exact stepV rfl rfl (execMvB rfl (hv 2 (by decide) _ rfl _ rfl)) ⟨s, ⟨_, rfl, rfl⟩, hS, fun _ _ => rfl⟩
      | 4, _ => exact stepV rfl (wantedOf rfl (yieldedAt rfl rfl (show a.eval (.tmp 59) = .bool true from (hv 3 (by decide) _ rfl _ rfl)))) (execMvB rfl ((hf 8 (by decide)).trans t8)) ⟨s, ⟨_, rfl, rfl⟩, hS, fun _ _ => rfl⟩
      | 5, _ => exact stepV rfl (wantedOf rfl (yieldedAt rfl rfl (show a.eval (.tmp 59) = .bool true from (hv 3 (by decide) _ rfl _ rfl)))) (execMvB rfl ((hf 6 (by decide)).trans t6)) ⟨s, ⟨_, rfl, rfl⟩, hS, fun _ _ => rfl⟩
      | 6, _ => exact stepV rfl (wantedOf rfl (yieldedAt rfl rfl (show a.eval (.tmp 59) = .bool true from (hv 3 (by decide) _ rfl _ rfl)))) (execDec (execEqE (p := tnE L n ch wf m p) (q := riE L n ch p) rfl (hv 4 (by decide) _ rfl _ rfl) (hv 5 (by decide) _ rfl _ rfl)) (decide_eq_true (by omega))) ⟨s, ⟨_, rfl, rfl⟩, hS, fun _ _ => rfl⟩
      | 7, _ => exact stepV rfl (wantedOf rfl (yieldedAt rfl rfl (show a.eval (.tmp 59) = .bool true from (hv 3 (by decide) _ rfl _ rfl)))) (execMvB rfl (hv 6 (by decide) _ rfl _ rfl)) ⟨s, ⟨_, rfl, rfl⟩, hS, fun _ _ => rfl⟩
      | 8, _ => exact stepU rfl (unwantedOf rfl (yieldedAt rfl rfl (show a.eval (.tmp 63) = .bool (!false) from (hv 7 (by decide) _ rfl _ rfl)))) ⟨s, ⟨_, rfl, rfl⟩, hS, fun _ _ => rfl⟩
      | 9, _ => exact stepU rfl (unwantedOf rfl (yieldedAt rfl rfl (show a.eval (.tmp 63) = .bool (!false) from (hv 7 (by decide) _ rfl _ rfl)))) ⟨s, ⟨_, rfl, rfl⟩, hS, fun _ _ => rfl⟩
      | 10, _ => exact stepU rfl (unwantedOf rfl (yieldedAt rfl rfl (show a.eval (.tmp 63) = .bool (!false) from (hv 7 (by decide) _ rfl _ rfl)))) ⟨s, ⟨_, rfl, rfl⟩, hS, fun _ _ => rfl⟩
      | 11, _ => exact stepU rfl (unwantedNo rfl (yieldedNo rfl rfl (show a.eval (.tmp 66) = undef from (hv 10 (by decide) _ rfl _ rfl)))) ⟨s, ⟨_, rfl, rfl⟩, hS, fun _ _ => rfl⟩
      | 12, _ => exact stepU rfl (unwantedNo rfl (yieldedNo rfl rfl (show a.eval (.tmp 66) = undef from (hv 10 (by decide) _ rfl _ rfl)))) ⟨s, ⟨_, rfl, rfl⟩, hS, fun _ _ => rfl⟩
      | 13, _ => exact stepU rfl (unwantedNo rfl (yieldedNo rfl rfl (show a.eval (.tmp 66) = undef from (hv 10 (by decide) _ rfl _ rfl)))) ⟨s, ⟨_, rfl, rfl⟩, hS, fun _ _ => rfl⟩
      | 14, _ => exact stepU rfl (unwantedNo rfl (yieldedNo rfl rfl (show a.eval (.tmp 69) = undef from (hv 13 (by decide) _ rfl _ rfl)))) ⟨s, ⟨_, rfl, rfl⟩, hS, fun _ _ => rfl⟩
      | 15, _ => exact stepU rfl (unwantedNo rfl (yieldedNo rfl rfl (show a.eval (.tmp 69) = undef from (hv 13 (by decide) _ rfl _ rfl)))) ⟨s, ⟨_, rfl, rfl⟩, hS, fun _ _ => rfl⟩
      | 16, _ => exact stepU rfl (unwantedNo rfl (yieldedNo rfl rfl (show a.eval (.tmp 66) = undef from (hv 10 (by decide) _ rfl _ rfl)))) ⟨s, ⟨_, rfl, rfl⟩, hS, fun _ _ => rfl⟩
      | 17, _ => exact stepU rfl (unwantedOf rfl (yieldedAt rfl rfl (show a.eval (.tmp 63) = .bool (!false) from (hv 7 (by decide) _ rfl _ rfl)))) ⟨s, ⟨_, rfl, rfl⟩, hS, fun _ _ => rfl⟩
      | 18, _ => exact stepV rfl (wantedOf rfl (yieldedAt rfl rfl (show a.eval (.tmp 59) = .bool true from (hv 3 (by decide) _ rfl _ rfl)))) (execPickT rfl (hv 7 (by decide) _ rfl _ rfl) rfl) ⟨s, ⟨_, rfl, rfl⟩, hS, fun _ _ => rfl⟩
      | 19, _ => exact stepV rfl rfl (execPickT rfl (hv 3 (by decide) _ rfl _ rfl) (hv 18 (by decide) _ rfl _ rfl)) ⟨s, ⟨_, rfl, rfl⟩, hS, fun _ _ => rfl⟩
      | 20, _ => exact stepV rfl rfl (execAsgB rfl (hv 19 (by decide) _ rfl _ rfl)) ⟨s, ⟨_, rfl, rfl⟩, hS, fun _ _ => rfl⟩
      | k_ + 21, h_ => exact absurd h_ (by simp)
     rintro _ a X7 h1 h2 h3 h4 hS
     replace hS : Below X6.heap.size X6 X7 := hS
     have bX := hS
     clear hS
     have t4 : a.eval (.tmp 4) = .bool true := h4 20 _ rfl _ rfl
     replace FP := (FP.on bX)
     replace FW := (FW.on bX)
     replace FT := (FT.on bX)
     replace FQ := (on9 FQ bX)
     replace Fv27 := (Fv27.on bX)
     replace Fv39 := (Fv39.on bX)
     have ZX7 := bX.size
     replace BW := BW.trans (bX.mono BW.size)
     clear bX
     replace A := (⟨h1, h2.trans A.2⟩ : a.tmps.size = 171 ∧ a.defers = [])
     clear h1 h2 h3 h4
     clear t6 t7 t8 t9
     refine wp_ret ?_
     repeat (first | with_reducible refine ret_in ?_ | with_reducible refine ret_then ?_)
     refine bodyPost_ret (results_tmp rfl _ _ _) A.2 ⟨?_, BW⟩
     show Ending.returned (a.eval (.tmp 4)) = _
     rw [t4]
    ·by_cases h2e : tnE L n ch wf m p = 2
     ·refine wp_se 171 [0, 1, 2, 3, 5, 6, 7, 8, 9, 10] [] (fun _ s X => Below X5.heap.size X5 X) (fun s => fun i_ => match i_ with | 0 => .pointer (some ⟨gq, 3, none⟩) | 1 => wv | 2 => .int .i64 ((pE wf m : Nat) : Int) | 3 => .bool true | 5 => .pointer (some ⟨gq, 3, none⟩) | 6 => wv | 7 => .int .i64 ((m : Nat) : Int) | 8 => .pointer (some ⟨gq, 1, none⟩) | 9 => .int .i64 n | 10 => .bool false | _ => undef) () A (Below.refl _ _) (And.intro ?_ (And.intro ?_ (And.intro ?_ (And.intro ?_ (And.intro ?_ (And.intro ?_ (And.intro ?_ (And.intro ?_ (And.intro ?_ (And.intro ?_ trivial)))))))))) ?_
      ·exact fun s a X e hS => stepV rfl rfl (execFldJb3 rfl ((e (.tmp 2)).trans t2)) ⟨s, ⟨_, rfl, rfl⟩, hS, ar⟩
      ·exact fun s a X e hS => stepV rfl rfl (execLdLI (v := wv) rfl (e (.tmp 44)) (ak_at3 (on9 FQ hS))) ⟨s, ⟨_, rfl, rfl⟩, hS, ar⟩
      ·exact fun s a X e hS => stepC rfl rfl (execCall1 Try.func17 (by kernel_rfl) (by kernel_rfl) rfl (e (.tmp 45))) (pcheck wf m _ X (FW.on hS) (by omega)) fun e w' hh => ⟨_, hh.1, s, ⟨_, rfl, rfl⟩, (hS).trans ((hh.2).mono (hS).size), ar⟩
      ·exact fun s a X e hS => stepV rfl rfl (execDec (execEqE (p := pE wf m) (q := 0) rfl (e (.tmp 46)) rfl) (decide_eq_true (by omega))) ⟨s, ⟨_, rfl, rfl⟩, hS, ar⟩
      ·exact fun s a X e hS => stepV rfl (wy rfl rfl rfl (e (.tmp 48))) (execFldJb3 rfl ((e (.tmp 2)).trans t2)) ⟨s, ⟨_, rfl, rfl⟩, hS, ar⟩
      ·exact fun s a X e hS => stepV rfl (wy rfl rfl rfl (e (.tmp 48))) (execLdLI (v := wv) rfl (e (.tmp 49)) (ak_at3 (on9 FQ hS))) ⟨s, ⟨_, rfl, rfl⟩, hS, ar⟩
      ·exact fun s a X e hS => stepV rfl (wy rfl rfl rfl (e (.tmp 48))) (execLenI (len := m) rfl (e (.tmp 50)) ((FW.on hS)).shp) ⟨s, ⟨_, rfl, rfl⟩, hS, ar⟩
      ·exact fun s a X e hS => stepV rfl (wy rfl rfl rfl (e (.tmp 48))) (execFldJb1 rfl ((e (.tmp 2)).trans t2)) ⟨s, ⟨_, rfl, rfl⟩, hS, ar⟩
      ·exact fun s a X e hS => stepV rfl (wy rfl rfl rfl (e (.tmp 48))) (execLd3 rfl (e (.tmp 52)) (ak_at1 (on9 FQ hS))) ⟨s, ⟨_, rfl, rfl⟩, hS, ar⟩
      ·exact fun s a X e hS => stepV rfl (wy rfl rfl rfl (e (.tmp 48))) (execEqZf rfl (e (.tmp 51)) (e (.tmp 53)) (hc2)) ⟨s, ⟨_, rfl, rfl⟩, hS, ar⟩
      rintro _ a X6 A e (bX : Below X5.heap.size X5 X6)
      have t9 : a.eval (.tmp 9) = .bool false := e _
      replace t6 := kt e t6
      replace t7 := kt e t7
      replace t8 := kt e t8
      replace FP := (FP.on bX)
      replace FW := (FW.on bX)
      replace FT := (FT.on bX)
      replace FQ := (on9 FQ bX)
      replace Fv27 := (Fv27.on bX)
      replace Fv39 := (Fv39.on bX)
      have ZX6 := bX.size
      replace BW := BW.trans (bX.mono BW.size)
      clear bX
      clear e t2
      refine wp_seq ?_
      refine wp_se 171 [1, 2, 6, 9, 12] [] (fun _ s X => Below X6.heap.size X6 X) (fun s => fun i_ => match i_ with | 1 => .int .i64 ((0 : Nat) : Int) | 2 => .bool true | 6 => .bool false | 9 => .bool true | 12 => .bool true | _ => undef) () A (Below.refl _ _) (And.intro ?_ (And.intro ?_ (And.intro ?_ (And.intro ?_ (And.intro ?_ trivial))))) ?_
      ·exact fun s a X e hS => stepV rfl rfl (execLenV (len := 0) rfl ((e (.tmp 56)).trans t7) (shp9 (Fv39.on hS))) ⟨s, ⟨_, rfl, rfl⟩, hS, ar⟩
      ·exact fun s a X e hS => stepV rfl rfl (execDec (execEqN (p := 0) (q := 0) rfl (e (.tmp 57)) rfl) (decide_eq_true (by omega))) ⟨s, ⟨_, rfl, rfl⟩, hS, ar⟩
      ·exact fun s a X e hS => stepV rfl (wy rfl rfl rfl (e (.tmp 59))) (execDec (execEqE (p := tnE L n ch wf m p) (q := riE L n ch p) rfl ((e (.tmp 60)).trans t8) ((e (.tmp 61)).trans t6)) (decide_eq_false (by omega))) ⟨s, ⟨_, rfl, rfl⟩, hS, ar⟩
      ·exact fun s a X e hS => stepV rfl (wy rfl rfl rfl (e (.tmp 63))) (execNot8 rfl ((e (.tmp 64)).trans t9)) ⟨s, ⟨_, rfl, rfl⟩, hS, ar⟩
      ·exact fun s a X e hS => stepV rfl (wy rfl rfl rfl (e (.tmp 66))) (execDec (execEqE (p := tnE L n ch wf m p) (q := 2) rfl ((e (.tmp 67)).trans t8) rfl) (decide_eq_true (by omega))) ⟨s, ⟨_, rfl, rfl⟩, hS, ar⟩
      rintro _ a X7 A e (bX : Below X6.heap.size X6 X7)
      have t4 : a.eval (.tmp 4) = .bool true := e _
      replace FP := (FP.on bX)
      replace FW := (FW.on bX)
      replace FT := (FT.on bX)
      replace FQ := (on9 FQ bX)
      replace Fv27 := (Fv27.on bX)
      replace Fv39 := (Fv39.on bX)
      have ZX7 := bX.size
      replace BW := BW.trans (bX.mono BW.size)
      clear bX
      clear e t6 t7 t8 t9
      refine wp_ret ?_
      repeat (first | with_reducible refine ret_in ?_ | with_reducible refine ret_then ?_)
      refine bodyPost_ret (results_tmp rfl _ _ _) A.2 ⟨?_, BW⟩
      show Ending.returned (a.eval (.tmp 4)) = _
      rw [t4]
     ·have h110 : tnE L n ch wf m p = 110 := by
       rcases tn_no (L := L) (n := n) (ch := ch) (wf := wf) (m := m) (p := p) with h_ | h_
       ·exact absurd h_ heq
       ·exact h_.2.resolve_left h2e
      refine wp_se 171 [0, 1, 2, 3, 5, 6, 7, 8, 9, 10] [] (fun _ s X => Below X5.heap.size X5 X) (fun s => fun i_ => match i_ with | 0 => .pointer (some ⟨gq, 3, none⟩) | 1 => wv | 2 => .int .i64 ((pE wf m : Nat) : Int) | 3 => .bool true | 5 => .pointer (some ⟨gq, 3, none⟩) | 6 => wv | 7 => .int .i64 ((m : Nat) : Int) | 8 => .pointer (some ⟨gq, 1, none⟩) | 9 => .int .i64 n | 10 => .bool false | _ => undef) () A (Below.refl _ _) (And.intro ?_ (And.intro ?_ (And.intro ?_ (And.intro ?_ (And.intro ?_ (And.intro ?_ (And.intro ?_ (And.intro ?_ (And.intro ?_ (And.intro ?_ trivial)))))))))) ?_
      ·exact fun s a X e hS => stepV rfl rfl (execFldJb3 rfl ((e (.tmp 2)).trans t2)) ⟨s, ⟨_, rfl, rfl⟩, hS, ar⟩
      ·exact fun s a X e hS => stepV rfl rfl (execLdLI (v := wv) rfl (e (.tmp 44)) (ak_at3 (on9 FQ hS))) ⟨s, ⟨_, rfl, rfl⟩, hS, ar⟩
      ·exact fun s a X e hS => stepC rfl rfl (execCall1 Try.func17 (by kernel_rfl) (by kernel_rfl) rfl (e (.tmp 45))) (pcheck wf m _ X (FW.on hS) (by omega)) fun e w' hh => ⟨_, hh.1, s, ⟨_, rfl, rfl⟩, (hS).trans ((hh.2).mono (hS).size), ar⟩
      ·exact fun s a X e hS => stepV rfl rfl (execDec (execEqE (p := pE wf m) (q := 0) rfl (e (.tmp 46)) rfl) (decide_eq_true (by omega))) ⟨s, ⟨_, rfl, rfl⟩, hS, ar⟩
      ·exact fun s a X e hS => stepV rfl (wy rfl rfl rfl (e (.tmp 48))) (execFldJb3 rfl ((e (.tmp 2)).trans t2)) ⟨s, ⟨_, rfl, rfl⟩, hS, ar⟩
      ·exact fun s a X e hS => stepV rfl (wy rfl rfl rfl (e (.tmp 48))) (execLdLI (v := wv) rfl (e (.tmp 49)) (ak_at3 (on9 FQ hS))) ⟨s, ⟨_, rfl, rfl⟩, hS, ar⟩
      ·exact fun s a X e hS => stepV rfl (wy rfl rfl rfl (e (.tmp 48))) (execLenI (len := m) rfl (e (.tmp 50)) ((FW.on hS)).shp) ⟨s, ⟨_, rfl, rfl⟩, hS, ar⟩
      ·exact fun s a X e hS => stepV rfl (wy rfl rfl rfl (e (.tmp 48))) (execFldJb1 rfl ((e (.tmp 2)).trans t2)) ⟨s, ⟨_, rfl, rfl⟩, hS, ar⟩
      ·exact fun s a X e hS => stepV rfl (wy rfl rfl rfl (e (.tmp 48))) (execLd3 rfl (e (.tmp 52)) (ak_at1 (on9 FQ hS))) ⟨s, ⟨_, rfl, rfl⟩, hS, ar⟩
      ·exact fun s a X e hS => stepV rfl (wy rfl rfl rfl (e (.tmp 48))) (execEqZf rfl (e (.tmp 51)) (e (.tmp 53)) (hc2)) ⟨s, ⟨_, rfl, rfl⟩, hS, ar⟩
      rintro _ a X6 A e (bX : Below X5.heap.size X5 X6)
      have t9 : a.eval (.tmp 9) = .bool false := e _
      replace t6 := kt e t6
      replace t7 := kt e t7
      replace t8 := kt e t8
      replace FP := (FP.on bX)
      replace FW := (FW.on bX)
      replace FT := (FT.on bX)
      replace FQ := (on9 FQ bX)
      replace Fv27 := (Fv27.on bX)
      replace Fv39 := (Fv39.on bX)
      have ZX6 := bX.size
      replace BW := BW.trans (bX.mono BW.size)
      clear bX
      clear e t2
      refine wp_seq ?_
      refine wp_se 171 [1, 2, 6, 9, 12, 15] [] (fun _ s X => Below X6.heap.size X6 X) (fun s => fun i_ => match i_ with | 1 => .int .i64 ((0 : Nat) : Int) | 2 => .bool true | 6 => .bool false | 9 => .bool true | 12 => .bool false | 15 => .bool true | _ => undef) () A (Below.refl _ _) (And.intro ?_ (And.intro ?_ (And.intro ?_ (And.intro ?_ (And.intro ?_ (And.intro ?_ trivial)))))) ?_
      ·exact fun s a X e hS => stepV rfl rfl (execLenV (len := 0) rfl ((e (.tmp 56)).trans t7) (shp9 (Fv39.on hS))) ⟨s, ⟨_, rfl, rfl⟩, hS, ar⟩
      ·exact fun s a X e hS => stepV rfl rfl (execDec (execEqN (p := 0) (q := 0) rfl (e (.tmp 57)) rfl) (decide_eq_true (by omega))) ⟨s, ⟨_, rfl, rfl⟩, hS, ar⟩
      ·exact fun s a X e hS => stepV rfl (wy rfl rfl rfl (e (.tmp 59))) (execDec (execEqE (p := tnE L n ch wf m p) (q := riE L n ch p) rfl ((e (.tmp 60)).trans t8) ((e (.tmp 61)).trans t6)) (decide_eq_false (by omega))) ⟨s, ⟨_, rfl, rfl⟩, hS, ar⟩
      ·exact fun s a X e hS => stepV rfl (wy rfl rfl rfl (e (.tmp 63))) (execNot8 rfl ((e (.tmp 64)).trans t9)) ⟨s, ⟨_, rfl, rfl⟩, hS, ar⟩
      ·exact fun s a X e hS => stepV rfl (wy rfl rfl rfl (e (.tmp 66))) (execDec (execEqE (p := tnE L n ch wf m p) (q := 2) rfl ((e (.tmp 67)).trans t8) rfl) (decide_eq_false (by omega))) ⟨s, ⟨_, rfl, rfl⟩, hS, ar⟩
      ·exact fun s a X e hS => stepV rfl (wy rfl rfl rfl (e (.tmp 69))) (execDec (execEqE (p := tnE L n ch wf m p) (q := 110) rfl ((e (.tmp 70)).trans t8) rfl) (decide_eq_true (by omega))) ⟨s, ⟨_, rfl, rfl⟩, hS, ar⟩
      rintro _ a X7 A e (bX : Below X6.heap.size X6 X7)
      have t4 : a.eval (.tmp 4) = .bool true := e _
      replace FP := (FP.on bX)
      replace FW := (FW.on bX)
      replace FT := (FT.on bX)
      replace FQ := (on9 FQ bX)
      replace Fv27 := (Fv27.on bX)
      replace Fv39 := (Fv39.on bX)
      have ZX7 := bX.size
      replace BW := BW.trans (bX.mono BW.size)
      clear bX
      clear e t6 t7 t8 t9
      refine wp_ret ?_
      repeat (first | with_reducible refine ret_in ?_ | with_reducible refine ret_then ?_)
      refine bodyPost_ret (results_tmp rfl _ _ _) A.2 ⟨?_, BW⟩
      show Ending.returned (a.eval (.tmp 4)) = _
      rw [t4]
  ·have hc2 : True := trivial
   by_cases heq : tnE L n ch wf m p = riE L n ch p
   ·refine wp_se 171 [0, 1, 2, 3] [] (fun _ s X => Below X5.heap.size X5 X) (fun s => fun i_ => match i_ with | 0 => .pointer (some ⟨gq, 3, none⟩) | 1 => wv | 2 => .int .i64 ((pE wf m : Nat) : Int) | 3 => .bool false | _ => undef) () A (Below.refl _ _) (And.intro ?_ (And.intro ?_ (And.intro ?_ (And.intro ?_ trivial)))) ?_
    ·exact fun s a X e hS => stepV rfl rfl (execFldJb3 rfl ((e (.tmp 2)).trans t2)) ⟨s, ⟨_, rfl, rfl⟩, hS, ar⟩
    ·exact fun s a X e hS => stepV rfl rfl (execLdLI (v := wv) rfl (e (.tmp 44)) (ak_at3 (on9 FQ hS))) ⟨s, ⟨_, rfl, rfl⟩, hS, ar⟩
    ·exact fun s a X e hS => stepC rfl rfl (execCall1 Try.func17 (by kernel_rfl) (by kernel_rfl) rfl (e (.tmp 45))) (pcheck wf m _ X (FW.on hS) (by omega)) fun e w' hh => ⟨_, hh.1, s, ⟨_, rfl, rfl⟩, (hS).trans ((hh.2).mono (hS).size), ar⟩
    ·exact fun s a X e hS => stepV rfl rfl (execDec (execEqE (p := pE wf m) (q := 0) rfl (e (.tmp 46)) rfl) (decide_eq_false (by omega))) ⟨s, ⟨_, rfl, rfl⟩, hS, ar⟩
    rintro _ a X6 A e (bX : Below X5.heap.size X5 X6)
    have t9 : a.eval (.tmp 9) = .bool false := e _
    replace t6 := kt e t6
    replace t7 := kt e t7
    replace t8 := kt e t8
    replace FP := (FP.on bX)
    replace FW := (FW.on bX)
    replace FT := (FT.on bX)
    replace FQ := (on9 FQ bX)
    replace Fv27 := (Fv27.on bX)
    replace Fv39 := (Fv39.on bX)
    have ZX6 := bX.size
    replace BW := BW.trans (bX.mono BW.size)
    clear bX
    clear e t2
    refine wp_seq ?_
    refine wp_region_sq (σ := Unit) 171 [(0, 56), (1, 57), (2, 58), (3, 59), (4, 60), (5, 61), (6, 62), (7, 63), (8, 64), (9, 65), (10, 66), (11, 67), (12, 68), (13, 69), (14, 70), (15, 71), (16, 72), (17, 73), (18, 74), (19, 75), (20, 4)] (fun j_ s X => match j_ with | 0 => Below X6.heap.size X6 X | 1 => Below X6.heap.size X6 X | 2 => Below X6.heap.size X6 X | 3 => Below X6.heap.size X6 X | 4 => Below X6.heap.size X6 X | 5 => Below X6.heap.size X6 X | 6 => Below X6.heap.size X6 X | 7 => Below X6.heap.size X6 X | 8 => Below X6.heap.size X6 X | 9 => Below X6.heap.size X6 X | 10 => Below X6.heap.size X6 X | 11 => Below X6.heap.size X6 X | 12 => Below X6.heap.size X6 X | 13 => Below X6.heap.size X6 X | 14 => Below X6.heap.size X6 X | 15 => Below X6.heap.size X6 X | 16 => Below X6.heap.size X6 X | 17 => Below X6.heap.size X6 X | 18 => Below X6.heap.size X6 X | 19 => Below X6.heap.size X6 X | 20 => Below X6.heap.size X6 X | _ => Below X6.heap.size X6 X) (fun s => fun i_ => match i_ with | 0 => v39 | 1 => .int .i64 ((0 : Nat) : Int) | 2 => .bool true | 3 => .bool true | 4 => .int .i64 ((tnE L n ch wf m p : Nat) : Int) | 5 => .int .i64 ((riE L n ch p : Nat) : Int) | 6 => .bool true | 7 => .bool true | 8 => undef | 9 => undef | 10 => undef | 11 => undef | 12 => undef | 13 => undef | 14 => undef | 15 => undef | 16 => undef | 17 => undef | 18 => .bool true | 19 => .bool true | 20 => .bool true | _ => undef) () A.1 (by kernel_rfl) (by decide) (by decide) (Below.refl _ _) ?_ ?_
    ·intro i_ hi_ s a X hf hv hn hS
     match i_, hi_ with
     | 0, _ => exact stepV rfl rfl (execMvB rfl ((hf 7 (by decide)).trans t7)) ⟨s, ⟨_, rfl, rfl⟩, hS, fun _ _ => rfl⟩
     | 1, _ => exact stepV rfl rfl (execLenV (len := 0) rfl (hv 0 (by decide) _ rfl _ rfl) (shp9 (Fv39.on hS))) ⟨s, ⟨_, rfl, rfl⟩, hS, fun _ _ => rfl⟩
     | 2, _ => exact stepV rfl rfl (execDec (execEqN (p := 0) (q := 0) rfl (hv 1 (by decide) _ rfl _ rfl) rfl) (decide_eq_true (by omega))) ⟨s, ⟨_, rfl, rfl⟩, hS, fun _ _ => rfl⟩
     | 3, _ => exact stepV rfl rfl (execMvB rfl (hv 2 (by decide) _ rfl _ rfl)) ⟨s, ⟨_, rfl, rfl⟩, hS, fun _ _ => rfl⟩
     | 4, _ => exact stepV rfl (wantedOf rfl (yieldedAt rfl rfl (show a.eval (.tmp 59) = .bool true from (hv 3 (by decide) _ rfl _ rfl)))) (execMvB rfl ((hf 8 (by decide)).trans t8)) ⟨s, ⟨_, rfl, rfl⟩, hS, fun _ _ => rfl⟩
     | 5, _ => exact stepV rfl (wantedOf rfl (yieldedAt rfl rfl (show a.eval (.tmp 59) = .bool true from (hv 3 (by decide) _ rfl _ rfl)))) (execMvB rfl ((hf 6 (by decide)).trans t6)) ⟨s, ⟨_, rfl, rfl⟩, hS, fun _ _ => rfl⟩
     | 6, _ => exact stepV rfl (wantedOf rfl (yieldedAt rfl rfl (show a.eval (.tmp 59) = .bool true from (hv 3 (by decide) _ rfl _ rfl)))) (execDec (execEqE (p := tnE L n ch wf m p) (q := riE L n ch p) rfl (hv 4 (by decide) _ rfl _ rfl) (hv 5 (by decide) _ rfl _ rfl)) (decide_eq_true (by omega))) ⟨s, ⟨_, rfl, rfl⟩, hS, fun _ _ => rfl⟩
     | 7, _ => exact stepV rfl (wantedOf rfl (yieldedAt rfl rfl (show a.eval (.tmp 59) = .bool true from (hv 3 (by decide) _ rfl _ rfl)))) (execMvB rfl (hv 6 (by decide) _ rfl _ rfl)) ⟨s, ⟨_, rfl, rfl⟩, hS, fun _ _ => rfl⟩
     | 8, _ => exact stepU rfl (unwantedOf rfl (yieldedAt rfl rfl (show a.eval (.tmp 63) = .bool (!false) from (hv 7 (by decide) _ rfl _ rfl)))) ⟨s, ⟨_, rfl, rfl⟩, hS, fun _ _ => rfl⟩
     | 9, _ => exact stepU rfl (unwantedOf rfl (yieldedAt rfl rfl (show a.eval (.tmp 63) = .bool (!false) from (hv 7 (by decide) _ rfl _ rfl)))) ⟨s, ⟨_, rfl, rfl⟩, hS, fun _ _ => rfl⟩
     | 10, _ => exact stepU rfl (unwantedOf rfl (yieldedAt rfl rfl (show a.eval (.tmp 63) = .bool (!false) from (hv 7 (by decide) _ rfl _ rfl)))) ⟨s, ⟨_, rfl, rfl⟩, hS, fun _ _ => rfl⟩
     | 11, _ => exact stepU rfl (unwantedNo rfl (yieldedNo rfl rfl (show a.eval (.tmp 66) = undef from (hv 10 (by decide) _ rfl _ rfl)))) ⟨s, ⟨_, rfl, rfl⟩, hS, fun _ _ => rfl⟩
     | 12, _ => exact stepU rfl (unwantedNo rfl (yieldedNo rfl rfl (show a.eval (.tmp 66) = undef from (hv 10 (by decide) _ rfl _ rfl)))) ⟨s, ⟨_, rfl, rfl⟩, hS, fun _ _ => rfl⟩
     | 13, _ => exact stepU rfl (unwantedNo rfl (yieldedNo rfl rfl (show a.eval (.tmp 66) = undef from (hv 10 (by decide) _ rfl _ rfl)))) ⟨s, ⟨_, rfl, rfl⟩, hS, fun _ _ => rfl⟩
     | 14, _ => exact stepU rfl (unwantedNo rfl (yieldedNo rfl rfl (show a.eval (.tmp 69) = undef from (hv 13 (by decide) _ rfl _ rfl)))) ⟨s, ⟨_, rfl, rfl⟩, hS, fun _ _ => rfl⟩
     | 15, _ => exact stepU rfl (unwantedNo rfl (yieldedNo rfl rfl (show a.eval (.tmp 69) = undef from (hv 13 (by decide) _ rfl _ rfl)))) ⟨s, ⟨_, rfl, rfl⟩, hS, fun _ _ => rfl⟩
     | 16, _ => exact stepU rfl (unwantedNo rfl (yieldedNo rfl rfl (show a.eval (.tmp 66) = undef from (hv 10 (by decide) _ rfl _ rfl)))) ⟨s, ⟨_, rfl, rfl⟩, hS, fun _ _ => rfl⟩
     | 17, _ => exact stepU rfl (unwantedOf rfl (yieldedAt rfl rfl (show a.eval (.tmp 63) = .bool (!false) from (hv 7 (by decide) _ rfl _ rfl)))) ⟨s, ⟨_, rfl, rfl⟩, hS, fun _ _ => rfl⟩
     | 18, _ => exact stepV rfl (wantedOf rfl (yieldedAt rfl rfl (show a.eval (.tmp 59) = .bool true from (hv 3 (by decide) _ rfl _ rfl)))) (execPickT rfl (hv 7 (by decide) _ rfl _ rfl) rfl) ⟨s, ⟨_, rfl, rfl⟩, hS, fun _ _ => rfl⟩
     | 19, _ => exact stepV rfl rfl (execPickT rfl (hv 3 (by decide) _ rfl _ rfl) (hv 18 (by decide) _ rfl _ rfl)) ⟨s, ⟨_, rfl, rfl⟩, hS, fun _ _ => rfl⟩
     | 20, _ => exact stepV rfl rfl (execAsgB rfl (hv 19 (by decide) _ rfl _ rfl)) ⟨s, ⟨_, rfl, rfl⟩, hS, fun _ _ => rfl⟩
     | k_ + 21, h_ => exact absurd h_ (by simp)
    rintro _ a X7 h1 h2 h3 h4 hS
    replace hS : Below X6.heap.size X6 X7 := hS
    have bX := hS
    clear hS
    have t4 : a.eval (.tmp 4) = .bool true := h4 20 _ rfl _ rfl
    replace FP := (FP.on bX)
    replace FW := (FW.on bX)
    replace FT := (FT.on bX)
    replace FQ := (on9 FQ bX)
    replace Fv27 := (Fv27.on bX)
    replace Fv39 := (Fv39.on bX)
    have ZX7 := bX.size
    replace BW := BW.trans (bX.mono BW.size)
    clear bX
    replace A := (⟨h1, h2.trans A.2⟩ : a.tmps.size = 171 ∧ a.defers = [])
    clear h1 h2 h3 h4
    clear t6 t7 t8 t9
    refine wp_ret ?_
    repeat (first | with_reducible refine ret_in ?_ | with_reducible refine ret_then ?_)
    refine bodyPost_ret (results_tmp rfl _ _ _) A.2 ⟨?_, BW⟩
    show Ending.returned (a.eval (.tmp 4)) = _
    rw [t4]
   ·by_cases h2e : tnE L n ch wf m p = 2
    ·refine wp_se 171 [0, 1, 2, 3] [] (fun _ s X => Below X5.heap.size X5 X) (fun s => fun i_ => match i_ with | 0 => .pointer (some ⟨gq, 3, none⟩) | 1 => wv | 2 => .int .i64 ((pE wf m : Nat) : Int) | 3 => .bool false | _ => undef) () A (Below.refl _ _) (And.intro ?_ (And.intro ?_ (And.intro ?_ (And.intro ?_ trivial)))) ?_
     ·exact fun s a X e hS => stepV rfl rfl (execFldJb3 rfl ((e (.tmp 2)).trans t2)) ⟨s, ⟨_, rfl, rfl⟩, hS, ar⟩
     ·exact fun s a X e hS => stepV rfl rfl (execLdLI (v := wv) rfl (e (.tmp 44)) (ak_at3 (on9 FQ hS))) ⟨s, ⟨_, rfl, rfl⟩, hS, ar⟩
     ·exact fun s a X e hS => stepC rfl rfl (execCall1 Try.func17 (by kernel_rfl) (by kernel_rfl) rfl (e (.tmp 45))) (pcheck wf m _ X (FW.on hS) (by omega)) fun e w' hh => ⟨_, hh.1, s, ⟨_, rfl, rfl⟩, (hS).trans ((hh.2).mono (hS).size), ar⟩
     ·exact fun s a X e hS => stepV rfl rfl (execDec (execEqE (p := pE wf m) (q := 0) rfl (e (.tmp 46)) rfl) (decide_eq_false (by omega))) ⟨s, ⟨_, rfl, rfl⟩, hS, ar⟩
     rintro _ a X6 A e (bX : Below X5.heap.size X5 X6)
     have t9 : a.eval (.tmp 9) = .bool false := e _
     replace t6 := kt e t6
     replace t7 := kt e t7
     replace t8 := kt e t8
     replace FP := (FP.on bX)
     replace FW := (FW.on bX)
     replace FT := (FT.on bX)
     replace FQ := (on9 FQ bX)
     replace Fv27 := (Fv27.on bX)
     replace Fv39 := (Fv39.on bX)
     have ZX6 := bX.size
     replace BW := BW.trans (bX.mono BW.size)
     clear bX
     clear e t2
     refine wp_seq ?_
     refine wp_se 171 [1, 2, 6, 9, 12] [] (fun _ s X => Below X6.heap.size X6 X) (fun s => fun i_ => match i_ with | 1 => .int .i64 ((0 : Nat) : Int) | 2 => .bool true | 6 => .bool false | 9 => .bool true | 12 => .bool true | _ => undef) () A (Below.refl _ _) (And.intro ?_ (And.intro ?_ (And.intro ?_ (And.intro ?_ (And.intro ?_ trivial))))) ?_
     ·exact fun s a X e hS => stepV rfl rfl (execLenV (len := 0) rfl ((e (.tmp 56)).trans t7) (shp9 (Fv39.on hS))) ⟨s, ⟨_, rfl, rfl⟩, hS, ar⟩
     ·exact fun s a X e hS => stepV rfl rfl (execDec (execEqN (p := 0) (q := 0) rfl (e (.tmp 57)) rfl) (decide_eq_true (by omega))) ⟨s, ⟨_, rfl, rfl⟩, hS, ar⟩
     ·exact fun s a X e hS => stepV rfl (wy rfl rfl rfl (e (.tmp 59))) (execDec (execEqE (p := tnE L n ch wf m p) (q := riE L n ch p) rfl ((e (.tmp 60)).trans t8) ((e (.tmp 61)).trans t6)) (decide_eq_false (by omega))) ⟨s, ⟨_, rfl, rfl⟩, hS, ar⟩
     ·exact fun s a X e hS => stepV rfl (wy rfl rfl rfl (e (.tmp 63))) (execNot8 rfl ((e (.tmp 64)).trans t9)) ⟨s, ⟨_, rfl, rfl⟩, hS, ar⟩
     ·exact fun s a X e hS => stepV rfl (wy rfl rfl rfl (e (.tmp 66))) (execDec (execEqE (p := tnE L n ch wf m p) (q := 2) rfl ((e (.tmp 67)).trans t8) rfl) (decide_eq_true (by omega))) ⟨s, ⟨_, rfl, rfl⟩, hS, ar⟩
     rintro _ a X7 A e (bX : Below X6.heap.size X6 X7)
     have t4 : a.eval (.tmp 4) = .bool true := e _
     replace FP := (FP.on bX)
     replace FW := (FW.on bX)
     replace FT := (FT.on bX)
     replace FQ := (on9 FQ bX)
     replace Fv27 := (Fv27.on bX)
     replace Fv39 := (Fv39.on bX)
     have ZX7 := bX.size
     replace BW := BW.trans (bX.mono BW.size)
     clear bX
     clear e t6 t7 t8 t9
     refine wp_ret ?_
     repeat (first | with_reducible refine ret_in ?_ | with_reducible refine ret_then ?_)
     refine bodyPost_ret (results_tmp rfl _ _ _) A.2 ⟨?_, BW⟩
     show Ending.returned (a.eval (.tmp 4)) = _
     rw [t4]
    ·have h110 : tnE L n ch wf m p = 110 := by
      rcases tn_no (L := L) (n := n) (ch := ch) (wf := wf) (m := m) (p := p) with h_ | h_
      ·exact absurd h_ heq
      ·exact h_.2.resolve_left h2e
     refine wp_se 171 [0, 1, 2, 3] [] (fun _ s X => Below X5.heap.size X5 X) (fun s => fun i_ => match i_ with | 0 => .pointer (some ⟨gq, 3, none⟩) | 1 => wv | 2 => .int .i64 ((pE wf m : Nat) : Int) | 3 => .bool false | _ => undef) () A (Below.refl _ _) (And.intro ?_ (And.intro ?_ (And.intro ?_ (And.intro ?_ trivial)))) ?_
     ·exact fun s a X e hS => stepV rfl rfl (execFldJb3 rfl ((e (.tmp 2)).trans t2)) ⟨s, ⟨_, rfl, rfl⟩, hS, ar⟩
     ·exact fun s a X e hS => stepV rfl rfl (execLdLI (v := wv) rfl (e (.tmp 44)) (ak_at3 (on9 FQ hS))) ⟨s, ⟨_, rfl, rfl⟩, hS, ar⟩
     ·exact fun s a X e hS => stepC rfl rfl (execCall1 Try.func17 (by kernel_rfl) (by kernel_rfl) rfl (e (.tmp 45))) (pcheck wf m _ X (FW.on hS) (by omega)) fun e w' hh => ⟨_, hh.1, s, ⟨_, rfl, rfl⟩, (hS).trans ((hh.2).mono (hS).size), ar⟩
     ·exact fun s a X e hS => stepV rfl rfl (execDec (execEqE (p := pE wf m) (q := 0) rfl (e (.tmp 46)) rfl) (decide_eq_false (by omega))) ⟨s, ⟨_, rfl, rfl⟩, hS, ar⟩
     rintro _ a X6 A e (bX : Below X5.heap.size X5 X6)
     have t9 : a.eval (.tmp 9) = .bool false := e _
     replace t6 := kt e t6
     replace t7 := kt e t7
     replace t8 := kt e t8
     replace FP := (FP.on bX)
     replace FW := (FW.on bX)
     replace FT := (FT.on bX)
     replace FQ := (on9 FQ bX)
     replace Fv27 := (Fv27.on bX)
     replace Fv39 := (Fv39.on bX)
     have ZX6 := bX.size
     replace BW := BW.trans (bX.mono BW.size)
     clear bX
     clear e t2
     refine wp_seq ?_
     refine wp_se 171 [1, 2, 6, 9, 12, 15] [] (fun _ s X => Below X6.heap.size X6 X) (fun s => fun i_ => match i_ with | 1 => .int .i64 ((0 : Nat) : Int) | 2 => .bool true | 6 => .bool false | 9 => .bool true | 12 => .bool false | 15 => .bool true | _ => undef) () A (Below.refl _ _) (And.intro ?_ (And.intro ?_ (And.intro ?_ (And.intro ?_ (And.intro ?_ (And.intro ?_ trivial)))))) ?_
     ·exact fun s a X e hS => stepV rfl rfl (execLenV (len := 0) rfl ((e (.tmp 56)).trans t7) (shp9 (Fv39.on hS))) ⟨s, ⟨_, rfl, rfl⟩, hS, ar⟩
     ·exact fun s a X e hS => stepV rfl rfl (execDec (execEqN (p := 0) (q := 0) rfl (e (.tmp 57)) rfl) (decide_eq_true (by omega))) ⟨s, ⟨_, rfl, rfl⟩, hS, ar⟩
     ·exact fun s a X e hS => stepV rfl (wy rfl rfl rfl (e (.tmp 59))) (execDec (execEqE (p := tnE L n ch wf m p) (q := riE L n ch p) rfl ((e (.tmp 60)).trans t8) ((e (.tmp 61)).trans t6)) (decide_eq_false (by omega))) ⟨s, ⟨_, rfl, rfl⟩, hS, ar⟩
     ·exact fun s a X e hS => stepV rfl (wy rfl rfl rfl (e (.tmp 63))) (execNot8 rfl ((e (.tmp 64)).trans t9)) ⟨s, ⟨_, rfl, rfl⟩, hS, ar⟩
     ·exact fun s a X e hS => stepV rfl (wy rfl rfl rfl (e (.tmp 66))) (execDec (execEqE (p := tnE L n ch wf m p) (q := 2) rfl ((e (.tmp 67)).trans t8) rfl) (decide_eq_false (by omega))) ⟨s, ⟨_, rfl, rfl⟩, hS, ar⟩
     ·exact fun s a X e hS => stepV rfl (wy rfl rfl rfl (e (.tmp 69))) (execDec (execEqE (p := tnE L n ch wf m p) (q := 110) rfl ((e (.tmp 70)).trans t8) rfl) (decide_eq_true (by omega))) ⟨s, ⟨_, rfl, rfl⟩, hS, ar⟩
     rintro _ a X7 A e (bX : Below X6.heap.size X6 X7)
     have t4 : a.eval (.tmp 4) = .bool true := e _
     replace FP := (FP.on bX)
     replace FW := (FW.on bX)
     replace FT := (FT.on bX)
     replace FQ := (on9 FQ bX)
     replace Fv27 := (Fv27.on bX)
     replace Fv39 := (Fv39.on bX)
     have ZX7 := bX.size
     replace BW := BW.trans (bX.mono BW.size)
     clear bX
     clear e t6 t7 t8 t9
     refine wp_ret ?_
     repeat (first | with_reducible refine ret_in ?_ | with_reducible refine ret_then ?_)
     refine bodyPost_ret (results_tmp rfl _ _ _) A.2 ⟨?_, BW⟩
     show Ending.returned (a.eval (.tmp 4)) = _
     rw [t4]
end Go.Proofs.Ytmjpneaccjlpkaa.Rif
