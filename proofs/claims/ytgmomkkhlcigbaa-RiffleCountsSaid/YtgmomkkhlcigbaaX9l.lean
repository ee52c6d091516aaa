import Derived.Test.YtgmomkkhlcigbaaX9h
namespace Go.Proofs.Ytgmomkkhlcigbaa.Rif
open Go.RowKit Gf8 Aes By8 Cel Cf Tap Drw Prm Brd
/- Stage 13's RiffleCounts. Written by tools/mkX9l.py. -/
def pF (nz : Nat → Nat) (x v j : Nat) : Nat := if j < 18 then nz j else if j = 18 then x else v
def pG (nz : Nat → Nat) (x v j : Nat) : Nat := if j < 18 then nz j else if j = 18 then v else x
theorem pF_lo {nz : Nat → Nat} {x v j : Nat} (h : j < 18) : pF nz x v (0 + j) = nz j := by
 rw [Nat.zero_add]
 exact if_pos h
theorem pG_is {nz : Nat → Nat} {x v : Nat} (j : Nat) : (fun j => if j = 19 then x else (fun j => if j = 18 then v else pF nz x v j) j) j = (if j < 20 then pG nz x v j else v) := by
 show (if j = 19 then x else if j = 18 then v else pF nz x v j) = _
 unfold pF pG
 by_cases h1 : j < 18
 ·rw [if_neg (by omega), if_neg (by omega), if_pos h1, if_pos (by omega), if_pos h1]
 ·by_cases h2 : j = 18
  ·rw [if_neg (by omega), if_pos h2, if_pos (by omega), if_neg h1, if_pos h2]
  ·by_cases h3 : j = 19
   ·rw [if_pos h3, if_pos (by omega), if_neg h1, if_neg h2]
   ·rw [if_neg h3, if_neg h2, if_neg h1, if_neg h2, if_neg (by omega)]
section
variable {nz : Nat → Nat} {x v : Nat}
theorem pF_byte (hnz : ∀ j, j < 18 → nz j < 256) (hx : x < 256) (hv : v < 256) : ∀ j, j < 20 → pF nz x v j < 256 := fun j _ => by
 unfold pF
 by_cases h1 : j < 18
 ·rw [if_pos h1]; exact hnz j h1
 ·rw [if_neg h1]
  by_cases h2 : j = 18
  ·rw [if_pos h2]; exact hx
  ·rw [if_neg h2]; exact hv
theorem pG_byte (hnz : ∀ j, j < 18 → nz j < 256) (hx : x < 256) (hv : v < 256) : ∀ j, j < 20 → pG nz x v j < 256 := fun j _ => by
 unfold pG
 by_cases h1 : j < 18
 ·rw [if_pos h1]; exact hnz j h1
 ·rw [if_neg h1]
  by_cases h2 : j = 18
  ·rw [if_pos h2]; exact hv
  ·rw [if_neg h2]; exact hx
end
theorem cn_1 (v : Nat) : (if v % 2 = 0 then (0 : Int) else 1) = if (v + 1) % 2 = 1 then 0 else 1 := by
 by_cases h : v % 2 = 0
 ·rw [if_pos h, if_pos (by omega)]
 ·rw [if_neg h, if_neg (by omega)]
section
variable {o : Oper} {a : Act} {w : World}
theorem execBox18 {x : Operand} {f : Nat → Nat} (ho : o.op = .box 22 x) (hx : a.eval x = .agg (bytesL 18 f).toArray) : (execOp a.eval o).run Try.prog w = .ok (.value (.pointer (some ⟨w.heap.size, 0, none⟩))) (w.alloc (.cells (bytesL 18 f).toArray 22)) := by
 unfold execOp
 simp only [ho, hx]
 simp [go_sem]
theorem execBs2B {x y : Operand} {p q : Int} (ho : o.op = .buildSlice 24 2 #[(0, x), (1, y)]) (hx : a.eval x = .int .u8 p) (hy : a.eval y = .int .u8 q) : (execOp a.eval o).run Try.prog w = .ok (.value (.slice (some ⟨w.heap.size, 0, none⟩) 2 2)) (w.alloc (.cells #[.int .u8 p, .int .u8 q] 5)) := by
 unfold execOp
 simp only [ho, List.map_toArray, List.map_cons, List.map_nil, hx, hy]
 simp [go_sem]
end
theorem sl18 (b : Nat) (W : World) : (Instr.sliceAt 22 (.pointer (some ⟨b, 0, none⟩)) none none none).run Try.prog W = .ok (.slice (some ⟨b, 0, none⟩) 18 18) W := by
 simp [go_sem]
theorem slice18 (X : World) (f : Nat → Nat) (hf : ∀ j, j < 18 → f j < 256) : SliceN (X.alloc (.cells (bytesL 18 f).toArray 22)) (.slice (some ⟨X.heap.size, 0, none⟩) 18 18) 18 f := by
 refine ⟨⟨_, _, rfl, Nat.le_refl _, by omega, fun _ => ⟨X.heap.size, 0, rfl, by simp, fun j hj => ?_⟩⟩, hf⟩
 rw [cell_of_row _ _ _ _ _ _ (heapNew X _), Nat.zero_add, List.getElem?_toArray, bytesL_at 18 f hj]
theorem two_b (X : World) (nz : Nat → Nat) {x v : Nat} (hx : x < 256) (hv : v < 256) : SliceN (X.alloc (.cells #[.int .u8 ((x : Nat) : Int), .int .u8 ((v : Nat) : Int)] 5)) (.slice (some ⟨X.heap.size, 0, none⟩) 2 2) 2 (fun j => pF nz x v (18 + j)) := by
 refine ⟨⟨_, _, rfl, Nat.le_refl _, by omega, fun _ => ⟨X.heap.size, 0, rfl, by simp, fun j hj => ?_⟩⟩, fun j hj => ?_⟩
 ·rw [cell_of_row _ _ _ _ _ _ (heapNew X _)]
  match j, hj with
  | 0, _ => rfl
  | 1, _ => rfl
  | j + 2, h => omega
 ·match j, hj with
  | 0, _ => exact hx
  | 1, _ => exact hv
  | j + 2, h => omega
theorem cn_or (p : Nat → Nat) (c w : Nat) (pv : Value) (V : World) (FP : SliceN V pv 20 p) (hc : 1 + w = c) (hE : riE 20 2 ((c : Nat) : Int) p = 0) :
  Calls Try.prog 5 #[pv, .int .i64 2, .int .i64 ((1 + w : Nat) : Int)] V fun e w' => ∃ r, e = .returned (.tuple #[r, .int .i64 ((0 : Nat) : Int)]) ∧ SliceI w' r 2 (orF 20 2 ((c : Nat) : Int) p) ∧ Below V.heap.size V w' := by
 subst hc
 exact Calls.mono (porder p 20 2 ((1 + w : Nat) : Int) pv V FP (by omega)) fun e w' ⟨r, g1, g2, g3⟩ => by
  have hf := or_fits (L := 20) (n := 2) (ch := ((1 + w : Nat) : Int)) (p := p)
  rw [hE] at g1
  rw [hE, zl_ok] at g2 hf
  exact ⟨r, g1, own_ints g2 hf, g3⟩
set_option maxRecDepth 100000 in
set_option maxHeartbeats 4000000 in
theorem counts13 (x : Nat) (nz : Nat → Nat) (V : World) (hx : x < 256) (hnz : ∀ j, j < 18 → nz j < 256) :
  Calls Try.prog 3 #[.int .u8 ((x : Nat) : Int), .agg (bytesL 18 nz).toArray] V fun e w' => e = .returned (.bool true) ∧ Below V.heap.size V w' := by
 go_enter Try.func3, Try.ntmps3
 refine wp_open (fun a => (a.tmps.size = 63 ∧ a.defers = []) ∧ a.eval (.tmp 0) = .int .u8 ((x : Nat) : Int) ∧ a.eval (.tmp 1) = .agg (bytesL 18 nz).toArray) ⟨⟨rfl, rfl⟩, rfl, rfl⟩ ?_
 rintro a ⟨A, t0, t1⟩
 have BW : Below V.heap.size V V := Below.refl _ _
 refine wp_seq ?_
 refine wp_se (σ := Nat) 63 [0] [0] (fun k_ s X => match k_ with | 0 => Below V.heap.size V X | _ => Below V.heap.size V X ∧ SliceN X (.slice (some ⟨s, 0, none⟩) 18 18) (18) (nz)) (fun s => fun i_ => match i_ with | 0 => .pointer (some ⟨s, 0, none⟩) | _ => undef) 0 A (Below.refl _ _) (And.intro ?_ trivial) ?_
 ·intro s a X e hS
  refine stepV rfl rfl (execBox18 rfl ((e (.tmp 1)).trans t1)) ⟨X.heap.size, ⟨_, rfl, rfl⟩, ⟨(hS).trans (((belNew X _)).mono (hS).size), slice18 X nz hnz⟩, (And.intro (fun h => absurd h (by decide)) trivial)⟩
 rintro gn a X0 A e (hS : Below V.heap.size V X0 ∧ SliceN X0 (.slice (some ⟨gn, 0, none⟩) 18 18) (18) (nz))
 obtain ⟨bX, FN⟩ := hS
 have t3 : a.eval (.tmp 3) = .pointer (some ⟨gn, 0, none⟩) := e _
 replace t0 := kt e t0
 have ZX0 := bX.size
 replace BW := BW.trans (bX.mono BW.size)
 clear bX
 clear e t1
 refine wp_seq (wp_seq ?_)
 refine wp_se 63 [0, 1] [] (fun _ s X => Below X0.heap.size X0 X) (fun s => fun i_ => match i_ with | 0 => .bool true | 1 => .bool false | _ => undef) () A (Below.refl _ _) (And.intro ?_ (And.intro ?_ trivial)) ?_
 ·exact fun s a X e hS => stepC rfl rfl (execCall0 Try.func4 (by kernel_rfl) (by kernel_rfl) rfl ) (alive13 X) fun e w' hh => ⟨_, hh.1, s, ⟨_, rfl, rfl⟩, (hS).trans ((hh.2).mono (hS).size), ar⟩
 ·exact fun s a X e hS => stepV rfl rfl (execNot8 rfl (e (.tmp 11))) ⟨s, ⟨_, rfl, rfl⟩, hS, ar⟩
 rintro _ a X1 A e (bX : Below X0.heap.size X0 X1)
 have t12 : a.eval (.tmp 12) = .bool false := e _
 replace t0 := kt e t0
 replace t3 := kt e t3
 replace FN := (FN.on bX)
 have ZX1 := bX.size
 replace BW := BW.trans (bX.mono BW.size)
 clear bX
 clear e
 refine wp_cond_false t12 (wp_skip ?_)
 clear t12
 refine wp_seq (wp_seq ?_)
 refine wp_se 63 [] [] (fun _ s X => Below X1.heap.size X1 X) (fun s => fun _ => undef) () A (Below.refl _ _) trivial ?_
 rintro _ a X3 A e (bX : Below X1.heap.size X1 X3)
 have t5 : a.eval (.tmp 5) = .int .i64 ((0 : Nat) : Int) := e _
 replace t0 := kt e t0
 replace t3 := kt e t3
 replace FN := (FN.on bX)
 have ZX3 := bX.size
 replace BW := BW.trans (bX.mono BW.size)
 clear bX
 clear e
 have BB : Below X3.heap.size X3 X3 := Below.refl _ _
 refine wp_block ?_
 refine wp_loop (fun a W => ∃ (w : Nat), w ≤ 2 ∧ (a.tmps.size = 63 ∧ a.defers = []) ∧ a.eval (.tmp 0) = .int .u8 ((x : Nat) : Int) ∧ a.eval (.tmp 3) = .pointer (some ⟨gn, 0, none⟩) ∧ a.eval (.tmp 5) = .int .i64 ((w : Nat) : Int) ∧ Below X3.heap.size X3 W) (fun a _ => 2 - (intOf (a.eval (.tmp 5))).toNat) ⟨0, Nat.zero_le _, A, t0, t3, t5, BB⟩ ?_
 rintro a XL4 ⟨w, hw, A, t0, t3, t5, BB⟩
 have esw := t5
 refine wp_seq (wp_seq ?_)
 refine wp_se 63 [1] [] (fun _ s X => Below X3.heap.size X3 X) (fun s => fun i_ => match i_ with | 1 => .bool (decide (w < 2)) | _ => undef) () A (BB) (And.intro ?_ trivial) ?_
 ·exact fun s a X e hS => stepV rfl rfl (execLtW (p := w) (q := 2) rfl ((e (.tmp 13)).trans t5) rfl) ⟨s, ⟨_, rfl, rfl⟩, hS, ar⟩
 rintro _ a X4 A e (BB : Below X3.heap.size X3 X4)
 have t14 : a.eval (.tmp 14) = .bool (decide (w < 2)) := e _
 replace t0 := kt e t0
 replace t3 := kt e t3
 replace t5 := kt e t5
 clear e
 by_cases ltw : w < 2
 ·rw [decide_eq_true ltw] at t14
  refine wp_cond_true t14 (wp_skip ?_)
  clear t14
  refine wp_seq (wp_block ?_)
  refine wp_seq ?_
  refine wp_se 63 [] [] (fun _ s X => Below X3.heap.size X3 X) (fun s => fun _ => undef) () A (BB) trivial ?_
  rintro _ a X6 A e (BB : Below X3.heap.size X3 X6)
  have t6 : a.eval (.tmp 6) = .int .i64 ((0 : Nat) : Int) := e _
  replace t0 := kt e t0
  replace t3 := kt e t3
  replace t5 := kt e t5
  clear e
  refine wp_seq (wp_seq ?_)
  refine wp_se 63 [] [] (fun _ s X => Below X3.heap.size X3 X) (fun s => fun _ => undef) () A (BB) trivial ?_
  rintro _ a X7 A e (BB : Below X3.heap.size X3 X7)
  have t7 : a.eval (.tmp 7) = .int .i64 ((0 : Nat) : Int) := e _
  replace t0 := kt e t0
  replace t3 := kt e t3
  replace t5 := kt e t5
  replace t6 := kt e t6
  clear e
  have e0 : (0 + w) / 2 = 0 := by omega
  replace t6 : a.eval (.tmp 6) = .int .i64 (((0 + w) / 2 : Nat) : Int) := by rw [t6, e0]
  refine wp_block ?_
  refine wp_loop (fun a W => ∃ (v : Nat), v ≤ 256 ∧ (a.tmps.size = 63 ∧ a.defers = []) ∧ a.eval (.tmp 0) = .int .u8 ((x : Nat) : Int) ∧ a.eval (.tmp 3) = .pointer (some ⟨gn, 0, none⟩) ∧ a.eval (.tmp 5) = .int .i64 ((w : Nat) : Int) ∧ a.eval (.tmp 6) = .int .i64 (((v + w) / 2 : Nat) : Int) ∧ a.eval (.tmp 7) = .int .i64 ((v : Nat) : Int) ∧ Below X3.heap.size X3 W) (fun a _ => 256 - (intOf (a.eval (.tmp 7))).toNat) ⟨0, Nat.zero_le _, A, t0, t3, t5, t6, t7, BB⟩ ?_
  rintro a XL8 ⟨v, hv, A, t0, t3, t5, t6, t7, BB⟩
  have esv := t7
  refine wp_seq (wp_seq ?_)
  refine wp_se 63 [1] [] (fun _ s X => Below X3.heap.size X3 X) (fun s => fun i_ => match i_ with | 1 => .bool (decide (v < 256)) | _ => undef) () A (BB) (And.intro ?_ trivial) ?_
  ·exact fun s a X e hS => stepV rfl rfl (execLtW (p := v) (q := 256) rfl ((e (.tmp 17)).trans t7) rfl) ⟨s, ⟨_, rfl, rfl⟩, hS, ar⟩
  rintro _ a X8 A e (BB : Below X3.heap.size X3 X8)
  have t18 : a.eval (.tmp 18) = .bool (decide (v < 256)) := e _
  replace t0 := kt e t0
  replace t3 := kt e t3
  replace t5 := kt e t5
  replace t6 := kt e t6
  replace t7 := kt e t7
  clear e
  by_cases ltv : v < 256
  ·rw [decide_eq_true ltv] at t18
   refine wp_cond_true t18 (wp_skip ?_)
   clear t18
   refine wp_seq (wp_block ?_)
   refine wp_seq ?_
   refine wp_se (σ := Nat × Value × Nat × Value) 63 [0, 1, 2, 5, 6, 7] [0, 2, 6, 7] (fun k_ s X => match k_ with | 0 => Below X3.heap.size X3 X | 1 => Below X3.heap.size X3 X ∧ (X.ownsRow X3.heap.size 5 1 (.slice (some ⟨s.1, 0, none⟩) 0 0) (0) (bytesL (0) (pF nz x v))) | 2 => Below X3.heap.size X3 X ∧ (X.ownsRow X3.heap.size 5 1 s.2.1 (18) (bytesL (18) (pF nz x v))) | 3 => Below X3.heap.size X3 X ∧ (X.ownsRow X3.heap.size 5 1 s.2.1 (18) (bytesL (18) (pF nz x v))) ∧ SliceN X (.slice (some ⟨s.2.2.1, 0, none⟩) 2 2) (2) (fun j => pF nz x v (18 + j)) | _ => Below X3.heap.size X3 X ∧ (X.ownsRow X3.heap.size 5 1 s.2.2.2 (20) (bytesL (20) (pF nz x v)))) (fun s => fun i_ => match i_ with | 0 => .slice (some ⟨s.1, 0, none⟩) 0 0 | 1 => .slice (some ⟨gn, 0, none⟩) 18 18 | 2 => s.2.1 | 5 => .int .u8 ((v : Nat) : Int) | 6 => .slice (some ⟨s.2.2.1, 0, none⟩) 2 2 | 7 => s.2.2.2 | _ => undef) (0, undef, 0, undef) A (BB) (And.intro ?_ (And.intro ?_ (And.intro ?_ (And.intro ?_ (And.intro ?_ (And.intro ?_ trivial)))))) ?_
   ·intro s a X e hS
    refine stepV rfl rfl (execBs0 rfl) ⟨(X.heap.size, s.2.1, s.2.2.1, s.2.2.2), ⟨_, rfl, rfl⟩, ⟨(hS).trans (((belNew X _)).mono (hS).size), own_base (own_none X _) (hS).size⟩, (And.intro (fun h => absurd h (by decide)) (And.intro (fun h => absurd h (by decide)) (And.intro (fun h => absurd h (by decide)) (And.intro (fun h => absurd h (by decide)) (And.intro (fun h => absurd h (by decide)) (And.intro (fun h => absurd h (by decide)) trivial))))))⟩
   ·exact fun s a X e hS => stepV rfl rfl (execSlice rfl ((e (.tmp 3)).trans t3) (sl18 gn X)) ⟨s, ⟨_, rfl, rfl⟩, hS, ar⟩
   ·intro s a X e hS
    refine stepAppN (n := 0) (m := 18) (p := pF nz x v) rfl rfl rfl (e (.tmp 21)) (e (.tmp 22)) hS.2 (sliceN_cg (FN.on hS.1) (fun j hj => (pF_lo hj).symm)) (fun l c e => by cases e) (by omega) (hS.1).size fun v' W' own' gr => ⟨(s.1, v', s.2.2.1, s.2.2.2), ⟨_, rfl, rfl⟩, ⟨(hS.1).grown gr (hS.1).size (fun k hk => (hS.2.lt k hk).1), own'⟩, (And.intro (fun _ => rfl) (And.intro (fun _ => rfl) (And.intro (fun h => absurd h (by decide)) (And.intro (fun h => absurd h (by decide)) (And.intro (fun h => absurd h (by decide)) (And.intro (fun h => absurd h (by decide)) trivial))))))⟩
   ·exact fun s a X e hS => stepV rfl rfl (execU8S (n := v) rfl ((e (.tmp 25)).trans t7) ltv) ⟨s, ⟨_, rfl, rfl⟩, hS, ar⟩
   ·intro s a X e hS
    refine stepV rfl rfl (execBs2B rfl ((e (.tmp 24)).trans t0) (e (.tmp 26))) ⟨(s.1, s.2.1, X.heap.size, s.2.2.2), ⟨_, rfl, rfl⟩, ⟨(hS.1).trans ((belNew X _).mono (hS.1).size), (ownsRow_below hS.2 (belNew X _)), two_b X nz hx ltv⟩, (And.intro (fun _ => rfl) (And.intro (fun _ => rfl) (And.intro (fun _ => rfl) (And.intro (fun _ => rfl) (And.intro (fun h => absurd h (by decide)) (And.intro (fun h => absurd h (by decide)) trivial))))))⟩
   ·intro s a X e hS
    refine stepAppN (n := 18) (m := 2) (p := pF nz x v) rfl rfl rfl (e (.tmp 23)) (e (.tmp 27)) hS.2.1 hS.2.2 (fun l c e => by cases e) (by omega) (hS.1).size fun v' W' own' gr => ⟨(s.1, s.2.1, s.2.2.1, v'), ⟨_, rfl, rfl⟩, ⟨(hS.1).grown gr (hS.1).size (fun k hk => (hS.2.1.lt k hk).1), own'⟩, (And.intro (fun _ => rfl) (And.intro (fun _ => rfl) (And.intro (fun _ => rfl) (And.intro (fun _ => rfl) (And.intro (fun _ => rfl) (And.intro (fun h => absurd h (by decide)) trivial))))))⟩
   rintro ⟨g21, v23, g27, v28⟩ a X10 A e (hS : Below X3.heap.size X3 X10 ∧ (X10.ownsRow X3.heap.size 5 1 v28 (20) (bytesL (20) (pF nz x v))))
   obtain ⟨BB, FO⟩ := hS
   have t8 : a.eval (.tmp 8) = v28 := e _
   replace t0 := kt e t0
   replace t3 := kt e t3
   replace t5 := kt e t5
   replace t6 := kt e t6
   replace t7 := kt e t7
   clear e
   obtain ⟨pg, pc, ep, hpB, _⟩ := ownL_some9 FO (by omega)
   rw [ep] at FO
   refine wp_seq (wp_seq ?_)
   by_cases hw1 : w = 1
   ·refine wp_se 63 [1] [] (fun _ s X => Below X3.heap.size X3 X ∧ (X.ownsRow X3.heap.size 5 1 (.slice (some ⟨pg, 0, none⟩) 20 pc) (20) (bytesL (20) (pF nz x v)))) (fun s => fun i_ => match i_ with | 1 => .bool true | _ => undef) () A ⟨BB, FO⟩ (And.intro ?_ trivial) ?_
    ·exact fun s a X e hS => stepV rfl rfl (execDec (execEqN (p := w) (q := 1) rfl ((e (.tmp 29)).trans t5) rfl) (decide_eq_true (by omega))) ⟨s, ⟨_, rfl, rfl⟩, hS, ar⟩
    rintro _ a X11 A e (hS : Below X3.heap.size X3 X11 ∧ (X11.ownsRow X3.heap.size 5 1 (.slice (some ⟨pg, 0, none⟩) 20 pc) (20) (bytesL (20) (pF nz x v))))
    obtain ⟨BB, FO⟩ := hS
    have t30 : a.eval (.tmp 30) = .bool true := e _
    replace t0 := kt e t0
    replace t3 := kt e t3
    replace t5 := kt e t5
    replace t6 := kt e t6
    replace t7 := kt e t7
    replace t8 := kt e t8
    clear e
    refine wp_cond_true t30 ?_
    clear t30
    refine wp_region_stB (σ := Unit) 63 [(0, 31), (1, 32), (2, 33), (3, 34), (4, 35), (5, 36), (6, 37), (7, 38), (8, 39), (10, 40)] (fun l_ s X => Below X3.heap.size X3 X ∧ (l_ 9 = false → (X.ownsRow X3.heap.size 5 1 (.slice (some ⟨pg, 0, none⟩) 20 pc) (20) (bytesL (20) (pF nz x v)))) ∧ (l_ 9 = true → l_ 11 = false → (X.ownsRow X3.heap.size 5 1 (.slice (some ⟨pg, 0, none⟩) 20 pc) (20) (bytesL (20) (fun j => if j = 18 then v else pF nz x v j)))) ∧ (l_ 11 = true → (X.ownsRow X3.heap.size 5 1 (.slice (some ⟨pg, 0, none⟩) 20 pc) (20) (bytesL (20) (pG nz x v))))) (fun s => fun i_ => match i_ with | 0 => v28 | 1 => v28 | 2 => v28 | 3 => .pointer (some ⟨pg, 0 + 19, none⟩) | 4 => .int .u8 ((v : Nat) : Int) | 5 => v28 | 6 => .pointer (some ⟨pg, 0 + 18, none⟩) | 7 => .int .u8 ((x : Nat) : Int) | 8 => .pointer (some ⟨pg, 0 + 18, none⟩) | 9 => undef | 10 => .pointer (some ⟨pg, 0 + 19, none⟩) | 11 => undef | _ => undef) () (by kernel_rfl) (by kernel_rfl) A.1 (by kernel_rfl) (by decide) (by decide) ⟨(BB.drew), (fun _ => (ownsRow_below FO (Below.refl _ _).drew)), (fun q0_ q1_ => by cases q0_), (fun q0_ => by cases q0_)⟩ ?_ ?_
    ·intro i_ hi_ l_ s a X hl_ hf hdep hl2 hcl hno hT
     have up : ∀ j x, x ≠ j → updB l_ j x = l_ x := fun j x hj => by unfold updB; simp [hj]
     match i_, hi_ with
     | 0, _ => exact stepV rfl rfl (execMvB rfl ((hf 8 (by decide)).trans t8)) ⟨s, ⟨_, rfl, rfl⟩, ⟨hT.1, (fun q0_ => (hT.2.1 (by rw [up 0 9 (by decide)] at q0_; exact q0_))), (fun q0_ q1_ => absurd (hl_.symm.trans (hcl 9 _ rfl ((up 0 9 (by decide)).symm.trans q0_) 0 rfl)) (by decide)), (fun q0_ => absurd (hl_.symm.trans (hcl 11 _ rfl ((up 0 11 (by decide)).symm.trans q0_) 0 rfl)) (by decide))⟩, fun _ _ _ => rfl⟩
     | 1, _ => exact stepV rfl rfl (execMvB rfl ((hf 8 (by decide)).trans t8)) ⟨s, ⟨_, rfl, rfl⟩, ⟨hT.1, (fun q0_ => (hT.2.1 (by rw [up 1 9 (by decide)] at q0_; exact q0_))), (fun q0_ q1_ => (hT.2.2.1 (by rw [up 1 9 (by decide)] at q0_; exact q0_) (by rw [up 1 11 (by decide)] at q1_; exact q1_))), (fun q0_ => absurd (hl_.symm.trans (hcl 11 _ rfl ((up 1 11 (by decide)).symm.trans q0_) 1 rfl)) (by decide))⟩, fun _ _ _ => rfl⟩
     | 2, _ => exact stepV rfl rfl (execMvB rfl ((hf 8 (by decide)).trans t8)) ⟨s, ⟨_, rfl, rfl⟩, ⟨hT.1, (fun q0_ => (hT.2.1 (by rw [up 2 9 (by decide)] at q0_; exact q0_))), (fun q0_ q1_ => absurd (hl_.symm.trans (hcl 9 _ rfl ((up 2 9 (by decide)).symm.trans q0_) 2 rfl)) (by decide)), (fun q0_ => absurd (hl_.symm.trans (hcl 11 _ rfl ((up 2 11 (by decide)).symm.trans q0_) 2 rfl)) (by decide))⟩, fun _ _ _ => rfl⟩
     | 3, _ => exact stepV rfl rfl (execIdxB9 (k := 19) rfl ((hdep _ rfl 2 rfl _ rfl _ rfl).trans ep) rfl (by decide)) ⟨s, ⟨_, rfl, rfl⟩, ⟨hT.1, (fun q0_ => (hT.2.1 (by rw [up 3 9 (by decide)] at q0_; exact q0_))), (fun q0_ q1_ => absurd (hl_.symm.trans (hcl 9 _ rfl ((up 3 9 (by decide)).symm.trans q0_) 3 rfl)) (by decide)), (fun q0_ => absurd (hl_.symm.trans (hcl 11 _ rfl ((up 3 11 (by decide)).symm.trans q0_) 3 rfl)) (by decide))⟩, fun _ _ _ => rfl⟩
     | 4, _ => exact stepV rfl rfl (execLdB rfl (hdep _ rfl 3 rfl _ rfl _ rfl) ((own_cell9 (hT.2.1 (by cases hq_ : l_ 9 with | false => rfl | true => exact absurd (hl_.symm.trans (hcl 9 _ rfl hq_ 4 rfl)) (by decide))) (by decide : 19 < 20)).1)) ⟨s, ⟨_, rfl, rfl⟩, ⟨hT.1, (fun q0_ => (hT.2.1 (by rw [up 4 9 (by decide)] at q0_; exact q0_))), (fun q0_ q1_ => absurd (hl_.symm.trans (hcl 9 _ rfl ((up 4 9 (by decide)).symm.trans q0_) 4 rfl)) (by decide)), (fun q0_ => absurd (hl_.symm.trans (hcl 11 _ rfl ((up 4 11 (by decide)).symm.trans q0_) 4 rfl)) (by decide))⟩, fun _ _ _ => rfl⟩
     | 5, _ => exact stepV rfl rfl (execMvB rfl ((hf 8 (by decide)).trans t8)) ⟨s, ⟨_, rfl, rfl⟩, ⟨hT.1, (fun q0_ => (hT.2.1 (by rw [up 5 9 (by decide)] at q0_; exact q0_))), (fun q0_ q1_ => absurd (hl_.symm.trans (hcl 6 _ rfl (hcl 7 _ rfl (hcl 9 _ rfl ((up 5 9 (by decide)).symm.trans q0_) 7 rfl) 6 rfl) 5 rfl)) (by decide)), (fun q0_ => absurd (hl_.symm.trans (hcl 11 _ rfl ((up 5 11 (by decide)).symm.trans q0_) 5 rfl)) (by decide))⟩, fun _ _ _ => rfl⟩
     | 6, _ => exact stepV rfl rfl (execIdxB9 (k := 18) rfl ((hdep _ rfl 5 rfl _ rfl _ rfl).trans ep) rfl (by decide)) ⟨s, ⟨_, rfl, rfl⟩, ⟨hT.1, (fun q0_ => (hT.2.1 (by rw [up 6 9 (by decide)] at q0_; exact q0_))), (fun q0_ q1_ => absurd (hl_.symm.trans (hcl 7 _ rfl (hcl 9 _ rfl ((up 6 9 (by decide)).symm.trans q0_) 7 rfl) 6 rfl)) (by decide)), (fun q0_ => absurd (hl_.symm.trans (hcl 11 _ rfl ((up 6 11 (by decide)).symm.trans q0_) 6 rfl)) (by decide))⟩, fun _ _ _ => rfl⟩
     | 7, _ => exact stepV rfl rfl (execLdB rfl (hdep _ rfl 6 rfl _ rfl _ rfl) ((own_cell9 (hT.2.1 (by cases hq_ : l_ 9 with | false => rfl | true => exact absurd (hl_.symm.trans (hcl 9 _ rfl hq_ 7 rfl)) (by decide))) (by decide : 18 < 20)).1)) ⟨s, ⟨_, rfl, rfl⟩, ⟨hT.1, (fun q0_ => (hT.2.1 (by rw [up 7 9 (by decide)] at q0_; exact q0_))), (fun q0_ q1_ => absurd (hl_.symm.trans (hcl 9 _ rfl ((up 7 9 (by decide)).symm.trans q0_) 7 rfl)) (by decide)), (fun q0_ => absurd (hl_.symm.trans (hcl 11 _ rfl ((up 7 11 (by decide)).symm.trans q0_) 7 rfl)) (by decide))⟩, fun _ _ _ => rfl⟩
     | 8, _ => exact stepV rfl rfl (execIdxB9 (k := 18) rfl ((hdep _ rfl 0 rfl _ rfl _ rfl).trans ep) rfl (by decide)) ⟨s, ⟨_, rfl, rfl⟩, ⟨hT.1, (fun q0_ => (hT.2.1 (by rw [up 8 9 (by decide)] at q0_; exact q0_))), (fun q0_ q1_ => absurd (hl_.symm.trans (hcl 9 _ rfl ((up 8 9 (by decide)).symm.trans q0_) 8 rfl)) (by decide)), (fun q0_ => absurd (hl_.symm.trans (hcl 11 _ rfl ((up 8 11 (by decide)).symm.trans q0_) 8 rfl)) (by decide))⟩, fun _ _ _ => rfl⟩
     | 9, _ =>
      obtain ⟨hc_, hf_⟩ := own_cell9 (hT.2.1 hl_) (by decide : 18 < 20)
      refine stepS rfl rfl (execStB9d rfl (hdep _ rfl 8 rfl _ rfl _ rfl) (hdep _ rfl 4 rfl _ rfl _ rfl) hc_ hf_) ⟨s, ⟨_, rfl, rfl⟩, ⟨(hT.1).setCell hpB _, (fun q0_ => absurd q0_ (by unfold updB; simp)), (fun _q0_ _q1_ => (by have h_ := own_set8 (m := 18) v (hT.2.1 hl_); exact h_)), (fun q0_ => absurd (hl_.symm.trans (hcl 11 _ rfl ((up 9 11 (by decide)).symm.trans q0_) 9 rfl)) (by decide))⟩, fun i hi hli => ?_⟩
      match i, hi with
      | 0, _ => rfl
      | 1, _ => rfl
      | 2, _ => rfl
      | 3, _ => rfl
      | 4, _ => rfl
      | 5, _ => rfl
      | 6, _ => rfl
      | 7, _ => rfl
      | 8, _ => rfl
      | 9, _ => exact absurd (hl_.symm.trans hli) (by decide)
      | 10, _ => rfl
      | 11, _ => rfl
      | k_ + 12, h_ => exact absurd h_ (by simp)
     | 10, _ => exact stepV rfl rfl (execIdxB9 (k := 19) rfl ((hdep _ rfl 1 rfl _ rfl _ rfl).trans ep) rfl (by decide)) ⟨s, ⟨_, rfl, rfl⟩, ⟨hT.1, (fun q0_ => absurd (q0_.symm.trans ((up 10 9 (by decide)).trans (hl2 _ rfl 9 rfl))) (by decide)), (fun q0_ q1_ => (hT.2.2.1 (by rw [up 10 9 (by decide)] at q0_; exact q0_) (by rw [up 10 11 (by decide)] at q1_; exact q1_))), (fun q0_ => absurd (hl_.symm.trans (hcl 11 _ rfl ((up 10 11 (by decide)).symm.trans q0_) 10 rfl)) (by decide))⟩, fun _ _ _ => rfl⟩
     | 11, _ =>
      obtain ⟨hc_, hf_⟩ := own_cell9 (hT.2.2.1 (hl2 _ rfl 9 rfl) hl_) (by decide : 19 < 20)
      refine stepS rfl rfl (execStB9d rfl (hdep _ rfl 10 rfl _ rfl _ rfl) (hdep _ rfl 7 rfl _ rfl _ rfl) hc_ hf_) ⟨s, ⟨_, rfl, rfl⟩, ⟨(hT.1).setCell hpB _, (fun q0_ => absurd (q0_.symm.trans ((up 11 9 (by decide)).trans (hl2 _ rfl 9 rfl))) (by decide)), (fun q0_ q1_ => absurd q1_ (by unfold updB; simp)), (fun _q0_ => (by have h_ := own_set8 (m := 19) x (hT.2.2.1 (hl2 _ rfl 9 rfl) hl_); rw [bytesL_congr (fun j hj => pG_is j)] at h_; exact h_))⟩, fun i hi hli => ?_⟩
      match i, hi with
      | 0, _ => rfl
      | 1, _ => rfl
      | 2, _ => rfl
      | 3, _ => rfl
      | 4, _ => rfl
      | 5, _ => rfl
      | 6, _ => rfl
      | 7, _ => rfl
      | 8, _ => rfl
      | 9, _ => rfl
      | 10, _ => rfl
      | 11, _ => exact absurd (hl_.symm.trans hli) (by decide)
      | k_ + 12, h_ => exact absurd h_ (by simp)
     | k_ + 12, h_ => exact absurd h_ (by simp)
    rintro l_ _ a X12 h1 h2 h3 h4 hall hT
    clear BB
    clear FO
    obtain ⟨BB, FO, FO1, FO2⟩ := hT
    clear FO
    clear FO1
    replace FO2 : (X12.ownsRow X3.heap.size 5 1 (.slice (some ⟨pg, 0, none⟩) 20 pc) (20) (bytesL (20) (pG nz x v))) := FO2 (hall 11 (by decide))
    clear hall
    replace t0 := (h3 0 (by decide)).trans t0
    replace t3 := (h3 3 (by decide)).trans t3
    replace t5 := (h3 5 (by decide)).trans t5
    replace t6 := (h3 6 (by decide)).trans t6
    replace t7 := (h3 7 (by decide)).trans t7
    replace t8 := (h3 8 (by decide)).trans t8
    replace A := (⟨h1, h2.trans A.2⟩ : a.tmps.size = 63 ∧ a.defers = [])
    clear h1 h2 h3 h4
    have FO := FO2
    clear FO2
    have FL : SliceN X12 v28 20 (pG nz x v) := by rw [ep]; exact own_slice FO (pG_byte hnz hx ltv)
    clear FO
    have hor := two_2 (p := pG nz x v) (pG_byte hnz hx ltv 18 (by omega))
    have hov : orF 20 2 2 (pG nz x v) 0 = if (v + w) % 2 = 1 then 0 else 1 := by rw [hor.2, hw1]; exact cn_1 v
    refine wp_seq ?_
    refine wp_se (σ := Value) 63 [2, 3] [3] (fun k_ s X => match k_ with | 0 => Below X3.heap.size X3 X ∧ SliceN X v28 (20) (pG nz x v) | _ => Below X3.heap.size X3 X ∧ (SliceI X s (2) (orF 20 2 2 (pG nz x v)))) (fun s => fun i_ => match i_ with | 2 => .int .i64 ((1 + w : Nat) : Int) | 3 => .tuple #[s, .int .i64 ((0 : Nat) : Int)] | _ => undef) undef A ⟨BB, FL⟩ (And.intro ?_ (And.intro ?_ trivial)) ?_
    ·exact fun s a X e hS => stepV rfl rfl (execAd8 (p := 1) (q := w) rfl rfl ((e (.tmp 43)).trans t5) (by omega)) ⟨s, ⟨_, rfl, rfl⟩, hS, ar⟩
    ·intro s a X e hS
     refine stepC rfl rfl (execCall3 Try.func5 (by kernel_rfl) (by kernel_rfl) rfl ((e (.tmp 42)).trans t8) rfl (e (.tmp 44))) (cn_or (pG nz x v) 2 w _ X hS.2 (by omega) hor.1) fun e w' hh => ?_
     obtain ⟨r_, he, hk, hb⟩ := hh
     refine ⟨_, he, r_, ⟨_, rfl, rfl⟩, ⟨(hS.1).trans ((hb).mono (hS.1).size), hk⟩, (And.intro (fun _ => rfl) (And.intro (fun h => absurd h (by decide)) trivial))⟩
    rintro o45 a X13 A e (hS : Below X3.heap.size X3 X13 ∧ (SliceI X13 o45 (2) (orF 20 2 2 (pG nz x v))))
    obtain ⟨BB, Fo⟩ := hS
    have t9 : a.eval (.tmp 9) = o45 := e _
    have t10 : a.eval (.tmp 10) = .int .i64 ((0 : Nat) : Int) := e _
    replace t0 := kt e t0
    replace t3 := kt e t3
    replace t5 := kt e t5
    replace t6 := kt e t6
    replace t7 := kt e t7
    clear e t8
    refine wp_seq (wp_seq ?_)
    refine wp_se 63 [1, 4, 5] [] (fun _ s X => Below X3.heap.size X3 X ∧ (SliceI X o45 (2) (orF 20 2 2 (pG nz x v)))) (fun s => fun i_ => match i_ with | 1 => .bool false | 4 => .int .i64 ((2 : Nat) : Int) | 5 => .bool false | _ => undef) () A ⟨BB, Fo⟩ (And.intro ?_ (And.intro ?_ (And.intro ?_ trivial))) ?_
    ·exact fun s a X e hS => stepV rfl rfl (execDec (execNeE (p := 0) (q := 0) rfl ((e (.tmp 48)).trans t10) rfl) (decide_eq_false (by decide))) ⟨s, ⟨_, rfl, rfl⟩, hS, ar⟩
    ·exact fun s a X e hS => stepV rfl (wy rfl rfl rfl (e (.tmp 50))) (execLenI (len := 2) rfl ((e (.tmp 51)).trans t9) (hS.2).shp) ⟨s, ⟨_, rfl, rfl⟩, hS, ar⟩
    ·exact fun s a X e hS => stepV rfl (wy rfl rfl rfl (e (.tmp 50))) (execDec (execNeN (p := 2) (q := 2) rfl (e (.tmp 52)) rfl) (decide_eq_false (by decide))) ⟨s, ⟨_, rfl, rfl⟩, hS, ar⟩
    rintro _ a X14 A e (hS : Below X3.heap.size X3 X14 ∧ (SliceI X14 o45 (2) (orF 20 2 2 (pG nz x v))))
    obtain ⟨BB, Fo⟩ := hS
    have t54 : a.eval (.tmp 54) = .bool false := e _
    replace t0 := kt e t0
    replace t3 := kt e t3
    replace t5 := kt e t5
    replace t6 := kt e t6
    replace t7 := kt e t7
    replace t9 := kt e t9
    clear e t10
    refine wp_cond_false t54 (wp_skip ?_)
    clear t54
    obtain ⟨ob, oo, oc, eo, hob, hoc⟩ := open_sl Fo (by omega)
    have hoc0 := hoc 0 (by omega)
    refine wp_seq ?_
    by_cases hpar : (v + w) % 2 = 1
    ·have hcx : ∀ X, SliceI X o45 2 (orF 20 2 2 (pG nz x v)) → X.cell? ⟨ob, oo + 0, none⟩ = some (.int .i64 ((0 : Nat) : Int)) := fun X hX => by
      obtain ⟨b2, o2, c2, e2, _, h2⟩ := open_sl hX (by omega)
      rw [eo] at e2
      injection e2 with e3 _ _
      injection e3 with e3
      injection e3 with e4 e5 _
      rw [e4, e5, h2 0 (by omega), hov, if_pos hpar]
      rfl
     refine wp_se 63 [1, 2, 3] [] (fun _ s X => Below X3.heap.size X3 X ∧ (SliceI X o45 (2) (orF 20 2 2 (pG nz x v)))) (fun s => fun i_ => match i_ with | 1 => .pointer (some ⟨ob, oo + 0, none⟩) | 2 => .int .i64 ((0 : Nat) : Int) | 3 => .bool true | _ => undef) () A ⟨BB, Fo⟩ (And.intro ?_ (And.intro ?_ (And.intro ?_ trivial))) ?_
     ·exact fun s a X e hS => stepV rfl rfl (execIdxN (k := 0) rfl (((e (.tmp 55)).trans t9).trans eo) rfl (by decide)) ⟨s, ⟨_, rfl, rfl⟩, hS, ar⟩
     ·exact fun s a X e hS => stepV rfl rfl (execLd3 rfl (e (.tmp 56)) (hcx X (by have h_ := hS.2; exact h_))) ⟨s, ⟨_, rfl, rfl⟩, hS, ar⟩
     ·exact fun s a X e hS => stepV rfl rfl (execDec (execEqN (p := 0) (q := 0) rfl (e (.tmp 57)) rfl) (decide_eq_true (by decide))) ⟨s, ⟨_, rfl, rfl⟩, hS, ar⟩
     rintro _ a X16 A e (hS : Below X3.heap.size X3 X16 ∧ (SliceI X16 o45 (2) (orF 20 2 2 (pG nz x v))))
     obtain ⟨BB, Fo⟩ := hS
     have t58 : a.eval (.tmp 58) = .bool true := e _
     replace t0 := kt e t0
     replace t3 := kt e t3
     replace t5 := kt e t5
     replace t6 := kt e t6
     replace t7 := kt e t7
     clear e t9
     refine wp_cond_true t58 ?_
     clear t58
     refine wp_se 63 [1] [] (fun _ s X => Below X3.heap.size X3 X ∧ (SliceI X o45 (2) (orF 20 2 2 (pG nz x v)))) (fun s => fun i_ => match i_ with | 1 => .int .i64 (((v + w) / 2 + 1 : Nat) : Int) | _ => undef) () A ⟨BB, Fo⟩ (And.intro ?_ trivial) ?_
     ·exact fun s a X e hS => stepV rfl rfl (execAd8 (p := (v + w) / 2) (q := 1) rfl ((e (.tmp 59)).trans t6) rfl (by omega)) ⟨s, ⟨_, rfl, rfl⟩, hS, ar⟩
     rintro _ a X17 A e (hS : Below X3.heap.size X3 X17 ∧ (SliceI X17 o45 (2) (orF 20 2 2 (pG nz x v))))
     obtain ⟨BB, Fo⟩ := hS
     replace t6 : a.eval (.tmp 6) = .int .i64 (((v + w) / 2 + 1 : Nat) : Int) := e _
     replace t0 := kt e t0
     replace t3 := kt e t3
     replace t5 := kt e t5
     replace t7 := kt e t7
     clear e
     clear Fo
     have e6 : (v + w) / 2 + 1 = (v + 1 + w) / 2 := by omega
     rw [e6] at t6
     refine wp_se 63 [1] [] (fun _ s X => Below X3.heap.size X3 X) (fun s => fun i_ => match i_ with | 1 => .int .i64 ((v + 1 : Nat) : Int) | _ => undef) () A (BB) (And.intro ?_ trivial) ?_
     ·exact fun s a X e hS => stepV rfl rfl (execAd8 (p := v) (q := 1) rfl ((e (.tmp 19)).trans t7) rfl (by omega)) ⟨s, ⟨_, rfl, rfl⟩, hS, ar⟩
     rintro _ a X9 A e (BB : Below X3.heap.size X3 X9)
     replace t7 : a.eval (.tmp 7) = .int .i64 ((v + 1 : Nat) : Int) := e _
     replace t0 := kt e t0
     replace t3 := kt e t3
     replace t5 := kt e t5
     replace t6 := kt e t6
     clear e
     exact ⟨⟨v + 1, ltv, A, t0, t3, t5, t6, t7, BB⟩, by show 256 - (intOf (a.eval (.tmp 7))).toNat < 256 - (intOf (Act.eval _ (.tmp 7))).toNat; rw [t7, esv]; show 256 - (v + 1) < 256 - v; omega⟩
    ·have hcx : ∀ X, SliceI X o45 2 (orF 20 2 2 (pG nz x v)) → X.cell? ⟨ob, oo + 0, none⟩ = some (.int .i64 ((1 : Nat) : Int)) := fun X hX => by
      obtain ⟨b2, o2, c2, e2, _, h2⟩ := open_sl hX (by omega)
      rw [eo] at e2
      injection e2 with e3 _ _
      injection e3 with e3
      injection e3 with e4 e5 _
      rw [e4, e5, h2 0 (by omega), hov, if_neg hpar]
      rfl
     refine wp_se 63 [1, 2, 3] [] (fun _ s X => Below X3.heap.size X3 X ∧ (SliceI X o45 (2) (orF 20 2 2 (pG nz x v)))) (fun s => fun i_ => match i_ with | 1 => .pointer (some ⟨ob, oo + 0, none⟩) | 2 => .int .i64 ((1 : Nat) : Int) | 3 => .bool false | _ => undef) () A ⟨BB, Fo⟩ (And.intro ?_ (And.intro ?_ (And.intro ?_ trivial))) ?_
     ·exact fun s a X e hS => stepV rfl rfl (execIdxN (k := 0) rfl (((e (.tmp 55)).trans t9).trans eo) rfl (by decide)) ⟨s, ⟨_, rfl, rfl⟩, hS, ar⟩
     ·exact fun s a X e hS => stepV rfl rfl (execLd3 rfl (e (.tmp 56)) (hcx X (by have h_ := hS.2; exact h_))) ⟨s, ⟨_, rfl, rfl⟩, hS, ar⟩
     ·exact fun s a X e hS => stepV rfl rfl (execDec (execEqN (p := 1) (q := 0) rfl (e (.tmp 57)) rfl) (decide_eq_false (by decide))) ⟨s, ⟨_, rfl, rfl⟩, hS, ar⟩
     rintro _ a X16 A e (hS : Below X3.heap.size X3 X16 ∧ (SliceI X16 o45 (2) (orF 20 2 2 (pG nz x v))))
     obtain ⟨BB, Fo⟩ := hS
     have t58 : a.eval (.tmp 58) = .bool false := e _
     replace t0 := kt e t0
     replace t3 := kt e t3
     replace t5 := kt e t5
     replace t6 := kt e t6
     replace t7 := kt e t7
     clear e t9
     refine wp_cond_false t58 (wp_skip ?_)
     clear t58
     clear Fo
     have e6 : (v + w) / 2 = (v + 1 + w) / 2 := by omega
     rw [e6] at t6
     refine wp_se 63 [1] [] (fun _ s X => Below X3.heap.size X3 X) (fun s => fun i_ => match i_ with | 1 => .int .i64 ((v + 1 : Nat) : Int) | _ => undef) () A (BB) (And.intro ?_ trivial) ?_
     ·exact fun s a X e hS => stepV rfl rfl (execAd8 (p := v) (q := 1) rfl ((e (.tmp 19)).trans t7) rfl (by omega)) ⟨s, ⟨_, rfl, rfl⟩, hS, ar⟩
     rintro _ a X9 A e (BB : Below X3.heap.size X3 X9)
     replace t7 : a.eval (.tmp 7) = .int .i64 ((v + 1 : Nat) : Int) := e _
     replace t0 := kt e t0
     replace t3 := kt e t3
     replace t5 := kt e t5
     replace t6 := kt e t6
     clear e
     exact ⟨⟨v + 1, ltv, A, t0, t3, t5, t6, t7, BB⟩, by show 256 - (intOf (a.eval (.tmp 7))).toNat < 256 - (intOf (Act.eval _ (.tmp 7))).toNat; rw [t7, esv]; show 256 - (v + 1) < 256 - v; omega⟩
   ·replace hw1 : w = 0 := by omega
    refine wp_se 63 [1] [] (fun _ s X => Below X3.heap.size X3 X ∧ (X.ownsRow X3.heap.size 5 1 (.slice (some ⟨pg, 0, none⟩) 20 pc) (20) (bytesL (20) (pF nz x v)))) (fun s => fun i_ => match i_ with | 1 => .bool false | _ => undef) () A ⟨BB, FO⟩ (And.intro ?_ trivial) ?_
    ·exact fun s a X e hS => stepV rfl rfl (execDec (execEqN (p := w) (q := 1) rfl ((e (.tmp 29)).trans t5) rfl) (decide_eq_false (by omega))) ⟨s, ⟨_, rfl, rfl⟩, hS, ar⟩
    rintro _ a X11 A e (hS : Below X3.heap.size X3 X11 ∧ (X11.ownsRow X3.heap.size 5 1 (.slice (some ⟨pg, 0, none⟩) 20 pc) (20) (bytesL (20) (pF nz x v))))
    obtain ⟨BB, FO⟩ := hS
    have t30 : a.eval (.tmp 30) = .bool false := e _
    replace t0 := kt e t0
    replace t3 := kt e t3
    replace t5 := kt e t5
    replace t6 := kt e t6
    replace t7 := kt e t7
    replace t8 := kt e t8
    clear e
    refine wp_cond_false t30 (wp_skip ?_)
    clear t30
    have FL : SliceN X11 v28 20 (pF nz x v) := by rw [ep]; exact own_slice FO (pF_byte hnz hx ltv)
    clear FO
    have hor := two_1 (p := pF nz x v) (pF_byte hnz hx ltv 18 (by omega)) (pF_byte hnz hx ltv 19 (by omega))
    have hov : orF 20 2 1 (pF nz x v) 0 = if (v + w) % 2 = 1 then 0 else 1 := by rw [hor.2, hw1]; rfl
    refine wp_seq ?_
    refine wp_se (σ := Value) 63 [2, 3] [3] (fun k_ s X => match k_ with | 0 => Below X3.heap.size X3 X ∧ SliceN X v28 (20) (pF nz x v) | _ => Below X3.heap.size X3 X ∧ (SliceI X s (2) (orF 20 2 1 (pF nz x v)))) (fun s => fun i_ => match i_ with | 2 => .int .i64 ((1 + w : Nat) : Int) | 3 => .tuple #[s, .int .i64 ((0 : Nat) : Int)] | _ => undef) undef A ⟨BB, FL⟩ (And.intro ?_ (And.intro ?_ trivial)) ?_
    ·exact fun s a X e hS => stepV rfl rfl (execAd8 (p := 1) (q := w) rfl rfl ((e (.tmp 43)).trans t5) (by omega)) ⟨s, ⟨_, rfl, rfl⟩, hS, ar⟩
    ·intro s a X e hS
     refine stepC rfl rfl (execCall3 Try.func5 (by kernel_rfl) (by kernel_rfl) rfl ((e (.tmp 42)).trans t8) rfl (e (.tmp 44))) (cn_or (pF nz x v) 1 w _ X hS.2 (by omega) hor.1) fun e w' hh => ?_
     obtain ⟨r_, he, hk, hb⟩ := hh
     refine ⟨_, he, r_, ⟨_, rfl, rfl⟩, ⟨(hS.1).trans ((hb).mono (hS.1).size), hk⟩, (And.intro (fun _ => rfl) (And.intro (fun h => absurd h (by decide)) trivial))⟩
    rintro o45 a X13 A e (hS : Below X3.heap.size X3 X13 ∧ (SliceI X13 o45 (2) (orF 20 2 1 (pF nz x v))))
    obtain ⟨BB, Fo⟩ := hS
    have t9 : a.eval (.tmp 9) = o45 := e _
    have t10 : a.eval (.tmp 10) = .int .i64 ((0 : Nat) : Int) := e _
    replace t0 := kt e t0
    replace t3 := kt e t3
    replace t5 := kt e t5
    replace t6 := kt e t6
    replace t7 := kt e t7
    clear e t8
    refine wp_seq (wp_seq ?_)
    refine wp_se 63 [1, 4, 5] [] (fun _ s X => Below X3.heap.size X3 X ∧ (SliceI X o45 (2) (orF 20 2 1 (pF nz x v)))) (fun s => fun i_ => match i_ with | 1 => .bool false | 4 => .int .i64 ((2 : Nat) : Int) | 5 => .bool false | _ => undef) () A ⟨BB, Fo⟩ (And.intro ?_ (And.intro ?_ (And.intro ?_ trivial))) ?_
    ·exact fun s a X e hS => stepV rfl rfl (execDec (execNeE (p := 0) (q := 0) rfl ((e (.tmp 48)).trans t10) rfl) (decide_eq_false (by decide))) ⟨s, ⟨_, rfl, rfl⟩, hS, ar⟩
    ·exact fun s a X e hS => stepV rfl (wy rfl rfl rfl (e (.tmp 50))) (execLenI (len := 2) rfl ((e (.tmp 51)).trans t9) (hS.2).shp) ⟨s, ⟨_, rfl, rfl⟩, hS, ar⟩
    ·exact fun s a X e hS => stepV rfl (wy rfl rfl rfl (e (.tmp 50))) (execDec (execNeN (p := 2) (q := 2) rfl (e (.tmp 52)) rfl) (decide_eq_false (by decide))) ⟨s, ⟨_, rfl, rfl⟩, hS, ar⟩
    rintro _ a X14 A e (hS : Below X3.heap.size X3 X14 ∧ (SliceI X14 o45 (2) (orF 20 2 1 (pF nz x v))))
    obtain ⟨BB, Fo⟩ := hS
    have t54 : a.eval (.tmp 54) = .bool false := e _
    replace t0 := kt e t0
    replace t3 := kt e t3
    replace t5 := kt e t5
    replace t6 := kt e t6
    replace t7 := kt e t7
    replace t9 := kt e t9
    clear e t10
    refine wp_cond_false t54 (wp_skip ?_)
    clear t54
    obtain ⟨ob, oo, oc, eo, hob, hoc⟩ := open_sl Fo (by omega)
    have hoc0 := hoc 0 (by omega)
    refine wp_seq ?_
    by_cases hpar : (v + w) % 2 = 1
    ·have hcx : ∀ X, SliceI X o45 2 (orF 20 2 1 (pF nz x v)) → X.cell? ⟨ob, oo + 0, none⟩ = some (.int .i64 ((0 : Nat) : Int)) := fun X hX => by
      obtain ⟨b2, o2, c2, e2, _, h2⟩ := open_sl hX (by omega)
      rw [eo] at e2
      injection e2 with e3 _ _
      injection e3 with e3
      injection e3 with e4 e5 _
      rw [e4, e5, h2 0 (by omega), hov, if_pos hpar]
      rfl
     refine wp_se 63 [1, 2, 3] [] (fun _ s X => Below X3.heap.size X3 X ∧ (SliceI X o45 (2) (orF 20 2 1 (pF nz x v)))) (fun s => fun i_ => match i_ with | 1 => .pointer (some ⟨ob, oo + 0, none⟩) | 2 => .int .i64 ((0 : Nat) : Int) | 3 => .bool true | _ => undef) () A ⟨BB, Fo⟩ (And.intro ?_ (And.intro ?_ (And.intro ?_ trivial))) ?_
     ·exact fun s a X e hS => stepV rfl rfl (execIdxN (k := 0) rfl (((e (.tmp 55)).trans t9).trans eo) rfl (by decide)) ⟨s, ⟨_, rfl, rfl⟩, hS, ar⟩
     ·exact fun s a X e hS => stepV rfl rfl (execLd3 rfl (e (.tmp 56)) (hcx X (by have h_ := hS.2; exact h_))) ⟨s, ⟨_, rfl, rfl⟩, hS, ar⟩
     ·exact fun s a X e hS => stepV rfl rfl (execDec (execEqN (p := 0) (q := 0) rfl (e (.tmp 57)) rfl) (decide_eq_true (by decide))) ⟨s, ⟨_, rfl, rfl⟩, hS, ar⟩
     rintro _ a X16 A e (hS : Below X3.heap.size X3 X16 ∧ (SliceI X16 o45 (2) (orF 20 2 1 (pF nz x v))))
     obtain ⟨BB, Fo⟩ := hS
     have t58 : a.eval (.tmp 58) = .bool true := e _
     replace t0 := kt e t0
     replace t3 := kt e t3
     replace t5 := kt e t5
     replace t6 := kt e t6
     replace t7 := kt e t7
     clear e t9
     refine wp_cond_true t58 ?_
     clear t58
     refine wp_se 63 [1] [] (fun _ s X => Below X3.heap.size X3 X ∧ (SliceI X o45 (2) (orF 20 2 1 (pF nz x v)))) (fun s => fun i_ => match i_ with | 1 => .int .i64 (((v + w) / 2 + 1 : Nat) : Int) | _ => undef) () A ⟨BB, Fo⟩ (And.intro ?_ trivial) ?_
     ·exact fun s a X e hS => stepV rfl rfl (execAd8 (p := (v + w) / 2) (q := 1) rfl ((e (.tmp 59)).trans t6) rfl (by omega)) ⟨s, ⟨_, rfl, rfl⟩, hS, ar⟩
     rintro _ a X17 A e (hS : Below X3.heap.size X3 X17 ∧ (SliceI X17 o45 (2) (orF 20 2 1 (pF nz x v))))
     obtain ⟨BB, Fo⟩ := hS
     replace t6 : a.eval (.tmp 6) = .int .i64 (((v + w) / 2 + 1 : Nat) : Int) := e _
     replace t0 := kt e t0
     replace t3 := kt e t3
     replace t5 := kt e t5
     replace t7 := kt e t7
     clear e
     clear Fo
     have e6 : (v + w) / 2 + 1 = (v + 1 + w) / 2 := by omega
     rw [e6] at t6
     refine wp_se 63 [1] [] (fun _ s X => Below X3.heap.size X3 X) (fun s => fun i_ => match i_ with | 1 => .int .i64 ((v + 1 : Nat) : Int) | _ => undef) () A (BB) (And.intro ?_ trivial) ?_
     ·exact fun s a X e hS => stepV rfl rfl (execAd8 (p := v) (q := 1) rfl ((e (.tmp 19)).trans t7) rfl (by omega)) ⟨s, ⟨_, rfl, rfl⟩, hS, ar⟩
     rintro _ a X9 A e (BB : Below X3.heap.size X3 X9)
     replace t7 : a.eval (.tmp 7) = .int .i64 ((v + 1 : Nat) : Int) := e _
     replace t0 := kt e t0
     replace t3 := kt e t3
     replace t5 := kt e t5
     replace t6 := kt e t6
     clear e
     exact ⟨⟨v + 1, ltv, A, t0, t3, t5, t6, t7, BB⟩, by show 256 - (intOf (a.eval (.tmp 7))).toNat < 256 - (intOf (Act.eval _ (.tmp 7))).toNat; rw [t7, esv]; show 256 - (v + 1) < 256 - v; omega⟩
    ·have hcx : ∀ X, SliceI X o45 2 (orF 20 2 1 (pF nz x v)) → X.cell? ⟨ob, oo + 0, none⟩ = some (.int .i64 ((1 : Nat) : Int)) := fun X hX => by
      obtain ⟨b2, o2, c2, e2, _, h2⟩ := open_sl hX (by omega)
      rw [eo] at e2
      injection e2 with e3 _ _
      injection e3 with e3
      injection e3 with e4 e5 _
      rw [e4, e5, h2 0 (by omega), hov, if_neg hpar]
      rfl
     refine wp_se 63 [1, 2, 3] [] (fun _ s X => Below X3.heap.size X3 X ∧ (SliceI X o45 (2) (orF 20 2 1 (pF nz x v)))) (fun s => fun i_ => match i_ with | 1 => .pointer (some ⟨ob, oo + 0, none⟩) | 2 => .int .i64 ((1 : Nat) : Int) | 3 => .bool false | _ => undef) () A ⟨BB, Fo⟩ (And.intro ?_ (And.intro ?_ (And.intro ?_ trivial))) ?_
     ·exact fun s a X e hS => stepV rfl rfl (execIdxN (k := 0) rfl (((e (.tmp 55)).trans t9).trans eo) rfl (by decide)) ⟨s, ⟨_, rfl, rfl⟩, hS, ar⟩
     ·exact fun s a X e hS => stepV rfl rfl (execLd3 rfl (e (.tmp 56)) (hcx X (by have h_ := hS.2; exact h_))) ⟨s, ⟨_, rfl, rfl⟩, hS, ar⟩
     ·exact fun s a X e hS => stepV rfl rfl (execDec (execEqN (p := 1) (q := 0) rfl (e (.tmp 57)) rfl) (decide_eq_false (by decide))) ⟨s, ⟨_, rfl, rfl⟩, hS, ar⟩
     rintro _ a X16 A e (hS : Below X3.heap.size X3 X16 ∧ (SliceI X16 o45 (2) (orF 20 2 1 (pF nz x v))))
     obtain ⟨BB, Fo⟩ := hS
     have t58 : a.eval (.tmp 58) = .bool false := e _
     replace t0 := kt e t0
     replace t3 := kt e t3
     replace t5 := kt e t5
     replace t6 := kt e t6
     replace t7 := kt e t7
     clear e t9
     refine wp_cond_false t58 (wp_skip ?_)
     clear t58
     clear Fo
     have e6 : (v + w) / 2 = (v + 1 + w) / 2 := by omega
     rw [e6] at t6
     refine wp_se 63 [1] [] (fun _ s X => Below X3.heap.size X3 X) (fun s => fun i_ => match i_ with | 1 => .int .i64 ((v + 1 : Nat) : Int) | _ => undef) () A (BB) (And.intro ?_ trivial) ?_
     ·exact fun s a X e hS => stepV rfl rfl (execAd8 (p := v) (q := 1) rfl ((e (.tmp 19)).trans t7) rfl (by omega)) ⟨s, ⟨_, rfl, rfl⟩, hS, ar⟩
     rintro _ a X9 A e (BB : Below X3.heap.size X3 X9)
     replace t7 : a.eval (.tmp 7) = .int .i64 ((v + 1 : Nat) : Int) := e _
     replace t0 := kt e t0
     replace t3 := kt e t3
     replace t5 := kt e t5
     replace t6 := kt e t6
     clear e
     exact ⟨⟨v + 1, ltv, A, t0, t3, t5, t6, t7, BB⟩, by show 256 - (intOf (a.eval (.tmp 7))).toNat < 256 - (intOf (Act.eval _ (.tmp 7))).toNat; rw [t7, esv]; show 256 - (v + 1) < 256 - v; omega⟩
  ·rw [decide_eq_false ltv] at t18
   refine wp_cond_false t18 ?_
   refine wp_exit ?_
   first | with_reducible refine exit_in ?_ | with_reducible refine exit_then (exit_in ?_) | with_reducible refine exit_then (exit_then (exit_in ?_)) | refine exit_in ?_ | refine exit_then (exit_in ?_) | refine exit_then (exit_then (exit_in ?_))
   clear t18 esv
   have hv256 : v = 256 := by omega
   have e7 : (v + w) / 2 = 128 := by omega
   rw [e7] at t6
   clear t7
   refine wp_seq ?_
   refine wp_se 63 [1] [] (fun _ s X => Below X3.heap.size X3 X) (fun s => fun i_ => match i_ with | 1 => .bool false | _ => undef) () A (BB) (And.intro ?_ trivial) ?_
   ·exact fun s a X e hS => stepV rfl rfl (execDec (execNeN (p := 128) (q := 128) rfl ((e (.tmp 61)).trans t6) rfl) (decide_eq_false (by decide))) ⟨s, ⟨_, rfl, rfl⟩, hS, ar⟩
   rintro _ a X18 A e (BB : Below X3.heap.size X3 X18)
   have t62 : a.eval (.tmp 62) = .bool false := e _
   replace t0 := kt e t0
   replace t3 := kt e t3
   replace t5 := kt e t5
   clear e t6
   refine wp_cond_false t62 (wp_skip ?_)
   clear t62
   refine wp_se 63 [1] [] (fun _ s X => Below X3.heap.size X3 X) (fun s => fun i_ => match i_ with | 1 => .int .i64 ((w + 1 : Nat) : Int) | _ => undef) () A (BB) (And.intro ?_ trivial) ?_
   ·exact fun s a X e hS => stepV rfl rfl (execAd8 (p := w) (q := 1) rfl ((e (.tmp 15)).trans t5) rfl (by omega)) ⟨s, ⟨_, rfl, rfl⟩, hS, ar⟩
   rintro _ a X5 A e (BB : Below X3.heap.size X3 X5)
   replace t5 : a.eval (.tmp 5) = .int .i64 ((w + 1 : Nat) : Int) := e _
   replace t0 := kt e t0
   replace t3 := kt e t3
   clear e
   exact ⟨⟨w + 1, ltw, A, t0, t3, t5, BB⟩, by show 2 - (intOf (a.eval (.tmp 5))).toNat < 2 - (intOf (Act.eval _ (.tmp 5))).toNat; rw [t5, esw]; show 2 - (w + 1) < 2 - w; omega⟩
 ·rw [decide_eq_false ltw] at t14
  refine wp_cond_false t14 ?_
  refine wp_exit ?_
  first | with_reducible refine exit_in ?_ | with_reducible refine exit_then (exit_in ?_) | with_reducible refine exit_then (exit_then (exit_in ?_)) | refine exit_in ?_ | refine exit_then (exit_in ?_) | refine exit_then (exit_then (exit_in ?_))
  clear t14 esw
  clear t0 t3 t5
  replace FN := (FN.on BB)
  replace BW := BW.trans (BB.mono BW.size)
  clear BB
  refine wp_seq ?_
  refine wp_se 63 [] [] (fun _ s X => Below X4.heap.size X4 X) (fun s => fun _ => undef) () A (Below.refl _ _) trivial ?_
  rintro _ a X20 A e (bX : Below X4.heap.size X4 X20)
  have t4 : a.eval (.tmp 4) = .bool true := e _
  replace FN := (FN.on bX)
  have ZX20 := bX.size
  replace BW := BW.trans (bX.mono BW.size)
  clear bX
  clear e
  refine wp_ret ?_
  repeat (first | with_reducible refine ret_in ?_ | with_reducible refine ret_then ?_)
  refine bodyPost_ret (results_tmp rfl _ _ _) A.2 ⟨?_, BW⟩
  show Ending.returned (a.eval (.tmp 4)) = _
  rw [t4]
end Go.Proofs.Ytgmomkkhlcigbaa.Rif
