import Derived.Test.YtmjpneaccjlpkaaX9e
import Derived.Test.YtmjpneaccjlpkaaX7b
namespace Go.Proofs.Ytmjpneaccjlpkaa.Rif
open Go.RowKit Gf8 Aes By8 Cel Cf Tap Drw Prm Brd
/- slices.Grow of nothing, slices.Concat of bytes. Written by tools/mkX9f.py. -/
structure LLX (W : World) (v : Value) (J : Nat) (x : Nat → Value) (ln : Nat → Nat) (gg : Nat → Nat → Nat) : Prop where
 shape : ∃ a cap, v = .slice a J cap ∧ (0 < J → ∃ b off, a = some ⟨b, off, none⟩ ∧ b < W.heap.size ∧ ∀ j, j < J → W.cell? ⟨b, off + j, none⟩ = some (x j))
 lists : ∀ j, j < J → SliceN W (x j) (ln j) (gg j)
 nils : ∀ j, j < J → ∀ l c, x j = .slice none l c → c = 0
theorem LLX.at {W : World} {v : Value} {J : Nat} {x : Nat → Value} {ln : Nat → Nat} {gg : Nat → Nat → Nat} (h : LLX W v J x ln gg) (hJ : 0 < J) : ∃ b o c, v = .slice (some ⟨b, o, none⟩) J c ∧ b < W.heap.size ∧ ∀ j, j < J → W.cell? ⟨b, o + j, none⟩ = some (x j) := by
 obtain ⟨a, c, rfl, hs⟩ := h.shape
 obtain ⟨b, o, rfl, h1, h2⟩ := hs hJ
 exact ⟨b, o, c, rfl, h1, h2⟩
section
variable {o : Oper} {a : Act} {w : World}
theorem execCap0 {x : Operand} {n c : Nat} {ad : Option Addr} (ho : o.op = .call { callee := .builtin .cap, args := #[x], argTypes := #[23] }) (hx : a.eval x = .slice ad n c) : (execOp a.eval o).run Try.prog w = .ok (.value (.int .i64 (c : Int))) w := by
 unfold execOp
 simp only [ho, resolve, invoke, builtin, Sem.run_bind, Sem.run_pure, Result.andThen_ok, List.map_toArray, List.map_cons, List.map_nil, hx]
 simp [go_sem]
end
theorem runMk_nil (w : World) (ty : TypeId) (m : Nat) (h0 : 0 < m) (hm : m ≤ 140737488351232) :
  (Builtin.append_ #[23, 3] ty #[.slice none 0 0, .int .i64 (m : Int)]).run Try.prog w =
   .ok (.slice (some ⟨w.heap.size, 0, none⟩) m (grownCap w m 0 5)) (w.drew.alloc (.cells (Builtin.zeroCells (Value.int .u8 0).cells m ++ Builtin.zeroCells (Value.int .u8 0).cells (grownCap w m 0 5 - m)) 5)) := by
 obtain ⟨i, i1, i2, i3, i4⟩ := info5
 have hu : Try.prog.underlying 3 = some (.int .i64) := by kernel_rfl
 have e1 : IntKind.i64.wrap (m : Int) = m := wrap_i64_nat (by omega)
 have e2 : ¬ ((m : Int) < 0) := by omega
 have e3 : ¬ (281474976710656 < (m : Int)) := by omega
 have e4 : m ≠ 0 := by omega
 have e6 : max (m : Int) 0 = m := by omega
 have h63' : ¬ (9223372036854775807 < (m : Int)) := by omega
 have h48' : ¬ (281474976710656 < Builtin.nextslicecap m 0) := by rw [nextslicecap_zero h0]; omega
 simp [Builtin.append_, run_underlying Try.underlying23, run_underlying hu, sizeOf, typeInfo, zeroValue, i1, i2, i3, i4, asInt, asIntOf, e1, e2, e3, e4, e6, h63', h48', Question.forced, run_firstCells_none, newRow, grownCap]
theorem stepMkN0 {ops : Array Oper} {Q : Exit → Act → World → Prop} {K : Act → World → Prop} {j : Nat} {o : Oper} {a : Act} {W : World} {s x : Operand} {B m : Nat} {F : Nat → Nat} (hos : ops[j]? = some o) (hgd : Region.wanted o (yielded ops a.tmps) = true)
  (ho : o.op = .call { callee := .builtin .append, args := #[s, x], argTypes := #[23, 3] }) (hs : a.eval s = .slice none 0 0) (hx : a.eval x = .int .i64 (m : Int)) (h0 : 0 < m) (hm : m ≤ 140737488351232) (hB : B ≤ W.heap.size)
  (hK : ∀ c' W', W'.ownsRow B 5 1 (.slice (some ⟨W.heap.size, 0, none⟩) 0 c') 0 (bytesL 0 F) → Below W.heap.size W W' → K (a.put o.dst (.slice (some ⟨W.heap.size, 0, none⟩) m c')) W') : wpOp Try.prog ops Q j K a W := by
 have hr := runMk_nil W o.type m h0 hm
 have hge := grownCap_ge W m 0 5
 have hle := grownCap_le_maxLen W m 0 5 (by unfold maxLen; omega)
 refine stepV hos hgd (v := .slice (some ⟨W.heap.size, 0, none⟩) m (grownCap W m 0 5)) (w' := W.drew.alloc (.cells (Builtin.zeroCells (Value.int .u8 0).cells m ++ Builtin.zeroCells (Value.int .u8 0).cells (grownCap W m 0 5 - m)) 5)) ?_ (hK (grownCap W m 0 5) _ ⟨rfl, Or.inr ⟨W.heap.size, _, _, rfl, hB, heapNew W.drew _, Nat.zero_le _, hle, ?_, rfl⟩⟩ (((Below.refl _ _).drew).alloc (Nat.le_refl _) _))
 ·unfold execOp
  simp only [ho, resolve, invoke, builtin, Sem.run_bind, Sem.run_pure, Result.andThen_ok, List.map_toArray, List.map_cons, List.map_nil, hs, hx, hr]
 ·rw [Array.size_append, size_zeroCells, size_zeroCells]
  simp [Value.cells]
  omega
set_option maxRecDepth 100000 in
set_option maxHeartbeats 4000000 in
theorem pgrow (F : Nat → Nat) (n : Nat) (V : World) (h0 : 0 < n) (hnx : n ≤ 140737488351232) :
  Calls Try.prog 64 #[.slice none 0 0, .int .i64 ((n : Nat) : Int)] V fun e w' => ∃ r, e = .returned r ∧ w'.ownsRow V.heap.size 5 1 r 0 (bytesL 0 F) ∧ Below V.heap.size V w' := by
 go_enter Try.func64, Try.ntmps64
 refine wp_seq ?_
 refine wp_region_sqK 27 [(0, 4)] (fun i_ => match i_ with | 0 => .slice none 0 0 | _ => undef) rfl (by kernel_rfl) (by decide) (by decide) ?_ ?_
 ·intro i_ hi_ a hf hv hn
  match i_, hi_ with
  | 0, _ => exact stepV rfl rfl (execAsgB rfl rfl) ⟨⟨_, rfl, rfl⟩, rfl⟩
  | k_ + 1, h_ => exact absurd h_ (by simp)
 intro a h1 h2 h3 h4
 have t0 : a.eval (.tmp 0) = .slice none 0 0 := (h3 0 (by decide)).trans rfl
 have t1 : a.eval (.tmp 1) = .int .i64 ((n : Nat) : Int) := (h3 1 (by decide)).trans rfl
 have A : a.tmps.size = 27 ∧ a.defers = [] := ⟨h1, h2⟩
 have BW : Below V.heap.size V V := Below.refl _ _
 clear h1 h2 h3 h4
 refine wp_seq (wp_seq ?_)
 refine wp_se 27 [1] [] (fun _ s X => Below V.heap.size V X) (fun s => fun i_ => match i_ with | 1 => .bool false | _ => undef) () A (Below.refl _ _) (And.intro ?_ trivial) ?_
 ·exact fun s a X e hS => stepV rfl rfl (execDec (execLtW (p := n) (q := 0) rfl ((e (.tmp 5)).trans t1) rfl) (decide_eq_false (by omega))) ⟨s, ⟨_, rfl, rfl⟩, hS, ar⟩
 rintro _ a X1 A e (bX : Below V.heap.size V X1)
 have t6 : a.eval (.tmp 6) = .bool false := e _
 replace t0 := kt e t0
 replace t1 := kt e t1
 have ZX1 := bX.size
 replace BW := BW.trans (bX.mono BW.size)
 clear bX
 clear e
 refine wp_cond_false t6 (wp_skip ?_)
 clear t6
 refine wp_seq (wp_seq ?_)
 refine wp_se 27 [2, 4, 5, 6] [] (fun _ s X => Below X1.heap.size X1 X) (fun s => fun i_ => match i_ with | 2 => .int .i64 ((0 : Nat) : Int) | 4 => .int .i64 ((0 : Nat) : Int) | 5 => .int .i64 ((0 - 0 : Nat) : Int) | 6 => .int .i64 ((n - (0 - 0) : Nat) : Int) | _ => undef) () A (Below.refl _ _) (And.intro ?_ (And.intro ?_ (And.intro ?_ (And.intro ?_ trivial)))) ?_
 ·exact fun s a X e hS => stepV rfl rfl (execCap0 rfl ((e (.tmp 9)).trans t0)) ⟨s, ⟨_, rfl, rfl⟩, hS, ar⟩
 ·exact fun s a X e hS => stepV rfl rfl (execLenV (len := 0) rfl ((e (.tmp 11)).trans t0) ⟨_, _, rfl⟩) ⟨s, ⟨_, rfl, rfl⟩, hS, ar⟩
 ·exact fun s a X e hS => stepV rfl rfl (By8.execSubI (p := 0) (q := 0) rfl (e (.tmp 10)) (e (.tmp 12)) (by omega) (by omega)) ⟨s, ⟨_, rfl, rfl⟩, hS, ar⟩
 ·exact fun s a X e hS => stepV rfl rfl (By8.execSubI (p := n) (q := 0 - 0) rfl ((e (.tmp 8)).trans t1) (e (.tmp 13)) (by omega) (by omega)) ⟨s, ⟨_, rfl, rfl⟩, hS, ar⟩
 rintro _ a X3 A e (bX : Below X1.heap.size X1 X3)
 replace t1 : a.eval (.tmp 1) = .int .i64 ((n - (0 - 0) : Nat) : Int) := e _
 replace t0 := kt e t0
 have ZX3 := bX.size
 replace BW := BW.trans (bX.mono BW.size)
 clear bX
 clear e
 refine wp_seq ?_
 refine wp_se 27 [1] [] (fun _ s X => Below X3.heap.size X3 X) (fun s => fun i_ => match i_ with | 1 => .bool true | _ => undef) () A (Below.refl _ _) (And.intro ?_ trivial) ?_
 ·exact fun s a X e hS => stepV rfl rfl (execDec (execGtN (p := n - (0 - 0)) (q := 0) rfl ((e (.tmp 15)).trans t1) rfl) (decide_eq_true (by omega))) ⟨s, ⟨_, rfl, rfl⟩, hS, ar⟩
 rintro _ a X4 A e (bX : Below X3.heap.size X3 X4)
 have t16 : a.eval (.tmp 16) = .bool true := e _
 replace t0 := kt e t0
 replace t1 := kt e t1
 have ZX4 := bX.size
 replace BW := BW.trans (bX.mono BW.size)
 clear bX
 clear e
 refine wp_cond_true t16 ?_
 clear t16
 have en : n - (0 - 0) = n := by omega
 rw [en] at t1
 refine wp_se (σ := Nat × Nat) 27 [2, 3, 5, 7, 8] [5] (fun k_ s X => match k_ with | 0 => Below X4.heap.size X4 X | _ => Below X4.heap.size X4 X ∧ (X.ownsRow V.heap.size 5 1 (.slice (some ⟨s.1, 0, none⟩) 0 s.2) 0 (bytesL 0 F))) (fun s => fun i_ => match i_ with | 2 => .int .i64 ((0 : Nat) : Int) | 3 => .slice none 0 0 | 5 => .slice (some ⟨s.1, 0, none⟩) n s.2 | 7 => .int .i64 ((0 : Nat) : Int) | 8 => .slice (some ⟨s.1, 0, none⟩) 0 s.2 | _ => undef) (0, 0) A (Below.refl _ _) (And.intro ?_ (And.intro ?_ (And.intro ?_ (And.intro ?_ (And.intro ?_ trivial))))) ?_
 ·exact fun s a X e hS => stepV rfl rfl (execCap0 rfl ((e (.tmp 18)).trans t0)) ⟨s, ⟨_, rfl, rfl⟩, hS, ar⟩
 ·exact fun s a X e hS => stepV rfl rfl (By8.execSlH rfl ((e (.tmp 17)).trans t0) (e (.tmp 19)) (By8.slice_h none 0 0 0 (Nat.le_refl _) X)) ⟨s, ⟨_, rfl, rfl⟩, hS, ar⟩
 ·intro s a X e hS
  refine stepMkN0 (F := F) (B := V.heap.size) rfl rfl rfl (e (.tmp 20)) ((e (.tmp 21)).trans t1) h0 hnx (Nat.le_trans BW.size (hS).size) fun c' W' own_' hb_ => ⟨(X.heap.size, c'), ⟨_, rfl, rfl⟩, ⟨(hS).trans ((hb_).mono (hS).size), own_'⟩, (And.intro (fun _ => rfl) (And.intro (fun _ => rfl) (And.intro (fun h => absurd h (by decide)) (And.intro (fun h => absurd h (by decide)) (And.intro (fun h => absurd h (by decide)) trivial)))))⟩
 ·exact fun s a X e hS => stepV rfl rfl (execLenV (len := 0) rfl ((e (.tmp 23)).trans t0) ⟨_, _, rfl⟩) ⟨s, ⟨_, rfl, rfl⟩, hS, ar⟩
 ·exact fun s a X e hS => stepV rfl rfl (By8.execSlH rfl (e (.tmp 22)) (e (.tmp 24)) (sl_h8 s.1 n s.2 0 (Nat.zero_le _) X)) ⟨s, ⟨_, rfl, rfl⟩, hS, ar⟩
 rintro ⟨g_, c_⟩ a X5 A e (hS : Below X4.heap.size X4 X5 ∧ (X5.ownsRow V.heap.size 5 1 (.slice (some ⟨g_, 0, none⟩) 0 c_) 0 (bytesL 0 F)))
 obtain ⟨bX, FO⟩ := hS
 replace t0 : a.eval (.tmp 0) = .slice (some ⟨g_, 0, none⟩) 0 c_ := e _
 have ZX5 := bX.size
 replace BW := BW.trans (bX.mono BW.size)
 clear bX
 clear e t1
 refine wp_seq ?_
 refine wp_se 27 [] [] (fun _ s X => Below X5.heap.size X5 X) (fun s => fun _ => undef) () A (Below.refl _ _) trivial ?_
 rintro _ a X6 A e (bX : Below X5.heap.size X5 X6)
 have t4 : a.eval (.tmp 4) = .slice (some ⟨g_, 0, none⟩) 0 c_ := (e _).trans t0
 replace FO := (ownsRow_below FO bX)
 have ZX6 := bX.size
 replace BW := BW.trans (bX.mono BW.size)
 clear bX
 clear e t0
 refine wp_ret ?_
 refine bodyPost_ret (results_tmp rfl _ _ _) A.2 ⟨_, ?_, FO, BW⟩
 show Ending.returned (a.eval (.tmp 4)) = _
 rw [t4]
set_option maxRecDepth 100000 in
set_option maxHeartbeats 4000000 in
theorem pconcat (J : Nat) (x : Nat → Value) (ln : Nat → Nat) (gg : Nat → Nat → Nat) (F : Nat → Nat) (sl : Value) (V : World) (hL : LLX V sl J x ln gg) (hJ : J ≤ 1000) (hF : ∀ i, i < J → ∀ k, k < ln i → F (sumN ln i + k) = gg i k) (h0 : 0 < sumN ln J) (hSx : sumN ln J ≤ 140737488351232) :
  Calls Try.prog 38 #[sl] V fun e w' => ∃ r, e = .returned r ∧ w'.ownsRow V.heap.size 5 1 r (sumN ln J) (bytesL (sumN ln J) F) ∧ Below V.heap.size V w' := by
 have hsh : ∃ ao c, sl = .slice ao J c := by obtain ⟨a_, c_, e_, _⟩ := hL.shape; exact ⟨a_, c_, e_⟩
 go_enter Try.func38, Try.ntmps38
 refine wp_seq ?_
 refine wp_region_sqK 36 [(0, 2)] (fun i_ => match i_ with | 0 => .slice none 0 0 | _ => undef) rfl (by kernel_rfl) (by decide) (by decide) ?_ ?_
 ·intro i_ hi_ a hf hv hn
  match i_, hi_ with
  | 0, _ => exact stepV rfl rfl (execAsgB rfl rfl) ⟨⟨_, rfl, rfl⟩, rfl⟩
  | k_ + 1, h_ => exact absurd h_ (by simp)
 intro a h1 h2 h3 h4
 have t0 : a.eval (.tmp 0) = sl := (h3 0 (by decide)).trans rfl
 have A : a.tmps.size = 36 ∧ a.defers = [] := ⟨h1, h2⟩
 have BW : Below V.heap.size V V := Below.refl _ _
 clear h1 h2 h3 h4
 have BB := BW
 refine wp_seq ?_
 refine wp_se 36 [] [] (fun _ s X => Below V.heap.size V X) (fun s => fun _ => undef) () A (BB) trivial ?_
 rintro _ a X1 A e (BB : Below V.heap.size V X1)
 have t3 : a.eval (.tmp 3) = .int .i64 ((0 : Nat) : Int) := e _
 replace t0 := kt e t0
 clear e
 refine wp_seq (wp_seq ?_)
 refine wp_se 36 [1] [] (fun _ s X => Below V.heap.size V X) (fun s => fun i_ => match i_ with | 1 => .int .i64 ((J : Nat) : Int) | _ => undef) () A (BB) (And.intro ?_ trivial) ?_
 ·exact fun s a X e hS => stepV rfl rfl (execLenLs (len := J) rfl ((e (.tmp 9)).trans t0) hsh) ⟨s, ⟨_, rfl, rfl⟩, hS, ar⟩
 rintro _ a X2 A e (BB : Below V.heap.size V X2)
 have t9 : a.eval (.tmp 9) = sl := (e _).trans t0
 have t10 : a.eval (.tmp 10) = .int .i64 ((J : Nat) : Int) := e _
 have t11 : a.eval (.tmp 11) = .int .i64 ((0 : Nat) : Int) := e _
 replace t0 := kt e t0
 replace t3 := kt e t3
 clear e
 refine wp_block ?_
 refine wp_loop (fun a W => ∃ (i : Nat), i ≤ J ∧ (a.tmps.size = 36 ∧ a.defers = []) ∧ a.eval (.tmp 0) = sl ∧ a.eval (.tmp 3) = .int .i64 ((sumN ln i : Nat) : Int) ∧ a.eval (.tmp 9) = sl ∧ a.eval (.tmp 10) = .int .i64 ((J : Nat) : Int) ∧ a.eval (.tmp 11) = .int .i64 ((i : Nat) : Int) ∧ Below V.heap.size V W) (fun a _ => J - (intOf (a.eval (.tmp 11))).toNat) ⟨0, Nat.zero_le _, A, t0, t3, t9, t10, t11, BB⟩ ?_
 rintro a XL3 ⟨i, hi, A, t0, t3, t9, t10, t11, BB⟩
 have esi := t11
 refine wp_seq ?_
 refine wp_se 36 [0] [] (fun _ s X => Below V.heap.size V X) (fun s => fun i_ => match i_ with | 0 => .bool (decide (i < J)) | _ => undef) () A (BB) (And.intro ?_ trivial) ?_
 ·exact fun s a X e hS => stepV rfl rfl (execLtW (p := i) (q := J) rfl ((e (.tmp 11)).trans t11) ((e (.tmp 10)).trans t10)) ⟨s, ⟨_, rfl, rfl⟩, hS, ar⟩
 rintro _ a X3 A e (BB : Below V.heap.size V X3)
 have t12 : a.eval (.tmp 12) = .bool (decide (i < J)) := e _
 replace t0 := kt e t0
 replace t3 := kt e t3
 replace t9 := kt e t9
 replace t10 := kt e t10
 replace t11 := kt e t11
 clear e
 refine wp_seq ?_
 by_cases lti : i < J
 ·rw [decide_eq_true lti] at t12
  refine wp_cond_true t12 (wp_skip ?_)
  clear t12
  refine wp_seq (wp_block ?_)
  obtain ⟨cb, co, cc, ec, hcb, hcc⟩ := hL.at (show 0 < J by omega)
  have cC : ∀ X, Below V.heap.size V X → X.cell? ⟨cb, co + i, none⟩ = some (x i) := fun X hX => by rw [cell_below hX hcb]; exact hcc i lti
  have hli := hL.lists i lti
  have hat := sumN_at (r := ln) lti
  refine wp_seq ?_
  refine wp_se 36 [0, 1] [] (fun _ s X => Below V.heap.size V X) (fun s => fun i_ => match i_ with | 0 => .pointer (some ⟨cb, co + i, none⟩) | 1 => x i | _ => undef) () A (BB) (And.intro ?_ (And.intro ?_ trivial)) ?_
  ·exact fun s a X e hS => stepV rfl rfl (Cf.execIdxL (k := i) rfl (((e (.tmp 9)).trans t9).trans ec) ((e (.tmp 11)).trans t11) lti) ⟨s, ⟨_, rfl, rfl⟩, hS, ar⟩
  ·exact fun s a X e hS => stepV rfl rfl (execLdL rfl (e (.tmp 13)) (cC X hS)) ⟨s, ⟨_, rfl, rfl⟩, hS, ar⟩
  rintro _ a X4 A e (BB : Below V.heap.size V X4)
  have t5 : a.eval (.tmp 5) = x i := e _
  replace t0 := kt e t0
  replace t3 := kt e t3
  replace t9 := kt e t9
  replace t10 := kt e t10
  replace t11 := kt e t11
  clear e
  refine wp_seq ?_
  refine wp_se 36 [2, 3] [] (fun _ s X => Below V.heap.size V X) (fun s => fun i_ => match i_ with | 2 => .int .i64 ((ln i : Nat) : Int) | 3 => .int .i64 ((sumN ln i + ln i : Nat) : Int) | _ => undef) () A (BB) (And.intro ?_ (And.intro ?_ trivial)) ?_
  ·exact fun s a X e hS => stepV rfl rfl (execLenV (len := ln i) rfl ((e (.tmp 16)).trans t5) (shp9 (hli.on hS))) ⟨s, ⟨_, rfl, rfl⟩, hS, ar⟩
  ·exact fun s a X e hS => stepV rfl rfl (execAd8 (p := sumN ln i) (q := ln i) rfl ((e (.tmp 15)).trans t3) (e (.tmp 17)) (by omega)) ⟨s, ⟨_, rfl, rfl⟩, hS, ar⟩
  rintro _ a X5 A e (BB : Below V.heap.size V X5)
  replace t3 : a.eval (.tmp 3) = .int .i64 ((sumN ln i + ln i : Nat) : Int) := e _
  replace t0 := kt e t0
  replace t9 := kt e t9
  replace t10 := kt e t10
  replace t11 := kt e t11
  clear e t5
  refine wp_seq ?_
  refine wp_se 36 [1] [] (fun _ s X => Below V.heap.size V X) (fun s => fun i_ => match i_ with | 1 => .bool false | _ => undef) () A (BB) (And.intro ?_ trivial) ?_
  ·exact fun s a X e hS => stepV rfl rfl (execDec (execLtW (p := sumN ln i + ln i) (q := 0) rfl ((e (.tmp 19)).trans t3) rfl) (decide_eq_false (by omega))) ⟨s, ⟨_, rfl, rfl⟩, hS, ar⟩
  rintro _ a X6 A e (BB : Below V.heap.size V X6)
  have t20 : a.eval (.tmp 20) = .bool false := e _
  replace t0 := kt e t0
  replace t3 := kt e t3
  replace t9 := kt e t9
  replace t10 := kt e t10
  replace t11 := kt e t11
  clear e
  refine wp_cond_false t20 (wp_skip ?_)
  clear t20
  refine wp_se 36 [0] [] (fun _ s X => Below V.heap.size V X) (fun s => fun i_ => match i_ with | 0 => .int .i64 ((i + 1 : Nat) : Int) | _ => undef) () A (BB) (And.intro ?_ trivial) ?_
  ·exact fun s a X e hS => stepV rfl rfl (execAd8 (p := i) (q := 1) rfl ((e (.tmp 11)).trans t11) rfl (by omega)) ⟨s, ⟨_, rfl, rfl⟩, hS, ar⟩
  rintro _ a X8 A e (BB : Below V.heap.size V X8)
  replace t11 : a.eval (.tmp 11) = .int .i64 ((i + 1 : Nat) : Int) := e _
  replace t0 := kt e t0
  replace t3 := kt e t3
  replace t9 := kt e t9
  replace t10 := kt e t10
  clear e
  exact ⟨⟨i + 1, lti, A, t0, t3, t9, t10, t11, BB⟩, by show J - (intOf (a.eval (.tmp 11))).toNat < J - (intOf (Act.eval _ (.tmp 11))).toNat; rw [t11, esi]; show J - (i + 1) < J - i; omega⟩
 ·rw [decide_eq_false lti] at t12
  refine wp_cond_false t12 ?_
  refine wp_exit ?_
  first | with_reducible refine exit_in ?_ | with_reducible refine exit_then (exit_in ?_) | with_reducible refine exit_then (exit_then (exit_in ?_)) | refine exit_in ?_ | refine exit_then (exit_in ?_) | refine exit_then (exit_then (exit_in ?_))
  clear t12 esi
  have hiJ : i = J := by omega
  rw [hiJ] at t3
  clear t9 t10 t11
  clear hiJ lti hi
  refine wp_seq ?_
  refine wp_se (σ := Value) 36 [1] [1] (fun k_ s X => match k_ with | 0 => Below V.heap.size V X | _ => Below V.heap.size V X ∧ (X.ownsRow V.heap.size 5 1 s (sumN ln 0) (bytesL (sumN ln 0) F))) (fun s => fun i_ => match i_ with | 1 => s | _ => undef) undef A (BB) (And.intro ?_ trivial) ?_
  ·intro s a X e hS
   refine stepC rfl rfl (execCall2 Try.func64 (by kernel_rfl) (by kernel_rfl) rfl rfl ((e (.tmp 23)).trans t3)) (pgrow F (sumN ln J) X h0 hSx) fun e w' hh => ?_
   obtain ⟨r_, he, hk, hb⟩ := hh
   refine ⟨_, he, r_, ⟨_, rfl, rfl⟩, ⟨(hS).trans ((hb).mono (hS).size), own_base hk (hS).size⟩, (And.intro (fun h => absurd h (by decide)) trivial)⟩
  rintro u_ a X9 A e (hS : Below V.heap.size V X9 ∧ (X9.ownsRow V.heap.size 5 1 u_ (sumN ln 0) (bytesL (sumN ln 0) F)))
  obtain ⟨BB, FO⟩ := hS
  have t6 : a.eval (.tmp 6) = u_ := e _
  replace t0 := kt e t0
  clear e t3
  refine wp_seq (wp_seq ?_)
  refine wp_se 36 [1] [] (fun _ s X => Below V.heap.size V X ∧ (X.ownsRow V.heap.size 5 1 u_ (sumN ln 0) (bytesL (sumN ln 0) F))) (fun s => fun i_ => match i_ with | 1 => .int .i64 ((J : Nat) : Int) | _ => undef) () A ⟨BB, FO⟩ (And.intro ?_ trivial) ?_
  ·exact fun s a X e hS => stepV rfl rfl (execLenLs (len := J) rfl ((e (.tmp 25)).trans t0) hsh) ⟨s, ⟨_, rfl, rfl⟩, hS, ar⟩
  rintro _ a X10 A e (hS : Below V.heap.size V X10 ∧ (X10.ownsRow V.heap.size 5 1 u_ (sumN ln 0) (bytesL (sumN ln 0) F)))
  obtain ⟨BB, FO⟩ := hS
  have t25 : a.eval (.tmp 25) = sl := (e _).trans t0
  have t26 : a.eval (.tmp 26) = .int .i64 ((J : Nat) : Int) := e _
  have t27 : a.eval (.tmp 27) = .int .i64 ((0 : Nat) : Int) := e _
  replace t6 := kt e t6
  clear e t0
  refine wp_block ?_
  refine wp_loop (fun a W => ∃ (i : Nat) (u : Value), i ≤ J ∧ (a.tmps.size = 36 ∧ a.defers = []) ∧ a.eval (.tmp 6) = u ∧ a.eval (.tmp 25) = sl ∧ a.eval (.tmp 26) = .int .i64 ((J : Nat) : Int) ∧ a.eval (.tmp 27) = .int .i64 ((i : Nat) : Int) ∧ Below V.heap.size V W ∧ (W.ownsRow V.heap.size 5 1 u (sumN ln i) (bytesL (sumN ln i) F))) (fun a _ => J - (intOf (a.eval (.tmp 27))).toNat) ⟨0, _, Nat.zero_le _, A, t6, t25, t26, t27, BB, FO⟩ ?_
  rintro a XL11 ⟨i, u, hi, A, t6, t25, t26, t27, BB, FO⟩
  have esi := t27
  refine wp_seq ?_
  refine wp_se 36 [0] [] (fun _ s X => Below V.heap.size V X ∧ (X.ownsRow V.heap.size 5 1 u (sumN ln i) (bytesL (sumN ln i) F))) (fun s => fun i_ => match i_ with | 0 => .bool (decide (i < J)) | _ => undef) () A ⟨BB, FO⟩ (And.intro ?_ trivial) ?_
  ·exact fun s a X e hS => stepV rfl rfl (execLtW (p := i) (q := J) rfl ((e (.tmp 27)).trans t27) ((e (.tmp 26)).trans t26)) ⟨s, ⟨_, rfl, rfl⟩, hS, ar⟩
  rintro _ a X11 A e (hS : Below V.heap.size V X11 ∧ (X11.ownsRow V.heap.size 5 1 u (sumN ln i) (bytesL (sumN ln i) F)))
  obtain ⟨BB, FO⟩ := hS
  have t28 : a.eval (.tmp 28) = .bool (decide (i < J)) := e _
  replace t6 := kt e t6
  replace t25 := kt e t25
  replace t26 := kt e t26
  replace t27 := kt e t27
  clear e
  refine wp_seq ?_
  by_cases lti : i < J
  ·rw [decide_eq_true lti] at t28
   refine wp_cond_true t28 (wp_skip ?_)
   clear t28
   refine wp_seq (wp_block ?_)
   obtain ⟨cb, co, cc, ec, hcb, hcc⟩ := hL.at (show 0 < J by omega)
   have cC : ∀ X, Below V.heap.size V X → X.cell? ⟨cb, co + i, none⟩ = some (x i) := fun X hX => by rw [cell_below hX hcb]; exact hcc i lti
   have hli := hL.lists i lti
   have hat := sumN_at (r := ln) lti
   refine wp_seq ?_
   refine wp_se 36 [0, 1] [] (fun _ s X => Below V.heap.size V X ∧ (X.ownsRow V.heap.size 5 1 u (sumN ln i) (bytesL (sumN ln i) F))) (fun s => fun i_ => match i_ with | 0 => .pointer (some ⟨cb, co + i, none⟩) | 1 => x i | _ => undef) () A ⟨BB, FO⟩ (And.intro ?_ (And.intro ?_ trivial)) ?_
   ·exact fun s a X e hS => stepV rfl rfl (Cf.execIdxL (k := i) rfl (((e (.tmp 25)).trans t25).trans ec) ((e (.tmp 27)).trans t27) lti) ⟨s, ⟨_, rfl, rfl⟩, hS, ar⟩
   ·exact fun s a X e hS => stepV rfl rfl (execLdL rfl (e (.tmp 29)) (cC X hS.1)) ⟨s, ⟨_, rfl, rfl⟩, hS, ar⟩
   rintro _ a X12 A e (hS : Below V.heap.size V X12 ∧ (X12.ownsRow V.heap.size 5 1 u (sumN ln i) (bytesL (sumN ln i) F)))
   obtain ⟨BB, FO⟩ := hS
   have t8 : a.eval (.tmp 8) = x i := e _
   replace t6 := kt e t6
   replace t25 := kt e t25
   replace t26 := kt e t26
   replace t27 := kt e t27
   clear e
   refine wp_se (σ := Value) 36 [2] [2] (fun k_ s X => match k_ with | 0 => Below V.heap.size V X ∧ (X.ownsRow V.heap.size 5 1 u (sumN ln i) (bytesL (sumN ln i) F)) | _ => Below V.heap.size V X ∧ (X.ownsRow V.heap.size 5 1 s (sumN ln (i + 1)) (bytesL (sumN ln (i + 1)) F))) (fun s => fun i_ => match i_ with | 2 => s | _ => undef) undef A ⟨BB, FO⟩ (And.intro ?_ trivial) ?_
   ·intro s a X e hS
    refine stepAppN (n := sumN ln i) (m := ln i) (p := F) rfl rfl rfl ((e (.tmp 31)).trans t6) ((e (.tmp 32)).trans t8) hS.2 (sliceN_cg (hli.on hS.1) (fun k hk => (hF i lti k hk).symm)) (hL.nils i lti) (by omega) (hS.1).size fun v' W' own' gr => ⟨v', ⟨_, rfl, rfl⟩, ⟨(hS.1).grown gr (hS.1).size (fun k hk => (hS.2.lt k hk).1), own'⟩, (And.intro (fun h => absurd h (by decide)) trivial)⟩
   rintro v_ a X13 A e (hS : Below V.heap.size V X13 ∧ (X13.ownsRow V.heap.size 5 1 v_ (sumN ln (i + 1)) (bytesL (sumN ln (i + 1)) F)))
   obtain ⟨BB, FO2⟩ := hS
   replace t6 : a.eval (.tmp 6) = v_ := e _
   replace t25 := kt e t25
   replace t26 := kt e t26
   replace t27 := kt e t27
   clear e t8
   refine wp_se 36 [0] [] (fun _ s X => Below V.heap.size V X ∧ (X.ownsRow V.heap.size 5 1 v_ (sumN ln (i + 1)) (bytesL (sumN ln (i + 1)) F))) (fun s => fun i_ => match i_ with | 0 => .int .i64 ((i + 1 : Nat) : Int) | _ => undef) () A ⟨BB, FO2⟩ (And.intro ?_ trivial) ?_
   ·exact fun s a X e hS => stepV rfl rfl (execAd8 (p := i) (q := 1) rfl ((e (.tmp 27)).trans t27) rfl (by omega)) ⟨s, ⟨_, rfl, rfl⟩, hS, ar⟩
   rintro _ a X14 A e (hS : Below V.heap.size V X14 ∧ (X14.ownsRow V.heap.size 5 1 v_ (sumN ln (i + 1)) (bytesL (sumN ln (i + 1)) F)))
   obtain ⟨BB, FO2⟩ := hS
   replace t27 : a.eval (.tmp 27) = .int .i64 ((i + 1 : Nat) : Int) := e _
   replace t6 := kt e t6
   replace t25 := kt e t25
   replace t26 := kt e t26
   clear e
   exact ⟨⟨i + 1, _, lti, A, t6, t25, t26, t27, BB, FO2⟩, by show J - (intOf (a.eval (.tmp 27))).toNat < J - (intOf (Act.eval _ (.tmp 27))).toNat; rw [t27, esi]; show J - (i + 1) < J - i; omega⟩
  ·rw [decide_eq_false lti] at t28
   refine wp_cond_false t28 ?_
   refine wp_exit ?_
   first | with_reducible refine exit_in ?_ | with_reducible refine exit_then (exit_in ?_) | with_reducible refine exit_then (exit_then (exit_in ?_)) | refine exit_in ?_ | refine exit_then (exit_in ?_) | refine exit_then (exit_then (exit_in ?_))
   clear t28 esi
   have hiJ : i = J := by omega
   rw [hiJ] at FO
   clear t25 t26 t27
   refine wp_seq ?_
   refine wp_se 36 [] [] (fun _ s X => Below V.heap.size V X ∧ (X.ownsRow V.heap.size 5 1 u (sumN ln J) (bytesL (sumN ln J) F))) (fun s => fun _ => undef) () A ⟨BB, FO⟩ trivial ?_
   rintro _ a X15 A e (hS : Below V.heap.size V X15 ∧ (X15.ownsRow V.heap.size 5 1 u (sumN ln J) (bytesL (sumN ln J) F)))
   obtain ⟨BB, FO⟩ := hS
   have t2 : a.eval (.tmp 2) = u := (e _).trans t6
   clear e t6
   refine wp_ret ?_
   refine bodyPost_ret (results_tmp rfl _ _ _) A.2 ⟨_, ?_, FO, BB⟩
   show Ending.returned (a.eval (.tmp 2)) = _
   rw [t2]
end Go.Proofs.Ytmjpneaccjlpkaa.Rif
