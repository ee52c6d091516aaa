import Derived.Test.YtcffmmeafnapiaaDoorB7g
import Derived.Test.YtcffmmeafnapiaaDoorB7d
import Derived.Test.YtcffmmeafnapiaaDoorX5k
import Derived.Test.YtcffmmeafnapiaaDoorX6n
import Derived.Test.YtcffmmeafnapiaaDoorX6g
import Derived.Test.YtcffmmeafnapiaaDoorC6
namespace Go.Proofs.YtcffmmeafnapiaaDoor.Rou
open Go.RowKit Gf8 Aes By8 Cel Oni
/- awake. Written by tools/mkB7h.py. -/

section
variable {o : Oper} {a : Act} {w : World}
theorem execEq0E {x : Operand} (ho : o.op = .binOp .eql 26 x (.const (.int .i64 0)) 26) (hx : a.eval x = .int .i64 0) : (execOp a.eval o).run Tryd.prog w = .ok (.value (.bool true)) w := by
  unfold execOp
  simp only [ho, hx]
  simp [go_sem]
theorem execEqI3 {x : Operand} {p : Int} (ho : o.op = .binOp .eql 3 x (.const (.int .i64 p)) 3) (hx : a.eval x = .int .i64 p) : (execOp a.eval o).run Tryd.prog w = .ok (.value (.bool true)) w := by
  unfold execOp
  simp only [ho, hx]
  simp [go_sem]
theorem execEq1U {x : Operand} (ho : o.op = .binOp .eql 5 x (.const (.int .u8 1)) 5) (hx : a.eval x = .int .u8 1) : (execOp a.eval o).run Tryd.prog w = .ok (.value (.bool true)) w := by
  unfold execOp
  simp only [ho, hx]
  simp [go_sem]
theorem execNeqD {x y : Operand} {s t : ByteArray} (ho : o.op = .binOp .neq 9 x y 9) (hx : a.eval x = .string s) (hy : a.eval y = .string t) (h : s.toList ≠ t.toList) : (execOp a.eval o).run Tryd.prog w = .ok (.value (.bool true)) w := by
  unfold execOp
  simp only [ho, hx, hy]
  simp [go_sem, h]
theorem execBsL {x : Operand} {r : Value} (ho : o.op = .buildSlice 30 1 #[(0, x)]) (hx : a.eval x = r) (hr : ∃ g n c, r = .slice g n c) : (execOp a.eval o).run Tryd.prog w = .ok (.value (.slice (some ⟨w.heap.size, 0, none⟩) 1 1)) (w.alloc (.cells #[r] 22)) := by
  obtain ⟨g, n, c, rfl⟩ := hr
  unfold execOp
  simp only [ho, List.map_toArray, List.map_cons, List.map_nil, hx]
  simp [go_sem]
theorem fill16 (f : Nat → Nat) : Instr.fill (fun i => some (i * 16, 16)) ((Array.range (1 * 16)).map ((bA 16 fun _ => 0)[· % (bA 16 fun _ => 0).size]!)) [(0, .agg (bA 16 f))] = some (bA 16 f) := by
  kernel_rfl
theorem execBsA {x : Operand} {f : Nat → Nat} (ho : o.op = .buildSlice 31 1 #[(0, x)]) (hx : a.eval x = .agg (bA 16 f)) : (execOp a.eval o).run Tryd.prog w = .ok (.value (.slice (some ⟨w.heap.size, 0, none⟩) 1 1)) (w.alloc (.cells (bA 16 f) 40)) := by
  have hz : (zeroValue 40).run Tryd.prog w = .ok (.agg (bA 16 fun _ => 0)) w := zero16 w
  have hs : (sizeOf 40).run Tryd.prog w = .ok 16 w := by simp [go_sem]
  have hf := fill16 f
  have e : (#[((0 : Nat), x)] : Array (Nat × Operand)).map (fun (i, y) => (i, a.eval y)) = #[(0, .agg (bA 16 f))] := by simp [hx]
  have hr : (Instr.buildSlice 31 1 #[(0, .agg (bA 16 f))]).run Tryd.prog w = .ok (.slice (some ⟨w.heap.size, 0, none⟩) 1 1) (w.alloc (.cells (bA 16 f) 40)) := by
    simp only [Instr.buildSlice, Sem.run_bind, run_underlying Tryd.underlying31, Result.andThen_ok, hs]
    rw [if_neg (by decide), if_neg (by decide)]
    simp only [Sem.run_bind, Sem.run_pure, Result.andThen_ok, hz, Value.cells, hf]
    simp [newRow]
  unfold execOp
  simp only [ho, e, Sem.run_bind, hr, Result.andThen_ok, Sem.run_pure]
end
def xF : Nat → Nat := fun _ => 120
theorem x_slice {W : World} {g : Nat} {fr : Nat × Nat} (h : W.heap[g]? = some (.cells #[.int .u8 120] 5 fr)) : SliceZ W (.slice (some ⟨g, 0, none⟩) 1 1) 1 xF :=
  ⟨lit_slice h (fun j hj => by
    match j, hj with
    | 0, _ => rfl) (fun j _ => by unfold xF; omega) (by omega), fun l c e => by cases e⟩
theorem one_cells {W : World} {g : Nat} {r : Value} {l : Nat} {p : Nat → Nat} {t : TypeId} (h : W.heap[g]? = some (.cells #[r] t)) (hr : SliceN W r l p) (hl : l ≤ 140737488351232) (hn : ∀ l c, r = .slice none l c → c = 0) : Cells W (.slice (some ⟨g, 0, none⟩) 1 1) 1 (fun _ => r) (fun _ => l) fun _ => p :=
  ⟨⟨_, _, rfl, Nat.le_refl _, by omega, fun _ => ⟨g, 0, rfl, (Array.getElem?_eq_some_iff.1 h).1, fun i hi => by
    obtain rfl : i = 0 := by omega
    rw [cell_of_row _ _ _ _ _ _ h]; rfl⟩⟩, fun _ _ => hr, fun _ _ => hn, fun _ _ => hl⟩
theorem one_nons {W : World} {g : Nat} {f : Nat → Nat} {t : TypeId} (h : W.heap[g]? = some (.cells (bA 16 f) t)) (hf : By f) : Nons W (.slice (some ⟨g, 0, none⟩) 1 1) 1 fun _ => f :=
  ⟨⟨_, _, rfl, Nat.le_refl _, by omega, fun _ => ⟨g, 0, rfl, (Array.getElem?_eq_some_iff.1 h).1, fun i hi j hj => by
    obtain rfl : i = 0 := by omega
    rw [cell_of_row _ _ _ _ _ _ h, Nat.zero_mul, Nat.add_zero, Nat.zero_add]
    exact bA_at 16 f hj⟩⟩, fun _ _ => hf⟩
set_option maxRecDepth 20000 in
set_option maxHeartbeats 2000000 in
theorem awake8_any (V : World) (hG : Glob V) : Calls Tryd.prog 8 #[] V fun e w' => e = .returned (.bool true) ∧ Below V.heap.size V w' := by
  have kc := fun (w : World) (C : Array Value) (n c : Nat) => Lib.run_convert_bytes_const (P := Tryd.prog) w 22 5 C n c Tryd.underlying22 Tryd.underlying5
  have HG : Hid (Glob V) := hG
  obtain ⟨ky, hky⟩ : ∃ ky, rk (fun _ => 0) 1 = ky := ⟨_, rfl⟩
  have KY : Hid ((∀ j, ky j < 256) ∧ (strN ky 32).toList ≠ (strN (fun _ => 0) 32).toList) := by
    refine ⟨fun j => by rw [← hky]; exact rk_lt _ _ j, fun e => ?_⟩
    have h0 := list_inj (p := ky) (q := fun _ => 0) (n := 32) (fun j _ => by rw [← hky]; exact rk_lt _ _ j) (fun _ _ => by omega) e 0 (by omega)
    rw [← hky, rk_awake (fun _ _ => rfl)] at h0
    cases h0
  have r0 := heapNew V (.cells (bA 32 fun _ => 0) 5)
  have b0 := belNew V (.cells (bA 32 fun _ => 0) 5)
  have PK := pkey_any (fun _ => 0) 32 1 (.slice (some ⟨V.heap.size, 0, none⟩) 32 32) (V.alloc (.cells (bA 32 fun _ => 0) 5)) (hG.below b0 hG.sz) (row_slice r0 (fun _ _ => by omega) (by omega))
  rw [show rkE 32 1 = 0 from rfl, show rkN 32 1 = 32 from rfl, show (1 : Int).toNat = 1 from rfl, hky] at PK
  obtain ⟨cw, hcw⟩ : ∃ cw, rwF 1 (fun _ _ => 0) (fun _ => oneF) 1 xF = cw := ⟨_, rfl⟩
  have CW : Hid (cw 0 = 1) := by
    show cw 0 = 1
    rw [← hcw, rw_ce (by omega), ce_cw (m := 0) (by omega), cw_in 0 (by decide), wr_nonce 0 (by omega)]
    rfl
  have WR : Hid (∀ (W : World) (kv nv pv : Value) (xr : Value), Glob W → Cells W kv 1 (fun _ => xr) (fun _ => 32) (fun _ _ => 0) → Nons W nv 1 (fun _ => oneF) → SliceZ W pv 1 xF → Calls Tryd.prog 12 #[kv, nv, pv] W fun e w' => ∃ r, e = .returned (.tuple #[r, .int .i64 0]) ∧ w'.ownsRow W.heap.size 5 1 r 320 (bytesL 320 cw) ∧ Below W.heap.size W w') := fun W kv nv pv xr hg h1 h2 h3 => by
    have := rwrap8_any kv nv pv 1 1 1 (fun _ => xr) (fun _ => 32) (fun _ _ => 0) (fun _ => oneF) xF W hg h1 h2 h3 (by omega) (by omega) (by omega)
    rw [show rwE 1 1 (fun _ => 32) 1 = 0 from rfl, show rwN 1 1 (fun _ => 32) 1 = 320 from rfl, hcw] at this
    exact this
  have B0 : Hid (Below V.heap.size V (V.alloc (.cells (bA 32 fun _ => 0) 5))) := b0
  clear hG hky hcw r0 b0
  go_enter Tryd.func8, Tryd.ntmps8
  go_wp2_with (first
    | (refine wpList_ex rfl (execMk (w := w1) (l := 32) (n := 32) rfl rfl rfl (Nat.le_refl _) (by omega)) ?_
       obtain ⟨X0, hX0⟩ : ∃ X0, w1.alloc (.cells (bA 32 fun _ => 0) 5) = X0 := ⟨_, rfl⟩
       have x0 := heapNew w1 (.cells (bA 32 fun _ => 0) 5)
       have y0 := belNew w1 (.cells (bA 32 fun _ => 0) 5)
       rw [hX0] at x0 y0 ⊢
       have Y0 : Hid (X0.heap[w1.heap.size]? = some (.cells (bA 32 fun _ => 0) 5) ∧ Below w1.heap.size w1 X0) := ⟨x0, y0⟩
       clear x0 y0 hX0)
    | (refine wpList_ex rfl (execMk (l := 32) (n := 32) rfl rfl rfl (Nat.le_refl _) (by omega)) ?_)
    | (go_at_call 10; refine PK.mono ?_; rintro e w1 ⟨r1, rfl, own1, hb1⟩; obtain ⟨kg, kp, rfl, _, hc1, _⟩ := own_cells own1 (by decide); have S1 : Hid (Below V.heap.size V w1 ∧ SliceN w1 (.slice (some ⟨kg, 0, none⟩) 32 kp) 32 ky) := ⟨B0.out.trans (hb1.mono B0.out.size), own_slice own1 (fun j _ => KY.out.1 j)⟩; clear own1 hb1 hc1)
    | (refine wpList_ex rfl (execBsL (w := X0) (x := .tmp 11) (r := .slice (some ⟨w1.heap.size, 0, none⟩) 32 32) rfl rfl ⟨_, _, _, rfl⟩) ?_
       obtain ⟨X1, hX1⟩ : ∃ X1, X0.alloc (.cells #[.slice (some ⟨w1.heap.size, 0, none⟩) 32 32] 22) = X1 := ⟨_, rfl⟩
       have x1 := heapNew X0 (.cells #[.slice (some ⟨w1.heap.size, 0, none⟩) 32 32] 22)
       have y1 := belNew X0 (.cells #[.slice (some ⟨w1.heap.size, 0, none⟩) 32 32] 22)
       rw [hX1] at x1 y1 ⊢
       have Y1 : Hid (X1.heap[X0.heap.size]? = some (.cells #[.slice (some ⟨w1.heap.size, 0, none⟩) 32 32] 22) ∧ Below X0.heap.size X0 X1) := ⟨x1, y1⟩
       clear x1 y1 hX1)
    | (refine wpList_ex rfl (execB16o rfl) ?_)
    | (refine wpList_ex rfl (execBsA (w := X1) (x := .tmp 13) (f := oneF) rfl rfl) ?_
       obtain ⟨X2, hX2⟩ : ∃ X2, X1.alloc (.cells (bA 16 oneF) 40) = X2 := ⟨_, rfl⟩
       have x2 := heapNew X1 (.cells (bA 16 oneF) 40)
       have y2 := belNew X1 (.cells (bA 16 oneF) 40)
       rw [hX2] at x2 y2 ⊢
       have Y2 : Hid (X2.heap[X1.heap.size]? = some (.cells (bA 16 oneF) 40) ∧ Below X1.heap.size X1 X2) := ⟨x2, y2⟩
       clear x2 y2 hX2))
  go_at_call 12
  obtain ⟨X3, hX3⟩ : ∃ X3, X2.alloc (.cells #[.int .u8 120] 5 (1, 2)) = X3 := ⟨_, rfl⟩
  have x3 := heapNew X2 (.cells #[.int .u8 120] 5 (1, 2))
  have y3 := belNew X2 (.cells #[.int .u8 120] 5 (1, 2))
  rw [hX3] at x3 y3
  obtain ⟨x0, y0⟩ := Y0.out
  obtain ⟨x1, y1⟩ := Y1.out
  obtain ⟨x2, y2⟩ := Y2.out
  have z1 := (one_cells x1 ((row_slice x0 (fun _ _ => by omega) (by omega)).on y1) (by omega) (fun l c e => by cases e)).on (y2.trans (y3.mono y2.size))
  have z2 := (one_nons x2 oneF_by).on y3
  have z3 := x_slice x3
  have bb := (((S1.out.1.trans (y0.mono S1.out.1.size)).trans (y1.mono (Nat.le_trans S1.out.1.size y0.size))).trans (y2.mono (Nat.le_trans S1.out.1.size (Nat.le_trans y0.size y1.size)))).trans (y3.mono (Nat.le_trans S1.out.1.size (Nat.le_trans y0.size (Nat.le_trans y1.size y2.size))))
  have s4 := (((S1.out.2.on y0).on y1).on y2).on y3
  refine Calls.mono (by first | exact (WR.out X3 _ _ _ _ (HG.out.below bb HG.out.sz) z1 z2 z3) | (rw [hX3]; exact (WR.out X3 _ _ _ _ (HG.out.below bb HG.out.sz) z1 z2 z3))) ?_
  rintro e w4 ⟨r4, rfl, own4, hb4⟩
  obtain ⟨cg, cc, rfl, _, hc4, hcl4⟩ := own_cells own4 (by decide)
  have c4 := hcl4 0 (by decide)
  rw [CW.out] at c4
  have S4 : Hid (Below V.heap.size V w4 ∧ True ∧ SliceN w4 (.slice (some ⟨kg, 0, none⟩) 32 kp) 32 ky ∧ (cg < w4.heap.size ∧ w4.cell? ⟨cg, 0, none⟩ = some (.int .u8 1)) ∧ (strN ky 32).toList ≠ (strN (fun _ => 0) 32).toList) := ⟨bb.trans (hb4.mono bb.size), trivial, s4.on hb4, ⟨World.block_lt_of_cell? _ _ c4, c4⟩, KY.out.2⟩
  clear own4 hb4 hc4 hcl4 c4 x0 y0 x1 y1 x2 y2 x3 y3 z1 z2 z3 bb s4 hX3
  go_wp2_with fail
  refine wp_region_det 49 [(0, 20), (1, 21), (2, 22), (3, 23), (4, 24), (5, 25), (6, 26), (7, 27), (8, 28), (9, 29), (10, 30), (11, 31), (12, 32), (13, 33), (14, 34), (15, 35), (16, 36), (17, 37), (18, 38), (19, 39), (20, 40), (21, 41), (22, 42), (23, 43), (24, 44), (25, 45), (26, 46), (27, 47), (28, 48), (29, 0)] (fun i => match i with | 0 => .int .i64 0 | 1 => .bool true | 2 => .bool true | 3 => .int .i64 0 | 4 => .bool true | 5 => .bool true | 6 => .bool true | 7 => .slice (some ⟨kg, 0, none⟩) 32 kp | 8 => .int .i64 32 | 9 => .bool true | 10 => .bool true | 11 => .bool true | 12 => .slice (some ⟨kg, 0, none⟩) 32 kp | 13 => .string (strN ky 32) | 14 => .slice (some ⟨w4.heap.size, 0, none⟩) 32 32 | 15 => .string (strN (fun _ => 0) 32) | 16 => .bool true | 17 => .bool true | 18 => .bool true | 19 => .slice (some ⟨cg, 0, none⟩) 320 cc | 20 => .int .i64 320 | 21 => .bool true | 22 => .bool true | 23 => .bool true | 24 => .slice (some ⟨cg, 0, none⟩) 320 cc | 25 => .pointer (some ⟨cg, 0, none⟩) | 26 => .int .u8 1 | 27 => .bool true | 28 => .bool true | 29 => .bool true | _ => undef) (fun l X => Below w4.heap.size w4 X ∧ (l 14 = false → X.heap.size = w4.heap.size) ∧ (l 14 = true → X.heap[w4.heap.size]? = some (.cells (bA 32 fun _ => 0) 5))) (by kernel_rfl) (by kernel_rfl) rfl (by kernel_rfl) (by decide) (by decide) ?_ ?_ ?_
  · exact ⟨(Below.refl _ _).drew, fun _ => rfl, fun q => by cases q⟩
  · intro j hj l a X hl hf hdep hl2 hcl _ hT
    match j, hj with
    | 0, _ => exact stepV rfl rfl (execMvB rfl (hf 2 (by decide))) ⟨⟨_, rfl, rfl⟩, hT.1, fun q => hT.2.1 q, fun q => hT.2.2 q⟩
    | 1, _ => exact stepV rfl rfl (execEq0E rfl (hdep _ rfl 0 rfl _ rfl _ rfl)) ⟨⟨_, rfl, rfl⟩, hT.1, fun q => hT.2.1 q, fun q => hT.2.2 q⟩
    | 2, _ => exact stepV rfl rfl (execMvB rfl (hdep _ rfl 1 rfl _ rfl _ rfl)) ⟨⟨_, rfl, rfl⟩, hT.1, fun q => hT.2.1 q, fun q => hT.2.2 q⟩
    | 3, _ => exact stepV rfl (wantedOf rfl (yieldedAt rfl rfl (show a.eval (.tmp 22) = .bool true from (hdep _ rfl 2 rfl _ rfl _ rfl)))) (execMvB rfl (hf 4 (by decide))) ⟨⟨_, rfl, rfl⟩, hT.1, fun q => hT.2.1 q, fun q => hT.2.2 q⟩
    | 4, _ => exact stepV rfl (wantedOf rfl (yieldedAt rfl rfl (show a.eval (.tmp 22) = .bool true from (hdep _ rfl 2 rfl _ rfl _ rfl)))) (execEq0E rfl (hdep _ rfl 3 rfl _ rfl _ rfl)) ⟨⟨_, rfl, rfl⟩, hT.1, fun q => hT.2.1 q, fun q => hT.2.2 q⟩
    | 5, _ => exact stepV rfl rfl (execPick (b := true) rfl (hdep _ rfl 2 rfl _ rfl _ rfl) (hdep _ rfl 4 rfl _ rfl _ rfl)) ⟨⟨_, rfl, rfl⟩, hT.1, fun q => hT.2.1 q, fun q => hT.2.2 q⟩
    | 6, _ => exact stepV rfl rfl (execMvB rfl (hdep _ rfl 5 rfl _ rfl _ rfl)) ⟨⟨_, rfl, rfl⟩, hT.1, fun q => hT.2.1 q, fun q => hT.2.2 q⟩
    | 7, _ => exact stepV rfl (wantedOf rfl (yieldedAt rfl rfl (show a.eval (.tmp 26) = .bool true from (hdep _ rfl 6 rfl _ rfl _ rfl)))) (execMvB rfl (hf 1 (by decide))) ⟨⟨_, rfl, rfl⟩, hT.1, fun q => hT.2.1 q, fun q => hT.2.2 q⟩
    | 8, _ => exact stepV rfl (wantedOf rfl (yieldedAt rfl rfl (show a.eval (.tmp 26) = .bool true from (hdep _ rfl 6 rfl _ rfl _ rfl)))) (execLenV (len := 32) rfl (hdep _ rfl 7 rfl _ rfl _ rfl) ⟨_, _, rfl⟩) ⟨⟨_, rfl, rfl⟩, hT.1, fun q => hT.2.1 q, fun q => hT.2.2 q⟩
    | 9, _ => exact stepV rfl (wantedOf rfl (yieldedAt rfl rfl (show a.eval (.tmp 26) = .bool true from (hdep _ rfl 6 rfl _ rfl _ rfl)))) (execEqI3 rfl (hdep _ rfl 8 rfl _ rfl _ rfl)) ⟨⟨_, rfl, rfl⟩, hT.1, fun q => hT.2.1 q, fun q => hT.2.2 q⟩
    | 10, _ => exact stepV rfl rfl (execPick (b := true) rfl (hdep _ rfl 6 rfl _ rfl _ rfl) (hdep _ rfl 9 rfl _ rfl _ rfl)) ⟨⟨_, rfl, rfl⟩, hT.1, fun q => hT.2.1 q, fun q => hT.2.2 q⟩
    | 11, _ => exact stepV rfl rfl (execMvB rfl (hdep _ rfl 10 rfl _ rfl _ rfl)) ⟨⟨_, rfl, rfl⟩, hT.1, fun q => hT.2.1 q, fun q => hT.2.2 q⟩
    | 12, _ => exact stepV rfl (wantedOf rfl (yieldedAt rfl rfl (show a.eval (.tmp 31) = .bool true from (hdep _ rfl 11 rfl _ rfl _ rfl)))) (execMvB rfl (hf 1 (by decide))) ⟨⟨_, rfl, rfl⟩, hT.1, fun q => hT.2.1 q, fun q => hT.2.2 q⟩
    | 13, _ => exact stepV rfl (wantedOf rfl (yieldedAt rfl rfl (show a.eval (.tmp 31) = .bool true from (hdep _ rfl 11 rfl _ rfl _ rfl)))) (By8.execStr rfl (hdep _ rfl 12 rfl _ rfl _ rfl) (S4.out.2.2.1.on hT.1)) ⟨⟨_, rfl, rfl⟩, hT.1, fun q => hT.2.1 q, fun q => hT.2.2 q⟩
    | 14, _ =>
      have e := hT.2.1 hl
      have b := belNew X (.cells (bA 32 fun _ => 0) 5)
      have r := heapNew X (.cells (bA 32 fun _ => 0) 5)
      rw [e] at r
      refine stepV rfl (wantedOf rfl (yieldedAt rfl rfl (show a.eval (.tmp 31) = .bool true from (hdep _ rfl 11 rfl _ rfl _ rfl)))) (execMk (l := 32) (n := 32) rfl rfl rfl (Nat.le_refl _) (by omega)) ⟨⟨_, rfl, by rw [e]; rfl⟩, hT.1.trans (b.mono hT.1.size), fun q => (by cases q), fun _ => r⟩
    | 15, _ => exact stepV rfl (wantedOf rfl (yieldedAt rfl rfl (show a.eval (.tmp 31) = .bool true from (hdep _ rfl 11 rfl _ rfl _ rfl)))) (By8.execStr rfl (hdep _ rfl 14 rfl _ rfl _ rfl) (row_slice (hT.2.2 (hl2 _ rfl 14 rfl)) (fun _ _ => by omega) (by omega))) ⟨⟨_, rfl, rfl⟩, hT.1, fun q => hT.2.1 q, fun q => hT.2.2 q⟩
    | 16, _ => exact stepV rfl (wantedOf rfl (yieldedAt rfl rfl (show a.eval (.tmp 31) = .bool true from (hdep _ rfl 11 rfl _ rfl _ rfl)))) (execNeqD rfl (hdep _ rfl 13 rfl _ rfl _ rfl) (hdep _ rfl 15 rfl _ rfl _ rfl) S4.out.2.2.2.2) ⟨⟨_, rfl, rfl⟩, hT.1, fun q => hT.2.1 q, fun q => hT.2.2 q⟩
    | 17, _ => exact stepV rfl rfl (execPick (b := true) rfl (hdep _ rfl 11 rfl _ rfl _ rfl) (hdep _ rfl 16 rfl _ rfl _ rfl)) ⟨⟨_, rfl, rfl⟩, hT.1, fun q => hT.2.1 q, fun q => hT.2.2 q⟩
    | 18, _ => exact stepV rfl rfl (execMvB rfl (hdep _ rfl 17 rfl _ rfl _ rfl)) ⟨⟨_, rfl, rfl⟩, hT.1, fun q => hT.2.1 q, fun q => hT.2.2 q⟩
    | 19, _ => exact stepV rfl (wantedOf rfl (yieldedAt rfl rfl (show a.eval (.tmp 38) = .bool true from (hdep _ rfl 18 rfl _ rfl _ rfl)))) (execMvB rfl (hf 3 (by decide))) ⟨⟨_, rfl, rfl⟩, hT.1, fun q => hT.2.1 q, fun q => hT.2.2 q⟩
    | 20, _ => exact stepV rfl (wantedOf rfl (yieldedAt rfl rfl (show a.eval (.tmp 38) = .bool true from (hdep _ rfl 18 rfl _ rfl _ rfl)))) (execLenV (len := 320) rfl (hdep _ rfl 19 rfl _ rfl _ rfl) ⟨_, _, rfl⟩) ⟨⟨_, rfl, rfl⟩, hT.1, fun q => hT.2.1 q, fun q => hT.2.2 q⟩
    | 21, _ => exact stepV rfl (wantedOf rfl (yieldedAt rfl rfl (show a.eval (.tmp 38) = .bool true from (hdep _ rfl 18 rfl _ rfl _ rfl)))) (execEqI3 rfl (hdep _ rfl 20 rfl _ rfl _ rfl)) ⟨⟨_, rfl, rfl⟩, hT.1, fun q => hT.2.1 q, fun q => hT.2.2 q⟩
    | 22, _ => exact stepV rfl rfl (execPick (b := true) rfl (hdep _ rfl 18 rfl _ rfl _ rfl) (hdep _ rfl 21 rfl _ rfl _ rfl)) ⟨⟨_, rfl, rfl⟩, hT.1, fun q => hT.2.1 q, fun q => hT.2.2 q⟩
    | 23, _ => exact stepV rfl rfl (execMvB rfl (hdep _ rfl 22 rfl _ rfl _ rfl)) ⟨⟨_, rfl, rfl⟩, hT.1, fun q => hT.2.1 q, fun q => hT.2.2 q⟩
    | 24, _ => exact stepV rfl (wantedOf rfl (yieldedAt rfl rfl (show a.eval (.tmp 43) = .bool true from (hdep _ rfl 23 rfl _ rfl _ rfl)))) (execMvB rfl (hf 3 (by decide))) ⟨⟨_, rfl, rfl⟩, hT.1, fun q => hT.2.1 q, fun q => hT.2.2 q⟩
    | 25, _ => exact stepV rfl (wantedOf rfl (yieldedAt rfl rfl (show a.eval (.tmp 43) = .bool true from (hdep _ rfl 23 rfl _ rfl _ rfl)))) (execIdxS0 (k := 0) rfl (hdep _ rfl 24 rfl _ rfl _ rfl) rfl (by omega)) ⟨⟨_, rfl, rfl⟩, hT.1, fun q => hT.2.1 q, fun q => hT.2.2 q⟩
    | 26, _ => exact stepV rfl (wantedOf rfl (yieldedAt rfl rfl (show a.eval (.tmp 43) = .bool true from (hdep _ rfl 23 rfl _ rfl _ rfl)))) (execLdB rfl (hdep _ rfl 25 rfl _ rfl _ rfl) (by rw [cell_below hT.1 S4.out.2.2.2.1.1]; exact S4.out.2.2.2.1.2)) ⟨⟨_, rfl, rfl⟩, hT.1, fun q => hT.2.1 q, fun q => hT.2.2 q⟩
    | 27, _ => exact stepV rfl (wantedOf rfl (yieldedAt rfl rfl (show a.eval (.tmp 43) = .bool true from (hdep _ rfl 23 rfl _ rfl _ rfl)))) (execEq1U rfl (hdep _ rfl 26 rfl _ rfl _ rfl)) ⟨⟨_, rfl, rfl⟩, hT.1, fun q => hT.2.1 q, fun q => hT.2.2 q⟩
    | 28, _ => exact stepV rfl rfl (execPick (b := true) rfl (hdep _ rfl 23 rfl _ rfl _ rfl) (hdep _ rfl 27 rfl _ rfl _ rfl)) ⟨⟨_, rfl, rfl⟩, hT.1, fun q => hT.2.1 q, fun q => hT.2.2 q⟩
    | 29, _ => exact stepV rfl rfl (execAsgB rfl (hdep _ rfl 28 rfl _ rfl _ rfl)) ⟨⟨_, rfl, rfl⟩, hT.1, fun q => hT.2.1 q, fun q => hT.2.2 q⟩
    | k + 30, h => exact absurd h (by simp)
  · intro l X hall hT
    have S5 : Hid (Below V.heap.size V X) := S4.out.1.trans (hT.1.mono S4.out.1.size)
    clear hall hT
    simp only [putP, Act.put, List.setIfInBounds_toArray, List.set_cons_succ, List.set_cons_zero]
    go_wp2_with fail
    go_ret
    exact ⟨rfl, S5.out⟩
end Go.Proofs.YtcffmmeafnapiaaDoor.Rou

namespace Go.Proofs.YtcffmmeafnapiaaDoor.Rou
open Go.ChangeShapes Go.WideShapes Go.ChangeAt Go.RowKit Gf8 Aes By8 Cel Oni
/- A Chain as an argument. -/

theorem kA : Tryd.prog.cellsOf 40 = 16 := by kernel_rfl
theorem bytesA : Tryd.prog.bytesOf 40 = 16 := by kernel_rfl
theorem kC : Tryd.prog.cellsOf 30 = 1 := by kernel_rfl
theorem kN : Tryd.prog.cellsOf 31 = 1 := by kernel_rfl
theorem kCh : Tryd.prog.cellsOf 33 = 3 := by kernel_rfl
def hC (kv nv pv : Value) : Array Value := #[kv, nv, pv]
set_option maxRecDepth 20000 in
theorem chain_agg {W : World} {base : Nat} {v : Value} (h : Value.okWide Tryd.prog W .any base 33 v) : ∃ xs, v = .agg xs := by
  simp only [Value.okWide, Tryd.underlying33] at h
  obtain ⟨xs, e, _⟩ := h
  exact ⟨xs, e⟩
theorem hC_at {W : World} {g : Nat} {kv nv pv : Value} {t : TypeId} (h : W.heap[g]? = some (.cells (hC kv nv pv) t)) : W.cell? ⟨g, 0, none⟩ = some kv ∧ W.cell? ⟨g, 1, none⟩ = some nv ∧ W.cell? ⟨g, 2, none⟩ = some pv := by
  refine ⟨?_, ?_, ?_⟩
  · rw [cell_of_row _ _ _ _ _ _ h]; rfl
  · rw [cell_of_row _ _ _ _ _ _ h]; rfl
  · rw [cell_of_row _ _ _ _ _ _ h]; rfl
end Go.Proofs.YtcffmmeafnapiaaDoor.Rou

namespace Go.Proofs.YtcffmmeafnapiaaDoor.Rou
open Go.RowKit Gf8 Aes By8 Cel Oni
/- RouteWraps. -/

theorem rwF_lt {h hn : Nat} {lk : Nat → Nat} {key q : Nat → Nat → Nat} {n : Nat} {p : Nat → Nat} (hq : ∀ i, i < hn → By (q i)) (hp : ∀ j, j < n → p j < 256) : ∀ j, j < rwN h hn lk n → rwF h key q n p j < 256 := by
  intro j hj
  have e : rwE h hn lk n = 0 := by
    by_cases e : rwE h hn lk n = 0
    · exact e
    · rw [rwN, if_neg e] at hj; omega
  obtain ⟨h1, h8, rfl, _, h5⟩ := rwE_ok e
  exact cellF_lt (fun j h => by omega) (fun j hj => loF_lt hq h5 hp hn (Nat.le_refl _) h8 j hj) j
section
variable {o : Oper} {a : Act} {w : World}
theorem execC0 {x : Operand} {b : Nat} (ho : o.op = .fieldAddr 33 x 0) (hx : a.eval x = .pointer (some ⟨b, 0, none⟩)) : (execOp a.eval o).run Tryd.prog w = .ok (.value (.pointer (some ⟨b, 0, none⟩))) w := by
  unfold execOp
  simp only [ho, hx]
  simp [go_sem]
theorem execC1 {x : Operand} {b : Nat} (ho : o.op = .fieldAddr 33 x 1) (hx : a.eval x = .pointer (some ⟨b, 0, none⟩)) : (execOp a.eval o).run Tryd.prog w = .ok (.value (.pointer (some ⟨b, 1, none⟩))) w := by
  unfold execOp
  simp only [ho, hx]
  simp [go_sem]
theorem execC2 {x : Operand} {b : Nat} (ho : o.op = .fieldAddr 33 x 2) (hx : a.eval x = .pointer (some ⟨b, 0, none⟩)) : (execOp a.eval o).run Tryd.prog w = .ok (.value (.pointer (some ⟨b, 2, none⟩))) w := by
  unfold execOp
  simp only [ho, hx]
  simp [go_sem]
theorem execLdLL {x : Operand} {b f : Nat} {v : Value} (ho : o.op = .load 30 x) (hx : a.eval x = .pointer (some ⟨b, f, none⟩)) (hc : w.cell? ⟨b, f, none⟩ = some v) : (execOp a.eval o).run Tryd.prog w = .ok (.value v) w := by
  unfold execOp
  simp only [ho, hx]
  simp [go_sem, hc]
theorem execLdLA {x : Operand} {b f : Nat} {v : Value} (ho : o.op = .load 31 x) (hx : a.eval x = .pointer (some ⟨b, f, none⟩)) (hc : w.cell? ⟨b, f, none⟩ = some v) : (execOp a.eval o).run Tryd.prog w = .ok (.value v) w := by
  unfold execOp
  simp only [ho, hx]
  simp [go_sem, hc]
end
end Go.Proofs.YtcffmmeafnapiaaDoor.Rou
