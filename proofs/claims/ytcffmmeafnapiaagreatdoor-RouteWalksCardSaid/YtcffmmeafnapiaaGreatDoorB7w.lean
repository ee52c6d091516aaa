import Derived.Test.YtcffmmeafnapiaaGreatDoorB7g
import Derived.Test.YtcffmmeafnapiaaGreatDoorB7d
import Derived.Test.YtcffmmeafnapiaaGreatDoorX5k
import Derived.Test.YtcffmmeafnapiaaGreatDoorB7v
import Derived.Test.YtcffmmeafnapiaaGreatDoorB7p
import Derived.Test.YtcffmmeafnapiaaGreatDoorX6n
namespace Go.Proofs.YtcffmmeafnapiaaGreatDoor.Rou
open Go.RowKit Gf8 Aes By8 Cel Oni
/- awake. Written by tools/mkB7h.py. -/

section
variable {o : Oper} {a : Act} {w : World}
theorem execEq0E {x : Operand} (ho : o.op = .binOp .eql 28 x (.const (.int .i64 0)) 28) (hx : a.eval x = .int .i64 0) : (execOp a.eval o).run Tryz.prog w = .ok (.value (.bool true)) w := by
  unfold execOp
  simp only [ho, hx]
  simp [go_sem]
theorem execEqI3 {x : Operand} {p : Int} (ho : o.op = .binOp .eql 3 x (.const (.int .i64 p)) 3) (hx : a.eval x = .int .i64 p) : (execOp a.eval o).run Tryz.prog w = .ok (.value (.bool true)) w := by
  unfold execOp
  simp only [ho, hx]
  simp [go_sem]
theorem execEq1U {x : Operand} (ho : o.op = .binOp .eql 5 x (.const (.int .u8 1)) 5) (hx : a.eval x = .int .u8 1) : (execOp a.eval o).run Tryz.prog w = .ok (.value (.bool true)) w := by
  unfold execOp
  simp only [ho, hx]
  simp [go_sem]
theorem execNeqD {x y : Operand} {s t : ByteArray} (ho : o.op = .binOp .neq 9 x y 9) (hx : a.eval x = .string s) (hy : a.eval y = .string t) (h : s.toList ≠ t.toList) : (execOp a.eval o).run Tryz.prog w = .ok (.value (.bool true)) w := by
  unfold execOp
  simp only [ho, hx, hy]
  simp [go_sem, h]
theorem execBsL {x : Operand} {r : Value} (ho : o.op = .buildSlice 22 1 #[(0, x)]) (hx : a.eval x = r) (hr : ∃ g n c, r = .slice g n c) : (execOp a.eval o).run Tryz.prog w = .ok (.value (.slice (some ⟨w.heap.size, 0, none⟩) 1 1)) (w.alloc (.cells #[r] 23)) := by
  obtain ⟨g, n, c, rfl⟩ := hr
  unfold execOp
  simp only [ho, List.map_toArray, List.map_cons, List.map_nil, hx]
  simp [go_sem]
theorem fill16 (f : Nat → Nat) : Instr.fill (fun i => some (i * 16, 16)) ((Array.range (1 * 16)).map ((bA 16 fun _ => 0)[· % (bA 16 fun _ => 0).size]!)) [(0, .agg (bA 16 f))] = some (bA 16 f) := by
  kernel_rfl
theorem execBsA {x : Operand} {f : Nat → Nat} (ho : o.op = .buildSlice 37 1 #[(0, x)]) (hx : a.eval x = .agg (bA 16 f)) : (execOp a.eval o).run Tryz.prog w = .ok (.value (.slice (some ⟨w.heap.size, 0, none⟩) 1 1)) (w.alloc (.cells (bA 16 f) 36)) := by
  have hz : (zeroValue 36).run Tryz.prog w = .ok (.agg (bA 16 fun _ => 0)) w := zero16 w
  have hs : (sizeOf 36).run Tryz.prog w = .ok 16 w := by simp [go_sem]
  have hf := fill16 f
  have e : (#[((0 : Nat), x)] : Array (Nat × Operand)).map (fun (i, y) => (i, a.eval y)) = #[(0, .agg (bA 16 f))] := by simp [hx]
  have hr : (Instr.buildSlice 37 1 #[(0, .agg (bA 16 f))]).run Tryz.prog w = .ok (.slice (some ⟨w.heap.size, 0, none⟩) 1 1) (w.alloc (.cells (bA 16 f) 36)) := by
    simp only [Instr.buildSlice, Sem.run_bind, run_underlying Tryz.underlying37, Result.andThen_ok, hs]
    rw [if_neg (by decide), if_neg (by decide)]
    simp only [Sem.run_bind, Sem.run_pure, Result.andThen_ok, hz, Value.cells, hf]
    simp [newRow]
  unfold execOp
  simp only [ho, e, Sem.run_bind, hr, Result.andThen_ok, Sem.run_pure]
end
def xF : Nat → Nat := fun _ => 120
theorem x_slice {W : World} {g : Nat} {fr : Nat × Nat} (h : W.heap[g]? = some (.cells #[.int .u8 120] 5 fr)) : SliceZ W (.slice (some ⟨g, 0, none⟩) 1 1) 1 xF :=
  ⟨lit_slice h (fun j hj => by
    match j, hj with
    | 0, _ => rfl) (fun j _ => by unfold xF; omega) (by omega), fun l c e => by cases e⟩
theorem one_cells {W : World} {g : Nat} {r : Value} {l : Nat} {p : Nat → Nat} {t : TypeId} (h : W.heap[g]? = some (.cells #[r] t)) (hr : SliceN W r l p) (hl : l ≤ 140737488351232) (hn : ∀ l c, r = .slice none l c → c = 0) : Cells W (.slice (some ⟨g, 0, none⟩) 1 1) 1 (fun _ => r) (fun _ => l) fun _ => p :=
  ⟨⟨_, _, rfl, Nat.le_refl _, by omega, fun _ => ⟨g, 0, rfl, (Array.getElem?_eq_some_iff.1 h).1, fun i hi => by
    obtain rfl : i = 0 := by omega
    rw [cell_of_row _ _ _ _ _ _ h]; rfl⟩⟩, fun _ _ => hr, fun _ _ => hn, fun _ _ => hl⟩
theorem one_nons {W : World} {g : Nat} {f : Nat → Nat} {t : TypeId} (h : W.heap[g]? = some (.cells (bA 16 f) t)) (hf : By f) : Nons W (.slice (some ⟨g, 0, none⟩) 1 1) 1 fun _ => f :=
  ⟨⟨_, _, rfl, Nat.le_refl _, by omega, fun _ => ⟨g, 0, rfl, (Array.getElem?_eq_some_iff.1 h).1, fun i hi j hj => by
    obtain rfl : i = 0 := by omega
    rw [cell_of_row _ _ _ _ _ _ h, Nat.zero_mul, Nat.add_zero, Nat.zero_add]
    exact bA_at 16 f hj⟩⟩, fun _ _ => hf⟩
set_option maxRecDepth 20000 in
set_option maxHeartbeats 2000000 in
theorem awake8_any (V : World) (hG : Glob V) : Calls Tryz.prog 4 #[] V fun e w' => e = .returned (.bool true) ∧ Below V.heap.size V w' := by
  have kc := fun (w : World) (C : Array Value) (n c : Nat) => Lib.run_convert_bytes_const (P := Tryz.prog) w 23 5 C n c Tryz.underlying23 Tryz.underlying5
  have HG : Hid (Glob V) := hG
  obtain ⟨ky, hky⟩ : ∃ ky, rk (fun _ => 0) 1 = ky := ⟨_, rfl⟩
  have KY : Hid ((∀ j, ky j < 256) ∧ (strN ky 32).toList ≠ (strN (fun _ => 0) 32).toList) := by
    refine ⟨fun j => by rw [← hky]; exact rk_lt _ _ j, fun e => ?_⟩
    have h0 := list_inj (p := ky) (q := fun _ => 0) (n := 32) (fun j _ => by rw [← hky]; exact rk_lt _ _ j) (fun _ _ => by omega) e 0 (by omega)
    rw [← hky, rk_awake (fun _ _ => rfl)] at h0
    cases h0
  have r0 := heapNew V (.cells (bA 32 fun _ => 0) 5)
  have b0 := belNew V (.cells (bA 32 fun _ => 0) 5)
  have PK := pkey_any (fun _ => 0) 32 1 (.slice (some ⟨V.heap.size, 0, none⟩) 32 32) (V.alloc (.cells (bA 32 fun _ => 0) 5)) (hG.below b0 hG.sz) (row_slice r0 (fun _ _ => by omega) (by omega))
  rw [show rkE 32 1 = 0 from rfl, show rkN 32 1 = 32 from rfl, show (1 : Int).toNat = 1 from rfl, hky] at PK
  obtain ⟨cw, hcw⟩ : ∃ cw, rwF 1 (fun _ _ => 0) (fun _ => oneF) 1 xF = cw := ⟨_, rfl⟩
  have CW : Hid (cw 0 = 1) := by
    show cw 0 = 1
    rw [← hcw, rw_ce (by omega), ce_cw (m := 0) (by omega), cw_in 0 (by decide), wr_nonce 0 (by omega)]
    rfl
  have WR : Hid (∀ (W : World) (kv nv pv : Value) (xr : Value), Glob W → Cells W kv 1 (fun _ => xr) (fun _ => 32) (fun _ _ => 0) → Nons W nv 1 (fun _ => oneF) → SliceZ W pv 1 xF → Calls Tryz.prog 9 #[kv, nv, pv] W fun e w' => ∃ r, e = .returned (.tuple #[r, .int .i64 0]) ∧ w'.ownsRow W.heap.size 5 1 r 320 (bytesL 320 cw) ∧ Below W.heap.size W w') := fun W kv nv pv xr hg h1 h2 h3 => by
    have := rwrap8_any kv nv pv 1 1 1 (fun _ => xr) (fun _ => 32) (fun _ _ => 0) (fun _ => oneF) xF W hg h1 h2 h3 (by omega) (by omega) (by omega)
    rw [show rwE 1 1 (fun _ => 32) 1 = 0 from rfl, show rwN 1 1 (fun _ => 32) 1 = 320 from rfl, hcw] at this
    exact this
  have B0 : Hid (Below V.heap.size V (V.alloc (.cells (bA 32 fun _ => 0) 5))) := b0
  clear hG hky hcw r0 b0
  go_enter Tryz.func4, Tryz.ntmps4
  go_wp2_with (first
    | (refine wpList_ex rfl (execMk (w := w1) (l := 32) (n := 32) rfl rfl rfl (Nat.le_refl _) (by omega)) ?_
       obtain ⟨X0, hX0⟩ : ∃ X0, w1.alloc (.cells (bA 32 fun _ => 0) 5) = X0 := ⟨_, rfl⟩
       have x0 := heapNew w1 (.cells (bA 32 fun _ => 0) 5)
       have y0 := belNew w1 (.cells (bA 32 fun _ => 0) 5)
       rw [hX0] at x0 y0 ⊢
       have Y0 : Hid (X0.heap[w1.heap.size]? = some (.cells (bA 32 fun _ => 0) 5) ∧ Below w1.heap.size w1 X0) := ⟨x0, y0⟩
       clear x0 y0 hX0)
    | (refine wpList_ex rfl (execMk (l := 32) (n := 32) rfl rfl rfl (Nat.le_refl _) (by omega)) ?_)
    | (go_at_call 8; refine PK.mono ?_; rintro e w1 ⟨r1, rfl, own1, hb1⟩; obtain ⟨kg, kp, rfl, _, hc1, _⟩ := own_cells own1 (by decide); have S1 : Hid (Below V.heap.size V w1 ∧ SliceN w1 (.slice (some ⟨kg, 0, none⟩) 32 kp) 32 ky) := ⟨B0.out.trans (hb1.mono B0.out.size), own_slice own1 (fun j _ => KY.out.1 j)⟩; clear own1 hb1 hc1)
    | (refine wpList_ex rfl (execBsL (w := X0) (x := .tmp 11) (r := .slice (some ⟨w1.heap.size, 0, none⟩) 32 32) rfl rfl ⟨_, _, _, rfl⟩) ?_
       obtain ⟨X1, hX1⟩ : ∃ X1, X0.alloc (.cells #[.slice (some ⟨w1.heap.size, 0, none⟩) 32 32] 23) = X1 := ⟨_, rfl⟩
       have x1 := heapNew X0 (.cells #[.slice (some ⟨w1.heap.size, 0, none⟩) 32 32] 23)
       have y1 := belNew X0 (.cells #[.slice (some ⟨w1.heap.size, 0, none⟩) 32 32] 23)
       rw [hX1] at x1 y1 ⊢
       have Y1 : Hid (X1.heap[X0.heap.size]? = some (.cells #[.slice (some ⟨w1.heap.size, 0, none⟩) 32 32] 23) ∧ Below X0.heap.size X0 X1) := ⟨x1, y1⟩
       clear x1 y1 hX1)
    | (refine wpList_ex rfl (execB16o rfl) ?_)
    | (refine wpList_ex rfl (execBsA (w := X1) (x := .tmp 13) (f := oneF) rfl rfl) ?_
       obtain ⟨X2, hX2⟩ : ∃ X2, X1.alloc (.cells (bA 16 oneF) 36) = X2 := ⟨_, rfl⟩
       have x2 := heapNew X1 (.cells (bA 16 oneF) 36)
       have y2 := belNew X1 (.cells (bA 16 oneF) 36)
       rw [hX2] at x2 y2 ⊢
       have Y2 : Hid (X2.heap[X1.heap.size]? = some (.cells (bA 16 oneF) 36) ∧ Below X1.heap.size X1 X2) := ⟨x2, y2⟩
       clear x2 y2 hX2))
  go_at_call 9
  obtain ⟨X3, hX3⟩ : ∃ X3, X2.alloc (.cells #[.int .u8 120] 5 (1, 2)) = X3 := ⟨_, rfl⟩
  have x3 := heapNew X2 (.cells #[.int .u8 120] 5 (1, 2))
  have y3 := belNew X2 (.cells #[.int .u8 120] 5 (1, 2))
  rw [hX3] at x3 y3
  obtain ⟨x0, y0⟩ := Y0.out
  obtain ⟨x1, y1⟩ := Y1.out
  obtain ⟨x2, y2⟩ := Y2.out
  have z1 := (one_cells x1 ((row_slice x0 (fun _ _ => by omega) (by omega)).on y1) (by omega) (fun l c e => by cases e)).on (y2.trans (y3.mono y2.size))
  have z2 := (one_nons x2 oneF_by).on y3
  have z3 := x_slice x3
  have bb := (((S1.out.1.trans (y0.mono S1.out.1.size)).trans (y1.mono (Nat.le_trans S1.out.1.size y0.size))).trans (y2.mono (Nat.le_trans S1.out.1.size (Nat.le_trans y0.size y1.size)))).trans (y3.mono (Nat.le_trans S1.out.1.size (Nat.le_trans y0.size (Nat.le_trans y1.size y2.size))))
  have s4 := (((S1.out.2.on y0).on y1).on y2).on y3
  refine Calls.mono (by first | exact (WR.out X3 _ _ _ _ (HG.out.below bb HG.out.sz) z1 z2 z3) | (rw [hX3]; exact (WR.out X3 _ _ _ _ (HG.out.below bb HG.out.sz) z1 z2 z3))) ?_
  rintro e w4 ⟨r4, rfl, own4, hb4⟩
  obtain ⟨cg, cc, rfl, _, hc4, hcl4⟩ := own_cells own4 (by decide)
  have c4 := hcl4 0 (by decide)
  rw [CW.out] at c4
  have S4 : Hid (Below V.heap.size V w4 ∧ True ∧ SliceN w4 (.slice (some ⟨kg, 0, none⟩) 32 kp) 32 ky ∧ (cg < w4.heap.size ∧ w4.cell? ⟨cg, 0, none⟩ = some (.int .u8 1)) ∧ (strN ky 32).toList ≠ (strN (fun _ => 0) 32).toList) := ⟨bb.trans (hb4.mono bb.size), trivial, s4.on hb4, ⟨World.block_lt_of_cell? _ _ c4, c4⟩, KY.out.2⟩
  clear own4 hb4 hc4 hcl4 c4 x0 y0 x1 y1 x2 y2 x3 y3 z1 z2 z3 bb s4 hX3
  go_wp2_with fail
  refine wp_region_det 49 [(0, 20), (1, 21), (2, 22), (3, 23), (4, 24), (5, 25), (6, 26), (7, 27), (8, 28), (9, 29), (10, 30), (11, 31), (12, 32), (13, 33), (14, 34), (15, 35), (16, 36), (17, 37), (18, 38), (19, 39), (20, 40), (21, 41), (22, 42), (23, 43), (24, 44), (25, 45), (26, 46), (27, 47), (28, 48), (29, 0)] (fun i => match i with | 0 => .int .i64 0 | 1 => .bool true | 2 => .bool true | 3 => .int .i64 0 | 4 => .bool true | 5 => .bool true | 6 => .bool true | 7 => .slice (some ⟨kg, 0, none⟩) 32 kp | 8 => .int .i64 32 | 9 => .bool true | 10 => .bool true | 11 => .bool true | 12 => .slice (some ⟨kg, 0, none⟩) 32 kp | 13 => .string (strN ky 32) | 14 => .slice (some ⟨w4.heap.size, 0, none⟩) 32 32 | 15 => .string (strN (fun _ => 0) 32) | 16 => .bool true | 17 => .bool true | 18 => .bool true | 19 => .slice (some ⟨cg, 0, none⟩) 320 cc | 20 => .int .i64 320 | 21 => .bool true | 22 => .bool true | 23 => .bool true | 24 => .slice (some ⟨cg, 0, none⟩) 320 cc | 25 => .pointer (some ⟨cg, 0, none⟩) | 26 => .int .u8 1 | 27 => .bool true | 28 => .bool true | 29 => .bool true | _ => undef) (fun l X => Below w4.heap.size w4 X ∧ (l 14 = false → X.heap.size = w4.heap.size) ∧ (l 14 = true → X.heap[w4.heap.size]? = some (.cells (bA 32 fun _ => 0) 5))) (by kernel_rfl) (by kernel_rfl) rfl (by kernel_rfl) (by decide) (by decide) ?_ ?_ ?_
  · exact ⟨(Below.refl _ _).drew, fun _ => rfl, fun q => by cases q⟩
  · intro j hj l a X hl hf hdep hl2 hcl _ hT
    match j, hj with
    | 0, _ => exact stepV rfl rfl (execMvB rfl (hf 2 (by decide))) ⟨⟨_, rfl, rfl⟩, hT.1, fun q => hT.2.1 q, fun q => hT.2.2 q⟩
    | 1, _ => exact stepV rfl rfl (execEq0E rfl (hdep _ rfl 0 rfl _ rfl _ rfl)) ⟨⟨_, rfl, rfl⟩, hT.1, fun q => hT.2.1 q, fun q => hT.2.2 q⟩
    | 2, _ => exact stepV rfl rfl (execMvB rfl (hdep _ rfl 1 rfl _ rfl _ rfl)) ⟨⟨_, rfl, rfl⟩, hT.1, fun q => hT.2.1 q, fun q => hT.2.2 q⟩
    | 3, _ => exact stepV rfl (wantedOf rfl (yieldedAt rfl rfl (show a.eval (.tmp 22) = .bool true from (hdep _ rfl 2 rfl _ rfl _ rfl)))) (execMvB rfl (hf 4 (by decide))) ⟨⟨_, rfl, rfl⟩, hT.1, fun q => hT.2.1 q, fun q => hT.2.2 q⟩
    | 4, _ => exact stepV rfl (wantedOf rfl (yieldedAt rfl rfl (show a.eval (.tmp 22) = .bool true from (hdep _ rfl 2 rfl _ rfl _ rfl)))) (execEq0E rfl (hdep _ rfl 3 rfl _ rfl _ rfl)) ⟨⟨_, rfl, rfl⟩, hT.1, fun q => hT.2.1 q, fun q => hT.2.2 q⟩
    | 5, _ => exact stepV rfl rfl (execPick (b := true) rfl (hdep _ rfl 2 rfl _ rfl _ rfl) (hdep _ rfl 4 rfl _ rfl _ rfl)) ⟨⟨_, rfl, rfl⟩, hT.1, fun q => hT.2.1 q, fun q => hT.2.2 q⟩
    | 6, _ => exact stepV rfl rfl (execMvB rfl (hdep _ rfl 5 rfl _ rfl _ rfl)) ⟨⟨_, rfl, rfl⟩, hT.1, fun q => hT.2.1 q, fun q => hT.2.2 q⟩
    | 7, _ => exact stepV rfl (wantedOf rfl (yieldedAt rfl rfl (show a.eval (.tmp 26) = .bool true from (hdep _ rfl 6 rfl _ rfl _ rfl)))) (execMvB rfl (hf 1 (by decide))) ⟨⟨_, rfl, rfl⟩, hT.1, fun q => hT.2.1 q, fun q => hT.2.2 q⟩
    | 8, _ => exact stepV rfl (wantedOf rfl (yieldedAt rfl rfl (show a.eval (.tmp 26) = .bool true from (hdep _ rfl 6 rfl _ rfl _ rfl)))) (execLenV (len := 32) rfl (hdep _ rfl 7 rfl _ rfl _ rfl) ⟨_, _, rfl⟩) ⟨⟨_, rfl, rfl⟩, hT.1, fun q => hT.2.1 q, fun q => hT.2.2 q⟩
    | 9, _ => exact stepV rfl (wantedOf rfl (yieldedAt rfl rfl (show a.eval (.tmp 26) = .bool true from (hdep _ rfl 6 rfl _ rfl _ rfl)))) (execEqI3 rfl (hdep _ rfl 8 rfl _ rfl _ rfl)) ⟨⟨_, rfl, rfl⟩, hT.1, fun q => hT.2.1 q, fun q => hT.2.2 q⟩
    | 10, _ => exact stepV rfl rfl (execPick (b := true) rfl (hdep _ rfl 6 rfl _ rfl _ rfl) (hdep _ rfl 9 rfl _ rfl _ rfl)) ⟨⟨_, rfl, rfl⟩, hT.1, fun q => hT.2.1 q, fun q => hT.2.2 q⟩
    | 11, _ => exact stepV rfl rfl (execMvB rfl (hdep _ rfl 10 rfl _ rfl _ rfl)) ⟨⟨_, rfl, rfl⟩, hT.1, fun q => hT.2.1 q, fun q => hT.2.2 q⟩
    | 12, _ => exact stepV rfl (wantedOf rfl (yieldedAt rfl rfl (show a.eval (.tmp 31) = .bool true from (hdep _ rfl 11 rfl _ rfl _ rfl)))) (execMvB rfl (hf 1 (by decide))) ⟨⟨_, rfl, rfl⟩, hT.1, fun q => hT.2.1 q, fun q => hT.2.2 q⟩
    | 13, _ => exact stepV rfl (wantedOf rfl (yieldedAt rfl rfl (show a.eval (.tmp 31) = .bool true from (hdep _ rfl 11 rfl _ rfl _ rfl)))) (By8.execStr rfl (hdep _ rfl 12 rfl _ rfl _ rfl) (S4.out.2.2.1.on hT.1)) ⟨⟨_, rfl, rfl⟩, hT.1, fun q => hT.2.1 q, fun q => hT.2.2 q⟩
    | 14, _ =>
      have e := hT.2.1 hl
      have b := belNew X (.cells (bA 32 fun _ => 0) 5)
      have r := heapNew X (.cells (bA 32 fun _ => 0) 5)
      rw [e] at r
      refine stepV rfl (wantedOf rfl (yieldedAt rfl rfl (show a.eval (.tmp 31) = .bool true from (hdep _ rfl 11 rfl _ rfl _ rfl)))) (execMk (l := 32) (n := 32) rfl rfl rfl (Nat.le_refl _) (by omega)) ⟨⟨_, rfl, by rw [e]; rfl⟩, hT.1.trans (b.mono hT.1.size), fun q => (by cases q), fun _ => r⟩
    | 15, _ => exact stepV rfl (wantedOf rfl (yieldedAt rfl rfl (show a.eval (.tmp 31) = .bool true from (hdep _ rfl 11 rfl _ rfl _ rfl)))) (By8.execStr rfl (hdep _ rfl 14 rfl _ rfl _ rfl) (row_slice (hT.2.2 (hl2 _ rfl 14 rfl)) (fun _ _ => by omega) (by omega))) ⟨⟨_, rfl, rfl⟩, hT.1, fun q => hT.2.1 q, fun q => hT.2.2 q⟩
    | 16, _ => exact stepV rfl (wantedOf rfl (yieldedAt rfl rfl (show a.eval (.tmp 31) = .bool true from (hdep _ rfl 11 rfl _ rfl _ rfl)))) (execNeqD rfl (hdep _ rfl 13 rfl _ rfl _ rfl) (hdep _ rfl 15 rfl _ rfl _ rfl) S4.out.2.2.2.2) ⟨⟨_, rfl, rfl⟩, hT.1, fun q => hT.2.1 q, fun q => hT.2.2 q⟩
    | 17, _ => exact stepV rfl rfl (execPick (b := true) rfl (hdep _ rfl 11 rfl _ rfl _ rfl) (hdep _ rfl 16 rfl _ rfl _ rfl)) ⟨⟨_, rfl, rfl⟩, hT.1, fun q => hT.2.1 q, fun q => hT.2.2 q⟩
    | 18, _ => exact stepV rfl rfl (execMvB rfl (hdep _ rfl 17 rfl _ rfl _ rfl)) ⟨⟨_, rfl, rfl⟩, hT.1, fun q => hT.2.1 q, fun q => hT.2.2 q⟩
    | 19, _ => exact stepV rfl (wantedOf rfl (yieldedAt rfl rfl (show a.eval (.tmp 38) = .bool true from (hdep _ rfl 18 rfl _ rfl _ rfl)))) (execMvB rfl (hf 3 (by decide))) ⟨⟨_, rfl, rfl⟩, hT.1, fun q => hT.2.1 q, fun q => hT.2.2 q⟩
    | 20, _ => exact stepV rfl (wantedOf rfl (yieldedAt rfl rfl (show a.eval (.tmp 38) = .bool true from (hdep _ rfl 18 rfl _ rfl _ rfl)))) (execLenV (len := 320) rfl (hdep _ rfl 19 rfl _ rfl _ rfl) ⟨_, _, rfl⟩) ⟨⟨_, rfl, rfl⟩, hT.1, fun q => hT.2.1 q, fun q => hT.2.2 q⟩
    | 21, _ => exact stepV rfl (wantedOf rfl (yieldedAt rfl rfl (show a.eval (.tmp 38) = .bool true from (hdep _ rfl 18 rfl _ rfl _ rfl)))) (execEqI3 rfl (hdep _ rfl 20 rfl _ rfl _ rfl)) ⟨⟨_, rfl, rfl⟩, hT.1, fun q => hT.2.1 q, fun q => hT.2.2 q⟩
    | 22, _ => exact stepV rfl rfl (execPick (b := true) rfl (hdep _ rfl 18 rfl _ rfl _ rfl) (hdep _ rfl 21 rfl _ rfl _ rfl)) ⟨⟨_, rfl, rfl⟩, hT.1, fun q => hT.2.1 q, fun q => hT.2.2 q⟩
    | 23, _ => exact stepV rfl rfl (execMvB rfl (hdep _ rfl 22 rfl _ rfl _ rfl)) ⟨⟨_, rfl, rfl⟩, hT.1, fun q => hT.2.1 q, fun q => hT.2.2 q⟩
    | 24, _ => exact stepV rfl (wantedOf rfl (yieldedAt rfl rfl (show a.eval (.tmp 43) = .bool true from (hdep _ rfl 23 rfl _ rfl _ rfl)))) (execMvB rfl (hf 3 (by decide))) ⟨⟨_, rfl, rfl⟩, hT.1, fun q => hT.2.1 q, fun q => hT.2.2 q⟩
    | 25, _ => exact stepV rfl (wantedOf rfl (yieldedAt rfl rfl (show a.eval (.tmp 43) = .bool true from (hdep _ rfl 23 rfl _ rfl _ rfl)))) (execIdxS0 (k := 0) rfl (hdep _ rfl 24 rfl _ rfl _ rfl) rfl (by omega)) ⟨⟨_, rfl, rfl⟩, hT.1, fun q => hT.2.1 q, fun q => hT.2.2 q⟩
    | 26, _ => exact stepV rfl (wantedOf rfl (yieldedAt rfl rfl (show a.eval (.tmp 43) = .bool true from (hdep _ rfl 23 rfl _ rfl _ rfl)))) (execLdB rfl (hdep _ rfl 25 rfl _ rfl _ rfl) (by rw [cell_below hT.1 S4.out.2.2.2.1.1]; exact S4.out.2.2.2.1.2)) ⟨⟨_, rfl, rfl⟩, hT.1, fun q => hT.2.1 q, fun q => hT.2.2 q⟩
    | 27, _ => exact stepV rfl (wantedOf rfl (yieldedAt rfl rfl (show a.eval (.tmp 43) = .bool true from (hdep _ rfl 23 rfl _ rfl _ rfl)))) (execEq1U rfl (hdep _ rfl 26 rfl _ rfl _ rfl)) ⟨⟨_, rfl, rfl⟩, hT.1, fun q => hT.2.1 q, fun q => hT.2.2 q⟩
    | 28, _ => exact stepV rfl rfl (execPick (b := true) rfl (hdep _ rfl 23 rfl _ rfl _ rfl) (hdep _ rfl 27 rfl _ rfl _ rfl)) ⟨⟨_, rfl, rfl⟩, hT.1, fun q => hT.2.1 q, fun q => hT.2.2 q⟩
    | 29, _ => exact stepV rfl rfl (execAsgB rfl (hdep _ rfl 28 rfl _ rfl _ rfl)) ⟨⟨_, rfl, rfl⟩, hT.1, fun q => hT.2.1 q, fun q => hT.2.2 q⟩
    | k + 30, h => exact absurd h (by simp)
  · intro l X hall hT
    have S5 : Hid (Below V.heap.size V X) := S4.out.1.trans (hT.1.mono S4.out.1.size)
    clear hall hT
    simp only [putP, Act.put, List.setIfInBounds_toArray, List.set_cons_succ, List.set_cons_zero]
    go_wp2_with fail
    go_ret
    exact ⟨rfl, S5.out⟩
end Go.Proofs.YtcffmmeafnapiaaGreatDoor.Rou

namespace Go.Proofs.YtcffmmeafnapiaaGreatDoor.Rou
open Go.RowKit Gf8 Aes By8 Cel Oni
/- The reference's Walk; RouteWalks. -/

/-- What lies there behind i hops of the reference. -/
structure WrS (V W : World) (u ov : Value) (h len i : Nat) (key : Nat → Nat → Nat) (lk : Nat → Nat) (c : Nat → Nat) (cv : Nat → Value) : Prop where
  sl : SliceZ W u (wkL len i) (wkC h key c i)
  go : wkG h key lk len c i = 0
  row : W.ownsRow V.heap.size 39 17 ov i (yL (fun k => (pC (cv k) (wkR h key c k)).toList) i)
  own : ∀ k, k < i → W.ownsRow V.heap.size 5 1 (cv k) 320 (bytesL 320 (wkC h key c (k + 1)))
  bel : Below V.heap.size V W
theorem yL_upd (cv : Nat → Value) (r : Nat → Nat → Nat) (i : Nat) (v : Value) : yL (fun k => (pC (cv k) (r k)).toList) i = yL (fun k => (pC ((fun k => if k = i then v else cv k) k) (r k)).toList) i :=
  yL_congr i fun k hk => by
    have e : k ≠ i := by omega
    simp only [if_neg e]
theorem ownP_shape {W : World} {B n s : Nat} {t : TypeId} {v : Value} {xs : List Value} (h : W.ownsRow B t s v n xs) : ∃ a c, v = .slice a n c := by
  rcases h.2 with ⟨rfl, rfl⟩ | ⟨g, cap, cur, rfl, _⟩
  · exact ⟨_, _, rfl⟩
  · exact ⟨_, _, rfl⟩
theorem own_way {W : World} {B n : Nat} {v : Value} {cv : Nat → Value} {r c : Nat → Nat → Nat} (h : W.ownsRow B 39 17 v n (yL (fun k => (pC (cv k) (r k)).toList) n)) (ho : ∀ k, k < n → SliceN W (cv k) 320 (c k)) : WayN W v n r c := by
  rcases h.2 with ⟨rfl, rfl⟩ | ⟨g, cap, cur, rfl, _, hg, h1, h2, h3, h4⟩
  · exact ⟨none, 0, rfl, fun h => by omega⟩
  · refine ⟨_, _, rfl, fun _ => ⟨g, rfl, (Array.getElem?_eq_some_iff.1 hg).1, fun k hk => ⟨cv k, fun j u hu => ?_, ho k hk⟩⟩⟩
    have hj : j < 17 := by have := (List.getElem?_eq_some_iff.1 hu).1; rwa [pC_len] at this
    rw [cell_of_row _ _ _ _ _ _ hg]
    have e := yL_get (P := fun k => (pC (cv k) (r k)).toList) (fun k => pC_len _ _) n k j hk hj
    rw [← h4, List.getElem?_take, if_pos (by omega)] at e
    rw [← Array.getElem?_toList, e]
    exact hu
set_option maxRecDepth 20000 in
set_option maxHeartbeats 4000000 in
theorem refwalk_any (kv cv0 : Value) (h len : Nat) (xv : Nat → Value) (lk : Nat → Nat) (key : Nat → Nat → Nat) (c : Nat → Nat) (V : World) (hc : Cells V kv h xv lk key) (hz : SliceZ V cv0 len c) (hb1 : h ≤ 140737488351232) (hb2 : len ≤ 140737488351232) :
    Calls Tryz.prog 5 #[kv, cv0] V fun e w' => ∃ v, e = .returned (.tuple #[v, .int .i64 (wkE h key lk len c : Nat)]) ∧ WayN w' v (wkN h (wkE h key lk len c)) (wkR h key c) (fun k => wkC h key c (k + 1)) ∧ Below V.heap.size V w' := by
  obtain ⟨ca, kc, rfl, _, _, hs⟩ := id hc.shape
  obtain ⟨pa, pc, rfl⟩ := id hz.shape
  have nilw : ∀ (W : World) r cc, WayN W (.slice none 0 0) 0 r cc := fun W r cc => ⟨none, 0, rfl, fun h => by omega⟩
  have NW : Hid (∀ (W : World) r cc, WayN W (.slice none 0 0) 0 r cc) := nilw
  have l1 : (h : Int) ≤ 140737488351232 := by omega
  by_cases h1 : h < 1
  · have E : wkE h key lk len c = 80 := if_pos (by omega)
    rw [E, show wkN h 80 = 0 from if_neg (by omega)]
    have i1 : (h : Int) < 1 := by omega
    clear E hc hz hb1 hb2 hs nilw h1
    go_enter Tryz.func5, Tryz.ntmps5
    go_wp2_with fail
    refine bodyPost_ret (results_tmp2 rfl _ _ _) rfl ⟨_, rfl, NW.out _ _ _, Below.refl _ _⟩
  · have i1 : ¬ (h : Int) < 1 := by omega
    by_cases h8 : 8 < h
    · have E : wkE h key lk len c = 80 := if_pos (by omega)
      rw [E, show wkN h 80 = 0 from if_neg (by omega)]
      have i2 : (h : Int) > 8 := by omega
      clear E hc hz hb1 hb2 hs nilw h1 h8
      go_enter Tryz.func5, Tryz.ntmps5
      go_wp2_with fail
      refine bodyPost_ret (results_tmp2 rfl _ _ _) rfl ⟨_, rfl, NW.out _ _ _, Below.refl _ _⟩
    · have i2 : ¬ (h : Int) > 8 := by omega
      obtain ⟨kb, ko, rfl, hs1, hs2⟩ := hs (by omega)
      have KK : Hid (kb < V.heap.size ∧ ∀ i, i < h → V.cell? ⟨kb, ko + i, none⟩ = some (xv i)) := ⟨hs1, hs2⟩
      have HV : Hid (Cells V (.slice (some ⟨kb, ko, none⟩) h kc) h xv lk key ∧ SliceZ V (.slice pa len pc) len c ∧ len ≤ 140737488351232 ∧ 1 ≤ h ∧ h ≤ 8) := ⟨hc, hz, hb2, by omega, by omega⟩
      have EW : Hid (wkE h key lk len c = wkG h key lk len c h) := if_neg (by omega)
      have i8 : (h : Int) ≤ 8 := by omega
      have zp := zeroP
      clear hc hz hb1 hb2 hs hs1 hs2 nilw h1 h8
      go_enter Tryz.func5, Tryz.ntmps5
      go_wp2_with fail
      go_loopw [1, 7, 8] (fun u ov x W => ∃ (i : Nat) (cv : Nat → Value), i ≤ h ∧ x = .int .i64 (i : Int) ∧ WrS V W u ov h len i key lk c cv) (fun _ _ x _ => h - (intOf x).toNat)
      case atStart => exact ⟨0, fun _ => undef, Nat.zero_le _, rfl, HV.out.2.1, rfl, World.ownsRow_nil _ _ _ _, fun k hk => by omega, Below.refl _ _⟩
      case round =>
        obtain ⟨i, cv, hi, rfl, st⟩ := hrel
        obtain ⟨oa, oc, rfl⟩ := id st.sl.shape
        obtain ⟨va, vc, rfl⟩ := ownP_shape st.row
        have ST : Hid (WrS V wr (.slice oa (wkL len i) oc) (.slice va i vc) h len i key lk c cv) := st
        by_cases hlt : i < h
        · have j1 : (i : Int) < h := by omega
          obtain ⟨L, hL⟩ : ∃ L, h - i = L := ⟨_, rfl⟩
          have HI : Hid (i < h ∧ h = i + L ∧ h - i = L) := ⟨hlt, by omega, hL⟩
          have c1 : wr.cell? ⟨kb, ko + i, none⟩ = some (xv i) := by rw [cell_below st.bel KK.out.1]; exact KK.out.2 i hlt
          obtain ⟨E, hE⟩ : ∃ E, peE (lk i) (L : Int) (wkL len i) (key i) (wkC h key c i) = E := ⟨_, rfl⟩
          obtain ⟨rp, hrp⟩ : ∃ rp, peR E (key i) (wkC h key c i) = rp := ⟨_, rfl⟩
          have EG : Hid (wkG h key lk len c (i + 1) = E ∧ (E = 0 → rp = wkR h key c i)) := by
            refine ⟨?_, fun e => ?_⟩
            · rw [wkG_on st.go, hL]
              exact hE
            · rw [← hrp, e]
              rfl
          have PL := rpeel_any (key i) (wkC h key c i) (lk i) (wkL len i) (L : Int) (xv i) (.slice oa (wkL len i) oc) wr ((HV.out.1.cell i hlt).on st.bel) st.sl (wkL_le HV.out.2.2.1 i)
          rw [hE, hrp] at PL
          have ec : wkC h key c (i + 1) = peC (L : Int) (key i) (wkC h key c i) := by rw [← hL]; rfl
          rw [← ec] at PL
          by_cases h0 : E = 0
          · have E0 : Hid (E = 0) := h0
            obtain ⟨ya, yc, ey, _⟩ := (HV.out.1.cell i hlt).shape
            rw [ey] at c1 PL
            rw [h0] at PL
            have pn : peN 0 = 320 := rfl
            rw [pn] at PL
            clear st hi hlt hL hE hrp ec h0 ey pn
            go_wp2_with (first
              | (refine wpList_ex rfl (execIdxL (x := .tmp 25) (k := i) rfl rfl rfl HI.out.1) ?_)
              | (refine wpList_ex rfl (execLdL (x := .tmp 27) rfl rfl c1) ?_)
              | (refine wpList_ex rfl (execSubJ (x := .tmp 29) (p := h) (q := i) (r := L) rfl rfl rfl HI.out.2.1 (by have := HV.out; omega)) ?_)
              | (go_at_call 10; refine PL.mono ?_; rintro e w2 ⟨r2, rfl, own2, hb2⟩; obtain ⟨a2, c2, rfl⟩ := own_shapeJ own2; have S2 : Hid (w2.ownsRow wr.heap.size 5 1 (.slice a2 320 c2) 320 (bytesL 320 (wkC h key c (i + 1))) ∧ Below wr.heap.size wr w2) := ⟨own2, hb2⟩; clear own2 hb2)
              | (refine atStore 39 (.tmp 9) (.tmp 34) rfl ?_; go_must (refine wpList_exS rfl (execStAll (cells := pC (.slice a2 320 c2) rp) rfl rfl rfl (heapNew w2 _) (by rw [pC_size, pC_size]) (sizeP _ _) (pC_one _ rfl)) ?_; obtain ⟨W3, hW3⟩ : ∃ W3, (w2.alloc (.cells (pC (.slice none 0 0) fun _ => 0) 39)).setRow w2.heap.size (pC (.slice a2 320 c2) rp) = W3 := ⟨_, rfl⟩; have r3 : W3.heap[w2.heap.size]? = some (.cells (pC (.slice a2 320 c2) rp) 39) := (by rw [← hW3]; exact setRow_heap _ _ _ _ _ _ (heapNew w2 _)); have b3 : Below w2.heap.size w2 W3 := (by rw [← hW3]; exact below4 (belNew w2 _) (Nat.le_refl _) _); have b13 := S2.out.2.trans (b3.mono S2.out.2.size); have S3 : Hid (W3.heap[w2.heap.size]? = some (.cells (pC (.slice a2 320 c2) rp) 39) ∧ W3.ownsRow wr.heap.size 5 1 (.slice a2 320 c2) 320 (bytesL 320 (wkC h key c (i + 1))) ∧ Below wr.heap.size wr W3) := ⟨r3, ownsRow_below S2.out.1 b3, b13⟩; rw [hW3]; clear r3 b3 b13 hW3))
              | (refine atLoad 39 (.tmp 9) rfl ?_; go_must (refine wpList_ex rfl (execLdAll rfl rfl S3.out.1 Tryz.underlying39 rfl (sizeP _ _)) ?_))
              | (refine atBsP (.tmp 40) rfl ?_; go_must (refine wpList_ex rfl (execBsP (w := W3) (x := .tmp 40) (v := .slice a2 320 c2) (r := rp) rfl rfl) ?_; obtain ⟨W4, hW4⟩ : ∃ W4, W3.alloc (.cells (pC (.slice a2 320 c2) rp) 39) = W4 := ⟨_, rfl⟩; have r4 := heapNew W3 (.cells (pC (.slice a2 320 c2) rp) 39); have b4 := belNew W3 (.cells (pC (.slice a2 320 c2) rp) 39); rw [hW4] at r4 b4; have b14 := S3.out.2.2.trans (b4.mono S3.out.2.2.size); have S4 : Hid (W4.heap[W3.heap.size]? = some (.cells (pC (.slice a2 320 c2) rp) 39) ∧ W4.heap[w2.heap.size]? = some (.cells (pC (.slice a2 320 c2) rp) 39) ∧ W4.ownsRow wr.heap.size 5 1 (.slice a2 320 c2) 320 (bytesL 320 (wkC h key c (i + 1))) ∧ Below wr.heap.size wr W4 ∧ W4.ownsRow V.heap.size 39 17 (.slice va i vc) i (yL (fun k => (pC ((fun k => if k = i then .slice a2 320 c2 else cv k) k) (wkR h key c k)).toList) i)) := ⟨r4, (by rw [b4.block _ (Array.getElem?_eq_some_iff.1 S3.out.1).1]; exact S3.out.1), ownsRow_below S3.out.2.1 b4, b14, (by have := ownW_below ST.out.row b14; rw [yL_upd cv (wkR h key c) i (.slice a2 320 c2)] at this; exact this)⟩; rw [hW4]; clear r4 b4 b14 hW4))
              | (refine atAppW (.tmp 39) (.tmp 41) rfl ?_; go_must (refine wpList_appW (B := V.heap.size) (v := .slice va i vc) (n := i) (g := W3.heap.size) (u := .slice a2 320 c2) (rp := rp) (P := fun k => (pC ((fun k => if k = i then .slice a2 320 c2 else cv k) k) (wkR h key c k)).toList) rfl (.tmp 39) (.tmp 41) rfl rfl rfl S4.out.2.2.2.2 S4.out.1 (by simp only [if_true]; rw [← EG.out.2 E0.out]) rfl (by have := HV.out; have := HI.out; omega) (Nat.le_trans ST.out.bel.size S4.out.2.2.2.1.size) ?_; intro v5 W5 own5 gr5; obtain ⟨v5a, v5c, rfl⟩ := ownP_shape own5; have ne5 : some w2.heap.size ≠ (Value.slice va i vc).ownBlock := (fun q => by have := (ST.out.row.lt w2.heap.size q.symm).2; have := S2.out.2.size; omega); have r5 : W5.heap[w2.heap.size]? = some (.cells (pC (.slice a2 320 c2) rp) 39) := (by rw [gr5.block _ (Array.getElem?_eq_some_iff.1 S4.out.2.1).1 ne5]; exact S4.out.2.1); have ce := pC_at r5; have N5 : Hid (WrS V W5 (.slice a2 320 c2) (.slice v5a (i + 1) v5c) h len (i + 1) key lk c (fun k => if k = i then .slice a2 320 c2 else cv k)) := (by
                  have o2 := own5_grown S4.out.2.2.1 S4.out.2.2.2.2 (by decide) gr5
                  refine ⟨own_sliceZ o2 (fun j hj => wkC_lt HV.out.2.1.sl.bytes (i + 1) (EG.out.1.trans E0.out) j hj), EG.out.1.trans E0.out, own5, fun k hk => ?_, (ST.out.bel.trans (S4.out.2.2.2.1.mono ST.out.bel.size)).grown gr5 (Nat.le_trans ST.out.bel.size S4.out.2.2.2.1.size) (fun k hk => (ST.out.row.lt k hk).1)⟩
                  by_cases e : k = i
                  · subst e
                    simp only [if_true]
                    exact own_base o2 ST.out.bel.size
                  · simp only [if_neg e]
                    exact own5_grown (ownsRow_below (ST.out.own k (by omega)) S4.out.2.2.2.1) S4.out.2.2.2.2 (by decide) gr5); clear own5 gr5 r5 ne5)))
            go_roundw
            case rel => exact ⟨i + 1, _, HI.out.1, by go_num, N5.out⟩
            case measure => have := HI.out.1; simp [intOf]; omega
          · have i3 : ((E : Int) != 0) = true := by simp; omega
            obtain ⟨ya, yc, ey, _⟩ := (HV.out.1.cell i hlt).shape
            rw [ey] at c1 PL
            have EE : Hid (wkE h key lk len c = E ∧ wkN h E = 0) := by
              refine ⟨?_, if_neg h0⟩
              rw [EW.out, wkG_stop (i := i + 1) (by rw [EG.out.1]; exact h0) (by omega)]
              exact EG.out.1
            clear st hi hlt hL hE hrp ec h0 ey
            go_wp2_with (first
              | (refine wpList_ex rfl (execIdxL (x := .tmp 25) (k := i) rfl rfl rfl HI.out.1) ?_)
              | (refine wpList_ex rfl (execLdL (x := .tmp 27) rfl rfl c1) ?_)
              | (refine wpList_ex rfl (execSubJ (x := .tmp 29) (p := h) (q := i) (r := L) rfl rfl rfl HI.out.2.1 (by have := HV.out; omega)) ?_)
              | (go_at_call 10; refine PL.mono ?_; rintro e w2 ⟨r2, rfl, own2, hb2⟩; obtain ⟨a2, c2, rfl⟩ := own_shapeJ own2; have S2 : Hid (Below wr.heap.size wr w2) := hb2; clear own2 hb2)
              | (refine atStore 39 (.tmp 9) (.tmp 34) rfl ?_; go_must (refine wpList_exS rfl (execStAll (cells := pC (.slice a2 (peN E) c2) rp) rfl rfl rfl (heapNew w2 _) (by rw [pC_size, pC_size]) (sizeP _ _) (pC_one _ rfl)) ?_)))
            have bb := ST.out.bel.trans ((S2.out.trans ((below4 (belNew w2 (.cells (pC (.slice none 0 0) fun _ => 0) 39)) (Nat.le_refl _) (pC (.slice a2 (peN E) c2) rp)).mono S2.out.size)).mono ST.out.bel.size)
            refine bodyPost_ret (results_tmp2 rfl _ _ _) rfl ⟨_, by rw [EE.out.1]; rfl, by rw [EE.out.1, EE.out.2]; exact NW.out _ _ _, bb⟩
        · have j1 : ¬ (i : Int) < h := by omega
          obtain rfl : i = h := by omega
          have EE : Hid (wkE i key lk len c = 0 ∧ wkN i 0 = i) := ⟨EW.out.trans st.go, rfl⟩
          have WW : Hid (WayN wr (.slice va i vc) i (wkR i key c) (fun k => wkC i key c (k + 1))) := own_way st.row fun k hk => own_slice (st.own k hk) (fun j hj => wkC_lt HV.out.2.1.sl.bytes (k + 1) (wkG_0 st.go (by omega)) j hj)
          clear st hi hlt
          go_wp2_with fail
          refine bodyPost_ret (results_tmp2 rfl _ _ _) rfl ⟨_, by rw [EE.out.1]; rfl, by rw [EE.out.1, EE.out.2]; exact WW.out, ST.out.bel⟩
set_option maxRecDepth 20000 in
set_option maxHeartbeats 1000000 in
theorem walks8_any (kv cv0 : Value) (h len : Nat) (xv : Nat → Value) (lk : Nat → Nat) (key : Nat → Nat → Nat) (c : Nat → Nat) (V : World) (hG : Glob V) (hc : Cells V kv h xv lk key) (hz : SliceZ V cv0 len c) (hb1 : h ≤ 140737488351232) (hb2 : len ≤ 140737488351232) :
    Calls Tryz.prog 3 #[kv, cv0] V fun e w' => e = .returned (.bool true) ∧ Below V.heap.size V w' := by
  have A := awake8_any V hG
  obtain ⟨E, hE⟩ : ∃ E, wkE h key lk len c = E := ⟨_, rfl⟩
  obtain ⟨N, hN⟩ : ∃ N, wkN h E = N := ⟨_, rfl⟩
  have HN : Hid (N ≤ 8) := by
    show N ≤ 8
    rw [← hN]
    unfold wkN
    split
    · rename_i e
      rw [← hE] at e
      unfold wkE at e
      split at e
      · omega
      · omega
    · omega
  have CL : Hid (∀ k, k < N → ∀ j, j < 320 → wkC h key c (k + 1) j < 256) := fun k hk j hj => by
    have e0 : E = 0 := by
      by_cases e : E = 0
      · exact e
      · rw [wkN, if_neg e] at hN; omega
    rw [← hE] at e0
    unfold wkE at e0
    split at e0
    · omega
    · have : N ≤ h := by rw [← hN]; unfold wkN; split <;> omega
      exact wkC_lt hz.sl.bytes (k + 1) (wkG_0 e0 (by omega)) j hj
  have RW : Hid (∀ W, Below V.heap.size V W → Calls Tryz.prog 5 #[kv, cv0] W fun e w' => ∃ v, e = .returned (.tuple #[v, .int .i64 (E : Int)]) ∧ WayN w' v N (wkR h key c) (fun k => wkC h key c (k + 1)) ∧ Below W.heap.size W w') := fun W hW => by
    have h := refwalk_any kv cv0 h len xv lk key c W (hc.on hW) (hz.on hW) hb1 hb2
    rw [hE, hN] at h
    exact h
  have PW : Hid (∀ W, Below V.heap.size V W → Calls Tryz.prog 6 #[kv, cv0] W fun e w' => ∃ v, e = .returned (.tuple #[v, .int .i64 (E : Int)]) ∧ WayN w' v N (wkR h key c) (fun k => wkC h key c (k + 1)) ∧ Below W.heap.size W w') := fun W hW => by
    have h := pwalk_any kv cv0 h len xv lk key c W (hG.below hW hG.sz) (hc.on hW) (hz.on hW) hb1 hb2
    rw [hE, hN] at h
    refine h.mono ?_
    rintro e w' ⟨v, cv, rfl, hw, hb⟩
    exact ⟨v, rfl, hw.read CL.out, hb⟩
  clear hG hc hz hb1 hb2 hE hN
  go_enter Tryz.func3, Tryz.ntmps3
  go_wp2_with (first
    | (go_at_call 4; refine A.mono ?_; rintro e w1 ⟨rfl, hb1⟩; have B1 : Hid (Below V.heap.size V w1) := hb1; clear hb1)
    | (go_at_call 5; refine (RW.out w1 B1.out).mono ?_; rintro e w2 ⟨v2, rfl, hw2, hb2⟩; have B2 : Hid (WayN w2 v2 N (wkR h key c) (fun k => wkC h key c (k + 1)) ∧ Below V.heap.size V w2) := ⟨hw2, B1.out.trans (hb2.mono B1.out.size)⟩; clear hw2 hb2)
    | (go_at_call 6; refine (PW.out w2 B2.out.2).mono ?_; rintro e w3 ⟨v3, rfl, hw3, hb3⟩; have B3 : Hid (WayN w3 v3 N (wkR h key c) (fun k => wkC h key c (k + 1)) ∧ WayN w3 v2 N (wkR h key c) (fun k => wkC h key c (k + 1)) ∧ Below V.heap.size V w3) := ⟨hw3, B2.out.1.on hb3, B2.out.2.trans (hb3.mono B2.out.2.size)⟩; clear hw3 hb3)
    | (go_at_call 7; refine (sameAll_true v3 v2 N (wkR h key c) (fun k => wkC h key c (k + 1)) w3 B3.out.1 B3.out.2.1 HN.out).mono ?_; rintro e w4 ⟨rfl, hb4⟩; have B4 : Hid (Below V.heap.size V w4) := B3.out.2.2.trans (hb4.mono B3.out.2.2.size); clear hb4))
  go_ret
  exact ⟨rfl, B4.out⟩
end Go.Proofs.YtcffmmeafnapiaaGreatDoor.Rou
