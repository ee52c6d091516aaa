import Derived.Test.YtjckkdjldnobmaaGreatDoorB5
import Derived.Test.YtjckkdjldnobmaaGreatDoorX7b
import Derived.Laws.AppendOwnNone
import Derived.Test.YtjckkdjldnobmaaGreatDoorA7
import Derived.Laws.BytesArg
import Derived.Lib.SlBytesConst
namespace Go.Proofs.YtjckkdjldnobmaaGreatDoor
open Go.RowKit

theorem or_comm32 (x y : Int) : bits .or .u32 x y = bits .or .u32 y x := by
  simp only [bits]
  rw [BitVec.or_comm]

set_option maxHeartbeats 400000 in
theorem rturned_any (x : Int) (k : Int) (n : Nat) (w : World) (hk : k = (n : Int)) (h1 : 1 ≤ n) (hn : n ≤ 31) :
    Calls Tryz.prog 122 #[.int .u32 x, .int .i64 k] w fun e w' => e = .returned (.int .u32 (rotr x n)) ∧ ∃ m, w' = w.drewN m := by
  subst hk
  have h0 : (0 : Int) ≤ (n : Int) := by omega
  have h2 : IntKind.i64.wrap (32 - (n : Int)) = 32 - (n : Int) := by simp [IntKind.wrap, IntKind.bits, IntKind.signed]; omega
  have h3 : (32 - (n : Int)).toNat = 32 - n := by omega
  have h4 : min n 32 = n := by omega
  have h5 : min (32 - n) 32 = 32 - n := by omega
  have h6 : (0 : Int) ≤ 32 - (n : Int) := by omega
  go_enter Tryz.func122, Tryz.ntmps122
  go_wp2
  go_quiet (fail)
  go_wp2
  go_ret
  refine ⟨?_, nq, rfl⟩
  unfold rotr rotl
  rw [or_comm32, show 32 - (32 - n) = n by omega]
  rfl

set_option maxRecDepth 20000 in
set_option maxHeartbeats 400000 in
theorem thirds_any (w : World) :
    Calls Tryz.prog 107 #[] w fun e w' => e = .returned (.agg (tab32 64 kW)) ∧ Below w.heap.size w w' := by
  go_enter Tryz.func107, Tryz.ntmps107
  go_wp2_with (first
    | (refine isStore 184 (.tmp 0) (.tmp 1) rfl ?_; go_must (refine wpList_store_row rfl 184 (.tmp 0) (.tmp 1) rfl w.heap.size (tab32 64 kW) rfl (by rfl) 184 _ (heap_alloc_new _ _) (size47' _) (by simp only [tab32_size]; rfl) (tab32_one _ _) ?_)))
  refine bodyPost_ret (v := .agg (tab32 64 kW)) (results_cell_row Tryz.results107 _ _ w.heap.size 184 _ (0, 0) _ rfl (setRow_heap _ _ _ _ _ _ (heap_alloc_new _ _)) Tryz.underlying184 rfl (size47' _)) rfl ⟨rfl, ?_⟩
  exact below_setRow ((Below.refl _ _).alloc (Nat.le_refl _) _) (Nat.le_refl _) _
end Go.Proofs.YtjckkdjldnobmaaGreatDoor

namespace Go.Proofs.YtjckkdjldnobmaaGreatDoor
open Go.RowKit

theorem rturned_int (x k : Int) (w : World) (h1 : 1 ≤ k) (h2 : k ≤ 31) :
    Calls Tryz.prog 122 #[.int .u32 x, .int .i64 k] w fun e w' => e = .returned (.int .u32 (rotr x k.toNat)) ∧ ∃ m, w' = w.drewN m :=
  rturned_any x k k.toNat w (by omega) (by omega) (by omega)

theorem emod_both (a b : Int) : (a + b) % 4294967296 = (a % 4294967296 + b % 4294967296) % 4294967296 := by omega
theorem emod_right (a b : Int) : (a + b) % 4294967296 = (a + b % 4294967296) % 4294967296 := by omega
theorem step_lit (k W v : Nat → Int) (r : Nat) :
    Value.agg #[.int .u32 ((v 7 + bits BinOp.xor IntKind.u32 (bits BinOp.xor IntKind.u32 (rotr (v 4) 6) (rotr (v 4) 11)) (rotr (v 4) 25) + bits BinOp.xor IntKind.u32 (bits BinOp.and IntKind.u32 (v 4) (v 5)) (bits BinOp.and IntKind.u32 (bits BinOp.xor IntKind.u32 IntKind.u32.max (v 4)) (v 6)) + k r + W r + (bits BinOp.xor IntKind.u32 (bits BinOp.xor IntKind.u32 (rotr (v 0) 2) (rotr (v 0) 13)) (rotr (v 0) 22) + bits BinOp.xor IntKind.u32 (bits BinOp.xor IntKind.u32 (bits BinOp.and IntKind.u32 (v 0) (v 1)) (bits BinOp.and IntKind.u32 (v 0) (v 2))) (bits BinOp.and IntKind.u32 (v 1) (v 2)))) % 4294967296), .int .u32 (v 0), .int .u32 (v 1), .int .u32 (v 2), .int .u32 ((v 3 + (v 7 + bits BinOp.xor IntKind.u32 (bits BinOp.xor IntKind.u32 (rotr (v 4) 6) (rotr (v 4) 11)) (rotr (v 4) 25) + bits BinOp.xor IntKind.u32 (bits BinOp.and IntKind.u32 (v 4) (v 5)) (bits BinOp.and IntKind.u32 (bits BinOp.xor IntKind.u32 IntKind.u32.max (v 4)) (v 6)) + k r + W r)) % 4294967296), .int .u32 (v 4), .int .u32 (v 5), .int .u32 (v 6)] = .agg (tab32 8 (stepR k W r v)) := by
  rw [emod_both, emod_right (v 3)]
  rfl

/-- The reference's words behind t rounds. -/
def wst (q : Nat → Int) (t : Nat) : Nat → Int := if t ≤ 16 then sch1 q (4 * t) else sch2 (sch1 q 64) (t - 16)

theorem wst_ge (q : Nat → Int) (t : Nat) (h : 16 ≤ t) : wst q t = sch2 (sch1 q 64) (t - 16) := by
  unfold wst
  by_cases e : t = 16
  · subst e; rfl
  · rw [if_neg (by omega)]
theorem nextW_flat (f : Nat → Int) (t : Nat) : nextW f t = (sig1 (f (t - 2)) + f (t - 7) + sig0 (f (t - 15)) + f (t - 16)) % 4294967296 := by
  unfold nextW
  generalize sig1 (f (t - 2)) = a
  generalize sig0 (f (t - 15)) = c
  omega
theorem wst_succ (q : Nat → Int) (t : Nat) (h : 16 ≤ t) : upd (wst q t) t ((sig1 (wst q t (t - 2)) + wst q t (t - 7) + sig0 (wst q t (t - 15)) + wst q t (t - 16)) % 4294967296) = wst q (t + 1) := by
  rw [← nextW_flat, wst_ge q t h, wst_ge q (t + 1) (by omega), show t + 1 - 16 = (t - 16) + 1 by omega]
  simp only [sch2]
  rw [show 16 + (t - 16) = t by omega]
theorem wst_end (q : Nat → Int) : wst q 64 = sched q := wst_ge q 64 (by omega)

/-- The blocks in the second part. -/
def WC (w W : World) (C : Nat) (s k f v : Nat → Int) : Prop :=
  W.heap[w.heap.size]? = some (.cells (tab32 8 s) 172) ∧ W.heap[w.heap.size + 1]? = some (.cells (tab32 64 k) 184) ∧ W.heap[w.heap.size + 2]? = some (.cells (tab32 8 fun _ => 0) 172) ∧ W.heap[w.heap.size + 3]? = some (.cells (tab32 64 f) 184) ∧ W.heap[C]? = some (.cells (tab32 8 v) 172) ∧ w.heap.size + 3 < C ∧ Below w.heap.size w W
theorem WC.drewN {w W : World} {C : Nat} {s k f v : Nat → Int} (h : WC w W C s k f v) (n : Nat) : WC w (W.drewN n) C s k f v :=
  ⟨h.1, h.2.1, h.2.2.1, h.2.2.2.1, h.2.2.2.2.1, h.2.2.2.2.2.1, below_drewN h.2.2.2.2.2.2 n⟩
theorem WC.drew {w W : World} {C : Nat} {s k f v : Nat → Int} (h : WC w W C s k f v) : WC w W.drew C s k f v := h.drewN 1
theorem WC.cv {w W : World} {C : Nat} {s k f v : Nat → Int} (h : WC w W C s k f v) (i : Nat) (hi : i < 8) : W.cell? ⟨C, i, none⟩ = some (.int .u32 (v i)) := by
  rw [cell_of_row _ _ _ _ _ _ h.2.2.2.2.1]; exact tab32_get 8 v i hi
theorem WC.cs {w W : World} {C : Nat} {s k f v : Nat → Int} (h : WC w W C s k f v) (i : Nat) (hi : i < 8) : W.cell? ⟨w.heap.size, i, none⟩ = some (.int .u32 (s i)) ∧ W.frozen? ⟨w.heap.size, i, none⟩ = false :=
  ⟨by rw [cell_of_row _ _ _ _ _ _ h.1]; exact tab32_get 8 s i hi, frozen_of_row h.1⟩
theorem WC.ck {w W : World} {C : Nat} {s k f v : Nat → Int} (h : WC w W C s k f v) (i : Nat) (hi : i < 64) : W.cell? ⟨w.heap.size + 1, i, none⟩ = some (.int .u32 (k i)) := by
  rw [cell_of_row _ _ _ _ _ _ h.2.1]; exact tab32_get 64 k i hi
theorem WC.cw {w W : World} {C : Nat} {s k f v : Nat → Int} (h : WC w W C s k f v) (i : Nat) (hi : i < 64) : W.cell? ⟨w.heap.size + 3, i, none⟩ = some (.int .u32 (f i)) := by
  rw [cell_of_row _ _ _ _ _ _ h.2.2.2.1]; exact tab32_get 64 f i hi
theorem WC.setV {w W : World} {C : Nat} {s k f v : Nat → Int} (h : WC w W C s k f v) (v' : Nat → Int) : WC w (W.setRow C (tab32 8 v')) C s k f v' := by
  obtain ⟨h1, h2, h3, h4, h5, h6, h7⟩ := h
  refine ⟨?_, ?_, ?_, ?_, setRow_heap _ _ _ _ _ _ h5, h6, below_setRow h7 (by omega) _⟩
  · rw [setRow_other _ _ _ _ (by omega)]; exact h1
  · rw [setRow_other _ _ _ _ (by omega)]; exact h2
  · rw [setRow_other _ _ _ _ (by omega)]; exact h3
  · rw [setRow_other _ _ _ _ (by omega)]; exact h4
theorem WC.setS {w W : World} {C : Nat} {s k f v : Nat → Int} (h : WC w W C s k f v) (i : Nat) (x : Int) : WC w (W.setCell ⟨w.heap.size, i, none⟩ (.int .u32 x)) C (upd s i x) k f v := by
  obtain ⟨h1, h2, h3, h4, h5, h6, h7⟩ := h
  refine ⟨?_, ?_, ?_, ?_, ?_, h6, h7.setCell (Nat.le_refl _) _⟩
  · rw [heap_setCell_row _ h1, tab32_set]
  · rw [Below.heap_setCell _ _ _ _ (by simp)]; exact h2
  · rw [Below.heap_setCell _ _ _ _ (by simp)]; exact h3
  · rw [Below.heap_setCell _ _ _ _ (by simp)]; exact h4
  · rw [Below.heap_setCell _ _ _ _ (by simp; omega)]; exact h5

/-- The blocks in the first part. -/
def WB (w W : World) (s k f : Nat → Int) : Prop :=
  W.heap[w.heap.size]? = some (.cells (tab32 8 s) 172) ∧ W.heap[w.heap.size + 1]? = some (.cells (tab32 64 k) 184) ∧ W.heap[w.heap.size + 2]? = some (.cells (tab32 8 fun _ => 0) 172) ∧ W.heap[w.heap.size + 3]? = some (.cells (tab32 64 f) 184) ∧ Below w.heap.size w W
theorem WB.drew {w W : World} {s k f : Nat → Int} (h : WB w W s k f) : WB w W.drew s k f := ⟨h.1, h.2.1, h.2.2.1, h.2.2.2.1, h.2.2.2.2.drew⟩
theorem WB.drewN {w W : World} {s k f : Nat → Int} (h : WB w W s k f) (n : Nat) : WB w (W.drewN n) s k f := ⟨h.1, h.2.1, h.2.2.1, h.2.2.2.1, below_drewN h.2.2.2.2 n⟩
theorem WB.set {w W : World} {s k f : Nat → Int} (h : WB w W s k f) (t : Nat) (v : Int) : WB w (W.setCell ⟨w.heap.size + 3, t, none⟩ (.int .u32 v)) s k (upd f t v) := by
  obtain ⟨h1, h2, h3, h4, h5⟩ := h
  refine ⟨?_, ?_, ?_, ?_, h5.setCell (by simp) _⟩
  · rw [Below.heap_setCell _ _ _ _ (by simp)]; exact h1
  · rw [Below.heap_setCell _ _ _ _ (by simp)]; exact h2
  · rw [Below.heap_setCell _ _ _ _ (by simp)]; exact h3
  · rw [heap_setCell_row _ h4, tab32_set]
theorem WB.cell {w W : World} {s k f : Nat → Int} (h : WB w W s k f) (t : Nat) (ht : t < 64) : W.cell? ⟨w.heap.size + 3, t, none⟩ = some (.int .u32 (f t)) ∧ W.frozen? ⟨w.heap.size + 3, t, none⟩ = false :=
  ⟨by rw [cell_of_row _ _ _ _ _ _ h.2.2.2.1]; exact tab32_get 64 f t ht, frozen_of_row h.2.2.2.1⟩
theorem WB.start (w : World) (s k q : Nat → Int) : WB w ((((w.alloc (.cells (tab32 8 s) 172)).alloc (.cells (tab32 64 k) 184)).alloc (.cells (tab32 8 fun _ => 0) 172)).alloc (.cells (tab32 64 (sch1 q 0)) 184)) s k (sch1 q 0) := by
  have h := heap3 w (.cells (tab32 8 s) 172) (.cells (tab32 64 k) 184) (.cells (tab32 8 fun _ => 0) 172) 0
  refine ⟨?_, ?_, ?_, ?_, (below3 w (.cells (tab32 8 s) 172) (.cells (tab32 64 k) 184) (.cells (tab32 8 fun _ => 0) 172) 0).alloc (by simp; omega) _⟩
  · rw [Below.heap_alloc _ _ _ (by simp; omega)]; exact h.1
  · rw [Below.heap_alloc _ _ _ (by simp)]; exact h.2.1
  · rw [Below.heap_alloc _ _ _ (by simp)]; exact h.2.2
  · have := heap_alloc_new (((w.alloc (.cells (tab32 8 s) 172)).alloc (.cells (tab32 64 k) 184)).alloc (.cells (tab32 8 fun _ => 0) 172)) (.cells (tab32 64 (sch1 q 0)) 184)
    simpa using this

set_option maxRecDepth 100000 in
set_option maxHeartbeats 4000000 in
theorem worked_any (s k p : Nat → Int) (b off len cap at' : Nat) (w : World) (hb : b < w.heap.size) (hat : at' + 64 ≤ len) (hbig : len < 1152921504606846976)
    (hp : ∀ j, j < len → w.cell? ⟨b, off + j, none⟩ = some (.int .u8 (p j))) (hpb : ∀ j, j < len → 0 ≤ p j ∧ p j < 256) :
    Calls Tryz.prog 109 #[.agg (tab32 8 s), .agg (tab32 64 k), .slice (some ⟨b, off, none⟩) len cap, .int .i64 (at' : Int)] w
      fun e w' => e = .returned (.agg (tab32 8 fun i => (s i + iterR k (sched fun j => p (at' + j)) s 64 i) % 4294967296)) ∧ Below w.heap.size w w' := by
  have HB : Hid (_) := hbig
  have HP : Hid (_) := hp
  have HPB : Hid (_) := hpb
  clear hbig hp hpb
  obtain ⟨q, hq⟩ : ∃ q : Nat → Int, q = fun j => p (at' + j) := ⟨_, rfl⟩
  have HQ : Hid (_) := hq
  rw [← hq]
  clear hq
  go_enter Tryz.func109, Tryz.ntmps109
  go_wp2
  have X0 := WB.start w s k q
  go_loopw [10] (fun i W => ∃ t : Nat, t ≤ 64 ∧ i = .int .i64 t ∧ WB w W s k (wst q t)) (fun i _ => 64 - (intOf i).toNat)
  case atStart => exact ⟨0, by omega, rfl, X0⟩
  case round =>
    obtain ⟨t, ht, rfl, D⟩ := hrel
    clear X0
    by_cases hlt : t < 64
    · have i1 : (t : Int) < 64 := by omega
      by_cases h16 : t < 16
      · have i2 : (t : Int) < 16 := by omega
        go_wp2
        go_loopw [11] (fun i W => ∃ j : Nat, j ≤ 4 ∧ i = .int .i64 j ∧ WB w W s k (sch1 q (4 * t + j))) (fun i _ => 4 - (intOf i).toNat)
        case atStart => exact ⟨0, by omega, rfl, by have := D; unfold wst at this; rw [if_pos (by omega)] at this; exact this⟩
        case round =>
          obtain ⟨j, hj, rfl, E⟩ := hrel
          clear D
          by_cases hlj : j < 4
          · have i3 : (j : Int) < 4 := by omega
            have cw := (E.cell t hlt).1
            have cf := (E.cell t hlt).2
            have cb : wr.cell? ⟨b, off + (at' + 4 * t + j), none⟩ = some (.int .u8 (q (4 * t + j))) := by
              rw [below_cell E.2.2.2.2 hb, HP.out _ (by omega), HQ.out]
              simp only [Nat.add_assoc]
            have bd := HPB.out (at' + (4 * t + j)) (by omega)
            have g0 : 0 ≤ q (4 * t + j) := by rw [HQ.out]; exact bd.1
            have g1 : q (4 * t + j) < 256 := by rw [HQ.out]; exact bd.2
            clear bd
            have w1 : wrap64 ((at' : Int) + 4 * t) = (at' : Int) + 4 * t := by have := HB.out; simp [wrap64]; omega
            have w2 : wrap64 ((at' : Int) + 4 * t + j) = (at' : Int) + 4 * t + j := by have := HB.out; simp [wrap64]; omega
            have w3 : (at' : Int) + 4 * t + j < len := by omega
            have w4 : (0 : Int) ≤ (at' : Int) + 4 * t + j := by omega
            have w5 : ((at' : Int) + 4 * t + j).toNat = at' + 4 * t + j := by omega
            have w6 : IntKind.i64.wrap ((at' : Int) + 4 * t) = (at' : Int) + 4 * t := by have := HB.out; simp [IntKind.wrap, IntKind.bits, IntKind.signed]; omega
            have w7 : IntKind.i64.wrap ((at' : Int) + 4 * t + j) = (at' : Int) + 4 * t + j := by have := HB.out; simp [IntKind.wrap, IntKind.bits, IntKind.signed]; omega
            have w8 : q (4 * t + j) % 4294967296 = q (4 * t + j) := by omega
            go_wp2
            go_region
            go_wp2
            go_roundw
            case rel =>
              refine ⟨j + 1, by omega, by go_num, ?_⟩
              have h := (E.set t (bits BinOp.or IntKind.u32 (sch1 q (4 * t + j) t * 256 % 4294967296) (q (4 * t + j)))).drew
              have e : upd (sch1 q (4 * t + j)) t (bits BinOp.or IntKind.u32 (sch1 q (4 * t + j) t * 256 % 4294967296) (q (4 * t + j))) = sch1 q (4 * t + (j + 1)) := by
                rw [← Nat.add_assoc]
                simp only [sch1, show (4 * t + j) / 4 = t by omega]
              rw [e] at h
              exact h
            case measure => simp [intOf]; omega
          · go_wp2
            go_roundw
            case rel =>
              refine ⟨t + 1, by omega, by go_num, ?_⟩
              unfold wst
              rw [if_pos (by omega), show 4 * (t + 1) = 4 * t + j by omega]
              exact E
            case measure => simp [intOf]; omega
      · have i2 : ¬ (t : Int) < 16 := by omega
        have h16' : 16 ≤ (t : Int) := by omega
        obtain ⟨f, hf⟩ : ∃ f, f = wst q t := ⟨_, rfl⟩
        rw [← hf] at D
        have HF : Hid (_) := hf
        clear hf
        have e1 : IntKind.i64.wrap ((t : Int) - 2) = ((t - 2 : Nat) : Int) := by simp [IntKind.wrap, IntKind.bits, IntKind.signed]; omega
        have e2 : IntKind.i64.wrap ((t : Int) - 7) = ((t - 7 : Nat) : Int) := by simp [IntKind.wrap, IntKind.bits, IntKind.signed]; omega
        have e3 : IntKind.i64.wrap ((t : Int) - 15) = ((t - 15 : Nat) : Int) := by simp [IntKind.wrap, IntKind.bits, IntKind.signed]; omega
        have e4 : IntKind.i64.wrap ((t : Int) - 16) = ((t - 16 : Nat) : Int) := by simp [IntKind.wrap, IntKind.bits, IntKind.signed]; omega
        have c1 := (D.cell (t - 15) (by omega)).1
        have c2 := (D.cell (t - 2) (by omega)).1
        go_wp2
        go_quiet (fail)
        go_wp2_with fail
        refine (rturned_any _ 7 7 _ rfl (by omega) (by omega)).mono ?_
        rintro e wx ⟨rfl, m1, rfl⟩
        go_wp2_with fail
        refine (rturned_any _ 18 18 _ rfl (by omega) (by omega)).mono ?_
        rintro e wx ⟨rfl, m2, rfl⟩
        go_wp2_with fail
        refine (rturned_any _ 17 17 _ rfl (by omega) (by omega)).mono ?_
        rintro e wx ⟨rfl, m3, rfl⟩
        go_wp2_with fail
        refine (rturned_any _ 19 19 _ rfl (by omega) (by omega)).mono ?_
        rintro e wx ⟨rfl, m4, rfl⟩
        go_wp2_with fail
        have DX := D.drewN (nq + m1 + m2 + m3 + m4)
        obtain ⟨X, hX⟩ : ∃ X, X = wr.drewN (nq + m1 + m2 + m3 + m4) := ⟨_, rfl⟩
        rw [← hX] at DX ⊢
        have x1 := (DX.cell (t - 7) (by omega)).1
        have x2 := (DX.cell (t - 16) (by omega)).1
        have x3 := (DX.cell t hlt).1
        have x4 := (DX.cell t hlt).2
        clear hX D c1 c2
        go_region
        go_wp2
        go_roundw
        case rel =>
          refine ⟨t + 1, by omega, by go_num, ?_⟩
          have h := (DX.set t ((sig1 (f (t - 2)) + f (t - 7) + sig0 (f (t - 15)) + f (t - 16)) % 4294967296)).drew
          rw [HF.out, wst_succ q t (by omega), ← HF.out] at h
          exact h
        case measure => simp [intOf]; omega
    · have e64 : t = 64 := by omega
      rw [e64, wst_end] at D
      have hsz : Hid (w.heap.size + 3 < wr.heap.size) := (Array.getElem?_eq_some_iff.1 D.2.2.2.1).1
      clear e64
      go_wp2_with (first
        | (refine isLoad 172 (.tmp 4) rfl ?_; go_must (refine wpList_load_row rfl 172 (.tmp 4) rfl w.heap.size rfl 172 _ (0, 0) _ D.1 Tryz.underlying172 rfl (size23' _) ?_; simp only [Act.put, List.setIfInBounds_toArray, List.set_cons_succ, List.set_cons_zero]))
        | (refine isStore 172 (.tmp 16) (.tmp 89) rfl ?_; go_must (refine wpList_store_row rfl 172 (.tmp 16) (.tmp 89) rfl wr.heap.size _ rfl rfl 172 _ (heap_alloc_new _ _) (size23' _) (by simp only [tab32_size]; rfl) (tab32_one _ _) ?_; rw [World.setRow_alloc_new]; simp only [Act.put])))
      obtain ⟨C, hC⟩ : ∃ C, C = wr.heap.size := ⟨_, rfl⟩
      have Y0 : WC w (wr.alloc (.cells (tab32 8 s) 172)) C s k (sched q) s := by
        have hz := hsz.out
        refine ⟨?_, ?_, ?_, ?_, by rw [hC]; exact heap_alloc_new _ _, by rw [hC]; exact hz, D.2.2.2.2.alloc D.2.2.2.2.size _⟩
        · rw [Below.heap_alloc _ _ _ (by omega)]; exact D.1
        · rw [Below.heap_alloc _ _ _ (by omega)]; exact D.2.1
        · rw [Below.heap_alloc _ _ _ (by omega)]; exact D.2.2.1
        · rw [Below.heap_alloc _ _ _ (by omega)]; exact D.2.2.2.1
      rw [← hC]
      obtain ⟨X0, hX0⟩ : ∃ X, X = wr.alloc (.cells (tab32 8 s) 172) := ⟨_, rfl⟩
      rw [← hX0] at Y0 ⊢
      clear hX0 hC D hsz
      go_loopw [17] (fun i W => ∃ r : Nat, r ≤ 64 ∧ i = .int .i64 r ∧ WC w W C s k (sched q) (iterR k (sched q) s r)) (fun i _ => 64 - (intOf i).toNat)
      case atStart => exact ⟨0, by omega, rfl, Y0⟩
      case round =>
        obtain ⟨r, hr, rfl, Y⟩ := hrel
        clear Y0
        by_cases hlr : r < 64
        · have ir : (r : Int) < 64 := by omega
          obtain ⟨v, hv⟩ : ∃ v, v = iterR k (sched q) s r := ⟨_, rfl⟩
          rw [← hv] at Y
          have HV : Hid (_) := hv
          clear hv
          have v0 := Y.cv 0 (by omega)
          have v4 := Y.cv 4 (by omega)
          go_wp2
          go_quiet (fail)
          go_wp2
          have YX := Y.drewN nq
          obtain ⟨X1, hX1⟩ : ∃ X, X = wr.drewN nq := ⟨_, rfl⟩
          rw [← hX1] at YX ⊢
          clear hX1 Y v0 v4
          have a1 := YX.cv 1 (by omega)
          have a2 := YX.cv 2 (by omega)
          have a3 := YX.cv 3 (by omega)
          have a5 := YX.cv 5 (by omega)
          have a6 := YX.cv 6 (by omega)
          have a7 := YX.cv 7 (by omega)
          have ak := YX.ck r hlr
          have aw := YX.cw r hlr
          go_quiet ((go_at_call 122; exact Calls.quiet_of (rturned_int _ _ _ (by decide) (by decide))))
          go_wp2
          have YZ := YX.drewN nq
          obtain ⟨X2, hX2⟩ : ∃ X, X = X1.drewN nq := ⟨_, rfl⟩
          rw [← hX2] at YZ ⊢
          clear hX2 YX a1 a2 a3 a5 a6 a7 ak aw
          have b1 := YZ.cv 1 (by omega)
          have b2 := YZ.cv 2 (by omega)
          go_quiet ((go_at_call 122; exact Calls.quiet_of (rturned_int _ _ _ (by decide) (by decide))))
          have YT := YZ.drewN nq
          obtain ⟨X3, hX3⟩ : ∃ X, X = X2.drewN nq := ⟨_, rfl⟩
          rw [← hX3] at YT ⊢
          clear hX3 YZ b1 b2
          have d1 := YT.cv 1 (by omega)
          have d2 := YT.cv 2 (by omega)
          have d3 := YT.cv 3 (by omega)
          have d5 := YT.cv 5 (by omega)
          have d6 := YT.cv 6 (by omega)
          go_wp2_with (first
            | (refine isStore 172 (.tmp 16) (.tmp 169) rfl ?_; go_must (refine wpList_store_row rfl 172 (.tmp 16) (.tmp 169) rfl C (tab32 8 (stepR k (sched q) r v)) rfl (step_lit k (sched q) v r) 172 _ YT.2.2.2.2.1 (size23' _) (by simp only [tab32_size]) (tab32_one _ _) ?_; simp only [Act.put])))
          go_roundw
          case rel =>
            refine ⟨r + 1, by omega, by go_num, ?_⟩
            have h := YT.setV (stepR k (sched q) r v)
            have e : stepR k (sched q) r v = iterR k (sched q) s (r + 1) := by rw [HV.out]; rfl
            rw [e] at h ⊢
            exact h
          case measure => simp [intOf]; omega
        · have e64 : r = 64 := by omega
          rw [e64] at Y
          obtain ⟨v, hv⟩ : ∃ v, v = iterR k (sched q) s 64 := ⟨_, rfl⟩
          rw [← hv] at Y
          have HV : Hid (_) := hv
          clear hv e64
          go_wp2
          have Z0 : WC w wr C (fun j => if j < 0 then (s j + v j) % 4294967296 else s j) k (sched q) v := by simpa using Y
          go_loopw [22] (fun i W => ∃ m : Nat, m ≤ 8 ∧ i = .int .i64 m ∧ WC w W C (fun j => if j < m then (s j + v j) % 4294967296 else s j) k (sched q) v) (fun i _ => 8 - (intOf i).toNat)
          case atStart => exact ⟨0, by omega, rfl, Z0⟩
          case round =>
            obtain ⟨m, hm, rfl, Z⟩ := hrel
            clear Z0 Y
            by_cases hlm : m < 8
            · have im : (m : Int) < 8 := by omega
              have f1 := (Z.cs m hlm).1
              have f2 := (Z.cs m hlm).2
              have f3 := Z.cv m hlm
              rw [if_neg (by omega)] at f1
              go_wp2
              go_region
              go_wp2
              go_roundw
              case rel =>
                refine ⟨m + 1, by omega, by go_num, ?_⟩
                have h := (Z.setS m ((s m + v m) % 4294967296)).drew
                have e : upd (fun j => if j < m then (s j + v j) % 4294967296 else s j) m ((s m + v m) % 4294967296) = fun j => if j < m + 1 then (s j + v j) % 4294967296 else s j := gk_step s (fun j => (s j + v j) % 4294967296) m
                rw [e] at h
                exact h
              case measure => simp [intOf]; omega
            · go_wp2_with (first
                | (refine isLoad 172 (.tmp 4) rfl ?_; go_must (refine wpList_load_row rfl 172 (.tmp 4) rfl w.heap.size rfl 172 _ (0, 0) _ Z.1 Tryz.underlying172 rfl (size23' _) ?_; simp only [Act.put, List.setIfInBounds_toArray, List.set_cons_succ, List.set_cons_zero]))
                | (refine isStore 172 (.tmp 8) (.tmp 183) rfl ?_; go_must (refine wpList_store_row rfl 172 (.tmp 8) (.tmp 183) rfl (w.heap.size + 2) _ rfl rfl 172 _ Z.2.2.1 (size23' _) (by simp only [tab32_size]) (tab32_one _ _) ?_)))
              refine bodyPost_ret (v := .agg (tab32 8 fun j => if j < m then (s j + v j) % 4294967296 else s j)) (results_cell_row Tryz.results109 _ _ (w.heap.size + 2) 172 _ (0, 0) _ rfl (setRow_heap _ _ _ _ _ _ Z.2.2.1) Tryz.underlying172 rfl (size23' _)) rfl ⟨?_, ?_⟩
              · refine congrArg (fun c => Ending.returned (Value.agg c)) (tab32_congr fun i hi => ?_)
                rw [if_pos (by omega), HV.out]
              · exact below_setRow Z.2.2.2.2.2.2 (by omega) _
end Go.Proofs.YtjckkdjldnobmaaGreatDoor

namespace Go.Proofs.YtjckkdjldnobmaaGreatDoor
open Go.RowKit

theorem info5 : ∃ i, Tryz.prog.info? 5 = some i ∧ i.zero = some (.int .u8 0) ∧ i.size = 1 ∧ i.bytes = 1 := by
  have h : (Tryz.prog.info? 5).map (fun i => (i.zero, i.size, i.bytes)) = some (some (.int .u8 0), 1, 1) := by kernel_rfl
  cases hq : Tryz.prog.info? 5 with
  | none => rw [hq] at h; cases h
  | some i =>
    rw [hq] at h
    simp only [Option.map_some, Option.some.injEq, Prod.mk.injEq] at h
    exact ⟨i, rfl, h.1, h.2.1, h.2.2⟩
/-- numbers as cells -/
def vals (l : List Int) : List Value := l.map fun z => Value.int .u8 z
theorem vals_one (l : List Int) : ∀ u ∈ vals l, u.oneCell' = true := by
  intro u hu
  simp only [vals, List.mem_map] at hu
  obtain ⟨z, _, rfl⟩ := hu
  rfl
theorem vals_len (l : List Int) : (vals l).length = l.length := by simp [vals]
theorem vals_append (l r : List Int) : vals l ++ vals r = vals (l ++ r) := by simp [vals]
/-- the first n of p -/
def firstL (p : Nat → Int) (n : Nat) : List Int := (List.range n).map p

theorem isMake {P : Program} {ops : Array Oper} {rest : List Oper} {o : Oper} {a : Act} {w : World} {Q : Exit → Act → World → Prop} (l c : Operand) (_ : o.op = .makeSlice 24 l c) (h : wpList P ops Q (o :: rest) a w) : wpList P ops Q (o :: rest) a w := h
theorem isApp {P : Program} {ops : Array Oper} {rest : List Oper} {o : Oper} {a : Act} {w : World} {Q : Exit → Act → World → Prop} (s x : Operand) (_ : o.op = .call { callee := .builtin .append, args := #[s, x], argTypes := #[24, 24] }) (h : wpList P ops Q (o :: rest) a w) : wpList P ops Q (o :: rest) a w := h

/-- One append to a row of the call's own. -/
theorem wpList_app {ops : Array Oper} {rest : List Oper} {o : Oper} {a : Act} {W : World} {Q : Exit → Act → World → Prop} {B n m c : Nat} {v : Value} {l r : List Int} {ad : Addr} {w0 : World} (hgd : o.guard = none) (s x : Operand)
    (ho : o.op = .call { callee := .builtin .append, args := #[s, x], argTypes := #[24, 24] })
    (hs : a.eval s = v) (hx : a.eval x = .slice (some ad) m c) (hown : W.ownsRow B 5 1 v n (vals l)) (hr : r.length = m) (hsrc : ∀ j u, (vals r)[j]? = some u → W.cell? (ad.add j) = some u)
    (hbig : n + m ≤ 200000000000000) (hb : Below B w0 W) (hB : B ≤ W.heap.size)
    (h : ∀ v' W', W'.ownsRow B 5 1 v' (n + m) (vals (l ++ r)) → Below B w0 W' → B ≤ W'.heap.size → wpList Tryz.prog ops Q rest (a.put o.dst v') W') : wpList Tryz.prog ops Q (o :: rest) a W := by
  obtain ⟨i, h1, h2, h3, h4⟩ := info5
  refine wpList_append_ownL W hgd s x 24 ho B 5 i (.int .u8 0) Tryz.underlying24 h1 h2 h3 h4 rfl v n (vals l) hs hown ad m c (vals r) hx (by rw [vals_len]; omega) hsrc (vals_one r) hbig hB ?_
  intro v' W' hown' hg
  rw [vals_append] at hown'
  exact h v' W' hown' (hb.grown hg hB (fun k hk => (hown.lt k hk).1)) (Nat.le_trans hB hg.size)

/-- The same of whatever source, nil too. -/
theorem wpList_appS {ops : Array Oper} {rest : List Oper} {o : Oper} {a : Act} {W : World} {Q : Exit → Act → World → Prop} {B n m c : Nat} {v : Value} {l r : List Int} {ao : Option Addr} {w0 : World} (hgd : o.guard = none) (s x : Operand)
    (ho : o.op = .call { callee := .builtin .append, args := #[s, x], argTypes := #[24, 24] })
    (hs : a.eval s = v) (hx : a.eval x = .slice ao m c) (hown : W.ownsRow B 5 1 v n (vals l)) (hr : r.length = m)
    (hsrc : (ao = none ∧ m = 0 ∧ c = 0) ∨ ∃ ad, ao = some ad ∧ ∀ j u, (vals r)[j]? = some u → W.cell? (ad.add j) = some u)
    (hbig : n + m ≤ 200000000000000) (hb : Below B w0 W) (hB : B ≤ W.heap.size)
    (h : ∀ v' W', W'.ownsRow B 5 1 v' (n + m) (vals (l ++ r)) → Below B w0 W' → B ≤ W'.heap.size → wpList Tryz.prog ops Q rest (a.put o.dst v') W') : wpList Tryz.prog ops Q (o :: rest) a W := by
  rcases hsrc with ⟨rfl, rfl, rfl⟩ | ⟨ad, rfl, hsrc⟩
  · obtain ⟨i, h1, _, _, _⟩ := info5
    obtain rfl : r = [] := List.eq_nil_of_length_eq_zero hr
    refine wpList_append_own_none hgd s x 24 ho B 5 i 1 Tryz.underlying24 h1 v n (vals l) hs hown hx ?_
    exact h v W (by simpa using hown) hb hB
  · exact wpList_app hgd s x ho hs hx hown hr hsrc hbig hb hB h
/-- A row of one that the call itself laid. -/
theorem src_one (W : World) (z : Int) : ∀ j u, (vals [z])[j]? = some u → (W.alloc (.cells #[.int .u8 z] 5)).cell? ((⟨W.heap.size, 0, none⟩ : Addr).add j) = some u := by
  intro j u hu
  have hj : j = 0 := by have := (List.getElem?_eq_some_iff.1 hu).1; simp [vals] at this; exact this
  subst hj
  rw [Addr.add_mid, cell_of_row _ _ _ _ _ _ (heap_alloc_new W _)]
  simpa [vals] using hu

/-- The length in a slot. -/
def lenOf : Value → Nat | .slice _ l _ => l | _ => 0
theorem own_shape {W : World} {B n : Nat} {v : Value} {xs : List Value} (h : W.ownsRow B 5 1 v n xs) (hn : 0 < n) : ∃ g cap, v = .slice (some ⟨g, 0, none⟩) n cap := by
  rcases h.2 with ⟨_, rfl⟩ | ⟨g, cap, _, rfl, _⟩
  · omega
  · exact ⟨g, cap, rfl⟩

/-- What lies in m: the bytes, 80, z noughts, j bytes of the length. -/
def padL (p : Nat → Int) (len z j : Nat) : List Int := firstL p len ++ [128] ++ List.replicate z 0 ++ (List.range j).map (lenB len)
theorem padL_len (p : Nat → Int) (len z j : Nat) : (padL p len z j).length = len + 1 + z + j := by
  simp [padL, firstL]
  omega
theorem padL_z (p : Nat → Int) (len z : Nat) : padL p len z 0 ++ [0] = padL p len (z + 1) 0 := by
  simp only [padL, List.range_zero, List.map_nil, List.append_nil, List.append_assoc, List.replicate_succ']
theorem padL_j (p : Nat → Int) (len z j : Nat) : padL p len z j ++ [lenB len j] = padL p len z (j + 1) := by
  simp only [padL, List.append_assoc, List.range_succ, List.map_append, List.map_cons, List.map_nil]

set_option maxRecDepth 20000 in
set_option maxHeartbeats 2000000 in
theorem rpadded_any (v : Value) (len : Nat) (p : Nat → Int) (w : World) (hbig : len + 200 ≤ 200000000000000) (hv : SliceB w v len p) (hnil : ∀ cap, v = .slice none len cap → cap = 0) :
    Calls Tryz.prog 108 #[v] w fun e w' => ∃ v' z, e = .returned v' ∧ z < 64 ∧ (len + 1 + z) % 64 = 56 ∧ w'.ownsRow w.heap.size 5 1 v' (len + 1 + z + 8) (vals (padL p len z 8)) ∧ Below w.heap.size w w' := by
  obtain ⟨i5, hi1, hi2, hi3, hi4⟩ := info5
  obtain ⟨⟨a0, cap0, rfl, e01, e02, e03⟩, hp0⟩ := hv
  have HB : Hid (_) := hbig
  have H3 : Hid (_) := e03
  have HN : Hid (_) := hnil
  have I1 : Hid (_) := hi1
  have I2 : Hid (_) := hi2
  have I3 : Hid (_) := hi3
  have I4 : Hid (_) := hi4
  clear hbig e03 hnil hi1 hi2 hi3 hi4 e01 e02 hp0
  have wl : wrap64 ((len : Int) + 72) = ((len + 72 : Nat) : Int) := by have := HB.out; simp [wrap64]; omega
  have src0 : Hid (∀ W, Below w.heap.size w W → (a0 = none ∧ len = 0 ∧ cap0 = 0) ∨ ∃ ad, a0 = some ad ∧ ∀ j u, (vals (firstL p len))[j]? = some u → W.cell? (ad.add j) = some u) := by
    intro W hW
    cases a0 with
    | none =>
      left
      by_cases h0 : 0 < len
      · obtain ⟨b, off, e, _⟩ := H3.out h0
        cases e
      · exact ⟨rfl, by omega, HN.out cap0 rfl⟩
    | some ad =>
      right
      refine ⟨ad, rfl, fun j u hu => ?_⟩
      have hj : j < len := by have := (List.getElem?_eq_some_iff.1 hu).1; simpa [vals, firstL] using this
      obtain ⟨b, off, e, hb, hc⟩ := H3.out (by omega)
      cases e
      rw [Addr.add_mid, below_cell hW hb, hc j hj]
      simpa [vals, firstL, hj] using hu
  have hb0 := HB.out
  have HB' : Hid (len + 200 ≤ 200000000000000) := hb0
  clear hb0 H3 HN
  go_enter Tryz.func108, Tryz.ntmps108
  go_wp2_with (first
    | (refine isMake (.const (.int .i64 0)) (.tmp 8) rfl ?_; go_must (refine wpList_make_own w rfl (.const (.int .i64 0)) (.tmp 8) 24 rfl w.heap.size 5 i5 (.int .u8 0) 1 Tryz.underlying24 I1.out I2.out I3.out .i64 .i64 _ (len + 72) rfl rfl (by first | rfl | omega | simp) (by rw [I4.out]; have := HB.out; omega) (by have := HB.out; unfold maxLen; omega) (Nat.le_refl _) ?_; intro w1 own1 grown1; simp only [Act.put, List.setIfInBounds_toArray, List.set_cons_succ, List.set_cons_zero]; have O1 : Hid (w1.ownsRow w.heap.size 5 1 (.slice (some ⟨w.heap.size, 0, none⟩) 0 (len + 72)) 0 (vals [])) := own1; have G1 : Hid (Below w.heap.size w w1) := (Below.refl _ _).grown grown1 (Nat.le_refl _) (fun k hk => by cases hk); clear own1 grown1))
    | (refine isApp (.tmp 10) (.tmp 11) rfl ?_; go_must (refine wpList_appS (l := []) (r := firstL p len) (w0 := w) rfl (.tmp 10) (.tmp 11) rfl rfl rfl O1.out (by simp [firstL]) (src0.out _ G1.out) (by have := HB.out; omega) G1.out G1.out.size ?_; intro v2 w2 own2 bel2 sz2; simp only [Act.put, List.setIfInBounds_toArray, List.set_cons_succ, List.set_cons_zero]; have O2 : Hid (w2.ownsRow w.heap.size 5 1 v2 len (vals (firstL p len))) := (by show w2.ownsRow w.heap.size 5 1 v2 len (vals (firstL p len)); simpa using own2); have G2 : Hid (Below w.heap.size w w2) := bel2; clear own2 bel2 sz2))
    | (refine isApp (.tmp 13) (.tmp 14) rfl ?_; go_must (refine wpList_app (l := firstL p len) (r := [128]) (w0 := w) rfl (.tmp 13) (.tmp 14) rfl rfl rfl (O2.out.alloc _) rfl (src_one w2 128) (by have := HB.out; omega) (G2.out.alloc G2.out.size _) (by have := G2.out.size; simp; omega) ?_; intro v3 w3 own3 bel3 sz3; simp only [Act.put, List.setIfInBounds_toArray, List.set_cons_succ, List.set_cons_zero]; have O3 : Hid (w3.ownsRow w.heap.size 5 1 v3 (len + 1 + 0) (vals (padL p len 0 0))) := (by show w3.ownsRow w.heap.size 5 1 v3 (len + 1 + 0) (vals (padL p len 0 0)); simpa [padL] using own3); have G3 : Hid (Below w.heap.size w w3) := bel3; clear own3 bel3 sz3)))
  obtain ⟨z0, hz0⟩ : ∃ z0, z0 = (119 - len % 64) % 64 := ⟨_, rfl⟩
  have HZ0 : Hid (_) := hz0
  clear hz0 O1 G1 O2 G2 src0 I1 I2 I3 I4
  go_loopw [3] (fun v W => ∃ z : Nat, z ≤ z0 ∧ W.ownsRow w.heap.size 5 1 v (len + 1 + z) (vals (padL p len z 0)) ∧ Below w.heap.size w W) (fun v _ => len + 1 + z0 - lenOf v)
  case atStart => exact ⟨0, by omega, O3.out, G3.out⟩
  case round =>
    rename_i vv
    obtain ⟨z, hz, own, bel⟩ := hrel
    have O : Hid (wr.ownsRow w.heap.size 5 1 _ (len + 1 + z) (vals (padL p len z 0))) := own
    have G : Hid (Below w.heap.size w wr) := bel
    obtain ⟨g, cap, hv⟩ := own_shape own (by omega)
    clear own bel O3 G3
    subst hv
    obtain ⟨n, hn⟩ : ∃ n, n = len + 1 + z := ⟨_, rfl⟩
    rw [← hn] at O ⊢
    have HNn : Hid (_) := hn
    clear hn
    by_cases hlt : z < z0
    · have ht : ((n : Int) % 64 != 56) = true := by
        have h1 := HNn.out
        have h2 := HZ0.out
        rw [bne_iff_ne]
        omega
      go_wp2_with (first
        | (refine isApp (.tmp 20) (.tmp 21) rfl ?_; go_must (refine wpList_app (l := padL p len z 0) (r := [0]) (w0 := w) rfl (.tmp 20) (.tmp 21) rfl rfl rfl (O.out.alloc _) rfl (src_one wr 0) (by have := HB.out; have := HNn.out; have := HZ0.out; omega) (G.out.alloc G.out.size _) (by have := G.out.size; simp; omega) ?_; intro v4 w4 own4 bel4 sz4; simp only [Act.put, List.setIfInBounds_toArray, List.set_cons_succ, List.set_cons_zero]; have O4 : Hid (w4.ownsRow w.heap.size 5 1 v4 (len + 1 + (z + 1)) (vals (padL p len (z + 1) 0))) := (by show w4.ownsRow w.heap.size 5 1 v4 (len + 1 + (z + 1)) (vals (padL p len (z + 1) 0)); rw [← padL_z, show len + 1 + (z + 1) = n + 1 from (by have := HNn.out; omega)]; exact own4); have G4 : Hid (Below w.heap.size w w4) := bel4; clear own4 bel4 sz4)))
      obtain ⟨g4, cap4, hv4⟩ := own_shape O4.out (by omega)
      go_roundw
      case rel => exact ⟨z + 1, by omega, O4.out, G4.out⟩
      case measure =>
        have h1 := HNn.out
        rw [hv4]
        simp only [lenOf]
        omega
    · have ht : ((n : Int) % 64 != 56) = false := by
        have h1 := HNn.out
        have h2 := HZ0.out
        rw [bne_eq_false_iff_eq]
        omega
      have wlen : IntKind.u64.wrap (len : Int) = len := by have := HB.out; simp [IntKind.wrap, IntKind.bits, IntKind.signed]; omega
      have hze : Hid (z = z0) := by show z = z0; omega
      have O5 : Hid (wr.ownsRow w.heap.size 5 1 (.slice (some ⟨g, 0, none⟩) n cap) (len + 1 + z + 0) (vals (padL p len z 0))) := by
        show wr.ownsRow w.heap.size 5 1 (.slice (some ⟨g, 0, none⟩) n cap) (len + 1 + z + 0) (vals (padL p len z 0))
        rw [Nat.add_zero, ← HNn.out]; exact O.out
      clear O
      go_wp2
      go_loopw [3, 5] (fun v i W => ∃ j : Nat, j ≤ 8 ∧ i = .int .i64 j ∧ W.ownsRow w.heap.size 5 1 v (len + 1 + z + j) (vals (padL p len z j)) ∧ Below w.heap.size w W) (fun _ i _ => 8 - (intOf i).toNat)
      case atStart => exact ⟨0, by omega, rfl, O5.out, G.out⟩
      case round =>
        obtain ⟨j, hj, rfl, own, bel⟩ := hrel
        have P5 : Hid (wr.ownsRow w.heap.size 5 1 _ (len + 1 + z + j) (vals (padL p len z j))) := own
        have Q5 : Hid (Below w.heap.size w wr) := bel
        clear own bel O5 G
        by_cases hlj : j < 8
        · have ij : (j : Int) < 8 := by omega
          go_wp2_with (first
            | (refine isApp (.tmp 31) (.tmp 38) rfl ?_; go_must (refine wpList_app (l := padL p len z j) (r := [lenB len j]) (w0 := w) rfl (.tmp 31) (.tmp 38) rfl rfl rfl (P5.out.alloc _) rfl (src_one wr (lenB len j)) (by have := HB.out; have := hze.out; have := HZ0.out; omega) (Q5.out.alloc Q5.out.size _) (by have := Q5.out.size; simp; omega) ?_; intro v6 w6 own6 bel6 sz6; simp only [Act.put, List.setIfInBounds_toArray, List.set_cons_succ, List.set_cons_zero]; have O6 : Hid (w6.ownsRow w.heap.size 5 1 v6 (len + 1 + z + (j + 1)) (vals (padL p len z (j + 1)))) := (by show w6.ownsRow w.heap.size 5 1 v6 (len + 1 + z + (j + 1)) (vals (padL p len z (j + 1))); rw [← padL_j]; exact own6); have G6 : Hid (Below w.heap.size w w6) := bel6; clear own6 bel6 sz6)))
          go_roundw
          case rel => exact ⟨j + 1, by omega, by go_num, O6.out, G6.out⟩
          case measure => simp [intOf]; omega
        · have e8 : Hid (j = 8) := by show j = 8; omega
          go_wp2
          go_ret
          refine ⟨_, z, rfl, ?_, ?_, ?_, Q5.out⟩
          · have := hze.out; have := HZ0.out; omega
          · have := hze.out; have := HZ0.out; omega
          · rw [← e8.out]; exact P5.out
end Go.Proofs.YtjckkdjldnobmaaGreatDoor

namespace Go.Proofs.YtjckkdjldnobmaaGreatDoor
open Go.RowKit

/-- The reference's state behind j blocks of P. -/
def rst (P : Nat → Int) : Nat → Nat → Int
  | 0 => hW
  | j + 1 => fun i => (rst P j i + iterR kW (sched fun b => P (64 * j + b)) (rst P j) 64 i) % 4294967296
theorem rst_succ (P : Nat → Int) (j : Nat) : rst P (j + 1) = fun i => (rst P j i + iterR kW (sched fun b => P (64 * j + b)) (rst P j) 64 i) % 4294967296 := by
  simp only [rst]
/-- The padded list as a function. -/
def padF (p : Nat → Int) (len z : Nat) : Nat → Int := fun i => (padL p len z 8).getD i 0
theorem lenB_bd (n i : Nat) : 0 ≤ lenB n i ∧ lenB n i < 256 := by unfold lenB; omega
theorem padF_bd (p : Nat → Int) (len z : Nat) (hp : ∀ j, j < len → 0 ≤ p j ∧ p j < 256) (i : Nat) : 0 ≤ padF p len z i ∧ padF p len z i < 256 := by
  unfold padF
  rw [List.getD_eq_getElem?_getD]
  cases h : (padL p len z 8)[i]? with
  | none => simp
  | some x =>
    have hm := List.mem_of_getElem? h
    simp only [Option.getD_some]
    simp only [padL, firstL, List.mem_append, List.mem_map, List.mem_range, List.mem_singleton, List.mem_replicate] at hm
    rcases hm with ((⟨j, hj, rfl⟩ | rfl) | ⟨_, rfl⟩) | ⟨j, _, rfl⟩
    · exact hp j hj
    · omega
    · omega
    · exact lenB_bd _ _

/-- The blocks of the reference's Sum. -/
structure RB (w W : World) (S Kb g T : Nat) (P s : Nat → Int) : Prop where
  r : W.heap[w.heap.size]? = some (.cells (tab8 32 fun _ => 0) 116)
  s : W.heap[S]? = some (.cells (tab32 8 s) 172)
  k : W.heap[Kb]? = some (.cells (tab32 64 kW) 184)
  m : ∀ i, i < T → W.cell? ⟨g, i, none⟩ = some (.int .u8 (P i))
  o1 : w.heap.size < S
  o2 : S < Kb
  o3 : Kb < g
  o4 : g < W.heap.size
  below : Below w.heap.size w W
theorem RB.go {w W W' : World} {S Kb g T : Nat} {P s : Nat → Int} (h : RB w W S Kb g T P s) (hb : Below W.heap.size W W') : RB w W' S Kb g T P s := by
  have h1 := h.o1
  have h2 := h.o2
  have h3 := h.o3
  have h4 := h.o4
  have h5 := hb.size
  exact ⟨by rw [hb.block _ (by omega)]; exact h.r, by rw [hb.block _ (by omega)]; exact h.s, by rw [hb.block _ (by omega)]; exact h.k, fun i hi => by rw [below_cell hb h4]; exact h.m i hi, h1, h2, h3, by omega, h.below.trans (hb.mono (by omega))⟩
theorem RB.setS {w W : World} {S Kb g T : Nat} {P s : Nat → Int} (h : RB w W S Kb g T P s) (s' : Nat → Int) : RB w (W.setRow S (tab32 8 s')) S Kb g T P s' := by
  have h1 := h.o1
  have h2 := h.o2
  have h3 := h.o3
  have h4 := h.o4
  exact ⟨by rw [setRow_other _ _ _ _ (by omega)]; exact h.r, setRow_heap _ _ _ _ _ _ h.s, by rw [setRow_other _ _ _ _ (by omega)]; exact h.k, fun i hi => by rw [cell_setRow_other _ _ _ _ (by simp; omega)]; exact h.m i hi, h1, h2, h3, by simpa using h4, below_setRow h.below (by omega) _⟩

set_option maxRecDepth 20000 in
set_option maxHeartbeats 2000000 in
theorem rsum_any (v : Value) (len : Nat) (p : Nat → Int) (w : World) (hbig : len + 200 ≤ 200000000000000) (hv : SliceB w v len p) (hnil : ∀ cap, v = .slice none len cap → cap = 0) :
    Calls Tryz.prog 92 #[v] w fun e w' => ∃ z, z < 64 ∧ (len + 1 + z) % 64 = 56 ∧ e = .returned (.agg (tab8 32 (digB (rst (padF p len z) ((len + 1 + z + 8) / 64))))) ∧ Below w.heap.size w w' := by
  have HB : Hid (_) := hbig
  have HV : Hid (SliceB w v len p) := hv
  have HN : Hid (_) := hnil
  clear hbig hv hnil
  have z28 := zero28
  go_enter Tryz.func92, Tryz.ntmps92
  go_wp2_with (first
    | (refine isStore 172 (.tmp 3) (.tmp 9) rfl ?_; go_must (refine wpList_store_row rfl 172 (.tmp 3) (.tmp 9) rfl (w.heap.size + 1) (tab32 8 hW) rfl (by rfl) 172 _ (heap2 w _ _).2 (size23' _) (by simp only [tab32_size]; rfl) (tab32_one _ _) ?_; simp only [Act.put])))
  clear z28
  have h2 := heap2 w (.cells (tab8 32 fun _ => 0) 116) (.cells (tab32 8 fun _ => 0) 172)
  obtain ⟨V1, hV1⟩ : ∃ V, V = ((w.alloc (.cells (tab8 32 fun _ => 0) 116)).alloc (.cells (tab32 8 fun _ => 0) 172)).setRow (w.heap.size + 1) (tab32 8 hW) := ⟨_, rfl⟩
  have a1 : Hid (V1.heap[w.heap.size]? = some (.cells (tab8 32 fun _ => 0) 116)) := by rw [hV1, setRow_other _ _ _ _ (by omega)]; exact h2.1
  have a2 : Hid (V1.heap[w.heap.size + 1]? = some (.cells (tab32 8 hW) 172)) := by rw [hV1]; exact setRow_heap _ _ _ _ _ _ h2.2
  have a3 : Hid (Below w.heap.size w V1) := by rw [hV1]; exact below_setRow (((Below.refl _ _).alloc (Nat.le_refl _) _).alloc (by simp) _) (by omega) _
  show Calls Tryz.prog 107 #[] (((w.alloc (.cells (tab8 32 fun _ => 0) 116)).alloc (.cells (tab32 8 fun _ => 0) 172)).setRow (w.heap.size + 1) (tab32 8 hW)) _
  rw [← hV1]
  clear hV1 h2
  refine (thirds_any V1).mono ?_
  rintro e w2 ⟨rfl, hb2⟩
  have l1 := (Array.getElem?_eq_some_iff.1 a2.out).1
  have l2 := hb2.size
  have b1 : Hid (w2.heap[w.heap.size]? = some (.cells (tab8 32 fun _ => 0) 116)) := by rw [hb2.block _ (by omega)]; exact a1.out
  have b2 : Hid (w2.heap[w.heap.size + 1]? = some (.cells (tab32 8 hW) 172)) := by rw [hb2.block _ (by omega)]; exact a2.out
  have b3 : Hid (Below w.heap.size w w2) := a3.out.trans (hb2.mono (by omega))
  have L : Hid (w.heap.size + 1 < w2.heap.size) := by show w.heap.size + 1 < w2.heap.size; omega
  clear hb2 a1 a2 a3 l1 l2
  go_wp2_with (first
    | (refine isStore 184 (.tmp 4) (.tmp 10) rfl ?_; go_must (refine wpList_store_row rfl 184 (.tmp 4) (.tmp 10) rfl w2.heap.size (tab32 64 kW) rfl rfl 184 _ (heap_alloc_new _ _) (size47' _) (by simp only [tab32_size]; rfl) (tab32_one _ _) ?_; rw [World.setRow_alloc_new]; simp only [Act.put])))
  obtain ⟨Kb, hKb⟩ : ∃ K, K = w2.heap.size := ⟨_, rfl⟩
  obtain ⟨V3, hV3⟩ : ∃ V, V = w2.alloc (.cells (tab32 64 kW) 184) := ⟨_, rfl⟩
  rw [← hV3, ← hKb]
  have c1 : Hid (V3.heap[w.heap.size]? = some (.cells (tab8 32 fun _ => 0) 116)) := by rw [hV3, Below.heap_alloc _ _ _ (by have := L.out; omega)]; exact b1.out
  have c2 : Hid (V3.heap[w.heap.size + 1]? = some (.cells (tab32 8 hW) 172)) := by rw [hV3, Below.heap_alloc _ _ _ L.out]; exact b2.out
  have c3 : Hid (V3.heap[Kb]? = some (.cells (tab32 64 kW) 184)) := by rw [hV3, hKb]; exact heap_alloc_new _ _
  have c4 : Hid (Below w.heap.size w V3) := by rw [hV3]; exact b3.out.alloc b3.out.size _
  have c5 : Hid (w.heap.size + 1 < Kb ∧ Kb < V3.heap.size) := by
    refine ⟨by rw [hKb]; exact L.out, ?_⟩
    rw [hV3, hKb]; simp
  clear hV3 hKb b1 b2 b3 L
  refine (rpadded_any v len p V3 HB.out (HV.out.below c4.out) HN.out).mono ?_
  rintro e w4 ⟨v4, z, rfl, hz1, hz2, own4, hb4⟩
  obtain ⟨g, cap, hv4⟩ := own_shape own4 (by omega)
  subst hv4
  have hg : V3.heap.size ≤ g ∧ g < w4.heap.size := own4.lt g rfl
  have R0 : RB w w4 (w.heap.size + 1) Kb g (len + 1 + z + 8) (padF p len z) hW := by
    obtain ⟨d1, d2⟩ := c5.out
    refine ⟨by rw [hb4.block _ (by omega)]; exact c1.out, by rw [hb4.block _ (by omega)]; exact c2.out, by rw [hb4.block _ (by omega)]; exact c3.out, fun i hi => ?_, by omega, by omega, by omega, hg.2, c4.out.trans (hb4.mono c4.out.size)⟩
    rw [own4.cellAt i (by omega)]
    have hl : i < (padL p len z 8).length := by rw [padL_len]; omega
    simp [vals, padF, hl]
  have bdF : Hid (∀ i, 0 ≤ padF p len z i ∧ padF p len z i < 256) := padF_bd p len z HV.out.bytes
  obtain ⟨P, hP⟩ : ∃ P, P = padF p len z := ⟨_, rfl⟩
  have HPf : Hid (_) := hP
  rw [← hP] at R0 bdF
  obtain ⟨T, hT⟩ : ∃ T, T = len + 1 + z + 8 := ⟨_, rfl⟩
  rw [← hT] at R0 ⊢
  have HT : Hid (_) := hT
  have HZ : Hid (z < 64 ∧ (len + 1 + z) % 64 = 56) := ⟨hz1, hz2⟩
  clear hP hT own4 hb4 hg c1 c2 c3 c4 c5 hz1 hz2 HV HN
  go_wp2
  go_loopw [6] (fun i W => ∃ j a : Nat, a = 64 * j ∧ a ≤ T ∧ i = .int .i64 a ∧ RB w W (w.heap.size + 1) Kb g T P (rst P j)) (fun i _ => T + 64 - (intOf i).toNat)
  case atStart => exact ⟨0, 0, rfl, by omega, rfl, R0⟩
  case round =>
    obtain ⟨j, a, haj, haT, rfl, Y⟩ := hrel
    have HJ : Hid (a = 64 * j) := haj
    clear haj R0
    have hT64 : Hid (T % 64 = 0) := by
      show T % 64 = 0
      have h1 := HT.out
      have h2 := HZ.out.2
      omega
    by_cases hlt : a < T
    · have il : (a : Int) < T := by omega
      have wa : wrap64 ((a : Int) + 64) = ((a + 64 : Nat) : Int) := by have h1 := HB.out; have h2 := HT.out; have h3 := HZ.out.1; simp [wrap64]; omega
      obtain ⟨st, hst⟩ : ∃ st, st = rst P j := ⟨_, rfl⟩
      rw [← hst] at Y
      have HST : Hid (_) := hst
      clear hst
      go_wp2_with (first
        | (refine isLoad 172 (.tmp 3) rfl ?_; go_must (refine wpList_load_row rfl 172 (.tmp 3) rfl (w.heap.size + 1) rfl 172 _ (0, 0) _ Y.s Tryz.underlying172 rfl (size23' _) ?_; simp only [Act.put, List.setIfInBounds_toArray, List.set_cons_succ, List.set_cons_zero]))
        | (refine isLoad 184 (.tmp 4) rfl ?_; go_must (refine wpList_load_row rfl 184 (.tmp 4) rfl Kb rfl 184 _ (0, 0) _ Y.k Tryz.underlying184 rfl (size47' _) ?_; simp only [Act.put, List.setIfInBounds_toArray, List.set_cons_succ, List.set_cons_zero])))
      obtain ⟨nx, hnx⟩ : ∃ nx : Nat → Int, nx = fun i => (st i + iterR kW (sched fun b => P (a + b)) st 64 i) % 4294967296 := ⟨_, rfl⟩
      have hwk := worked_any st kW P g 0 T cap a wr Y.o4 (by have h1 := hT64.out; have h2 := HJ.out; omega) (by have h1 := HB.out; have h2 := HT.out; have h3 := HZ.out.1; omega) (fun i hi => by rw [Nat.zero_add]; exact Y.m i hi) (fun i _ => bdF.out i)
      rw [← hnx] at hwk
      have HNX : Hid (nx = fun i => (st i + iterR kW (sched fun b => P (a + b)) st 64 i) % 4294967296) := hnx
      clear hnx
      refine hwk.mono ?_
      clear hwk
      rintro e w5 ⟨rfl, hb5⟩
      have Y5 := Y.go hb5
      clear hb5 Y
      go_wp2_with (first
        | (refine isStore 172 (.tmp 3) (.tmp 23) rfl ?_; go_must (refine wpList_store_row rfl 172 (.tmp 3) (.tmp 23) rfl (w.heap.size + 1) _ rfl rfl 172 _ Y5.s (size23' _) (by simp only [tab32_size]) (tab32_one _ _) ?_; simp only [Act.put])))
      go_roundw
      case rel =>
        refine ⟨j + 1, a + 64, by have := HJ.out; omega, by have h1 := hT64.out; have h2 := HJ.out; omega, by rw [wa], ?_⟩
        have h := Y5.setS nx
        have e : nx = rst P (j + 1) := by rw [HNX.out, HST.out, HJ.out, rst_succ]
        rw [e] at h ⊢
        exact h
      case measure =>
        rw [wa]
        simp only [intOf, Int.toNat_natCast]
        omega
    · have eT : Hid (a = T) := by show a = T; omega
      go_wp2
      obtain ⟨st, hst⟩ : ∃ st, st = rst P j := ⟨_, rfl⟩
      rw [← hst] at Y
      have HST : Hid (_) := hst
      clear hst
      obtain ⟨D, hD⟩ : ∃ D, D = wr.heap.size := ⟨_, rfl⟩
      have Z0 : RB w (wr.alloc (.cells (tab8 32 (upto (digB st) 0)) 116)) (w.heap.size + 1) Kb g T P st := Y.go ((Below.refl _ _).alloc (Nat.le_refl _) _)
      have Z1 : (wr.alloc (.cells (tab8 32 (upto (digB st) 0)) 116)).heap[D]? = some (.cells (tab8 32 (upto (digB st) 0)) 116) := by rw [hD]; exact heap_alloc_new _ _
      have Z2 : Hid (w.heap.size + 1 < D) := by
        show w.heap.size + 1 < D
        have h1 := Y.o2
        have h2 := Y.o3
        have h3 := Y.o4
        omega
      rw [← hD]
      go_loopw [8] (fun i W => ∃ m : Nat, m ≤ 32 ∧ i = .int .i64 m ∧ W.heap[w.heap.size]? = some (.cells (tab8 32 fun _ => 0) 116) ∧ W.heap[w.heap.size + 1]? = some (.cells (tab32 8 st) 172) ∧ W.heap[D]? = some (.cells (tab8 32 (upto (digB st) m)) 116) ∧ Below w.heap.size w W) (fun i _ => 32 - (intOf i).toNat)
      case atStart => exact ⟨0, by omega, rfl, Z0.r, Z0.s, Z1, Z0.below⟩
      case round =>
        obtain ⟨m, hm, rfl, x1, x2, x3, x4⟩ := hrel
        have X1 : Hid (_) := x1
        have X2 : Hid (_) := x2
        have X3 : Hid (_) := x3
        have X4 : Hid (_) := x4
        clear x1 x2 x3 x4 Z0 Z1 Y hD
        by_cases hlm : m < 32
        · have im : (m : Int) < 32 := by omega
          have f1 : wr.cell? ⟨w.heap.size + 1, m / 4, none⟩ = some (.int .u32 (st (m / 4))) := by rw [cell_of_row _ _ _ _ _ _ X2.out]; exact tab32_get 8 st _ (by omega)
          have f2 : wr.cell? ⟨D, m, none⟩ = some (.int .u8 (upto (digB st) m m)) := by rw [cell_of_row _ _ _ _ _ _ X3.out]; exact tab8_get 32 _ _ hlm
          have f3 : wr.frozen? ⟨D, m, none⟩ = false := frozen_of_row X3.out
          go_wp2
          go_roundw
          case rel =>
            have hz := Z2.out
            refine ⟨m + 1, by omega, by go_num, ?_, ?_, ?_, X4.out.setCell (by simp; omega) _⟩
            · rw [Below.heap_setCell _ _ _ _ (by simp; omega)]; exact X1.out
            · rw [Below.heap_setCell _ _ _ _ (by simp; omega)]; exact X2.out
            · rw [heap_setCell_row _ X3.out, tab8_set]
              exact congrArg (fun f => some (Obj.cells (tab8 32 f) 116)) (upd_upto (digB st) m)
          case measure => simp [intOf]; omega
        · go_wp2_with (first
            | (refine isLoad 116 (.tmp 7) rfl ?_; go_must (refine wpList_load_row rfl 116 (.tmp 7) rfl D rfl 116 _ (0, 0) _ X3.out Tryz.underlying116 rfl (size28' _) ?_; simp only [Act.put, List.setIfInBounds_toArray, List.set_cons_succ, List.set_cons_zero]))
            | (refine isStore 116 (.tmp 2) (.tmp 40) rfl ?_; go_must (refine wpList_store_row rfl 116 (.tmp 2) (.tmp 40) rfl w.heap.size _ rfl rfl 116 _ X1.out (size28' _) (by simp only [tab8_size]) (tab8_one _ _) ?_)))
          refine bodyPost_ret (v := .agg (tab8 32 (upto (digB st) m))) (results_cell_row Tryz.results92 _ _ w.heap.size 116 _ (0, 0) _ rfl (setRow_heap _ _ _ _ _ _ X1.out) Tryz.underlying116 rfl (size28' _)) rfl ⟨z, HZ.out.1, HZ.out.2, ?_, ?_⟩
          · refine congrArg (fun c => Ending.returned (Value.agg c)) ?_
            have ej : j = (len + 1 + z + 8) / 64 := by
              have h1 := HJ.out
              have h2 := eT.out
              have h3 := HT.out
              omega
            rw [← HPf.out, ← ej, ← HST.out]
            refine tab8_congr fun i hi => ?_
            simp [upto, show i < m by omega]
          · exact below_setRow X4.out (Nat.le_refl _) _
end Go.Proofs.YtjckkdjldnobmaaGreatDoor

namespace Go.Proofs.YtjckkdjldnobmaaGreatDoor
open Go.RowKit

theorem sch1_congr {b b' : Nat → Int} : ∀ k, (∀ i, i < k → b i = b' i) → sch1 b k = sch1 b' k
  | 0, _ => rfl
  | k + 1, h => by simp only [sch1]; rw [sch1_congr k (fun i hi => h i (by omega)), h k (by omega)]
theorem sched_congr {b b' : Nat → Int} (h : ∀ i, i < 64 → b i = b' i) : sched b = sched b' := by
  unfold sched; rw [sch1_congr 64 h]
theorem hW_mod (i : Nat) : hW i % 4294967296 = hW i := by
  by_cases h : i < 8
  · have : ∀ j : Fin 8, hW j.val % 4294967296 = hW j.val := by decide +kernel
    exact this ⟨i, h⟩
  · have : hW i = 0 := by
      unfold hW
      rw [List.getD_eq_getElem?_getD, List.getElem?_eq_none (by simp [hList]; omega)]
      rfl
    rw [this]; rfl
theorem stW_wkG (g r : Nat → Int) : stW (wkG g r) = fun i => (stW g i + iterR kW (sched r) (stW g) 64 i) % 4294967296 := by
  funext i
  show (hW i + (g i + iterR kW (sched r) (stW g) 64 i) % 4294967296) % 4294967296 = ((hW i + g i) % 4294967296 + iterR kW (sched r) (stW g) 64 i) % 4294967296
  generalize iterR kW (sched r) (stW g) 64 i = x
  omega
theorem overlay_full (r q : Nat → Int) (i : Nat) (hi : i < 64) : overlay r 0 64 q i = q i := by
  simp [overlay, hi]
/-- Behind whole blocks. -/
theorem blocks (p P : Nat → Int) : ∀ j, (∀ i, i < 64 * j → P i = p i) → stW (addN HS.new p (64 * j)).g = rst P j ∧ (addN HS.new p (64 * j)).r = fun _ => 0
  | 0, _ => ⟨by
      funext i
      show (hW i + 0) % 4294967296 = hW i
      rw [Int.add_zero, hW_mod], rfl⟩
  | j + 1, h => by
    obtain ⟨h1, h2⟩ := blocks p P j (fun i hi => h i (by omega))
    have hn : (addN HS.new p (64 * j)).n % 64 = 0 := by rw [addN_n]; simp [HS.new]
    have hf := addN_full (addN HS.new p (64 * j)) (fun i => p (64 * j + i)) 64 (by omega) (by omega)
    rw [show 64 * (j + 1) = 64 * j + 64 by omega, addN_add, hf]
    refine ⟨?_, rfl⟩
    simp only
    rw [stW_wkG, h1, rst_succ, hn]
    have e : sched (overlay (addN HS.new p (64 * j)).r 0 64 fun i => p (64 * j + i)) = sched fun b => P (64 * j + b) := sched_congr fun i hi => by
      rw [overlay_full _ _ _ hi, h (64 * j + i) (by omega)]
    rw [e]
theorem padF_get (p : Nat → Int) (len z i : Nat) : padF p len z i = if i < len then p i else if i = len then 128 else if i < len + 1 + z then 0 else if i < len + 1 + z + 8 then lenB len (i - (len + 1 + z)) else 0 := by
  unfold padF padL firstL
  rw [List.getD_eq_getElem?_getD]
  by_cases h1 : i < len
  · rw [if_pos h1, List.append_assoc, List.append_assoc, List.getElem?_append_left (by simpa using h1)]
    simp [h1]
  · rw [if_neg h1, List.append_assoc, List.append_assoc, List.getElem?_append_right (by simp; omega)]
    simp only [List.length_map, List.length_range]
    by_cases h2 : i = len
    · rw [if_pos h2]; subst h2; simp
    · rw [if_neg h2, List.getElem?_append_right (by simp; omega)]
      simp only [List.length_singleton]
      by_cases h3 : i < len + 1 + z
      · rw [if_pos h3, List.getElem?_append_left (by simp; omega)]
        simp [show i - len - 1 < z by omega]
      · rw [if_neg h3, List.getElem?_append_right (by simp; omega)]
        simp only [List.length_replicate]
        by_cases h4 : i < len + 1 + z + 8
        · rw [if_pos h4]
          rw [show i - len - 1 - z = i - (len + 1 + z) by omega]
          simp [show i - (len + 1 + z) < 8 by omega]
        · rw [if_neg h4]
          simp [show ¬ i - len - 1 - z < 8 by omega]

/-- THE DIGEST IS THE REFERENCE's. -/
theorem rst_sum (p : Nat → Int) (len z : Nat) (hz : z < 64) (hz2 : (len + 1 + z) % 64 = 56) : digB (rst (padF p len z) ((len + 1 + z + 8) / 64)) = sumD (addN HS.new p len) := by
  obtain ⟨q, r, hlen, hr⟩ : ∃ q r, len = 64 * q + r ∧ r < 64 := ⟨len / 64, len % 64, by omega, by omega⟩
  have hP := padF_get p len z
  obtain ⟨b1, b2⟩ := blocks p (padF p len z) q (fun i hi => by rw [hP, if_pos (by omega)])
  have hn0 : (addN HS.new p (64 * q)).n % 64 = 0 := by rw [addN_n]; simp [HS.new]
  have ht : addN HS.new p len = ⟨(addN HS.new p (64 * q)).g, overlay (addN HS.new p (64 * q)).r 0 r (fun i => p (64 * q + i)), (addN HS.new p (64 * q)).n + r⟩ := by
    have h := addN_part (addN HS.new p (64 * q)) (fun i => p (64 * q + i)) r (by omega)
    rw [hn0] at h
    rw [← h, ← addN_add, ← hlen]
  have hn : (addN HS.new p (64 * q)).n + r = len := by rw [addN_n]; simp [HS.new]; omega
  rw [hn, b2] at ht
  obtain ⟨g, hg⟩ : ∃ g, g = (addN HS.new p (64 * q)).g := ⟨_, rfl⟩
  rw [← hg] at ht b1
  rw [ht]
  unfold sumD
  congr 1
  simp only
  unfold padG
  have hm : len % 64 = r := by omega
  by_cases h56 : r < 56
  · have hT : (len + 1 + z + 8) / 64 = q + 1 := by omega
    have hpg : pg g (overlay (fun _ => 0) 0 r fun i => p (64 * q + i)) len = g := by unfold pg; rw [if_pos (by omega)]
    rw [hT, rst_succ, hpg, stW_wkG, b1]
    have e : (sched fun b => padF p len z (64 * q + b)) = sched (lenR (pr (overlay (fun _ => 0) 0 r fun i => p (64 * q + i)) len) len 8) := sched_congr fun i hi => by
      rw [hP]
      unfold lenR pr padR upd overlay
      rw [if_pos (show len % 64 < 56 by omega), hm]
      by_cases c1 : i < r
      · rw [if_pos (by omega), if_neg (by omega)]
        simp only
        rw [if_neg (by omega), if_pos (by omega), Nat.sub_zero]
      · by_cases c2 : i = r
        · rw [if_neg (by omega), if_pos (by omega), if_neg (by omega)]
          simp only
          rw [if_pos c2]
        · by_cases c3 : i < 56
          · rw [if_neg (by omega), if_neg (by omega), if_pos (by omega), if_neg (by omega)]
            simp only
            rw [if_neg c2, if_neg (by omega)]
          · rw [if_neg (by omega), if_neg (by omega), if_neg (by omega), if_pos (by omega), if_pos (by omega), show 64 * q + i - (len + 1 + z) = i - 56 by omega]
    rw [e]
  · have hT : (len + 1 + z + 8) / 64 = q + 1 + 1 := by omega
    have hpg : pg g (overlay (fun _ => 0) 0 r fun i => p (64 * q + i)) len = wkG g (padR (overlay (fun _ => 0) 0 r fun i => p (64 * q + i)) len) := by unfold pg; rw [if_neg (by omega)]
    have e1 : (sched fun b => padF p len z (64 * q + b)) = sched (padR (overlay (fun _ => 0) 0 r fun i => p (64 * q + i)) len) := sched_congr fun i hi => by
      rw [hP]
      unfold padR upd overlay
      rw [hm]
      by_cases c1 : i < r
      · rw [if_pos (by omega), if_neg (by omega), if_pos (by omega), Nat.sub_zero]
      · by_cases c2 : i = r
        · rw [if_neg (by omega), if_pos (by omega), if_pos c2]
        · rw [if_neg (by omega), if_neg (by omega), if_pos (by omega), if_neg c2, if_neg (by omega)]
    have e2 : (sched fun b => padF p len z (64 * (q + 1) + b)) = sched (lenR (pr (overlay (fun _ => 0) 0 r fun i => p (64 * q + i)) len) len 8) := sched_congr fun i hi => by
      rw [hP]
      unfold lenR pr
      rw [if_neg (show ¬ len % 64 < 56 by omega)]
      by_cases c3 : i < 56
      · rw [if_neg (by omega), if_neg (by omega), if_pos (by omega), if_neg (by omega)]
      · rw [if_neg (by omega), if_neg (by omega), if_neg (by omega), if_pos (by omega), if_pos (by omega), show 64 * (q + 1) + i - (len + 1 + z) = i - 56 by omega]
    rw [hT, rst_succ, rst_succ, hpg, stW_wkG, stW_wkG, b1, e1, e2]

/-- THE REFERENCE's SUM, by the program's own functions. -/
theorem rsum_is (v : Value) (len : Nat) (p : Nat → Int) (w : World) (hbig : len + 200 ≤ 200000000000000) (hv : SliceB w v len p) (hnil : ∀ cap, v = .slice none len cap → cap = 0) :
    Calls Tryz.prog 92 #[v] w fun e w' => e = .returned (.agg (tab8 32 (sumD (addN HS.new p len)))) ∧ Below w.heap.size w w' :=
  (rsum_any v len p w hbig hv hnil).mono fun e w' ⟨z, h1, h2, he, hb⟩ => by
    rw [rst_sum p len z h1 h2] at he
    exact ⟨he, hb⟩
end Go.Proofs.YtjckkdjldnobmaaGreatDoor

namespace Go.Proofs.YtjckkdjldnobmaaGreatDoor
open Go.RowKit

theorem size5' : ∀ W, (sizeOf 5).run Tryz.prog W = .ok 1 W := by intro W; simp [go_sem]
/-- A piece of a []byte. -/
theorem SliceB.sub {w : World} {a : Option Addr} {len cap : Nat} {p : Nat → Int} (hv : SliceB w (.slice a len cap) len p) (l h : Nat) (h1 : l ≤ h) (h2 : h ≤ len) :
    SliceB w (sliced a l h cap 1) (h - l) (fun j => p (l + j)) := by
  obtain ⟨⟨a', cap', e, e1, e2, e3⟩, hp⟩ := hv
  obtain ⟨rfl, _, rfl⟩ : a = a' ∧ len = len ∧ cap = cap' := by
    injection e with x y z
    exact ⟨x, rfl, z⟩
  refine ⟨⟨_, cap - l, rfl, by omega, by omega, fun h0 => ?_⟩, fun j hj => hp (l + j) (by omega)⟩
  obtain ⟨b, off, rfl, hb, hc⟩ := e3 (by omega)
  rw [if_neg (by omega)]
  refine ⟨b, off + l, ?_, hb, fun j hj => ?_⟩
  · simp [Addr.add_mid]
  · rw [Nat.add_assoc]; exact hc (l + j) (by omega)
theorem slice_lh (a : Option Addr) (len cap l h : Nat) (h1 : l ≤ h) (h2 : h ≤ cap) (W : World) : (Instr.sliceAt 24 (.slice a len cap) (some (.int .i64 (l : Int))) (some (.int .i64 (h : Int))) none).run Tryz.prog W = .ok (sliced a l h cap 1) W := by
  have e1 : (l : Int) ≤ h := by omega
  have e2 : (h : Int) ≤ cap := by omega
  simp [Instr.sliceAt, Instr.slice, run_underlying Tryz.underlying24, Instr.sliceBounds, run_sliceBound, sliced, h1, h2]
theorem slice_h (a : Option Addr) (len cap h : Nat) (h2 : h ≤ cap) (W : World) : (Instr.sliceAt 24 (.slice a len cap) none (some (.int .i64 (h : Int))) none).run Tryz.prog W = .ok (sliced a 0 h cap 1) W := by
  have e2 : (h : Int) ≤ cap := by omega
  simp [Instr.sliceAt, Instr.slice, run_underlying Tryz.underlying24, Instr.sliceBounds, run_sliceBound, sliced, h2]
theorem slice_l (a : Option Addr) (len cap l : Nat) (h1 : l ≤ len) (W : World) : (Instr.sliceAt 24 (.slice a len cap) (some (.int .i64 (l : Int))) none none).run Tryz.prog W = .ok (sliced a l len cap 1) W := by
  have e1 : (l : Int) ≤ len := by omega
  simp [Instr.sliceAt, Instr.slice, run_underlying Tryz.underlying24, Instr.sliceBounds, run_sliceBound, sliced, h1]

theorem conv_str {w : World} {v : Value} {l : Nat} {p : Nat → Int} (h : SliceB w v l p) : (convert 24 9 v).run Tryz.prog w = .ok (.string (strOfNums (firstL p l))) w := by
  obtain ⟨⟨a, cap, rfl, h1, h2, h3⟩, hp⟩ := h
  by_cases h0 : 0 < l
  · obtain ⟨b, off, rfl, _, hc⟩ := h3 h0
    refine run_convert_bytes_arg w 24 5 Tryz.underlying24 Tryz.underlying5 b off l cap (firstL p l) (by simp [firstL]) (fun i hi => ?_) 9 Tryz.underlying9
    rw [hc i hi]
    simp [firstL, hi]
  · obtain rfl : l = 0 := by omega
    cases a with
    | none => exact run_convert_bytes_nil w 24 5 Tryz.underlying24 Tryz.underlying5 0 cap 9 Tryz.underlying9
    | some ad =>
      have hl : (loadCells ad 0).run Tryz.prog w = .ok (([] : List Int).map (Value.int .u8)).toArray w := by simpa using run_loadCells_list (P := Tryz.prog) w ad [] (by simp)
      rw [run_convert_bytes_string w 24 9 5 _ 0 cap Tryz.underlying24 Tryz.underlying5 Tryz.underlying9, run_bytesToString w _ 0 cap [] hl]
      rfl
end Go.Proofs.YtjckkdjldnobmaaGreatDoor
