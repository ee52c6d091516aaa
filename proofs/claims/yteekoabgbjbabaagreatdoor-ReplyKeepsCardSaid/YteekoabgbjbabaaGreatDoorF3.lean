import Derived.Test.YteekoabgbjbabaaGreatDoorB3
import Derived.Test.YteekoabgbjbabaaGreatDoorX7b
import Derived.Laws.AppendOwnNone
namespace Go.Proofs.YteekoabgbjbabaaGreatDoor
open Go.RowKit

theorem or_comm32 (x y : Int) : bits .or .u32 x y = bits .or .u32 y x := by
  simp only [bits]
  rw [BitVec.or_comm]

set_option maxHeartbeats 400000 in
theorem rturned_any (x : Int) (k : Int) (n : Nat) (w : World) (hk : k = (n : Int)) (h1 : 1 ≤ n) (hn : n ≤ 31) :
    Calls Tryz.prog 105 #[.int .u32 x, .int .i64 k] w fun e w' => e = .returned (.int .u32 (rotr x n)) ∧ ∃ m, w' = w.drewN m := by
  subst hk
  have h0 : (0 : Int) ≤ (n : Int) := by omega
  have h2 : IntKind.i64.wrap (32 - (n : Int)) = 32 - (n : Int) := by simp [IntKind.wrap, IntKind.bits, IntKind.signed]; omega
  have h3 : (32 - (n : Int)).toNat = 32 - n := by omega
  have h4 : min n 32 = n := by omega
  have h5 : min (32 - n) 32 = 32 - n := by omega
  have h6 : (0 : Int) ≤ 32 - (n : Int) := by omega
  go_enter Tryz.func105, Tryz.ntmps105
  go_wp2
  go_quiet (fail)
  go_wp2
  go_ret
  refine ⟨?_, nq, rfl⟩
  unfold rotr rotl
  rw [or_comm32, show 32 - (32 - n) = n by omega]
  rfl

set_option maxRecDepth 20000 in
set_option maxHeartbeats 400000 in
theorem thirds_any (w : World) :
    Calls Tryz.prog 95 #[] w fun e w' => e = .returned (.agg (tab32 64 kW)) ∧ Below w.heap.size w w' := by
  go_enter Tryz.func95, Tryz.ntmps95
  go_wp2_with (first
    | (refine isStore 119 (.tmp 0) (.tmp 1) rfl ?_; go_must (refine wpList_store_row rfl 119 (.tmp 0) (.tmp 1) rfl w.heap.size (tab32 64 kW) rfl (by rfl) 119 _ (heap_alloc_new _ _) (size47' _) (by simp only [tab32_size]; rfl) (tab32_one _ _) ?_)))
  refine bodyPost_ret (v := .agg (tab32 64 kW)) (results_cell_row Tryz.results95 _ _ w.heap.size 119 _ (0, 0) _ rfl (setRow_heap _ _ _ _ _ _ (heap_alloc_new _ _)) Tryz.underlying119 rfl (size47' _)) rfl ⟨rfl, ?_⟩
  exact below_setRow ((Below.refl _ _).alloc (Nat.le_refl _) _) (Nat.le_refl _) _
end Go.Proofs.YteekoabgbjbabaaGreatDoor

namespace Go.Proofs.YteekoabgbjbabaaGreatDoor
open Go.RowKit

theorem rturned_int (x k : Int) (w : World) (h1 : 1 ≤ k) (h2 : k ≤ 31) :
    Calls Tryz.prog 105 #[.int .u32 x, .int .i64 k] w fun e w' => e = .returned (.int .u32 (rotr x k.toNat)) ∧ ∃ m, w' = w.drewN m :=
  rturned_any x k k.toNat w (by omega) (by omega) (by omega)

theorem emod_both (a b : Int) : (a + b) % 4294967296 = (a % 4294967296 + b % 4294967296) % 4294967296 := by omega
theorem emod_right (a b : Int) : (a + b) % 4294967296 = (a + b % 4294967296) % 4294967296 := by omega
theorem step_lit (k W v : Nat → Int) (r : Nat) :
    Value.agg #[.int .u32 ((v 7 + bits BinOp.xor IntKind.u32 (bits BinOp.xor IntKind.u32 (rotr (v 4) 6) (rotr (v 4) 11)) (rotr (v 4) 25) + bits BinOp.xor IntKind.u32 (bits BinOp.and IntKind.u32 (v 4) (v 5)) (bits BinOp.and IntKind.u32 (bits BinOp.xor IntKind.u32 IntKind.u32.max (v 4)) (v 6)) + k r + W r + (bits BinOp.xor IntKind.u32 (bits BinOp.xor IntKind.u32 (rotr (v 0) 2) (rotr (v 0) 13)) (rotr (v 0) 22) + bits BinOp.xor IntKind.u32 (bits BinOp.xor IntKind.u32 (bits BinOp.and IntKind.u32 (v 0) (v 1)) (bits BinOp.and IntKind.u32 (v 0) (v 2))) (bits BinOp.and IntKind.u32 (v 1) (v 2)))) % 4294967296), .int .u32 (v 0), .int .u32 (v 1), .int .u32 (v 2), .int .u32 ((v 3 + (v 7 + bits BinOp.xor IntKind.u32 (bits BinOp.xor IntKind.u32 (rotr (v 4) 6) (rotr (v 4) 11)) (rotr (v 4) 25) + bits BinOp.xor IntKind.u32 (bits BinOp.and IntKind.u32 (v 4) (v 5)) (bits BinOp.and IntKind.u32 (bits BinOp.xor IntKind.u32 IntKind.u32.max (v 4)) (v 6)) + k r + W r)) % 4294967296), .int .u32 (v 4), .int .u32 (v 5), .int .u32 (v 6)] = .agg (tab32 8 (stepR k W r v)) := by
  rw [emod_both, emod_right (v 3)]
  rfl

/-- The reference's words behind t rounds. -/
def wst (q : Nat → Int) (t : Nat) : Nat → Int := if t ≤ 16 then sch1 q (4 * t) else sch2 (sch1 q 64) (t - 16)

theorem wst_ge (q : Nat → Int) (t : Nat) (h : 16 ≤ t) : wst q t = sch2 (sch1 q 64) (t - 16) := by
  unfold wst
  by_cases e : t = 16
  · subst e; rfl
  · rw [if_neg (by omega)]
theorem nextW_flat (f : Nat → Int) (t : Nat) : nextW f t = (sig1 (f (t - 2)) + f (t - 7) + sig0 (f (t - 15)) + f (t - 16)) % 4294967296 := by
  unfold nextW
  generalize sig1 (f (t - 2)) = a
  generalize sig0 (f (t - 15)) = c
  omega
theorem wst_succ (q : Nat → Int) (t : Nat) (h : 16 ≤ t) : upd (wst q t) t ((sig1 (wst q t (t - 2)) + wst q t (t - 7) + sig0 (wst q t (t - 15)) + wst q t (t - 16)) % 4294967296) = wst q (t + 1) := by
  rw [← nextW_flat, wst_ge q t h, wst_ge q (t + 1) (by omega), show t + 1 - 16 = (t - 16) + 1 by omega]
  simp only [sch2]
  rw [show 16 + (t - 16) = t by omega]
theorem wst_end (q : Nat → Int) : wst q 64 = sched q := wst_ge q 64 (by omega)

/-- The blocks in the second part. -/
def WC (w W : World) (C : Nat) (s k f v : Nat → Int) : Prop :=
  W.heap[w.heap.size]? = some (.cells (tab32 8 s) 69) ∧ W.heap[w.heap.size + 1]? = some (.cells (tab32 64 k) 119) ∧ W.heap[w.heap.size + 2]? = some (.cells (tab32 8 fun _ => 0) 69) ∧ W.heap[w.heap.size + 3]? = some (.cells (tab32 64 f) 119) ∧ W.heap[C]? = some (.cells (tab32 8 v) 69) ∧ w.heap.size + 3 < C ∧ Below w.heap.size w W
theorem WC.drewN {w W : World} {C : Nat} {s k f v : Nat → Int} (h : WC w W C s k f v) (n : Nat) : WC w (W.drewN n) C s k f v :=
  ⟨h.1, h.2.1, h.2.2.1, h.2.2.2.1, h.2.2.2.2.1, h.2.2.2.2.2.1, below_drewN h.2.2.2.2.2.2 n⟩
theorem WC.drew {w W : World} {C : Nat} {s k f v : Nat → Int} (h : WC w W C s k f v) : WC w W.drew C s k f v := h.drewN 1
theorem WC.cv {w W : World} {C : Nat} {s k f v : Nat → Int} (h : WC w W C s k f v) (i : Nat) (hi : i < 8) : W.cell? ⟨C, i, none⟩ = some (.int .u32 (v i)) := by
  rw [cell_of_row _ _ _ _ _ _ h.2.2.2.2.1]; exact tab32_get 8 v i hi
theorem WC.cs {w W : World} {C : Nat} {s k f v : Nat → Int} (h : WC w W C s k f v) (i : Nat) (hi : i < 8) : W.cell? ⟨w.heap.size, i, none⟩ = some (.int .u32 (s i)) ∧ W.frozen? ⟨w.heap.size, i, none⟩ = false :=
  ⟨by rw [cell_of_row _ _ _ _ _ _ h.1]; exact tab32_get 8 s i hi, frozen_of_row h.1⟩
theorem WC.ck {w W : World} {C : Nat} {s k f v : Nat → Int} (h : WC w W C s k f v) (i : Nat) (hi : i < 64) : W.cell? ⟨w.heap.size + 1, i, none⟩ = some (.int .u32 (k i)) := by
  rw [cell_of_row _ _ _ _ _ _ h.2.1]; exact tab32_get 64 k i hi
theorem WC.cw {w W : World} {C : Nat} {s k f v : Nat → Int} (h : WC w W C s k f v) (i : Nat) (hi : i < 64) : W.cell? ⟨w.heap.size + 3, i, none⟩ = some (.int .u32 (f i)) := by
  rw [cell_of_row _ _ _ _ _ _ h.2.2.2.1]; exact tab32_get 64 f i hi
theorem WC.setV {w W : World} {C : Nat} {s k f v : Nat → Int} (h : WC w W C s k f v) (v' : Nat → Int) : WC w (W.setRow C (tab32 8 v')) C s k f v' := by
  obtain ⟨h1, h2, h3, h4, h5, h6, h7⟩ := h
  refine ⟨?_, ?_, ?_, ?_, setRow_heap _ _ _ _ _ _ h5, h6, below_setRow h7 (by omega) _⟩
  · rw [setRow_other _ _ _ _ (by omega)]; exact h1
  · rw [setRow_other _ _ _ _ (by omega)]; exact h2
  · rw [setRow_other _ _ _ _ (by omega)]; exact h3
  · rw [setRow_other _ _ _ _ (by omega)]; exact h4
theorem WC.setS {w W : World} {C : Nat} {s k f v : Nat → Int} (h : WC w W C s k f v) (i : Nat) (x : Int) : WC w (W.setCell ⟨w.heap.size, i, none⟩ (.int .u32 x)) C (upd s i x) k f v := by
  obtain ⟨h1, h2, h3, h4, h5, h6, h7⟩ := h
  refine ⟨?_, ?_, ?_, ?_, ?_, h6, h7.setCell (Nat.le_refl _) _⟩
  · rw [heap_setCell_row _ h1, tab32_set]
  · rw [Below.heap_setCell _ _ _ _ (by simp)]; exact h2
  · rw [Below.heap_setCell _ _ _ _ (by simp)]; exact h3
  · rw [Below.heap_setCell _ _ _ _ (by simp)]; exact h4
  · rw [Below.heap_setCell _ _ _ _ (by simp; omega)]; exact h5

/-- The blocks in the first part. -/
def WB (w W : World) (s k f : Nat → Int) : Prop :=
  W.heap[w.heap.size]? = some (.cells (tab32 8 s) 69) ∧ W.heap[w.heap.size + 1]? = some (.cells (tab32 64 k) 119) ∧ W.heap[w.heap.size + 2]? = some (.cells (tab32 8 fun _ => 0) 69) ∧ W.heap[w.heap.size + 3]? = some (.cells (tab32 64 f) 119) ∧ Below w.heap.size w W
theorem WB.drew {w W : World} {s k f : Nat → Int} (h : WB w W s k f) : WB w W.drew s k f := ⟨h.1, h.2.1, h.2.2.1, h.2.2.2.1, h.2.2.2.2.drew⟩
theorem WB.drewN {w W : World} {s k f : Nat → Int} (h : WB w W s k f) (n : Nat) : WB w (W.drewN n) s k f := ⟨h.1, h.2.1, h.2.2.1, h.2.2.2.1, below_drewN h.2.2.2.2 n⟩
theorem WB.set {w W : World} {s k f : Nat → Int} (h : WB w W s k f) (t : Nat) (v : Int) : WB w (W.setCell ⟨w.heap.size + 3, t, none⟩ (.int .u32 v)) s k (upd f t v) := by
  obtain ⟨h1, h2, h3, h4, h5⟩ := h
  refine ⟨?_, ?_, ?_, ?_, h5.setCell (by simp) _⟩
  · rw [Below.heap_setCell _ _ _ _ (by simp)]; exact h1
  · rw [Below.heap_setCell _ _ _ _ (by simp)]; exact h2
  · rw [Below.heap_setCell _ _ _ _ (by simp)]; exact h3
  · rw [heap_setCell_row _ h4, tab32_set]
theorem WB.cell {w W : World} {s k f : Nat → Int} (h : WB w W s k f) (t : Nat) (ht : t < 64) : W.cell? ⟨w.heap.size + 3, t, none⟩ = some (.int .u32 (f t)) ∧ W.frozen? ⟨w.heap.size + 3, t, none⟩ = false :=
  ⟨by rw [cell_of_row _ _ _ _ _ _ h.2.2.2.1]; exact tab32_get 64 f t ht, frozen_of_row h.2.2.2.1⟩
theorem WB.start (w : World) (s k q : Nat → Int) : WB w ((((w.alloc (.cells (tab32 8 s) 69)).alloc (.cells (tab32 64 k) 119)).alloc (.cells (tab32 8 fun _ => 0) 69)).alloc (.cells (tab32 64 (sch1 q 0)) 119)) s k (sch1 q 0) := by
  have h := heap3 w (.cells (tab32 8 s) 69) (.cells (tab32 64 k) 119) (.cells (tab32 8 fun _ => 0) 69) 0
  refine ⟨?_, ?_, ?_, ?_, (below3 w (.cells (tab32 8 s) 69) (.cells (tab32 64 k) 119) (.cells (tab32 8 fun _ => 0) 69) 0).alloc (by simp; omega) _⟩
  · rw [Below.heap_alloc _ _ _ (by simp; omega)]; exact h.1
  · rw [Below.heap_alloc _ _ _ (by simp)]; exact h.2.1
  · rw [Below.heap_alloc _ _ _ (by simp)]; exact h.2.2
  · have := heap_alloc_new (((w.alloc (.cells (tab32 8 s) 69)).alloc (.cells (tab32 64 k) 119)).alloc (.cells (tab32 8 fun _ => 0) 69)) (.cells (tab32 64 (sch1 q 0)) 119)
    simpa using this

set_option maxRecDepth 100000 in
set_option maxHeartbeats 4000000 in
theorem worked_any (s k p : Nat → Int) (b off len cap at' : Nat) (w : World) (hb : b < w.heap.size) (hat : at' + 64 ≤ len) (hbig : len < 1152921504606846976)
    (hp : ∀ j, j < len → w.cell? ⟨b, off + j, none⟩ = some (.int .u8 (p j))) (hpb : ∀ j, j < len → 0 ≤ p j ∧ p j < 256) :
    Calls Tryz.prog 97 #[.agg (tab32 8 s), .agg (tab32 64 k), .slice (some ⟨b, off, none⟩) len cap, .int .i64 (at' : Int)] w
      fun e w' => e = .returned (.agg (tab32 8 fun i => (s i + iterR k (sched fun j => p (at' + j)) s 64 i) % 4294967296)) ∧ Below w.heap.size w w' := by
  have HB : Hid (_) := hbig
  have HP : Hid (_) := hp
  have HPB : Hid (_) := hpb
  clear hbig hp hpb
  obtain ⟨q, hq⟩ : ∃ q : Nat → Int, q = fun j => p (at' + j) := ⟨_, rfl⟩
  have HQ : Hid (_) := hq
  rw [← hq]
  clear hq
  go_enter Tryz.func97, Tryz.ntmps97
  go_wp2
  have X0 := WB.start w s k q
  go_loopw [10] (fun i W => ∃ t : Nat, t ≤ 64 ∧ i = .int .i64 t ∧ WB w W s k (wst q t)) (fun i _ => 64 - (intOf i).toNat)
  case atStart => exact ⟨0, by omega, rfl, X0⟩
  case round =>
    obtain ⟨t, ht, rfl, D⟩ := hrel
    clear X0
    by_cases hlt : t < 64
    · have i1 : (t : Int) < 64 := by omega
      by_cases h16 : t < 16
      · have i2 : (t : Int) < 16 := by omega
        go_wp2
        go_loopw [11] (fun i W => ∃ j : Nat, j ≤ 4 ∧ i = .int .i64 j ∧ WB w W s k (sch1 q (4 * t + j))) (fun i _ => 4 - (intOf i).toNat)
        case atStart => exact ⟨0, by omega, rfl, by have := D; unfold wst at this; rw [if_pos (by omega)] at this; exact this⟩
        case round =>
          obtain ⟨j, hj, rfl, E⟩ := hrel
          clear D
          by_cases hlj : j < 4
          · have i3 : (j : Int) < 4 := by omega
            have cw := (E.cell t hlt).1
            have cf := (E.cell t hlt).2
            have cb : wr.cell? ⟨b, off + (at' + 4 * t + j), none⟩ = some (.int .u8 (q (4 * t + j))) := by
              rw [below_cell E.2.2.2.2 hb, HP.out _ (by omega), HQ.out]
              simp only [Nat.add_assoc]
            have bd := HPB.out (at' + (4 * t + j)) (by omega)
            have g0 : 0 ≤ q (4 * t + j) := by rw [HQ.out]; exact bd.1
            have g1 : q (4 * t + j) < 256 := by rw [HQ.out]; exact bd.2
            clear bd
            have w1 : wrap64 ((at' : Int) + 4 * t) = (at' : Int) + 4 * t := by have := HB.out; simp [wrap64]; omega
            have w2 : wrap64 ((at' : Int) + 4 * t + j) = (at' : Int) + 4 * t + j := by have := HB.out; simp [wrap64]; omega
            have w3 : (at' : Int) + 4 * t + j < len := by omega
            have w4 : (0 : Int) ≤ (at' : Int) + 4 * t + j := by omega
            have w5 : ((at' : Int) + 4 * t + j).toNat = at' + 4 * t + j := by omega
            have w6 : IntKind.i64.wrap ((at' : Int) + 4 * t) = (at' : Int) + 4 * t := by have := HB.out; simp [IntKind.wrap, IntKind.bits, IntKind.signed]; omega
            have w7 : IntKind.i64.wrap ((at' : Int) + 4 * t + j) = (at' : Int) + 4 * t + j := by have := HB.out; simp [IntKind.wrap, IntKind.bits, IntKind.signed]; omega
            have w8 : q (4 * t + j) % 4294967296 = q (4 * t + j) := by omega
            go_wp2
            go_region
            go_wp2
            go_roundw
            case rel =>
              refine ⟨j + 1, by omega, by go_num, ?_⟩
              have h := (E.set t (bits BinOp.or IntKind.u32 (sch1 q (4 * t + j) t * 256 % 4294967296) (q (4 * t + j)))).drew
              have e : upd (sch1 q (4 * t + j)) t (bits BinOp.or IntKind.u32 (sch1 q (4 * t + j) t * 256 % 4294967296) (q (4 * t + j))) = sch1 q (4 * t + (j + 1)) := by
                rw [← Nat.add_assoc]
                simp only [sch1, show (4 * t + j) / 4 = t by omega]
              rw [e] at h
              exact h
            case measure => simp [intOf]; omega
          · go_wp2
            go_roundw
            case rel =>
              refine ⟨t + 1, by omega, by go_num, ?_⟩
              unfold wst
              rw [if_pos (by omega), show 4 * (t + 1) = 4 * t + j by omega]
              exact E
            case measure => simp [intOf]; omega
      · have i2 : ¬ (t : Int) < 16 := by omega
        have h16' : 16 ≤ (t : Int) := by omega
        obtain ⟨f, hf⟩ : ∃ f, f = wst q t := ⟨_, rfl⟩
        rw [← hf] at D
        have HF : Hid (_) := hf
        clear hf
        have e1 : IntKind.i64.wrap ((t : Int) - 2) = ((t - 2 : Nat) : Int) := by simp [IntKind.wrap, IntKind.bits, IntKind.signed]; omega
        have e2 : IntKind.i64.wrap ((t : Int) - 7) = ((t - 7 : Nat) : Int) := by simp [IntKind.wrap, IntKind.bits, IntKind.signed]; omega
        have e3 : IntKind.i64.wrap ((t : Int) - 15) = ((t - 15 : Nat) : Int) := by simp [IntKind.wrap, IntKind.bits, IntKind.signed]; omega
        have e4 : IntKind.i64.wrap ((t : Int) - 16) = ((t - 16 : Nat) : Int) := by simp [IntKind.wrap, IntKind.bits, IntKind.signed]; omega
        have c1 := (D.cell (t - 15) (by omega)).1
        have c2 := (D.cell (t - 2) (by omega)).1
        go_wp2
        go_quiet (fail)
        go_wp2_with fail
        refine (rturned_any _ 7 7 _ rfl (by omega) (by omega)).mono ?_
        rintro e wx ⟨rfl, m1, rfl⟩
        go_wp2_with fail
        refine (rturned_any _ 18 18 _ rfl (by omega) (by omega)).mono ?_
        rintro e wx ⟨rfl, m2, rfl⟩
        go_wp2_with fail
        refine (rturned_any _ 17 17 _ rfl (by omega) (by omega)).mono ?_
        rintro e wx ⟨rfl, m3, rfl⟩
        go_wp2_with fail
        refine (rturned_any _ 19 19 _ rfl (by omega) (by omega)).mono ?_
        rintro e wx ⟨rfl, m4, rfl⟩
        go_wp2_with fail
        have DX := D.drewN (nq + m1 + m2 + m3 + m4)
        obtain ⟨X, hX⟩ : ∃ X, X = wr.drewN (nq + m1 + m2 + m3 + m4) := ⟨_, rfl⟩
        rw [← hX] at DX ⊢
        have x1 := (DX.cell (t - 7) (by omega)).1
        have x2 := (DX.cell (t - 16) (by omega)).1
        have x3 := (DX.cell t hlt).1
        have x4 := (DX.cell t hlt).2
        clear hX D c1 c2
        go_region
        go_wp2
        go_roundw
        case rel =>
          refine ⟨t + 1, by omega, by go_num, ?_⟩
          have h := (DX.set t ((sig1 (f (t - 2)) + f (t - 7) + sig0 (f (t - 15)) + f (t - 16)) % 4294967296)).drew
          rw [HF.out, wst_succ q t (by omega), ← HF.out] at h
          exact h
        case measure => simp [intOf]; omega
    · have e64 : t = 64 := by omega
      rw [e64, wst_end] at D
      have hsz : Hid (w.heap.size + 3 < wr.heap.size) := (Array.getElem?_eq_some_iff.1 D.2.2.2.1).1
      clear e64
      go_wp2_with (first
        | (refine isLoad 69 (.tmp 4) rfl ?_; go_must (refine wpList_load_row rfl 69 (.tmp 4) rfl w.heap.size rfl 69 _ (0, 0) _ D.1 Tryz.underlying69 rfl (size23' _) ?_; simp only [Act.put, List.setIfInBounds_toArray, List.set_cons_succ, List.set_cons_zero]))
        | (refine isStore 69 (.tmp 16) (.tmp 89) rfl ?_; go_must (refine wpList_store_row rfl 69 (.tmp 16) (.tmp 89) rfl wr.heap.size _ rfl rfl 69 _ (heap_alloc_new _ _) (size23' _) (by simp only [tab32_size]; rfl) (tab32_one _ _) ?_; rw [World.setRow_alloc_new]; simp only [Act.put])))
      obtain ⟨C, hC⟩ : ∃ C, C = wr.heap.size := ⟨_, rfl⟩
      have Y0 : WC w (wr.alloc (.cells (tab32 8 s) 69)) C s k (sched q) s := by
        have hz := hsz.out
        refine ⟨?_, ?_, ?_, ?_, by rw [hC]; exact heap_alloc_new _ _, by rw [hC]; exact hz, D.2.2.2.2.alloc D.2.2.2.2.size _⟩
        · rw [Below.heap_alloc _ _ _ (by omega)]; exact D.1
        · rw [Below.heap_alloc _ _ _ (by omega)]; exact D.2.1
        · rw [Below.heap_alloc _ _ _ (by omega)]; exact D.2.2.1
        · rw [Below.heap_alloc _ _ _ (by omega)]; exact D.2.2.2.1
      rw [← hC]
      obtain ⟨X0, hX0⟩ : ∃ X, X = wr.alloc (.cells (tab32 8 s) 69) := ⟨_, rfl⟩
      rw [← hX0] at Y0 ⊢
      clear hX0 hC D hsz
      go_loopw [17] (fun i W => ∃ r : Nat, r ≤ 64 ∧ i = .int .i64 r ∧ WC w W C s k (sched q) (iterR k (sched q) s r)) (fun i _ => 64 - (intOf i).toNat)
      case atStart => exact ⟨0, by omega, rfl, Y0⟩
      case round =>
        obtain ⟨r, hr, rfl, Y⟩ := hrel
        clear Y0
        by_cases hlr : r < 64
        · have ir : (r : Int) < 64 := by omega
          obtain ⟨v, hv⟩ : ∃ v, v = iterR k (sched q) s r := ⟨_, rfl⟩
          rw [← hv] at Y
          have HV : Hid (_) := hv
          clear hv
          have v0 := Y.cv 0 (by omega)
          have v4 := Y.cv 4 (by omega)
          go_wp2
          go_quiet (fail)
          go_wp2
          have YX := Y.drewN nq
          obtain ⟨X1, hX1⟩ : ∃ X, X = wr.drewN nq := ⟨_, rfl⟩
          rw [← hX1] at YX ⊢
          clear hX1 Y v0 v4
          have a1 := YX.cv 1 (by omega)
          have a2 := YX.cv 2 (by omega)
          have a3 := YX.cv 3 (by omega)
          have a5 := YX.cv 5 (by omega)
          have a6 := YX.cv 6 (by omega)
          have a7 := YX.cv 7 (by omega)
          have ak := YX.ck r hlr
          have aw := YX.cw r hlr
          go_quiet ((go_at_call 105; exact Calls.quiet_of (rturned_int _ _ _ (by decide) (by decide))))
          go_wp2
          have YZ := YX.drewN nq
          obtain ⟨X2, hX2⟩ : ∃ X, X = X1.drewN nq := ⟨_, rfl⟩
          rw [← hX2] at YZ ⊢
          clear hX2 YX a1 a2 a3 a5 a6 a7 ak aw
          have b1 := YZ.cv 1 (by omega)
          have b2 := YZ.cv 2 (by omega)
          go_quiet ((go_at_call 105; exact Calls.quiet_of (rturned_int _ _ _ (by decide) (by decide))))
          have YT := YZ.drewN nq
          obtain ⟨X3, hX3⟩ : ∃ X, X = X2.drewN nq := ⟨_, rfl⟩
          rw [← hX3] at YT ⊢
          clear hX3 YZ b1 b2
          have d1 := YT.cv 1 (by omega)
          have d2 := YT.cv 2 (by omega)
          have d3 := YT.cv 3 (by omega)
          have d5 := YT.cv 5 (by omega)
          have d6 := YT.cv 6 (by omega)
          go_wp2_with (first
            | (refine isStore 69 (.tmp 16) (.tmp 169) rfl ?_; go_must (refine wpList_store_row rfl 69 (.tmp 16) (.tmp 169) rfl C (tab32 8 (stepR k (sched q) r v)) rfl (step_lit k (sched q) v r) 69 _ YT.2.2.2.2.1 (size23' _) (by simp only [tab32_size]) (tab32_one _ _) ?_; simp only [Act.put])))
          go_roundw
          case rel =>
            refine ⟨r + 1, by omega, by go_num, ?_⟩
            have h := YT.setV (stepR k (sched q) r v)
            have e : stepR k (sched q) r v = iterR k (sched q) s (r + 1) := by rw [HV.out]; rfl
            rw [e] at h ⊢
            exact h
          case measure => simp [intOf]; omega
        · have e64 : r = 64 := by omega
          rw [e64] at Y
          obtain ⟨v, hv⟩ : ∃ v, v = iterR k (sched q) s 64 := ⟨_, rfl⟩
          rw [← hv] at Y
          have HV : Hid (_) := hv
          clear hv e64
          go_wp2
          have Z0 : WC w wr C (fun j => if j < 0 then (s j + v j) % 4294967296 else s j) k (sched q) v := by simpa using Y
          go_loopw [22] (fun i W => ∃ m : Nat, m ≤ 8 ∧ i = .int .i64 m ∧ WC w W C (fun j => if j < m then (s j + v j) % 4294967296 else s j) k (sched q) v) (fun i _ => 8 - (intOf i).toNat)
          case atStart => exact ⟨0, by omega, rfl, Z0⟩
          case round =>
            obtain ⟨m, hm, rfl, Z⟩ := hrel
            clear Z0 Y
            by_cases hlm : m < 8
            · have im : (m : Int) < 8 := by omega
              have f1 := (Z.cs m hlm).1
              have f2 := (Z.cs m hlm).2
              have f3 := Z.cv m hlm
              rw [if_neg (by omega)] at f1
              go_wp2
              go_region
              go_wp2
              go_roundw
              case rel =>
                refine ⟨m + 1, by omega, by go_num, ?_⟩
                have h := (Z.setS m ((s m + v m) % 4294967296)).drew
                have e : upd (fun j => if j < m then (s j + v j) % 4294967296 else s j) m ((s m + v m) % 4294967296) = fun j => if j < m + 1 then (s j + v j) % 4294967296 else s j := gk_step s (fun j => (s j + v j) % 4294967296) m
                rw [e] at h
                exact h
              case measure => simp [intOf]; omega
            · go_wp2_with (first
                | (refine isLoad 69 (.tmp 4) rfl ?_; go_must (refine wpList_load_row rfl 69 (.tmp 4) rfl w.heap.size rfl 69 _ (0, 0) _ Z.1 Tryz.underlying69 rfl (size23' _) ?_; simp only [Act.put, List.setIfInBounds_toArray, List.set_cons_succ, List.set_cons_zero]))
                | (refine isStore 69 (.tmp 8) (.tmp 183) rfl ?_; go_must (refine wpList_store_row rfl 69 (.tmp 8) (.tmp 183) rfl (w.heap.size + 2) _ rfl rfl 69 _ Z.2.2.1 (size23' _) (by simp only [tab32_size]) (tab32_one _ _) ?_)))
              refine bodyPost_ret (v := .agg (tab32 8 fun j => if j < m then (s j + v j) % 4294967296 else s j)) (results_cell_row Tryz.results97 _ _ (w.heap.size + 2) 69 _ (0, 0) _ rfl (setRow_heap _ _ _ _ _ _ Z.2.2.1) Tryz.underlying69 rfl (size23' _)) rfl ⟨?_, ?_⟩
              · refine congrArg (fun c => Ending.returned (Value.agg c)) (tab32_congr fun i hi => ?_)
                rw [if_pos (by omega), HV.out]
              · exact below_setRow Z.2.2.2.2.2.2 (by omega) _
end Go.Proofs.YteekoabgbjbabaaGreatDoor

namespace Go.Proofs.YteekoabgbjbabaaGreatDoor
open Go.RowKit

theorem info5 : ∃ i, Tryz.prog.info? 5 = some i ∧ i.zero = some (.int .u8 0) ∧ i.size = 1 ∧ i.bytes = 1 := by
  have h : (Tryz.prog.info? 5).map (fun i => (i.zero, i.size, i.bytes)) = some (some (.int .u8 0), 1, 1) := by kernel_rfl
  cases hq : Tryz.prog.info? 5 with
  | none => rw [hq] at h; cases h
  | some i =>
    rw [hq] at h
    simp only [Option.map_some, Option.some.injEq, Prod.mk.injEq] at h
    exact ⟨i, rfl, h.1, h.2.1, h.2.2⟩
/-- numbers as cells -/
def vals (l : List Int) : List Value := l.map fun z => Value.int .u8 z
theorem vals_one (l : List Int) : ∀ u ∈ vals l, u.oneCell' = true := by
  intro u hu
  simp only [vals, List.mem_map] at hu
  obtain ⟨z, _, rfl⟩ := hu
  rfl
theorem vals_len (l : List Int) : (vals l).length = l.length := by simp [vals]
theorem vals_append (l r : List Int) : vals l ++ vals r = vals (l ++ r) := by simp [vals]
/-- the first n of p -/
def firstL (p : Nat → Int) (n : Nat) : List Int := (List.range n).map p

theorem isMake {P : Program} {ops : Array Oper} {rest : List Oper} {o : Oper} {a : Act} {w : World} {Q : Exit → Act → World → Prop} (l c : Operand) (_ : o.op = .makeSlice 24 l c) (h : wpList P ops Q (o :: rest) a w) : wpList P ops Q (o :: rest) a w := h
theorem isApp {P : Program} {ops : Array Oper} {rest : List Oper} {o : Oper} {a : Act} {w : World} {Q : Exit → Act → World → Prop} (s x : Operand) (_ : o.op = .call { callee := .builtin .append, args := #[s, x], argTypes := #[24, 24] }) (h : wpList P ops Q (o :: rest) a w) : wpList P ops Q (o :: rest) a w := h

/-- One append to a row of the call's own. -/
theorem wpList_app {ops : Array Oper} {rest : List Oper} {o : Oper} {a : Act} {W : World} {Q : Exit → Act → World → Prop} {B n m c : Nat} {v : Value} {l r : List Int} {ad : Addr} {w0 : World} (hgd : o.guard = none) (s x : Operand)
    (ho : o.op = .call { callee := .builtin .append, args := #[s, x], argTypes := #[24, 24] })
    (hs : a.eval s = v) (hx : a.eval x = .slice (some ad) m c) (hown : W.ownsRow B 5 1 v n (vals l)) (hr : r.length = m) (hsrc : ∀ j u, (vals r)[j]? = some u → W.cell? (ad.add j) = some u)
    (hbig : n + m ≤ 200000000000000) (hb : Below B w0 W) (hB : B ≤ W.heap.size)
    (h : ∀ v' W', W'.ownsRow B 5 1 v' (n + m) (vals (l ++ r)) → Below B w0 W' → B ≤ W'.heap.size → wpList Tryz.prog ops Q rest (a.put o.dst v') W') : wpList Tryz.prog ops Q (o :: rest) a W := by
  obtain ⟨i, h1, h2, h3, h4⟩ := info5
  refine wpList_append_ownL W hgd s x 24 ho B 5 i (.int .u8 0) Tryz.underlying24 h1 h2 h3 h4 rfl v n (vals l) hs hown ad m c (vals r) hx (by rw [vals_len]; omega) hsrc (vals_one r) hbig hB ?_
  intro v' W' hown' hg
  rw [vals_append] at hown'
  exact h v' W' hown' (hb.grown hg hB (fun k hk => (hown.lt k hk).1)) (Nat.le_trans hB hg.size)

/-- The same of whatever source, nil too. -/
theorem wpList_appS {ops : Array Oper} {rest : List Oper} {o : Oper} {a : Act} {W : World} {Q : Exit → Act → World → Prop} {B n m c : Nat} {v : Value} {l r : List Int} {ao : Option Addr} {w0 : World} (hgd : o.guard = none) (s x : Operand)
    (ho : o.op = .call { callee := .builtin .append, args := #[s, x], argTypes := #[24, 24] })
    (hs : a.eval s = v) (hx : a.eval x = .slice ao m c) (hown : W.ownsRow B 5 1 v n (vals l)) (hr : r.length = m)
    (hsrc : (ao = none ∧ m = 0 ∧ c = 0) ∨ ∃ ad, ao = some ad ∧ ∀ j u, (vals r)[j]? = some u → W.cell? (ad.add j) = some u)
    (hbig : n + m ≤ 200000000000000) (hb : Below B w0 W) (hB : B ≤ W.heap.size)
    (h : ∀ v' W', W'.ownsRow B 5 1 v' (n + m) (vals (l ++ r)) → Below B w0 W' → B ≤ W'.heap.size → wpList Tryz.prog ops Q rest (a.put o.dst v') W') : wpList Tryz.prog ops Q (o :: rest) a W := by
  rcases hsrc with ⟨rfl, rfl, rfl⟩ | ⟨ad, rfl, hsrc⟩
  · obtain ⟨i, h1, _, _, _⟩ := info5
    obtain rfl : r = [] := List.eq_nil_of_length_eq_zero hr
    refine wpList_append_own_none hgd s x 24 ho B 5 i 1 Tryz.underlying24 h1 v n (vals l) hs hown hx ?_
    exact h v W (by simpa using hown) hb hB
  · exact wpList_app hgd s x ho hs hx hown hr hsrc hbig hb hB h
/-- A row of one that the call itself laid. -/
theorem src_one (W : World) (z : Int) : ∀ j u, (vals [z])[j]? = some u → (W.alloc (.cells #[.int .u8 z] 5)).cell? ((⟨W.heap.size, 0, none⟩ : Addr).add j) = some u := by
  intro j u hu
  have hj : j = 0 := by have := (List.getElem?_eq_some_iff.1 hu).1; simp [vals] at this; exact this
  subst hj
  rw [Addr.add_mid, cell_of_row _ _ _ _ _ _ (heap_alloc_new W _)]
  simpa [vals] using hu

/-- The length in a slot. -/
def lenOf : Value → Nat | .slice _ l _ => l | _ => 0
theorem own_shape {W : World} {B n : Nat} {v : Value} {xs : List Value} (h : W.ownsRow B 5 1 v n xs) (hn : 0 < n) : ∃ g cap, v = .slice (some ⟨g, 0, none⟩) n cap := by
  rcases h.2 with ⟨_, rfl⟩ | ⟨g, cap, _, rfl, _⟩
  · omega
  · exact ⟨g, cap, rfl⟩

/-- What lies in m: the bytes, 80, z noughts, j bytes of the length. -/
def padL (p : Nat → Int) (len z j : Nat) : List Int := firstL p len ++ [128] ++ List.replicate z 0 ++ (List.range j).map (lenB len)
theorem padL_len (p : Nat → Int) (len z j : Nat) : (padL p len z j).length = len + 1 + z + j := by
  simp [padL, firstL]
  omega
theorem padL_z (p : Nat → Int) (len z : Nat) : padL p len z 0 ++ [0] = padL p len (z + 1) 0 := by
  simp only [padL, List.range_zero, List.map_nil, List.append_nil, List.append_assoc, List.replicate_succ']
theorem padL_j (p : Nat → Int) (len z j : Nat) : padL p len z j ++ [lenB len j] = padL p len z (j + 1) := by
  simp only [padL, List.append_assoc, List.range_succ, List.map_append, List.map_cons, List.map_nil]

set_option maxRecDepth 20000 in
set_option maxHeartbeats 2000000 in
theorem rpadded_any (v : Value) (len : Nat) (p : Nat → Int) (w : World) (hbig : len + 200 ≤ 200000000000000) (hv : SliceB w v len p) (hnil : ∀ cap, v = .slice none len cap → cap = 0) :
    Calls Tryz.prog 96 #[v] w fun e w' => ∃ v' z, e = .returned v' ∧ z < 64 ∧ (len + 1 + z) % 64 = 56 ∧ w'.ownsRow w.heap.size 5 1 v' (len + 1 + z + 8) (vals (padL p len z 8)) ∧ Below w.heap.size w w' := by
  obtain ⟨i5, hi1, hi2, hi3, hi4⟩ := info5
  obtain ⟨⟨a0, cap0, rfl, e01, e02, e03⟩, hp0⟩ := hv
  have HB : Hid (_) := hbig
  have H3 : Hid (_) := e03
  have HN : Hid (_) := hnil
  have I1 : Hid (_) := hi1
  have I2 : Hid (_) := hi2
  have I3 : Hid (_) := hi3
  have I4 : Hid (_) := hi4
  clear hbig e03 hnil hi1 hi2 hi3 hi4 e01 e02 hp0
  have wl : wrap64 ((len : Int) + 72) = ((len + 72 : Nat) : Int) := by have := HB.out; simp [wrap64]; omega
  have src0 : Hid (∀ W, Below w.heap.size w W → (a0 = none ∧ len = 0 ∧ cap0 = 0) ∨ ∃ ad, a0 = some ad ∧ ∀ j u, (vals (firstL p len))[j]? = some u → W.cell? (ad.add j) = some u) := by
    intro W hW
    cases a0 with
    | none =>
      left
      by_cases h0 : 0 < len
      · obtain ⟨b, off, e, _⟩ := H3.out h0
        cases e
      · exact ⟨rfl, by omega, HN.out cap0 rfl⟩
    | some ad =>
      right
      refine ⟨ad, rfl, fun j u hu => ?_⟩
      have hj : j < len := by have := (List.getElem?_eq_some_iff.1 hu).1; simpa [vals, firstL] using this
      obtain ⟨b, off, e, hb, hc⟩ := H3.out (by omega)
      cases e
      rw [Addr.add_mid, below_cell hW hb, hc j hj]
      simpa [vals, firstL, hj] using hu
  have hb0 := HB.out
  have HB' : Hid (len + 200 ≤ 200000000000000) := hb0
  clear hb0 H3 HN
  go_enter Tryz.func96, Tryz.ntmps96
  go_wp2_with (first
    | (refine isMake (.const (.int .i64 0)) (.tmp 8) rfl ?_; go_must (refine wpList_make_own w rfl (.const (.int .i64 0)) (.tmp 8) 24 rfl w.heap.size 5 i5 (.int .u8 0) 1 Tryz.underlying24 I1.out I2.out I3.out .i64 .i64 _ (len + 72) rfl rfl (by first | rfl | omega | simp) (by rw [I4.out]; have := HB.out; omega) (by have := HB.out; unfold maxLen; omega) (Nat.le_refl _) ?_; intro w1 own1 grown1; simp only [Act.put, List.setIfInBounds_toArray, List.set_cons_succ, List.set_cons_zero]; have O1 : Hid (w1.ownsRow w.heap.size 5 1 (.slice (some ⟨w.heap.size, 0, none⟩) 0 (len + 72)) 0 (vals [])) := own1; have G1 : Hid (Below w.heap.size w w1) := (Below.refl _ _).grown grown1 (Nat.le_refl _) (fun k hk => by cases hk); clear own1 grown1))
    | (refine isApp (.tmp 10) (.tmp 11) rfl ?_; go_must (refine wpList_appS (l := []) (r := firstL p len) (w0 := w) rfl (.tmp 10) (.tmp 11) rfl rfl rfl O1.out (by simp [firstL]) (src0.out _ G1.out) (by have := HB.out; omega) G1.out G1.out.size ?_; intro v2 w2 own2 bel2 sz2; simp only [Act.put, List.setIfInBounds_toArray, List.set_cons_succ, List.set_cons_zero]; have O2 : Hid (w2.ownsRow w.heap.size 5 1 v2 len (vals (firstL p len))) := (by show w2.ownsRow w.heap.size 5 1 v2 len (vals (firstL p len)); simpa using own2); have G2 : Hid (Below w.heap.size w w2) := bel2; clear own2 bel2 sz2))
    | (refine isApp (.tmp 13) (.tmp 14) rfl ?_; go_must (refine wpList_app (l := firstL p len) (r := [128]) (w0 := w) rfl (.tmp 13) (.tmp 14) rfl rfl rfl (O2.out.alloc _) rfl (src_one w2 128) (by have := HB.out; omega) (G2.out.alloc G2.out.size _) (by have := G2.out.size; simp; omega) ?_; intro v3 w3 own3 bel3 sz3; simp only [Act.put, List.setIfInBounds_toArray, List.set_cons_succ, List.set_cons_zero]; have O3 : Hid (w3.ownsRow w.heap.size 5 1 v3 (len + 1 + 0) (vals (padL p len 0 0))) := (by show w3.ownsRow w.heap.size 5 1 v3 (len + 1 + 0) (vals (padL p len 0 0)); simpa [padL] using own3); have G3 : Hid (Below w.heap.size w w3) := bel3; clear own3 bel3 sz3)))
  obtain ⟨z0, hz0⟩ : ∃ z0, z0 = (119 - len % 64) % 64 := ⟨_, rfl⟩
  have HZ0 : Hid (_) := hz0
  clear hz0 O1 G1 O2 G2 src0 I1 I2 I3 I4
  go_loopw [3] (fun v W => ∃ z : Nat, z ≤ z0 ∧ W.ownsRow w.heap.size 5 1 v (len + 1 + z) (vals (padL p len z 0)) ∧ Below w.heap.size w W) (fun v _ => len + 1 + z0 - lenOf v)
  case atStart => exact ⟨0, by omega, O3.out, G3.out⟩
  case round =>
    rename_i vv
    obtain ⟨z, hz, own, bel⟩ := hrel
    have O : Hid (wr.ownsRow w.heap.size 5 1 _ (len + 1 + z) (vals (padL p len z 0))) := own
    have G : Hid (Below w.heap.size w wr) := bel
    obtain ⟨g, cap, hv⟩ := own_shape own (by omega)
    clear own bel O3 G3
    subst hv
    obtain ⟨n, hn⟩ : ∃ n, n = len + 1 + z := ⟨_, rfl⟩
    rw [← hn] at O ⊢
    have HNn : Hid (_) := hn
    clear hn
    by_cases hlt : z < z0
    · have ht : ((n : Int) % 64 != 56) = true := by
        have h1 := HNn.out
        have h2 := HZ0.out
        rw [bne_iff_ne]
        omega
      go_wp2_with (first
        | (refine isApp (.tmp 20) (.tmp 21) rfl ?_; go_must (refine wpList_app (l := padL p len z 0) (r := [0]) (w0 := w) rfl (.tmp 20) (.tmp 21) rfl rfl rfl (O.out.alloc _) rfl (src_one wr 0) (by have := HB.out; have := HNn.out; have := HZ0.out; omega) (G.out.alloc G.out.size _) (by have := G.out.size; simp; omega) ?_; intro v4 w4 own4 bel4 sz4; simp only [Act.put, List.setIfInBounds_toArray, List.set_cons_succ, List.set_cons_zero]; have O4 : Hid (w4.ownsRow w.heap.size 5 1 v4 (len + 1 + (z + 1)) (vals (padL p len (z + 1) 0))) := (by show w4.ownsRow w.heap.size 5 1 v4 (len + 1 + (z + 1)) (vals (padL p len (z + 1) 0)); rw [← padL_z, show len + 1 + (z + 1) = n + 1 from (by have := HNn.out; omega)]; exact own4); have G4 : Hid (Below w.heap.size w w4) := bel4; clear own4 bel4 sz4)))
      obtain ⟨g4, cap4, hv4⟩ := own_shape O4.out (by omega)
      go_roundw
      case rel => exact ⟨z + 1, by omega, O4.out, G4.out⟩
      case measure =>
        have h1 := HNn.out
        rw [hv4]
        simp only [lenOf]
        omega
    · have ht : ((n : Int) % 64 != 56) = false := by
        have h1 := HNn.out
        have h2 := HZ0.out
        rw [bne_eq_false_iff_eq]
        omega
      have wlen : IntKind.u64.wrap (len : Int) = len := by have := HB.out; simp [IntKind.wrap, IntKind.bits, IntKind.signed]; omega
      have hze : Hid (z = z0) := by show z = z0; omega
      have O5 : Hid (wr.ownsRow w.heap.size 5 1 (.slice (some ⟨g, 0, none⟩) n cap) (len + 1 + z + 0) (vals (padL p len z 0))) := by
        show wr.ownsRow w.heap.size 5 1 (.slice (some ⟨g, 0, none⟩) n cap) (len + 1 + z + 0) (vals (padL p len z 0))
        rw [Nat.add_zero, ← HNn.out]; exact O.out
      clear O
      go_wp2
      go_loopw [3, 5] (fun v i W => ∃ j : Nat, j ≤ 8 ∧ i = .int .i64 j ∧ W.ownsRow w.heap.size 5 1 v (len + 1 + z + j) (vals (padL p len z j)) ∧ Below w.heap.size w W) (fun _ i _ => 8 - (intOf i).toNat)
      case atStart => exact ⟨0, by omega, rfl, O5.out, G.out⟩
      case round =>
        obtain ⟨j, hj, rfl, own, bel⟩ := hrel
        have P5 : Hid (wr.ownsRow w.heap.size 5 1 _ (len + 1 + z + j) (vals (padL p len z j))) := own
        have Q5 : Hid (Below w.heap.size w wr) := bel
        clear own bel O5 G
        by_cases hlj : j < 8
        · have ij : (j : Int) < 8 := by omega
          go_wp2_with (first
            | (refine isApp (.tmp 31) (.tmp 38) rfl ?_; go_must (refine wpList_app (l := padL p len z j) (r := [lenB len j]) (w0 := w) rfl (.tmp 31) (.tmp 38) rfl rfl rfl (P5.out.alloc _) rfl (src_one wr (lenB len j)) (by have := HB.out; have := hze.out; have := HZ0.out; omega) (Q5.out.alloc Q5.out.size _) (by have := Q5.out.size; simp; omega) ?_; intro v6 w6 own6 bel6 sz6; simp only [Act.put, List.setIfInBounds_toArray, List.set_cons_succ, List.set_cons_zero]; have O6 : Hid (w6.ownsRow w.heap.size 5 1 v6 (len + 1 + z + (j + 1)) (vals (padL p len z (j + 1)))) := (by show w6.ownsRow w.heap.size 5 1 v6 (len + 1 + z + (j + 1)) (vals (padL p len z (j + 1))); rw [← padL_j]; exact own6); have G6 : Hid (Below w.heap.size w w6) := bel6; clear own6 bel6 sz6)))
          go_roundw
          case rel => exact ⟨j + 1, by omega, by go_num, O6.out, G6.out⟩
          case measure => simp [intOf]; omega
        · have e8 : Hid (j = 8) := by show j = 8; omega
          go_wp2
          go_ret
          refine ⟨_, z, rfl, ?_, ?_, ?_, Q5.out⟩
          · have := hze.out; have := HZ0.out; omega
          · have := hze.out; have := HZ0.out; omega
          · rw [← e8.out]; exact P5.out
end Go.Proofs.YteekoabgbjbabaaGreatDoor
