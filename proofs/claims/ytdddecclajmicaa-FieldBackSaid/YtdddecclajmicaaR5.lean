import Derived.Test.YtdddecclajmicaaR4
import Derived.Deep.QuietTactic
import Derived.BigQuiet
namespace Go.Proofs.Ytdddecclajmicaa
open Go.RowKit

theorem belowD {B : Nat} {a w : World} (h : Below B a w) (n : Nat) : Below B a (w.drewN n) := ⟨h.os, h.tape, h.output, h.size, h.block⟩
/-- A column's cells. -/
def col (c : Nat → Nat) : Array Value := #[.int .u8 (c 0), .int .u8 (c 1), .int .u8 (c 2), .int .u8 (c 3)]
theorem col_at (c : Nat → Nat) {i : Nat} (h : i < 4) : (col c)[i]? = some (.int .u8 (c i)) := by
  have : i = 0 ∨ i = 1 ∨ i = 2 ∨ i = 3 := by omega
  rcases this with rfl | rfl | rfl | rfl <;> rfl
/-- The sum of a row's first j products. -/
def mixP (f c : Nat → Nat) (k : Nat) : Nat → Nat
  | 0 => 0
  | j + 1 => mixP f c k j ^^^ gm (f ((j + 4 - k) % 4)) (c j)
theorem mixP_four (f c : Nat → Nat) (k : Nat) : mixP f c k 4 = mixk f c k := by
  show (((0 ^^^ _) ^^^ _) ^^^ _) ^^^ _ = _
  rw [Nat.zero_xor]
  rfl
theorem mixP_lt {f : Nat → Nat} (hf : ∀ i, i < 4 → f i < 256) (c : Nat → Nat) (k j : Nat) : mixP f c k j < 256 := by
  induction j with
  | zero => exact (by decide : (0 : Nat) < 256)
  | succ j ih => exact xor_lt ih (gm_lt _ (hf _ (Nat.mod_lt _ (by omega))))

set_option maxRecDepth 20000 in
set_option maxHeartbeats 400000 in
theorem rrow_any (c f : Nat → Nat) (k : Nat) (w : World) (hc : ∀ i, i < 4 → c i < 256) (hf : ∀ i, i < 4 → f i < 256) (hk : k < 4) :
    Calls Try.prog 29 #[.agg (col c), .agg (col f), .int .i64 k] w fun e w' => e = .returned (.int .u8 (mixk f c k : Nat)) ∧ Below w.heap.size w w' := by
  have HC : Hid (_) := hc
  have HF : Hid (_) := hf
  clear hc hf
  go_enter Try.func29, Try.ntmps29
  go_wp2
  go_loopw [7, 8] (fun s i W => ∃ j : Nat, j ≤ 4 ∧ s = .int .u8 (mixP f c k j : Nat) ∧ i = .int .i64 j ∧ W.heap[w.heap.size]? = some (.cells (col c) 27) ∧ W.heap[w.heap.size + 1]? = some (.cells (col f) 27) ∧ Below w.heap.size w W) (fun _ i _ => 4 - (intOf i).toNat)
  case atStart => exact ⟨0, by omega, rfl, rfl, by show ((w.heap.push _).push _)[w.heap.size]? = _; simp [Array.getElem?_push], by show ((w.heap.push (.cells (col c) 27)).push _)[w.heap.size + 1]? = _; rw [show w.heap.size + 1 = (w.heap.push (.cells (col c) 27)).size by simp, Array.getElem?_push_size], ((Below.refl _ w).alloc (Nat.le_refl _) _).alloc (by show w.heap.size ≤ (w.heap.push _).size; simp) _⟩
  case round =>
    obtain ⟨j, hj, rfl, rfl, g1, g2, bel⟩ := hrel
    have G1 : Hid (wr.heap[w.heap.size]? = some (.cells (col c) 27)) := g1
    have G2 : Hid (wr.heap[w.heap.size + 1]? = some (.cells (col f) 27)) := g2
    have B : Hid (Below w.heap.size w wr) := bel
    clear g1 g2 bel
    by_cases hlt : j < 4
    · have i1 : (j : Int) < 4 := by omega
      have i0 : (0 : Int) ≤ (j : Int) := by omega
      obtain ⟨r, hr⟩ : ∃ r, (j + 4 - k) % 4 = r := ⟨_, rfl⟩
      have t0 : ((j : Int) + 4 - (k : Int)).tmod 4 = (r : Int) := by rw [Int.tmod_eq_emod_of_nonneg (by omega)]; omega
      have t1 : (0 : Int) ≤ (r : Int) := by omega
      have t2 : (r : Int) < 4 := by omega
      have hr4 : r < 4 := by omega
      have c1 : wr.cell? ⟨w.heap.size, j, none⟩ = some (.int .u8 (c j)) := by rw [cell_of_row _ _ _ _ _ _ G1.out]; exact col_at c hlt
      have c2 : wr.cell? ⟨w.heap.size + 1, r, none⟩ = some (.int .u8 (f r)) := by rw [cell_of_row _ _ _ _ _ _ G2.out]; exact col_at f hr4
      have m1 := HC.out j hlt
      have m2 := HF.out r hr4
      have e5 : Hid (bits .xor .u8 ((mixP f c k j : Nat) : Int) ((gm (f r) (c j) : Nat) : Int) = ((mixP f c k (j + 1) : Nat) : Int)) := by
        show bits .xor .u8 ((mixP f c k j : Nat) : Int) ((gm (f r) (c j) : Nat) : Int) = ((mixP f c k (j + 1) : Nat) : Int)
        rw [xor_u8 (mixP_lt HF.out c k j) (gm_lt _ m2), ← hr]
        rfl
      clear hr
      go_wp2
      go_quiet ((go_at_call 12; exact Calls.quiet_of_same (rmul_any (f r) (c j) _ m2 m1)))
      go_wp2
      go_roundw
      case rel =>
        exact ⟨j + 1, by omega, congrArg (Value.int .u8) e5.out, by go_num, by rw [World.heap_drewN]; exact G1.out, by rw [World.heap_drewN]; exact G2.out, belowD B.out _⟩
      case measure => simp [intOf]; omega
    · have i1 : ¬ (j : Int) < 4 := by omega
      have ej : j = 4 := by omega
      subst ej
      go_wp2
      go_ret
      exact ⟨congrArg (fun x : Nat => Ending.returned (Value.int .u8 x)) (mixP_four f c k), B.out⟩
end Go.Proofs.Ytdddecclajmicaa
