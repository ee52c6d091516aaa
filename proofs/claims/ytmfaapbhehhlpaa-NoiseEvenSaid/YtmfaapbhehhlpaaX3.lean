import Derived.Test.YtmfaapbhehhlpaaS4
import Derived.Test.YtmfaapbhehhlpaaK2
namespace Go.Proofs.Ytmfaapbhehhlpaa.Gf8
open Go.RowKit

set_option maxRecDepth 20000 in
set_option maxHeartbeats 400000 in
theorem column_any (c : Nat → Nat) (w : World) (hc : ∀ i, i < 4 → c i < 256) :
    Calls Try.prog 54 #[.agg (col c)] w fun e w' => e = .returned (.agg (col (mixk fwd c))) ∧ Below w.heap.size w w' := by
  have HC : Hid (_) := hc
  clear hc
  have h3 := heap3c w (.cells (col c) 84) (.cells (col fun _ => 0) 84) (.cells (col fun _ => 0) 84)
  have H3 : Hid (_) := h3
  clear h3
  go_enter Try.func54, Try.ntmps54
  go_wp2
  rw [show w.heap.size + 1 + 1 = w.heap.size + 2 from rfl]
  go_loopw [9] (fun i W => ∃ k : Nat, k ≤ 4 ∧ i = .int .i64 k ∧ W.heap[w.heap.size]? = some (.cells (col c) 84) ∧ W.heap[w.heap.size + 1]? = some (.cells (col fun _ => 0) 84) ∧ W.heap[w.heap.size + 2]? = some (.cells (col (uptoC (mixk fwd c) k)) 84) ∧ Below w.heap.size w W) (fun i _ => 4 - (intOf i).toNat)
  case atStart => exact ⟨0, by omega, rfl, H3.out.1, H3.out.2.1, H3.out.2.2, below3c _ _ _ _⟩
  case round =>
    obtain ⟨k, hk, rfl, g1, g2, g3, bel⟩ := hrel
    have B : Hid (Below w.heap.size w wr) := bel
    have G1 : Hid (_) := g1
    have G2 : Hid (_) := g2
    have G3 : Hid (_) := g3
    clear bel g1 g2 g3 H3
    by_cases hlt : k < 4
    · have i1 : (k : Int) < 4 := by omega
      have i0 : (0 : Int) ≤ (k : Int) := by omega
      have HL : Hid (k < 4) := hlt
      obtain ⟨p, hp⟩ : ∃ p, c k = p := ⟨_, rfl⟩
      obtain ⟨q, hq⟩ : ∃ q, c ((k + 1) % 4) = q := ⟨_, rfl⟩
      obtain ⟨r, hr⟩ : ∃ r, c ((k + 2) % 4) = r := ⟨_, rfl⟩
      obtain ⟨s, hs⟩ : ∃ s, c ((k + 3) % 4) = s := ⟨_, rfl⟩
      have p1 : p < 256 := by rw [← hp]; exact HC.out _ hlt
      have q1 : q < 256 := by rw [← hq]; exact HC.out _ (Nat.mod_lt _ (by omega))
      have r1 : r < 256 := by rw [← hr]; exact HC.out _ (Nat.mod_lt _ (by omega))
      have s1 : s < 256 := by rw [← hs]; exact HC.out _ (Nat.mod_lt _ (by omega))
      have FR := from_any c k wr hlt
      rw [hp, hq, hr, hs] at FR
      have x1 := xor_u8 (xt_lt p1) (xt_lt q1)
      have x2 := xor_u8 (xor_lt (xt_lt p1) (xt_lt q1)) q1
      have x3 := xor_u8 (xor_lt (xor_lt (xt_lt p1) (xt_lt q1)) q1) r1
      have x4 := xor_u8 (xor_lt (xor_lt (xor_lt (xt_lt p1) (xt_lt q1)) q1) r1) s1
      have E : Hid (xt p ^^^ xt q ^^^ q ^^^ r ^^^ s = mixk fwd c k) := by
        show xt p ^^^ xt q ^^^ q ^^^ r ^^^ s = mixk fwd c k
        rw [← fcol_mix HC.out hlt, ← hp, ← hq, ← hr, ← hs]
        rfl
      clear hlt hp hq hr hs
      go_wp2_with (first
        | (refine atLoad 84 (.tmp 1) rfl ?_; go_must (refine wpList_load_row rfl 84 (.tmp 1) rfl w.heap.size rfl 84 _ (0, 0) _ G1.out Try.underlying84 rfl (size4' _) ?_; simp only [Act.put, List.setIfInBounds_toArray, List.set_cons_succ, List.set_cons_zero])))
      refine FR.mono ?_
      rintro e w1 ⟨rfl, hb1⟩
      have hsz : w.heap.size + 2 < wr.heap.size := (Array.getElem?_eq_some_iff.1 G3.out).1
      have D1 : Hid (w1.heap[w.heap.size]? = some (.cells (col c) 84)) := by show w1.heap[w.heap.size]? = _; rw [hb1.block _ (by omega)]; exact G1.out
      have D2 : Hid (w1.heap[w.heap.size + 1]? = some (.cells (col fun _ => 0) 84)) := by show w1.heap[w.heap.size + 1]? = _; rw [hb1.block _ (by omega)]; exact G2.out
      have D3 : Hid (w1.heap[w.heap.size + 2]? = some (.cells (col (uptoC (mixk fwd c) k)) 84)) := by show w1.heap[w.heap.size + 2]? = _; rw [hb1.block _ (by omega)]; exact G3.out
      have D4 : Hid (Below w.heap.size w w1) := B.out.trans (hb1.mono (by omega))
      have n1 : w1.cell? ⟨w.heap.size + 2, k, none⟩ = some (.int .u8 (uptoC (mixk fwd c) k k)) := by rw [cell_of_row _ _ _ _ _ _ D3.out]; exact col_at _ HL.out
      have n2 : w1.frozen? ⟨w.heap.size + 2, k, none⟩ = false := frozen4 D3.out
      clear hb1 hsz FR
      go_wp2_with (go_at_call 60; refine (double_any _ _ (by assumption)).mono ?_; rintro e w2 ⟨rfl, rfl⟩)
      go_roundw
      case rel =>
        refine ⟨k + 1, by have := HL.out; omega, by go_num, ?_, ?_, ?_, D4.out.setCell (by simp) _⟩
        · rw [heap4o _ D3.out (by omega)]; exact D1.out
        · rw [heap4o _ D3.out (by omega)]; exact D2.out
        · rw [heap4 _ D3.out, E.out, col_set _ HL.out]
      case measure => have := HL.out; simp [intOf]; omega
    · have i1 : ¬ (k : Int) < 4 := by omega
      have ek : k = 4 := by omega
      subst ek
      go_wp2_with (first
        | (refine atLoad 84 (.tmp 3) rfl ?_; go_must (refine wpList_load_row rfl 84 (.tmp 3) rfl (w.heap.size + 2) rfl 84 _ (0, 0) _ G3.out Try.underlying84 rfl (size4' _) ?_; simp only [Act.put, List.setIfInBounds_toArray, List.set_cons_succ, List.set_cons_zero]))
        | (refine atStore 84 (.tmp 2) (.tmp 34) rfl ?_; go_must (refine wpList_store_row rfl 84 (.tmp 2) (.tmp 34) rfl (w.heap.size + 1) _ rfl rfl 84 _ G2.out (size4' _) rfl (col_one _) ?_)))
      refine bodyPost_ret (v := .agg (col (mixk fwd c))) (results_cell_row Try.results54 _ _ (w.heap.size + 1) 84 _ (0, 0) _ rfl (setRow_heap _ _ _ _ _ _ G2.out) Try.underlying84 rfl (size4' _)) rfl ⟨rfl, ?_⟩
      exact below4 B.out (by omega) _
end Go.Proofs.Ytmfaapbhehhlpaa.Gf8

namespace Go.Proofs.Ytmfaapbhehhlpaa.Gf8
open Go.RowKit

theorem zero4 : ∀ w, (zeroValue 84).run Try.prog w = .ok (.agg (col fun _ => 0)) w :=
  (zero_of_info (n := 4) (by kernel_rfl)).1
section
variable {o : Oper} {a : Act} {w : World}
theorem execIdx4 {x i : Operand} {g k : Nat} (ho : o.op = .indexAddr 84 x i) (hx : a.eval x = .pointer (some ⟨g, 0, none⟩)) (hi : a.eval i = .int .i64 (k : Int)) (hk : k < 4) : (execOp a.eval o).run Try.prog w = .ok (.value (.pointer (some ⟨g, k, none⟩))) w := by
  have h1 : (k : Int) < 4 := by omega
  unfold execOp
  simp only [ho, hx, hi]
  simp [go_sem, h1]
theorem execAlloc4 (ho : o.op = .alloc 84) : (execOp a.eval o).run Try.prog w = .ok (.value (.pointer (some ⟨w.heap.size, 0, none⟩))) (w.alloc (.cells (col fun _ => 0) 84)) := by
  have h := zero4
  unfold execOp
  simp only [ho]
  simp [go_sem, h]
end
end Go.Proofs.Ytmfaapbhehhlpaa.Gf8
