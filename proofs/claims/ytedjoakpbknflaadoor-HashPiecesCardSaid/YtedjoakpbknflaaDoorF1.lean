import Derived.Test.YtedjoakpbknflaaDoorB1
namespace Go.Proofs.YtedjoakpbknflaaDoor
open Go.RowKit

theorem or_comm32 (x y : Int) : bits .or .u32 x y = bits .or .u32 y x := by
  simp only [bits]
  rw [BitVec.or_comm]

set_option maxHeartbeats 400000 in
theorem rturned_any (x : Int) (k : Int) (n : Nat) (w : World) (hk : k = (n : Int)) (h1 : 1 ≤ n) (hn : n ≤ 31) :
    Calls Tryd.prog 38 #[.int .u32 x, .int .i64 k] w fun e w' => e = .returned (.int .u32 (rotr x n)) ∧ ∃ m, w' = w.drewN m := by
  subst hk
  have h0 : (0 : Int) ≤ (n : Int) := by omega
  have h2 : IntKind.i64.wrap (32 - (n : Int)) = 32 - (n : Int) := by simp [IntKind.wrap, IntKind.bits, IntKind.signed]; omega
  have h3 : (32 - (n : Int)).toNat = 32 - n := by omega
  have h4 : min n 32 = n := by omega
  have h5 : min (32 - n) 32 = 32 - n := by omega
  have h6 : (0 : Int) ≤ 32 - (n : Int) := by omega
  go_enter Tryd.func38, Tryd.ntmps38
  go_wp2
  go_quiet (fail)
  go_wp2
  go_ret
  refine ⟨?_, nq, rfl⟩
  unfold rotr rotl
  rw [or_comm32, show 32 - (32 - n) = n by omega]
  rfl

set_option maxRecDepth 20000 in
set_option maxHeartbeats 400000 in
theorem thirds_any (w : World) :
    Calls Tryd.prog 29 #[] w fun e w' => e = .returned (.agg (tab32 64 kW)) ∧ Below w.heap.size w w' := by
  go_enter Tryd.func29, Tryd.ntmps29
  go_wp2_with (first
    | (refine isStore 55 (.tmp 0) (.tmp 1) rfl ?_; go_must (refine wpList_store_row rfl 55 (.tmp 0) (.tmp 1) rfl w.heap.size (tab32 64 kW) rfl (by rfl) 55 _ (heap_alloc_new _ _) (size47' _) (by simp only [tab32_size]; rfl) (tab32_one _ _) ?_)))
  refine bodyPost_ret (v := .agg (tab32 64 kW)) (results_cell_row Tryd.results29 _ _ w.heap.size 55 _ (0, 0) _ rfl (setRow_heap _ _ _ _ _ _ (heap_alloc_new _ _)) Tryd.underlying55 rfl (size47' _)) rfl ⟨rfl, ?_⟩
  exact below_setRow ((Below.refl _ _).alloc (Nat.le_refl _) _) (Nat.le_refl _) _
end Go.Proofs.YtedjoakpbknflaaDoor
