import Derived.Test.YtedjoakpbknflaaDoorA2
namespace Go.Proofs.YtedjoakpbknflaaDoor
open Go.RowKit

theorem size28 : (Tryd.prog.info? 28).map (·.size) = some 32 := by kernel_rfl
theorem size28' (f : Nat → Int) : (Tryd.prog.info? 28).map (·.size) = some (tab8 32 f).size := by rw [tab8_size]; exact size28
/-- The digest's byte i of the words s. -/
def digB (s : Nat → Int) (i : Nat) : Int := s (i / 4) / 2 ^ (24 - 8 * (i % 4)) % 256

set_option maxHeartbeats 400000 in
theorem digest_any (c : Array Value) (s : Nat → Int) (w : World)
    (hs : ∀ i : Nat, i < 8 → c[i]? = some (.int .u32 (s i))) :
    Calls Tryd.prog 25 #[.agg c] w fun e w' => e = .returned (.agg (tab8 32 (digB s))) ∧ Below w.heap.size w w' := by
  go_enter Tryd.func25, Tryd.ntmps25
  go_wp2
  rw [show w.heap.size + 1 + 1 = w.heap.size + 2 from rfl]
  go_loopw [5] (fun i W => ∃ k : Nat, k ≤ 32 ∧ i = .int .i64 k ∧ W = (((w.alloc (.cells c 23)).alloc (.cells (tab8 32 (upto (fun _ => 0) 0)) 28)).alloc (.cells (tab8 32 (upto (digB s) k)) 28)).drewN 0) (fun i _ => 32 - (intOf i).toNat)
  case atStart => exact ⟨0, by omega, rfl, by kernel_rfl⟩
  case round =>
    obtain ⟨k, hk, rfl, rfl⟩ := hrel
    by_cases hlt : k < 32
    · have h2 := hs (k / 4) (by omega)
      have h3 := tab8_get 32 (upto (digB s) k) k hlt
      clear hs
      go_wp2
      refine ⟨⟨k + 1, by omega, by go_num, ?_⟩, by simp [intOf]; omega⟩
      rw [setTop3, tab8_set]
      exact congrArg (fun f => (((w.alloc (Obj.cells c 23)).alloc (Obj.cells (tab8 32 (upto (fun _ => 0) 0)) 28)).alloc (Obj.cells (tab8 32 f) 28)).drewN 0) (upd_upto (digB s) k)
    · have hb := heap3 w (.cells c 23) (.cells (tab8 32 (upto (fun _ => 0) 0)) 28) (.cells (tab8 32 (upto (digB s) k)) 28) 0
      have hbl := below3 w (.cells c 23) (.cells (tab8 32 (upto (fun _ => 0) 0)) 28) (.cells (tab8 32 (upto (digB s) k)) 28) 0
      have HB : Hid (_) := hb
      have HL : Hid (_) := hbl
      clear hb hbl hs
      go_wp2_with (first
        | refine wpList_load_row rfl 28 _ rfl _ rfl _ _ (0, 0) _ HB.out.2.2 Tryd.underlying28 rfl (size28' _) ?_
        | refine wpList_store_row rfl 28 _ _ rfl _ _ rfl rfl _ _ HB.out.2.1 (size28' _) (by simp only [tab8_size]) (tab8_one _ _) ?_)
      refine bodyPost_ret (v := .agg (tab8 32 (upto (digB s) k))) (results_cell_row Tryd.results25 _ _ _ _ _ (0, 0) _ rfl (setRow_heap _ _ _ _ _ _ HB.out.2.1) Tryd.underlying28 rfl (size28' _)) rfl ⟨?_, ?_⟩
      · rw [tab8_congr (n := 32)]
        intro i hi
        simp [upto, show i < k by omega]
      · exact below_setRow HL.out (by omega) _
end Go.Proofs.YtedjoakpbknflaaDoor
