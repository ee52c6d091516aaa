import Derived.Test.YtedjoakpbknflaaDoorA0
import Derived.Test.YtedjoakpbknflaaDoorA1
import Derived.Deep.MidRow
import Derived.Deep.WholeRow
import Derived.BigQuiet
import Derived.BigRegion
import Derived.Deep.QuietTactic
import Derived.Deep.RegionWith
namespace Go.Proofs.YtedjoakpbknflaaDoor
open Go.RowKit

theorem z8 : #[Value.int IntKind.u32 0, Value.int IntKind.u32 0, Value.int IntKind.u32 0, Value.int IntKind.u32 0,
            Value.int IntKind.u32 0, Value.int IntKind.u32 0, Value.int IntKind.u32 0, Value.int IntKind.u32 0] = tab32 8 (upto (fun _ => 0) 0) := by kernel_rfl

theorem size23 : (Tryd.prog.info? 23).map (·.size) = some 8 := by kernel_rfl
theorem size23' (f : Nat → Int) : (Tryd.prog.info? 23).map (·.size) = some (tab32 8 f).size := by rw [tab32_size]; exact size23

theorem below_setRow {B : Nat} {a w : World} (h : Below B a w) {g : Nat} (hg : B ≤ g) (c : Array Value) : Below B a (w.setRow g c) :=
  h.trans ⟨rfl, rfl, rfl, by simp, fun k hk => setRow_other w g k c (by omega)⟩
theorem below_drewN {B : Nat} {a w : World} (h : Below B a w) (n : Nat) : Below B a (w.drewN n) := ⟨h.os, h.tape, h.output, h.size, h.block⟩

theorem heap3 (w : World) (A B C : Obj) (n : Nat) : ((((w.alloc A).alloc B).alloc C).drewN n).heap[w.heap.size]? = some A ∧ ((((w.alloc A).alloc B).alloc C).drewN n).heap[w.heap.size + 1]? = some B ∧ ((((w.alloc A).alloc B).alloc C).drewN n).heap[w.heap.size + 2]? = some C := by
  have hs : ∀ (v : World) (o : Obj), (v.alloc o).heap = v.heap.push o := fun _ _ => rfl
  simp only [World.heap_drewN, hs, Array.getElem?_push, Array.size_push]
  refine ⟨?_, ?_, ?_⟩
  · rw [if_neg (by omega), if_neg (by omega), if_pos trivial]
  · rw [if_neg (by omega), if_pos trivial]
  · rw [if_pos trivial]
theorem below3 (w : World) (A B C : Obj) (n : Nat) : Below w.heap.size w ((((w.alloc A).alloc B).alloc C).drewN n) :=
  below_drewN ((((Below.refl _ _).alloc (Nat.le_refl _) _).alloc (by simp) _).alloc (by simp; omega) _) n

theorem setTop3 (w : World) (A B : Obj) (c : Array Value) (t : TypeId) (k : Nat) (v : Value) (n : Nat) :
    ((((w.alloc A).alloc B).alloc (.cells c t)).drewN n).setCell ⟨w.heap.size + 2, k, none⟩ v = (((w.alloc A).alloc B).alloc (.cells (c.setIfInBounds k v) t)).drewN n := by
  have h := World.setCell_alloc_at (w := (w.alloc A).alloc B) c t (w.heap.size + 2) k v (by simp)
  show ((((w.alloc A).alloc B).alloc (.cells c t)).setCell ⟨w.heap.size + 2, k, none⟩ v).drewN n = _
  rw [h]

set_option maxHeartbeats 400000 in
theorem state_any (c : Array Value) (g H : Nat → Int) (w : World) (hz : 1 < w.heap.size)
    (hH : ∀ i : Nat, i < 8 → w.cell? ⟨0, i, none⟩ = some (.int .u32 (H i)))
    (hg : ∀ i : Nat, i < 8 → c[i]? = some (.int .u32 (g i))) :
    Calls Tryd.prog 27 #[.agg c] w fun e w' => e = .returned (.agg (tab32 8 fun i => (H i + g i) % 4294967296)) ∧ Below w.heap.size w w' := by
  go_enter Tryd.func27, Tryd.ntmps27
  go_wp2
  rw [show w.heap.size + 1 + 1 = w.heap.size + 2 from rfl]
  go_loopw [5] (fun i W => ∃ k n : Nat, k ≤ 8 ∧ i = .int .i64 k ∧ W = (((w.alloc (.cells c 27)).alloc (.cells (tab32 8 (upto (fun _ => 0) 0)) 23)).alloc (.cells (tab32 8 (upto (fun i => (H i + g i) % 4294967296) k)) 23)).drewN n) (fun i _ => 8 - (intOf i).toNat)
  case atStart => exact ⟨0, 0, by omega, rfl, by rw [z8]; rfl⟩
  case round =>
    obtain ⟨k, n, hk, rfl, rfl⟩ := hrel
    by_cases hlt : k < 8
    · have hz0 : 0 < w.heap.size := by omega
      have h1 := hH k hlt
      have h2 := hg k hlt
      have h3 := tab32_get 8 (upto (fun i => (H i + g i) % 4294967296) k) k hlt
      clear hH hg
      go_wp2
      go_region
      go_wp2
      refine ⟨⟨k + 1, n + 1, by omega, by go_num, ?_⟩, by simp [intOf]; omega⟩
      rw [setTop3, tab32_set, upd_upto (fun i => (H i + g i) % 4294967296) k]
    · have hb := heap3 w (.cells c 27) (.cells (tab32 8 (upto (fun _ => 0) 0)) 23) (.cells (tab32 8 (upto (fun i => (H i + g i) % 4294967296) k)) 23) n
      have hbl := below3 w (.cells c 27) (.cells (tab32 8 (upto (fun _ => 0) 0)) 23) (.cells (tab32 8 (upto (fun i => (H i + g i) % 4294967296) k)) 23) n
      have HB : Hid (_) := hb
      have HL : Hid (_) := hbl
      clear hb hbl hH hg
      go_wp2_with (first
        | refine wpList_load_row rfl 23 _ rfl _ rfl _ _ (0, 0) _ HB.out.2.2 Tryd.underlying23 rfl (size23' _) ?_
        | refine wpList_store_row rfl 23 _ _ rfl _ _ rfl rfl _ _ HB.out.2.1 (size23' _) (by simp only [tab32_size]) (tab32_one _ _) ?_)
      refine bodyPost_ret (v := .agg (tab32 8 (upto (fun i => (H i + g i) % 4294967296) k))) (results_cell_row Tryd.results27 _ _ _ _ _ (0, 0) _ rfl (setRow_heap _ _ _ _ _ _ HB.out.2.1) Tryd.underlying23 rfl (size23' _)) rfl ⟨?_, ?_⟩
      · rw [tab32_congr (n := 8)]
        intro i hi
        simp [upto, show i < k by omega]
      · exact below_setRow HL.out (by omega) _
end Go.Proofs.YtedjoakpbknflaaDoor
