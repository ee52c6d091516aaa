import Derived.Test.YtedjoakpbknflaaDoorD1
import Derived.Test.YtedjoakpbknflaaDoorK0
import Derived.Test.YtedjoakpbknflaaDoorCards
import Derived.Test.YtedjoakpbknflaaDoorTie
import Derived.OpenShut
import Derived.ChangeOld
import Derived.SizedLaws
import Derived.Deep.DeepHandedRow
namespace Go.Proofs.YtedjoakpbknflaaDoor
open Go.ChangeShapes Go.WideShapes Go.ChangeAt Go.RowKit

theorem wfU8 {n : Int} (h : (Lit.int .u8 n).wf = true) : 0 ≤ n ∧ n < 256 := by
  have := bounds_u8 h
  omega
theorem wfI64 {n : Int} (h : (Lit.int .i64 n).wf = true) : -9223372036854775808 ≤ n ∧ n < 9223372036854775808 := by
  have := bounds_i64 h
  omega
theorem bytesB : Tryd.prog.bytesOf 5 = 1 := by kernel_rfl
/-- A []byte that reads is one. -/
theorem bytes_read {H : Type} {enc : TypeId × Value → H} {W : World} {v : Value} {d : DataW H} {p : List MemPlace} (h : ∃ fuel, DataW.trod enc Tryd.prog W 0 (fun _ => true) true fuel 33 v.cells.toList = some (d, p))
    (hw : ∀ n ∈ d.weights Tryd.prog 33, n ≤ reachBytes) (hs : ∃ a l c, v = .slice a l c) : ∃ (len : Nat) (f : Nat → Int), SliceB W v len f ∧ len ≤ 140737488351232 ∧ ∀ cap, v = .slice none len cap → cap = 0 := by
  obtain ⟨a0, len0, cap0, rfl⟩ := hs
  obtain ⟨fuel, hf⟩ := h
  have hr : reachBytes = 140737488351232 := rfl
  rcases open_ints Tryd.underlying33 Tryd.underlying5 (by kernel_rfl) hf with ⟨hcs, _⟩ | ⟨x, l, c, zs, hcs, _, hl, hm, hz, hx, hcell, hwz⟩
  · simp [Value.cells] at hcs
    obtain ⟨rfl, rfl, rfl⟩ := hcs
    refine ⟨0, fun _ => 0, ⟨⟨_, _, rfl, Nat.le_refl _, by omega, fun h => by omega⟩, fun j hj => by omega⟩, by omega, fun cap e => ?_⟩
    cases e; rfl
  · simp [Value.cells] at hcs
    obtain ⟨rfl, rfl, rfl⟩ := hcs
    simp only [Prod.mk.injEq] at hx
    obtain ⟨rfl, rfl⟩ := hx
    have hzl : zs.length = cap0 := by simpa using hz
    have hb : cap0 ≤ 140737488351232 := by
      have := hw _ (by simp only [DataW.weights, Tryd.underlying33]; exact List.mem_cons_self)
      rw [bytesB] at this
      simp only [lits, List.length_map, List.length_take, List.length_drop] at this
      omega
    refine ⟨len0, fun j => zs.getD j 0, ⟨⟨_, _, rfl, hl, by omega, fun h => ?_⟩, fun j hj => ?_⟩, by omega, fun cap e => by cases e⟩
    · obtain ⟨b, off, rfl, hc⟩ := ints_at hcell (by omega)
      exact ⟨b, off, rfl, World.block_lt_of_cell? W _ (hc 0 (by omega)), fun j hj => hc j (by omega)⟩
    · exact wfU8 (hwz _ (by rw [List.getD_eq_getElem?_getD, List.getElem?_eq_getElem (by omega)]; exact List.getElem_mem _))
end Go.Proofs.YtedjoakpbknflaaDoor
