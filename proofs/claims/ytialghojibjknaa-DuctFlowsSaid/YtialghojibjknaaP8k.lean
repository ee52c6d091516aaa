import Derived.Test.YtialghojibjknaaP8i
import Derived.Test.YtialghojibjknaaL9b
import Derived.Test.YtialghojibjknaaY2
import Derived.Test.YtialghojibjknaaX2
import Derived.SliceStrings
import Derived.Lib.SmallJoins
import Derived.Deep.Slices
import Derived.Deep.SlicePairs
namespace Go.Proofs.Ytialghojibjknaa.Duc
open Go.ChangeShapes Go.WideShapes Go.ChangeAt Go.RowKit Gf8 Aes By8 Cel Cf Win Drw
/- A script of steps, a []string as an argument. -/

set_option maxRecDepth 100000

theorem bytesS8 : Try.prog.bytesOf 9 = 16 := by kernel_rfl
theorem strs_len8 {H : Type} (ss : List ByteArray) : (strs ss : List (DataW H)).length = ss.length := by simp [strs]
/-- A []string that reads is one. -/
theorem strs18_read {H : Type} {enc : TypeId × Value → H} {W : World} {v : Value} {d : DataW H} {p : List MemPlace} (h : ∃ fuel, DataW.trod enc Try.prog W 0 (fun _ => true) true fuel 41 v.cells.toList = some (d, p))
    (hw : ∀ n ∈ d.weights Try.prog 41, n ≤ reachBytes) (hs : ∃ a l c, v = .slice a l c) : ∃ (len : Nat) (f : Nat → ByteArray), Ss8 W v len f ∧ len ≤ 8796093021952 := by
  obtain ⟨a0, len0, cap0, rfl⟩ := hs
  obtain ⟨fuel, hf⟩ := h
  have hr : reachBytes = 140737488351232 := rfl
  rcases open_strings Try.underlying41 Try.underlying9 (by kernel_rfl) hf with ⟨hcs, _⟩ | ⟨x, l, c, zs, hcs, _, hl, hm, hz, hx, hcell, _⟩
  · simp [Value.cells] at hcs
    obtain ⟨rfl, rfl, rfl⟩ := hcs
    exact ⟨0, fun _ => ByteArray.empty, ⟨⟨_, _, rfl, fun h => by omega⟩⟩, by omega⟩
  · simp [Value.cells] at hcs
    obtain ⟨rfl, rfl, rfl⟩ := hcs
    simp only [Prod.mk.injEq] at hx
    obtain ⟨rfl, rfl⟩ := hx
    have hzl : zs.length = cap0 := by simpa using hz
    have hb : 16 * cap0 ≤ 140737488351232 := by
      have := hw _ (by simp only [DataW.weights, Try.underlying41]; exact List.mem_cons_self)
      rw [bytesS8] at this
      simp only [strs_len8, List.length_take, List.length_drop] at this
      omega
    refine ⟨len0, fun j => zs.getD j ByteArray.empty, ⟨⟨_, _, rfl, fun h => ?_⟩⟩, by omega⟩
    obtain ⟨b, off, spot⟩ := x
    have hspot : spot = none := by simpa [Addr.add] using World.cell?_spot (hcell 0 (by omega))
    subst hspot
    have hc : ∀ j, j < zs.length → W.cell? ⟨b, off + j, none⟩ = some (.string (zs.getD j ByteArray.empty)) := fun j hj => by rw [← Go.WideShapes.add_plain]; exact hcell j hj
    exact ⟨b, off, rfl, World.block_lt_of_cell? W _ (hc 0 (by omega)), fun j hj => hc j (by omega)⟩
end Go.Proofs.Ytialghojibjknaa.Duc
