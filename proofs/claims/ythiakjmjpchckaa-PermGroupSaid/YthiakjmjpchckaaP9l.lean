import Derived.Test.YthiakjmjpchckaaP9k
import Derived.Test.YthiakjmjpchckaaY2
import Derived.SliceStrings
namespace Go.Proofs.Ythiakjmjpchckaa.Prm
open Go.ChangeShapes Go.WideShapes Go.ChangeAt Go.RowKit Gf8 Aes By8 Cel Cf Tap Drw
/- A []string as an argument. -/

theorem bytesS : Try.prog.bytesOf 9 = 16 := by kernel_rfl
theorem strs_len {H : Type} (ss : List ByteArray) : (strs ss : List (DataW H)).length = ss.length := by simp [strs]
/-- A []string that reads is one. -/
theorem strs_read {H : Type} {enc : TypeId × Value → H} {W : World} {v : Value} {d : DataW H} {p : List MemPlace} (h : ∃ fuel, DataW.trod enc Try.prog W 0 (fun _ => true) true fuel 38 v.cells.toList = some (d, p))
    (hw : ∀ n ∈ d.weights Try.prog 38, n ≤ reachBytes) (hs : ∃ a l c, v = .slice a l c) : ∃ (len : Nat) (f : Nat → ByteArray), SliceS W v len f ∧ len ≤ 17592186043904 := by
  obtain ⟨a0, len0, cap0, rfl⟩ := hs
  obtain ⟨fuel, hf⟩ := h
  have hr : reachBytes = 140737488351232 := rfl
  rcases open_strings Try.underlying38 Try.underlying9 (by kernel_rfl) hf with ⟨hcs, _⟩ | ⟨x, l, c, zs, hcs, _, hl, hm, hz, hx, hcell, _⟩
  · simp [Value.cells] at hcs
    obtain ⟨rfl, rfl, rfl⟩ := hcs
    exact ⟨0, fun _ => ByteArray.empty, ⟨⟨_, _, rfl, Nat.le_refl _, Nat.zero_le _, fun h => by omega⟩⟩, by omega⟩
  · simp [Value.cells] at hcs
    obtain ⟨rfl, rfl, rfl⟩ := hcs
    simp only [Prod.mk.injEq] at hx
    obtain ⟨rfl, rfl⟩ := hx
    have hzl : zs.length = cap0 := by simpa using hz
    have hb : 16 * cap0 ≤ 140737488351232 := by
      have := hw _ (by simp only [DataW.weights, Try.underlying38]; exact List.mem_cons_self)
      rw [bytesS] at this
      simp only [strs_len, List.length_take, List.length_drop] at this
      omega
    refine ⟨len0, fun j => zs.getD j ByteArray.empty, ⟨⟨_, _, rfl, hl, by unfold maxLen; omega, fun h => ?_⟩⟩, by omega⟩
    obtain ⟨b, off, spot⟩ := x
    have hspot : spot = none := by simpa [Addr.add] using World.cell?_spot (hcell 0 (by omega))
    subst hspot
    have hc : ∀ j, j < zs.length → W.cell? ⟨b, off + j, none⟩ = some (.string (zs.getD j ByteArray.empty)) := fun j hj => by rw [← Go.WideShapes.add_plain]; exact hcell j hj
    exact ⟨b, off, rfl, World.block_lt_of_cell? W _ (hc 0 (by omega)), fun j hj => hc j (by omega)⟩
end Go.Proofs.Ythiakjmjpchckaa.Prm
