import Derived.Test.YtdkkbgokemimfaaDoorD3n
import Derived.Test.YtdkkbgokemimfaaDoorD3d
namespace Go.Proofs.YtdkkbgokemimfaaDoor.Frm
open Go.ChangeShapes Go.WideShapes Go.ChangeAt Go.RowKit Gf8 Aes By8 Cel
/- A []uint16 as an argument. -/

theorem bytes16 : Tryd.prog.bytesOf 53 = 2 := by kernel_rfl
theorem words_read {H : Type} {enc : TypeId × Value → H} {W : World} {v : Value} {d : DataW H} {p : List MemPlace} (h : ∃ fuel, DataW.trod enc Tryd.prog W 0 (fun _ => true) true fuel 52 v.cells.toList = some (d, p))
    (hw : ∀ n ∈ d.weights Tryd.prog 52, n ≤ reachBytes) (hs : ∃ a l c, v = .slice a l c) : ∃ (len : Nat) (f : Nat → Nat), SliceW W v len f ∧ len ≤ 140737488351232 := by
  obtain ⟨a0, len0, cap0, rfl⟩ := hs
  obtain ⟨fuel, hf⟩ := h
  have hr : reachBytes = 140737488351232 := rfl
  rcases open_ints Tryd.underlying52 Tryd.underlying53 (by kernel_rfl) hf with ⟨hcs, _⟩ | ⟨x, l, c, zs, hcs, _, hl, hm, hz, hx, hcell, hwz⟩
  · simp [Value.cells] at hcs
    obtain ⟨rfl, rfl, rfl⟩ := hcs
    exact ⟨0, fun _ => 0, ⟨⟨_, _, rfl, fun h => by omega⟩, fun j hj => by omega⟩, by omega⟩
  · simp [Value.cells] at hcs
    obtain ⟨rfl, rfl, rfl⟩ := hcs
    simp only [Prod.mk.injEq] at hx
    obtain ⟨rfl, rfl⟩ := hx
    have hzl : zs.length = cap0 := by simpa using hz
    have hb : cap0 ≤ 140737488351232 := by
      have := hw _ (by simp only [DataW.weights, Tryd.underlying52]; exact List.mem_cons_self)
      rw [bytes16] at this
      simp only [lits, List.length_map, List.length_take, List.length_drop] at this
      omega
    have hz' : ∀ j, j < len0 → 0 ≤ zs.getD j 0 ∧ zs.getD j 0 < 65536 := fun j hj => by
      have := hwz (zs.getD j 0) (by rw [List.getD_eq_getElem?_getD, List.getElem?_eq_getElem (by omega)]; exact List.getElem_mem _)
      have := bounds_u16 this
      omega
    refine ⟨len0, fun j => (zs.getD j 0).toNat, ⟨⟨_, _, rfl, fun h => ?_⟩, fun j hj => ?_⟩, by omega⟩
    · obtain ⟨b, off, rfl, hc⟩ := ints_at hcell (by omega)
      refine ⟨b, off, rfl, World.block_lt_of_cell? W _ (hc 0 (by omega)), fun j hj => ?_⟩
      rw [hc j (by omega)]
      have := hz' j hj
      rw [Int.toNat_of_nonneg this.1]
    · have := hz' j hj
      omega
end Go.Proofs.YtdkkbgokemimfaaDoor.Frm
