import Derived.Test.YtcibogmghagpoaaG9d
import Derived.Test.YtcibogmghagpoaaY2
import Derived.Test.YtcibogmghagpoaaX2
namespace Go.Proofs.Ytcibogmghagpoaa.Drw
open Go.ChangeShapes Go.WideShapes Go.ChangeAt Go.RowKit Gf8 Aes By8 Cel Cf Tap
/- A []int as an argument. -/

theorem bytesI : Try.prog.bytesOf 3 = 8 := by kernel_rfl
/-- A []int that reads is one. -/
theorem ints_read {H : Type} {enc : TypeId × Value → H} {W : World} {v : Value} {d : DataW H} {p : List MemPlace} (h : ∃ fuel, DataW.trod enc Try.prog W 0 (fun _ => true) true fuel 43 v.cells.toList = some (d, p))
    (hw : ∀ n ∈ d.weights Try.prog 43, n ≤ reachBytes) (hs : ∃ a l c, v = .slice a l c) : ∃ (len : Nat) (f : Nat → Int), SliceI W v len f ∧ len ≤ 17592186043904 := by
  obtain ⟨a0, len0, cap0, rfl⟩ := hs
  obtain ⟨fuel, hf⟩ := h
  have hr : reachBytes = 140737488351232 := rfl
  rcases open_ints Try.underlying43 Try.underlying3 (by kernel_rfl) hf with ⟨hcs, _⟩ | ⟨x, l, c, zs, hcs, _, hl, hm, hz, hx, hcell, hwz⟩
  · simp [Value.cells] at hcs
    obtain ⟨rfl, rfl, rfl⟩ := hcs
    exact ⟨0, fun _ => 0, slice_nilI, by omega⟩
  · simp [Value.cells] at hcs
    obtain ⟨rfl, rfl, rfl⟩ := hcs
    simp only [Prod.mk.injEq] at hx
    obtain ⟨rfl, rfl⟩ := hx
    have hzl : zs.length = cap0 := by simpa using hz
    have hb : 8 * cap0 ≤ 140737488351232 := by
      have := hw _ (by simp only [DataW.weights, Try.underlying43]; exact List.mem_cons_self)
      rw [bytesI] at this
      simp only [lits, List.length_map, List.length_take, List.length_drop] at this
      omega
    have key : ∀ j, j < len0 → -9223372036854775808 ≤ zs.getD j 0 ∧ zs.getD j 0 < 9223372036854775808 := fun j hj => wf_i64 (hwz _ (by rw [List.getD_eq_getElem?_getD, List.getElem?_eq_getElem (by omega)]; exact List.getElem_mem _))
    refine ⟨len0, fun j => zs.getD j 0, ⟨⟨_, _, rfl, hl, by unfold maxLen; omega, fun h => ?_⟩, fun j hj => key j hj⟩, by omega⟩
    obtain ⟨b, off, rfl, hc⟩ := ints_at hcell (by omega)
    exact ⟨b, off, rfl, World.block_lt_of_cell? W _ (hc 0 (by omega)), fun j hj => hc j (by omega)⟩
end Go.Proofs.Ytcibogmghagpoaa.Drw
