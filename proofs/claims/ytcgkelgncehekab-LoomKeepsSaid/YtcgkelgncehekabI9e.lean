import Derived.Test.YtcgkelgncehekabS8d
namespace Go.Proofs.Ytcgkelgncehekab.Drw
open Go.ChangeShapes Go.WideShapes Go.ChangeAt Go.RowKit Gf8 Aes By8 Cel Cf Tap
/- A []int as an argument; nil has no room. -/

/-- A []int that reads is one; nil has no room. -/
theorem ints_readZ {H : Type} {enc : TypeId × Value → H} {W : World} {v : Value} {d : DataW H} {p : List MemPlace} (h : ∃ fuel, DataW.trod enc Try.prog W 0 (fun _ => true) true fuel 22 v.cells.toList = some (d, p))
    (hw : ∀ n ∈ d.weights Try.prog 22, n ≤ reachBytes) (hs : ∃ a l c, v = .slice a l c) : ∃ (len : Nat) (f : Nat → Int), SliceI W v len f ∧ len ≤ 17592186043904 ∧ ∀ l c, v = .slice none l c → c = 0 := by
  obtain ⟨a0, len0, cap0, rfl⟩ := hs
  obtain ⟨fuel, hf⟩ := h
  have hr : reachBytes = 140737488351232 := rfl
  rcases open_ints Try.underlying22 Try.underlying3 (by kernel_rfl) hf with ⟨hcs, _⟩ | ⟨x, l, c, zs, hcs, _, hl, hm, hz, hx, hcell, hwz⟩
  · simp [Value.cells] at hcs
    obtain ⟨rfl, rfl, rfl⟩ := hcs
    exact ⟨0, fun _ => 0, slice_nilI, by omega, fun l c e => by injection e with _ _ e; exact e.symm⟩
  · simp [Value.cells] at hcs
    obtain ⟨rfl, rfl, rfl⟩ := hcs
    simp only [Prod.mk.injEq] at hx
    obtain ⟨rfl, rfl⟩ := hx
    have hzl : zs.length = cap0 := by simpa using hz
    have hb : 8 * cap0 ≤ 140737488351232 := by
      have := hw _ (by simp only [DataW.weights, Try.underlying22]; exact List.mem_cons_self)
      rw [bytesI] at this
      simp only [lits, List.length_map, List.length_take, List.length_drop] at this
      omega
    have key : ∀ j, j < len0 → -9223372036854775808 ≤ zs.getD j 0 ∧ zs.getD j 0 < 9223372036854775808 := fun j hj => wf_i64 (hwz _ (by rw [List.getD_eq_getElem?_getD, List.getElem?_eq_getElem (by omega)]; exact List.getElem_mem _))
    refine ⟨len0, fun j => zs.getD j 0, ⟨⟨_, _, rfl, hl, by unfold maxLen; omega, fun h => ?_⟩, fun j hj => key j hj⟩, by omega, fun l c e => by cases e⟩
    obtain ⟨b, off, rfl, hc⟩ := ints_at hcell (by omega)
    exact ⟨b, off, rfl, World.block_lt_of_cell? W _ (hc 0 (by omega)), fun j hj => hc j (by omega)⟩
end Go.Proofs.Ytcgkelgncehekab.Drw
