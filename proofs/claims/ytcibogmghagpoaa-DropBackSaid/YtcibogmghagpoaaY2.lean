import Derived.Test.YtcibogmghagpoaaY0
import Derived.ProofKit
import Derived.OpenShut
import Derived.ChangeOld
import Derived.SizedLaws
import Derived.Deep.DeepHandedRow
namespace Go.Proofs.Ytcibogmghagpoaa.By8
open Go.ChangeShapes Go.WideShapes Go.ChangeAt Go.RowKit
/- A []byte as an argument. -/

theorem laidOut : laidOutB Try.prog = true := by kernel_rfl
theorem bytesB : Try.prog.bytesOf 5 = 1 := by kernel_rfl
/-- A []byte that reads is one. -/
theorem bytes_read {H : Type} {enc : TypeId × Value → H} {W : World} {v : Value} {d : DataW H} {p : List MemPlace} (h : ∃ fuel, DataW.trod enc Try.prog W 0 (fun _ => true) true fuel 23 v.cells.toList = some (d, p))
    (hw : ∀ n ∈ d.weights Try.prog 23, n ≤ reachBytes) (hs : ∃ a l c, v = .slice a l c) : ∃ (len : Nat) (f : Nat → Nat), SliceN W v len f ∧ len ≤ 140737488351232 := by
  obtain ⟨a0, len0, cap0, rfl⟩ := hs
  obtain ⟨fuel, hf⟩ := h
  have hr : reachBytes = 140737488351232 := rfl
  rcases open_ints Try.underlying23 Try.underlying5 (by kernel_rfl) hf with ⟨hcs, _⟩ | ⟨x, l, c, zs, hcs, _, hl, hm, hz, hx, hcell, hwz⟩
  · simp [Value.cells] at hcs
    obtain ⟨rfl, rfl, rfl⟩ := hcs
    exact ⟨0, fun _ => 0, ⟨⟨_, _, rfl, Nat.le_refl _, by omega, fun h => by omega⟩, fun j hj => by omega⟩, by omega⟩
  · simp [Value.cells] at hcs
    obtain ⟨rfl, rfl, rfl⟩ := hcs
    simp only [Prod.mk.injEq] at hx
    obtain ⟨rfl, rfl⟩ := hx
    have hzl : zs.length = cap0 := by simpa using hz
    have hb : cap0 ≤ 140737488351232 := by
      have := hw _ (by simp only [DataW.weights, Try.underlying23]; exact List.mem_cons_self)
      rw [bytesB] at this
      simp only [lits, List.length_map, List.length_take, List.length_drop] at this
      omega
    have key : ∀ j, j < len0 → 0 ≤ zs.getD j 0 ∧ zs.getD j 0 < 256 := fun j hj => wfB.1 (hwz _ (by rw [List.getD_eq_getElem?_getD, List.getElem?_eq_getElem (by omega)]; exact List.getElem_mem _))
    refine ⟨len0, fun j => (zs.getD j 0).toNat, ⟨⟨_, _, rfl, hl, by omega, fun h => ?_⟩, fun j hj => ?_⟩, by omega⟩
    · obtain ⟨b, off, rfl, hc⟩ := ints_at hcell (by omega)
      refine ⟨b, off, rfl, World.block_lt_of_cell? W _ (hc 0 (by omega)), fun j hj => ?_⟩
      rw [hc j (by omega)]
      have := key j hj
      rw [Int.toNat_of_nonneg this.1]
    · have := key j hj
      omega
/-- A []byte in a field that reads is one. -/
theorem bytes_readJ {H : Type} {enc : TypeId × Value → H} {W : World} {v : Value} {y : DataW H × List MemPlace} {fuel : Nat} (h : DataW.trod enc Try.prog W 0 (fun _ => true) true fuel 23 [v] = some y)
    (hw : ∀ n ∈ y.1.weights Try.prog 23, n ≤ reachBytes) : ∃ (len : Nat) (f : Nat → Nat), SliceN W v len f ∧ len ≤ 140737488351232 ∧ ∀ l c, v = .slice none l c → c = 0 := by
  have hs : ∃ a l c, v = .slice a l c ∧ (a = none → c = 0) := by
    rcases open_ints Try.underlying23 Try.underlying5 (by kernel_rfl) h with ⟨hcs, _⟩ | ⟨x, l, c, zs, hcs, _⟩
    · simp at hcs
      exact ⟨_, _, _, hcs, fun _ => rfl⟩
    · simp at hcs
      exact ⟨_, _, _, hcs, fun h => by cases h⟩
  obtain ⟨a, l, c, rfl, hz⟩ := hs
  obtain ⟨len, f, h1, h2⟩ := bytes_read (d := y.1) (p := y.2) ⟨fuel, h⟩ hw ⟨a, l, c, rfl⟩
  refine ⟨len, f, h1, h2, fun l' c' e => ?_⟩
  injection e with e1 _ e3
  rw [← e3]
  exact hz e1
end Go.Proofs.Ytcibogmghagpoaa.By8
