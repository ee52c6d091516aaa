import Derived.Test.YteekoabgbjbabaaGreatDoorB7f
namespace Go.Proofs.YteekoabgbjbabaaGreatDoor.Rou
open Go.ChangeShapes Go.WideShapes Go.ChangeAt Go.RowKit Gf8 Aes By8 Cel Oni
/- A Chain as an argument. -/

theorem kA : Tryz.prog.cellsOf 35 = 16 := by kernel_rfl
theorem bytesA : Tryz.prog.bytesOf 35 = 16 := by kernel_rfl
set_option maxRecDepth 20000 in
theorem nons_read {H : Type} {enc : TypeId × Value → H} {W : World} {fuel : Nat} {v : Value} {d : DataW H} {p : List MemPlace} (h : DataW.trod enc Tryz.prog W 0 (fun _ => true) true fuel 23 [v] = some (d, p))
    (hw : ∀ n ∈ d.weights Tryz.prog 23, n ≤ reachBytes) : ∃ n q, Nons W v n q ∧ n ≤ 140737488351232 := by
  have hr : reachBytes = 140737488351232 := rfl
  rcases Deep.open_slice Tryz.underlying23 h with ⟨hcs, _⟩ | ⟨a, len, cap, m, fu, D, Pl, hcs, _, hl, hm, hmm, hx, hel⟩
  · simp at hcs
    subst hcs
    exact ⟨0, fun _ _ => 0, ⟨⟨none, 0, rfl, Nat.le_refl _, by omega, fun h => by omega⟩, fun i h => by omega⟩, by omega⟩
  · simp at hcs
    subst hcs
    simp only [Prod.mk.injEq] at hx
    obtain ⟨rfl, rfl⟩ := hx
    simp only [if_true] at hmm
    have hn : (len + (m - len)) * 16 ≤ reachBytes := by
      refine hw _ ?_
      simp only [DataW.weights, Tryz.underlying23, bytesA]
      exact List.mem_cons.2 (Or.inl (by simp))
    have each : ∀ i, i < len → ∃ q : Nat → Nat, By q ∧ ∀ j, j < 16 → W.cell? (a.add (i * 16 + j)) = some (.int .u8 (q j)) := by
      intro i hi
      obtain ⟨cs', h1, h2⟩ := hel i (by omega)
      rw [kA] at h1
      obtain ⟨_, hlen, hcell⟩ := World.cells?_some h1
      obtain ⟨f, hf, hc⟩ := cells_bytes Tryz.underlying35 Tryz.underlying5 (by kernel_rfl) (by kernel_rfl) (n := 16) hlen h2
      refine ⟨f, hf, fun j hj => ?_⟩
      have e0 := hcell j (by omega)
      rw [Deep.add_add] at e0
      have e1 := hc j hj
      rw [e0]
      exact e1
    obtain ⟨q, hq⟩ := Deep.choose_lt each
    refine ⟨len, q, ⟨⟨some a, cap, rfl, hl, by have h9 : cap ≤ maxLen := hm; unfold maxLen at h9; omega, fun hp => ?_⟩, fun i hi => (hq i hi).1⟩, by omega⟩
    obtain ⟨b, off, spot⟩ := a
    have hc0 := (hq 0 hp).2 0 (by omega)
    have hspot : spot = none := by simpa [Addr.add] using World.cell?_spot hc0
    subst hspot
    refine ⟨b, off, rfl, World.block_lt_of_cell? W _ hc0, fun i hi j hj => ?_⟩
    have h1 := (hq i hi).2 j hj
    rw [Go.WideShapes.add_plain, ← Nat.add_assoc] at h1
    exact h1
theorem kC : Tryz.prog.cellsOf 22 = 1 := by kernel_rfl
theorem kN : Tryz.prog.cellsOf 23 = 1 := by kernel_rfl
def hC (kv nv pv : Value) : Array Value := #[kv, nv, pv]
end Go.Proofs.YteekoabgbjbabaaGreatDoor.Rou
