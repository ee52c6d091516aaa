import Derived.Test.YtcffmmeafnapiaaDoorB7m
namespace Go.Proofs.YtcffmmeafnapiaaDoor.Rou
open Go.ChangeShapes Go.WideShapes Go.ChangeAt Go.RowKit Gf8 Aes By8 Cel Oni
/- A Chain as an argument: how large its nonces are. -/

set_option maxRecDepth 20000 in
theorem nons_readK {H : Type} {enc : TypeId × Value → H} {W : World} {fuel : Nat} {v : Value} {d : DataW H} {p : List MemPlace} (h : DataW.trod enc Tryd.prog W 0 (fun _ => true) true fuel 31 [v] = some (d, p))
    (hw : ∀ n ∈ d.weights Tryd.prog 31, n ≤ reachBytes) : ∃ n q, Nons W v n q ∧ n * 16 ≤ 140737488351232 ∧ ∀ l cc, v = .slice none l cc → cc = 0 := by
  have hr : reachBytes = 140737488351232 := rfl
  rcases Deep.open_slice Tryd.underlying31 h with ⟨hcs, _⟩ | ⟨a, len, cap, m, fu, D, Pl, hcs, _, hl, hm, hmm, hx, hel⟩
  · simp at hcs
    subst hcs
    exact ⟨0, fun _ _ => 0, ⟨⟨none, 0, rfl, Nat.le_refl _, by omega, fun h => by omega⟩, fun i h => by omega⟩, by omega, fun l cc e => by injection e with _ _ e; exact e.symm⟩
  · simp at hcs
    subst hcs
    simp only [Prod.mk.injEq] at hx
    obtain ⟨rfl, rfl⟩ := hx
    simp only [if_true] at hmm
    have hn : (len + (m - len)) * 16 ≤ reachBytes := by
      refine hw _ ?_
      simp only [DataW.weights, Tryd.underlying31, bytesA]
      exact List.mem_cons.2 (Or.inl (by simp))
    have each : ∀ i, i < len → ∃ q : Nat → Nat, By q ∧ ∀ j, j < 16 → W.cell? (a.add (i * 16 + j)) = some (.int .u8 (q j)) := by
      intro i hi
      obtain ⟨cs', h1, h2⟩ := hel i (by omega)
      rw [kA] at h1
      obtain ⟨_, hlen, hcell⟩ := World.cells?_some h1
      obtain ⟨f, hf, hc⟩ := cells_bytes Tryd.underlying40 Tryd.underlying5 (by kernel_rfl) (by kernel_rfl) (n := 16) hlen h2
      refine ⟨f, hf, fun j hj => ?_⟩
      have e0 := hcell j (by omega)
      rw [Deep.add_add] at e0
      have e1 := hc j hj
      rw [e0]
      exact e1
    obtain ⟨q, hq⟩ := Deep.choose_lt each
    refine ⟨len, q, ⟨⟨some a, cap, rfl, hl, by have h9 : cap ≤ maxLen := hm; unfold maxLen at h9; omega, fun hp => ?_⟩, fun i hi => (hq i hi).1⟩, by omega, fun l cc e => by injection e with e; cases e⟩
    obtain ⟨b, off, spot⟩ := a
    have hc0 := (hq 0 hp).2 0 (by omega)
    have hspot : spot = none := by simpa [Addr.add] using World.cell?_spot hc0
    subst hspot
    refine ⟨b, off, rfl, World.block_lt_of_cell? W _ hc0, fun i hi j hj => ?_⟩
    have h1 := (hq i hi).2 j hj
    rw [Go.WideShapes.add_plain, ← Nat.add_assoc] at h1
    exact h1
set_option maxRecDepth 20000 in
theorem chain_readK {H : Type} {enc : TypeId × Value → H} {W : World} {v : Value} {d : DataW H} {p : List MemPlace} (h : ∃ fuel, DataW.trod enc Tryd.prog W 0 (fun _ => true) true fuel 33 v.cells.toList = some (d, p))
    (hw : ∀ n ∈ d.weights Tryd.prog 33, n ≤ reachBytes) (hs : ∃ xs, v = .agg xs) :
    ∃ (vk vn vp : Value) (h hn n : Nat) (xv : Nat → Value) (lk : Nat → Nat) (key q : Nat → Nat → Nat) (pp : Nat → Nat), v = .agg (hC vk vn vp) ∧ Cells W vk h xv lk key ∧ Nons W vn hn q ∧ SliceZ W vp n pp ∧ h ≤ 140737488351232 ∧ hn * 16 ≤ 140737488351232 ∧ n ≤ 140737488351232 ∧ ∀ l cc, vn = .slice none l cc → cc = 0 := by
  obtain ⟨xs, rfl⟩ := hs
  obtain ⟨fuel, hf⟩ := h
  have hf' : DataW.trod enc Tryd.prog W 0 (fun _ => true) true fuel 33 xs.toList = some (d, p) := hf
  obtain ⟨z0, z1, z2, k', hz, hl3, u0, u1, u2⟩ := Deep.trod_struct3 Tryd.underlying33 hf'
  rw [kCh] at hl3
  have hd : d = .agg [z0.1, z1.1, z2.1] := by simpa using (Prod.mk.inj hz).1
  obtain ⟨cl, hcl⟩ : ∃ cl, xs.toList = cl := ⟨_, rfl⟩
  rw [hcl] at hl3 u0 u1 u2
  match cl, hl3 with
  | [c0, c1, c2], _ =>
    simp [kC, kN, kL] at u0 u1 u2
    obtain ⟨h, xv, lk, key, hc, hb⟩ := cells_read (d := z0.1) (p := z0.2) u0 (fun n hn => hw n (by
      rw [hd]
      simp only [DataW.weights, Tryd.underlying33]
      simp [DataW.weightsEach, hn]))
    obtain ⟨hn, q, hq, hqb, hqn⟩ := nons_readK (d := z1.1) (p := z1.2) u1 (fun n hn => hw n (by
      rw [hd]
      simp only [DataW.weights, Tryd.underlying33]
      simp [DataW.weightsEach, hn]))
    obtain ⟨l, pp, s, b, z⟩ := By8.bytes_readJ u2 (fun n hn => hw n (by
      rw [hd]
      simp only [DataW.weights, Tryd.underlying33]
      simp [DataW.weightsEach, hn]))
    refine ⟨c0, c1, c2, h, hn, l, xv, lk, key, q, pp, ?_, hc, hq, ⟨s, z⟩, hb, hqb, b, hqn⟩
    have : xs = #[c0, c1, c2] := by rw [← Array.toArray_toList (xs := xs), hcl]
    rw [this]
    rfl
end Go.Proofs.YtcffmmeafnapiaaDoor.Rou
