import Derived.Test.YtcibogmghagpoaaV8b
import Derived.Test.YtcibogmghagpoaaY2
import Derived.Deep.SlicePairs
import Derived.OpenShut
import Derived.ChangeOld
import Derived.SizedLaws
import Derived.Deep.DeepHandedRow
namespace Go.Proofs.Ytcibogmghagpoaa.Dro
open Go.ChangeShapes Go.WideShapes Go.ChangeAt Go.RowKit Gf8 Aes By8 Cel
/- A [][]byte as an argument (as X6n has it). -/

theorem bytesLL : Try.prog.bytesOf 23 = 24 := by kernel_rfl
theorem kL : Try.prog.cellsOf 23 = 1 := by kernel_rfl
theorem weightsAll_in {H : Type} {P : Program} {e : TypeId} : ∀ {ds : List (DataW H)} {d : DataW H}, d ∈ ds → ∀ n ∈ d.weights P e, n ∈ DataW.weightsAll P e ds
  | d0 :: ds, d, hd, n, hn => by
    simp only [DataW.weightsAll, List.mem_append]
    rcases List.mem_cons.1 hd with rfl | h
    · exact Or.inl hn
    · exact Or.inr (weightsAll_in h n hn)
  | [], _, hd, _, _ => by cases hd
set_option maxRecDepth 20000 in
/-- A [][]byte that reads is one. -/
theorem cells_read24 {H : Type} {enc : TypeId × Value → H} {W : World} {fuel : Nat} {v : Value} {d : DataW H} {p : List MemPlace} (h : DataW.trod enc Try.prog W 0 (fun _ => true) true fuel 29 [v] = some (d, p))
    (hw : ∀ n ∈ d.weights Try.prog 29, n ≤ reachBytes) : ∃ n xv ln c, Ls W v n xv ln c ∧ n * 24 ≤ 140737488351232 := by
  have hr : reachBytes = 140737488351232 := rfl
  rcases Deep.open_slice Try.underlying29 h with ⟨hcs, _⟩ | ⟨a, len, cap, m, fu, D, Pl, hcs, _, hl, hm, hmm, hx, hel⟩
  · simp at hcs
    subst hcs
    exact ⟨0, fun _ => undef, fun _ => 0, fun _ _ => 0, ⟨⟨none, 0, rfl, Nat.le_refl _, by omega, fun h => by omega⟩, fun i h => by omega, fun i h => by omega, fun i h => by omega⟩, by omega⟩
  · simp at hcs
    subst hcs
    simp only [Prod.mk.injEq] at hx
    obtain ⟨rfl, rfl⟩ := hx
    simp only [if_true] at hmm
    have hn : (len + (m - len)) * 24 ≤ reachBytes := by
      refine hw _ ?_
      simp only [DataW.weights, Try.underlying29, bytesLL]
      exact List.mem_cons.2 (Or.inl (by simp))
    have each : ∀ i, i < len → ∃ q : Value × Nat × (Nat → Nat), W.cell? (a.add i) = some q.1 ∧ SliceN W q.1 q.2.1 q.2.2 ∧ q.2.1 ≤ 140737488351232 ∧ ∀ l c, q.1 = .slice none l c → c = 0 := by
      intro i hi
      obtain ⟨cs', h1, h2⟩ := hel i (by omega)
      rw [kL, Nat.mul_one] at h1
      obtain ⟨_, hlen, hcell⟩ := World.cells?_some h1
      match cs', hlen with
      | [v0], _ =>
        have e0 := hcell 0 (by omega)
        rw [Deep.add_add] at e0
        simp at e0
        obtain ⟨pl, pp, s1, s2, s3⟩ := bytes_readJ h2 (fun n hn => hw n (by
          simp only [DataW.weights, Try.underlying29]
          exact List.mem_cons_of_mem _ (List.mem_append_left _ (weightsAll_in (d := D i) (List.mem_map.2 ⟨i, List.mem_range.2 hi, rfl⟩) n hn))))
        exact ⟨(v0, pl, pp), e0, s1, s2, s3⟩
    obtain ⟨q, hq⟩ := Deep.choose_lt each
    refine ⟨len, fun i => (q i).1, fun i => (q i).2.1, fun i => (q i).2.2, ⟨⟨some a, cap, rfl, hl, by have h9 : cap ≤ maxLen := hm; unfold maxLen at h9; omega, fun hp => ?_⟩, fun i hi => (hq i hi).2.1, fun i hi => (hq i hi).2.2.2, fun i hi => (hq i hi).2.2.1⟩, by omega⟩
    obtain ⟨b, off, spot⟩ := a
    have hc0 := (hq 0 hp).1
    have hspot : spot = none := by simpa [Addr.add] using World.cell?_spot hc0
    subst hspot
    refine ⟨b, off, rfl, World.block_lt_of_cell? W _ hc0, fun i hi => ?_⟩
    have h1 := (hq i hi).1
    rw [Go.WideShapes.add_plain] at h1
    exact h1
theorem cells_read {H : Type} {enc : TypeId × Value → H} {W : World} {fuel : Nat} {v : Value} {d : DataW H} {p : List MemPlace} (h : DataW.trod enc Try.prog W 0 (fun _ => true) true fuel 29 [v] = some (d, p))
    (hw : ∀ n ∈ d.weights Try.prog 29, n ≤ reachBytes) : ∃ n xv ln c, Ls W v n xv ln c ∧ n ≤ 140737488351232 := by
  obtain ⟨n, xv, ln, c, h1, h2⟩ := cells_read24 h hw
  exact ⟨n, xv, ln, c, h1, by omega⟩
theorem cells_readW {H : Type} {enc : TypeId × Value → H} {W : World} {v : Value} {d : DataW H} {p : List MemPlace} (h : ∃ fuel, DataW.trod enc Try.prog W 0 (fun _ => true) true fuel 29 v.cells.toList = some (d, p))
    (hw : ∀ n ∈ d.weights Try.prog 29, n ≤ reachBytes) (hs : ∃ a l c, v = .slice a l c) : ∃ n xv ln c, Ls W v n xv ln c ∧ n ≤ 140737488351232 := by
  obtain ⟨a, l, c, rfl⟩ := hs
  obtain ⟨fuel, hf⟩ := h
  exact cells_read (d := d) (p := p) hf hw
end Go.Proofs.Ytcibogmghagpoaa.Dro
