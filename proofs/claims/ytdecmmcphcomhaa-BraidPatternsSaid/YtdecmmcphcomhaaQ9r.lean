import Derived.Test.YtdecmmcphcomhaaQ9q
import Derived.Test.YtdecmmcphcomhaaY2
import Derived.Test.YtdecmmcphcomhaaX2
import Derived.Test.YtdecmmcphcomhaaI9e
import Derived.Lib.SmallJoins
import Derived.Deep.SlicePairs
namespace Go.Proofs.Ytdecmmcphcomhaa.Brd
open Go.ChangeShapes Go.WideShapes Go.ChangeAt Go.RowKit Gf8 Aes By8 Cel Cf Tap Drw Prm
/- An Ask, and a []Ask, as an argument. -/

theorem askBytes : Try.prog.bytesOf 35 = 96 := by kernel_rfl
theorem askCells : Try.prog.cellsOf 35 = 4 := by kernel_rfl
theorem ints_readJ {H : Type} {enc : TypeId × Value → H} {W : World} {v : Value} {y : DataW H × List MemPlace} {fuel : Nat} (hf : DataW.trod enc Try.prog W 0 (fun _ => true) true fuel 23 [v] = some y)
    (hw : ∀ n ∈ y.1.weights Try.prog 23, n ≤ reachBytes) : ∃ (len : Nat) (f : Nat → Int), SliceI W v len f ∧ len ≤ 17592186043904 ∧ ∀ l c, v = .slice none l c → c = 0 := by
  have hs : ∃ a l c, v = .slice a l c := by
    rcases open_ints Try.underlying23 Try.underlying3 (by kernel_rfl) hf with ⟨hcs, _⟩ | ⟨x, l, c, zs, hcs, _⟩
    · exact ⟨_, _, _, by simpa using hcs⟩
    · exact ⟨_, _, _, by simpa using hcs⟩
  obtain ⟨a, l, c, rfl⟩ := hs
  exact ints_readZ (d := y.1) (p := y.2) ⟨fuel, hf⟩ hw ⟨_, _, _, rfl⟩
theorem weightsAll_in {H : Type} {P : Program} {e : TypeId} : ∀ {ds : List (DataW H)} {d : DataW H}, d ∈ ds → ∀ n ∈ d.weights P e, n ∈ DataW.weightsAll P e ds
  | d0 :: ds, d, hd, n, hn => by
    simp only [DataW.weightsAll, List.mem_append]
    rcases List.mem_cons.1 hd with rfl | h
    · exact Or.inl hn
    · exact Or.inr (weightsAll_in h n hn)
  | [], _, hd, _, _ => by cases hd
/-- A list of Asks. -/
structure AskL (W : World) (v : Value) (n : Nat) (q : Nat → Nat → Value) (ln : Nat → Nat → Nat) (ff : Nat → Nat → Nat → Int) : Prop where
  shape : ∃ a cap, v = .slice a n cap ∧ (0 < n → ∃ b off, a = some ⟨b, off, none⟩ ∧ b < W.heap.size ∧ ∀ i, i < n → ∀ t, t < 4 → W.cell? ⟨b, off + i * 4 + t, none⟩ = some (q i t))
  lists : ∀ i, i < n → ∀ t, t < 4 → SliceI W (q i t) (ln i t) (ff i t) ∧ ln i t ≤ 17592186043904 ∧ ∀ l c, q i t = .slice none l c → c = 0
  size : n ≤ 17592186043904
theorem asks_read {H : Type} {enc : TypeId × Value → H} {W : World} {v : Value} {d : DataW H} {p : List MemPlace} (h : ∃ fuel, DataW.trod enc Try.prog W 0 (fun _ => true) true fuel 33 v.cells.toList = some (d, p))
    (hw : ∀ n ∈ d.weights Try.prog 33, n ≤ reachBytes) (hsl : ∃ a l c, v = .slice a l c) : ∃ n q ln ff, AskL W v n q ln ff := by
  obtain ⟨a0, len0, cap0, rfl⟩ := hsl
  obtain ⟨fuel, hf⟩ := h
  have hr : reachBytes = 140737488351232 := rfl
  rcases Deep.open_slice Try.underlying33 hf with ⟨hcs, _⟩ | ⟨a, len, cap, m, fu, D, Pl, hcs, _, hl, hm, hmm, hx, hel⟩
  · simp [Value.cells] at hcs
    obtain ⟨rfl, rfl, rfl⟩ := hcs
    exact ⟨0, fun _ _ => .slice none 0 0, fun _ _ => 0, fun _ _ _ => 0, ⟨⟨_, _, rfl, fun h => by omega⟩, fun i hi => by omega, by omega⟩⟩
  · simp [Value.cells] at hcs
    obtain ⟨rfl, rfl, rfl⟩ := hcs
    simp only [Prod.mk.injEq] at hx
    obtain ⟨rfl, rfl⟩ := hx
    simp only [if_true] at hmm
    have hn : (len0 + (m - len0)) * 96 ≤ reachBytes := by
      refine hw _ ?_
      simp only [DataW.weights, Try.underlying33, askBytes]
      exact List.mem_cons.2 (Or.inl (by simp))
    have each : ∀ i, i < len0 → ∃ q : (Nat → Value) × (Nat → Nat) × (Nat → Nat → Int), (∀ t, t < 4 → W.cell? (a.add (i * 4 + t)) = some (q.1 t)) ∧ ∀ t, t < 4 → SliceI W (q.1 t) (q.2.1 t) (q.2.2 t) ∧ q.2.1 t ≤ 17592186043904 ∧ ∀ l c, q.1 t = .slice none l c → c = 0 := by
      intro i hi
      obtain ⟨cs', h1, h2⟩ := hel i (by omega)
      rw [askCells] at h1
      obtain ⟨_, hlen, hcell⟩ := World.cells?_some h1
      obtain ⟨y0, y1, y2, y3, k, hy, _, t0, t1, t2, t3⟩ := Go.Joins.trod_struct4 Try.underlying35 h2
      match cs', hlen with
      | [v0, v1, v2, v3], _ =>
        have e0 := hcell 0 (by omega)
        have e1 := hcell 1 (by omega)
        have e2 := hcell 2 (by omega)
        have e3 := hcell 3 (by omega)
        rw [Deep.add_add] at e0 e1 e2 e3
        have k1 : Try.prog.cellsOf 23 = 1 := by kernel_rfl
        simp [k1] at t0 t1 t2 t3 e0 e1 e2 e3
        have hD : D i = .agg [y0.1, y1.1, y2.1, y3.1] := by simpa using (Prod.mk.inj hy).1
        have hh : ∀ y ∈ [y0, y1, y2, y3], ∀ n ∈ y.1.weights Try.prog 23, n ≤ reachBytes := fun y hy n hn => hw n (by
          simp only [DataW.weights, Try.underlying33]
          refine List.mem_cons_of_mem _ (List.mem_append_left _ (weightsAll_in (d := D i) (List.mem_map.2 ⟨i, List.mem_range.2 hi, rfl⟩) n ?_))
          rw [hD]
          simp only [DataW.weights, Try.underlying35]
          simp only [List.mem_cons, List.not_mem_nil, or_false] at hy
          rcases hy with rfl | rfl | rfl | rfl <;> simp [DataW.weightsEach, hn])
        obtain ⟨l0, f0, s0⟩ := ints_readJ t0 (hh y0 (by simp))
        obtain ⟨l1, f1, s1⟩ := ints_readJ t1 (hh y1 (by simp))
        obtain ⟨l2, f2, s2⟩ := ints_readJ t2 (hh y2 (by simp))
        obtain ⟨l3, f3, s3⟩ := ints_readJ t3 (hh y3 (by simp))
        refine ⟨(fun t => match t with | 0 => v0 | 1 => v1 | 2 => v2 | _ => v3, fun t => match t with | 0 => l0 | 1 => l1 | 2 => l2 | _ => l3, fun t => match t with | 0 => f0 | 1 => f1 | 2 => f2 | _ => f3), fun t ht => ?_, fun t ht => ?_⟩
        · match t, ht with
          | 0, _ => exact e0
          | 1, _ => exact e1
          | 2, _ => exact e2
          | 3, _ => exact e3
          | t + 4, h => omega
        · match t, ht with
          | 0, _ => exact s0
          | 1, _ => exact s1
          | 2, _ => exact s2
          | 3, _ => exact s3
          | t + 4, h => omega
    obtain ⟨q, hq⟩ := Deep.choose_lt each
    refine ⟨len0, fun i => (q i).1, fun i => (q i).2.1, fun i => (q i).2.2, ⟨⟨_, _, rfl, fun hp => ?_⟩, fun i hi => (hq i hi).2, by omega⟩⟩
    obtain ⟨b, off, spot⟩ := a
    have hc0 := (hq 0 hp).1 0 (by omega)
    have hspot : spot = none := by simpa [Addr.add] using World.cell?_spot hc0
    subst hspot
    refine ⟨b, off, rfl, World.block_lt_of_cell? W _ hc0, fun i hi t ht => ?_⟩
    have h1 := (hq i hi).1 t ht
    rw [Go.WideShapes.add_plain, ← Nat.add_assoc] at h1
    exact h1
end Go.Proofs.Ytdecmmcphcomhaa.Brd
