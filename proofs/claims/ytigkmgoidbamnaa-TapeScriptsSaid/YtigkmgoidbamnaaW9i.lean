import Derived.Test.YtigkmgoidbamnaaW9h
import Derived.Test.YtigkmgoidbamnaaY2
import Derived.Test.YtigkmgoidbamnaaX2
import Derived.Lib.SmallJoins
import Derived.Deep.SlicePairs
namespace Go.Proofs.Ytigkmgoidbamnaa.Tap
open Go.ChangeShapes Go.WideShapes Go.ChangeAt Go.RowKit Gf8 Aes By8 Cel Cf
/- A []Step as an argument. -/

theorem stepBytes : Try.prog.bytesOf 32 = 48 := by kernel_rfl
theorem stepCells : Try.prog.cellsOf 32 = 4 := by kernel_rfl
theorem weightsAll_in {H : Type} {P : Program} {e : TypeId} : ∀ {ds : List (DataW H)} {d : DataW H}, d ∈ ds → ∀ n ∈ d.weights P e, n ∈ DataW.weightsAll P e ds
  | d0 :: ds, d, hd, n, hn => by
    simp only [DataW.weightsAll, List.mem_append]
    rcases List.mem_cons.1 hd with rfl | h
    · exact Or.inl hn
    · exact Or.inr (weightsAll_in h n hn)
  | [], _, hd, _, _ => by cases hd
theorem int_read9 {H : Type} {enc : TypeId × Value → H} {W : World} {v : Value} {y : DataW H × List MemPlace} {fuel : Nat} (h : DataW.trod enc Try.prog W 0 (fun _ => true) true fuel 3 [v] = some y) : ∃ n, v = .int .i64 n ∧ (Lit.int .i64 n).wf = true := by
  obtain ⟨n, hc, _, hw⟩ := DataW.trod_int Try.underlying3 h
  simp at hc
  exact ⟨n, hc, hw⟩
/-- A []Step that reads is a script. -/
theorem steps_read {H : Type} {enc : TypeId × Value → H} {W : World} {v : Value} {d : DataW H} {p : List MemPlace} (h : ∃ fuel, DataW.trod enc Try.prog W 0 (fun _ => true) true fuel 22 v.cells.toList = some (d, p))
    (hw : ∀ n ∈ d.weights Try.prog 22, n ≤ reachBytes) (hsl : ∃ a l c, v = .slice a l c) : ∃ n kd tt nn pv pl pp, Scr9 W v n kd tt nn pv pl pp := by
  obtain ⟨a0, len0, cap0, rfl⟩ := hsl
  obtain ⟨fuel, hf⟩ := h
  have hr : reachBytes = 140737488351232 := rfl
  rcases Deep.open_slice Try.underlying22 hf with ⟨hcs, _⟩ | ⟨a, len, cap, m, fu, D, Pl, hcs, _, hl, hm, hmm, hx, hel⟩
  · simp [Value.cells] at hcs
    obtain ⟨rfl, rfl, rfl⟩ := hcs
    exact ⟨0, fun _ => 0, fun _ => 0, fun _ => 0, fun _ => .slice none 0 0, fun _ => 0, fun _ _ => 0, ⟨⟨_, _, rfl, by omega, fun h => by omega⟩, fun i hi => by omega, fun i hi => by omega⟩⟩
  · simp [Value.cells] at hcs
    obtain ⟨rfl, rfl, rfl⟩ := hcs
    simp only [Prod.mk.injEq] at hx
    obtain ⟨rfl, rfl⟩ := hx
    simp only [if_true] at hmm
    have hn : (len0 + (m - len0)) * 48 ≤ reachBytes := by
      refine hw _ ?_
      simp only [DataW.weights, Try.underlying22, stepBytes]
      exact List.mem_cons.2 (Or.inl (by simp))
    have each : ∀ i, i < len0 → ∃ q : Int × Int × Int × Value × Nat × (Nat → Nat), W.cell? (a.add (i * 4)) = some (.int .i64 q.1) ∧ W.cell? (a.add (i * 4 + 1)) = some (.int .i64 q.2.1) ∧ W.cell? (a.add (i * 4 + 2)) = some (.int .i64 q.2.2.1) ∧ W.cell? (a.add (i * 4 + 3)) = some q.2.2.2.1 ∧ (Lit.int .i64 q.2.1).wf = true ∧ (Lit.int .i64 q.2.2.1).wf = true ∧ SliceN W q.2.2.2.1 q.2.2.2.2.1 q.2.2.2.2.2 ∧ q.2.2.2.2.1 ≤ 140737488351232 ∧ ∀ l c, q.2.2.2.1 = .slice none l c → c = 0 := by
      intro i hi
      obtain ⟨cs', h1, h2⟩ := hel i (by omega)
      rw [stepCells] at h1
      obtain ⟨_, hlen, hcell⟩ := World.cells?_some h1
      obtain ⟨y0, y1, y2, y3, k, hy, _, t0, t1, t2, t3⟩ := Go.Joins.trod_struct4 Try.underlying32 h2
      match cs', hlen with
      | [v0, v1, v2, v3], _ =>
        have e0 := hcell 0 (by omega)
        have e1 := hcell 1 (by omega)
        have e2 := hcell 2 (by omega)
        have e3 := hcell 3 (by omega)
        rw [Deep.add_add] at e0 e1 e2 e3
        have k3 : Try.prog.cellsOf 3 = 1 := by kernel_rfl
        have k33 : Try.prog.cellsOf 27 = 1 := by kernel_rfl
        simp [k3, k33] at t0 t1 t2 t3 e0 e1 e2 e3
        obtain ⟨z0, hz0, _⟩ := int_read9 t0
        obtain ⟨z1, hz1, w1⟩ := int_read9 t1
        obtain ⟨z2, hz2, w2⟩ := int_read9 t2
        have hD : D i = .agg [y0.1, y1.1, y2.1, y3.1] := by simpa using (Prod.mk.inj hy).1
        obtain ⟨pl, pp, s1, s2, s3⟩ := bytes_readJ t3 (fun n hn => hw n (by
          simp only [DataW.weights, Try.underlying22]
          refine List.mem_cons_of_mem _ (List.mem_append_left _ (weightsAll_in (d := D i) (List.mem_map.2 ⟨i, List.mem_range.2 hi, rfl⟩) n ?_))
          rw [hD]
          simp only [DataW.weights, Try.underlying32]
          simp [DataW.weightsEach, hn]))
        exact ⟨(z0, z1, z2, v3, pl, pp), by rw [e0, hz0], by rw [e1, hz1], by rw [e2, hz2], e3, w1, w2, s1, s2, s3⟩
    obtain ⟨q, hq⟩ := Deep.choose_lt each
    refine ⟨len0, fun i => (q i).1, fun i => (q i).2.1, fun i => (q i).2.2.1, fun i => (q i).2.2.2.1, fun i => (q i).2.2.2.2.1, fun i => (q i).2.2.2.2.2, ⟨⟨_, _, rfl, by omega, fun hp => ?_⟩, fun i hi => ⟨wf_i64 (hq i hi).2.2.2.2.1, wf_i64 (hq i hi).2.2.2.2.2.1⟩, fun i hi => (hq i hi).2.2.2.2.2.2⟩⟩
    obtain ⟨b, off, spot⟩ := a
    have hc0 := (hq 0 hp).1
    have hspot : spot = none := by simpa [Addr.add] using World.cell?_spot hc0
    subst hspot
    refine ⟨b, off, rfl, World.block_lt_of_cell? W _ hc0, fun i hi => ?_⟩
    obtain ⟨h1, h2, h3, h4, _⟩ := hq i hi
    rw [Go.WideShapes.add_plain] at h1 h2 h3 h4
    exact ⟨h1, by rw [← Nat.add_assoc] at h2; exact h2, by rw [← Nat.add_assoc] at h3; exact h3, by rw [← Nat.add_assoc] at h4; exact h4⟩
end Go.Proofs.Ytigkmgoidbamnaa.Tap
