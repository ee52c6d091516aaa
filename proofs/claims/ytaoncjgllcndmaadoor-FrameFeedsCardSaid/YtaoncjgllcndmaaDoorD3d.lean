import Derived.Test.YtaoncjgllcndmaaDoorD3c
import Derived.Test.YtaoncjgllcndmaaDoorD1d
import Derived.Test.YtaoncjgllcndmaaDoorY2
import Derived.Deep.SlicePairs
import Derived.OpenShut
import Derived.ChangeOld
import Derived.SizedLaws
import Derived.Deep.DeepHandedRow
namespace Go.Proofs.YtaoncjgllcndmaaDoor.Frm
open Go.ChangeShapes Go.WideShapes Go.ChangeAt Go.RowKit Gf8 Aes By8 Cel
/- A [][]byte and a Batch as arguments. -/

theorem kL : Tryd.prog.cellsOf 30 = 1 := by kernel_rfl
theorem kLL : Tryd.prog.cellsOf 24 = 1 := by kernel_rfl
theorem kH : Tryd.prog.cellsOf 23 = 3 := by kernel_rfl
theorem kB : Tryd.prog.cellsOf 26 = 4 := by kernel_rfl
theorem bytesLL : Tryd.prog.bytesOf 30 = 24 := by kernel_rfl
theorem weightsAll_in {H : Type} {P : Program} {e : TypeId} : ∀ {ds : List (DataW H)} {d : DataW H}, d ∈ ds → ∀ n ∈ d.weights P e, n ∈ DataW.weightsAll P e ds
  | d0 :: ds, d, hd, n, hn => by
    simp only [DataW.weightsAll, List.mem_append]
    rcases List.mem_cons.1 hd with rfl | h
    · exact Or.inl hn
    · exact Or.inr (weightsAll_in h n hn)
  | [], _, hd, _, _ => by cases hd
/-- A [][]byte that reads is one. -/
theorem cells_read {H : Type} {enc : TypeId × Value → H} {W : World} {fuel : Nat} {v : Value} {d : DataW H} {p : List MemPlace} (h : DataW.trod enc Tryd.prog W 0 (fun _ => true) true fuel 24 [v] = some (d, p))
    (hw : ∀ n ∈ d.weights Tryd.prog 24, n ≤ reachBytes) : ∃ n xv ln c, Cells W v n xv ln c ∧ n ≤ 140737488351232 := by
  have hr : reachBytes = 140737488351232 := rfl
  rcases Deep.open_slice Tryd.underlying24 h with ⟨hcs, _⟩ | ⟨a, len, cap, m, fu, D, Pl, hcs, _, hl, hm, hmm, hx, hel⟩
  · simp at hcs
    subst hcs
    exact ⟨0, fun _ => undef, fun _ => 0, fun _ _ => 0, ⟨⟨none, 0, rfl, Nat.le_refl _, by omega, fun h => by omega⟩, fun i h => by omega, fun i h => by omega, fun i h => by omega⟩, by omega⟩
  · simp at hcs
    subst hcs
    simp only [Prod.mk.injEq] at hx
    obtain ⟨rfl, rfl⟩ := hx
    simp only [if_true] at hmm
    have hn : (len + (m - len)) * 24 ≤ reachBytes := by
      refine hw _ ?_
      simp only [DataW.weights, Tryd.underlying24, bytesLL]
      exact List.mem_cons.2 (Or.inl (by simp))
    have each : ∀ i, i < len → ∃ q : Value × Nat × (Nat → Nat), W.cell? (a.add i) = some q.1 ∧ SliceN W q.1 q.2.1 q.2.2 ∧ q.2.1 ≤ 140737488351232 ∧ ∀ l c, q.1 = .slice none l c → c = 0 := by
      intro i hi
      obtain ⟨cs', h1, h2⟩ := hel i (by omega)
      rw [kL, Nat.mul_one] at h1
      obtain ⟨_, hlen, hcell⟩ := World.cells?_some h1
      match cs', hlen with
      | [v0], _ =>
        have e0 := hcell 0 (by omega)
        rw [Deep.add_add] at e0
        simp at e0
        obtain ⟨pl, pp, s1, s2, s3⟩ := bytes_readJ h2 (fun n hn => hw n (by
          simp only [DataW.weights, Tryd.underlying24]
          exact List.mem_cons_of_mem _ (List.mem_append_left _ (weightsAll_in (d := D i) (List.mem_map.2 ⟨i, List.mem_range.2 hi, rfl⟩) n hn))))
        exact ⟨(v0, pl, pp), e0, s1, s2, s3⟩
    obtain ⟨q, hq⟩ := Deep.choose_lt each
    refine ⟨len, fun i => (q i).1, fun i => (q i).2.1, fun i => (q i).2.2, ⟨⟨some a, cap, rfl, hl, by have h9 : cap ≤ maxLen := hm; unfold maxLen at h9; omega, fun hp => ?_⟩, fun i hi => (hq i hi).2.1, fun i hi => (hq i hi).2.2.2, fun i hi => (hq i hi).2.2.1⟩, by omega⟩
    obtain ⟨b, off, spot⟩ := a
    have hc0 := (hq 0 hp).1
    have hspot : spot = none := by simpa [Addr.add] using World.cell?_spot hc0
    subst hspot
    refine ⟨b, off, rfl, World.block_lt_of_cell? W _ hc0, fun i hi => ?_⟩
    have h1 := (hq i hi).1
    rw [Go.WideShapes.add_plain] at h1
    exact h1
/-- A Batch that reads is one. -/
theorem batch_read {H : Type} {enc : TypeId × Value → H} {W : World} {v : Value} {d : DataW H} {p : List MemPlace} (h : ∃ fuel, DataW.trod enc Tryd.prog W 0 (fun _ => true) true fuel 26 v.cells.toList = some (d, p))
    (hw : ∀ n ∈ d.weights Tryd.prog 26, n ≤ reachBytes) (hs : ∃ xs, v = .agg xs) :
    ∃ rd ep lf n cv xv ln c, v = .agg (bC rd ep lf cv) ∧ Cells W cv n xv ln c ∧ n ≤ 140737488351232 := by
  obtain ⟨xs, rfl⟩ := hs
  obtain ⟨fuel, hf⟩ := h
  have hf' : DataW.trod enc Tryd.prog W 0 (fun _ => true) true fuel 26 xs.toList = some (d, p) := hf
  obtain ⟨ys, k, _, e, hl, hlen, hfl⟩ := DataW.trod_struct Tryd.underlying26 hf'
  rw [kB] at hl
  match ys, hlen with
  | [y0, y1], _ =>
    have t0 := hfl 0 _ rfl
    have t1 := hfl 1 _ rfl
    obtain ⟨l4⟩ : Nonempty (xs.toList.length = 4) := ⟨hl⟩
    have hd : d = .agg [y0.1, y1.1] := by simpa using (Prod.mk.inj e).1
    obtain ⟨cl, hcl⟩ : ∃ cl, xs.toList = cl := ⟨_, rfl⟩
    rw [hcl] at l4 t0 t1
    match cl, l4 with
    | [c0, c1, c2, c3], _ =>
      simp [kH, kLL] at t0 t1
      obtain ⟨z0, z1, z2, k', hz, hl3, u0, u1, u2⟩ := Deep.trod_struct3 Tryd.underlying23 t0
      simp [k2, k3] at u0 u1 u2
      obtain ⟨rd, e0, _⟩ := DataW.trod_int Tryd.underlying2 u0
      obtain ⟨ep, e1, _⟩ := DataW.trod_int Tryd.underlying2 u1
      obtain ⟨lf, e2, _⟩ := DataW.trod_int Tryd.underlying3 u2
      simp at e0 e1 e2
      obtain ⟨n, xv, ln, c, hc, hn⟩ := cells_read (d := y1.1) (p := y1.2) t1 (fun n hn => hw n (by
        rw [hd]
        simp only [DataW.weights, Tryd.underlying26]
        simp [DataW.weightsEach, hn]))
      refine ⟨rd, ep, lf, n, c3, xv, ln, c, ?_, hc, hn⟩
      have : xs = #[c0, c1, c2, c3] := by rw [← Array.toArray_toList (xs := xs), hcl]
      rw [this, e0, e1, e2]
      rfl
theorem cells_readW {H : Type} {enc : TypeId × Value → H} {W : World} {v : Value} {d : DataW H} {p : List MemPlace} (h : ∃ fuel, DataW.trod enc Tryd.prog W 0 (fun _ => true) true fuel 24 v.cells.toList = some (d, p))
    (hw : ∀ n ∈ d.weights Tryd.prog 24, n ≤ reachBytes) (hs : ∃ a l c, v = .slice a l c) : ∃ n xv ln c, Cells W v n xv ln c ∧ n ≤ 140737488351232 := by
  obtain ⟨a, l, c, rfl⟩ := hs
  obtain ⟨fuel, hf⟩ := h
  exact cells_read (d := d) (p := p) hf hw
theorem wfI64 {z : Int} (h : (Lit.int .i64 z).wf = true) : -9223372036854775808 ≤ z ∧ z < 9223372036854775808 := by
  have := bounds_i64 h
  omega
theorem wfU8 {z : Int} (h : (Lit.int .u8 z).wf = true) : ∃ k : Nat, z = k ∧ k < 256 := by
  have := bounds_u8 h
  exact ⟨z.toNat, by omega, by omega⟩
theorem batch_agg {W : World} {base : Nat} {v : Value} (h : Value.okWide Tryd.prog W .any base 26 v) : ∃ xs, v = .agg xs := by
  simp only [Value.okWide, Tryd.underlying26] at h
  obtain ⟨xs, e, _⟩ := h
  exact ⟨xs, e⟩
end Go.Proofs.YtaoncjgllcndmaaDoor.Frm
