import Derived.Test.YtialghojibjknaaP8i
import Derived.Test.YtialghojibjknaaL9b
import Derived.Test.YtialghojibjknaaY2
import Derived.Test.YtialghojibjknaaX2
import Derived.SliceStrings
import Derived.Lib.SmallJoins
import Derived.Deep.Slices
import Derived.Deep.SlicePairs
namespace Go.Proofs.Ytialghojibjknaa.Duc
open Go.ChangeShapes Go.WideShapes Go.ChangeAt Go.RowKit Gf8 Aes By8 Cel Cf Win Drw
/- A script of steps, a []string as an argument. -/

set_option maxRecDepth 100000

theorem trod_three {H : Type} {enc : TypeId × Value → H} {P : Program} {w : World} {base : Nat} {spare : Nat → Bool} {held : Bool} {t : TypeId} {f0 f1 f2 : Field} {fuel : Nat} {cs : List Value} {x : DataW H × List MemPlace} (ht : P.underlying t = some (.struct #[f0, f1, f2])) (h : DataW.trod enc P w base spare held fuel t cs = some x) :
    ∃ y0 y1 y2 n, cs.length = P.cellsOf t ∧ DataW.trod enc P w base spare held n f0.type ((cs.drop f0.offset).take (P.cellsOf f0.type)) = some y0 ∧ DataW.trod enc P w base spare held n f1.type ((cs.drop f1.offset).take (P.cellsOf f1.type)) = some y1 ∧ DataW.trod enc P w base spare held n f2.type ((cs.drop f2.offset).take (P.cellsOf f2.type)) = some y2 := by
  obtain ⟨xs, n, _, rfl, hl, hlen, hf⟩ := DataW.trod_struct ht h
  match xs, hlen with
  | [y0, y1, y2], _ => exact ⟨y0, y1, y2, n, hl, by simpa using hf 0 f0 rfl, by simpa using hf 1 f1 rfl, by simpa using hf 2 f2 rfl⟩
theorem csX8 : Try.prog.cellsOf 34 = 3 := by kernel_rfl
theorem byX8 : Try.prog.bytesOf 34 = 24 := by kernel_rfl
theorem cs38 : Try.prog.cellsOf 3 = 1 := by kernel_rfl
theorem take18 {cs : List Value} {k : Nat} {v : Value} (h : (cs.drop k).take 1 = [v]) : cs[k]? = some v := by
  have : ((cs.drop k).take 1)[0]? = some v := by rw [h]; rfl
  rw [List.getElem?_take_of_lt (by omega), List.getElem?_drop] at this
  exact this
/-- A script that reads is one. -/
theorem steps18_read {H : Type} {enc : TypeId × Value → H} {W : World} {v : Value} {d : DataW H} {p : List MemPlace} (h : ∃ fuel, DataW.trod enc Try.prog W 0 (fun _ => true) true fuel 22 v.cells.toList = some (d, p))
    (hw : ∀ n ∈ d.weights Try.prog 22, n ≤ reachBytes) (hsl : ∃ a l c, v = .slice a l c) : ∃ n kd wh ix, Sp3 W v n kd wh ix ∧ n ≤ 17592186044416 := by
  obtain ⟨a0, len0, cap0, rfl⟩ := hsl
  obtain ⟨fuel, hf⟩ := h
  have hr : reachBytes = 140737488351232 := rfl
  rcases Deep.open_slice Try.underlying22 hf with ⟨hcs, _⟩ | ⟨a, len, cap, m, fu, D, Pl, hcs, _, hl, hm, hmm, hx, hel⟩
  · simp [Value.cells] at hcs
    obtain ⟨rfl, rfl, rfl⟩ := hcs
    exact ⟨0, fun _ => 0, fun _ => 0, fun _ => 0, ⟨⟨_, _, rfl, fun h => absurd h (Nat.lt_irrefl _)⟩, fun j hj => absurd hj (Nat.not_lt_zero j)⟩, by omega⟩
  · simp [Value.cells] at hcs
    obtain ⟨rfl, rfl, rfl⟩ := hcs
    simp only [Prod.mk.injEq] at hx
    obtain ⟨rfl, rfl⟩ := hx
    simp only [if_true] at hmm
    have hn : (len0 + (m - len0)) * 24 ≤ reachBytes := by
      refine hw _ ?_
      simp only [DataW.weights, Try.underlying22, byX8]
      exact List.mem_cons.2 (Or.inl (by simp))
    have each : ∀ i, i < len0 → ∃ q : Int × Int × Int, (∀ j u, (xL q.1 q.2.1 q.2.2)[j]? = some u → W.cell? (a.add (i * 3 + j)) = some u) ∧ I64 q.2.1 ∧ I64 q.2.2 := by
      intro i hi
      obtain ⟨cs', h1, h2⟩ := hel i (by omega)
      rw [csX8] at h1
      obtain ⟨_, hlen, hcell⟩ := World.cells?_some h1
      obtain ⟨y0, y1, y2, k, _, t0, t1, t2⟩ := trod_three Try.underlying34 h2
      simp only [cs38] at t0 t1 t2
      obtain ⟨z0, e0, _, _⟩ := DataW.trod_int Try.underlying3 t0
      obtain ⟨z1, e1, _, w1⟩ := DataW.trod_int Try.underlying3 t1
      obtain ⟨z2, e2, _, w2⟩ := DataW.trod_int Try.underlying3 t2
      have c0 := take18 e0
      have c1 := take18 e1
      have c2 := take18 e2
      refine ⟨(z0, z1, z2), fun j u hu => ?_, wf_i64 w1, wf_i64 w2⟩
      have hcs : j < 3 ∧ cs'[j]? = some u := by
        match j, hu with
        | 0, hu => exact ⟨by omega, c0.trans hu⟩
        | 1, hu => exact ⟨by omega, c1.trans hu⟩
        | 2, hu => exact ⟨by omega, c2.trans hu⟩
        | j + 3, hu => cases hu
      have e := hcell j (by omega)
      rw [Deep.add_add] at e
      exact e.trans hcs.2
    obtain ⟨q, hq⟩ := Deep.choose_lt each
    refine ⟨len0, fun i => (q i).1, fun i => (q i).2.1, fun i => (q i).2.2, ⟨⟨_, _, rfl, fun hp => ?_⟩, fun i hi => (hq i hi).2⟩, by omega⟩
    obtain ⟨b, off, spot⟩ := a
    have hc0 := (hq 0 hp).1 0 _ rfl
    have hspot : spot = none := by simpa [Addr.add] using World.cell?_spot hc0
    subst hspot
    refine ⟨b, off, rfl, World.block_lt_of_cell? W _ hc0, fun i hi j u hu => ?_⟩
    have h1 := (hq i hi).1 j u hu
    rw [Go.WideShapes.add_plain, ← Nat.add_assoc] at h1
    exact h1
end Go.Proofs.Ytialghojibjknaa.Duc
