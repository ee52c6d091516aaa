import Derived.Test.YtdecmmcphcomhaaQ9q
import Derived.Test.YtdecmmcphcomhaaY2
import Derived.Test.YtdecmmcphcomhaaX2
import Derived.Test.YtdecmmcphcomhaaI9e
import Derived.Lib.SmallJoins
import Derived.Deep.SlicePairs
namespace Go.Proofs.Ytdecmmcphcomhaa.Brd
open Go.ChangeShapes Go.WideShapes Go.ChangeAt Go.RowKit Gf8 Aes By8 Cel Cf Tap Drw Prm
/- An Ask, and a []Ask, as an argument. -/

theorem askCells : Try.prog.cellsOf 35 = 4 := by kernel_rfl
theorem ints_readJ {H : Type} {enc : TypeId × Value → H} {W : World} {v : Value} {y : DataW H × List MemPlace} {fuel : Nat} (hf : DataW.trod enc Try.prog W 0 (fun _ => true) true fuel 23 [v] = some y)
    (hw : ∀ n ∈ y.1.weights Try.prog 23, n ≤ reachBytes) : ∃ (len : Nat) (f : Nat → Int), SliceI W v len f ∧ len ≤ 17592186043904 ∧ ∀ l c, v = .slice none l c → c = 0 := by
  have hs : ∃ a l c, v = .slice a l c := by
    rcases open_ints Try.underlying23 Try.underlying3 (by kernel_rfl) hf with ⟨hcs, _⟩ | ⟨x, l, c, zs, hcs, _⟩
    · exact ⟨_, _, _, by simpa using hcs⟩
    · exact ⟨_, _, _, by simpa using hcs⟩
  obtain ⟨a, l, c, rfl⟩ := hs
  exact ints_readZ (d := y.1) (p := y.2) ⟨fuel, hf⟩ hw ⟨_, _, _, rfl⟩
/-- An Ask that reads is one. -/
theorem ask_read {H : Type} {enc : TypeId × Value → H} {W : World} {v : Value} {d : DataW H} {p : List MemPlace} (h : ∃ fuel, DataW.trod enc Try.prog W 0 (fun _ => true) true fuel 35 v.cells.toList = some (d, p))
    (hw : ∀ n ∈ d.weights Try.prog 35, n ≤ reachBytes) (hs : ∃ xs, v = .agg xs) :
    ∃ (v0 v1 v2 v3 : Value) (l0 l1 l2 l3 : Nat) (f0 f1 f2 f3 : Nat → Int), v = .agg (akC v0 v1 v2 v3) ∧ (SliceI W v0 l0 f0 ∧ l0 ≤ 17592186043904) ∧ (SliceI W v1 l1 f1 ∧ l1 ≤ 17592186043904) ∧ (SliceI W v2 l2 f2 ∧ l2 ≤ 17592186043904) ∧ SliceI W v3 l3 f3 ∧ l3 ≤ 17592186043904 := by
  obtain ⟨xs, rfl⟩ := hs
  obtain ⟨fuel, hf⟩ := h
  obtain ⟨y0, y1, y2, y3, k, hy, hl, t0, t1, t2, t3⟩ := Go.Joins.trod_struct4 Try.underlying35 hf
  rw [askCells] at hl
  have hl2 : xs.toList.length = 4 := hl
  obtain ⟨l⟩ := xs
  match l, hl2 with
  | [v0, v1, v2, v3], _ =>
    have k1 : Try.prog.cellsOf 23 = 1 := by kernel_rfl
    have hc : (Value.agg ⟨[v0, v1, v2, v3]⟩).cells.toList = [v0, v1, v2, v3] := rfl
    rw [hc] at t0 t1 t2 t3
    simp [k1] at t0 t1 t2 t3
    have hD : d = .agg [y0.1, y1.1, y2.1, y3.1] := by simpa using (Prod.mk.inj hy).1
    have hh : ∀ y ∈ [y0, y1, y2, y3], ∀ n ∈ y.1.weights Try.prog 23, n ≤ reachBytes := fun y hy n hn => hw n (by
      rw [hD]
      simp only [DataW.weights, Try.underlying35]
      simp only [List.mem_cons, List.not_mem_nil, or_false] at hy
      rcases hy with rfl | rfl | rfl | rfl <;> simp [DataW.weightsEach, hn])
    obtain ⟨l0, f0, s0, b0, _⟩ := ints_readJ t0 (hh y0 (by simp))
    obtain ⟨l1, f1, s1, b1, _⟩ := ints_readJ t1 (hh y1 (by simp))
    obtain ⟨l2, f2, s2, b2, _⟩ := ints_readJ t2 (hh y2 (by simp))
    obtain ⟨l3, f3, s3, b3, _⟩ := ints_readJ t3 (hh y3 (by simp))
    exact ⟨v0, v1, v2, v3, l0, l1, l2, l3, f0, f1, f2, f3, rfl, ⟨s0, b0⟩, ⟨s1, b1⟩, ⟨s2, b2⟩, s3, b3⟩
theorem ask_agg {W : World} {base : Nat} {v : Value} (h : Value.okWide Try.prog W .any base 35 v) : ∃ xs, v = .agg xs := by
  simp only [Value.okWide, Try.underlying35] at h
  obtain ⟨xs, e, _⟩ := h
  exact ⟨xs, e⟩
end Go.Proofs.Ytdecmmcphcomhaa.Brd
