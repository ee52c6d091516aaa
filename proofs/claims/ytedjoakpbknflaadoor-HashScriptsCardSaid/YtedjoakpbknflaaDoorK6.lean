import Derived.Test.YtedjoakpbknflaaDoorK3
namespace Go.Proofs.YtedjoakpbknflaaDoor
open Go.ChangeShapes Go.WideShapes Go.ChangeAt Go.RowKit

/-- A []byte in a field that reads is one. -/
theorem bytes_read1 {H : Type} {enc : TypeId × Value → H} {W : World} {v : Value} {y : DataW H × List MemPlace} {fuel : Nat} (h : DataW.trod enc Tryd.prog W 0 (fun _ => true) true fuel 33 [v] = some y)
    (hw : ∀ n ∈ y.1.weights Tryd.prog 33, n ≤ reachBytes) : ∃ (len : Nat) (f : Nat → Int), SliceB W v len f ∧ len ≤ 140737488351232 ∧ ∀ cap, v = .slice none len cap → cap = 0 := by
  have hs : ∃ a l c, v = .slice a l c := by
    rcases open_ints Tryd.underlying33 Tryd.underlying5 (by kernel_rfl) h with ⟨hcs, _⟩ | ⟨x, l, c, zs, hcs, _⟩
    · simp at hcs
      exact ⟨_, _, _, hcs⟩
    · simp at hcs
      exact ⟨_, _, _, hcs⟩
  obtain ⟨a, l, c, rfl⟩ := hs
  exact bytes_read (d := y.1) (p := y.2) ⟨fuel, h⟩ hw ⟨a, l, c, rfl⟩
theorem int_read1 {H : Type} {enc : TypeId × Value → H} {W : World} {v : Value} {y : DataW H × List MemPlace} {fuel : Nat} (h : DataW.trod enc Tryd.prog W 0 (fun _ => true) true fuel 3 [v] = some y) : ∃ n, v = .int .i64 n ∧ (Lit.int .i64 n).wf = true := by
  obtain ⟨n, hc, _, hw⟩ := DataW.trod_int Tryd.underlying3 h
  simp at hc
  exact ⟨n, hc, hw⟩
end Go.Proofs.YtedjoakpbknflaaDoor
