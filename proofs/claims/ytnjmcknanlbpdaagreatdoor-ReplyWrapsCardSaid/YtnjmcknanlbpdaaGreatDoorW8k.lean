import Derived.Test.YtnjmcknanlbpdaaGreatDoorB7k
import Derived.Test.YtnjmcknanlbpdaaGreatDoorW8d
import Derived.ChangeSame
namespace Go.Proofs.YtnjmcknanlbpdaaGreatDoor.Rpl
open Go.ChangeShapes Go.WideShapes Go.ChangeAt Go.RowKit Gf8 Aes By8 Cel Oni Rou
/- Stage 27: nonces and an Inner as arguments. Written by tools/mkW8k.py. -/

theorem kI27 : Tryz.prog.cellsOf 25 = 2 := by kernel_rfl
theorem kInt : Tryz.prog.cellsOf 3 = 1 := by kernel_rfl
set_option maxRecDepth 20000 in
theorem inner_read {H : Type} {enc : TypeId × Value → H} {W : World} {v : Value} {d : DataW H} {p : List MemPlace} (h : ∃ fuel, DataW.trod enc Tryz.prog W 0 (fun _ => true) true fuel 25 v.cells.toList = some (d, p))
    (hw : ∀ n ∈ d.weights Tryz.prog 25, n ≤ reachBytes) (hs : ∃ xs, v = .agg xs) :
    ∃ (left : Int) (vp : Value) (n : Nat) (pp : Nat → Nat), v = .agg #[.int .i64 left, vp] ∧ SliceZ W vp n pp ∧ n ≤ 140737488351232 := by
  obtain ⟨xs, rfl⟩ := hs
  obtain ⟨fuel, hf⟩ := h
  have hf' : DataW.trod enc Tryz.prog W 0 (fun _ => true) true fuel 25 xs.toList = some (d, p) := hf
  obtain ⟨z0, z1, k', hz, hl2, u0, u1⟩ := trod_struct2 Tryz.underlying25 hf'
  rw [kI27] at hl2
  have hd : d = .agg [z0.1, z1.1] := by simpa using (Prod.mk.inj hz).1
  obtain ⟨cl, hcl⟩ : ∃ cl, xs.toList = cl := ⟨_, rfl⟩
  rw [hcl] at hl2 u0 u1
  match cl, hl2 with
  | [c0, c1], _ =>
    simp [kInt, kL] at u0 u1
    obtain ⟨a, ea, _, _⟩ := DataW.trod_int Tryz.underlying3 u0
    obtain ⟨l, pp, s, b, z⟩ := By8.bytes_readJ u1 (fun n hn => hw n (by
      rw [hd]
      simp only [DataW.weights, Tryz.underlying25]
      simp [DataW.weightsEach, hn]))
    have e0 : c0 = .int .i64 a := by simpa using ea
    refine ⟨a, c1, l, pp, ?_, ⟨s, z⟩, b⟩
    have : xs = #[c0, c1] := by rw [← Array.toArray_toList (xs := xs), hcl]
    rw [this, e0]
set_option maxRecDepth 20000 in
theorem inner_agg {W : World} {base : Nat} {v : Value} (h : Value.okWide Tryz.prog W .any base 25 v) : ∃ xs, v = .agg xs := by
  simp only [Value.okWide, Tryz.underlying25] at h
  obtain ⟨xs, e, _⟩ := h
  exact ⟨xs, e⟩
end Go.Proofs.YtnjmcknanlbpdaaGreatDoor.Rpl
