import Derived.Test.YteekoabgbjbabaaGreatDoorB7k
import Derived.Test.YteekoabgbjbabaaGreatDoorW8b
namespace Go.Proofs.YteekoabgbjbabaaGreatDoor.Rpl
open Go.ChangeShapes Go.WideShapes Go.ChangeAt Go.RowKit Gf8 Aes By8 Cel Oni Rou
/- Stage 27: a Job as an argument. Written by tools/mkW8j.py. -/

theorem kJ27 : Tryz.prog.cellsOf 26 = 3 := by kernel_rfl
set_option maxRecDepth 20000 in
theorem job27_read {H : Type} {enc : TypeId × Value → H} {W : World} {v : Value} {d : DataW H} {p : List MemPlace} (h : ∃ fuel, DataW.trod enc Tryz.prog W 0 (fun _ => true) true fuel 26 v.cells.toList = some (d, p))
    (hw : ∀ n ∈ d.weights Tryz.prog 26, n ≤ reachBytes) (hs : ∃ xs, v = .agg xs) :
    ∃ (vk vn vp : Value) (h hn n : Nat) (xv : Nat → Value) (lk : Nat → Nat) (key q : Nat → Nat → Nat) (pp : Nat → Nat), v = .agg #[vk, vn, vp] ∧ Cells W vk h xv lk key ∧ Nons W vn hn q ∧ SliceZ W vp n pp ∧ h ≤ 140737488351232 ∧ hn ≤ 140737488351232 ∧ n ≤ 140737488351232 := by
  obtain ⟨xs, rfl⟩ := hs
  obtain ⟨fuel, hf⟩ := h
  have hf' : DataW.trod enc Tryz.prog W 0 (fun _ => true) true fuel 26 xs.toList = some (d, p) := hf
  obtain ⟨z0, z1, z2, k', hz, hl3, u0, u1, u2⟩ := Deep.trod_struct3 Tryz.underlying26 hf'
  rw [kJ27] at hl3
  have hd : d = .agg [z0.1, z1.1, z2.1] := by simpa using (Prod.mk.inj hz).1
  obtain ⟨cl, hcl⟩ : ∃ cl, xs.toList = cl := ⟨_, rfl⟩
  rw [hcl] at hl3 u0 u1 u2
  match cl, hl3 with
  | [c0, c1, c2], _ =>
    simp [kC, kN, kL] at u0 u1 u2
    obtain ⟨h, xv, lk, key, hc, hb⟩ := cells_read (d := z0.1) (p := z0.2) u0 (fun n hn => hw n (by
      rw [hd]
      simp only [DataW.weights, Tryz.underlying26]
      simp [DataW.weightsEach, hn]))
    obtain ⟨hn, q, hq, hqb⟩ := nons_read (d := z1.1) (p := z1.2) u1 (fun n hn => hw n (by
      rw [hd]
      simp only [DataW.weights, Tryz.underlying26]
      simp [DataW.weightsEach, hn]))
    obtain ⟨l, pp, s, b, z⟩ := By8.bytes_readJ u2 (fun n hn => hw n (by
      rw [hd]
      simp only [DataW.weights, Tryz.underlying26]
      simp [DataW.weightsEach, hn]))
    refine ⟨c0, c1, c2, h, hn, l, xv, lk, key, q, pp, ?_, hc, hq, ⟨s, z⟩, hb, hqb, b⟩
    have : xs = #[c0, c1, c2] := by rw [← Array.toArray_toList (xs := xs), hcl]
    rw [this]
set_option maxRecDepth 20000 in
theorem job27_agg {W : World} {base : Nat} {v : Value} (h : Value.okWide Tryz.prog W .any base 26 v) : ∃ xs, v = .agg xs := by
  simp only [Value.okWide, Tryz.underlying26] at h
  obtain ⟨xs, e, _⟩ := h
  exact ⟨xs, e⟩
end Go.Proofs.YteekoabgbjbabaaGreatDoor.Rpl
