import Derived.Test.YthmlfglllhmimaaGreatDoorC8e
import Derived.Test.YthmlfglllhmimaaGreatDoorV8l
import Derived.Test.YthmlfglllhmimaaGreatDoorB7k
namespace Go.Proofs.YthmlfglllhmimaaGreatDoor.Cas
open Go.ChangeShapes Go.WideShapes Go.ChangeAt Go.RowKit Gf8 Aes By8 Cel Cf Tap Drw Dro Oni Rou
/- Stage 25: a Header as an argument. -/

theorem kH25 : Tryz.prog.cellsOf 23 = 3 := by kernel_rfl
theorem k2h : Tryz.prog.cellsOf 2 = 1 := by kernel_rfl
theorem k3h : Tryz.prog.cellsOf 3 = 1 := by kernel_rfl
set_option maxRecDepth 20000 in
theorem hd_read {H : Type} {enc : TypeId × Value → H} {W : World} {v : Value} {d : DataW H} {p : List MemPlace} (h : ∃ fuel, DataW.trod enc Tryz.prog W 0 (fun _ => true) true fuel 23 v.cells.toList = some (d, p)) (hs : ∃ xs, v = .agg xs) :
    ∃ rd ep lf : Int, v = .agg (Frm.hC rd ep lf) := by
  obtain ⟨xs, rfl⟩ := hs
  obtain ⟨fuel, hf⟩ := h
  have hf' : DataW.trod enc Tryz.prog W 0 (fun _ => true) true fuel 23 xs.toList = some (d, p) := hf
  obtain ⟨z0, z1, z2, k', hz, hl3, u0, u1, u2⟩ := Deep.trod_struct3 Tryz.underlying23 hf'
  rw [kH25] at hl3
  obtain ⟨cl, hcl⟩ : ∃ cl, xs.toList = cl := ⟨_, rfl⟩
  rw [hcl] at hl3 u0 u1 u2
  match cl, hl3 with
  | [c0, c1, c2], _ =>
    simp [k2h, k3h] at u0 u1 u2
    obtain ⟨a0, e0, _, _⟩ := DataW.trod_int Tryz.underlying2 u0
    obtain ⟨a1, e1, _, _⟩ := DataW.trod_int Tryz.underlying2 u1
    obtain ⟨a2, e2, _, _⟩ := DataW.trod_int Tryz.underlying3 u2
    have e0 : c0 = .int .i64 a0 := by simpa using e0
    have e1 : c1 = .int .i64 a1 := by simpa using e1
    have e2 : c2 = .int .i64 a2 := by simpa using e2
    subst e0 e1 e2
    refine ⟨a0, a1, a2, ?_⟩
    have : xs = #[.int .i64 a0, .int .i64 a1, .int .i64 a2] := by rw [← Array.toArray_toList (xs := xs), hcl]
    rw [this]
    rfl
set_option maxRecDepth 20000 in
theorem hd_agg {W : World} {base : Nat} {v : Value} (h : Value.okWide Tryz.prog W .any base 23 v) : ∃ xs, v = .agg xs := by
  simp only [Value.okWide, Tryz.underlying23] at h
  obtain ⟨xs, e, _⟩ := h
  exact ⟨xs, e⟩
end Go.Proofs.YthmlfglllhmimaaGreatDoor.Cas
