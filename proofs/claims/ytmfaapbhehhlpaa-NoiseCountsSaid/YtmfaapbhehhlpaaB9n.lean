import Derived.Test.YtmfaapbhehhlpaaB9e
import Derived.Test.YtmfaapbhehhlpaaY2
import Derived.Lib.SmallJoins
namespace Go.Proofs.Ytmfaapbhehhlpaa.Noi
open Go.ChangeShapes Go.WideShapes Go.ChangeAt Go.RowKit Gf8 Aes By8 Cel Cf Tap Drw Prm Brd
/- An Ask of churnlaw15 as an argument. -/

set_option maxRecDepth 100000

theorem ask15Cells : Try.prog.cellsOf 33 = 6 := by kernel_rfl
theorem trod_six {H : Type} {enc : TypeId × Value → H} {P : Program} {w : World} {base : Nat} {spare : Nat → Bool} {held : Bool} {t : TypeId} {f0 f1 f2 f3 f4 f5 : Field} {fuel : Nat} {cs : List Value} {x : DataW H × List MemPlace} (ht : P.underlying t = some (.struct #[f0, f1, f2, f3, f4, f5])) (h : DataW.trod enc P w base spare held fuel t cs = some x) :
    ∃ y0 y1 y2 y3 y4 y5 n, x.1 = .agg [y0.1, y1.1, y2.1, y3.1, y4.1, y5.1] ∧ cs.length = P.cellsOf t ∧ DataW.trod enc P w base spare held n f0.type ((cs.drop f0.offset).take (P.cellsOf f0.type)) = some y0 ∧
      DataW.trod enc P w base spare held n f1.type ((cs.drop f1.offset).take (P.cellsOf f1.type)) = some y1 ∧ DataW.trod enc P w base spare held n f2.type ((cs.drop f2.offset).take (P.cellsOf f2.type)) = some y2 ∧
      DataW.trod enc P w base spare held n f3.type ((cs.drop f3.offset).take (P.cellsOf f3.type)) = some y3 ∧ DataW.trod enc P w base spare held n f4.type ((cs.drop f4.offset).take (P.cellsOf f4.type)) = some y4 ∧
      DataW.trod enc P w base spare held n f5.type ((cs.drop f5.offset).take (P.cellsOf f5.type)) = some y5 := by
  obtain ⟨xs, n, _, rfl, hl, hlen, hf⟩ := DataW.trod_struct ht h
  match xs, hlen with
  | [y0, y1, y2, y3, y4, y5], _ => exact ⟨y0, y1, y2, y3, y4, y5, n, by simp, hl, by simpa using hf 0 f0 rfl, by simpa using hf 1 f1 rfl, by simpa using hf 2 f2 rfl, by simpa using hf 3 f3 rfl, by simpa using hf 4 f4 rfl, by simpa using hf 5 f5 rfl⟩
theorem ask15_read {H : Type} {enc : TypeId × Value → H} {W : World} {v : Value} {d : DataW H} {p : List MemPlace} (h : ∃ fuel, DataW.trod enc Try.prog W 0 (fun _ => true) true fuel 33 v.cells.toList = some (d, p))
    (hw : ∀ n ∈ d.weights Try.prog 33, n ≤ reachBytes) (hs : ∃ xs, v = .agg xs) :
    ∃ (v0 : Value) (na nd nm nc nl : Int) (l : Nat) (f : Nat → Nat), v = .agg (anC v0 na nd nm nc nl) ∧ SliceN W v0 l f ∧ l ≤ 140737488351232 ∧ (∀ l c, v0 = .slice none l c → c = 0) ∧ I64 na ∧ I64 nd ∧ I64 nm ∧ I64 nc ∧ I64 nl := by
  obtain ⟨xs, rfl⟩ := hs
  obtain ⟨fuel, hf⟩ := h
  obtain ⟨y0, y1, y2, y3, y4, y5, k, hD, hl, t0, t1, t2, t3, t4, t5⟩ := trod_six Try.underlying33 hf
  rw [ask15Cells] at hl
  have hl2 : xs.toList.length = 6 := hl
  obtain ⟨l⟩ := xs
  match l, hl2 with
  | [v0, v1, v2, v3, v4, v5], _ =>
    have k2 : Try.prog.cellsOf 31 = 1 := by kernel_rfl
    have k3 : Try.prog.cellsOf 3 = 1 := by kernel_rfl
    have hc : (Value.agg ⟨[v0, v1, v2, v3, v4, v5]⟩).cells.toList = [v0, v1, v2, v3, v4, v5] := rfl
    rw [hc] at t0 t1 t2 t3 t4 t5
    simp [k2, k3] at t0 t1 t2 t3 t4 t5
    have hD2 : d = .agg [y0.1, y1.1, y2.1, y3.1, y4.1, y5.1] := hD
    have h0 : ∀ n ∈ y0.1.weights Try.prog 31, n ≤ reachBytes := fun n hn => hw n (by
      rw [hD2]
      simp only [DataW.weights, Try.underlying33]
      simp [DataW.weightsEach, hn])
    obtain ⟨a1, e1, _, w1⟩ := DataW.trod_int Try.underlying3 t1
    obtain ⟨a2, e2, _, w2⟩ := DataW.trod_int Try.underlying3 t2
    obtain ⟨a3, e3, _, w3⟩ := DataW.trod_int Try.underlying3 t3
    obtain ⟨a4, e4, _, w4⟩ := DataW.trod_int Try.underlying3 t4
    obtain ⟨a5, e5, _, w5⟩ := DataW.trod_int Try.underlying3 t5
    obtain ⟨l0, f0, s0, b0, z0⟩ := bytes_readJ t0 h0
    have e1' : v1 = .int .i64 a1 := by simpa using e1
    have e2' : v2 = .int .i64 a2 := by simpa using e2
    have e3' : v3 = .int .i64 a3 := by simpa using e3
    have e4' : v4 = .int .i64 a4 := by simpa using e4
    have e5' : v5 = .int .i64 a5 := by simpa using e5
    subst e1' e2' e3' e4' e5'
    exact ⟨v0, a1, a2, a3, a4, a5, l0, f0, rfl, s0, b0, z0, wf_i64 w1, wf_i64 w2, wf_i64 w3, wf_i64 w4, wf_i64 w5⟩
theorem ask15_agg {W : World} {base : Nat} {v : Value} (h : Value.okWide Try.prog W .any base 33 v) : ∃ xs, v = .agg xs := by
  simp only [Value.okWide, Try.underlying33] at h
  obtain ⟨xs, e, _⟩ := h
  exact ⟨xs, e⟩
end Go.Proofs.Ytmfaapbhehhlpaa.Noi
