import Derived.Test.YtcgkelgncehekaaZ9a
import Derived.Test.YtcgkelgncehekaaY2
import Derived.Test.YtcgkelgncehekaaX2
import Derived.Test.YtcgkelgncehekaaE8p
import Derived.Lib.SmallJoins
namespace Go.Proofs.Ytcgkelgncehekaa.Drw
open Go.ChangeShapes Go.WideShapes Go.ChangeAt Go.RowKit Gf8 Aes By8 Cel Cf Tap
/- A []int as an argument. -/

theorem bytesI : Try.prog.bytesOf 3 = 8 := by kernel_rfl
/-- A []int that reads is one. -/
theorem ints_read {H : Type} {enc : TypeId × Value → H} {W : World} {v : Value} {d : DataW H} {p : List MemPlace} (h : ∃ fuel, DataW.trod enc Try.prog W 0 (fun _ => true) true fuel 23 v.cells.toList = some (d, p))
    (hw : ∀ n ∈ d.weights Try.prog 23, n ≤ reachBytes) (hs : ∃ a l c, v = .slice a l c) : ∃ (len : Nat) (f : Nat → Int), SliceI W v len f ∧ len ≤ 17592186043904 := by
  obtain ⟨a0, len0, cap0, rfl⟩ := hs
  obtain ⟨fuel, hf⟩ := h
  have hr : reachBytes = 140737488351232 := rfl
  rcases open_ints Try.underlying23 Try.underlying3 (by kernel_rfl) hf with ⟨hcs, _⟩ | ⟨x, l, c, zs, hcs, _, hl, hm, hz, hx, hcell, hwz⟩
  · simp [Value.cells] at hcs
    obtain ⟨rfl, rfl, rfl⟩ := hcs
    exact ⟨0, fun _ => 0, slice_nilI, by omega⟩
  · simp [Value.cells] at hcs
    obtain ⟨rfl, rfl, rfl⟩ := hcs
    simp only [Prod.mk.injEq] at hx
    obtain ⟨rfl, rfl⟩ := hx
    have hzl : zs.length = cap0 := by simpa using hz
    have hb : 8 * cap0 ≤ 140737488351232 := by
      have := hw _ (by simp only [DataW.weights, Try.underlying23]; exact List.mem_cons_self)
      rw [bytesI] at this
      simp only [lits, List.length_map, List.length_take, List.length_drop] at this
      omega
    have key : ∀ j, j < len0 → -9223372036854775808 ≤ zs.getD j 0 ∧ zs.getD j 0 < 9223372036854775808 := fun j hj => wf_i64 (hwz _ (by rw [List.getD_eq_getElem?_getD, List.getElem?_eq_getElem (by omega)]; exact List.getElem_mem _))
    refine ⟨len0, fun j => zs.getD j 0, ⟨⟨_, _, rfl, hl, by unfold maxLen; omega, fun h => ?_⟩, fun j hj => key j hj⟩, by omega⟩
    obtain ⟨b, off, rfl, hc⟩ := ints_at hcell (by omega)
    exact ⟨b, off, rfl, World.block_lt_of_cell? W _ (hc 0 (by omega)), fun j hj => hc j (by omega)⟩
end Go.Proofs.Ytcgkelgncehekaa.Drw

namespace Go.Proofs.Ytcgkelgncehekaa.Loo
open Go.ChangeShapes Go.WideShapes Go.ChangeAt Go.RowKit Gf8 Aes By8 Cel Cf Drw Prm
/- A Pipe as an argument. -/

set_option maxRecDepth 100000

theorem pipeCells : Try.prog.cellsOf 61 = 6 := by kernel_rfl
theorem ints_readJ {H : Type} {enc : TypeId × Value → H} {W : World} {v : Value} {y : DataW H × List MemPlace} {fuel : Nat} (hf : DataW.trod enc Try.prog W 0 (fun _ => true) true fuel 23 [v] = some y)
    (hw : ∀ n ∈ y.1.weights Try.prog 23, n ≤ reachBytes) : ∃ (len : Nat) (f : Nat → Int), SliceI W v len f ∧ len ≤ 17592186043904 := by
  have hs : ∃ a l c, v = .slice a l c := by
    rcases open_ints Try.underlying23 Try.underlying3 (by kernel_rfl) hf with ⟨hcs, _⟩ | ⟨x, l, c, zs, hcs, _⟩
    · exact ⟨_, _, _, by simpa using hcs⟩
    · exact ⟨_, _, _, by simpa using hcs⟩
  obtain ⟨a, l, c, rfl⟩ := hs
  exact ints_read (d := y.1) (p := y.2) ⟨fuel, hf⟩ hw ⟨_, _, _, rfl⟩
theorem trod_six {H : Type} {enc : TypeId × Value → H} {P : Program} {w : World} {base : Nat} {spare : Nat → Bool} {held : Bool} {t : TypeId} {f0 f1 f2 f3 f4 f5 : Field} {fuel : Nat} {cs : List Value} {x : DataW H × List MemPlace} (ht : P.underlying t = some (.struct #[f0, f1, f2, f3, f4, f5])) (h : DataW.trod enc P w base spare held fuel t cs = some x) :
    ∃ y0 y1 y2 y3 y4 y5 n, x.1 = .agg [y0.1, y1.1, y2.1, y3.1, y4.1, y5.1] ∧ cs.length = P.cellsOf t ∧ DataW.trod enc P w base spare held n f0.type ((cs.drop f0.offset).take (P.cellsOf f0.type)) = some y0 ∧
      DataW.trod enc P w base spare held n f1.type ((cs.drop f1.offset).take (P.cellsOf f1.type)) = some y1 ∧ DataW.trod enc P w base spare held n f2.type ((cs.drop f2.offset).take (P.cellsOf f2.type)) = some y2 ∧
      DataW.trod enc P w base spare held n f3.type ((cs.drop f3.offset).take (P.cellsOf f3.type)) = some y3 ∧ DataW.trod enc P w base spare held n f4.type ((cs.drop f4.offset).take (P.cellsOf f4.type)) = some y4 ∧
      DataW.trod enc P w base spare held n f5.type ((cs.drop f5.offset).take (P.cellsOf f5.type)) = some y5 := by
  obtain ⟨xs, n, _, rfl, hl, hlen, hf⟩ := DataW.trod_struct ht h
  match xs, hlen with
  | [y0, y1, y2, y3, y4, y5], _ => exact ⟨y0, y1, y2, y3, y4, y5, n, by simp, hl, by simpa using hf 0 f0 rfl, by simpa using hf 1 f1 rfl, by simpa using hf 2 f2 rfl, by simpa using hf 3 f3 rfl, by simpa using hf 4 f4 rfl, by simpa using hf 5 f5 rfl⟩
theorem pipe_read {H : Type} {enc : TypeId × Value → H} {W : World} {v : Value} {d : DataW H} {p : List MemPlace} (h : ∃ fuel, DataW.trod enc Try.prog W 0 (fun _ => true) true fuel 61 v.cells.toList = some (d, p))
    (hw : ∀ n ∈ d.weights Try.prog 61, n ≤ reachBytes) (hs : ∃ xs, v = .agg xs) :
    ∃ (a1 a2 a3 a4 a5 : Int) (u : Value) (l : Nat) (f : Nat → Int), v = .agg (piC a1 a2 a3 a4 a5 u) ∧ SliceI W u l f := by
  obtain ⟨xs, rfl⟩ := hs
  obtain ⟨fuel, hf⟩ := h
  obtain ⟨y0, y1, y2, y3, y4, y5, k, hD, hl, t0, t1, t2, t3, t4, t5⟩ := trod_six Try.underlying61 hf
  rw [pipeCells] at hl
  have hl2 : xs.toList.length = 6 := hl
  obtain ⟨l⟩ := xs
  match l, hl2 with
  | [v0, v1, v2, v3, v4, v5], _ =>
    have k2 : Try.prog.cellsOf 23 = 1 := by kernel_rfl
    have k3 : Try.prog.cellsOf 3 = 1 := by kernel_rfl
    have hc : (Value.agg ⟨[v0, v1, v2, v3, v4, v5]⟩).cells.toList = [v0, v1, v2, v3, v4, v5] := rfl
    rw [hc] at t0 t1 t2 t3 t4 t5
    simp [k2, k3] at t0 t1 t2 t3 t4 t5
    have hD2 : d = .agg [y0.1, y1.1, y2.1, y3.1, y4.1, y5.1] := hD
    have h5 : ∀ n ∈ y5.1.weights Try.prog 23, n ≤ reachBytes := fun n hn => hw n (by
      rw [hD2]
      simp only [DataW.weights, Try.underlying61]
      simp [DataW.weightsEach, hn])
    obtain ⟨a0, e0, _, _⟩ := DataW.trod_int Try.underlying3 t0
    obtain ⟨a1, e1, _, _⟩ := DataW.trod_int Try.underlying3 t1
    obtain ⟨a2, e2, _, _⟩ := DataW.trod_int Try.underlying3 t2
    obtain ⟨a3, e3, _, _⟩ := DataW.trod_int Try.underlying3 t3
    obtain ⟨a4, e4, _, _⟩ := DataW.trod_int Try.underlying3 t4
    obtain ⟨l0, f0, s0, _⟩ := ints_readJ t5 h5
    have e0' : v0 = .int .i64 a0 := by simpa using e0
    have e1' : v1 = .int .i64 a1 := by simpa using e1
    have e2' : v2 = .int .i64 a2 := by simpa using e2
    have e3' : v3 = .int .i64 a3 := by simpa using e3
    have e4' : v4 = .int .i64 a4 := by simpa using e4
    subst e0' e1' e2' e3' e4'
    exact ⟨a0, a1, a2, a3, a4, v5, l0, f0, rfl, s0⟩
theorem pipe_agg {W : World} {base : Nat} {v : Value} (h : Value.okWide Try.prog W .any base 61 v) : ∃ xs, v = .agg xs := by
  simp only [Value.okWide, Try.underlying61] at h
  obtain ⟨xs, e, _⟩ := h
  exact ⟨xs, e⟩
end Go.Proofs.Ytcgkelgncehekaa.Loo
