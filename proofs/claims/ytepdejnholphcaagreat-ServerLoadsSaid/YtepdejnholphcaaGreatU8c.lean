import Derived.Test.YtepdejnholphcaaGreatU8b
import Derived.Test.YtepdejnholphcaaGreatC9y
import Derived.Test.YtepdejnholphcaaGreatY2
import Derived.Lib.SmallJoins
namespace Go.Proofs.YtepdejnholphcaaGreat.Rnd
open Go.ChangeShapes Go.WideShapes Go.ChangeAt Go.RowKit Gf8 Aes By8 Cel Cf Win
/- A configuration, a state as arguments. Written by tools/mkU8c.py. -/

set_option maxRecDepth 100000

theorem csCg : Tryz.prog.cellsOf 24 = 11 := by kernel_rfl
theorem csSt : Tryz.prog.cellsOf 29 = 3 := by kernel_rfl
theorem csWd : Tryz.prog.cellsOf 27 = 2 := by kernel_rfl
theorem cs3r : Tryz.prog.cellsOf 3 = 1 := by kernel_rfl
theorem cs2r : Tryz.prog.cellsOf 2 = 1 := by kernel_rfl
theorem csBr : Tryz.prog.cellsOf 22 = 1 := by kernel_rfl
theorem trod_eleven {H : Type} {enc : TypeId × Value → H} {P : Program} {w : World} {base : Nat} {spare : Nat → Bool} {held : Bool} {t : TypeId} {f0 f1 f2 f3 f4 f5 f6 f7 f8 f9 f10 : Field} {fuel : Nat} {cs : List Value} {x : DataW H × List MemPlace} (ht : P.underlying t = some (.struct #[f0, f1, f2, f3, f4, f5, f6, f7, f8, f9, f10])) (h : DataW.trod enc P w base spare held fuel t cs = some x) :
    ∃ y0 y1 y2 y3 y4 y5 y6 y7 y8 y9 y10 n, x.1 = .agg [y0.1, y1.1, y2.1, y3.1, y4.1, y5.1, y6.1, y7.1, y8.1, y9.1, y10.1] ∧ cs.length = P.cellsOf t ∧ DataW.trod enc P w base spare held n f0.type ((cs.drop f0.offset).take (P.cellsOf f0.type)) = some y0 ∧ DataW.trod enc P w base spare held n f1.type ((cs.drop f1.offset).take (P.cellsOf f1.type)) = some y1 ∧ DataW.trod enc P w base spare held n f2.type ((cs.drop f2.offset).take (P.cellsOf f2.type)) = some y2 ∧ DataW.trod enc P w base spare held n f3.type ((cs.drop f3.offset).take (P.cellsOf f3.type)) = some y3 ∧ DataW.trod enc P w base spare held n f4.type ((cs.drop f4.offset).take (P.cellsOf f4.type)) = some y4 ∧ DataW.trod enc P w base spare held n f5.type ((cs.drop f5.offset).take (P.cellsOf f5.type)) = some y5 ∧ DataW.trod enc P w base spare held n f6.type ((cs.drop f6.offset).take (P.cellsOf f6.type)) = some y6 ∧ DataW.trod enc P w base spare held n f7.type ((cs.drop f7.offset).take (P.cellsOf f7.type)) = some y7 ∧ DataW.trod enc P w base spare held n f8.type ((cs.drop f8.offset).take (P.cellsOf f8.type)) = some y8 ∧ DataW.trod enc P w base spare held n f9.type ((cs.drop f9.offset).take (P.cellsOf f9.type)) = some y9 ∧ DataW.trod enc P w base spare held n f10.type ((cs.drop f10.offset).take (P.cellsOf f10.type)) = some y10 := by
  obtain ⟨xs, n, _, rfl, hl, hlen, hf⟩ := DataW.trod_struct ht h
  match xs, hlen with
  | [y0, y1, y2, y3, y4, y5, y6, y7, y8, y9, y10], _ => exact ⟨y0, y1, y2, y3, y4, y5, y6, y7, y8, y9, y10, n, by simp, hl, by simpa using hf 0 f0 rfl, by simpa using hf 1 f1 rfl, by simpa using hf 2 f2 rfl, by simpa using hf 3 f3 rfl, by simpa using hf 4 f4 rfl, by simpa using hf 5 f5 rfl, by simpa using hf 6 f6 rfl, by simpa using hf 7 f7 rfl, by simpa using hf 8 f8 rfl, by simpa using hf 9 f9 rfl, by simpa using hf 10 f10 rfl⟩
/-- All a configuration's numbers fit. -/
def CgI (q : Cg) : Prop := I64 q.l ∧ I64 q.s ∧ I64 q.r ∧ I64 q.u ∧ I64 q.d ∧ I64 q.o ∧ I64 q.c ∧ I64 q.w ∧ I64 q.k ∧ I64 q.h
theorem cfg_readJ {H : Type} {enc : TypeId × Value → H} {W : World} {v0 v1 v2 v3 v4 v5 v6 v7 v8 v9 v10 : Value} {y : DataW H × List MemPlace} {fuel : Nat} (h : DataW.trod enc Tryz.prog W 0 (fun _ => true) true fuel 24 [v0, v1, v2, v3, v4, v5, v6, v7, v8, v9, v10] = some y)
    (hw : ∀ n ∈ y.1.weights Tryz.prog 24, n ≤ reachBytes) : ∃ q m f, [v0, v1, v2, v3, v4, v5, v6, v7, v8, v9, v10] = (cfC v0 q).toList ∧ CgI q ∧ SliceN W v0 m f ∧ m ≤ 140737488351232 ∧ ∀ l c, v0 = .slice none l c → c = 0 := by
  obtain ⟨y0, y1, y2, y3, y4, y5, y6, y7, y8, y9, y10, k, hD, _, t0, t1, t2, t3, t4, t5, t6, t7, t8, t9, t10⟩ := trod_eleven Tryz.underlying24 h
  simp [cs3r, csBr] at t0 t1 t2 t3 t4 t5 t6 t7 t8 t9 t10
  obtain ⟨m, f, s, b, z⟩ := bytes_readJ t0 (fun n hn => hw n (by
    rw [hD]
    simp only [DataW.weights, Tryz.underlying24]
    simp [DataW.weightsEach, hn]))
  obtain ⟨a1, e1, _, w1⟩ := DataW.trod_int Tryz.underlying3 t1
  have e1 : v1 = .int .i64 a1 := by simpa using e1
  subst e1
  obtain ⟨a2, e2, _, w2⟩ := DataW.trod_int Tryz.underlying3 t2
  have e2 : v2 = .int .i64 a2 := by simpa using e2
  subst e2
  obtain ⟨a3, e3, _, w3⟩ := DataW.trod_int Tryz.underlying3 t3
  have e3 : v3 = .int .i64 a3 := by simpa using e3
  subst e3
  obtain ⟨a4, e4, _, w4⟩ := DataW.trod_int Tryz.underlying3 t4
  have e4 : v4 = .int .i64 a4 := by simpa using e4
  subst e4
  obtain ⟨a5, e5, _, w5⟩ := DataW.trod_int Tryz.underlying3 t5
  have e5 : v5 = .int .i64 a5 := by simpa using e5
  subst e5
  obtain ⟨a6, e6, _, w6⟩ := DataW.trod_int Tryz.underlying3 t6
  have e6 : v6 = .int .i64 a6 := by simpa using e6
  subst e6
  obtain ⟨a7, e7, _, w7⟩ := DataW.trod_int Tryz.underlying3 t7
  have e7 : v7 = .int .i64 a7 := by simpa using e7
  subst e7
  obtain ⟨a8, e8, _, w8⟩ := DataW.trod_int Tryz.underlying3 t8
  have e8 : v8 = .int .i64 a8 := by simpa using e8
  subst e8
  obtain ⟨a9, e9, _, w9⟩ := DataW.trod_int Tryz.underlying3 t9
  have e9 : v9 = .int .i64 a9 := by simpa using e9
  subst e9
  obtain ⟨a10, e10, _, w10⟩ := DataW.trod_int Tryz.underlying3 t10
  have e10 : v10 = .int .i64 a10 := by simpa using e10
  subst e10
  exact ⟨⟨a1, a2, a3, a4, a5, a6, a7, a8, a9, a10⟩, m, f, rfl, ⟨wf_i64 w1, wf_i64 w2, wf_i64 w3, wf_i64 w4, wf_i64 w5, wf_i64 w6, wf_i64 w7, wf_i64 w8, wf_i64 w9, wf_i64 w10⟩, s, b, z⟩
theorem cfg_read {H : Type} {enc : TypeId × Value → H} {W : World} {v : Value} {d : DataW H} {p : List MemPlace} (h : ∃ fuel, DataW.trod enc Tryz.prog W 0 (fun _ => true) true fuel 24 v.cells.toList = some (d, p))
    (hw : ∀ n ∈ d.weights Tryz.prog 24, n ≤ reachBytes) (hs : ∃ xs, v = .agg xs) : ∃ mv q m f, v = .agg (cfC mv q) ∧ CgI q ∧ SliceN W mv m f ∧ m ≤ 140737488351232 ∧ ∀ l c, mv = .slice none l c → c = 0 := by
  obtain ⟨xs, rfl⟩ := hs
  obtain ⟨fuel, hf⟩ := h
  obtain ⟨_, _, _, _, _, _, _, _, _, _, _, _, _, hl, _⟩ := trod_eleven Tryz.underlying24 hf
  rw [csCg] at hl
  have hl2 : xs.toList.length = 11 := hl
  obtain ⟨l⟩ := xs
  match l, hl2 with
  | [v0, v1, v2, v3, v4, v5, v6, v7, v8, v9, v10], _ =>
    obtain ⟨q, m, f, e, r⟩ := cfg_readJ hf hw
    exact ⟨v0, q, m, f, congrArg (fun l : List Value => Value.agg ⟨l⟩) e, r⟩
theorem st_readJ {H : Type} {enc : TypeId × Value → H} {W : World} {v0 v1 v2 : Value} {y : DataW H × List MemPlace} {fuel : Nat} (h : DataW.trod enc Tryz.prog W 0 (fun _ => true) true fuel 29 [v0, v1, v2] = some y)
    (hw : ∀ n ∈ y.1.weights Tryz.prog 29, n ≤ reachBytes) : ∃ nx nw n nu tw ln t, v0 = .int .i64 nx ∧ v1 = .int .i64 nw ∧ I64 nx ∧ Wd W nw v2 n nu tw ln t := by
  obtain ⟨y0, y1, k, hy, _, t0, t1⟩ := trod_two Tryz.underlying29 h
  simp [cs2r, csWd] at t0 t1
  obtain ⟨z, ez, _, wz⟩ := DataW.trod_int Tryz.underlying2 t0
  have ez' : v0 = .int .i64 z := by simpa using ez
  subst ez'
  have hD : y.1 = .agg [y0.1, y1.1] := hy
  obtain ⟨nw, n, nu, tw, ln, t, e, q⟩ := win_readJ t1 (fun n hn => hw n (by
    rw [hD]
    simp only [DataW.weights, Tryz.underlying29]
    simp [DataW.weightsEach, hn]))
  exact ⟨z, nw, n, nu, tw, ln, t, rfl, e, wf_i64 wz, q⟩
theorem st_read {H : Type} {enc : TypeId × Value → H} {W : World} {v : Value} {d : DataW H} {p : List MemPlace} (h : ∃ fuel, DataW.trod enc Tryz.prog W 0 (fun _ => true) true fuel 29 v.cells.toList = some (d, p))
    (hw : ∀ n ∈ d.weights Tryz.prog 29, n ≤ reachBytes) (hs : ∃ xs, v = .agg xs) : ∃ nx nw ev n nu tw ln t, v = .agg (sC nx nw ev) ∧ I64 nx ∧ Wd W nw ev n nu tw ln t := by
  obtain ⟨xs, rfl⟩ := hs
  obtain ⟨fuel, hf⟩ := h
  obtain ⟨_, _, _, _, hl, _, _⟩ := trod_two Tryz.underlying29 hf
  rw [csSt] at hl
  have hl2 : xs.toList.length = 3 := hl
  obtain ⟨l⟩ := xs
  match l, hl2 with
  | [v0, v1, v2], _ =>
    obtain ⟨nx, nw, n, nu, tw, ln, t, rfl, rfl, q⟩ := st_readJ hf hw
    exact ⟨nx, nw, v2, n, nu, tw, ln, t, rfl, q⟩
end Go.Proofs.YtepdejnholphcaaGreat.Rnd
