import Derived.Test.YtejhbfbnljioeaaGreatDoorU8h
import Derived.Test.YtejhbfbnljioeaaGreatDoorU8c
namespace Go.Proofs.YtejhbfbnljioeaaGreatDoor.Rnd
open Go.ChangeShapes Go.WideShapes Go.ChangeAt Go.RowKit Gf8 Aes By8 Cel Cf Win
/- The laws' Batch as an argument. -/

set_option maxRecDepth 100000

theorem csJb : Tryz.prog.cellsOf 34 = 17 := by kernel_rfl
theorem csBt : Tryz.prog.cellsOf 32 = 4 := by kernel_rfl
theorem csHd : Tryz.prog.cellsOf 29 = 3 := by kernel_rfl
theorem csLL : Tryz.prog.cellsOf 30 = 1 := by kernel_rfl
theorem trod_three {H : Type} {enc : TypeId × Value → H} {P : Program} {w : World} {base : Nat} {spare : Nat → Bool} {held : Bool} {t : TypeId} {f0 f1 f2 : Field} {fuel : Nat} {cs : List Value} {x : DataW H × List MemPlace} (ht : P.underlying t = some (.struct #[f0, f1, f2])) (h : DataW.trod enc P w base spare held fuel t cs = some x) :
    ∃ y0 y1 y2 n, x.1 = .agg [y0.1, y1.1, y2.1] ∧ cs.length = P.cellsOf t ∧ DataW.trod enc P w base spare held n f0.type ((cs.drop f0.offset).take (P.cellsOf f0.type)) = some y0 ∧ DataW.trod enc P w base spare held n f1.type ((cs.drop f1.offset).take (P.cellsOf f1.type)) = some y1 ∧ DataW.trod enc P w base spare held n f2.type ((cs.drop f2.offset).take (P.cellsOf f2.type)) = some y2 := by
  obtain ⟨xs, n, _, rfl, hl, hlen, hf⟩ := DataW.trod_struct ht h
  match xs, hlen with
  | [y0, y1, y2], _ => exact ⟨y0, y1, y2, n, by simp, hl, by simpa using hf 0 f0 rfl, by simpa using hf 1 f1 rfl, by simpa using hf 2 f2 rfl⟩
theorem hd_readJ {H : Type} {enc : TypeId × Value → H} {W : World} {v0 v1 v2 : Value} {y : DataW H × List MemPlace} {fuel : Nat} (h : DataW.trod enc Tryz.prog W 0 (fun _ => true) true fuel 29 [v0, v1, v2] = some y) : ∃ ro ep le, v0 = .int .i64 ro ∧ v1 = .int .i64 ep ∧ v2 = .int .i64 le := by
  obtain ⟨y0, y1, y2, k, _, _, t0, t1, t2⟩ := trod_three Tryz.underlying29 h
  simp [cs2r, cs3r] at t0 t1 t2
  obtain ⟨a0, e0, _, _⟩ := DataW.trod_int Tryz.underlying2 t0
  obtain ⟨a1, e1, _, _⟩ := DataW.trod_int Tryz.underlying2 t1
  obtain ⟨a2, e2, _, _⟩ := DataW.trod_int Tryz.underlying3 t2
  exact ⟨a0, a1, a2, by simpa using e0, by simpa using e1, by simpa using e2⟩
theorem bt_readJ {H : Type} {enc : TypeId × Value → H} {W : World} {v0 v1 v2 v3 : Value} {y : DataW H × List MemPlace} {fuel : Nat} (h : DataW.trod enc Tryz.prog W 0 (fun _ => true) true fuel 32 [v0, v1, v2, v3] = some y)
    (hw : ∀ n ∈ y.1.weights Tryz.prog 32, n ≤ reachBytes) : ∃ ro ep le n xv ln c, v0 = .int .i64 ro ∧ v1 = .int .i64 ep ∧ v2 = .int .i64 le ∧ Oni.Cells W v3 n xv ln c := by
  obtain ⟨y0, y1, k, hy, _, t0, t1⟩ := trod_two Tryz.underlying32 h
  simp [csHd, csLL] at t0 t1
  obtain ⟨ro, ep, le, e0, e1, e2⟩ := hd_readJ t0
  have hD : y.1 = .agg [y0.1, y1.1] := hy
  obtain ⟨n, xv, ln, c, hc, _⟩ := Oni.cells_read (d := y1.1) (p := y1.2) t1 (fun n hn => hw n (by
    rw [hD]
    simp only [DataW.weights, Tryz.underlying32]
    simp [DataW.weightsEach, hn]))
  exact ⟨ro, ep, le, n, xv, ln, c, e0, e1, e2, hc⟩
theorem jb_read {H : Type} {enc : TypeId × Value → H} {W : World} {v : Value} {d : DataW H} {p : List MemPlace} (h : ∃ fuel, DataW.trod enc Tryz.prog W 0 (fun _ => true) true fuel 34 v.cells.toList = some (d, p))
    (hw : ∀ n ∈ d.weights Tryz.prog 34, n ≤ reachBytes) (hs : ∃ xs, v = .agg xs) : ∃ mv q m f nw ev wn nu tw lw t ro ep le cvv n xv ln c, v = .agg (jC mv q nw ev ro ep le cvv) ∧ SliceN W mv m f ∧ Wd W nw ev wn nu tw lw t ∧ Oni.Cells W cvv n xv ln c := by
  obtain ⟨xs, rfl⟩ := hs
  obtain ⟨fuel, hf⟩ := h
  obtain ⟨y0, y1, y2, k, hD, hl, t0, t1, t2⟩ := trod_three Tryz.underlying34 hf
  rw [csJb] at hl
  have hl2 : xs.toList.length = 17 := hl
  obtain ⟨l⟩ := xs
  match l, hl2 with
  | [v0, v1, v2, v3, v4, v5, v6, v7, v8, v9, v10, v11, v12, v13, v14, v15, v16], _ =>
    have hc : (Value.agg ⟨[v0, v1, v2, v3, v4, v5, v6, v7, v8, v9, v10, v11, v12, v13, v14, v15, v16]⟩).cells.toList = [v0, v1, v2, v3, v4, v5, v6, v7, v8, v9, v10, v11, v12, v13, v14, v15, v16] := rfl
    rw [hc] at t0 t1 t2
    simp [csCg, csWd, csBt] at t0 t1 t2
    have hD2 : d = .agg [y0.1, y1.1, y2.1] := hD
    obtain ⟨q, m, f, e, _, s, _, _⟩ := cfg_readJ t0 (fun n hn => hw n (by
      rw [hD2]
      simp only [DataW.weights, Tryz.underlying34]
      simp [DataW.weightsEach, hn]))
    obtain ⟨nw, wn, nu, tw, lw, t, e11, hWd⟩ := win_readJ t1 (fun n hn => hw n (by
      rw [hD2]
      simp only [DataW.weights, Tryz.underlying34]
      simp [DataW.weightsEach, hn]))
    obtain ⟨ro, ep, le, n, xv, ln, c, e13, e14, e15, hC⟩ := bt_readJ t2 (fun n hn => hw n (by
      rw [hD2]
      simp only [DataW.weights, Tryz.underlying34]
      simp [DataW.weightsEach, hn]))
    subst e11 e13 e14 e15
    simp only [cfC, List.cons.injEq, and_true, true_and] at e
    obtain ⟨rfl, rfl, rfl, rfl, rfl, rfl, rfl, rfl, rfl, rfl⟩ := e
    exact ⟨v0, q, m, f, nw, v12, wn, nu, tw, lw, t, ro, ep, le, v16, n, xv, ln, c, rfl, s, hWd, hC⟩
end Go.Proofs.YtejhbfbnljioeaaGreatDoor.Rnd
