import Derived.Test.YtedjoakpbknflaaDoorH1
namespace Go.Proofs.YtedjoakpbknflaaDoor
namespace Hs
open Go.RowKit

/-- A script. -/
structure Scr (w : World) (v : Value) (n : Nat) (fr : Nat → Int) (ask : Nat → Bool) (pv : Nat → Value) (pl : Nat → Nat) (pp : Nat → Nat → Int) : Prop where
  shape : ∃ a cap, v = .slice a n cap ∧ n < 1152921504606846976 ∧ (0 < n → ∃ b off, a = some ⟨b, off, none⟩ ∧ b < w.heap.size ∧ ∀ i, i < n → w.cell? ⟨b, off + i * 3, none⟩ = some (.int .i64 (fr i)) ∧ w.cell? ⟨b, off + i * 3 + 1, none⟩ = some (.bool (ask i)) ∧ w.cell? ⟨b, off + i * 3 + 2, none⟩ = some (pv i))
  fits : ∀ i, i < n → IntKind.i64.wrap (fr i) = fr i
  each : ∀ i, i < n → SliceB w (pv i) (pl i) (pp i)
  nils : ∀ i, i < n → ∀ cap, pv i = .slice none (pl i) cap → cap = 0
  small : ∀ i, i < n → pl i ≤ 140737488351232

/-- The hash of a book. -/
def hB (P : Nat → Nat → Int) (Ls : Nat → Nat) (i : Nat) : HS := addN HS.new (P i) (Ls i)
theorem ok_hB {P : Nat → Nat → Int} {Ls : Nat → Nat} {i : Nat} (h : ∀ j, j < Ls i → 0 ≤ P i j ∧ P i j < 256) : (hB P Ls i).ok := ok_addN ok_new h
theorem hB_n (P : Nat → Nat → Int) (Ls : Nat → Nat) (i : Nat) : (hB P Ls i).n = Ls i := by unfold hB; rw [addN_n]; simp [HS.new]
/-- What goes through the script's loop. -/
structure St (w W : World) (v3 v4 : Value) (N : Nat) (P : Nat → Nat → Int) (Ls : Nat → Nat) (bv : Nat → Value) : Prop where
  one : 1 ≤ N
  most : N ≤ 301
  hs : W.ownsRow w.heap.size 27 73 v3 N (hL (hB P Ls) N)
  bs : W.ownsRow w.heap.size 33 1 v4 N (bL bv N)
  bk : ∀ i, i < N → Bk W (bv i) (Ls i) (P i) ∧ Ls i ≤ 150000000000000
  bel : Below w.heap.size w W

section
variable {o : Oper} {a : Act} {w : World}
theorem execIdxH {x i : Operand} {g n cap k : Nat} (ho : o.op = .indexAddr 38 x i) (hx : a.eval x = .slice (some ⟨g, 0, none⟩) n cap) (hi : a.eval i = .int .i64 (k : Int)) (hk : k < n) : (execOp a.eval o).run Tryd.prog w = .ok (.value (.pointer (some ⟨g, k * 73, none⟩))) w := by
  have h1 : (k : Int) < n := by omega
  unfold execOp
  simp only [ho, hx, hi]
  simp [go_sem, h1]
theorem execIdxB {x i : Operand} {g n cap k : Nat} (ho : o.op = .indexAddr 35 x i) (hx : a.eval x = .slice (some ⟨g, 0, none⟩) n cap) (hi : a.eval i = .int .i64 (k : Int)) (hk : k < n) : (execOp a.eval o).run Tryd.prog w = .ok (.value (.pointer (some ⟨g, k, none⟩))) w := by
  have h1 : (k : Int) < n := by omega
  unfold execOp
  simp only [ho, hx, hi]
  simp [go_sem, h1]
theorem execLoadH {x : Operand} {b f : Nat} {s : HS} (ho : o.op = .load 27 x) (hx : a.eval x = .pointer (some ⟨b, f, none⟩)) (hc : w.rangeAt b f s.cells.toList) : (execOp a.eval o).run Tryd.prog w = .ok (.value (.agg s.cells)) w := by
  have h := run_loadVar_mid (P := Tryd.prog) w b f 27 s.cells.toList _ hc Tryd.underlying27 rfl (by rw [hs_len]; kernel_rfl)
  unfold execOp
  simp only [ho, hx, Instr.loadAt, Instr.sureAddr, Sem.run_bind, Sem.run_pure, Result.andThen_ok, h, Array.toArray_toList]
end
theorem range_h {W : World} {g n k : Nat} {S : Nat → HS} (h : ∀ j u, (hL S n)[j]? = some u → W.cell? ⟨g, j, none⟩ = some u) (hk : k < n) : W.rangeAt g (k * 73) (S k).cells.toList := by
  intro j v hv
  have hj : j < 73 := by have := (List.getElem?_eq_some_iff.1 hv).1; rwa [hs_len] at this
  exact h _ _ (by rw [hL_get S n k j hk hj]; exact hv)

theorem fillH (s : HS) : Instr.fill (fun i => some (i * 73, 73)) ((Array.range (1 * 73)).map ((HS.new.cells)[· % (HS.new.cells).size]!)) [(0, .agg s.cells)] = some s.cells := by
  obtain ⟨g, r, n⟩ := s
  kernel_rfl
theorem run_bsH (s : HS) (W : World) : (Instr.buildSlice 38 1 #[(0, .agg s.cells)]).run Tryd.prog W = .ok (.slice (some ⟨W.heap.size, 0, none⟩) 1 1) (W.alloc (.cells s.cells 27)) := by
  obtain ⟨i, h1, h2, h3, h4⟩ := info27
  have hz : (zeroValue 27).run Tryd.prog W = .ok (.agg HS.new.cells) W := zero27 W
  have hs : (sizeOf 27).run Tryd.prog W = .ok 73 W := by simp [sizeOf, typeInfo, h1, h3]
  have hf := fillH s
  simp only [Instr.buildSlice, Sem.run_bind, run_underlying Tryd.underlying38, Result.andThen_ok, hs]
  rw [if_neg (by decide), if_neg (by decide)]
  simp only [Sem.run_bind, Sem.run_pure, Result.andThen_ok, hz, Value.cells, hf]
  simp [newRow]
theorem wpList_bsH {ops : Array Oper} {rest : List Oper} {o : Oper} {a : Act} {w : World} {Q : Exit → Act → World → Prop} {s : HS} (hgd : o.guard = none) (x : Operand) (ho : o.op = .buildSlice 38 1 #[(0, x)]) (hx : a.eval x = .agg s.cells)
    (h : wpList Tryd.prog ops Q rest (a.put o.dst (.slice (some ⟨w.heap.size, 0, none⟩) 1 1)) (w.alloc (.cells s.cells 27))) : wpList Tryd.prog ops Q (o :: rest) a w := by
  refine wpList_plain hgd fun K hK => ?_
  unfold Oper.wp execOp
  have e : (#[((0 : Nat), x)] : Array (Nat × Operand)).map (fun (i, y) => (i, a.eval y)) = #[(0, .agg s.cells)] := by simp [hx]
  simp only [ho, e, Sem.run_bind, run_bsH, Result.andThen_ok, Sem.run_pure]
  exact hK _ _ h
theorem isBsH {ops : Array Oper} {rest : List Oper} {o : Oper} {a : Act} {w : World} {Q : Exit → Act → World → Prop} (x : Operand) (_ : o.op = .buildSlice 38 1 #[(0, x)]) (h : wpList Tryd.prog ops Q (o :: rest) a w) : wpList Tryd.prog ops Q (o :: rest) a w := h

/-- What each operation of a comparing region yields. -/
def cmS (v3 v4 vb : Value) (gh gb t : Nat) (S : HS) (j : Nat) (v : Value) : Prop :=
  match j with
  | 0 => v = v3 | 1 => v = .int .i64 (t : Int) | 2 => v = .pointer (some ⟨gh, t * 73, none⟩) | 3 => v = .agg S.cells | 4 => v = .agg (tab8 32 (sumD S))
  | 5 => v = v4 | 6 => v = .int .i64 (t : Int) | 7 => v = .pointer (some ⟨gb, t, none⟩) | 8 => v = vb | 9 => v = .agg (tab8 32 (sumD S)) | _ => v = .bool false
end Hs
end Go.Proofs.YtedjoakpbknflaaDoor
