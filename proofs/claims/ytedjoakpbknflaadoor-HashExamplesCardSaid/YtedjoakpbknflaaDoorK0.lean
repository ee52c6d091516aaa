import Derived.Test.YtedjoakpbknflaaDoorB4
import Derived.Test.YtedjoakpbknflaaDoorB5
import Derived.Test.YtedjoakpbknflaaDoorC0
import Derived.Test.YtedjoakpbknflaaDoorF5
import Derived.Laws.BytesArg
namespace Go.Proofs.YtedjoakpbknflaaDoor
open Go.RowKit

/-- A row of small numbers that the call itself laid, marked as a string's. -/
theorem sliceB_lit (w : World) (l : List Int) (C : Array Value) (fr : Nat × Nat) (hC : C = (l.map fun x => Value.int .u8 x).toArray) (hl : l.length < 100) (hb : ∀ x ∈ l, 0 ≤ x ∧ x < 256) :
    SliceB (w.alloc (.cells C 5 fr)) (.slice (some ⟨w.heap.size, 0, none⟩) l.length l.length) l.length (fl l) := by
  refine ⟨⟨_, _, rfl, Nat.le_refl _, by omega, fun _ => ⟨_, _, rfl, by simp, fun j hj => ?_⟩⟩, fun j hj => ?_⟩
  · rw [cell_of_row _ _ _ C 5 fr (heap_alloc_new _ _), hC]
    simp [fl, hj]
  · have : fl l j ∈ l := by simp [fl, hj]
    exact hb _ this

theorem size5' : ∀ W, (sizeOf 5).run Tryd.prog W = .ok 1 W := by intro W; simp [go_sem]
/-- A piece of a []byte. -/
theorem SliceB.sub {w : World} {a : Option Addr} {len cap : Nat} {p : Nat → Int} (hv : SliceB w (.slice a len cap) len p) (l h : Nat) (h1 : l ≤ h) (h2 : h ≤ len) :
    SliceB w (sliced a l h cap 1) (h - l) (fun j => p (l + j)) := by
  obtain ⟨⟨a', cap', e, e1, e2, e3⟩, hp⟩ := hv
  obtain ⟨rfl, _, rfl⟩ : a = a' ∧ len = len ∧ cap = cap' := by
    injection e with x y z
    exact ⟨x, rfl, z⟩
  refine ⟨⟨_, cap - l, rfl, by omega, by omega, fun h0 => ?_⟩, fun j hj => hp (l + j) (by omega)⟩
  obtain ⟨b, off, rfl, hb, hc⟩ := e3 (by omega)
  rw [if_neg (by omega)]
  refine ⟨b, off + l, ?_, hb, fun j hj => ?_⟩
  · simp [Addr.add_mid]
  · rw [Nat.add_assoc]; exact hc (l + j) (by omega)
theorem slice_lh (a : Option Addr) (len cap l h : Nat) (h1 : l ≤ h) (h2 : h ≤ cap) (W : World) : (Instr.sliceAt 33 (.slice a len cap) (some (.int .i64 (l : Int))) (some (.int .i64 (h : Int))) none).run Tryd.prog W = .ok (sliced a l h cap 1) W := by
  have e1 : (l : Int) ≤ h := by omega
  have e2 : (h : Int) ≤ cap := by omega
  simp [Instr.sliceAt, Instr.slice, run_underlying Tryd.underlying33, Instr.sliceBounds, run_sliceBound, sliced, h1, h2]
theorem slice_h (a : Option Addr) (len cap h : Nat) (h2 : h ≤ cap) (W : World) : (Instr.sliceAt 33 (.slice a len cap) none (some (.int .i64 (h : Int))) none).run Tryd.prog W = .ok (sliced a 0 h cap 1) W := by
  have e2 : (h : Int) ≤ cap := by omega
  simp [Instr.sliceAt, Instr.slice, run_underlying Tryd.underlying33, Instr.sliceBounds, run_sliceBound, sliced, h2]
theorem slice_l (a : Option Addr) (len cap l : Nat) (h1 : l ≤ len) (W : World) : (Instr.sliceAt 33 (.slice a len cap) (some (.int .i64 (l : Int))) none none).run Tryd.prog W = .ok (sliced a l len cap 1) W := by
  have e1 : (l : Int) ≤ len := by omega
  simp [Instr.sliceAt, Instr.slice, run_underlying Tryd.underlying33, Instr.sliceBounds, run_sliceBound, sliced, h1]

theorem exec_slice_lh {o : Oper} {a : Act} {w : World} {x l h : Operand} {v vl vh r : Value} (ho : o.op = .slice 33 x (some l) (some h) none) (hx : a.eval x = v) (hl : a.eval l = vl) (hh : a.eval h = vh)
    (hr : (Instr.sliceAt 33 v (some vl) (some vh) none).run Tryd.prog w = .ok r w) : (execOp a.eval o).run Tryd.prog w = .ok (.value r) w := by
  unfold execOp
  simp only [ho, hx, hl, hh, Option.map_some, Option.map_none, Sem.run_bind, hr, Result.andThen_ok, Sem.run_pure]
theorem exec_slice_h {o : Oper} {a : Act} {w : World} {x h : Operand} {v vh r : Value} (ho : o.op = .slice 33 x none (some h) none) (hx : a.eval x = v) (hh : a.eval h = vh)
    (hr : (Instr.sliceAt 33 v none (some vh) none).run Tryd.prog w = .ok r w) : (execOp a.eval o).run Tryd.prog w = .ok (.value r) w := by
  unfold execOp
  simp only [ho, hx, hh, Option.map_some, Option.map_none, Sem.run_bind, hr, Result.andThen_ok, Sem.run_pure]
theorem exec_slice_l {o : Oper} {a : Act} {w : World} {x l : Operand} {v vl r : Value} (ho : o.op = .slice 33 x (some l) none none) (hx : a.eval x = v) (hl : a.eval l = vl)
    (hr : (Instr.sliceAt 33 v (some vl) none none).run Tryd.prog w = .ok r w) : (execOp a.eval o).run Tryd.prog w = .ok (.value r) w := by
  unfold execOp
  simp only [ho, hx, hl, Option.map_some, Option.map_none, Sem.run_bind, hr, Result.andThen_ok, Sem.run_pure]

/-- A [][]byte. -/
structure ListsB (w : World) (v : Value) (n : Nat) (vs : Nat → Value) (ls : Nat → Nat) (ps : Nat → Nat → Int) : Prop where
  shape : ∃ a cap, v = .slice a n cap ∧ n < 1152921504606846976 ∧ (0 < n → ∃ b off, a = some ⟨b, off, none⟩ ∧ b < w.heap.size ∧ ∀ i, i < n → w.cell? ⟨b, off + i, none⟩ = some (vs i))
  each : ∀ i, i < n → SliceB w (vs i) (ls i) (ps i)
  nils : ∀ i, i < n → ∀ cap, vs i = .slice none (ls i) cap → cap = 0
  small : ∀ i, i < n → ls i + 4000 ≤ 140737488355328

theorem conv_str {w : World} {v : Value} {l : Nat} {p : Nat → Int} (h : SliceB w v l p) : (convert 33 9 v).run Tryd.prog w = .ok (.string (strOfNums (firstL p l))) w := by
  obtain ⟨⟨a, cap, rfl, h1, h2, h3⟩, hp⟩ := h
  by_cases h0 : 0 < l
  · obtain ⟨b, off, rfl, _, hc⟩ := h3 h0
    refine run_convert_bytes_arg w 33 5 Tryd.underlying33 Tryd.underlying5 b off l cap (firstL p l) (by simp [firstL]) (fun i hi => ?_) 9 Tryd.underlying9
    rw [hc i hi]
    simp [firstL, hi]
  · obtain rfl : l = 0 := by omega
    cases a with
    | none => exact run_convert_bytes_nil w 33 5 Tryd.underlying33 Tryd.underlying5 0 cap 9 Tryd.underlying9
    | some ad =>
      have hl : (loadCells ad 0).run Tryd.prog w = .ok (([] : List Int).map (Value.int .u8)).toArray w := by simpa using run_loadCells_list (P := Tryd.prog) w ad [] (by simp)
      rw [run_convert_bytes_string w 33 9 5 _ 0 cap Tryd.underlying33 Tryd.underlying5 Tryd.underlying9, run_bytesToString w _ 0 cap [] hl]
      rfl
theorem exec_conv_str {o : Oper} {a : Act} {w : World} {x : Operand} {v : Value} {l : Nat} {p : Nat → Int} (ho : o.op = .convert 33 9 x) (hx : a.eval x = v) (h : SliceB w v l p) : (execOp a.eval o).run Tryd.prog w = .ok (.value (.string (strOfNums (firstL p l)))) w := by
  unfold execOp
  simp only [ho, hx, Sem.run_bind, conv_str h, Result.andThen_ok, Sem.run_pure]
theorem exec_neq_str {o : Oper} {a : Act} {w : World} {x y : Operand} {s : ByteArray} (ho : o.op = .binOp .neq 9 x y 9) (hx : a.eval x = .string s) (hy : a.eval y = .string s) : (execOp a.eval o).run Tryd.prog w = .ok (.value (.bool false)) w := by
  unfold execOp
  simp only [ho, hx, hy]
  simp [go_sem]
theorem exec_load33 {o : Oper} {a : Act} {w : World} {x : Operand} {b f : Nat} {v : Value} (ho : o.op = .load 33 x) (hx : a.eval x = .pointer (some ⟨b, f, none⟩)) (hc : w.cell? ⟨b, f, none⟩ = some v) : (execOp a.eval o).run Tryd.prog w = .ok (.value v) w := by
  unfold execOp
  simp only [ho, hx]
  simp [go_sem, hc]
theorem exec_load5 {o : Oper} {a : Act} {w : World} {x : Operand} {b f : Nat} {v : Value} (ho : o.op = .load 5 x) (hx : a.eval x = .pointer (some ⟨b, f, none⟩)) (hc : w.cell? ⟨b, f, none⟩ = some v) : (execOp a.eval o).run Tryd.prog w = .ok (.value v) w := by
  unfold execOp
  simp only [ho, hx]
  simp [go_sem, hc]
theorem own_cap {W : World} {B n m g cap : Nat} {xs : List Value} (h : W.ownsRow B 5 1 (.slice (some ⟨g, 0, none⟩) m cap) n xs) : n ≤ cap := by
  rcases h.2 with ⟨e, _⟩ | ⟨g', cap', cur, e, _, _, hn, _⟩
  · cases e
  · cases e
    exact hn
theorem own_max {W : World} {B n m g cap : Nat} {xs : List Value} (h : W.ownsRow B 5 1 (.slice (some ⟨g, 0, none⟩) m cap) n xs) : cap ≤ maxLen := by
  rcases h.2 with ⟨e, _⟩ | ⟨g', cap', cur, e, _, _, _, hn, _⟩
  · cases e
  · cases e
    exact hn
/-- m bytes of p turned. -/
def px (p : Nat → Int) (m : Nat) : Nat → Int := fun j => if j < m then bits .xor .u8 (p j) 85 else p j
theorem px_bd (p : Nat → Int) (m l : Nat) (h : ∀ j, j < l → 0 ≤ p j ∧ p j < 256) (j : Nat) (hj : j < l) : 0 ≤ px p m j ∧ px p m j < 256 := by
  unfold px
  split
  · have e : ∀ x : Int, 0 ≤ IntKind.u8.wrap x ∧ IntKind.u8.wrap x < 256 := fun x => by simp [IntKind.wrap, IntKind.bits, IntKind.signed]; omega
    exact e _
  · exact h j hj
theorem src_two (W : World) (x y : Int) : ∀ j u, (vals [x, y])[j]? = some u → (W.alloc (.cells #[.int .u8 x, .int .u8 y] 5)).cell? ((⟨W.heap.size, 0, none⟩ : Addr).add j) = some u := by
  intro j u hu
  rw [Addr.add_mid, cell_of_row _ _ _ _ _ _ (heap_alloc_new W _)]
  simpa [vals] using hu
theorem slice_p (g l m cp : Nat) (h : l ≤ cp) (W : World) : (Instr.sliceAt 33 (.slice (some ⟨g, 0, none⟩) m cp) none (some (.int .i64 (l : Int))) none).run Tryd.prog W = .ok (.slice (some ⟨g, 0, none⟩) l cp) W := by
  rw [slice_h _ _ _ _ h]
  unfold sliced
  by_cases e : cp = 0
  · simp [e]
  · simp [e, Addr.add_mid]

end Go.Proofs.YtedjoakpbknflaaDoor
