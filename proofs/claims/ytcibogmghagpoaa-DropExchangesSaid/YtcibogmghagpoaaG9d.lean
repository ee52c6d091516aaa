import Derived.Test.YtcibogmghagpoaaV9n
namespace Go.Proofs.Ytcibogmghagpoaa.Drw
open Go.RowKit Gf8 Aes By8 Cel Cf Tap
/- Lists of ints. -/

/-- A []int. -/
structure SliceI (w : World) (v : Value) (len : Nat) (f : Nat → Int) : Prop where
  shape : ∃ a cap, v = .slice a len cap ∧ len ≤ cap ∧ cap ≤ maxLen ∧ (0 < len → ∃ b off, a = some ⟨b, off, none⟩ ∧ b < w.heap.size ∧ ∀ j, j < len → w.cell? ⟨b, off + j, none⟩ = some (.int .i64 (f j)))
  fits : ∀ j, j < len → -9223372036854775808 ≤ f j ∧ f j < 9223372036854775808
theorem SliceI.on {w w' : World} {v : Value} {len : Nat} {f : Nat → Int} (h : SliceI w v len f) (hb : Below w.heap.size w w') : SliceI w' v len f := by
  obtain ⟨⟨a, cap, e, h1, h2, h3⟩, hp⟩ := h
  refine ⟨⟨a, cap, e, h1, h2, fun h0 => ?_⟩, hp⟩
  obtain ⟨b, off, e1, e2, e3⟩ := h3 h0
  exact ⟨b, off, e1, Nat.lt_of_lt_of_le e2 hb.size, fun j hj => by rw [cell_below hb e2]; exact e3 j hj⟩
theorem SliceI.cg {w : World} {v : Value} {len : Nat} {f g : Nat → Int} (h : SliceI w v len f) (e : ∀ j, j < len → f j = g j) : SliceI w v len g := by
  obtain ⟨⟨a, cap, q, h1, h2, h3⟩, hp⟩ := h
  refine ⟨⟨a, cap, q, h1, h2, fun h0 => ?_⟩, fun j hj => by rw [← e j hj]; exact hp j hj⟩
  obtain ⟨b, off, e1, e2, e3⟩ := h3 h0
  exact ⟨b, off, e1, e2, fun j hj => by rw [e3 j hj, e j hj]⟩
theorem SliceI.shp {w : World} {v : Value} {len : Nat} {f : Nat → Int} (h : SliceI w v len f) : ∃ a c, v = .slice a len c := by
  obtain ⟨a, c, e, _⟩ := h.shape
  exact ⟨a, c, e⟩
theorem slice_nilI {V : World} {f : Nat → Int} : SliceI V (.slice none 0 0) 0 f := ⟨⟨_, _, rfl, Nat.le_refl _, by unfold maxLen; omega, fun h => by omega⟩, fun j hj => by omega⟩
/-- The cells of a list of ints. -/
def intsL (n : Nat) (f : Nat → Int) : List Value := (List.range n).map fun j => .int .i64 (f j)
theorem intsL_get {n j : Nat} {f : Nat → Int} (h : j < n) : (intsL n f)[j]? = some (.int .i64 (f j)) := by simp [intsL, h]
theorem intsL_succ (n : Nat) (f : Nat → Int) : intsL (n + 1) f = intsL n f ++ [.int .i64 (f n)] := by simp [intsL, List.range_succ]
theorem intsL_congr {n : Nat} {f g : Nat → Int} (h : ∀ j, j < n → f j = g j) : intsL n f = intsL n g := by
  unfold intsL
  apply List.map_congr_left
  intro i hi
  rw [h i (List.mem_range.1 hi)]
theorem own_ints {W : World} {B n : Nat} {v : Value} {f : Nat → Int} (h : W.ownsRow B 3 1 v n (intsL n f)) (hf : ∀ j, j < n → -9223372036854775808 ≤ f j ∧ f j < 9223372036854775808) : SliceI W v n f := by
  rcases h.2 with ⟨rfl, rfl⟩ | ⟨g, cap, cur, rfl, _, hg, h1, h2, h3, h4⟩
  · exact slice_nilI
  · refine ⟨⟨_, _, rfl, h1, h2, fun _ => ⟨g, 0, rfl, (Array.getElem?_eq_some_iff.1 hg).1, fun j hj => ?_⟩⟩, hf⟩
    rw [cell_of_row _ _ _ _ _ _ hg, Nat.zero_add, ← Array.getElem?_toList]
    have := intsL_get (f := f) hj
    rw [← h4, List.getElem?_take, if_pos (by omega)] at this
    exact this
section
variable {o : Oper} {a : Act} {w : World}
theorem execLenI {x : Operand} {v : Value} {len : Nat} (ho : o.op = .call { callee := .builtin .len, args := #[x], argTypes := #[43] }) (hx : a.eval x = v) (hv : ∃ ao c, v = .slice ao len c) : (execOp a.eval o).run Try.prog w = .ok (.value (.int .i64 (len : Int))) w := by
  obtain ⟨ao, c, rfl⟩ := hv
  unfold execOp
  simp only [ho, resolve, invoke, builtin, Sem.run_bind, Sem.run_pure, Result.andThen_ok, List.map_toArray, List.map_cons, List.map_nil, hx]
  simp [go_sem]
theorem execIdxN {x i : Operand} {g off n cap k : Nat} (ho : o.op = .indexAddr 43 x i) (hx : a.eval x = .slice (some ⟨g, off, none⟩) n cap) (hi : a.eval i = .int .i64 (k : Int)) (hk : k < n) : (execOp a.eval o).run Try.prog w = .ok (.value (.pointer (some ⟨g, off + k, none⟩))) w := by
  have h1 : (k : Int) < n := by omega
  unfold execOp
  simp only [ho, hx, hi]
  simp [go_sem, h1]
theorem execCv53 {x : Operand} {p : Nat} (ho : o.op = .convert 5 3 x) (hx : a.eval x = .int .u8 (p : Int)) (h : p < 256) : (execOp a.eval o).run Try.prog w = .ok (.value (.int .i64 (p : Int))) w := by
  have e : IntKind.i64.wrap (p : Int) = (p : Int) := by simp [IntKind.wrap, IntKind.bits, IntKind.signed]; omega
  unfold execOp
  simp only [ho, hx]
  simp [go_sem, e]
set_option maxRecDepth 100000 in
theorem execBsI {x : Operand} {z : Int} (ho : o.op = .buildSlice 43 1 #[(0, x)]) (hx : a.eval x = .int .i64 z) : (execOp a.eval o).run Try.prog w = .ok (.value (.slice (some ⟨w.heap.size, 0, none⟩) 1 1)) (w.alloc (.cells #[.int .i64 z] 3)) := by
  unfold execOp
  simp only [ho, List.map_toArray, List.map_cons, List.map_nil, hx]
  simp [go_sem]
end
set_option maxRecDepth 100000 in
theorem infoI : ∃ i, Try.prog.info? 3 = some i ∧ i.zero = some (.int .i64 0) ∧ i.size = 1 ∧ i.bytes = 8 := ⟨_, rfl, by kernel_rfl, by kernel_rfl, by kernel_rfl⟩
/-- append of one int. -/
theorem stepAppI {ops : Array Oper} {Q : Exit → Act → World → Prop} {K : Act → World → Prop} {j : Nat} {o : Oper} {a : Act} {W : World} {s x : Operand} {B n g : Nat} {v : Value} {f : Nat → Int} (hos : ops[j]? = some o) (hgd : Region.wanted o (yielded ops a.tmps) = true)
    (ho : o.op = .call { callee := .builtin .append, args := #[s, x], argTypes := #[43, 43] }) (hs : a.eval s = v) (hx : a.eval x = .slice (some ⟨g, 0, none⟩) 1 1) (hown : W.ownsRow B 3 1 v n (intsL n f)) (hg : W.heap[g]? = some (.cells #[.int .i64 (f n)] 3)) (hn : n + 1 ≤ 17592186044416) (hB : B ≤ W.heap.size)
    (hK : ∀ v' W', W'.ownsRow B 3 1 v' (n + 1) (intsL (n + 1) f) → W.grownBy W' v.ownBlock → K (a.put o.dst v') W') : wpOp Try.prog ops Q j K a W := by
  obtain ⟨i, i1, i2, i3, i4⟩ := infoI
  obtain ⟨v', W', run, q1, q2⟩ := execAppO (W := W) (news := [.int .i64 (f n)]) ho Try.underlying43 i1 i2 i3 i4 rfl (by decide) hs hown hx rfl (fun j u hu => by
    rw [Go.WideShapes.add_plain, cell_of_row _ _ _ _ _ _ hg, Nat.zero_add, ← Array.getElem?_toList]
    exact hu) (fun u hu => by
    obtain rfl := List.mem_singleton.1 hu
    rfl) (by unfold maxLen; omega) (by omega) hB
  rw [← intsL_succ] at q1
  exact stepV hos hgd run (hK v' W' q1 q2)
end Go.Proofs.Ytcibogmghagpoaa.Drw
