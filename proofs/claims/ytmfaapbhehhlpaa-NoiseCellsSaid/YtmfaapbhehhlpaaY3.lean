import Derived.Test.YtmfaapbhehhlpaaL3
import Derived.Laws.AppendOwnNone
import Derived.Laws.BytesArg
namespace Go.Proofs.Ytmfaapbhehhlpaa.By8
open Go.RowKit Gf8 Aes
/- Lists of bytes ([]byte), the bytes as whole numbers. -/

/-- A []byte of len bytes p. -/
structure SliceN (w : World) (v : Value) (len : Nat) (p : Nat → Nat) : Prop where
  shape : ∃ a cap, v = .slice a len cap ∧ len ≤ cap ∧ cap < 9223372036854775808 ∧ (0 < len → ∃ b off, a = some ⟨b, off, none⟩ ∧ b < w.heap.size ∧ ∀ j, j < len → w.cell? ⟨b, off + j, none⟩ = some (.int .u8 (p j)))
  bytes : ∀ j, j < len → p j < 256
theorem cell_below {B : Nat} {w w' : World} (h : Below B w w') {b o : Nat} (hb : b < B) : w'.cell? ⟨b, o, none⟩ = w.cell? ⟨b, o, none⟩ := h.cell (p := ⟨b, o, none⟩) hb
theorem SliceN.on {w w' : World} {v : Value} {len : Nat} {p : Nat → Nat} (h : SliceN w v len p) (hb : Below w.heap.size w w') : SliceN w' v len p := by
  obtain ⟨⟨a, cap, e, h1, h2, h3⟩, hp⟩ := h
  refine ⟨⟨a, cap, e, h1, h2, fun h0 => ?_⟩, hp⟩
  obtain ⟨b, off, e1, e2, e3⟩ := h3 h0
  exact ⟨b, off, e1, Nat.lt_of_lt_of_le e2 hb.size, fun j hj => by rw [cell_below hb e2]; exact e3 j hj⟩
theorem info5 : ∃ i, Try.prog.info? 5 = some i ∧ i.zero = some (.int .u8 0) ∧ i.size = 1 ∧ i.bytes = 1 := by
  have h : (Try.prog.info? 5).map (fun i => (i.zero, i.size, i.bytes)) = some (some (.int .u8 0), 1, 1) := by kernel_rfl
  cases hq : Try.prog.info? 5 with
  | none => rw [hq] at h; cases h
  | some i =>
    rw [hq] at h
    simp only [Option.map_some, Option.some.injEq, Prod.mk.injEq] at h
    exact ⟨i, rfl, h.1, h.2.1, h.2.2⟩
/-- The first n bytes of p, as cells. -/
theorem bytesL_succ (p : Nat → Nat) (n : Nat) : bytesL n p ++ [.int .u8 (p n)] = bytesL (n + 1) p := by
  unfold bytesL
  rw [List.range_succ, List.map_append]
  rfl
theorem bytesL_one (n : Nat) (p : Nat → Nat) : ∀ u ∈ bytesL n p, u.oneCell' = true := by
  intro u hu
  simp only [bytesL, List.mem_map] at hu
  obtain ⟨z, _, rfl⟩ := hu
  rfl
theorem made8 (n : Nat) : madeCells (Value.int .u8 0).cells n = bA n (fun _ => 0) := by
  apply Array.ext_getElem?
  intro i
  by_cases h : i < n
  · rw [bA_at n _ h]; simp [madeCells, Value.cells, h, Nat.mod_one]
  · rw [Array.getElem?_eq_none (by simp [madeCells]; omega), Array.getElem?_eq_none (by rw [bA_size]; omega)]
/-- make([]byte, l, n). -/
theorem run_mk (l n : Nat) (hl : l ≤ n) (hn : n ≤ 281474976710656) (W : World) : (Instr.makeSlice 31 (.int .i64 (l : Int)) (.int .i64 (n : Int))).run Try.prog W = .ok (.slice (some ⟨W.heap.size, 0, none⟩) l n) (W.alloc (.cells (bA n (fun _ => 0)) 5)) := by
  obtain ⟨i, h1, h2, h3, h4⟩ := info5
  have h := run_make (P := Try.prog) W 31 5 i (.int .u8 0) Try.underlying31 h1 h2 .i64 .i64 (l : Int) (n : Int) (by omega) (by omega) (by rw [h4]; omega) (by omega)
  rw [h3, Int.toNat_natCast, Int.toNat_natCast, Nat.mul_one, made8] at h
  exact h
theorem execMk {o : Oper} {a : Act} {w : World} {l n : Nat} {x y : Operand} (ho : o.op = .makeSlice 31 x y) (hx : a.eval x = .int .i64 (l : Int)) (hy : a.eval y = .int .i64 (n : Int)) (hl : l ≤ n) (hn : n ≤ 281474976710656) :
    (execOp a.eval o).run Try.prog w = .ok (.value (.slice (some ⟨w.heap.size, 0, none⟩) l n)) (w.alloc (.cells (bA n (fun _ => 0)) 5)) := by
  unfold execOp
  simp only [ho, hx, hy, Sem.run_bind, run_mk l n hl hn, Result.andThen_ok, Sem.run_pure]
/-- Made with room and nothing in it yet: a row of one's own. -/
theorem own_made (W : World) {B n : Nat} (hB : B ≤ W.heap.size) (hn : n ≤ 140737488355328) : (W.alloc (.cells (bA n (fun _ => 0)) 5)).ownsRow B 5 1 (.slice (some ⟨W.heap.size, 0, none⟩) 0 n) 0 (bytesL 0 (fun _ => 0)) := by
  refine ⟨rfl, Or.inr ⟨W.heap.size, n, bA n (fun _ => 0), rfl, hB, ?_, by omega, by unfold maxLen; omega, by rw [bA_size, Nat.mul_one], rfl⟩⟩
  show (W.heap.push _)[W.heap.size]? = _
  rw [Array.getElem?_push_size]
/-- A row of one's own is a list. -/
theorem own_slice {W : World} {B n : Nat} {v : Value} {p : Nat → Nat} (h : W.ownsRow B 5 1 v n (bytesL n p)) (hp : ∀ j, j < n → p j < 256) : SliceN W v n p := by
  refine ⟨?_, hp⟩
  rcases h.2 with ⟨rfl, rfl⟩ | ⟨g, cap, cur, rfl, hB, hg, hn, hm, hs, ht⟩
  · exact ⟨_, _, rfl, Nat.le_refl _, by omega, fun h => by omega⟩
  · refine ⟨_, cap, rfl, hn, by unfold maxLen at hm; omega, fun _ => ⟨g, 0, rfl, (Array.getElem?_eq_some_iff.1 hg).1, fun j hj => ?_⟩⟩
    rw [cell_of_row _ _ _ _ _ _ hg, Nat.zero_add]
    have h2 : (cur.toList.take (n * 1))[j]? = some (.int .u8 (p j)) := by rw [ht]; exact bytesL_at n p hj
    rw [Nat.mul_one, List.getElem?_take, if_pos hj, Array.getElem?_toList] at h2
    exact h2
/-- append of one byte that the call laid. -/
theorem wpList_app1 {ops : Array Oper} {rest : List Oper} {o : Oper} {a : Act} {W : World} {Q : Exit → Act → World → Prop} {B n g : Nat} {v : Value} {p : Nat → Nat} {w0 : World} (hgd : o.guard = none) (s x : Operand)
    (ho : o.op = .call { callee := .builtin .append, args := #[s, x], argTypes := #[31, 31] })
    (hs : a.eval s = v) (hx : a.eval x = .slice (some ⟨g, 0, none⟩) 1 1) (hown : W.ownsRow B 5 1 v n (bytesL n p)) (hsrc : W.heap[g]? = some (.cells #[.int .u8 (p n)] 5))
    (hbig : n + 1 ≤ 140737488355328) (hb : Below B w0 W) (hB : B ≤ W.heap.size)
    (h : ∀ v' W', W'.ownsRow B 5 1 v' (n + 1) (bytesL (n + 1) p) → W.grownBy W' v.ownBlock → Below B w0 W' → B ≤ W'.heap.size → wpList Try.prog ops Q rest (a.put o.dst v') W') : wpList Try.prog ops Q (o :: rest) a W := by
  obtain ⟨i, h1, h2, h3, h4⟩ := info5
  refine wpList_append_own W hgd s x 31 ho B 5 i (.int .u8 0) 1 1 Try.underlying31 h1 h2 h3 h4 rfl (by decide) v n (bytesL n p) hs hown ⟨g, 0, none⟩ 1 1 [.int .u8 (p n)] hx rfl ?_ ?_ (by unfold maxLen; omega) (by omega) hB ?_
  · intro j u hu
    have hj : j = 0 := by have := (List.getElem?_eq_some_iff.1 hu).1; simpa using this
    subst hj
    rw [show (⟨g, 0, none⟩ : Addr).add 0 = ⟨g, 0, none⟩ from rfl, cell_of_row _ _ _ _ _ _ hsrc]
    simpa using hu
  · intro u hu
    simp only [List.mem_singleton] at hu
    subst hu
    rfl
  · intro v' W' hown' hg _
    rw [bytesL_succ] at hown'
    exact h v' W' hown' hg (hb.grown hg hB (fun k hk => (hown.lt k hk).1)) (Nat.le_trans hB hg.size)
end Go.Proofs.Ytmfaapbhehhlpaa.By8
namespace Go.Proofs.Ytmfaapbhehhlpaa.Aes
open Go.RowKit Gf8 By8
theorem own_ne {W : World} {B n R : Nat} {v : Value} {xs : List Value} {c : Array Value} {t : TypeId} (h : W.ownsRow B 5 1 v n xs) (hr : W.heap[R]? = some (.cells c t)) (ht : t ≠ 5) : some R ≠ v.ownBlock := by
  rcases h.2 with ⟨rfl, _⟩ | ⟨g, cap, cur, rfl, _, hg, _⟩
  · simp [Value.ownBlock]
  · intro e
    simp only [Value.ownBlock, Option.some.injEq] at e
    subst e
    rw [hr] at hg
    simp only [Option.some.injEq, Obj.cells.injEq] at hg
    exact ht hg.2.1
theorem ownsRow_below {W W' : World} {B n : Nat} {v : Value} {xs : List Value} (h : W.ownsRow B 5 1 v n xs) (hb : Below W.heap.size W W') : W'.ownsRow B 5 1 v n xs := by
  refine ⟨h.1, ?_⟩
  rcases h.2 with h | ⟨g, cap, cur, e, hB, hg, h1, h2, h3, h4⟩
  · exact Or.inl h
  · exact Or.inr ⟨g, cap, cur, e, hB, by rw [hb.block _ (Array.getElem?_eq_some_iff.1 hg).1]; exact hg, h1, h2, h3, h4⟩
theorem ownsRow_row {W : World} {B n R : Nat} {v : Value} {xs : List Value} (h : W.ownsRow B 5 1 v n xs) {c : Array Value} {t : TypeId} (hr : W.heap[R]? = some (.cells c t)) (ht : t ≠ 5) (d : Array Value) : (W.setRow R d).ownsRow B 5 1 v n xs := by
  refine ⟨h.1, ?_⟩
  have ne := own_ne h hr ht
  rcases h.2 with h | ⟨g, cap, cur, e, hB, hg, h1, h2, h3, h4⟩
  · exact Or.inl h
  · subst e
    have hne : g ≠ R := fun q => ne (by simp [Value.ownBlock, q])
    exact Or.inr ⟨g, cap, cur, rfl, hB, by rw [setRow_other _ _ _ _ (by omega)]; exact hg, h1, h2, h3, h4⟩
/-- A row that is known whole, as a row of one's own. -/
theorem own_full {W : World} {B g n : Nat} {f : Nat → Nat} (h : W.heap[g]? = some (.cells (bA n f) 5)) (hB : B ≤ g) (hn : n ≤ 140737488355328) : W.ownsRow B 5 1 (.slice (some ⟨g, 0, none⟩) n n) n (bytesL n f) := by
  refine ⟨by rw [bytesL_len, Nat.mul_one], Or.inr ⟨g, n, bA n f, rfl, hB, h, Nat.le_refl _, by unfold maxLen; omega, by rw [bA_size, Nat.mul_one], ?_⟩⟩
  rw [Nat.mul_one, List.take_of_length_le (by rw [Array.length_toList, bA_size]; omega)]
  rfl
section
variable {o : Oper} {a : Act} {w : World}
theorem execIdxS {x i : Operand} {b off n cap k : Nat} (ho : o.op = .indexAddr 31 x i) (hx : a.eval x = .slice (some ⟨b, off, none⟩) n cap) (hi : a.eval i = .int .i64 (k : Int)) (hk : k < n) : (execOp a.eval o).run Try.prog w = .ok (.value (.pointer (some ⟨b, off + k, none⟩))) w := by
  have h1 : (k : Int) < n := by omega
  unfold execOp
  simp only [ho, hx, hi]
  simp [go_sem, h1]
theorem execOne {x : Operand} {z : Int} (ho : o.op = .buildSlice 31 1 #[(0, x)]) (hx : a.eval x = .int .u8 z) : (execOp a.eval o).run Try.prog w = .ok (.value (.slice (some ⟨w.heap.size, 0, none⟩) 1 1)) (w.alloc (.cells #[.int .u8 z] 5)) := by
  unfold execOp
  simp only [ho, List.map_toArray, List.map_cons, List.map_nil, hx]
  simp [go_sem]
end
theorem execIdxS0 {o : Oper} {a : Act} {w : World} {x i : Operand} {b n cap k : Nat} (ho : o.op = .indexAddr 31 x i) (hx : a.eval x = .slice (some ⟨b, 0, none⟩) n cap) (hi : a.eval i = .int .i64 (k : Int)) (hk : k < n) : (execOp a.eval o).run Try.prog w = .ok (.value (.pointer (some ⟨b, k, none⟩))) w := by
  have h := execIdxS (w := w) ho hx hi hk
  rwa [Nat.zero_add] at h
end Go.Proofs.Ytmfaapbhehhlpaa.Aes

namespace Go.Proofs.Ytmfaapbhehhlpaa.By8
open Go.RowKit Gf8 Aes

/-- The bytes as numbers. -/
def numL (p : Nat → Nat) (n : Nat) : List Int := (List.range n).map fun i => (p i : Int)
/-- The string of a list's bytes. -/
def strN (p : Nat → Nat) (n : Nat) : ByteArray := strOfNums (numL p n)
theorem conv_str {w : World} {v : Value} {l : Nat} {p : Nat → Nat} (h : SliceN w v l p) : (convert 31 9 v).run Try.prog w = .ok (.string (strN p l)) w := by
  obtain ⟨⟨a, cap, rfl, h1, h2, h3⟩, hp⟩ := h
  by_cases h0 : 0 < l
  · obtain ⟨b, off, rfl, _, hc⟩ := h3 h0
    refine run_convert_bytes_arg w 31 5 Try.underlying31 Try.underlying5 b off l cap (numL p l) (by simp [numL]) (fun i hi => ?_) 9 Try.underlying9
    rw [hc i hi]
    simp [numL, hi]
  · obtain rfl : l = 0 := by omega
    cases a with
    | none => exact run_convert_bytes_nil w 31 5 Try.underlying31 Try.underlying5 0 cap 9 Try.underlying9
    | some ad =>
      have hl : (loadCells ad 0).run Try.prog w = .ok (([] : List Int).map (Value.int .u8)).toArray w := by simpa using run_loadCells_list (P := Try.prog) w ad [] (by simp)
      rw [run_convert_bytes_string w 31 9 5 _ 0 cap Try.underlying31 Try.underlying5 Try.underlying9, run_bytesToString w _ 0 cap [] hl]
      rfl
section
variable {o : Oper} {a : Act} {w : World}
theorem execStr {x : Operand} {v : Value} {l : Nat} {p : Nat → Nat} (ho : o.op = .convert 31 9 x) (hx : a.eval x = v) (h : SliceN w v l p) : (execOp a.eval o).run Try.prog w = .ok (.value (.string (strN p l))) w := by
  unfold execOp
  simp only [ho, hx, Sem.run_bind, conv_str h, Result.andThen_ok, Sem.run_pure]
theorem execNeqS {x y : Operand} {s : ByteArray} (ho : o.op = .binOp .neq 9 x y 9) (hx : a.eval x = .string s) (hy : a.eval y = .string s) : (execOp a.eval o).run Try.prog w = .ok (.value (.bool false)) w := by
  unfold execOp
  simp only [ho, hx, hy]
  simp [go_sem]
end
end Go.Proofs.Ytmfaapbhehhlpaa.By8

namespace Go.Proofs.Ytmfaapbhehhlpaa.By8
open Go.RowKit Gf8 Aes

/-- A piece of a []byte. -/
theorem SliceN.sub {w : World} {a : Option Addr} {len cap : Nat} {p : Nat → Nat} (hv : SliceN w (.slice a len cap) len p) (l h : Nat) (h1 : l ≤ h) (h2 : h ≤ len) :
    SliceN w (sliced a l h cap 1) (h - l) (fun j => p (l + j)) := by
  obtain ⟨⟨a', cap', e, e1, e2, e3⟩, hp⟩ := hv
  obtain ⟨rfl, _, rfl⟩ : a = a' ∧ len = len ∧ cap = cap' := by
    injection e with x y z
    exact ⟨x, rfl, z⟩
  refine ⟨⟨_, cap - l, rfl, by omega, by omega, fun h0 => ?_⟩, fun j hj => hp (l + j) (by omega)⟩
  obtain ⟨b, off, rfl, hb, hc⟩ := e3 (by omega)
  rw [if_neg (by omega)]
  refine ⟨b, off + l, ?_, hb, fun j hj => ?_⟩
  · simp [Addr.add]
  · rw [Nat.add_assoc]; exact hc (l + j) (by omega)
theorem slice_lh (a : Option Addr) (len cap l h : Nat) (h1 : l ≤ h) (h2 : h ≤ cap) (W : World) : (Instr.sliceAt 31 (.slice a len cap) (some (.int .i64 (l : Int))) (some (.int .i64 (h : Int))) none).run Try.prog W = .ok (sliced a l h cap 1) W := by
  have e1 : (l : Int) ≤ h := by omega
  have e2 : (h : Int) ≤ cap := by omega
  simp [Instr.sliceAt, Instr.slice, run_underlying Try.underlying31, Instr.sliceBounds, run_sliceBound, sliced, h1, h2]
theorem slice_h (a : Option Addr) (len cap h : Nat) (h2 : h ≤ cap) (W : World) : (Instr.sliceAt 31 (.slice a len cap) none (some (.int .i64 (h : Int))) none).run Try.prog W = .ok (sliced a 0 h cap 1) W := by
  have e2 : (h : Int) ≤ cap := by omega
  simp [Instr.sliceAt, Instr.slice, run_underlying Try.underlying31, Instr.sliceBounds, run_sliceBound, sliced, h2]
theorem slice_l (a : Option Addr) (len cap l : Nat) (h1 : l ≤ len) (W : World) : (Instr.sliceAt 31 (.slice a len cap) (some (.int .i64 (l : Int))) none none).run Try.prog W = .ok (sliced a l len cap 1) W := by
  have e1 : (l : Int) ≤ len := by omega
  simp [Instr.sliceAt, Instr.slice, run_underlying Try.underlying31, Instr.sliceBounds, run_sliceBound, sliced, h1]
section
variable {o : Oper} {a : Act} {w : World}
theorem execSlLH {x l h : Operand} {v vl vh r : Value} (ho : o.op = .slice 31 x (some l) (some h) none) (hx : a.eval x = v) (hl : a.eval l = vl) (hh : a.eval h = vh)
    (hr : (Instr.sliceAt 31 v (some vl) (some vh) none).run Try.prog w = .ok r w) : (execOp a.eval o).run Try.prog w = .ok (.value r) w := by
  unfold execOp
  simp only [ho, hx, hl, hh, Option.map_some, Option.map_none, Sem.run_bind, hr, Result.andThen_ok, Sem.run_pure]
theorem execSlH {x h : Operand} {ty : TypeId} {v vh r : Value} (ho : o.op = .slice ty x none (some h) none) (hx : a.eval x = v) (hh : a.eval h = vh)
    (hr : (Instr.sliceAt ty v none (some vh) none).run Try.prog w = .ok r w) : (execOp a.eval o).run Try.prog w = .ok (.value r) w := by
  unfold execOp
  simp only [ho, hx, hh, Option.map_some, Option.map_none, Sem.run_bind, hr, Result.andThen_ok, Sem.run_pure]
theorem execSlL {x l : Operand} {v vl r : Value} (ho : o.op = .slice 31 x (some l) none none) (hx : a.eval x = v) (hl : a.eval l = vl)
    (hr : (Instr.sliceAt 31 v (some vl) none none).run Try.prog w = .ok r w) : (execOp a.eval o).run Try.prog w = .ok (.value r) w := by
  unfold execOp
  simp only [ho, hx, hl, Option.map_some, Option.map_none, Sem.run_bind, hr, Result.andThen_ok, Sem.run_pure]
theorem execSubI {x y : Operand} {p q : Nat} (ho : o.op = .binOp .sub 3 x y 3) (hx : a.eval x = .int .i64 p) (hy : a.eval y = .int .i64 q) (h : q ≤ p) (hp : p < 9223372036854775808) : (execOp a.eval o).run Try.prog w = .ok (.value (.int .i64 (p - q : Nat))) w := by
  have e2 : IntKind.i64.wrap ((p : Int) - q) = ((p - q : Nat) : Int) := by rw [show (p : Int) - q = ((p - q : Nat) : Int) by omega]; exact wrap_i64_nat (by omega)
  unfold execOp
  simp only [ho, hx, hy]
  simp [go_sem, e2]
end
end Go.Proofs.Ytmfaapbhehhlpaa.By8
