import Derived.Test.YtcibogmghagpoaaL1
import Derived.Laws.AppendOwnNone
import Derived.Laws.BytesArg
namespace Go.Proofs.Ytcibogmghagpoaa.By8
open Go.RowKit Gf8 Aes
/- Lists of bytes ([]byte), the bytes as whole numbers. -/

/-- A []byte of len bytes p. -/
structure SliceN (w : World) (v : Value) (len : Nat) (p : Nat → Nat) : Prop where
  shape : ∃ a cap, v = .slice a len cap ∧ len ≤ cap ∧ cap < 9223372036854775808 ∧ (0 < len → ∃ b off, a = some ⟨b, off, none⟩ ∧ b < w.heap.size ∧ ∀ j, j < len → w.cell? ⟨b, off + j, none⟩ = some (.int .u8 (p j)))
  bytes : ∀ j, j < len → p j < 256
theorem cell_below {B : Nat} {w w' : World} (h : Below B w w') {b o : Nat} (hb : b < B) : w'.cell? ⟨b, o, none⟩ = w.cell? ⟨b, o, none⟩ := h.cell (p := ⟨b, o, none⟩) hb
theorem SliceN.on {w w' : World} {v : Value} {len : Nat} {p : Nat → Nat} (h : SliceN w v len p) (hb : Below w.heap.size w w') : SliceN w' v len p := by
  obtain ⟨⟨a, cap, e, h1, h2, h3⟩, hp⟩ := h
  refine ⟨⟨a, cap, e, h1, h2, fun h0 => ?_⟩, hp⟩
  obtain ⟨b, off, e1, e2, e3⟩ := h3 h0
  exact ⟨b, off, e1, Nat.lt_of_lt_of_le e2 hb.size, fun j hj => by rw [cell_below hb e2]; exact e3 j hj⟩
theorem info5 : ∃ i, Try.prog.info? 5 = some i ∧ i.zero = some (.int .u8 0) ∧ i.size = 1 ∧ i.bytes = 1 := by
  have h : (Try.prog.info? 5).map (fun i => (i.zero, i.size, i.bytes)) = some (some (.int .u8 0), 1, 1) := by kernel_rfl
  cases hq : Try.prog.info? 5 with
  | none => rw [hq] at h; cases h
  | some i =>
    rw [hq] at h
    simp only [Option.map_some, Option.some.injEq, Prod.mk.injEq] at h
    exact ⟨i, rfl, h.1, h.2.1, h.2.2⟩
theorem bytesL_one (n : Nat) (p : Nat → Nat) : ∀ u ∈ bytesL n p, u.oneCell' = true := by
  intro u hu
  simp only [bytesL, List.mem_map] at hu
  obtain ⟨z, _, rfl⟩ := hu
  rfl
/-- Made with room and nothing in it yet: a row of one's own. -/
theorem own_made (W : World) {B n : Nat} (hB : B ≤ W.heap.size) (hn : n ≤ 140737488355328) : (W.alloc (.cells (bA n (fun _ => 0)) 5)).ownsRow B 5 1 (.slice (some ⟨W.heap.size, 0, none⟩) 0 n) 0 (bytesL 0 (fun _ => 0)) := by
  refine ⟨rfl, Or.inr ⟨W.heap.size, n, bA n (fun _ => 0), rfl, hB, ?_, by omega, by unfold maxLen; omega, by rw [bA_size, Nat.mul_one], rfl⟩⟩
  show (W.heap.push _)[W.heap.size]? = _
  rw [Array.getElem?_push_size]
/-- A row of one's own is a list. -/
theorem own_slice {W : World} {B n : Nat} {v : Value} {p : Nat → Nat} (h : W.ownsRow B 5 1 v n (bytesL n p)) (hp : ∀ j, j < n → p j < 256) : SliceN W v n p := by
  refine ⟨?_, hp⟩
  rcases h.2 with ⟨rfl, rfl⟩ | ⟨g, cap, cur, rfl, hB, hg, hn, hm, hs, ht⟩
  · exact ⟨_, _, rfl, Nat.le_refl _, by omega, fun h => by omega⟩
  · refine ⟨_, cap, rfl, hn, by unfold maxLen at hm; omega, fun _ => ⟨g, 0, rfl, (Array.getElem?_eq_some_iff.1 hg).1, fun j hj => ?_⟩⟩
    rw [cell_of_row _ _ _ _ _ _ hg, Nat.zero_add]
    have h2 : (cur.toList.take (n * 1))[j]? = some (.int .u8 (p j)) := by rw [ht]; exact bytesL_at n p hj
    rw [Nat.mul_one, List.getElem?_take, if_pos hj, Array.getElem?_toList] at h2
    exact h2
end Go.Proofs.Ytcibogmghagpoaa.By8
namespace Go.Proofs.Ytcibogmghagpoaa.Aes
open Go.RowKit Gf8 By8
theorem own_ne {W : World} {B n R : Nat} {v : Value} {xs : List Value} {c : Array Value} {t : TypeId} (h : W.ownsRow B 5 1 v n xs) (hr : W.heap[R]? = some (.cells c t)) (ht : t ≠ 5) : some R ≠ v.ownBlock := by
  rcases h.2 with ⟨rfl, _⟩ | ⟨g, cap, cur, rfl, _, hg, _⟩
  · simp [Value.ownBlock]
  · intro e
    simp only [Value.ownBlock, Option.some.injEq] at e
    subst e
    rw [hr] at hg
    simp only [Option.some.injEq, Obj.cells.injEq] at hg
    exact ht hg.2.1
theorem ownsRow_below {W W' : World} {B n : Nat} {v : Value} {xs : List Value} (h : W.ownsRow B 5 1 v n xs) (hb : Below W.heap.size W W') : W'.ownsRow B 5 1 v n xs := by
  refine ⟨h.1, ?_⟩
  rcases h.2 with h | ⟨g, cap, cur, e, hB, hg, h1, h2, h3, h4⟩
  · exact Or.inl h
  · exact Or.inr ⟨g, cap, cur, e, hB, by rw [hb.block _ (Array.getElem?_eq_some_iff.1 hg).1]; exact hg, h1, h2, h3, h4⟩
/-- A row that is known whole, as a row of one's own. -/
theorem own_full {W : World} {B g n : Nat} {f : Nat → Nat} (h : W.heap[g]? = some (.cells (bA n f) 5)) (hB : B ≤ g) (hn : n ≤ 140737488355328) : W.ownsRow B 5 1 (.slice (some ⟨g, 0, none⟩) n n) n (bytesL n f) := by
  refine ⟨by rw [bytesL_len, Nat.mul_one], Or.inr ⟨g, n, bA n f, rfl, hB, h, Nat.le_refl _, by unfold maxLen; omega, by rw [bA_size, Nat.mul_one], ?_⟩⟩
  rw [Nat.mul_one, List.take_of_length_le (by rw [Array.length_toList, bA_size]; omega)]
  rfl
section
variable {o : Oper} {a : Act} {w : World}
theorem execIdxS {x i : Operand} {b off n cap k : Nat} (ho : o.op = .indexAddr 23 x i) (hx : a.eval x = .slice (some ⟨b, off, none⟩) n cap) (hi : a.eval i = .int .i64 (k : Int)) (hk : k < n) : (execOp a.eval o).run Try.prog w = .ok (.value (.pointer (some ⟨b, off + k, none⟩))) w := by
  have h1 : (k : Int) < n := by omega
  unfold execOp
  simp only [ho, hx, hi]
  simp [go_sem, h1]
end
theorem execIdxS0 {o : Oper} {a : Act} {w : World} {x i : Operand} {b n cap k : Nat} (ho : o.op = .indexAddr 23 x i) (hx : a.eval x = .slice (some ⟨b, 0, none⟩) n cap) (hi : a.eval i = .int .i64 (k : Int)) (hk : k < n) : (execOp a.eval o).run Try.prog w = .ok (.value (.pointer (some ⟨b, k, none⟩))) w := by
  have h := execIdxS (w := w) ho hx hi hk
  rwa [Nat.zero_add] at h
end Go.Proofs.Ytcibogmghagpoaa.Aes
