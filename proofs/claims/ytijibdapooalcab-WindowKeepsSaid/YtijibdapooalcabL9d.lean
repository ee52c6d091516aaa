import Derived.Test.YtijibdapooalcabL9c
namespace Go.Proofs.Ytijibdapooalcab.Win
open Go.RowKit Gf8 Aes By8 Cel Cf
/- WindowKeeps: what the law's apart does, one operation at a time. -/

/-- The mark of list t, of kind k. -/
def mkB (k t : Nat) (i : Nat) : Nat := if i = 0 then k else if i = 1 then t % 256 else if i = 2 then t / 256 % 256 else 0
def vL (x : Nat → Value) (n : Nat) : List Value := (List.range n).map x
theorem vL_len (x : Nat → Value) (n : Nat) : (vL x n).length = n := by simp [vL]
theorem vL_at (x : Nat → Value) {n t : Nat} (h : t < n) : (vL x n)[t]? = some (x t) := by simp [vL, h]
theorem vL_up {x : Nat → Value} {n : Nat} {u : Value} : vL x n ++ [u] = vL (up x n u) (n + 1) := by
  refine List.ext_getElem? fun k => ?_
  by_cases h : k < n
  · rw [List.getElem?_append_left (by rw [vL_len]; exact h), vL_at x h, vL_at _ (by omega), up_ne _ _ (by omega)]
  · by_cases e : k = n
    · subst e
      rw [List.getElem?_append_right (by rw [vL_len]; exact Nat.le_refl _), vL_len, vL_at _ (by omega), up_at, Nat.sub_self]
      rfl
    · rw [List.getElem?_eq_none (by simp [vL_len]; omega), List.getElem?_eq_none (by rw [vL_len]; omega)]
theorem vL_cg {x y : Nat → Value} {n : Nat} (h : ∀ t, t < n → x t = y t) : vL x n = vL y n := by
  unfold vL
  exact List.map_congr_left fun t ht => h t (List.mem_range.1 ht)
section
variable {o : Oper} {a : Act} {w : World}
theorem execIdxWs {x i : Operand} {b n cap k : Nat} (ho : o.op = .indexAddr 45 x i) (hx : a.eval x = .slice (some ⟨b, 0, none⟩) n cap) (hi : a.eval i = .int .i64 ((k : Nat) : Int)) (hk : k < n) : (execOp a.eval o).run Try.prog w = .ok (.value (.pointer (some ⟨b, 0 + k * 2, none⟩))) w := by
  unfold execOp
  simp only [ho, hx, hi]
  simp [go_sem, hk]
theorem execFldWg {x : Operand} {b k : Nat} (ho : o.op = .fieldAddr 24 x 1) (hx : a.eval x = .pointer (some ⟨b, k, none⟩)) : (execOp a.eval o).run Try.prog w = .ok (.value (.pointer (some ⟨b, k + 1, none⟩))) w := by
  unfold execOp
  simp only [ho, hx]
  simp [go_sem]
theorem execIdxLs {x i : Operand} {b n cap k : Nat} (ho : o.op = .indexAddr 61 x i) (hx : a.eval x = .slice (some ⟨b, 0, none⟩) n cap) (hi : a.eval i = .int .i64 ((k : Nat) : Int)) (hk : k < n) : (execOp a.eval o).run Try.prog w = .ok (.value (.pointer (some ⟨b, 0 + k, none⟩))) w := by
  unfold execOp
  simp only [ho, hx, hi]
  simp [go_sem, hk]
theorem execIdxLe {x i : Operand} {b n cap k : Nat} (ho : o.op = .indexAddr 62 x i) (hx : a.eval x = .slice (some ⟨b, 0, none⟩) n cap) (hi : a.eval i = .int .i64 ((k : Nat) : Int)) (hk : k < n) : (execOp a.eval o).run Try.prog w = .ok (.value (.pointer (some ⟨b, 0 + k, none⟩))) w := by
  unfold execOp
  simp only [ho, hx, hi]
  simp [go_sem, hk]
theorem execLenWs {x : Operand} {v : Value} {len : Nat} (ho : o.op = .call { callee := .builtin .len, args := #[x], argTypes := #[45] }) (hx : a.eval x = v) (hv : ∃ ao c, v = .slice ao len c) : (execOp a.eval o).run Try.prog w = .ok (.value (.int .i64 (len : Int))) w := by
  obtain ⟨g, c, rfl⟩ := hv
  unfold execOp
  simp only [ho, resolve, invoke, builtin, List.map_toArray, List.map_cons, List.map_nil, hx]
  simp [go_sem]
theorem execLenLs {x : Operand} {v : Value} {len : Nat} (ho : o.op = .call { callee := .builtin .len, args := #[x], argTypes := #[61] }) (hx : a.eval x = v) (hv : ∃ ao c, v = .slice ao len c) : (execOp a.eval o).run Try.prog w = .ok (.value (.int .i64 (len : Int))) w := by
  obtain ⟨g, c, rfl⟩ := hv
  unfold execOp
  simp only [ho, resolve, invoke, builtin, List.map_toArray, List.map_cons, List.map_nil, hx]
  simp [go_sem]
theorem execLenLe {x : Operand} {v : Value} {len : Nat} (ho : o.op = .call { callee := .builtin .len, args := #[x], argTypes := #[62] }) (hx : a.eval x = v) (hv : ∃ ao c, v = .slice ao len c) : (execOp a.eval o).run Try.prog w = .ok (.value (.int .i64 (len : Int))) w := by
  obtain ⟨g, c, rfl⟩ := hv
  unfold execOp
  simp only [ho, resolve, invoke, builtin, List.map_toArray, List.map_cons, List.map_nil, hx]
  simp [go_sem]
theorem execStTs {x y : Operand} {b k : Nat} {v old : Value} (ho : o.op = .store 25 x y) (hx : a.eval x = .pointer (some ⟨b, k, none⟩)) (hy : a.eval y = v) (hv : ∃ g n c, v = .slice g n c) (hc : w.cell? ⟨b, k, none⟩ = some old) (hf : w.frozen? ⟨b, k, none⟩ = false) : (execOp a.eval o).run Try.prog w = .ok .skip (w.setCell ⟨b, k, none⟩ v) := by
  obtain ⟨g, n, c, rfl⟩ := hv
  unfold execOp
  simp only [ho, hx, hy]
  simp [go_sem, hc, hf]
theorem execSt2i {x y : Operand} {b k : Nat} {z : Int} {old : Value} (ho : o.op = .store 2 x y) (hx : a.eval x = .pointer (some ⟨b, k, none⟩)) (hy : a.eval y = .int .i64 z) (hc : w.cell? ⟨b, k, none⟩ = some old) (hf : w.frozen? ⟨b, k, none⟩ = false) : (execOp a.eval o).run Try.prog w = .ok .skip (w.setCell ⟨b, k, none⟩ (.int .i64 z)) := by
  unfold execOp
  simp only [ho, hx, hy]
  simp [go_sem, hc, hf]
theorem execShr8 {x : Operand} {n : Nat} (ho : o.op = .binOp .shr 3 x (.const (.int .u64 8)) 63) (hx : a.eval x = .int .i64 (n : Int)) : (execOp a.eval o).run Try.prog w = .ok (.value (.int .i64 ((n / 256 : Nat) : Int))) w := by
  have hc : a.eval (.const (.int .u64 8)) = .int .u64 8 := rfl
  unfold execOp
  simp only [ho, hx, hc]
  simp [go_sem]
theorem execCv5 {x : Operand} {n : Nat} (ho : o.op = .convert 3 5 x) (hx : a.eval x = .int .i64 (n : Int)) : (execOp a.eval o).run Try.prog w = .ok (.value (.int .u8 ((n % 256 : Nat) : Int))) w := by
  unfold execOp
  simp only [ho, hx]
  simp [go_sem, IntKind.wrap, IntKind.bits, IntKind.signed]
theorem execSbC {y : Operand} {c : Int} {q : Nat} {z : Int} (ho : o.op = .binOp .sub 3 (.const (.int .i64 c)) y 3) (hy : a.eval y = .int .i64 ((q : Nat) : Int)) (hz : c - q = z) (h1 : -9223372036854775808 ≤ z) (h2 : z < 9223372036854775808) : (execOp a.eval o).run Try.prog w = .ok (.value (.int .i64 z)) w := by
  have e : IntKind.i64.wrap (c - ((q : Nat) : Int)) = z := by rw [IntKind.wrap_i64]; omega
  have hc : a.eval (.const (.int .i64 c)) = .int .i64 c := rfl
  unfold execOp
  simp only [ho, hy, hc]
  simp [go_sem, e]
theorem execBdM {x y z : Operand} {k t : Nat} (ho : o.op = .build 36 #[(0, x), (1, y), (2, z)]) (hx : a.eval x = .int .u8 ((k : Nat) : Int)) (hy : a.eval y = .int .u8 ((t % 256 : Nat) : Int)) (hz : a.eval z = .int .u8 ((t / 256 % 256 : Nat) : Int)) : (execOp a.eval o).run Try.prog w = .ok (.value (.agg (bA 16 (mkB k t)))) w := by
  unfold execOp
  simp only [ho, List.map_toArray, List.map_cons, List.map_nil, hx, hy, hz]
  simp [go_sem, bA, bytesL, mkB, List.range, List.range.loop]
theorem execBdE0 {x : Operand} {z : Int} (ho : o.op = .build 47 #[(0, x)]) (hx : a.eval x = .int .i64 z) : (execOp a.eval o).run Try.prog w = .ok (.value (.agg (epC z (.slice none 0 0)))) w := by
  unfold execOp
  simp only [ho, List.map_toArray, List.map_cons, List.map_nil, hx]
  simp [go_sem, epC]
theorem execBsL {x : Operand} {v : Value} (ho : o.op = .buildSlice 61 1 #[(0, x)]) (hx : a.eval x = v) (hv : ∃ g n c, v = .slice g n c) : (execOp a.eval o).run Try.prog w = .ok (.value (.slice (some ⟨w.heap.size, 0, none⟩) 1 1)) (w.alloc (.cells #[v] 25)) := by
  obtain ⟨g, n, c, rfl⟩ := hv
  unfold execOp
  simp only [ho, List.map_toArray, List.map_cons, List.map_nil, hx]
  simp [go_sem]
end
theorem infoTL : ∃ i, Try.prog.info? 25 = some i ∧ i.zero = some (.slice none 0 0) ∧ i.size = 1 ∧ i.bytes = 24 := by
  have h : (Try.prog.info? 25).map (fun i => (i.zero, i.size, i.bytes)) = some (some (.slice none 0 0), 1, 24) := by kernel_rfl
  obtain ⟨i, h1, h2⟩ := Option.map_eq_some_iff.1 h
  simp only [Prod.mk.injEq] at h2
  exact ⟨i, h1, h2.1, h2.2.1, h2.2.2⟩
theorem infoEL : ∃ i, Try.prog.info? 22 = some i ∧ i.zero = some (.slice none 0 0) ∧ i.size = 1 ∧ i.bytes = 24 := by
  have h : (Try.prog.info? 22).map (fun i => (i.zero, i.size, i.bytes)) = some (some (.slice none 0 0), 1, 24) := by kernel_rfl
  obtain ⟨i, h1, h2⟩ := Option.map_eq_some_iff.1 h
  simp only [Prod.mk.injEq] at h2
  exact ⟨i, h1, h2.1, h2.2.1, h2.2.2⟩
theorem execMkTL {o : Oper} {a : Act} {w : World} {n : Nat} {x y : Operand} (ho : o.op = .makeSlice 61 x y) (hx : a.eval x = .int .i64 (n : Int)) (hy : a.eval y = .int .i64 (n : Int)) (hn : n ≤ 1000000) :
    (execOp a.eval o).run Try.prog w = .ok (.value (.slice (some ⟨w.heap.size, 0, none⟩) n n)) (w.alloc (.cells (madeCells #[.slice none 0 0] n) 25)) := by
  obtain ⟨i, h1, h2, h3, h4⟩ := infoTL
  have h := run_make (P := Try.prog) w 61 25 i (.slice none 0 0) Try.underlying61 h1 h2 .i64 .i64 (n : Int) (n : Int) (by omega) (by omega) (by rw [h4]; omega) (by omega)
  rw [h3, Int.toNat_natCast, Nat.mul_one] at h
  unfold execOp
  simp only [ho, hx, hy, Sem.run_bind, h, Result.andThen_ok, Sem.run_pure]
  rfl
theorem execMkEL {o : Oper} {a : Act} {w : World} {n : Nat} {x y : Operand} (ho : o.op = .makeSlice 62 x y) (hx : a.eval x = .int .i64 (n : Int)) (hy : a.eval y = .int .i64 (n : Int)) (hn : n ≤ 1000000) :
    (execOp a.eval o).run Try.prog w = .ok (.value (.slice (some ⟨w.heap.size, 0, none⟩) n n)) (w.alloc (.cells (madeCells #[.slice none 0 0] n) 22)) := by
  obtain ⟨i, h1, h2, h3, h4⟩ := infoEL
  have h := run_make (P := Try.prog) w 62 22 i (.slice none 0 0) Try.underlying62 h1 h2 .i64 .i64 (n : Int) (n : Int) (by omega) (by omega) (by rw [h4]; omega) (by omega)
  rw [h3, Int.toNat_natCast, Nat.mul_one] at h
  unfold execOp
  simp only [ho, hx, hy, Sem.run_bind, h, Result.andThen_ok, Sem.run_pure]
  rfl
/-- A table: m values in a block of their own. -/
def Tb (W : World) (R : Nat) (ty : TypeId) (m : Nat) (mo : Nat → Value) : Prop := ∃ c : Array Value, W.heap[R]? = some (.cells c ty) ∧ c.size = m ∧ ∀ t, t < m → c[t]? = some (mo t)
section
variable {W W' : World} {R m : Nat} {ty : TypeId} {mo : Nat → Value}
theorem Tb.on (h : Tb W R ty m mo) (hb : Below W.heap.size W W') : Tb W' R ty m mo := by
  obtain ⟨c, h1, h2⟩ := h
  exact ⟨c, by rw [hb.block _ (Array.getElem?_eq_some_iff.1 h1).1]; exact h1, h2⟩
theorem Tb.over {B2 n2 s2 : Nat} {u : Value} {ys : List Value} {t2 : TypeId} (h : Tb W R ty m mo) (hu : W.ownsRow B2 t2 s2 u n2 ys) (gr : W.grownBy W' u.ownBlock) (ht : ty ≠ t2) : Tb W' R ty m mo := by
  obtain ⟨c, h1, h2⟩ := h
  exact ⟨c, heapE_over hu gr h1 ht, h2⟩
theorem Tb.off {g : Nat} (h : Tb W R ty m mo) (gr : W.grownBy W' (some g)) (hne : R ≠ g) : Tb W' R ty m mo := by
  obtain ⟨c, h1, h2⟩ := h
  exact ⟨c, by rw [gr.block _ (Array.getElem?_eq_some_iff.1 h1).1 (fun e => hne (Option.some.inj e))]; exact h1, h2⟩
theorem Tb.put (h : Tb W R ty m mo) (i : Nat) (u : Value) : Tb (W.setCell ⟨R, 0 + i, none⟩ u) R ty m (up mo i u) := by
  rw [Nat.zero_add]
  obtain ⟨c, h1, h2, h3⟩ := h
  refine ⟨c.setIfInBounds i u, heap4 _ h1, by rw [Array.size_setIfInBounds]; exact h2, fun t ht => ?_⟩
  rw [Array.getElem?_setIfInBounds]
  by_cases e : i = t
  · subst e
    rw [if_pos rfl, if_pos (by omega), up_at]
  · rw [if_neg e, up_ne _ _ (fun q => e q.symm)]
    exact h3 t ht
theorem Tb.at (h : Tb W R ty m mo) {i : Nat} (hi : i < m) : W.cell? ⟨R, 0 + i, none⟩ = some (mo i) ∧ W.frozen? ⟨R, 0 + i, none⟩ = false := by
  rw [Nat.zero_add]
  obtain ⟨c, h1, h2, h3⟩ := h
  exact ⟨by rw [cell_of_row _ _ _ _ _ _ h1]; exact h3 i hi, frozen4 h1⟩
theorem Tb.made (W : World) (m : Nat) (ty : TypeId) : Tb (W.alloc (.cells (madeCells #[.slice none 0 0] m) ty)) W.heap.size ty m (fun _ => .slice none 0 0) :=
  ⟨_, heapNew W _, by simp [madeCells], fun t ht => by simp [madeCells, ht, Nat.mod_one]⟩
end
theorem heapG {W W' : World} {g k : Nat} {c d : Array Value} {t u : TypeId} (hh : W.heap[k]? = some (.cells c t)) (hg : W.heap[g]? = some (.cells d u)) (hu : u ≠ t) (gr : W.grownBy W' (some g)) : W'.heap[k]? = some (.cells c t) := by
  rw [gr.block k (Array.getElem?_eq_some_iff.1 hh).1 (fun e => ne_type hg hh hu (Option.some.inj e))]
  exact hh
end Go.Proofs.Ytijibdapooalcab.Win
