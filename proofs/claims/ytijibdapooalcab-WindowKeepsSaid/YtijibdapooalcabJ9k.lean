import Derived.Test.YtijibdapooalcabJ9j
import Derived.Lib.Overlaps
import Derived.Lib.AppendZerosOnto
import Derived.Laws.CopyRow
namespace Go.Proofs.Ytijibdapooalcab.Win
open Go.RowKit Gf8 Aes By8 Cel Cf
/- Lists of epochs cut, copied, grown: what slices.Insert does with them. -/

/-- One thing put in at place i. -/
def insF {α : Type} (f : Nat → α) (i : Nat) (z : α) (j : Nat) : α := if j < i then f j else if j = i then z else f (j - 1)
theorem insF_lo {α : Type} {f : Nat → α} {i j : Nat} {z : α} (h : j < i) : insF f i z j = f j := if_pos h
theorem insF_at {α : Type} {f : Nat → α} {i : Nat} {z : α} : insF f i z i = z := by unfold insF; rw [if_neg (Nat.lt_irrefl _), if_pos rfl]
theorem insF_hi {α : Type} {f : Nat → α} {i j : Nat} {z : α} (h : i < j) : insF f i z j = f (j - 1) := by unfold insF; rw [if_neg (by omega), if_neg (by omega)]
theorem insF_end {α : Type} {f : Nat → α} {n j : Nat} {z : α} (h : j < n + 1) : insF f n z j = up f n z j := by
  by_cases e : j = n
  · subst e; rw [insF_at, up_at]
  · rw [insF_lo (by omega), up_ne _ _ e]
/-- A list with a piece of it written over. -/
def spl2 (xs : List Value) (o : Nat) (cs : List Value) : List Value := xs.take o ++ cs ++ xs.drop (o + cs.length)
theorem spl2_len {xs cs : List Value} {o : Nat} (h : o + cs.length ≤ xs.length) : (spl2 xs o cs).length = xs.length := by unfold spl2; simp; omega
theorem spl2_lo {xs cs : List Value} {o k : Nat} (h : o + cs.length ≤ xs.length) (hk : k < o) : (spl2 xs o cs)[k]? = xs[k]? := by
  unfold spl2
  rw [List.append_assoc, List.getElem?_append_left (by rw [List.length_take]; omega), List.getElem?_take_of_lt hk]
theorem spl2_mid {xs cs : List Value} {o k : Nat} (h : o + cs.length ≤ xs.length) (hk : o ≤ k) (h2 : k < o + cs.length) : (spl2 xs o cs)[k]? = cs[k - o]? := by
  unfold spl2
  rw [List.append_assoc, List.getElem?_append_right (by rw [List.length_take]; omega), List.getElem?_append_left (by rw [List.length_take]; omega), List.length_take, Nat.min_eq_left (by omega)]
theorem spl2_hi {xs cs : List Value} {o k : Nat} (h : o + cs.length ≤ xs.length) (hk : o + cs.length ≤ k) : (spl2 xs o cs)[k]? = xs[k]? := by
  unfold spl2
  rw [List.getElem?_append_right (by simp; omega), List.getElem?_drop]
  congr 1
  simp
  omega
theorem ep_ext {xs : List Value} {nu : Nat → Int} {tw : Nat → Value} {n : Nat} (hl : n * 2 ≤ xs.length) (h : ∀ j, j < n → xs[j * 2 + 0]? = some (.int .i64 (nu j)) ∧ xs[j * 2 + 1]? = some (tw j)) : xs.take (n * 2) = epV nu tw n := by
  apply List.ext_getElem?
  intro k
  by_cases hk : k < n * 2
  · rw [List.getElem?_take_of_lt hk]
    have h1 := h (k / 2) (by omega)
    have h2 := epV_at nu tw n (k / 2) (by omega)
    rcases Nat.mod_two_eq_zero_or_one k with e | e
    · rw [show k = k / 2 * 2 + 0 by omega, h1.1, h2.1]
    · rw [show k = k / 2 * 2 + 1 by omega, h1.2, h2.2]
  · rw [List.getElem?_eq_none (by rw [List.length_take]; omega), List.getElem?_eq_none (by rw [epV_len]; omega)]
/-- What must lie there for the epoch to be put in. -/
theorem ins_fin {c : List Value} {nu : Nat → Int} {tw : Nat → Value} {n i : Nat} {z : Int} {u : Value} (hi : i ≤ n) (hl : (n + 1) * 2 ≤ c.length) (h1 : ∀ k, k < i * 2 → c[k]? = (epV nu tw n)[k]?) (h2 : c[i * 2 + 0]? = some (.int .i64 z) ∧ c[i * 2 + 1]? = some u) (h3 : ∀ k, (i + 1) * 2 ≤ k → k < (n + 1) * 2 → c[k]? = (epV nu tw n)[k - 2]?) :
    c.take ((n + 1) * 2) = epV (insF nu i z) (insF tw i u) (n + 1) := by
  refine ep_ext hl fun j hj => ?_
  rcases Nat.lt_trichotomy j i with e | e | e
  · rw [h1 _ (by omega), h1 _ (by omega), insF_lo e, insF_lo e]
    exact epV_at nu tw n j (by omega)
  · subst e
    rw [insF_at, insF_at]
    exact h2
  · rw [h3 _ (by omega) (by omega), h3 _ (by omega) (by omega), insF_hi e, insF_hi e]
    have := epV_at nu tw n (j - 1) (by omega)
    rw [show j * 2 + 0 - 2 = (j - 1) * 2 + 0 by omega, show j * 2 + 1 - 2 = (j - 1) * 2 + 1 by omega]
    exact this
section
variable {o : Oper} {a : Act} {w : World}
theorem slE_h (b off len cap h : Nat) (hh : h ≤ cap) (W : World) : (Instr.sliceAt 22 (.slice (some ⟨b, off, none⟩) len cap) none (some (.int .i64 ((h : Nat) : Int))) none).run Try.prog W = .ok (.slice (some ⟨b, off, none⟩) h cap) W := by
  have hz := Try.sizeOf47
  simp [Instr.sliceAt, Instr.slice, run_underlying Try.underlying22, Instr.sliceBounds, run_sliceBound, hh, Addr.add_mid]
theorem slE_l (b off len cap h : Nat) (hh : h ≤ len) (hc : h < cap) (W : World) : (Instr.sliceAt 22 (.slice (some ⟨b, off, none⟩) len cap) (some (.int .i64 ((h : Nat) : Int))) none none).run Try.prog W = .ok (.slice (some ⟨b, off + h * 2, none⟩) (len - h) (cap - h)) W := by
  have hz := Try.sizeOf47
  have e2 : ¬ cap = h := by omega
  simp [Instr.sliceAt, Instr.slice, run_underlying Try.underlying22, Instr.sliceBounds, run_sliceBound, e2, hh, Addr.add_mid]
theorem slE_c (b off len h : Nat) (hh : h ≤ len) (W : World) : (Instr.sliceAt 22 (.slice (some ⟨b, off, none⟩) len h) (some (.int .i64 ((h : Nat) : Int))) none none).run Try.prog W = .ok (.slice (some ⟨b, off, none⟩) (len - h) 0) W := by
  have hz := Try.sizeOf47
  simp [Instr.sliceAt, Instr.slice, run_underlying Try.underlying22, Instr.sliceBounds, run_sliceBound, hh, Addr.add_mid]
theorem slE_n (W : World) : (Instr.sliceAt 22 (.slice none 0 0) (some (.int .i64 ((0 : Nat) : Int))) none none).run Try.prog W = .ok (.slice none 0 0) W := by
  have hz := Try.sizeOf47
  simp [Instr.sliceAt, Instr.slice, run_underlying Try.underlying22, Instr.sliceBounds, run_sliceBound]
/-- s[i:] of a list of one's own: it is there. -/
theorem slE_any {W : World} {B n i : Nat} {v : Value} {xs : List Value} (h : W.ownsRow B 47 2 v n xs) (hi : i ≤ n) : ∃ r, ∀ X : World, (Instr.sliceAt 22 v (some (.int .i64 ((i : Nat) : Int))) none none).run Try.prog X = .ok r X := by
  rcases h.2 with ⟨rfl, rfl⟩ | ⟨g, cap, cur, rfl, _, _, h1, _⟩
  · obtain rfl : i = 0 := by omega
    exact ⟨_, slE_n⟩
  · by_cases e : i < cap
    · exact ⟨_, slE_l g 0 n cap i hi e⟩
    · obtain rfl : cap = i := by omega
      exact ⟨_, slE_c g 0 n cap hi⟩
theorem execSlHI {x h : Operand} {v vh r : Value} (ho : o.op = .slice 22 x none (some h) none) (hx : a.eval x = v) (hh : a.eval h = vh) (hr : (Instr.sliceAt 22 v none (some vh) none).run Try.prog w = .ok r w) : (execOp a.eval o).run Try.prog w = .ok (.value r) w := by
  unfold execOp
  simp only [ho, hx, hh, Option.map_some, Option.map_none, Sem.run_bind, hr, Result.andThen_ok, Sem.run_pure]
theorem execSlLE {x h : Operand} {v vh r : Value} (ho : o.op = .slice 22 x (some h) none none) (hx : a.eval x = v) (hh : a.eval h = vh) (hr : (Instr.sliceAt 22 v (some vh) none none).run Try.prog w = .ok r w) : (execOp a.eval o).run Try.prog w = .ok (.value r) w := by
  unfold execOp
  simp only [ho, hx, hh, Option.map_some, Option.map_none, Sem.run_bind, hr, Result.andThen_ok, Sem.run_pure]
theorem execCapE {x : Operand} {g : Option Addr} {n c : Nat} (ho : o.op = .call { callee := .builtin .cap, args := #[x], argTypes := #[22] }) (hx : a.eval x = .slice g n c) : (execOp a.eval o).run Try.prog w = .ok (.value (.int .i64 ((c : Nat) : Int))) w := by
  unfold execOp
  simp only [ho, resolve, invoke, builtin, List.map_toArray, List.map_cons, List.map_nil, hx]
  simp [go_sem]
theorem run_copyE (w : World) (ty : TypeId) (g f n c m c2 : Nat) (ad : Addr) (cur : Array Value) (t : TypeId) (cs : List Value) (hg : w.heap[g]? = some (.cells cur t)) (hn : cs.length = Nat.min m n * 2)
    (hs : ∀ j v, cs[j]? = some v → w.cell? (ad.add j) = some v) (hf : f + cs.length ≤ cur.size) (h1 : ∀ v ∈ cs, v.oneCell' = true) :
    (Builtin.copy_ #[22, 22] ty #[.slice (some ⟨g, f, none⟩) n c, .slice (some ad) m c2]).run Try.prog w = .ok (goInt (Nat.min m n)) (w.setRow g (spl2 cur.toList f cs).toArray) := by
  have hl := run_loadCells_list (P := Try.prog) w ad cs hs
  have hst := run_storeCells_at Try.prog g f t cs 0 cur w hg (by simpa using hf) h1
  obtain ⟨i, i1, i2, i3, i4⟩ := infoEp
  simp [Builtin.copy_, run_underlying Try.underlying22, Builtin.lenOf, Builtin.firstCells, sizeOf, typeInfo, i1, i3, ← hn, hl, hst, spl2]
theorem execCopyE {x y : Operand} {g f n c m c2 : Nat} {ad : Addr} {cur : Array Value} {t : TypeId} {cs : List Value} (ho : o.op = .call { callee := .builtin .copy, args := #[x, y], argTypes := #[22, 22] })
    (hx : a.eval x = .slice (some ⟨g, f, none⟩) n c) (hy : a.eval y = .slice (some ad) m c2) (hg : w.heap[g]? = some (.cells cur t)) (hn : cs.length = Nat.min m n * 2)
    (hs : ∀ j v, cs[j]? = some v → w.cell? (ad.add j) = some v) (hf : f + cs.length ≤ cur.size) (h1 : ∀ v ∈ cs, v.oneCell' = true) :
    (execOp a.eval o).run Try.prog w = .ok (.value (goInt (Nat.min m n))) (w.setRow g (spl2 cur.toList f cs).toArray) := by
  have h := run_copyE w o.type g f n c m c2 ad cur t cs hg hn hs hf h1
  unfold execOp
  simp only [ho, resolve, invoke, builtin, Sem.run_bind, Sem.run_pure, Result.andThen_ok, List.map_toArray, List.map_cons, List.map_nil, hx, hy, h]
/-- append(s, make(..)...) that grows: a new row. -/
theorem execAppZ {x y : Operand} {g len cap k : Nat} {olds : List Value} (ho : o.op = .call { callee := .builtin .append, args := #[x, y], argTypes := #[22, 3] }) (hx : a.eval x = .slice (some ⟨g, 0, none⟩) len cap) (hy : a.eval y = .int .i64 ((k : Nat) : Int))
    (hl : olds.length = len * 2) (hold : ∀ j v, olds[j]? = some v → w.cell? ⟨g, 0 + j, none⟩ = some v) (h0 : 0 < k) (hg : cap < len + k) (hb : (len + k) * 32 ≤ 140737488355328) :
    (execOp a.eval o).run Try.prog w = .ok (.value (.slice (some ⟨w.heap.size, 0, none⟩) (len + k) (grownCap w (len + k) cap 47))) (w.drew.alloc (.cells (olds.toArray ++ Builtin.zeroCells (epC 0 (.slice none 0 0)) k ++ Builtin.zeroCells (epC 0 (.slice none 0 0)) (grownCap w (len + k) cap 47 - (len + k))) 47)) := by
  obtain ⟨i, i1, i2, i3, i4⟩ := infoEp
  have hld : (Builtin.firstCells i.size len (.slice (some ⟨g, 0, none⟩) len cap)).run Try.prog w.drew = .ok olds.toArray w.drew := by
    have := run_loadCells_list (P := Try.prog) w.drew ⟨g, 0, none⟩ olds (fun j v hj => by
      have e : (⟨g, 0, none⟩ : Addr).add j = ⟨g, 0 + j, none⟩ := by unfold Addr.add; split <;> simp_all
      rw [e]
      exact hold j v hj)
    rw [hl] at this
    rw [i3]
    exact this
  have hn : Builtin.nextslicecap (len + k) cap * i.bytes ≤ 281474976710656 := by
    have := nextslicecap_le hg
    rw [i4]
    omega
  have h := Lib.run_append_grow_zeros (P := Try.prog) w 22 3 o.type 47 i (.agg (epC 0 (.slice none 0 0))) .i64 .i64 Try.underlying22 (by kernel_rfl) i1 i2 (some ⟨g, 0, none⟩) len cap olds hld k h0 (by omega) hg (by omega) (by rw [i4]; omega) hn
  unfold execOp
  simp only [ho, resolve, invoke, builtin, Sem.run_bind, Sem.run_pure, Result.andThen_ok, List.map_toArray, List.map_cons, List.map_nil, hx, hy, h]
  rfl
theorem execAppZN {x y : Operand} {g len cap k N : Nat} {olds : List Value} (ho : o.op = .call { callee := .builtin .append, args := #[x, y], argTypes := #[22, 3] }) (hx : a.eval x = .slice (some ⟨g, 0, none⟩) len cap) (hy : a.eval y = .int .i64 ((k : Nat) : Int))
    (hN : len + k = N) (hl : olds.length = len * 2) (hold : ∀ j v, olds[j]? = some v → w.cell? ⟨g, 0 + j, none⟩ = some v) (h0 : 0 < k) (hg : cap < N) (hb : N * 32 ≤ 140737488355328) :
    (execOp a.eval o).run Try.prog w = .ok (.value (.slice (some ⟨w.heap.size, 0, none⟩) N (grownCap w N cap 47))) (w.drew.alloc (.cells (olds.toArray ++ Builtin.zeroCells (epC 0 (.slice none 0 0)) k ++ Builtin.zeroCells (epC 0 (.slice none 0 0)) (grownCap w N cap 47 - N)) 47)) := by
  subst hN
  exact execAppZ ho hx hy hl hold h0 hg hb
/-- Two lists in blocks of their own do not overlap. -/
theorem execOvl {x y : Operand} {g h f la ca lb cb : Nat} {c d : Array Value} {t u : TypeId} (ho : o.op = .call { callee := .value (.func 42), args := #[x, y], argTypes := #[22, 22] }) (hx : a.eval x = .slice (some ⟨g, 0, none⟩) la ca) (hy : a.eval y = .slice (some ⟨h, f, none⟩) lb cb)
    (hne : g ≠ h) (hg : w.heap[g]? = some (.cells c t)) (hh : w.heap[h]? = some (.cells d u)) (hd : d.size ≠ 0) : (execOp a.eval o).run Try.prog w = .ok (.value (.bool false)) w := by
  have hr := Lib.run_overlaps_apart (P := Try.prog) w 22 4 47 Try.underlying22 2 Try.sizeOf47 ⟨g, 0, none⟩ ⟨h, f, none⟩ la ca lb cb hne t u c.size d.size (by simp [World.shape?, hg]) (by simp [World.shape?, hh]) hd (by simp [World.frozen?, hg]) (by simp [World.frozen?, hg])
  have hc := run_callFunc_extern (w := w) (args := #[.slice (some ⟨g, 0, none⟩) la ca, .slice (some ⟨h, f, none⟩) lb cb]) Try.func42 (by kernel_rfl) (by kernel_rfl) (by kernel_rfl) (e := Extern.SlicesOverlaps.overlaps #[22, 22] #[4]) (by kernel_rfl)
  have ef : a.eval (.func 42) = .func (.func 42) #[] #[] := rfl
  unfold execOp
  simp only [ho, resolve, invoke, Deferred.ofValue, Sem.run_bind, Sem.run_pure, Result.andThen_ok, List.map_toArray, List.map_cons, List.map_nil, hx, hy, ef]
  rw [hr] at hc
  simp only [Array.empty_append, Array.append_empty]
  exact hc
end
theorem zero_size (z : Array Value) (k : Nat) : (Builtin.zeroCells z k).size = k * z.size := by simp [Builtin.zeroCells]
/-- The new row that append lays. -/
theorem appZ_row {n i k cap N : Nat} {nu : Nat → Int} {tw : Nat → Value} {w : World} (hN : i + k = N) (hi : i ≤ n) (hm : N ≤ maxLen) :
    (((epV nu tw n).take (i * 2)).toArray ++ Builtin.zeroCells (epC 0 (.slice none 0 0)) k ++ Builtin.zeroCells (epC 0 (.slice none 0 0)) (grownCap w N cap 47 - N)).size = grownCap w N cap 47 * 2 ∧ N ≤ grownCap w N cap 47 ∧ grownCap w N cap 47 ≤ maxLen ∧
    ∀ j, j < i * 2 → (((epV nu tw n).take (i * 2)).toArray ++ Builtin.zeroCells (epC 0 (.slice none 0 0)) k ++ Builtin.zeroCells (epC 0 (.slice none 0 0)) (grownCap w N cap 47 - N))[j]? = (epV nu tw n)[j]? := by
  have h1 := grownCap_ge w N cap 47
  have h2 := grownCap_le_maxLen w N cap 47 hm
  have hl : ((epV nu tw n).take (i * 2)).length = i * 2 := by rw [List.length_take, epV_len]; omega
  refine ⟨?_, h1, h2, fun j hj => ?_⟩
  · rw [Array.size_append, Array.size_append, zero_size, zero_size, List.size_toArray, hl]
    show i * 2 + k * 2 + (grownCap w N cap 47 - N) * 2 = _
    omega
  · rw [Array.getElem?_append_left (by rw [Array.size_append, List.size_toArray, hl]; omega), Array.getElem?_append_left (by rw [List.size_toArray, hl]; omega), List.getElem?_toArray, List.getElem?_take_of_lt hj]
/-- A row's cells, told by the list. -/
theorem own_cells {W : World} {B n g cap : Nat} {xs : List Value} (h : W.ownsRow B 47 2 (.slice (some ⟨g, 0, none⟩) n cap) n xs) : B ≤ g ∧ n ≤ cap ∧ cap ≤ maxLen ∧ ∃ cur : Array Value, W.heap[g]? = some (.cells cur 47) ∧ cur.size = cap * 2 ∧ ∀ k, k < n * 2 → cur[k]? = xs[k]? := by
  rcases h.2 with ⟨q, _⟩ | ⟨g2, cap2, cur, e, hB, hg, h1, h2, h3, h4⟩
  · cases q
  · cases e
    exact ⟨hB, h1, h2, cur, hg, h3, fun k hk => by rw [← h4, List.getElem?_take_of_lt hk, Array.getElem?_toList]⟩
theorem epV_one {nu : Nat → Int} {tw : Nat → Value} {n : Nat} (h : ∀ j, j < n → ∃ g m c, tw j = .slice g m c) : ∀ v ∈ epV nu tw n, v.oneCell' = true := fun v hv => by
  obtain ⟨k, hk⟩ := List.getElem?_of_mem hv
  have hl := (List.getElem?_eq_some_iff.1 hk).1
  rw [epV_len] at hl
  have h2 := epV_at nu tw n (k / 2) (by omega)
  rcases Nat.mod_two_eq_zero_or_one k with e | e
  · rw [show k = k / 2 * 2 + 0 by omega, h2.1] at hk
    rw [← Option.some.inj hk]
    rfl
  · rw [show k = k / 2 * 2 + 1 by omega, h2.2] at hk
    rw [← Option.some.inj hk]
    obtain ⟨g, m, c, e2⟩ := h (k / 2) (by omega)
    rw [e2]
    rfl
theorem own_of {W : World} {B n g cap : Nat} {cur : Array Value} {xs : List Value} (hB : B ≤ g) (hg : W.heap[g]? = some (.cells cur 47)) (h1 : n ≤ cap) (h2 : cap ≤ maxLen) (h3 : cur.size = cap * 2) (h4 : cur.toList.take (n * 2) = xs) (h5 : xs.length = n * 2) : W.ownsRow B 47 2 (.slice (some ⟨g, 0, none⟩) n cap) n xs := ⟨h5, Or.inr ⟨g, cap, cur, rfl, hB, hg, h1, h2, h3, h4⟩⟩
theorem grown_setRow {V W : World} {g : Nat} {c : Array Value} (h : V.grownBy W (some g)) : V.grownBy (W.setRow g c) (some g) :=
  ⟨h.os, h.tape, h.output, by have := h.size; simpa [World.setRow] using this, fun k hk hne => by
    rw [setRow_other _ _ _ _ (fun e => hne (by rw [e]))]
    exact h.block k hk hne⟩
end Go.Proofs.Ytijibdapooalcab.Win
