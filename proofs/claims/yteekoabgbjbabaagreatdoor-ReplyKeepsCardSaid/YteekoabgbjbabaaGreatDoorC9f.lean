import Derived.Test.YteekoabgbjbabaaGreatDoorC9b
import Derived.Test.YteekoabgbjbabaaGreatDoorV8f
import Derived.Test.YteekoabgbjbabaaGreatDoorI1
namespace Go.Proofs.YteekoabgbjbabaaGreatDoor.Win
open Go.RowKit Gf8 Aes By8 Cel Cf
/- Windows, epochs and tags in memory; the reference's less, Len, Has. Written by tools/mkC9c.py. -/

abbrev I64 (z : Int) : Prop := -9223372036854775808 ≤ z ∧ z < 9223372036854775808
/-- A list of tags. -/
structure Tgs (W : World) (v : Value) (n : Nat) (t : Nat → Nat → Nat) : Prop where
  shape : ∃ a c, v = .slice a n c ∧ n ≤ c ∧ c < 9223372036854775808 ∧ (0 < n → ∃ b o, a = some ⟨b, o, none⟩ ∧ b < W.heap.size ∧ ∀ j, j < n → ∀ i, i < 16 → W.cell? ⟨b, o + j * 16 + i, none⟩ = some (.int .u8 ((t j i : Nat) : Int)))
  byt : ∀ j, j < n → ∀ i, i < 16 → t j i < 256
  nil : ∀ l c, v = .slice none l c → c = 0
/-- A list of epochs. -/
structure Eps (W : World) (v : Value) (n : Nat) (nu : Nat → Int) (tv : Nat → Value) (ln : Nat → Nat) (t : Nat → Nat → Nat → Nat) : Prop where
  shape : ∃ a c, v = .slice a n c ∧ n ≤ c ∧ c < 9223372036854775808 ∧ (0 < n → ∃ b o, a = some ⟨b, o, none⟩ ∧ b < W.heap.size ∧ ∀ j, j < n → W.cell? ⟨b, o + j * 2 + 0, none⟩ = some (.int .i64 (nu j)) ∧ W.cell? ⟨b, o + j * 2 + 1, none⟩ = some (tv j))
  lists : ∀ j, j < n → Tgs W (tv j) (ln j) (t j)
  nums : ∀ j, j < n → I64 (nu j)
section
variable {W W' : World} {v : Value} {n : Nat} {t : Nat → Nat → Nat}
theorem Tgs.on (h : Tgs W v n t) (hb : Below W.heap.size W W') : Tgs W' v n t := by
  obtain ⟨⟨a, c, e, h1, h2, h3⟩, hp, hz⟩ := h
  refine ⟨⟨a, c, e, h1, h2, fun h0 => ?_⟩, hp, hz⟩
  obtain ⟨b, o, e1, e2, e3⟩ := h3 h0
  exact ⟨b, o, e1, Nat.lt_of_lt_of_le e2 hb.size, fun j hj i hi => by rw [cell_below hb e2]; exact e3 j hj i hi⟩
theorem Tgs.shp (h : Tgs W v n t) : ∃ a c, v = .slice a n c := by
  obtain ⟨a, c, e, _⟩ := h.shape
  exact ⟨a, c, e⟩
theorem Tgs.at (h : Tgs W v n t) (h0 : 0 < n) : ∃ b o c, v = .slice (some ⟨b, o, none⟩) n c ∧ b < W.heap.size ∧ ∀ j, j < n → ∀ i, i < 16 → W.cell? ⟨b, o + j * 16 + i, none⟩ = some (.int .u8 ((t j i : Nat) : Int)) := by
  obtain ⟨a, c, e, _, _, h3⟩ := h.shape
  obtain ⟨b, o, e1, e2, e3⟩ := h3 h0
  exact ⟨b, o, c, by rw [e, e1], e2, e3⟩
end
section
variable {W W' : World} {v : Value} {n : Nat} {nu : Nat → Int} {tv : Nat → Value} {ln : Nat → Nat} {t : Nat → Nat → Nat → Nat}
theorem Eps.on (h : Eps W v n nu tv ln t) (hb : Below W.heap.size W W') : Eps W' v n nu tv ln t := by
  obtain ⟨⟨a, c, e, h1, h2, h3⟩, hl, hn⟩ := h
  refine ⟨⟨a, c, e, h1, h2, fun h0 => ?_⟩, fun j hj => (hl j hj).on hb, hn⟩
  obtain ⟨b, o, e1, e2, e3⟩ := h3 h0
  exact ⟨b, o, e1, Nat.lt_of_lt_of_le e2 hb.size, fun j hj => ⟨by rw [cell_below hb e2]; exact (e3 j hj).1, by rw [cell_below hb e2]; exact (e3 j hj).2⟩⟩
theorem Eps.shp (h : Eps W v n nu tv ln t) : ∃ a c, v = .slice a n c := by
  obtain ⟨a, c, e, _⟩ := h.shape
  exact ⟨a, c, e⟩
theorem Eps.at (h : Eps W v n nu tv ln t) (h0 : 0 < n) : ∃ b o c, v = .slice (some ⟨b, o, none⟩) n c ∧ b < W.heap.size ∧ ∀ j, j < n → W.cell? ⟨b, o + j * 2 + 0, none⟩ = some (.int .i64 (nu j)) ∧ W.cell? ⟨b, o + j * 2 + 1, none⟩ = some (tv j) := by
  obtain ⟨a, c, e, _, _, h3⟩ := h.shape
  obtain ⟨b, o, e1, e2, e3⟩ := h3 h0
  exact ⟨b, o, c, by rw [e, e1], e2, e3⟩
end
section
variable {o : Oper} {a : Act} {w : World} {x y : Operand} {p q : Nat}
end
section
variable {o : Oper} {a : Act} {w : World}
end
end Go.Proofs.YteekoabgbjbabaaGreatDoor.Win

namespace Go.Proofs.YteekoabgbjbabaaGreatDoor.Win
open Go.RowKit Gf8 Aes By8 Cel Cf
/- The reference's Len, Has. Written by tools/mkC9d.py. -/

section
variable {o : Oper} {a : Act} {w : World}
theorem execneq16t {x y : Operand} {f g : Nat → Nat} (ho : o.op = .binOp .neq 35 x y 35) (hx : a.eval x = .agg (bA 16 f)) (hy : a.eval y = .agg (bA 16 g)) (h : eqB 16 f g = true) : (execOp a.eval o).run Tryz.prog w = .ok (.value (.bool false)) w := by
  have := exec_neq16 (w := w) ho hx hy
  rw [h] at this
  exact this
end
end Go.Proofs.YteekoabgbjbabaaGreatDoor.Win

namespace Go.Proofs.YteekoabgbjbabaaGreatDoor.Win
open Go.RowKit Gf8 Aes By8 Cel Cf
/- Rows of tags; the reference's all. Written by tools/mkC9f.py. -/

/-- The cells of a row of tags. -/
def tgV (t : Nat → Nat → Nat) : Nat → List Value
  | 0 => []
  | n + 1 => tgV t n ++ bytesL 16 (t n)
theorem tgV_len (t : Nat → Nat → Nat) : ∀ n, (tgV t n).length = n * 16
  | 0 => rfl
  | n + 1 => by rw [tgV, List.length_append, tgV_len t n, bytesL_len]; omega
theorem tgV_cg {t s : Nat → Nat → Nat} : ∀ n, (∀ j, j < n → t j = s j) → tgV t n = tgV s n
  | 0, _ => rfl
  | n + 1, h => by rw [tgV, tgV, tgV_cg n (fun j hj => h j (by omega)), h n (by omega)]
theorem tgV_at (t : Nat → Nat → Nat) : ∀ n j i, j < n → i < 16 → (tgV t n)[j * 16 + i]? = some (.int .u8 ((t j i : Nat) : Int))
  | 0, _, _, h, _ => by omega
  | n + 1, j, i, h, hi => by
    rw [tgV]
    by_cases q : j < n
    · rw [List.getElem?_append_left (by rw [tgV_len]; omega)]
      exact tgV_at t n j i q hi
    · obtain rfl : j = n := by omega
      rw [List.getElem?_append_right (by rw [tgV_len]; omega), tgV_len, Nat.add_sub_cancel_left]
      exact bytesL_at 16 _ hi
/-- One behind the other. -/
def catT (n : Nat) (t s : Nat → Nat → Nat) (k : Nat) : Nat → Nat := if k < n then t k else s (k - n)
theorem cat_lo {n k : Nat} {t s : Nat → Nat → Nat} (h : k < n) : catT n t s k = t k := if_pos h
theorem cat_hi {n k : Nat} {t s : Nat → Nat → Nat} : catT n t s (n + k) = s k := by
  unfold catT
  rw [if_neg (by omega), Nat.add_sub_cancel_left]
theorem tgV_cat {n : Nat} {t s : Nat → Nat → Nat} : ∀ m, tgV t n ++ tgV s m = tgV (catT n t s) (n + m)
  | 0 => by
    rw [tgV, List.append_nil, Nat.add_zero]
    exact tgV_cg n fun j hj => (cat_lo hj).symm
  | m + 1 => by rw [tgV, ← List.append_assoc, tgV_cat m, ← Nat.add_assoc, tgV, cat_hi]
theorem tgV_one (t : Nat → Nat → Nat) (n : Nat) : ∀ u ∈ tgV t n, u.oneCell' = true := by
  induction n with
  | zero => intro u hu; cases hu
  | succ n ih =>
    intro u hu
    rw [tgV, List.mem_append] at hu
    rcases hu with h | h
    · exact ih u h
    · exact bytesL_one _ _ u h
section
variable {W W' : World} {B n : Nat} {v : Value} {t : Nat → Nat → Nat}
theorem own_tgs (h : W.ownsRow B 35 16 v n (tgV t n)) (hb : ∀ j, j < n → ∀ i, i < 16 → t j i < 256) : Tgs W v n t := by
  rcases h.2 with ⟨rfl, rfl⟩ | ⟨g, cap, cur, rfl, _, hg, q1, q2, q3, q4⟩
  · exact ⟨⟨none, 0, rfl, Nat.le_refl _, by omega, fun h => absurd h (Nat.lt_irrefl _)⟩, hb, fun l c e => by injection e with _ _ e3; exact e3.symm⟩
  · have hm : maxLen < 9223372036854775808 := by decide
    refine ⟨⟨_, _, rfl, q1, by omega, fun _ => ⟨g, 0, rfl, (Array.getElem?_eq_some_iff.1 hg).1, fun j hj i hi => ?_⟩⟩, hb, fun l c e => by cases e⟩
    rw [cell_of_row _ _ _ _ _ _ hg, Nat.zero_add, ← Array.getElem?_toList]
    have h5 : (cur.toList.take (n * 16))[j * 16 + i]? = some (.int .u8 ((t j i : Nat) : Int)) := by rw [q4]; exact tgV_at t n j i hj hi
    rw [List.getElem?_take_of_lt (by omega)] at h5
    exact h5
end
theorem info16 : ∃ i, Tryz.prog.info? 35 = some i ∧ i.zero = some (.agg (bA 16 fun _ => 0)) ∧ i.size = 16 ∧ i.bytes = 16 := by
  have h : (Tryz.prog.info? 35).map (fun i => (i.zero, i.size, i.bytes)) = some (some (.agg (bA 16 fun _ => 0)), 16, 16) := by kernel_rfl
  obtain ⟨i, h1, h2⟩ := Option.map_eq_some_iff.1 h
  simp only [Prod.mk.injEq] at h2
  exact ⟨i, h1, h2.1, h2.2.1, h2.2.2⟩
/-- append of a list of tags. -/
theorem stepAppT {ops : Array Oper} {Q : Exit → Act → World → Prop} {K : Act → World → Prop} {j : Nat} {o : Oper} {a : Act} {W : World} {s x : Operand} {B n m : Nat} {v u : Value} {t p : Nat → Nat → Nat} (hos : ops[j]? = some o) (hgd : Region.wanted o (yielded ops a.tmps) = true)
    (ho : o.op = .call { callee := .builtin .append, args := #[s, x], argTypes := #[23, 23] }) (hs : a.eval s = v) (hx : a.eval x = u) (own : W.ownsRow B 35 16 v n (tgV t n)) (src : Tgs W u m p) (hn : (n + m) * 16 ≤ 140737488355328) (hB : B ≤ W.heap.size)
    (hK : ∀ v' W', W'.ownsRow B 35 16 v' (n + m) (tgV (catT n t p) (n + m)) → W.grownBy W' v.ownBlock → K (a.put o.dst v') W') : wpOp Tryz.prog ops Q j K a W := by
  obtain ⟨i, i1, i2, i3, i4⟩ := info16
  obtain ⟨⟨ao, cap, rfl, q1, q2, q3⟩, hb, hz⟩ := src
  cases ao with
  | none =>
    have hm : m = 0 := by
      rcases Nat.eq_zero_or_pos m with e | e
      · exact e
      · obtain ⟨_, _, e', _⟩ := q3 e
        cases e'
    subst hm
    have hcap := hz _ _ rfl
    subst hcap
    have hr := run_append_owned_none (P := Tryz.prog) W B 23 o.type 35 i 16 Tryz.underlying23 i1 v n (tgV t n) own
    refine stepV hos hgd (v := v) (w' := W) ?_ (hK v W (by rw [← tgV_cat 0]; simpa [tgV] using own) ⟨rfl, rfl, rfl, Nat.le_refl _, fun _ _ _ => rfl⟩)
    unfold execOp
    simp only [ho, resolve, invoke, builtin, Sem.run_bind, Sem.run_pure, Result.andThen_ok, List.map_toArray, List.map_cons, List.map_nil, hs, hx, hr]
  | some ad =>
    obtain ⟨v', w', hr, r1, r2, _⟩ := run_append_own (P := Tryz.prog) W B 23 o.type 35 i (.agg (bA 16 fun _ => 0)) 16 16 Tryz.underlying23 i1 i2 i3 i4 (by simp [Value.cells, bA_size]) (by decide) v n (tgV t n) own ad m cap (tgV p m) (tgV_len p m) (fun j z hzz => by
      have hj : j < m * 16 := by have := (List.getElem?_eq_some_iff.1 hzz).1; rw [tgV_len] at this; exact this
      obtain ⟨b, off, e, _, e3⟩ := q3 (by omega)
      obtain rfl : ad = ⟨b, off, none⟩ := Option.some.inj e
      have h1 := e3 (j / 16) (by omega) (j % 16) (by omega)
      have h2 := tgV_at p m (j / 16) (j % 16) (by omega) (by omega)
      rw [show j / 16 * 16 + j % 16 = j by omega] at h2
      rw [show off + j / 16 * 16 + j % 16 = off + j by omega] at h1
      rw [Go.WideShapes.add_plain, h1, ← h2]
      exact hzz) (tgV_one p m) (by unfold maxLen; omega) (by omega) hB
    rw [tgV_cat] at r1
    refine stepV hos hgd (v := v') (w' := w') ?_ (hK v' w' r1 r2)
    unfold execOp
    simp only [ho, resolve, invoke, builtin, Sem.run_bind, Sem.run_pure, Result.andThen_ok, List.map_toArray, List.map_cons, List.map_nil, hs, hx, hr]
end Go.Proofs.YteekoabgbjbabaaGreatDoor.Win
