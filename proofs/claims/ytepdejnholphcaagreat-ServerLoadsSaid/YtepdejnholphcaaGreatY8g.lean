import Derived.Test.YtepdejnholphcaaGreatY8b
import Derived.Test.YtepdejnholphcaaGreatJ9g
namespace Go.Proofs.YtepdejnholphcaaGreat.Srv
open Go.RowKit Gf8 Aes By8 Cel Cf Win Rnd
/- Lists of epochs and of bytes copied; steps.CopyOf. Written by tools/mkY8g.py. -/

section
variable {o : Oper} {a : Act} {w : World}
theorem execNlEt {x : Operand} {n c : Nat} (ho : o.op = .binOp .eql 25 x (.const (.slice none 0 0)) 25) (hx : a.eval x = .slice none n c) : (execOp a.eval o).run Tryz.prog w = .ok (.value (.bool true)) w := by
  have en := Go.Lib.run_eql_slice_nil (P := Tryz.prog) w 25 57 none n c 0 0 Tryz.underlying25
  have ec : a.eval (.const (.slice none 0 0)) = .slice none 0 0 := rfl
  unfold execOp
  simp only [ho, hx, ec]
  simp [go_sem, en]
theorem execNlEf {x : Operand} {ad : Addr} {n c : Nat} (ho : o.op = .binOp .eql 25 x (.const (.slice none 0 0)) 25) (hx : a.eval x = .slice (some ad) n c) : (execOp a.eval o).run Tryz.prog w = .ok (.value (.bool false)) w := by
  have en := Go.Lib.run_eql_slice_nil (P := Tryz.prog) w 25 57 (some ad) n c 0 0 Tryz.underlying25
  have ec : a.eval (.const (.slice none 0 0)) = .slice none 0 0 := rfl
  unfold execOp
  simp only [ho, hx, ec]
  simp [go_sem, en]
theorem execNlBt {x : Operand} {n c : Nat} (ho : o.op = .binOp .eql 22 x (.const (.slice none 0 0)) 22) (hx : a.eval x = .slice none n c) : (execOp a.eval o).run Tryz.prog w = .ok (.value (.bool true)) w := by
  have en := Go.Lib.run_eql_slice_nil (P := Tryz.prog) w 22 5 none n c 0 0 Tryz.underlying22
  have ec : a.eval (.const (.slice none 0 0)) = .slice none 0 0 := rfl
  unfold execOp
  simp only [ho, hx, ec]
  simp [go_sem, en]
theorem execNlBf {x : Operand} {ad : Addr} {n c : Nat} (ho : o.op = .binOp .eql 22 x (.const (.slice none 0 0)) 22) (hx : a.eval x = .slice (some ad) n c) : (execOp a.eval o).run Tryz.prog w = .ok (.value (.bool false)) w := by
  have en := Go.Lib.run_eql_slice_nil (P := Tryz.prog) w 22 5 (some ad) n c 0 0 Tryz.underlying22
  have ec : a.eval (.const (.slice none 0 0)) = .slice none 0 0 := rfl
  unfold execOp
  simp only [ho, hx, ec]
  simp [go_sem, en]
theorem execBs0E (ho : o.op = .buildSlice 25 0 #[]) : (execOp a.eval o).run Tryz.prog w = .ok (.value (.slice (some ⟨w.heap.size, 0, none⟩) 0 0)) (w.alloc (.cells #[] 57)) := by
  unfold execOp
  simp only [ho]
  simp [go_sem]
theorem execBs0B (ho : o.op = .buildSlice 22 0 #[]) : (execOp a.eval o).run Tryz.prog w = .ok (.value (.slice (some ⟨w.heap.size, 0, none⟩) 0 0)) (w.alloc (.cells #[] 5)) := by
  unfold execOp
  simp only [ho]
  simp [go_sem]
theorem execAlS (ho : o.op = .alloc 29) : (execOp a.eval o).run Tryz.prog w = .ok (.value (.pointer (some ⟨w.heap.size, 0, none⟩))) (w.alloc (.cells (sC 0 0 (.slice none 0 0)) 29)) := by
  unfold execOp
  simp only [ho]
  simp [go_sem, sC]
theorem execStS {x y : Operand} {g : Nat} {n0 w0 nx nw : Int} {v0 ev : Value} (ho : o.op = .store 29 x y) (hx : a.eval x = .pointer (some ⟨g, 0, none⟩)) (hy : a.eval y = .agg (sC nx nw ev)) (hg : w.heap[g]? = some (.cells (sC n0 w0 v0) 29)) (hm : ∃ g n c, ev = .slice g n c) : (execOp a.eval o).run Tryz.prog w = .ok .skip (w.setRow g (sC nx nw ev)) := by
  obtain ⟨b, n, c, rfl⟩ := hm
  have h := execStMid (P := Tryz.prog) ho hx hy hg (Nat.le_refl _) (show (Tryz.prog.info? 29).map (·.size) = some (sC nx nw (.slice b n c)).size from by show _ = some 3; kernel_rfl) (by simp [sC, Value.oneCell'])
  exact h
theorem execStTg {x y : Operand} {b k : Nat} {v old : Value} (ho : o.op = .store 55 x y) (hx : a.eval x = .pointer (some ⟨b, k, none⟩)) (hy : a.eval y = v) (hv : ∃ g n c, v = .slice g n c) (hc : w.cell? ⟨b, k, none⟩ = some old) (hf : w.frozen? ⟨b, k, none⟩ = false) : (execOp a.eval o).run Tryz.prog w = .ok .skip (w.setCell ⟨b, k, none⟩ v) := by
  obtain ⟨g, n, c, rfl⟩ := hv
  unfold execOp
  simp only [ho, hx, hy]
  simp [go_sem, hc, hf]
end
theorem own_emp4 (W : World) (t : TypeId) (s : Nat) : (W.alloc (.cells #[] t)).ownsRow W.heap.size t s (.slice (some ⟨W.heap.size, 0, none⟩) 0 0) 0 [] :=
  ⟨by simp, Or.inr ⟨W.heap.size, 0, #[], rfl, Nat.le_refl _, heapNew W _, Nat.le_refl _, Nat.zero_le _, by simp, by simp⟩⟩
theorem own_nil4 (W : World) (B t s : Nat) : W.ownsRow B t s (.slice none 0 0) 0 [] := ⟨by simp, Or.inl ⟨rfl, rfl⟩⟩
theorem epV_one4 {nu : Nat → Int} {tw : Nat → Value} {n : Nat} (h : ∀ j, j < n → ∃ g m c, tw j = .slice g m c) : ∀ v ∈ epV nu tw n, v.oneCell' = true := fun v hv => by
  obtain ⟨k, hk⟩ := List.getElem?_of_mem hv
  have hl := (List.getElem?_eq_some_iff.1 hk).1
  rw [epV_len] at hl
  have h2 := epV_at nu tw n (k / 2) (by omega)
  rcases Nat.mod_two_eq_zero_or_one k with e | e
  · rw [show k = k / 2 * 2 + 0 by omega, h2.1] at hk
    rw [← Option.some.inj hk]
    rfl
  · rw [show k = k / 2 * 2 + 1 by omega, h2.2] at hk
    rw [← Option.some.inj hk]
    obtain ⟨g, m, c, e2⟩ := h (k / 2) (by omega)
    rw [e2]
    rfl
section
variable {ops : Array Oper} {Q : Exit → Act → World → Prop} {K : Act → World → Prop} {j : Nat} {o : Oper} {a : Act} {W : World} {s x : Operand} {B m : Nat} {v u : Value}
/-- append of a list of epochs to an empty row. -/
theorem stepAppEs {nu : Nat → Int} {tw : Nat → Value} {ln : Nat → Nat} {t : Nat → Nat → Nat → Nat} (hos : ops[j]? = some o) (hgd : Region.wanted o (yielded ops a.tmps) = true)
    (ho : o.op = .call { callee := .builtin .append, args := #[s, x], argTypes := #[25, 25] }) (hs : a.eval s = v) (hx : a.eval x = u) (own : W.ownsRow B 57 2 v 0 []) (src : Eps W u m nu tw ln t) (hu : ∃ ad c, u = .slice (some ad) m c) (hn : m * 32 ≤ 140737488355328) (hB : B ≤ W.heap.size)
    (hK : ∀ v' W', W'.ownsRow B 57 2 v' m (epV nu tw m) → W.grownBy W' v.ownBlock → K (a.put o.dst v') W') : wpOp Tryz.prog ops Q j K a W := by
  obtain ⟨i, i1, i2, i3, i4⟩ := infoEp
  obtain ⟨ad, cap, rfl⟩ := hu
  obtain ⟨ao, c2, e, q1, q2, q3⟩ := src.shape
  cases e
  obtain ⟨v', w', hr, r1, r2, _⟩ := run_append_own (P := Tryz.prog) W B 25 o.type 57 i (.agg (epC 0 (.slice none 0 0))) 2 32 Tryz.underlying25 i1 i2 i3 i4 rfl (by decide) v 0 [] own ad m cap (epV nu tw m) (epV_len nu tw m) (fun j z hz => by
    have hj : j < m * 2 := by have := (List.getElem?_eq_some_iff.1 hz).1; rw [epV_len] at this; exact this
    obtain ⟨b, off, e, _, e3⟩ := q3 (by omega)
    obtain rfl : ad = ⟨b, off, none⟩ := Option.some.inj e
    obtain ⟨k, rfl | rfl⟩ : ∃ k, j = k * 2 + 0 ∨ j = k * 2 + 1 := ⟨j / 2, by omega⟩
    · rw [Go.WideShapes.add_plain, ← Nat.add_assoc, (e3 k (by omega)).1, ← (epV_at nu tw m k (by omega)).1]
      exact hz
    · rw [Go.WideShapes.add_plain, ← Nat.add_assoc, (e3 k (by omega)).2, ← (epV_at nu tw m k (by omega)).2]
      exact hz) (epV_one4 fun j hj => by obtain ⟨g, c, e⟩ := (src.lists j hj).shp; exact ⟨g, _, c, e⟩) (by unfold maxLen; omega) (by omega) hB
  rw [Nat.zero_add, List.nil_append] at r1
  refine stepV hos hgd (v := v') (w' := w') ?_ (hK v' w' r1 r2)
  unfold execOp
  simp only [ho, resolve, invoke, builtin, Sem.run_bind, Sem.run_pure, Result.andThen_ok, List.map_toArray, List.map_cons, List.map_nil, hs, hx, hr]
/-- append of bytes to an empty row. -/
theorem stepAppBs {p : Nat → Nat} (hos : ops[j]? = some o) (hgd : Region.wanted o (yielded ops a.tmps) = true)
    (ho : o.op = .call { callee := .builtin .append, args := #[s, x], argTypes := #[22, 22] }) (hs : a.eval s = v) (hx : a.eval x = u) (own : W.ownsRow B 5 1 v 0 []) (src : SliceN W u m p) (hu : ∃ ad c, u = .slice (some ad) m c) (hn : m ≤ 140737488355328) (hB : B ≤ W.heap.size)
    (hK : ∀ v' W', W'.ownsRow B 5 1 v' m (bytesL m p) → W.grownBy W' v.ownBlock → K (a.put o.dst v') W') : wpOp Tryz.prog ops Q j K a W := by
  obtain ⟨i, i1, i2, i3, i4⟩ : ∃ i, Tryz.prog.info? 5 = some i ∧ i.zero = some (.int .u8 0) ∧ i.size = 1 ∧ i.bytes = 1 := by
    have h : (Tryz.prog.info? 5).map (fun i => (i.zero, i.size, i.bytes)) = some (some (.int .u8 0), 1, 1) := by kernel_rfl
    obtain ⟨i, h1, h2⟩ := Option.map_eq_some_iff.1 h
    simp only [Prod.mk.injEq] at h2
    exact ⟨i, h1, h2.1, h2.2.1, h2.2.2⟩
  obtain ⟨ad, cap, rfl⟩ := hu
  obtain ⟨ao, c2, e, q1, q2, q3⟩ := src.shape
  cases e
  obtain ⟨v', w', hr, r1, r2, _⟩ := run_append_own (P := Tryz.prog) W B 22 o.type 5 i (.int .u8 0) 1 1 Tryz.underlying22 i1 i2 i3 i4 rfl (by decide) v 0 [] own ad m cap (bytesL m p) (by rw [bytesL_len]; omega) (fun j z hz => by
    have hj : j < m := by have := (List.getElem?_eq_some_iff.1 hz).1; rw [bytesL_len] at this; exact this
    obtain ⟨b, off, e, _, e3⟩ := q3 (by omega)
    obtain rfl : ad = ⟨b, off, none⟩ := Option.some.inj e
    rw [Go.WideShapes.add_plain, e3 j hj, ← bytesL_at m p hj]
    exact hz) (bytesL_one m p) (by unfold maxLen; omega) (by omega) hB
  rw [Nat.zero_add, List.nil_append] at r1
  refine stepV hos hgd (v := v') (w' := w') ?_ (hK v' w' r1 r2)
  unfold execOp
  simp only [ho, resolve, invoke, builtin, Sem.run_bind, Sem.run_pure, Result.andThen_ok, List.map_toArray, List.map_cons, List.map_nil, hs, hx, hr]
end
/-- A row of epochs of which the first k have lists of their own, the others those of tw. -/
structure Cps (B : Nat) (W : World) (v : Value) (n k : Nat) (nu : Nat → Int) (tw uw : Nat → Value) (ln : Nat → Nat) (t : Nat → Nat → Nat → Nat) : Prop where
  row : W.ownsRow B 57 2 v n (epV nu uw n)
  rest : ∀ j, k ≤ j → uw j = tw j
  lists : ∀ j, j < k → W.ownsRow B 66 16 (uw j) (ln j) (tgV (t j) (ln j))
def Cpx (B : Nat) (W : World) (v : Value) (n k : Nat) (nu : Nat → Int) (tw : Nat → Value) (ln : Nat → Nat) (t : Nat → Nat → Nat → Nat) : Prop := ∃ uw, Cps B W v n k nu tw uw ln t
section
variable {B n k g b c : Nat} {W X : World} {v x : Value} {nu : Nat → Int} {tw : Nat → Value} {ln : Nat → Nat} {t : Nat → Nat → Nat → Nat} {cs ds : Array Value} {u : TypeId}
theorem Cpx.on (h : Cpx B W v n k nu tw ln t) (hb : Below W.heap.size W X) : Cpx B X v n k nu tw ln t := by
  obtain ⟨uw, h⟩ := h
  exact ⟨uw, ownE_below h.row hb, h.rest, fun j hj => ownE_below (h.lists j hj) hb⟩
theorem Cpx.base {C : Nat} (h : Cpx B W v n k nu tw ln t) (hC : C ≤ B) : Cpx C W v n k nu tw ln t := by
  obtain ⟨uw, h⟩ := h
  exact ⟨uw, ownE_base h.row hC, h.rest, fun j hj => ownE_base (h.lists j hj) hC⟩
theorem Cpx.setR (h : Cpx B W v n k nu tw ln t) (hg : W.heap[g]? = some (.cells cs u)) (h1 : u ≠ 57) (h2 : u ≠ 66) : Cpx B (W.setRow g ds) v n k nu tw ln t := by
  obtain ⟨uw, h⟩ := h
  exact ⟨uw, ownE_setT h.row hg h1, h.rest, fun j hj => ownE_setT (h.lists j hj) hg h2⟩
theorem Cpx.setE (h : Cpx B W v n k nu tw ln t) (hg : W.heap[g]? = some (.cells cs 57)) (h1 : v.ownBlock ≠ some g) : Cpx B (W.setRow g ds) v n k nu tw ln t := by
  obtain ⟨uw, h⟩ := h
  exact ⟨uw, ownE_setN h.row h1, h.rest, fun j hj => ownE_setT (h.lists j hj) hg (by decide)⟩
theorem Cpx.begin (h : W.ownsRow B 57 2 v n (epV nu tw n)) : Cpx B W v n 0 nu tw ln t := ⟨tw, h, fun _ _ => rfl, fun j hj => absurd hj (Nat.not_lt_zero j)⟩
theorem Cpx.shp (h : Cpx B W v n k nu tw ln t) : ∃ g m c, v = .slice g m c := by
  obtain ⟨uw, h⟩ := h
  exact ownE_shp h.row
theorem Cpx.len (h : Cpx B W v n k nu tw ln t) : ∃ a c, v = .slice a n c := by
  obtain ⟨uw, h⟩ := h
  rcases h.row.2 with ⟨e1, e2⟩ | ⟨g, c, _, e, _⟩
  · exact ⟨none, 0, by rw [e1, e2]⟩
  · exact ⟨_, c, e⟩
theorem Cpx.lt (h : Cpx B W v n k nu tw ln t) : ∀ b, v.ownBlock = some b → b < W.heap.size := by
  obtain ⟨uw, h⟩ := h
  exact fun b hb => (h.row.lt b hb).2
theorem Cpx.at (h : Cpx B W v n k nu tw ln t) (h0 : 0 < n) : ∃ b c, v = .slice (some ⟨b, 0, none⟩) n c := by
  obtain ⟨uw, h⟩ := h
  rcases h.row.2 with ⟨_, e2⟩ | ⟨g, c, _, e, _⟩
  · omega
  · exact ⟨g, c, e⟩
theorem Cpx.blk (h : Cpx B W v n k nu tw ln t) (e : v = .slice (some ⟨b, 0, none⟩) n c) : B ≤ b ∧ ∃ cur, W.heap[b]? = some (.cells cur 57) := by
  obtain ⟨uw, h⟩ := h
  subst e
  rcases h.row.2 with ⟨q, _⟩ | ⟨g2, cap2, cur, e, hB, hg, h1, h2, h3, h4⟩
  · cases q
  · cases e
    exact ⟨hB, cur, hg⟩
theorem Cpx.cell (h : Cpx B W v n k nu tw ln t) (e : v = .slice (some ⟨b, 0, none⟩) n c) (hk : k < n) : W.cell? ⟨b, 0 + k * 2 + 0, none⟩ = some (.int .i64 (nu k)) ∧ W.cell? ⟨b, 0 + k * 2 + 1, none⟩ = some (tw k) := by
  obtain ⟨uw, h⟩ := h
  subst e
  rcases h.row.2 with ⟨q, _⟩ | ⟨g2, cap2, cur, e, hB, hg, h1, h2, h3, h4⟩
  · cases q
  · cases e
    have h5 := epV_at nu uw n k hk
    rw [← h4, List.getElem?_take_of_lt (by omega), List.getElem?_take_of_lt (by omega), Array.getElem?_toList, Array.getElem?_toList] at h5
    rw [cell_of_row _ _ _ _ _ _ hg, cell_of_row _ _ _ _ _ _ hg, Nat.zero_add, h5.1, h5.2, h.rest k (Nat.le_refl _)]
    exact ⟨rfl, rfl⟩
theorem Cpx.oth (h : Cpx B W v n k nu tw ln t) (e : v = .slice (some ⟨b, 0, none⟩) n c) (hg : W.heap[g]? = some (.cells cs u)) (hu : u ≠ 57) {i : Nat} : (W.setCell ⟨b, i, none⟩ x).heap[g]? = some (.cells cs u) := by
  obtain ⟨_, cur, hb⟩ := h.blk e
  rw [heap4o _ hb (ne_type hb hg (fun q => hu q.symm))]
  exact hg
theorem Cpx.put (h : Cpx B W v n k nu tw ln t) (e : v = .slice (some ⟨b, 0, none⟩) n c) (hk : k < n) (hr : W.ownsRow B 66 16 x (ln k) (tgV (t k) (ln k))) : Cpx B (W.setCell ⟨b, 0 + k * 2 + 1, none⟩ x) v n (k + 1) nu tw ln t := by
  obtain ⟨_, cu2, hb⟩ := h.blk e
  obtain ⟨uw, h⟩ := h
  subst e
  rcases h.row.2 with ⟨q, _⟩ | ⟨g2, cap2, cur, e, hB, hg, h1, h2, h3, h4⟩
  · cases q
  · cases e
    refine ⟨up uw k x, ⟨epV_len _ _ _, Or.inr ⟨b, c, cur.setIfInBounds (0 + k * 2 + 1) x, rfl, hB, heap4 _ hg, h1, h2, by rw [Array.size_setIfInBounds]; exact h3, ?_⟩⟩, fun j hj => by rw [up_ne _ _ (by omega)]; exact h.rest j (by omega), fun j hj => ?_⟩
    · refine List.ext_getElem? fun i => ?_
      by_cases hi : i < n * 2
      · rw [List.getElem?_take_of_lt hi, Array.getElem?_toList, Array.getElem?_setIfInBounds]
        have h6 : ∀ i, i < n * 2 → cur[i]? = (epV nu uw n)[i]? := fun i hi => by rw [← h4, List.getElem?_take_of_lt hi, Array.getElem?_toList]
        obtain ⟨j, rfl | rfl⟩ : ∃ j, i = j * 2 + 0 ∨ i = j * 2 + 1 := ⟨i / 2, by omega⟩
        · rw [if_neg (by omega), h6 _ hi, (epV_at nu uw n j (by omega)).1, (epV_at nu (up uw k x) n j (by omega)).1]
        · rw [(epV_at nu (up uw k x) n j (by omega)).2]
          by_cases ej : j = k
          · subst ej
            rw [if_pos (by omega), if_pos (by rw [h3]; omega), up_at]
          · rw [if_neg (by omega), h6 _ hi, (epV_at nu uw n j (by omega)).2, up_ne _ _ ej]
      · rw [List.getElem?_eq_none (by rw [List.length_take]; omega), List.getElem?_eq_none (by rw [epV_len]; omega)]
    · by_cases ej : j = k
      · subst ej
        rw [up_at]
        exact ownE_setC hr hg (by decide)
      · rw [up_ne _ _ ej]
        exact ownE_setC (h.lists j (by omega)) hg (by decide)
theorem Cpx.eps (h : Cpx B W v n n nu tw ln t) (hb : ∀ j, j < n → ∀ k, k < ln j → ∀ i, i < 16 → t j k i < 256) (hz : ∀ j, j < n → I64 (nu j)) : ∃ uw, Eps W v n nu uw ln t := by
  obtain ⟨uw, h⟩ := h
  refine ⟨uw, ?_, fun j hj => own_tgs (h.lists j hj) (hb j hj), hz⟩
  rcases h.row.2 with ⟨e1, e2⟩ | ⟨g2, cap2, cur, e, hB, hg, h1, h2, h3, h4⟩
  · exact ⟨none, 0, by rw [e1, e2], by omega, by omega, fun q => absurd q (by omega)⟩
  · refine ⟨_, cap2, e, h1, by unfold maxLen at h2; omega, fun _ => ⟨g2, 0, rfl, (Array.getElem?_eq_some_iff.1 hg).1, fun j hj => ?_⟩⟩
    have h5 := epV_at nu uw n j hj
    rw [← h4, List.getElem?_take_of_lt (by omega), List.getElem?_take_of_lt (by omega), Array.getElem?_toList, Array.getElem?_toList] at h5
    rw [cell_of_row _ _ _ _ _ _ hg, cell_of_row _ _ _ _ _ _ hg, Nat.zero_add]
    exact h5
end
theorem sizeS4 (nx nw : Int) (v : Value) : (Tryz.prog.info? 29).map (·.size) = some (sC nx nw v).size := by show _ = some 3; kernel_rfl
set_option maxRecDepth 100000 in
set_option maxHeartbeats 4000000 in
/-- slices.Clone of epochs. -/
theorem pcloneE (v : Value) (m : Nat) (nu : Nat → Int) (tw : Nat → Value) (ln : Nat → Nat) (t : Nat → Nat → Nat → Nat) (V : World) (hT : Eps V v m nu tw ln t) (hm : m * 32 ≤ 140737488355328) :
    Calls Tryz.prog 22 #[v] V fun e w' => (∃ r, e = .returned r ∧ w'.ownsRow V.heap.size 57 2 r m (epV nu tw m)) ∧ Below V.heap.size V w' := by
  go_enter Tryz.func22, Tryz.ntmps22
  refine wo_ 8 [(0, v)] ?_
  rintro a A ⟨t0, -⟩
  have BB : Below V.heap.size V V := Below.refl _ _
  refine wp_seq ?_
  refine wi_ A (h1_ t0) (rf_ [] (h1_ t0) ?_)
  rintro a A - ⟨t0, -⟩
  refine wp_seq ?_
  refine wp_seq ?_
  obtain ⟨ad, c_, ev_, hmc, -, hs3⟩ := hT.shape
  rcases ad with _ | ad
  · have hm0 : m = 0 := by
      rcases Nat.eq_zero_or_pos m with e_ | e_
      · exact e_
      · obtain ⟨_, _, e2, _⟩ := hs3 e_
        cases e2
    refine wi_ A (h1_ t0) (rv_ 1 (.bool true) (fun a ee => execNlEt rfl ((ee _).trans ev_)) (rf_ [(4, .bool true)] (h1_ t0) ?_))
    rintro a A ⟨t4, -⟩ ⟨t0, -⟩
    refine wp_cond_true t4 ?_
    clear t4
    refine wp_seq ?_
    refine wi_ A (h1_ t0) (rg_ [(2, .slice none 0 0)] ?_)
    rintro a A ⟨t2, -⟩
    refine wp_ret ?_
    repeat (first | with_reducible refine ret_in ?_ | with_reducible refine ret_then ?_)
    refine bodyPost_ret (results_tmp rfl _ _ _) A.2 ⟨⟨_, rfl, ?_⟩, BB⟩
    rw [show a.tmps.getD 2 undef = _ from t2]
    subst hm0
    exact own_nil4 _ _ _ _
  · refine wi_ A (h1_ t0) (rv_ 1 (.bool false) (fun a ee => execNlEf rfl ((ee _).trans ev_)) (rf_ [(4, .bool false)] (h1_ t0) ?_))
    rintro a A ⟨t4, -⟩ ⟨t0, -⟩
    refine wp_cond_false t4 ?_
    refine wp_skip ?_
    clear t4
    refine wp_seq ?_
    obtain ⟨g5, egg5⟩ : ∃ z_ : Nat, V.heap.size = z_ := ⟨_, rfl⟩
    refine wi_ A (h1_ t0) (rs_ 0 (fun a ee => ?_))
    refine stepV rfl rfl (execBs0E rfl) ⟨.slice (some ⟨g5, 0, none⟩) 0 0, ⟨_, rfl, by subst egg5; rfl⟩, fun X3_1 hX => ?_⟩
    have bQ : Below V.heap.size V X3_1 := by subst hX egg5; exact (belNew V _)
    have FO : (X3_1.ownsRow V.heap.size 57 2 (.slice (some ⟨g5, 0, none⟩) 0 0) 0 []) := by subst hX egg5; exact ownE_base (own_emp4 V 57 _) (BB).size
    replace BB := BB.trans (bQ.mono BB.size)
    clear bQ hX egg5 ee a
    refine rs_ 2 (fun a ee => ?_)
    refine stepAppEs rfl rfl rfl (ee _) (ee _) FO (hT.on BB) ⟨ad, c_, ev_⟩ (by omega) (BB).size fun v7 X3 own' gr => ⟨_, ⟨_, rfl, rfl⟩, eqw ?_⟩
    obtain ⟨BB, FR⟩ : Below V.heap.size V X3 ∧ (X3.ownsRow V.heap.size 57 2 v7 m (epV nu tw m)) := ⟨(BB).grown gr (BB).size (fun k hk => (FO.lt k hk).1), own'⟩
    clear FO ee a
    refine rg_ [(2, v7)] ?_
    rintro a A ⟨t2, -⟩
    refine wp_ret ?_
    refine bodyPost_ret (results_tmp rfl _ _ _) A.2 ⟨⟨_, rfl, ?_⟩, BB⟩
    rw [show a.tmps.getD 2 undef = _ from t2]
    exact FR
set_option maxRecDepth 100000 in
set_option maxHeartbeats 4000000 in
/-- slices.Clone of bytes. -/
theorem pcloneB (v : Value) (m : Nat) (p : Nat → Nat) (V : World) (hT : SliceN V v m p) (hm : m ≤ 140737488355328) :
    Calls Tryz.prog 14 #[v] V fun e w' => (∃ r, e = .returned r ∧ w'.ownsRow V.heap.size 5 1 r m (bytesL m p)) ∧ Below V.heap.size V w' := by
  go_enter Tryz.func14, Tryz.ntmps14
  refine wo_ 8 [(0, v)] ?_
  rintro a A ⟨t0, -⟩
  have BB : Below V.heap.size V V := Below.refl _ _
  refine wp_seq ?_
  refine wi_ A (h1_ t0) (rf_ [] (h1_ t0) ?_)
  rintro a A - ⟨t0, -⟩
  refine wp_seq ?_
  refine wp_seq ?_
  obtain ⟨ad, c_, ev_, hmc, -, hs3⟩ := hT.shape
  rcases ad with _ | ad
  · have hm0 : m = 0 := by
      rcases Nat.eq_zero_or_pos m with e_ | e_
      · exact e_
      · obtain ⟨_, _, e2, _⟩ := hs3 e_
        cases e2
    refine wi_ A (h1_ t0) (rv_ 1 (.bool true) (fun a ee => execNlBt rfl ((ee _).trans ev_)) (rf_ [(4, .bool true)] (h1_ t0) ?_))
    rintro a A ⟨t4, -⟩ ⟨t0, -⟩
    refine wp_cond_true t4 ?_
    clear t4
    refine wp_seq ?_
    refine wi_ A (h1_ t0) (rg_ [(2, .slice none 0 0)] ?_)
    rintro a A ⟨t2, -⟩
    refine wp_ret ?_
    repeat (first | with_reducible refine ret_in ?_ | with_reducible refine ret_then ?_)
    refine bodyPost_ret (results_tmp rfl _ _ _) A.2 ⟨⟨_, rfl, ?_⟩, BB⟩
    rw [show a.tmps.getD 2 undef = _ from t2]
    subst hm0
    exact own_nil4 _ _ _ _
  · refine wi_ A (h1_ t0) (rv_ 1 (.bool false) (fun a ee => execNlBf rfl ((ee _).trans ev_)) (rf_ [(4, .bool false)] (h1_ t0) ?_))
    rintro a A ⟨t4, -⟩ ⟨t0, -⟩
    refine wp_cond_false t4 ?_
    refine wp_skip ?_
    clear t4
    refine wp_seq ?_
    obtain ⟨g5, egg5⟩ : ∃ z_ : Nat, V.heap.size = z_ := ⟨_, rfl⟩
    refine wi_ A (h1_ t0) (rs_ 0 (fun a ee => ?_))
    refine stepV rfl rfl (execBs0B rfl) ⟨.slice (some ⟨g5, 0, none⟩) 0 0, ⟨_, rfl, by subst egg5; rfl⟩, fun X3_1 hX => ?_⟩
    have bQ : Below V.heap.size V X3_1 := by subst hX egg5; exact (belNew V _)
    have FO : (X3_1.ownsRow V.heap.size 5 1 (.slice (some ⟨g5, 0, none⟩) 0 0) 0 []) := by subst hX egg5; exact ownE_base (own_emp4 V 5 _) (BB).size
    replace BB := BB.trans (bQ.mono BB.size)
    clear bQ hX egg5 ee a
    refine rs_ 2 (fun a ee => ?_)
    refine stepAppBs rfl rfl rfl (ee _) (ee _) FO (hT.on BB) ⟨ad, c_, ev_⟩ (by omega) (BB).size fun v7 X3 own' gr => ⟨_, ⟨_, rfl, rfl⟩, eqw ?_⟩
    obtain ⟨BB, FR⟩ : Below V.heap.size V X3 ∧ (X3.ownsRow V.heap.size 5 1 v7 m (bytesL m p)) := ⟨(BB).grown gr (BB).size (fun k hk => (FO.lt k hk).1), own'⟩
    clear FO ee a
    refine rg_ [(2, v7)] ?_
    rintro a A ⟨t2, -⟩
    refine wp_ret ?_
    refine bodyPost_ret (results_tmp rfl _ _ _) A.2 ⟨⟨_, rfl, ?_⟩, BB⟩
    rw [show a.tmps.getD 2 undef = _ from t2]
    exact FR
set_option maxRecDepth 100000 in
set_option maxHeartbeats 4000000 in
/-- steps.CopyOf. -/
theorem pcopyS (nx nw : Int) (ev : Value) (n : Nat) (nu : Nat → Int) (tw : Nat → Value) (ln : Nat → Nat) (t : Nat → Nat → Nat → Nat) (V : World) (hE : Eps V ev n nu tw ln t) (hn : n * 32 ≤ 140737488351232) (hl : ∀ j, j < n → ln j * 16 ≤ 140737488351232) :
    Calls Tryz.prog 15 #[.agg (sC nx nw ev)] V fun e w' => (∃ fv, e = .returned (.agg (sC nx nw fv)) ∧ Cpx V.heap.size w' fv n n nu tw ln t) ∧ Below V.heap.size V w' := by
  have hev : ∃ g n c, ev = .slice g n c := by obtain ⟨g, c, e⟩ := hE.shp; exact ⟨g, n, c, e⟩
  go_enter Tryz.func15, Tryz.ntmps15
  refine wo_ 31 [(0, .agg (sC nx nw ev))] ?_
  rintro a A ⟨t0, -⟩
  have BW : Below V.heap.size V V := Below.refl _ _
  have BB := BW
  refine wp_seq ?_
  obtain ⟨g1, egg1⟩ : ∃ z_ : Nat, V.heap.size = z_ := ⟨_, rfl⟩
  refine wi_ A (h1_ t0) (rs_ 0 (fun a ee => ?_))
  refine stepV rfl rfl (execBxS hev rfl (ee _)) ⟨.pointer (some ⟨g1, 0, none⟩), ⟨_, rfl, by subst egg1; rfl⟩, fun X0_1 hX => ?_⟩
  have bQ : Below V.heap.size V X0_1 := by subst hX egg1; exact (belNew V _)
  have Fg1 : (X0_1.heap[g1]? = some (.cells (sC nx nw ev) 29)) := by subst hX egg1; exact heapNew V _
  have FGg1 : (V.heap.size ≤ g1) := by subst hX egg1; exact (BB).size
  replace BB := BB.trans (bQ.mono BB.size)
  clear bQ hX egg1 ee a
  obtain ⟨g2, egg2⟩ : ∃ z_ : Nat, X0_1.heap.size = z_ := ⟨_, rfl⟩
  refine rs_ 1 (fun a ee => ?_)
  refine stepV rfl rfl (execAlS rfl) ⟨.pointer (some ⟨g2, 0, none⟩), ⟨_, rfl, by subst egg2; rfl⟩, fun X0 hX => ?_⟩
  have bQ : Below X0_1.heap.size X0_1 X0 := by subst hX egg2; exact (belNew X0_1 _)
  have Fg2 : (X0.heap[g2]? = some (.cells (sC 0 0 (.slice none 0 0)) 29)) := by subst hX egg2; exact heapNew X0_1 _
  have FGg2 : (V.heap.size ≤ g2) := by subst hX egg2; exact (BB).size
  have FN : (g1 ≠ g2) := by subst hX egg2; exact Nat.ne_of_lt (Array.getElem?_eq_some_iff.1 Fg1).1
  replace Fg1 := (on9 Fg1 bQ)
  replace BB := BB.trans (bQ.mono BB.size)
  clear bQ hX egg2 ee a
  refine rg_ [(1, .pointer (some ⟨g1, 0, none⟩)), (2, .pointer (some ⟨g2, 0, none⟩))] ?_
  rintro a A ⟨t1, t2, -⟩
  refine wp_seq ?_
  refine wi_ A (h2_ t1 t2) (rv_ 0 (.pointer (some ⟨g1, 1, none⟩)) (fun a ee => execFS1 rfl (ee _)) (rv_ 1 (.pointer (some ⟨g1, 1 + 1, none⟩)) (fun a ee => execFW1k rfl (ee _)) (rv_ 2 (ev) (fun a ee => execLdEs rfl (ee _) (row_1 Fg1 rfl)) (rc_ 3 (pcloneE ev n nu tw ln t X0 (hE.on BB) (by omega)) fun e X1_1 hh => ?_))))
  obtain ⟨⟨v8, he, hk⟩, hb⟩ := hh
  refine ⟨_, he, ?_⟩
  have bQ : Below X0.heap.size X0 X1_1 := hb
  have FR : (X1_1.ownsRow V.heap.size 57 2 v8 n (epV nu tw n)) := ownE_base hk (BB).size
  replace Fg1 := (on9 Fg1 bQ)
  replace Fg2 := (on9 Fg2 bQ)
  replace BB := BB.trans (bQ.mono BB.size)
  clear bQ
  refine rv_ 4 (.pointer (some ⟨g1, 1, none⟩)) (fun a ee => execFS1 rfl (ee _)) (rv_ 5 (.pointer (some ⟨g1, 1 + 1, none⟩)) (fun a ee => execFW1k rfl (ee _)) (rs_ 6 (fun a ee => ?_)))
  refine stepS rfl rfl (execStEs rfl (ee _) (ee _) (ownE_shp FR) (row_1 Fg1 rfl) (frozen4 Fg1)) ⟨_, ⟨_, rfl, rfl⟩, fun X1 hX => ?_⟩
  obtain ⟨BB, Fg2, FR, FSt⟩ : Below V.heap.size V X1 ∧ (X1.heap[g2]? = some (.cells (sC 0 0 (.slice none 0 0)) 29)) ∧ (X1.ownsRow V.heap.size 57 2 v8 n (epV nu tw n)) ∧ (X1.heap[g1]? = some (.cells (sC nx nw v8) 29)) := by subst hX; exact ⟨(BB).setCell FGg1 _, ((heap4o _ Fg1 (fun e_ => FN e_.symm)).trans Fg2), ownE_setC FR Fg1 (by decide), heap4 _ Fg1⟩
  clear Fg1 hX ee a
  refine rf_ [] (h2_ t1 t2) ?_
  rintro a A - ⟨t1, t2, -⟩
  have FC : Cpx V.heap.size X1 v8 n 0 nu tw ln t := Cpx.begin FR
  clear FR
  have hsh := FC.len
  have hat := FC.at
  refine wp_seq ?_
  refine wp_seq ?_
  refine wi_ A (h2_ t1 t2) (rv_ 0 (.pointer (some ⟨g1, 1, none⟩)) (fun a ee => execFS1 rfl (ee _)) (rv_ 1 (.pointer (some ⟨g1, 1 + 1, none⟩)) (fun a ee => execFW1k rfl (ee _)) (rv_ 2 (v8) (fun a ee => execLdEs rfl (ee _) (row_1 FSt rfl)) (rv_ 3 (.int .i64 ((n : Nat) : Int)) (fun a ee => execLenEs (len := n) rfl (ee _) hsh) (rf_ [(13, v8), (14, .int .i64 ((n : Nat) : Int)), (15, .int .i64 ((0 : Nat) : Int))] (h2_ t1 t2) ?_)))))
  rintro a A ⟨t13, t14, t15, -⟩ ⟨t1, t2, -⟩
  refine wp_block ?_
  refine wp_loop (fun a W => ∃ (i : Nat), i ≤ n ∧ (a.tmps.size = 31 ∧ a.defers = []) ∧ a.eval (.tmp 1) = .pointer (some ⟨g1, 0, none⟩) ∧ a.eval (.tmp 2) = .pointer (some ⟨g2, 0, none⟩) ∧ a.eval (.tmp 13) = v8 ∧ a.eval (.tmp 14) = .int .i64 ((n : Nat) : Int) ∧ a.eval (.tmp 15) = .int .i64 ((i : Nat) : Int) ∧ Below V.heap.size V W ∧ (W.heap[g1]? = some (.cells (sC nx nw v8) 29)) ∧ (W.heap[g2]? = some (.cells (sC 0 0 (.slice none 0 0)) 29)) ∧ (Cpx V.heap.size W v8 n i nu tw ln t)) (fun a _ => n - (intOf (a.eval (.tmp 15))).toNat) ⟨0, Nat.zero_le _, A, t1, t2, t13, t14, t15, BB, FSt, Fg2, FC⟩ ?_
  clear A t1 t2 t13 t14 t15 BB FSt Fg2 FC a
  rintro a XL3 ⟨i, hi, A, t1, t2, t13, t14, t15, BB, FSt, Fg2, FC⟩
  have esi := t15
  refine wp_seq ?_
  refine wi_ A (h5_ t1 t2 t13 t14 t15) (rv_ 0 (.bool (decide (i < n))) (fun a ee => execLtW (p := i) (q := n) rfl (ee _) (ee _)) (rf_ [(16, .bool (decide (i < n)))] (h5_ t1 t2 t13 t14 t15) ?_))
  rintro a A ⟨t16, -⟩ ⟨t1, t2, t13, t14, t15, -⟩
  refine wp_seq ?_
  by_cases lti : i < n
  · rw [decide_eq_true lti] at t16
    refine wp_cond_true t16 ?_
    refine wp_skip ?_
    clear t16
    refine wp_seq ?_
    refine wp_block ?_
    obtain ⟨b8, c8, e8⟩ := hat (by omega)
    have hTe := hE.lists i lti
    have hb8 := (FC.blk e8).1
    refine wp_seq ?_
    obtain ⟨g4, egg4⟩ : ∃ z_ : Nat, XL3.heap.size = z_ := ⟨_, rfl⟩
    refine wi_ A (h5_ t1 t2 t13 t14 t15) (rv_ 1 (.pointer (some ⟨b8, 0 + i * 2, none⟩)) (fun a ee => execIdxEs (k := i) rfl ((ee _).trans e8) (ee _) lti) (rv_ 2 (.agg (epC (nu i) (tw i))) (fun a ee => execLdEp rfl (ee _) (FC.cell e8 lti).1 (FC.cell e8 lti).2) (rs_ 3 (fun a ee => ?_))))
    refine stepV rfl rfl (execAllEp rfl) ⟨.pointer (some ⟨g4, 0, none⟩), ⟨_, rfl, by subst egg4; rfl⟩, fun X4_1 hX => ?_⟩
    have bQ : Below XL3.heap.size XL3 X4_1 := by subst hX egg4; exact (belNew XL3 _)
    have Fg4 : (X4_1.heap[g4]? = some (.cells (epC 0 (.slice none 0 0)) 57)) := by subst hX egg4; exact heapNew XL3 _
    have FG4 : (V.heap.size ≤ g4) := by subst hX egg4; exact (BB).size
    have FD : (v8.ownBlock ≠ some g4) := by subst hX egg4; exact fun q_ => Nat.lt_irrefl _ (FC.lt _ q_)
    replace FSt := (on9 FSt bQ)
    replace Fg2 := (on9 Fg2 bQ)
    replace FC := (FC.on bQ)
    replace BB := BB.trans (bQ.mono BB.size)
    clear bQ hX egg4 ee a
    refine rs_ 5 (fun a ee => ?_)
    refine stepS rfl rfl (execStEp rfl (ee _) (ee _) Fg4 (by obtain ⟨_, _, e_⟩ := hTe.shp; rw [e_]; rfl)) ⟨_, ⟨_, rfl, rfl⟩, fun X4 hX => ?_⟩
    obtain ⟨BB, FSt, Fg2, FC, Fe⟩ : Below V.heap.size V X4 ∧ (X4.heap[g1]? = some (.cells (sC nx nw v8) 29)) ∧ (X4.heap[g2]? = some (.cells (sC 0 0 (.slice none 0 0)) 29)) ∧ (Cpx V.heap.size X4 v8 n i nu tw ln t) ∧ (X4.heap[g4]? = some (.cells (epC (nu i) (tw i)) 57)) := by subst hX; exact ⟨below4 BB FG4 _, (by rw [setRow_other _ _ _ _ (ne_type Fg4 FSt (by decide))]; exact FSt), (by rw [setRow_other _ _ _ _ (ne_type Fg4 Fg2 (by decide))]; exact Fg2), (FC).setE Fg4 FD, setRow_heap _ _ _ _ _ _ Fg4⟩
    clear Fg4 hX ee a
    refine rf_ [(3, .int .i64 ((i : Nat) : Int)), (4, .pointer (some ⟨g4, 0, none⟩))] (h5_ t1 t2 t13 t14 t15) ?_
    rintro a A ⟨t3, t4, -⟩ ⟨t1, t2, t13, t14, t15, -⟩
    clear FG4 FD
    refine wj_ [0, 1, 2, 3, 4, 5, 6, 7, 8, 9] [6, 9] [2, 5] [9] A (h7_ t1 t2 t13 t14 t15 t3 t4) (fun X5_0 bD => ?_)
    refine dw_ 0 (.pointer (some ⟨g1, 1, none⟩)) (fun a X ee => execFS1 rfl (ee _)) (dw_ 1 (.pointer (some ⟨g1, 1 + 1, none⟩)) (fun a X ee => execFW1k rfl (ee _)) (dv_ 2 (v8) (fun a X ee hb => execLdEs rfl (ee _) (row_1 (on9 FSt hb) rfl)) (dw_ 4 (.pointer (some ⟨g4, 0 + 1, none⟩)) (fun a X ee => execFldE1 rfl (ee _)) (dv_ 5 (tw i) (fun a X ee hb => execLdTs rfl (ee _) (epC_1 (on9 Fe hb))) (dc_ 6 (pclone16 (tw i) (ln i) (t i) X5_0 (hTe.on (BB.trans (bD.mono BB.size))) (by have := hl i lti; omega)) fun e X5_1 hh => ?_)))))
    obtain ⟨⟨v26, he, hk⟩, hb⟩ := hh
    refine ⟨_, he, ?_⟩
    have bQ : Below X5_0.heap.size X5_0 X5_1 := hb
    have FR : (X5_1.ownsRow V.heap.size 66 16 v26 (ln i) (tgV (t i) (ln i))) := ownE_base hk ((BB.trans (bD.mono BB.size))).size
    replace bD := bD.trans (bQ.mono bD.size)
    clear bQ
    refine ⟨Or.inr bD, ?_⟩
    refine dw_ 7 (.pointer (some ⟨b8, 0 + i * 2, none⟩)) (fun a X ee => execIdxEs (k := i) rfl ((ee _).trans e8) (ee _) lti) (dw_ 8 (.pointer (some ⟨b8, 0 + i * 2 + 1, none⟩)) (fun a X ee => execFldE1 rfl (ee _)) (ds_ 9 (fun a ee => ?_)))
    refine stepS rfl rfl (execStTg rfl (ee _) (ee _) (ownE_shp FR) ((FC.on bD).cell e8 lti).2 (frozen4 (((FC.on bD).blk e8).2.choose_spec))) ⟨_, ⟨_, rfl, rfl⟩, fun X5 hX => ?_⟩
    obtain ⟨BB, FSt, Fg2, FC2⟩ : Below V.heap.size V X5 ∧ (X5.heap[g1]? = some (.cells (sC nx nw v8) 29)) ∧ (X5.heap[g2]? = some (.cells (sC 0 0 (.slice none 0 0)) 29)) ∧ (Cpx V.heap.size X5 v8 n (i + 1) nu tw ln t) := by subst hX; exact ⟨((BB.trans (bD.mono BB.size))).setCell hb8 _, ((FC.on bD).oth e8 (on9 FSt bD) (by decide)), ((FC.on bD).oth e8 (on9 Fg2 bD) (by decide)), (FC.on bD).put e8 lti FR⟩
    clear bD FR FC Fe hX ee a
    refine ⟨Or.inl rfl, ?_⟩
    refine dz_ [] (h5_ t1 t2 t13 t14 t15) ?_
    rintro a A - ⟨t1, t2, t13, t14, t15, -⟩
    refine wi_ A (h5_ t1 t2 t13 t14 t15) (rv_ 0 (.int .i64 ((i + 1 : Nat) : Int)) (fun a ee => execAd8 (p := i) (q := 1) rfl (ee _) rfl (by omega)) (rf_ [(15, .int .i64 ((i + 1 : Nat) : Int))] (h4_ t1 t2 t13 t14) ?_))
    rintro a A ⟨t15, -⟩ ⟨t1, t2, t13, t14, -⟩
    exact ⟨⟨i + 1, lti, A, t1, t2, t13, t14, t15, BB, FSt, Fg2, FC2⟩, by show n - (intOf (a.eval (.tmp 15))).toNat < n - (intOf (Act.eval _ (.tmp 15))).toNat; rw [t15, esi]; show n - (i + 1) < n - i; omega⟩
  · rw [decide_eq_false lti] at t16
    refine wp_cond_false t16 ?_
    refine wp_exit ?_
    first | with_reducible refine exit_in ?_ | with_reducible refine exit_then (exit_in ?_) | with_reducible refine exit_then (exit_then (exit_in ?_)) | refine exit_in ?_ | refine exit_then (exit_in ?_) | refine exit_then (exit_then (exit_in ?_))
    clear t16 esi
    have ein : i = n := by omega
    rw [ein] at FC
    refine wp_seq ?_
    refine wi_ A (h5_ t1 t2 t13 t14 t15) (rv_ 0 (.agg (sC nx nw v8)) (fun a ee => execLdS rfl (ee _) FSt) (rs_ 1 (fun a ee => ?_)))
    refine stepS rfl rfl (execStS rfl (ee _) (ee _) Fg2 FC.shp) ⟨_, ⟨_, rfl, rfl⟩, fun X7 hX => ?_⟩
    obtain ⟨BB, FC, Fs⟩ : Below V.heap.size V X7 ∧ (Cpx V.heap.size X7 v8 n n nu tw ln t) ∧ (X7.heap[g2]? = some (.cells (sC nx nw v8) 29)) := by subst hX; exact ⟨below4 BB FGg2 _, (FC).setR Fg2 (by decide) (by decide), setRow_heap _ _ _ _ _ _ Fg2⟩
    clear FSt Fg2 hX ee a
    refine rf_ [] (h1_ t2) ?_
    rintro a A - ⟨t2, -⟩
    refine wp_ret ?_
    refine bodyPost_ret (results_cell1 Tryz.results15 _ _ g2 29 _ (0, 0) _ t2 Fs Tryz.underlying29 rfl (sizeS4 _ _ _)) A.2 ⟨⟨v8, rfl, FC⟩, BB⟩
end Go.Proofs.YtepdejnholphcaaGreat.Srv
