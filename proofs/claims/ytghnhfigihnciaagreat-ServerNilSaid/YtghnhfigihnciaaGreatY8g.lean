import Derived.Test.YtghnhfigihnciaaGreatY8b
import Derived.Test.YtghnhfigihnciaaGreatJ9g
namespace Go.Proofs.YtghnhfigihnciaaGreat.Srv
open Go.RowKit Gf8 Aes By8 Cel Cf Win Rnd
/- Lists of epochs and of bytes copied; steps.CopyOf. Written by tools/mkY8g.py. -/

section
variable {o : Oper} {a : Act} {w : World}
theorem execAlS (ho : o.op = .alloc 33) : (execOp a.eval o).run Tryz.prog w = .ok (.value (.pointer (some ⟨w.heap.size, 0, none⟩))) (w.alloc (.cells (sC 0 0 (.slice none 0 0)) 33)) := by
  unfold execOp
  simp only [ho]
  simp [go_sem, sC]
theorem execStS {x y : Operand} {g : Nat} {n0 w0 nx nw : Int} {v0 ev : Value} (ho : o.op = .store 33 x y) (hx : a.eval x = .pointer (some ⟨g, 0, none⟩)) (hy : a.eval y = .agg (sC nx nw ev)) (hg : w.heap[g]? = some (.cells (sC n0 w0 v0) 33)) (hm : ∃ g n c, ev = .slice g n c) : (execOp a.eval o).run Tryz.prog w = .ok .skip (w.setRow g (sC nx nw ev)) := by
  obtain ⟨b, n, c, rfl⟩ := hm
  have h := execStMid (P := Tryz.prog) ho hx hy hg (Nat.le_refl _) (show (Tryz.prog.info? 33).map (·.size) = some (sC nx nw (.slice b n c)).size from by show _ = some 3; kernel_rfl) (by simp [sC, Value.oneCell'])
  exact h
end
section
variable {ops : Array Oper} {Q : Exit → Act → World → Prop} {K : Act → World → Prop} {j : Nat} {o : Oper} {a : Act} {W : World} {s x : Operand} {B m : Nat} {v u : Value}
end
/-- A row of epochs of which the first k have lists of their own, the others those of tw. -/
structure Cps (B : Nat) (W : World) (v : Value) (n k : Nat) (nu : Nat → Int) (tw uw : Nat → Value) (ln : Nat → Nat) (t : Nat → Nat → Nat → Nat) : Prop where
  row : W.ownsRow B 65 2 v n (epV nu uw n)
  rest : ∀ j, k ≤ j → uw j = tw j
  lists : ∀ j, j < k → W.ownsRow B 74 16 (uw j) (ln j) (tgV (t j) (ln j))
def Cpx (B : Nat) (W : World) (v : Value) (n k : Nat) (nu : Nat → Int) (tw : Nat → Value) (ln : Nat → Nat) (t : Nat → Nat → Nat → Nat) : Prop := ∃ uw, Cps B W v n k nu tw uw ln t
section
variable {B n k g b c : Nat} {W X : World} {v x : Value} {nu : Nat → Int} {tw : Nat → Value} {ln : Nat → Nat} {t : Nat → Nat → Nat → Nat} {cs ds : Array Value} {u : TypeId}
theorem Cpx.on (h : Cpx B W v n k nu tw ln t) (hb : Below W.heap.size W X) : Cpx B X v n k nu tw ln t := by
  obtain ⟨uw, h⟩ := h
  exact ⟨uw, ownE_below h.row hb, h.rest, fun j hj => ownE_below (h.lists j hj) hb⟩
theorem Cpx.base {C : Nat} (h : Cpx B W v n k nu tw ln t) (hC : C ≤ B) : Cpx C W v n k nu tw ln t := by
  obtain ⟨uw, h⟩ := h
  exact ⟨uw, ownE_base h.row hC, h.rest, fun j hj => ownE_base (h.lists j hj) hC⟩
theorem Cpx.shp (h : Cpx B W v n k nu tw ln t) : ∃ g m c, v = .slice g m c := by
  obtain ⟨uw, h⟩ := h
  exact ownE_shp h.row
theorem Cpx.len (h : Cpx B W v n k nu tw ln t) : ∃ a c, v = .slice a n c := by
  obtain ⟨uw, h⟩ := h
  rcases h.row.2 with ⟨e1, e2⟩ | ⟨g, c, _, e, _⟩
  · exact ⟨none, 0, by rw [e1, e2]⟩
  · exact ⟨_, c, e⟩
theorem Cpx.lt (h : Cpx B W v n k nu tw ln t) : ∀ b, v.ownBlock = some b → b < W.heap.size := by
  obtain ⟨uw, h⟩ := h
  exact fun b hb => (h.row.lt b hb).2
theorem Cpx.at (h : Cpx B W v n k nu tw ln t) (h0 : 0 < n) : ∃ b c, v = .slice (some ⟨b, 0, none⟩) n c := by
  obtain ⟨uw, h⟩ := h
  rcases h.row.2 with ⟨_, e2⟩ | ⟨g, c, _, e, _⟩
  · omega
  · exact ⟨g, c, e⟩
theorem Cpx.blk (h : Cpx B W v n k nu tw ln t) (e : v = .slice (some ⟨b, 0, none⟩) n c) : B ≤ b ∧ ∃ cur, W.heap[b]? = some (.cells cur 65) := by
  obtain ⟨uw, h⟩ := h
  subst e
  rcases h.row.2 with ⟨q, _⟩ | ⟨g2, cap2, cur, e, hB, hg, h1, h2, h3, h4⟩
  · cases q
  · cases e
    exact ⟨hB, cur, hg⟩
theorem Cpx.cell (h : Cpx B W v n k nu tw ln t) (e : v = .slice (some ⟨b, 0, none⟩) n c) (hk : k < n) : W.cell? ⟨b, 0 + k * 2 + 0, none⟩ = some (.int .i64 (nu k)) ∧ W.cell? ⟨b, 0 + k * 2 + 1, none⟩ = some (tw k) := by
  obtain ⟨uw, h⟩ := h
  subst e
  rcases h.row.2 with ⟨q, _⟩ | ⟨g2, cap2, cur, e, hB, hg, h1, h2, h3, h4⟩
  · cases q
  · cases e
    have h5 := epV_at nu uw n k hk
    rw [← h4, List.getElem?_take_of_lt (by omega), List.getElem?_take_of_lt (by omega), Array.getElem?_toList, Array.getElem?_toList] at h5
    rw [cell_of_row _ _ _ _ _ _ hg, cell_of_row _ _ _ _ _ _ hg, Nat.zero_add, h5.1, h5.2, h.rest k (Nat.le_refl _)]
    exact ⟨rfl, rfl⟩
theorem Cpx.put (h : Cpx B W v n k nu tw ln t) (e : v = .slice (some ⟨b, 0, none⟩) n c) (hk : k < n) (hr : W.ownsRow B 74 16 x (ln k) (tgV (t k) (ln k))) : Cpx B (W.setCell ⟨b, 0 + k * 2 + 1, none⟩ x) v n (k + 1) nu tw ln t := by
  obtain ⟨_, cu2, hb⟩ := h.blk e
  obtain ⟨uw, h⟩ := h
  subst e
  rcases h.row.2 with ⟨q, _⟩ | ⟨g2, cap2, cur, e, hB, hg, h1, h2, h3, h4⟩
  · cases q
  · cases e
    refine ⟨up uw k x, ⟨epV_len _ _ _, Or.inr ⟨b, c, cur.setIfInBounds (0 + k * 2 + 1) x, rfl, hB, heap4 _ hg, h1, h2, by rw [Array.size_setIfInBounds]; exact h3, ?_⟩⟩, fun j hj => by rw [up_ne _ _ (by omega)]; exact h.rest j (by omega), fun j hj => ?_⟩
    · refine List.ext_getElem? fun i => ?_
      by_cases hi : i < n * 2
      · rw [List.getElem?_take_of_lt hi, Array.getElem?_toList, Array.getElem?_setIfInBounds]
        have h6 : ∀ i, i < n * 2 → cur[i]? = (epV nu uw n)[i]? := fun i hi => by rw [← h4, List.getElem?_take_of_lt hi, Array.getElem?_toList]
        obtain ⟨j, rfl | rfl⟩ : ∃ j, i = j * 2 + 0 ∨ i = j * 2 + 1 := ⟨i / 2, by omega⟩
        · rw [if_neg (by omega), h6 _ hi, (epV_at nu uw n j (by omega)).1, (epV_at nu (up uw k x) n j (by omega)).1]
        · rw [(epV_at nu (up uw k x) n j (by omega)).2]
          by_cases ej : j = k
          · subst ej
            rw [if_pos (by omega), if_pos (by rw [h3]; omega), up_at]
          · rw [if_neg (by omega), h6 _ hi, (epV_at nu uw n j (by omega)).2, up_ne _ _ ej]
      · rw [List.getElem?_eq_none (by rw [List.length_take]; omega), List.getElem?_eq_none (by rw [epV_len]; omega)]
    · by_cases ej : j = k
      · subst ej
        rw [up_at]
        exact ownE_setC hr hg (by decide)
      · rw [up_ne _ _ ej]
        exact ownE_setC (h.lists j (by omega)) hg (by decide)
theorem Cpx.eps (h : Cpx B W v n n nu tw ln t) (hb : ∀ j, j < n → ∀ k, k < ln j → ∀ i, i < 16 → t j k i < 256) (hz : ∀ j, j < n → I64 (nu j)) : ∃ uw, Eps W v n nu uw ln t := by
  obtain ⟨uw, h⟩ := h
  refine ⟨uw, ?_, fun j hj => own_tgs (h.lists j hj) (hb j hj), hz⟩
  rcases h.row.2 with ⟨e1, e2⟩ | ⟨g2, cap2, cur, e, hB, hg, h1, h2, h3, h4⟩
  · exact ⟨none, 0, by rw [e1, e2], by omega, by omega, fun q => absurd q (by omega)⟩
  · refine ⟨_, cap2, e, h1, by unfold maxLen at h2; omega, fun _ => ⟨g2, 0, rfl, (Array.getElem?_eq_some_iff.1 hg).1, fun j hj => ?_⟩⟩
    have h5 := epV_at nu uw n j hj
    rw [← h4, List.getElem?_take_of_lt (by omega), List.getElem?_take_of_lt (by omega), Array.getElem?_toList, Array.getElem?_toList] at h5
    rw [cell_of_row _ _ _ _ _ _ hg, cell_of_row _ _ _ _ _ _ hg, Nat.zero_add]
    exact h5
end
theorem sizeS4 (nx nw : Int) (v : Value) : (Tryz.prog.info? 33).map (·.size) = some (sC nx nw v).size := by show _ = some 3; kernel_rfl
end Go.Proofs.YtghnhfigihnciaaGreat.Srv
