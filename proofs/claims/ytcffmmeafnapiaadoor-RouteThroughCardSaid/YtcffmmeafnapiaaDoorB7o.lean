import Derived.Test.YtcffmmeafnapiaaDoorB7g
import Derived.Test.YtcffmmeafnapiaaDoorX5n
namespace Go.Proofs.YtcffmmeafnapiaaDoor.Rou
open Go.RowKit Gf8 Aes By8 Cel Oni
/- A []Peeled in the heap; Walk. -/

theorem infoP : ∃ i, Tryd.prog.info? 42 = some i ∧ i.zero = some (.agg (pC (.slice none 0 0) fun _ => 0)) ∧ i.size = 17 ∧ i.bytes = 40 := by
  have h : (Tryd.prog.info? 42).map (fun i => (i.zero, i.size, i.bytes)) = some (some (.agg (pC (.slice none 0 0) fun _ => 0)), 17, 40) := by kernel_rfl
  cases hq : Tryd.prog.info? 42 with
  | none => rw [hq] at h; cases h
  | some i =>
    rw [hq] at h
    simp only [Option.map_some, Option.some.injEq, Prod.mk.injEq] at h
    exact ⟨i, rfl, h.1, h.2.1, h.2.2⟩
/-- The cells of n Peeled. -/
def yL (P : Nat → List Value) : Nat → List Value
  | 0 => []
  | n + 1 => yL P n ++ P n
theorem yL_len {P : Nat → List Value} (hP : ∀ k, (P k).length = 17) : ∀ n, (yL P n).length = n * 17
  | 0 => rfl
  | n + 1 => by simp only [yL, List.length_append, yL_len hP n, hP]; omega
theorem yL_get {P : Nat → List Value} (hP : ∀ k, (P k).length = 17) : ∀ (n k j : Nat), k < n → j < 17 → (yL P n)[k * 17 + j]? = (P k)[j]?
  | 0, k, j, hk, _ => by omega
  | n + 1, k, j, hk, hj => by
    simp only [yL]
    by_cases h : k < n
    · rw [List.getElem?_append_left (by rw [yL_len hP]; omega)]
      exact yL_get hP n k j h hj
    · obtain rfl : k = n := by omega
      rw [List.getElem?_append_right (by rw [yL_len hP]; omega), yL_len hP, Nat.add_sub_cancel_left]
theorem yL_congr {P Q : Nat → List Value} : ∀ n, (∀ i, i < n → P i = Q i) → yL P n = yL Q n
  | 0, _ => rfl
  | n + 1, h => by simp only [yL]; rw [yL_congr n (fun i hi => h i (by omega)), h n (by omega)]
def updP (P : Nat → List Value) (i : Nat) (q : List Value) : Nat → List Value := fun k => if k = i then q else P k
theorem yL_set {P : Nat → List Value} (hP : ∀ k, (P k).length = 17) {n i : Nat} {q : List Value} (hq : q.length = 17) (hi : i < n) : (yL P n).take (i * 17) ++ q ++ (yL P n).drop (i * 17 + 17) = yL (updP P i q) n := by
  have hU : ∀ k, (updP P i q k).length = 17 := fun k => by unfold updP; split; exact hq; exact hP k
  have hl := yL_len hP n
  have hl2 : ((yL P n).take (i * 17)).length = i * 17 := by rw [List.length_take, hl]; omega
  apply List.ext_getElem?
  intro x
  by_cases hx : x < n * 17
  · obtain ⟨k, j, hk, hj, rfl⟩ : ∃ k j, k < n ∧ j < 17 ∧ x = k * 17 + j := ⟨x / 17, x % 17, by omega, by omega, by omega⟩
    rw [yL_get hU n k j hk hj, List.append_assoc]
    unfold updP
    by_cases h1 : k < i
    · rw [if_neg (by omega), List.getElem?_append_left (by rw [hl2]; omega), List.getElem?_take, if_pos (by omega), yL_get hP n k j hk hj]
    · rw [List.getElem?_append_right (by rw [hl2]; omega), hl2]
      by_cases h2 : k = i
      · subst h2
        rw [if_pos rfl, Nat.add_sub_cancel_left, List.getElem?_append_left (by rw [hq]; exact hj)]
      · rw [if_neg h2, List.getElem?_append_right (by rw [hq]; omega), hq, List.getElem?_drop, show i * 17 + 17 + (k * 17 + j - i * 17 - 17) = k * 17 + j by omega, yL_get hP n k j hk hj]
  · rw [List.getElem?_eq_none (by simp [hl, hq]; omega), List.getElem?_eq_none (by rw [yL_len hU]; omega)]
theorem pC_len (cv : Value) (r : Nat → Nat) : (pC cv r).toList.length = 17 := by rw [Array.length_toList, pC_size]
/-- The row of a walk under way: i hops done. -/
def wyP (cv : Nat → Value) (r : Nat → Nat → Nat) (i k : Nat) : List Value := if k < i then (pC (cv k) (r k)).toList else (pC (.slice none 0 0) fun _ => 0).toList
theorem wyP_len (cv : Nat → Value) (r : Nat → Nat → Nat) (i k : Nat) : (wyP cv r i k).length = 17 := by unfold wyP; split <;> exact pC_len _ _
def wyR (cv : Nat → Value) (r : Nat → Nat → Nat) (h i : Nat) : Array Value := (yL (wyP cv r i) h).toArray
theorem wyR_size (cv : Nat → Value) (r : Nat → Nat → Nat) (h i : Nat) : (wyR cv r h i).size = h * 17 := by unfold wyR; simp [yL_len (wyP_len cv r i)]
theorem made17 {h : Nat} (h8 : h ≤ 8) (cv : Nat → Value) (r : Nat → Nat → Nat) : madeCells (Value.agg (pC (.slice none 0 0) fun _ => 0)).cells (h * 17) = wyR cv r h 0 := by
  have : h = 0 ∨ h = 1 ∨ h = 2 ∨ h = 3 ∨ h = 4 ∨ h = 5 ∨ h = 6 ∨ h = 7 ∨ h = 8 := by omega
  have m0 : madeCells (Value.agg (pC (.slice none 0 0) fun _ => 0)).cells (0 * 17) = wyR cv r 0 0 := by kernel_rfl
  have m1 : madeCells (Value.agg (pC (.slice none 0 0) fun _ => 0)).cells (1 * 17) = wyR cv r 1 0 := by kernel_rfl
  have m2 : madeCells (Value.agg (pC (.slice none 0 0) fun _ => 0)).cells (2 * 17) = wyR cv r 2 0 := by kernel_rfl
  have m3 : madeCells (Value.agg (pC (.slice none 0 0) fun _ => 0)).cells (3 * 17) = wyR cv r 3 0 := by kernel_rfl
  have m4 : madeCells (Value.agg (pC (.slice none 0 0) fun _ => 0)).cells (4 * 17) = wyR cv r 4 0 := by kernel_rfl
  have m5 : madeCells (Value.agg (pC (.slice none 0 0) fun _ => 0)).cells (5 * 17) = wyR cv r 5 0 := by kernel_rfl
  have m6 : madeCells (Value.agg (pC (.slice none 0 0) fun _ => 0)).cells (6 * 17) = wyR cv r 6 0 := by kernel_rfl
  have m7 : madeCells (Value.agg (pC (.slice none 0 0) fun _ => 0)).cells (7 * 17) = wyR cv r 7 0 := by kernel_rfl
  have m8 : madeCells (Value.agg (pC (.slice none 0 0) fun _ => 0)).cells (8 * 17) = wyR cv r 8 0 := by kernel_rfl
  rcases this with rfl | rfl | rfl | rfl | rfl | rfl | rfl | rfl | rfl
  · exact m0
  · exact m1
  · exact m2
  · exact m3
  · exact m4
  · exact m5
  · exact m6
  · exact m7
  · exact m8
theorem wyR_step (cv : Nat → Value) (r : Nat → Nat → Nat) {h i : Nat} (hi : i < h) (v : Value) (rp : Nat → Nat) : ((wyR cv r h i).toList.take (i * 17) ++ (pC v rp).toList ++ (wyR cv r h i).toList.drop (i * 17 + (pC v rp).size)).toArray = wyR (fun k => if k = i then v else cv k) (fun k => if k = i then rp else r k) h (i + 1) := by
  unfold wyR
  congr 1
  rw [pC_size]
  rw [yL_set (wyP_len cv r i) (pC_len v rp) hi]
  refine yL_congr h fun k _ => ?_
  unfold updP wyP
  by_cases e : k = i
  · subst e; rw [if_pos rfl, if_pos (by omega)]; simp
  · rw [if_neg e]
    by_cases e2 : k < i
    · rw [if_pos e2, if_pos (by omega)]; simp only [if_neg e]
    · rw [if_neg e2, if_neg (by omega)]
section
variable {o : Oper} {a : Act} {w : World}
theorem execMkP {x : Operand} {h : Nat} (ho : o.op = .makeSlice 37 x x) (hx : a.eval x = .int .i64 (h : Int)) (h8 : h ≤ 8) (cv : Nat → Value) (r : Nat → Nat → Nat) : (execOp a.eval o).run Tryd.prog w = .ok (.value (.slice (some ⟨w.heap.size, 0, none⟩) h h)) (w.alloc (.cells (wyR cv r h 0) 42)) := by
  obtain ⟨i, h1, h2, h3, h4⟩ := infoP
  have hh := run_make (P := Tryd.prog) w 37 42 i (.agg (pC (.slice none 0 0) fun _ => 0)) Tryd.underlying37 h1 h2 .i64 .i64 (h : Int) (h : Int) (by omega) (by omega) (by rw [h4]; omega) (by omega)
  rw [h3, Int.toNat_natCast, made17 h8 cv r] at hh
  unfold execOp
  simp only [ho, hx, Sem.run_bind, hh, Result.andThen_ok, Sem.run_pure]
theorem execIdxP {x i : Operand} {g n cap k : Nat} (ho : o.op = .indexAddr 37 x i) (hx : a.eval x = .slice (some ⟨g, 0, none⟩) n cap) (hi : a.eval i = .int .i64 (k : Int)) (hk : k < n) : (execOp a.eval o).run Tryd.prog w = .ok (.value (.pointer (some ⟨g, k * 17, none⟩))) w := by
  have h1 : (k : Int) < n := by omega
  unfold execOp
  simp only [ho, hx, hi]
  simp [go_sem, h1]
theorem execFP0 {x : Operand} {b f : Nat} (ho : o.op = .fieldAddr 42 x 0) (hx : a.eval x = .pointer (some ⟨b, f, none⟩)) : (execOp a.eval o).run Tryd.prog w = .ok (.value (.pointer (some ⟨b, f, none⟩))) w := by
  unfold execOp
  simp only [ho, hx]
  simp [go_sem, Addr.add_mid]
theorem execFP1 {x : Operand} {b f : Nat} (ho : o.op = .fieldAddr 42 x 1) (hx : a.eval x = .pointer (some ⟨b, f, none⟩)) : (execOp a.eval o).run Tryd.prog w = .ok (.value (.pointer (some ⟨b, f + 1, none⟩))) w := by
  unfold execOp
  simp only [ho, hx]
  simp [go_sem, Addr.add_mid]
end
/-- What a Walk leaves: a row of n Peeled of its own, each with a cell of its own. -/
structure Way (W : World) (B : Nat) (v : Value) (n : Nat) (cv : Nat → Value) (r c : Nat → Nat → Nat) : Prop where
  row : ∃ a cap, v = .slice a n cap ∧ (0 < n → ∃ g, a = some ⟨g, 0, none⟩ ∧ B ≤ g ∧ g < W.heap.size ∧ ∀ k, k < n → W.rangeAt g (k * 17) (pC (cv k) (r k)).toList)
  own : ∀ k, k < n → W.ownsRow B 5 1 (cv k) 320 (bytesL 320 (c k))
  two : ∀ i k, i < k → k < n → (cv i).ownBlock ≠ (cv k).ownBlock
theorem Way.on {W W' : World} {B : Nat} {v : Value} {n : Nat} {cv : Nat → Value} {r c : Nat → Nat → Nat} (h : Way W B v n cv r c) (hb : Below W.heap.size W W') : Way W' B v n cv r c := by
  obtain ⟨a, cap, e, hr⟩ := h.row
  refine ⟨⟨a, cap, e, fun h0 => ?_⟩, fun k hk => ownsRow_below (h.own k hk) hb, h.two⟩
  obtain ⟨g, e2, h1, h2, h3⟩ := hr h0
  exact ⟨g, e2, h1, Nat.lt_of_lt_of_le h2 hb.size, fun k hk j u hu => by rw [cell_below hb h2]; exact h3 k hk j u hu⟩
theorem range_wy {W : World} {g h : Nat} {cv : Nat → Value} {r : Nat → Nat → Nat} {t : TypeId} (hg : W.heap[g]? = some (.cells (wyR cv r h h) t)) {k : Nat} (hk : k < h) : W.rangeAt g (k * 17) (pC (cv k) (r k)).toList := by
  intro j u hu
  have hj : j < 17 := by have := (List.getElem?_eq_some_iff.1 hu).1; rwa [pC_len] at this
  rw [cell_of_row _ _ _ _ _ _ hg]
  unfold wyR
  rw [List.getElem?_toArray, yL_get (wyP_len cv r h) h k j hk hj]
  unfold wyP
  rw [if_pos hk]
  exact hu
end Go.Proofs.YtcffmmeafnapiaaDoor.Rou
