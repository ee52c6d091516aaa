import Derived.Test.YtplhkjkaabgffaaGreatDoorX6n
import Derived.Test.YtplhkjkaabgffaaGreatDoorX7a
import Derived.Test.YtplhkjkaabgffaaGreatDoorX7c
namespace Go.Proofs.YtplhkjkaabgffaaGreatDoor.Oni
open Go.RowKit Gf8 Aes By8 Cel
/- Groundwork for OnionKeeps. -/

section
variable {o : Oper} {a : Act} {w : World}
theorem execJ0 {x : Operand} {g : Nat} (ho : o.op = .fieldAddr 25 x 0) (hx : a.eval x = .pointer (some ⟨g, 0, none⟩)) : (execOp a.eval o).run Tryz.prog w = .ok (.value (.pointer (some ⟨g, 0, none⟩))) w := by
  unfold execOp
  simp only [ho, hx]
  simp [go_sem]
theorem execJ1 {x : Operand} {g : Nat} (ho : o.op = .fieldAddr 25 x 1) (hx : a.eval x = .pointer (some ⟨g, 0, none⟩)) : (execOp a.eval o).run Tryz.prog w = .ok (.value (.pointer (some ⟨g, 1, none⟩))) w := by
  unfold execOp
  simp only [ho, hx]
  simp [go_sem]
theorem execJ2 {x : Operand} {g : Nat} (ho : o.op = .fieldAddr 25 x 2) (hx : a.eval x = .pointer (some ⟨g, 0, none⟩)) : (execOp a.eval o).run Tryz.prog w = .ok (.value (.pointer (some ⟨g, 17, none⟩))) w := by
  unfold execOp
  simp only [ho, hx]
  simp [go_sem]
theorem execJ3 {x : Operand} {g : Nat} (ho : o.op = .fieldAddr 25 x 3) (hx : a.eval x = .pointer (some ⟨g, 0, none⟩)) : (execOp a.eval o).run Tryz.prog w = .ok (.value (.pointer (some ⟨g, 18, none⟩))) w := by
  unfold execOp
  simp only [ho, hx]
  simp [go_sem]
theorem execP0 {x : Operand} {g : Nat} (ho : o.op = .fieldAddr 33 x 0) (hx : a.eval x = .pointer (some ⟨g, 0, none⟩)) : (execOp a.eval o).run Tryz.prog w = .ok (.value (.pointer (some ⟨g, 0, none⟩))) w := by
  unfold execOp
  simp only [ho, hx]
  simp [go_sem]
theorem execLdI {x : Operand} {b f : Nat} {v : Value} (ho : o.op = .load 3 x) (hx : a.eval x = .pointer (some ⟨b, f, none⟩)) (hc : w.cell? ⟨b, f, none⟩ = some v) : (execOp a.eval o).run Tryz.prog w = .ok (.value v) w := by
  unfold execOp
  simp only [ho, hx]
  simp [go_sem, hc]
theorem execLdS {x : Operand} {b f : Nat} {v : Value} (ho : o.op = .load 22 x) (hx : a.eval x = .pointer (some ⟨b, f, none⟩)) (hc : w.cell? ⟨b, f, none⟩ = some v) : (execOp a.eval o).run Tryz.prog w = .ok (.value v) w := by
  unfold execOp
  simp only [ho, hx]
  simp [go_sem, hc]
theorem execNE0 {x : Operand} (ho : o.op = .binOp .neq 29 x (.const (.int .i64 0)) 29) (hx : a.eval x = .int .i64 0) : (execOp a.eval o).run Tryz.prog w = .ok (.value (.bool false)) w := by
  unfold execOp
  simp only [ho, hx]
  simp [go_sem]
theorem execAdI {x y : Operand} {p q : Nat} (ho : o.op = .binOp .add 3 x y 3) (hx : a.eval x = .int .i64 (p : Int)) (hy : a.eval y = .int .i64 (q : Int)) (h : p + q < 9223372036854775808) : (execOp a.eval o).run Tryz.prog w = .ok (.value (.int .i64 ((p + q : Nat) : Int))) w := by
  have e : IntKind.i64.wrap ((p : Int) + (q : Int)) = ((p + q : Nat) : Int) := by rw [← Int.natCast_add]; exact wrap_i64_nat h
  unfold execOp
  simp only [ho, hx, hy]
  simp [go_sem, e]
theorem execLtF {x : Operand} {p : Nat} (ho : o.op = .binOp .lss 3 x (.const (.int .i64 160)) 3) (hx : a.eval x = .int .i64 (p : Int)) (h : 160 ≤ p) : (execOp a.eval o).run Tryz.prog w = .ok (.value (.bool false)) w := by
  have e : ¬ ((p : Int) < 160) := by omega
  unfold execOp
  simp only [ho, hx]
  simp [go_sem, e]
theorem execExt {x : Operand} {k : Nat} {arr : Array Value} {v : Value} (ho : o.op = .extract x k) (hx : a.eval x = .tuple arr) (hk : arr[k]? = some v) : (execOp a.eval o).run Tryz.prog w = .ok (.value v) w := by
  unfold execOp
  simp only [ho, hx]
  simp [go_sem, hk]
theorem execAlP (ho : o.op = .alloc 33) : (execOp a.eval o).run Tryz.prog w = .ok (.value (.pointer (some ⟨w.heap.size, 0, none⟩))) (w.alloc (.cells (pC (.slice none 0 0) fun _ => 0) 33)) := by
  have z := zeroP
  unfold execOp
  simp only [ho]
  simp [go_sem, z]
end
theorem sl_hn (g len cap h : Nat) (hh : h ≤ cap) (W : World) : (Instr.sliceAt 22 (.slice (some ⟨g, 0, none⟩) len cap) none (some (.int .i64 (h : Int))) none).run Tryz.prog W = .ok (.slice (some ⟨g, 0, none⟩) h cap) W := by
  have e := By8.slice_h (some ⟨g, 0, none⟩) len cap h hh W
  rw [sliced_0] at e
  exact e
/-- A row of a family is set. -/
theorem fam_set {B m g cap j : Nat} {x : Nat → Value} {nn : Nat → Nat} {ff : Nat → Nat → Nat} {W : World} (h : Fam B m x nn ff W) {i : Nat} (hi : i < m) (hx : x i = .slice (some ⟨g, 0, none⟩) (nn i) cap) (z : Nat) :
    Fam B m x nn (fun t => if t = i then (fun l => if l = j then z else ff i l) else ff t) (W.setCell ⟨g, j, none⟩ (.int .u8 z)) := by
  have hr := h.rows i hi
  rw [hx] at hr
  obtain ⟨c, hc⟩ := own_type hr (k := g) rfl
  refine ⟨fun t ht => ?_, h.dis⟩
  by_cases e : t = i
  · subst e
    simp only [if_true]
    rw [hx]
    exact own_set z hr
  · simp only [if_neg e]
    exact own_stays (h.rows t ht) hc (fun q => h.dis t i ht hi e g q (by rw [hx]; rfl))
/-- What each of the eight rows holds. -/
def kN (M n : Nat) (t : Nat) : Nat := match t with | 1 => 34 | 2 => n + 2 | 5 => 322 | 6 => 320 | 7 => 320 | _ => M
def kQ (key : Nat → Nat) : Nat → Nat := fun j => if j < 32 then key j else j + 129
def iQ (n : Nat) (inner : Nat → Nat) : Nat → Nat := fun j => if j < n then inner j else j - n + 163
def cQ (M : Nat) (on : Nat → Nat) : Nat → Nat := fun j => if j < M then on j else if j = 320 then 165 else if j = 321 then 166 else 0
def kF (key inner on nx : Nat → Nat) (M n : Nat) (t : Nat) : Nat → Nat := match t with | 1 => kQ key | 2 => iQ n inner | 5 => cQ M on | 6 => nx | 7 => nx | _ => on
theorem kQ_lt {key : Nat → Nat} (h : ∀ j, j < 32 → key j < 256) : ∀ j, j < 34 → kQ key j < 256 := by
  intro j hj
  unfold kQ
  split
  · exact h _ (by assumption)
  · omega
theorem iQ_lt {n : Nat} {inner : Nat → Nat} (h : ∀ j, j < n → inner j < 256) : ∀ j, j < n + 2 → iQ n inner j < 256 := by
  intro j hj
  unfold iQ
  split
  · exact h _ (by assumption)
  · omega
theorem cQ_lt {M : Nat} {on : Nat → Nat} (h : ∀ j, on j < 256) (j : Nat) : cQ M on j < 256 := by
  unfold cQ
  split
  · exact h _
  · split
    · omega
    · split <;> omega
def cZ (M : Nat) (on : Nat → Nat) : Nat → Nat := fun j => if j < M then on j else 0
theorem cZ_Q {M : Nat} {on : Nat → Nat} (h : M ≤ 320) : (bytesL 322 fun j => if j = 321 then 166 else if j = 320 then 165 else cZ M on j) = bytesL 322 (cQ M on) := bytesL_congr fun j hj => by
  unfold cQ cZ
  by_cases h1 : j = 321
  · subst h1; rw [if_pos rfl, if_neg (by omega), if_neg (by omega), if_pos rfl]
  · by_cases h2 : j = 320
    · subst h2; rw [if_neg h1, if_pos rfl, if_neg (by omega), if_pos rfl]
    · rw [if_neg h1, if_neg h2, if_neg h2, if_neg h1]
theorem own_at {W : World} {B n g cap j : Nat} {p : Nat → Nat} (h : W.ownsRow B 5 1 (.slice (some ⟨g, 0, none⟩) n cap) n (bytesL n p)) (hj : j < n) : W.cell? ⟨g, j, none⟩ = some (.int .u8 (p j)) := by
  obtain ⟨g', cap', e, _, _, hc⟩ := own_cells h (by omega)
  injection e with e1 _ _
  injection e1 with e1
  injection e1 with e1 _ _
  subst e1
  exact hc j hj
theorem own_setRow {W : World} {B n R : Nat} {v : Value} {xs : List Value} {c d : Array Value} {t : TypeId} (h : W.ownsRow B 5 1 v n xs) (hr : W.heap[R]? = some (.cells c t)) (ht : t ≠ 5) : (W.setRow R d).ownsRow B 5 1 v n xs := by
  have ne := own_ne h hr ht
  refine ⟨h.1, ?_⟩
  rcases h.2 with h | ⟨g, cap, cur, e, hB, hg, h2⟩
  · exact Or.inl h
  · refine Or.inr ⟨g, cap, cur, e, hB, ?_, h2⟩
    rw [setRow_other _ _ _ _ (fun q => ne (by rw [e, q]; rfl))]
    exact hg
theorem fam_cg {B m : Nat} {x : Nat → Value} {nn : Nat → Nat} {ff gg : Nat → Nat → Nat} {W : World} (h : Fam B m x nn ff W) (e : ∀ t, t < m → ∀ l, l < nn t → ff t l = gg t l) : Fam B m x nn gg W :=
  ⟨fun t ht => by have h2 := h.rows t ht; rw [bytesL_congr (e t ht)] at h2; exact h2, h.dis⟩
/-- The row of the j-th list. -/
def rI (j : Nat) : Nat := match j with | 0 => 3 | 1 => 4 | 2 => 6 | _ => 7
def jO (r : Nat) : Nat := if r = 3 then 0 else if r = 4 then 1 else if r = 6 then 2 else if r = 7 then 3 else 9
theorem jO_rI {j : Nat} (hj : j < 4) : jO (rI j) = j := by
  match j, hj with
  | 0, _ | 1, _ | 2, _ | 3, _ => rfl
theorem jO_ne {j t : Nat} (hj : j < 4) (ht : t < 8) (h : t ≠ rI j) : jO t ≠ j := by
  intro e
  apply h
  subst e
  match t, ht with
  | 0, _ | 1, _ | 2, _ | 5, _ => exact absurd hj (by decide)
  | 3, _ | 4, _ | 6, _ | 7, _ => rfl
/-- Rows 3, 4, 6, 7 are marked ahead of list i, and list i up to byte k. -/
def mF (ff : Nat → Nat → Nat) (i k : Nat) (r : Nat) : Nat → Nat := fun l => if jO r < i ∨ (jO r = i ∧ l < k) then jO r else ff r l
theorem mF_0 (ff : Nat → Nat → Nat) (r l : Nat) : ff r l = mF ff 0 0 r l := by
  unfold mF
  rw [if_neg (by omega)]
theorem mF_next {ff : Nat → Nat → Nat} {nn : Nat → Nat} {j : Nat} (hj : j < 4) {t : Nat} (ht : t < 8) {N : Nat} (hN : nn (rI j) = N) : ∀ l, l < nn t → mF ff j N t l = mF ff (j + 1) 0 t l := by
  intro l hl
  unfold mF
  by_cases e : t = rI j
  · subst e
    rw [jO_rI hj, if_pos (Or.inr ⟨rfl, by omega⟩), if_pos (by omega)]
  · have := jO_ne hj ht e
    by_cases h : jO t < j
    · rw [if_pos (by omega), if_pos (by omega)]
    · rw [if_neg (by omega), if_neg (by omega)]
theorem mF_set {ff : Nat → Nat → Nat} {j m : Nat} (hj : j < 4) {t : Nat} (ht : t < 8) (l : Nat) : (if t = rI j then (fun l => if l = m then j % 256 else mF ff j m (rI j) l) else mF ff j m t) l = mF ff j (m + 1) t l := by
  by_cases e : t = rI j
  · subst e
    rw [if_pos rfl]
    show (if l = m then j % 256 else mF ff j m (rI j) l) = _
    unfold mF
    rw [jO_rI hj]
    by_cases h1 : l = m
    · rw [if_pos h1, if_pos (by omega)]; omega
    · rw [if_neg h1]
      by_cases h2 : l < m
      · rw [if_pos (by omega), if_pos (by omega)]
      · rw [if_neg (by omega), if_neg (by omega)]
  · rw [if_neg e]
    have := jO_ne hj ht e
    unfold mF
    by_cases h : jO t < j
    · rw [if_pos (by omega), if_pos (by omega)]
    · rw [if_neg (by omega), if_neg (by omega)]
theorem mF_4 (ff : Nat → Nat → Nat) {j : Nat} (hj : j < 4) (l : Nat) : mF ff 4 0 (rI j) l = j := by
  unfold mF
  rw [jO_rI hj, if_pos (by omega)]
theorem mF_out (ff : Nat → Nat → Nat) {r : Nat} (h : jO r = 9) (i : Nat) (hi : i ≤ 4) (k l : Nat) : mF ff i k r l = ff r l := by
  unfold mF
  rw [h, if_neg (by omega)]
/-- A row's kind other than bytes stays when a byte is set. -/
theorem row_setCell {W : World} {g R k : Nat} {c d : Array Value} {t : TypeId} {v : Value} (h : W.heap[R]? = some (.cells d t)) (hg : W.heap[g]? = some (.cells c 5)) (ht : t ≠ 5) : (W.setCell ⟨g, k, none⟩ v).heap[R]? = some (.cells d t) := by
  have ne : R ≠ g := fun e => by
    rw [e, hg] at h
    exact ht (by simpa using (congrArg (fun x => match x with | some (Obj.cells _ t _) => t | _ => 0) h).symm)
  rw [setCell_eq_setRow W g k c 5 _ _ hg, setRow_other _ _ _ _ ne]
  exact h
/-- Two bytes that the call laid. -/
theorem two_slice (W : World) (p q : Nat) (f : Nat → Nat) (h0 : f 0 = p) (h1 : f 1 = q) (hp : p < 256) (hq : q < 256) : SliceN (W.alloc (.cells #[.int .u8 (p : Int), .int .u8 (q : Int)] 5)) (.slice (some ⟨W.heap.size, 0, none⟩) 2 2) 2 f := by
  refine ⟨⟨_, _, rfl, Nat.le_refl _, by omega, fun _ => ⟨W.heap.size, 0, rfl, (Array.getElem?_eq_some_iff.1 (heapNew W _)).1, fun j hj => ?_⟩⟩, fun j hj => ?_⟩
  · rw [cell_of_row _ _ _ _ _ _ (heapNew W _), Nat.zero_add]
    match j, hj with
    | 0, _ => rw [h0]; rfl
    | 1, _ => rw [h1]; rfl
  · match j, hj with
    | 0, _ => rw [h0]; exact hp
    | 1, _ => rw [h1]; exact hq
end Go.Proofs.YtplhkjkaabgffaaGreatDoor.Oni
