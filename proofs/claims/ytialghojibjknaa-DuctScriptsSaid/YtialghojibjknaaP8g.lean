import Derived.Test.YtialghojibjknaaP8f
import Derived.WalkKit
namespace Go.Proofs.Ytialghojibjknaa.Duc
open Go.RowKit Gf8 Aes By8 Cel Cf Win Drw Prm
/- Four ducts and their books. Written by tools/mkP8g.py. -/

def c4 (v : Nat → Value) : Array Value := #[v 0, v 1, v 2, v 3]
abbrev kI (k : Nat → Nat) (j : Nat) : Int := ((k j : Nat) : Int)
def b4 (r : Nat → Value) (k : Nat → Int) (c : Nat → Bool) : Array Value := #[r 0, .int .i64 (k 0), .bool (c 0), r 1, .int .i64 (k 1), .bool (c 1), r 2, .int .i64 (k 2), .bool (c 2), r 3, .int .i64 (k 3), .bool (c 3)]
theorem lt4 {m : Nat} (h : m < 4) : m = 0 ∨ m = 1 ∨ m = 2 ∨ m = 3 := by omega
theorem c4_at (v : Nat → Value) {m : Nat} (h : m < 4) : (c4 v)[m]? = some (v m) := by
  rcases lt4 h with rfl | rfl | rfl | rfl <;> rfl
theorem c4_set (v : Nat → Value) {m : Nat} (h : m < 4) (u : Value) : (c4 v).setIfInBounds m u = c4 (up v m u) := by
  rcases lt4 h with rfl | rfl | rfl | rfl <;> rfl
theorem b4_set (r : Nat → Value) (k : Nat → Int) (c : Nat → Bool) {m : Nat} (h : m < 4) (u : Value) (q : Int) (b : Bool) : ((b4 r k c).toList.take (m * 3) ++ (dC u q b).toList ++ (b4 r k c).toList.drop (m * 3 + (dC u q b).size)).toArray = b4 (up r m u) (up k m q) (up c m b) := by
  rcases lt4 h with rfl | rfl | rfl | rfl <;> rfl
theorem b4_cg {r r' : Nat → Value} {k k' : Nat → Int} {c c' : Nat → Bool} (h1 : ∀ j, j < 4 → r j = r' j) (h2 : ∀ j, j < 4 → k j = k' j) (h3 : ∀ j, j < 4 → c j = c' j) : b4 r k c = b4 r' k' c' := by
  unfold b4
  rw [h1 0 (by omega), h1 1 (by omega), h1 2 (by omega), h1 3 (by omega), h2 0 (by omega), h2 1 (by omega), h2 2 (by omega), h2 3 (by omega), h3 0 (by omega), h3 1 (by omega), h3 2 (by omega), h3 3 (by omega)]
theorem c4_st {W : World} {g m : Nat} {v : Nat → Value} {t : TypeId} (h : W.heap[g]? = some (.cells (c4 v) t)) (hm : m < 4) (u : Value) : (W.setCell ⟨g, m, none⟩ u).heap[g]? = some (.cells (c4 (up v m u)) t) := by
  rw [heap4 _ h, c4_set _ hm]
theorem cell18 {W : World} {g q : Nat} {c : Array Value} {t : TypeId} {v : Value} (hs : W.heap[g]? = some (.cells c t)) (h0 : c[q]? = some v) : W.cell? ⟨g, q, none⟩ = some v := by
  rw [cell_of_row _ _ _ _ _ _ hs]; exact h0
theorem b4_range {W : World} {g : Nat} {r : Nat → Value} {k : Nat → Int} {c : Nat → Bool} {t : TypeId} (h : W.heap[g]? = some (.cells (b4 r k c) t)) {m : Nat} (hm : m < 4) : W.rangeAt g (m * 3) (dC (r m) (k m) (c m)).toList := by
  intro j v hv
  have e : (b4 r k c)[m * 3 + j]? = some v := by
    rcases lt4 hm with rfl | rfl | rfl | rfl <;>
      (match j, hv with
       | 0, hv => exact hv
       | 1, hv => exact hv
       | 2, hv => exact hv
       | j + 3, hv => cases hv)
  exact cell18 h e
section
variable {o : Oper} {a : Act} {w : World}
theorem execIdxDs {x i : Operand} {b n cap k : Nat} (ho : o.op = .indexAddr 24 x i) (hx : a.eval x = .slice (some ⟨b, 0, none⟩) n cap) (hi : a.eval i = .int .i64 ((k : Nat) : Int)) (hk : k < n) : (execOp a.eval o).run Try.prog w = .ok (.value (.pointer (some ⟨b, k, none⟩))) w := by
  unfold execOp
  simp only [ho, hx, hi]
  simp [go_sem, hk]
theorem execIdxBk {x i : Operand} {b n cap k : Nat} (ho : o.op = .indexAddr 25 x i) (hx : a.eval x = .slice (some ⟨b, 0, none⟩) n cap) (hi : a.eval i = .int .i64 ((k : Nat) : Int)) (hk : k < n) : (execOp a.eval o).run Try.prog w = .ok (.value (.pointer (some ⟨b, k * 3, none⟩))) w := by
  unfold execOp
  simp only [ho, hx, hi]
  simp [go_sem, hk]
theorem execLdDp {x : Operand} {b k : Nat} {v : Value} (ho : o.op = .load 26 x) (hx : a.eval x = .pointer (some ⟨b, k, none⟩)) (hc : w.cell? ⟨b, k, none⟩ = some v) : (execOp a.eval o).run Try.prog w = .ok (.value v) w := by
  unfold execOp
  simp only [ho, hx]
  simp [go_sem, hc]
theorem execStDp {x y : Operand} {b k : Nat} {v old : Value} (ho : o.op = .store 26 x y) (hx : a.eval x = .pointer (some ⟨b, k, none⟩)) (hy : a.eval y = v) (hv : ∃ p, v = .pointer p) (hc : w.cell? ⟨b, k, none⟩ = some old) (hf : w.frozen? ⟨b, k, none⟩ = false) : (execOp a.eval o).run Try.prog w = .ok .skip (w.setCell ⟨b, k, none⟩ v) := by
  obtain ⟨p, rfl⟩ := hv
  unfold execOp
  simp only [ho, hx, hy]
  simp [go_sem, hc, hf]
theorem execLdBk {x : Operand} {b m : Nat} {r : Nat → Value} {k : Nat → Int} {c : Nat → Bool} {t : TypeId} (ho : o.op = .load 32 x) (hx : a.eval x = .pointer (some ⟨b, m * 3, none⟩)) (hg : w.heap[b]? = some (.cells (b4 r k c) t)) (hm : m < 4) : (execOp a.eval o).run Try.prog w = .ok (.value (.agg (dC (r m) (k m) (c m)))) w :=
  execLoadMid (P := Try.prog) ho hx (b4_range hg hm) Try.underlying32 rfl (by show _ = some 3; kernel_rfl)
theorem execStBk {x y : Operand} {g m : Nat} {r : Nat → Value} {k : Nat → Int} {c : Nat → Bool} {u : Value} {q : Int} {b : Bool} {t : TypeId} (ho : o.op = .store 32 x y) (hx : a.eval x = .pointer (some ⟨g, m * 3, none⟩)) (hy : a.eval y = .agg (dC u q b)) (hg : w.heap[g]? = some (.cells (b4 r k c) t)) (hm : m < 4) (hr : ∃ g n q, u = Value.slice g n q) : (execOp a.eval o).run Try.prog w = .ok .skip (w.setRow g (b4 (up r m u) (up k m q) (up c m b))) := by
  have h := execStMid (P := Try.prog) ho hx hy hg (by show m * 3 + 3 ≤ 12; omega) (sizeD u _ b) (oneD _ b hr)
  rw [b4_set r k c hm u q b] at h
  exact h
theorem execBuK {x : Operand} {k : Int} (ho : o.op = .build 32 #[(1, x)]) (hx : a.eval x = .int .i64 k) : (execOp a.eval o).run Try.prog w = .ok (.value (.agg (dC (.slice none 0 0) k false))) w := by
  unfold execOp
  simp only [ho, List.map_toArray, List.map_cons, List.map_nil, hx]
  kernel_rfl
theorem execBuC (ho : o.op = .build 32 #[(2, .const (.bool true))]) : (execOp a.eval o).run Try.prog w = .ok (.value (.agg (dC (.slice none 0 0) ((0 : Nat) : Int) true))) w := by
  unfold execOp
  simp only [ho, List.map_toArray, List.map_cons, List.map_nil]
  kernel_rfl
theorem execLenDs {x : Operand} {v : Value} {len : Nat} (ho : o.op = .call { callee := .builtin .len, args := #[x], argTypes := #[24] }) (hx : a.eval x = v) (hv : ∃ ao c, v = .slice ao len c) : (execOp a.eval o).run Try.prog w = .ok (.value (.int .i64 ((len : Nat) : Int))) w := by
  obtain ⟨ao, c, rfl⟩ := hv
  unfold execOp
  simp only [ho, resolve, invoke, builtin, List.map_toArray, List.map_cons, List.map_nil, hx]
  simp [go_sem]
theorem execMkDs {x y : Operand} (ho : o.op = .makeSlice 24 x y) (hx : a.eval x = .int .i64 4) (hy : a.eval y = .int .i64 4) : (execOp a.eval o).run Try.prog w = .ok (.value (.slice (some ⟨w.heap.size, 0, none⟩) 4 4)) (w.alloc (.cells (c4 (fun _ => .pointer none)) 26)) := by
  have h : (Try.prog.info? 26).map (fun i => (i.zero, i.size, i.bytes)) = some (some (.pointer none), 1, 8) := by kernel_rfl
  obtain ⟨i, h1, h2⟩ := Option.map_eq_some_iff.1 h
  simp only [Prod.mk.injEq] at h2
  obtain ⟨h2, h3, h4⟩ := h2
  have h := run_make (P := Try.prog) w 24 26 i _ Try.underlying24 h1 h2 .i64 .i64 4 4 (by omega) (by omega) (by rw [h4]; omega) (by omega)
  rw [h3] at h
  have e : madeCells (Value.pointer none).cells (Int.toNat 4 * 1) = c4 (fun _ => .pointer none) := by kernel_rfl
  rw [e] at h
  unfold execOp
  simp only [ho, hx, hy, Sem.run_bind, h, Result.andThen_ok, Sem.run_pure]
  rfl
theorem execMkBk {x y : Operand} (ho : o.op = .makeSlice 25 x y) (hx : a.eval x = .int .i64 4) (hy : a.eval y = .int .i64 4) : (execOp a.eval o).run Try.prog w = .ok (.value (.slice (some ⟨w.heap.size, 0, none⟩) 4 4)) (w.alloc (.cells (b4 (fun _ => .slice none 0 0) (fun _ => 0) (fun _ => false)) 32)) := by
  have h : (Try.prog.info? 32).map (fun i => (i.zero, i.size, i.bytes)) = some (some (.agg #[.slice none 0 0, .int .i64 0, .bool false]), 3, 40) := by kernel_rfl
  obtain ⟨i, h1, h2⟩ := Option.map_eq_some_iff.1 h
  simp only [Prod.mk.injEq] at h2
  obtain ⟨h2, h3, h4⟩ := h2
  have h := run_make (P := Try.prog) w 25 32 i _ Try.underlying25 h1 h2 .i64 .i64 4 4 (by omega) (by omega) (by rw [h4]; omega) (by omega)
  rw [h3] at h
  have e : madeCells (Value.agg #[.slice none 0 0, .int .i64 0, .bool false]).cells (Int.toNat 4 * 3) = b4 (fun _ => .slice none 0 0) (fun _ => 0) (fun _ => false) := by kernel_rfl
  rw [e] at h
  unfold execOp
  simp only [ho, hx, hy, Sem.run_bind, h, Result.andThen_ok, Sem.run_pure]
  rfl
end
/-- Four ducts, what they hold, and the rows of their books. -/
structure Scs (I : ImplI) (W : World) (B dsb bkb : Nat) (F : Nat → Nat → Prop) (v r : Nat → Value) (z : Nat → Nat → Int) (n k : Nat → Nat) (c : Nat → Bool) : Prop where
  dr : ∀ i, i < 4 → I.R W (F i) (v i) (zI (z i)) (n i) (k i) (c i)
  row : ∀ i, i < 4 → W.ownsRow B 3 1 (r i) (n i) (intsL (n i) (z i))
  num : ∀ i, i < 4 → ∀ j, j < n i → I64 (z i j)
  dis : ∀ i j q, i < 4 → j < 4 → i ≠ j → F i q → ¬ F j q
  rof : ∀ i j g, i < 4 → j < 4 → (r i).ownBlock = some g → ¬ F j g
  ge : ∀ i q, i < 4 → F i q → B ≤ q
  bof : ∀ i, i < 4 → ¬ F i dsb ∧ ¬ F i bkb
  gb : B ≤ dsb ∧ B ≤ bkb
  lt : dsb < W.heap.size ∧ bkb < W.heap.size
section
variable {I : ImplI} {W X : World} {B dsb bkb : Nat} {F : Nat → Nat → Prop} {v r : Nat → Value} {z : Nat → Nat → Int} {n k : Nat → Nat} {c : Nat → Bool}
theorem Scs.on (h : Scs I W B dsb bkb F v r z n k c) (hb : Below W.heap.size W X) : Scs I X B dsb bkb F v r z n k c :=
  { h with dr := fun i hi => I.on (h.dr i hi) hb, row := fun i hi => ownD_below (h.row i hi) hb, lt := ⟨Nat.lt_of_lt_of_le h.lt.1 hb.size, Nat.lt_of_lt_of_le h.lt.2 hb.size⟩ }
/-- A change of the list of ducts or of the books. -/
theorem Scs.grown (h : Scs I W B dsb bkb F v r z n k c) {g : Nat} {d : Array Value} {t : TypeId} (hg : W.heap[g]? = some (.cells d t)) (ht : t ≠ 3) (hof : ∀ i, i < 4 → ¬ F i g) (gr : W.grownBy X (some g)) : Scs I X B dsb bkb F v r z n k c :=
  { h with dr := fun i hi => I.frame (h.dr i hi) (fun b hb => gr.block b (I.lt (h.dr i hi) b hb) (fun e => by cases e; exact hof i hi hb)) gr.size, row := fun i hi => ownG_T (h.row i hi) hg ht gr, lt := ⟨Nat.lt_of_lt_of_le h.lt.1 gr.size, Nat.lt_of_lt_of_le h.lt.2 gr.size⟩ }
/-- A call of duct m beside its book. -/
theorem Scs.play (h : Scs I W B dsb bkb F v r z n k c) {m : Nat} (hm : m < 4) {F' : Nat → Prop} {r' : Value} {z' : Nat → Int} {n' : Nat} {c' : Bool} (hR : I.R X F' (v m) (zI z') n' (k m) c') (own : X.ownsRow B 3 1 r' n' (intsL n' z')) (num : ∀ j, j < n' → I64 (z' j)) (off : ∀ g, r'.ownBlock = some g → ¬ F' g) (new : ∀ g, r'.ownBlock = some g → (r m).ownBlock = some g ∨ W.heap.size ≤ g) (sub : ∀ q, F' q → F m q ∨ W.heap.size ≤ q) (sv : Saved (F m) W X) (hB : B ≤ W.heap.size) :
    Scs I X B dsb bkb (up F m F') v (up r m r') (up z m z') (up n m n') k (up c m c') := by
  have hlt : ∀ i, i < 4 → ∀ q, F i q → q < W.heap.size := fun i hi q hq => I.lt (h.dr i hi) q hq
  refine ⟨fun i hi => ?_, fun i hi => ?_, fun i hi => ?_, fun i j q hi hj hij hq => ?_, fun i j g hi hj hg => ?_, fun i q hi hq => ?_, fun i hi => ?_, h.gb, ⟨Nat.lt_of_lt_of_le h.lt.1 sv.size, Nat.lt_of_lt_of_le h.lt.2 sv.size⟩⟩
  · by_cases e : i = m
    · subst e; simp only [up_at]; exact hR
    · simp only [up_ne _ _ e]
      exact I.frame (h.dr i hi) (fun b hb => sv.block b (hlt i hi b hb) (h.dis i m b hi hm e hb)) sv.size
  · by_cases e : i = m
    · subst e; simp only [up_at]; exact own
    · simp only [up_ne _ _ e]
      exact own_saved18 (h.row i hi) sv (fun g hg => h.rof i m g hi hm hg)
  · by_cases e : i = m
    · subst e; simp only [up_at]; exact num
    · simp only [up_ne _ _ e]; exact h.num i hi
  · by_cases ei : i = m
    · subst ei
      rw [up_at] at hq
      rw [up_ne _ _ (Ne.symm hij)]
      rcases sub q hq with h1 | h1
      · exact h.dis i j q hi hj hij h1
      · exact fun h2 => Nat.not_lt.2 h1 (hlt j hj q h2)
    · rw [up_ne _ _ ei] at hq
      by_cases ej : j = m
      · subst ej
        rw [up_at]
        intro h2
        rcases sub q h2 with h1 | h1
        · exact h.dis i j q hi hj hij hq h1
        · exact Nat.not_lt.2 h1 (hlt i hi q hq)
      · rw [up_ne _ _ ej]; exact h.dis i j q hi hj hij hq
  · have rl : ∀ i, i < 4 → ∀ g, (r i).ownBlock = some g → g < W.heap.size := fun i hi g hg => ((h.row i hi).lt g hg).2
    by_cases ei : i = m
    · subst ei
      rw [up_at] at hg
      by_cases ej : j = i
      · subst ej; rw [up_at]; exact off g hg
      · rw [up_ne _ _ ej]
        rcases new g hg with h1 | h1
        · exact h.rof i j g hi hj h1
        · exact fun h2 => Nat.not_lt.2 h1 (hlt j hj g h2)
    · rw [up_ne _ _ ei] at hg
      by_cases ej : j = m
      · subst ej
        rw [up_at]
        intro h2
        rcases sub g h2 with h1 | h1
        · exact h.rof i j g hi hj hg h1
        · exact Nat.not_lt.2 h1 (rl i hi g hg)
      · rw [up_ne _ _ ej]; exact h.rof i j g hi hj hg
  · by_cases e : i = m
    · subst e
      rw [up_at] at hq
      rcases sub q hq with h1 | h1
      · exact h.ge i q hi h1
      · omega
    · rw [up_ne _ _ e] at hq; exact h.ge i q hi hq
  · by_cases e : i = m
    · subst e
      rw [up_at]
      refine ⟨fun h2 => ?_, fun h2 => ?_⟩
      · rcases sub _ h2 with h1 | h1
        · exact (h.bof i hi).1 h1
        · exact Nat.not_lt.2 h1 h.lt.1
      · rcases sub _ h2 with h1 | h1
        · exact (h.bof i hi).2 h1
        · exact Nat.not_lt.2 h1 h.lt.2
    · rw [up_ne _ _ e]; exact h.bof i hi
/-- A new duct in place m, or none. -/
theorem Scs.fresh (h : Scs I W B dsb bkb F v r z n k c) {m : Nat} (hm : m < 4) {F' : Nat → Prop} {v' : Value} {k' : Nat} {c' : Bool} (hR : I.R X F' v' (zI (z m)) 0 k' c') (hF : ∀ q, F' q → W.heap.size ≤ q) (hb : Below W.heap.size W X) (hB : B ≤ W.heap.size) :
    Scs I X B dsb bkb (up F m F') (up v m v') (up r m (.slice none 0 0)) z (up n m 0) (up k m k') (up c m c') := by
  have h' := h.on hb
  have hlt : ∀ i, i < 4 → ∀ q, F i q → q < W.heap.size := fun i hi q hq => I.lt (h.dr i hi) q hq
  refine ⟨fun i hi => ?_, fun i hi => ?_, fun i hi => ?_, fun i j q hi hj hij hq => ?_, fun i j g hi hj hg => ?_, fun i q hi hq => ?_, fun i hi => ?_, h.gb, h'.lt⟩
  · by_cases e : i = m
    · subst e; simp only [up_at]; exact hR
    · simp only [up_ne _ _ e]; exact h'.dr i hi
  · by_cases e : i = m
    · subst e; simp only [up_at]; exact own_none18 _ _ _
    · simp only [up_ne _ _ e]; exact h'.row i hi
  · by_cases e : i = m
    · subst e; simp only [up_at]; exact fun j hj => by omega
    · simp only [up_ne _ _ e]; exact h.num i hi
  · by_cases ei : i = m
    · subst ei
      rw [up_at] at hq
      rw [up_ne _ _ (Ne.symm hij)]
      exact fun h2 => Nat.not_lt.2 (hF q hq) (hlt j hj q h2)
    · rw [up_ne _ _ ei] at hq
      by_cases ej : j = m
      · subst ej
        rw [up_at]
        exact fun h2 => Nat.not_lt.2 (hF q h2) (hlt i hi q hq)
      · rw [up_ne _ _ ej]; exact h.dis i j q hi hj hij hq
  · have rl : ∀ i, i < 4 → ∀ g, (r i).ownBlock = some g → g < W.heap.size := fun i hi g hg => ((h.row i hi).lt g hg).2
    by_cases ei : i = m
    · subst ei
      rw [up_at] at hg
      cases hg
    · rw [up_ne _ _ ei] at hg
      by_cases ej : j = m
      · subst ej
        rw [up_at]
        exact fun h2 => Nat.not_lt.2 (hF g h2) (rl i hi g hg)
      · rw [up_ne _ _ ej]; exact h.rof i j g hi hj hg
  · by_cases e : i = m
    · subst e
      rw [up_at] at hq
      exact Nat.le_trans hB (hF q hq)
    · rw [up_ne _ _ e] at hq; exact h.ge i q hi hq
  · by_cases e : i = m
    · subst e
      rw [up_at]
      exact ⟨fun h2 => Nat.not_lt.2 (hF _ h2) h.lt.1, fun h2 => Nat.not_lt.2 (hF _ h2) h.lt.2⟩
    · rw [up_ne _ _ e]; exact h.bof i hi
theorem Scs.begin (I : ImplI) {W : World} {B dsb bkb : Nat} {d d' : Array Value} {t t' : TypeId} (hd : W.heap[dsb]? = some (.cells d t)) (hk : W.heap[bkb]? = some (.cells d' t')) (h1 : B ≤ dsb) (h2 : B ≤ bkb) : Scs I W B dsb bkb (fun _ _ => False) (fun _ => .pointer none) (fun _ => .slice none 0 0) (fun _ _ => 0) (fun _ => 0) (fun _ => 0) (fun _ => true) :=
  ⟨fun _ _ => I.nil W _, fun _ _ => own_none18 _ _ _, fun _ _ _ hj => by omega, fun _ _ _ _ _ _ h => h.elim, fun _ _ _ _ _ _ h => h, fun _ _ _ h => h.elim, fun _ _ => ⟨fun h => h, fun h => h⟩, ⟨h1, h2⟩, ⟨(Array.getElem?_eq_some_iff.1 hd).1, (Array.getElem?_eq_some_iff.1 hk).1⟩⟩
end
end Go.Proofs.Ytialghojibjknaa.Duc
