import Derived.Test.YtdddecclajmicaaR5
namespace Go.Proofs.Ytdddecclajmicaa
open Go.RowKit

/-- A column of which the first k bytes are laid. -/
def uptoC (g : Nat → Nat) (k : Nat) : Nat → Nat := fun i => if i < k then g i else 0
theorem col_set (g : Nat → Nat) {k : Nat} (h : k < 4) : (col (uptoC g k)).setIfInBounds k (.int .u8 (g k)) = col (uptoC g (k + 1)) := by
  have : k = 0 ∨ k = 1 ∨ k = 2 ∨ k = 3 := by omega
  rcases this with rfl | rfl | rfl | rfl <;> rfl
theorem col_four (g : Nat → Nat) : col (uptoC g 4) = col g := rfl
theorem fwd_lt : ∀ i, i < 4 → fwd i < 256 := by
  intro i hi
  have : i = 0 ∨ i = 1 ∨ i = 2 ∨ i = 3 := by omega
  rcases this with rfl | rfl | rfl | rfl <;> decide

theorem bwd_lt : ∀ i, i < 4 → bwd i < 256 := by
  intro i hi
  have : i = 0 ∨ i = 1 ∨ i = 2 ∨ i = 3 := by omega
  rcases this with rfl | rfl | rfl | rfl <;> decide
theorem atLoad {P : Program} {ops : Array Oper} {rest : List Oper} {o : Oper} {a : Act} {w : World} {Q : Exit → Act → World → Prop} (ty : TypeId) (x : Operand) (_ : o.op = .load ty x) (h : wpList P ops Q (o :: rest) a w) : wpList P ops Q (o :: rest) a w := h
theorem atStore {P : Program} {ops : Array Oper} {rest : List Oper} {o : Oper} {a : Act} {w : World} {Q : Exit → Act → World → Prop} (ty : TypeId) (x y : Operand) (_ : o.op = .store ty x y) (h : wpList P ops Q (o :: rest) a w) : wpList P ops Q (o :: rest) a w := h
theorem size4 : (Try.prog.info? 27).map (·.size) = some 4 := by kernel_rfl
theorem size4' (c : Nat → Nat) : (Try.prog.info? 27).map (·.size) = some (col c).size := size4
theorem frozen4 {W : World} {b o : Nat} {c : Array Value} {t : TypeId} (h : W.heap[b]? = some (.cells c t)) : W.frozen? ⟨b, o, none⟩ = false := by simp [World.frozen?, h]
theorem below4 {B : Nat} {a w : World} (h : Below B a w) {g : Nat} (hg : B ≤ g) (c : Array Value) : Below B a (w.setRow g c) :=
  h.trans ⟨rfl, rfl, rfl, by simp, fun k hk => setRow_other w g k c (by omega)⟩
theorem heap4 {W : World} {b k : Nat} {c : Array Value} {t : TypeId} (v : Value) (h : W.heap[b]? = some (.cells c t)) : (W.setCell ⟨b, k, none⟩ v).heap[b]? = some (.cells (c.setIfInBounds k v) t) := by
  rw [setCell_eq_setRow W b k c t _ v h]; exact setRow_heap _ _ _ _ _ _ h
theorem heap4o {W : World} {b k i : Nat} {c : Array Value} {t : TypeId} (v : Value) (h : W.heap[b]? = some (.cells c t)) (hi : i ≠ b) : (W.setCell ⟨b, k, none⟩ v).heap[i]? = W.heap[i]? := by
  rw [setCell_eq_setRow W b k c t _ v h]; exact setRow_other _ _ _ _ (by omega)
theorem col_one (c : Nat → Nat) : (col c).all Value.oneCell' = true := by simp [col, Value.oneCell']
theorem heap3c (w : World) (A B C : Obj) : (((w.alloc A).alloc B).alloc C).heap[w.heap.size]? = some A ∧ (((w.alloc A).alloc B).alloc C).heap[w.heap.size + 1]? = some B ∧ (((w.alloc A).alloc B).alloc C).heap[w.heap.size + 2]? = some C := by
  have hs : ∀ (v : World) (o : Obj), (v.alloc o).heap = v.heap.push o := fun _ _ => rfl
  simp only [hs, Array.getElem?_push, Array.size_push]
  refine ⟨?_, ?_, ?_⟩
  · rw [if_neg (by omega), if_neg (by omega), if_pos trivial]
  · rw [if_neg (by omega), if_pos trivial]
  · rw [if_pos trivial]
theorem below3c (w : World) (A B C : Obj) : Below w.heap.size w (((w.alloc A).alloc B).alloc C) :=
  (((Below.refl _ _).alloc (Nat.le_refl _) _).alloc (by simp) _).alloc (by simp; omega) _

set_option maxRecDepth 20000 in
set_option maxHeartbeats 400000 in
theorem rcolumn_any (c : Nat → Nat) (w : World) (hc : ∀ i, i < 4 → c i < 256) :
    Calls Try.prog 22 #[.agg (col c)] w fun e w' => e = .returned (.agg (col (mixk fwd c))) ∧ Below w.heap.size w w' := by
  have HC : Hid (_) := hc
  clear hc
  have h3 := heap3c w (.cells (col c) 27) (.cells (col fun _ => 0) 27) (.cells (col fun _ => 0) 27)
  have H3 : Hid (_) := h3
  clear h3
  go_enter Try.func22, Try.ntmps22
  go_wp2
  rw [show w.heap.size + 1 + 1 = w.heap.size + 2 from rfl]
  go_loopw [4] (fun i W => ∃ k : Nat, k ≤ 4 ∧ i = .int .i64 k ∧ W.heap[w.heap.size]? = some (.cells (col c) 27) ∧ W.heap[w.heap.size + 1]? = some (.cells (col fun _ => 0) 27) ∧ W.heap[w.heap.size + 2]? = some (.cells (col (uptoC (mixk fwd c) k)) 27) ∧ Below w.heap.size w W) (fun i _ => 4 - (intOf i).toNat)
  case atStart => exact ⟨0, by omega, rfl, H3.out.1, H3.out.2.1, H3.out.2.2, below3c _ _ _ _⟩
  case round =>
    obtain ⟨k, hk, rfl, g1, g2, g3, bel⟩ := hrel
    have B : Hid (Below w.heap.size w wr) := bel
    have G1 : Hid (_) := g1
    have G2 : Hid (_) := g2
    have G3 : Hid (_) := g3
    clear bel g1 g2 g3 H3
    by_cases hlt : k < 4
    · have i1 : (k : Int) < 4 := by omega
      have i0 : (0 : Int) ≤ (k : Int) := by omega
      have HL : Hid (k < 4) := hlt
      clear hlt
      go_wp2_with (first
        | (refine atLoad 27 (.tmp 1) rfl ?_; go_must (refine wpList_load_row rfl 27 (.tmp 1) rfl w.heap.size rfl 27 _ (0, 0) _ G1.out Try.underlying27 rfl (size4' _) ?_; simp only [Act.put, List.setIfInBounds_toArray, List.set_cons_succ, List.set_cons_zero])))
      refine (rrow_any c fwd k _ HC.out fwd_lt HL.out).mono ?_
      rintro e w1 ⟨rfl, hb1⟩
      have hsz : w.heap.size + 2 < wr.heap.size := (Array.getElem?_eq_some_iff.1 G3.out).1
      have D1 : Hid (w1.heap[w.heap.size]? = some (.cells (col c) 27)) := by show w1.heap[w.heap.size]? = _; rw [hb1.block _ (by omega)]; exact G1.out
      have D2 : Hid (w1.heap[w.heap.size + 1]? = some (.cells (col fun _ => 0) 27)) := by show w1.heap[w.heap.size + 1]? = _; rw [hb1.block _ (by omega)]; exact G2.out
      have D3 : Hid (w1.heap[w.heap.size + 2]? = some (.cells (col (uptoC (mixk fwd c) k)) 27)) := by show w1.heap[w.heap.size + 2]? = _; rw [hb1.block _ (by omega)]; exact G3.out
      have D4 : Hid (Below w.heap.size w w1) := B.out.trans (hb1.mono (by omega))
      have q1 : w1.cell? ⟨w.heap.size + 2, k, none⟩ = some (.int .u8 (uptoC (mixk fwd c) k k)) := by rw [cell_of_row _ _ _ _ _ _ D3.out]; exact col_at _ HL.out
      have q2 : w1.frozen? ⟨w.heap.size + 2, k, none⟩ = false := frozen4 D3.out
      clear hb1 hsz
      go_wp2
      go_roundw
      case rel =>
        refine ⟨k + 1, by have := HL.out; omega, by go_num, ?_, ?_, ?_, D4.out.setCell (by simp) _⟩
        · rw [heap4o _ D3.out (by omega)]; exact D1.out
        · rw [heap4o _ D3.out (by omega)]; exact D2.out
        · rw [heap4 _ D3.out, col_set _ HL.out]
      case measure => have := HL.out; simp [intOf]; omega
    · have i1 : ¬ (k : Int) < 4 := by omega
      have ek : k = 4 := by omega
      subst ek
      go_wp2_with (first
        | (refine atLoad 27 (.tmp 3) rfl ?_; go_must (refine wpList_load_row rfl 27 (.tmp 3) rfl (w.heap.size + 2) rfl 27 _ (0, 0) _ G3.out Try.underlying27 rfl (size4' _) ?_; simp only [Act.put, List.setIfInBounds_toArray, List.set_cons_succ, List.set_cons_zero]))
        | (refine atStore 27 (.tmp 2) (.tmp 15) rfl ?_; go_must (refine wpList_store_row rfl 27 (.tmp 2) (.tmp 15) rfl (w.heap.size + 1) _ rfl rfl 27 _ G2.out (size4' _) rfl (col_one _) ?_)))
      refine bodyPost_ret (v := .agg (col (mixk fwd c))) (results_cell_row Try.results22 _ _ (w.heap.size + 1) 27 _ (0, 0) _ rfl (setRow_heap _ _ _ _ _ _ G2.out) Try.underlying27 rfl (size4' _)) rfl ⟨rfl, ?_⟩
      exact below4 B.out (by omega) _

set_option maxRecDepth 20000 in
set_option maxHeartbeats 400000 in
theorem runcolumn_any (c : Nat → Nat) (w : World) (hc : ∀ i, i < 4 → c i < 256) :
    Calls Try.prog 24 #[.agg (col c)] w fun e w' => e = .returned (.agg (col (mixk bwd c))) ∧ Below w.heap.size w w' := by
  have HC : Hid (_) := hc
  clear hc
  have h3 := heap3c w (.cells (col c) 27) (.cells (col fun _ => 0) 27) (.cells (col fun _ => 0) 27)
  have H3 : Hid (_) := h3
  clear h3
  go_enter Try.func24, Try.ntmps24
  go_wp2
  rw [show w.heap.size + 1 + 1 = w.heap.size + 2 from rfl]
  go_loopw [4] (fun i W => ∃ k : Nat, k ≤ 4 ∧ i = .int .i64 k ∧ W.heap[w.heap.size]? = some (.cells (col c) 27) ∧ W.heap[w.heap.size + 1]? = some (.cells (col fun _ => 0) 27) ∧ W.heap[w.heap.size + 2]? = some (.cells (col (uptoC (mixk bwd c) k)) 27) ∧ Below w.heap.size w W) (fun i _ => 4 - (intOf i).toNat)
  case atStart => exact ⟨0, by omega, rfl, H3.out.1, H3.out.2.1, H3.out.2.2, below3c _ _ _ _⟩
  case round =>
    obtain ⟨k, hk, rfl, g1, g2, g3, bel⟩ := hrel
    have B : Hid (Below w.heap.size w wr) := bel
    have G1 : Hid (_) := g1
    have G2 : Hid (_) := g2
    have G3 : Hid (_) := g3
    clear bel g1 g2 g3 H3
    by_cases hlt : k < 4
    · have i1 : (k : Int) < 4 := by omega
      have i0 : (0 : Int) ≤ (k : Int) := by omega
      have HL : Hid (k < 4) := hlt
      clear hlt
      go_wp2_with (first
        | (refine atLoad 27 (.tmp 1) rfl ?_; go_must (refine wpList_load_row rfl 27 (.tmp 1) rfl w.heap.size rfl 27 _ (0, 0) _ G1.out Try.underlying27 rfl (size4' _) ?_; simp only [Act.put, List.setIfInBounds_toArray, List.set_cons_succ, List.set_cons_zero])))
      refine (rrow_any c bwd k _ HC.out bwd_lt HL.out).mono ?_
      rintro e w1 ⟨rfl, hb1⟩
      have hsz : w.heap.size + 2 < wr.heap.size := (Array.getElem?_eq_some_iff.1 G3.out).1
      have D1 : Hid (w1.heap[w.heap.size]? = some (.cells (col c) 27)) := by show w1.heap[w.heap.size]? = _; rw [hb1.block _ (by omega)]; exact G1.out
      have D2 : Hid (w1.heap[w.heap.size + 1]? = some (.cells (col fun _ => 0) 27)) := by show w1.heap[w.heap.size + 1]? = _; rw [hb1.block _ (by omega)]; exact G2.out
      have D3 : Hid (w1.heap[w.heap.size + 2]? = some (.cells (col (uptoC (mixk bwd c) k)) 27)) := by show w1.heap[w.heap.size + 2]? = _; rw [hb1.block _ (by omega)]; exact G3.out
      have D4 : Hid (Below w.heap.size w w1) := B.out.trans (hb1.mono (by omega))
      have q1 : w1.cell? ⟨w.heap.size + 2, k, none⟩ = some (.int .u8 (uptoC (mixk bwd c) k k)) := by rw [cell_of_row _ _ _ _ _ _ D3.out]; exact col_at _ HL.out
      have q2 : w1.frozen? ⟨w.heap.size + 2, k, none⟩ = false := frozen4 D3.out
      clear hb1 hsz
      go_wp2
      go_roundw
      case rel =>
        refine ⟨k + 1, by have := HL.out; omega, by go_num, ?_, ?_, ?_, D4.out.setCell (by simp) _⟩
        · rw [heap4o _ D3.out (by omega)]; exact D1.out
        · rw [heap4o _ D3.out (by omega)]; exact D2.out
        · rw [heap4 _ D3.out, col_set _ HL.out]
      case measure => have := HL.out; simp [intOf]; omega
    · have i1 : ¬ (k : Int) < 4 := by omega
      have ek : k = 4 := by omega
      subst ek
      go_wp2_with (first
        | (refine atLoad 27 (.tmp 3) rfl ?_; go_must (refine wpList_load_row rfl 27 (.tmp 3) rfl (w.heap.size + 2) rfl 27 _ (0, 0) _ G3.out Try.underlying27 rfl (size4' _) ?_; simp only [Act.put, List.setIfInBounds_toArray, List.set_cons_succ, List.set_cons_zero]))
        | (refine atStore 27 (.tmp 2) (.tmp 15) rfl ?_; go_must (refine wpList_store_row rfl 27 (.tmp 2) (.tmp 15) rfl (w.heap.size + 1) _ rfl rfl 27 _ G2.out (size4' _) rfl (col_one _) ?_)))
      refine bodyPost_ret (v := .agg (col (mixk bwd c))) (results_cell_row Try.results24 _ _ (w.heap.size + 1) 27 _ (0, 0) _ rfl (setRow_heap _ _ _ _ _ _ G2.out) Try.underlying27 rfl (size4' _)) rfl ⟨rfl, ?_⟩
      exact below4 B.out (by omega) _
end Go.Proofs.Ytdddecclajmicaa
