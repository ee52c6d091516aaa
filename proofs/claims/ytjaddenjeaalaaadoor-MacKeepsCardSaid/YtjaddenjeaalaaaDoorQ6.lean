import Derived.Test.YtjaddenjeaalaaaDoorQ5
namespace Go.Proofs.YtjaddenjeaalaaaDoor
open Go.RowKit

section
variable {P : Program} {ops : Array Oper} {Q : Exit → Act → World → Prop} {j : Nat} {o : Oper} {a : Act} {w : World} {K : Act → World → Prop}
theorem stepCopy {s x : Operand} {b : Addr} {ao : Option Addr} {m c : Nat} {p : Nat → Int} (ho : ops[j]? = some o) (hw : Region.wanted o (yielded ops a.tmps) = true) (hop : o.op = .call { callee := .builtin .append, args := #[s, x], argTypes := #[22, 22] }) (hs : a.eval s = .slice (some b) 0 0) (hx : a.eval x = .slice ao m c)
    (h : SliceB w (.slice ao m c) m p) (hm : m ≤ 140737488355328) (hK : ∀ v' w', SliceB w' v' m p → Below w.heap.size w w' → K (a.put o.dst v') w') : wpOp Tryd.prog ops Q j K a w := by
  obtain ⟨v', w', hr, h1, h2⟩ := execCopy hop hs hx h hm
  exact stepV ho hw hr (hK v' w' h1 h2)
end
theorem sliceB_congr {w : World} {v : Value} {l : Nat} {f g : Nat → Int} (h : SliceB w v l f) (e : ∀ j, j < l → f j = g j) : SliceB w v l g := by
  obtain ⟨⟨a, cap, e1, h1, h2, h3⟩, hb⟩ := h
  refine ⟨⟨a, cap, e1, h1, h2, fun h0 => ?_⟩, fun j hj => by rw [← e j hj]; exact hb j hj⟩
  obtain ⟨b, off, e2, e3, e4⟩ := h3 h0
  exact ⟨b, off, e2, e3, fun j hj => by rw [← e j hj]; exact e4 j hj⟩
theorem room_lo {p : Nat → Int} {l j : Nat} (h : j < l) : room p l j = p j := by simp [room, cat, h]
theorem room_hi {p : Nat → Int} {l j : Nat} (h : l ≤ j) : room p l j = 165 := by simp [room, cat]; omega
/-- The list without its room. -/
theorem room_slice {W : World} {g l cap : Nat} {p : Nat → Int} (h : RowP W g (l + 80) (room p l)) (hc : l + 80 ≤ cap ∧ cap ≤ maxLen) (hb : ∀ j, j < l → 0 ≤ p j ∧ p j < 256) : SliceB W (.slice (some ⟨g, 0, none⟩) l cap) l p :=
  sliceB_congr (h.sliceB (by omega) (by omega) hc.2 fun j hj => by rw [room_lo hj]; exact hb j hj) fun j hj => room_lo hj
/-- The same with the address out. -/
def NF (W : World) (B : Nat) (ao : Option Addr) (g L : Nat) (f : Nat → Int) : Prop := (ao = none → L = 0) ∧ (0 < L → ao = some ⟨g, 0, none⟩ ∧ B ≤ g ∧ W.heap[g]? = some (.cells (tab8 L f) 5))
theorem NF.below {W W' : World} {B g L : Nat} {ao : Option Addr} {f : Nat → Int} (h : NF W B ao g L f) (hb : Below W.heap.size W W') : NF W' B ao g L f :=
  ⟨h.1, fun h0 => ⟨(h.2 h0).1, (h.2 h0).2.1, by rw [hb.block _ (Array.getElem?_eq_some_iff.1 (h.2 h0).2.2).1]; exact (h.2 h0).2.2⟩⟩
theorem NF.sliceB {W : World} {B g L : Nat} {ao : Option Addr} {f : Nat → Int} (h : NF W B ao g L f) (hL : L ≤ 8160) (hb : ∀ j, 0 ≤ f j ∧ f j < 256) : SliceB W (.slice ao L L) L f := by
  refine ⟨⟨_, _, rfl, Nat.le_refl _, by omega, fun h0 => ?_⟩, fun j _ => hb j⟩
  obtain ⟨h1, _, h3⟩ := h.2 h0
  refine ⟨g, 0, h1, (Array.getElem?_eq_some_iff.1 h3).1, fun j hj => ?_⟩
  rw [cell_of_row _ _ _ _ _ _ h3, Nat.zero_add]
  exact tab8_get L f j hj
theorem NF.lt {W : World} {B g L : Nat} {ao : Option Addr} {f : Nat → Int} (h : NF W B ao g L f) (h0 : 0 < L) : g < W.heap.size := (Array.getElem?_eq_some_iff.1 (h.2 h0).2.2).1
theorem own_F {W : World} {B L : Nat} {v : Value} {f : Nat → Int} (h : W.ownsRow B 5 1 v L (vals (firstL f L))) : ∃ ao g cap, v = .slice ao L cap ∧ L ≤ cap ∧ cap ≤ maxLen ∧ (0 < L → ao = some ⟨g, 0, none⟩ ∧ B ≤ g ∧ RowP W g L f) := by
  by_cases h0 : 0 < L
  · obtain ⟨g, cap, rfl, h1, h2, h3, h4⟩ := own_rowP h h0
    exact ⟨_, g, cap, rfl, h2, h3, fun _ => ⟨rfl, h1, h4⟩⟩
  · rcases h.2 with ⟨rfl, rfl⟩ | ⟨g, cap, cur, rfl, _, _, h1, h2, _⟩
    · exact ⟨none, 0, 0, rfl, Nat.le_refl _, Nat.zero_le _, fun h => by omega⟩
    · exact ⟨_, g, cap, rfl, h1, h2, fun h => absurd h h0⟩
theorem F_sliceB {W : World} {L g cap : Nat} {ao : Option Addr} {f : Nat → Int} (h1 : L ≤ cap) (h2 : cap ≤ maxLen) (h : 0 < L → ao = some ⟨g, 0, none⟩ ∧ RowP W g L f) (hb : ∀ j, 0 ≤ f j ∧ f j < 256) : SliceB W (.slice ao L cap) L f := by
  by_cases h0 : 0 < L
  · obtain ⟨rfl, h3⟩ := h h0
    exact h3.sliceB (Nat.le_refl _) h1 h2 fun j _ => hb j
  · exact ⟨⟨_, _, rfl, h1, by unfold maxLen at h2; omega, fun h => absurd h h0⟩, fun j hj => by omega⟩
theorem RowP.set {W : World} {g n m : Nat} {f : Nat → Int} (h : RowP W g n f) (v : Int) (hm : m < n) : RowP (W.setCell ⟨g, m, none⟩ (.int .u8 v)) g n (upd f m v) := by
  obtain ⟨cur, h1, h2⟩ := h
  refine ⟨_, heap_setCell_row _ h1, fun j hj => ?_⟩
  rw [Array.getElem?_setIfInBounds]
  unfold upd
  by_cases e : m = j
  · subst e
    have := (Array.getElem?_eq_some_iff.1 (h2 m hm)).1
    simp [this]
  · rw [if_neg e, if_neg (fun x => e x.symm), h2 j hj]
theorem RowP.cell {W : World} {g n m : Nat} {f : Nat → Int} (h : RowP W g n f) (hm : m < n) : W.cell? ⟨g, m, none⟩ = some (.int .u8 (f m)) ∧ W.frozen? ⟨g, m, none⟩ = false := by
  obtain ⟨cur, h1, h2⟩ := h
  exact ⟨by rw [cell_of_row _ _ _ _ _ _ h1]; exact h2 m hm, frozen_of_row h1⟩
theorem px_step (p : Nat → Int) (m : Nat) : upd (px p m) m (bits .xor .u8 (p m) 85) = px p (m + 1) := by
  funext j
  simp only [upd, px]
  by_cases h : j = m
  · subst h; simp
  · by_cases h2 : j < m
    · simp [h, h2, show j < m + 1 by omega]
    · simp [h, h2, show ¬ j < m + 1 by omega]
theorem px_at (p : Nat → Int) (m : Nat) : px p m m = p m := by simp [px]
theorem wpList_copy_w {ops : Array Oper} {rest : List Oper} {o : Oper} {a : Act} {w : World} {Q : Exit → Act → World → Prop} {b : Addr} {ao : Option Addr} {m c : Nat} {p : Nat → Int} (hw : Region.wanted o (yielded ops a.tmps) = true) (s x : Operand) (hop : o.op = .call { callee := .builtin .append, args := #[s, x], argTypes := #[22, 22] }) (hs : a.eval s = .slice (some b) 0 0) (hx : a.eval x = .slice ao m c)
    (h : SliceB w (.slice ao m c) m p) (hm : m ≤ 140737488355328) (hK : ∀ v' w', SliceB w' v' m p → Below w.heap.size w w' → wpList Tryd.prog ops Q rest (a.put o.dst v') w') : wpList Tryd.prog ops Q (o :: rest) a w := by
  obtain ⟨v', w', hr, h1, h2⟩ := execCopy hop hs hx h hm
  simp only [wpList, hw, if_true]
  left
  unfold Oper.wp
  rw [hr]
  exact hK v' w' h1 h2
def ao4 (x y z u : Option Addr) : Nat → Option Addr
  | 0 => x | 1 => y | 2 => z | _ => u
def gs4 (x y z u : Nat) : Nat → Nat
  | 0 => x | 1 => y | 2 => z | _ => u
def fs4 (x y : Nat → Int) : Nat → Nat → Int
  | 0 => x | 1 => x | _ => y
theorem px_zero (p : Nat → Int) : px p 0 = p := by funext j; simp [px]
theorem newB_form {W : World} {B L : Nat} {v : Value} {f : Nat → Int} (h : NewB W B v L f) : ∃ ao g, v = .slice ao L L ∧ NF W B ao g L f := by
  rcases h with ⟨rfl, rfl⟩ | ⟨g, h1, rfl, h3⟩
  · exact ⟨none, 0, rfl, fun _ => rfl, fun h => by omega⟩
  · exact ⟨_, g, rfl, (fun e => by cases e), fun _ => ⟨rfl, h1, h3⟩⟩

/-- What each operation of the second drawn region yields. -/
def xyS (M ga gb gc ls lt li ca cb cc : Nat) (vs vt vi : Value) (j : Nat) (v : Value) : Prop :=
  match j with
  | 0 => v = .slice (some ⟨ga, 0, none⟩) (ls + 80) ca | 1 => v = .pointer (some ⟨M, 0, none⟩) | 2 => v = vs | 3 => v = .int .i64 (ls : Int) | 4 => v = .slice (some ⟨ga, 0, none⟩) ls ca
  | 5 => v = .slice (some ⟨gb, 0, none⟩) (lt + 80) cb | 6 => v = .pointer (some ⟨M, 1, none⟩) | 7 => v = vt | 8 => v = .int .i64 (lt : Int) | 9 => v = .slice (some ⟨gb, 0, none⟩) lt cb
  | 10 => v = .slice (some ⟨gc, 0, none⟩) (li + 80) cc | 11 => v = .pointer (some ⟨M, 2, none⟩) | 12 => v = vi | 13 => v = .int .i64 (li : Int) | 14 => v = .slice (some ⟨gc, 0, none⟩) li cc
  | 15 => v = .slice (some ⟨ga, 0, none⟩) ls ca | _ => v = .slice (some ⟨gb, 0, none⟩) lt cb
/-- and of the third. -/
def wtS (B M ls lt : Nat) (ps pt : Nat → Int) (vs vt : Value) (T : Nat → Int) (j : Nat) (v : Value) (W : World) : Prop :=
  match j with
  | 0 => ∃ b, v = .slice (some b) 0 0
  | 1 => v = .pointer (some ⟨M, 0, none⟩)
  | 2 => v = vs
  | 3 => SliceB W v ls ps
  | 4 => ∃ b, v = .slice (some b) 0 0
  | 5 => v = .pointer (some ⟨M, 1, none⟩)
  | 6 => v = vt
  | 7 => SliceB W v lt pt
  | 8 => v = .agg (tab8 32 T)
  | _ => ∃ g, v = .pointer (some ⟨g, 0, none⟩) ∧ B ≤ g ∧ W.heap[g]? = some (.cells (tab8 32 (fun _ => 0)) 25)
theorem wtS_mono (B M ls lt : Nat) (ps pt : Nat → Int) (vs vt : Value) (T : Nat → Int) (j : Nat) (v : Value) (W W' : World) (h : wtS B M ls lt ps pt vs vt T j v W) (hb : Below W.heap.size W W') : wtS B M ls lt ps pt vs vt T j v W' := by
  match j, h with
  | 0, h => exact h
  | 1, h => exact h
  | 2, h => exact h
  | 3, h => exact SliceB.below h hb
  | 4, h => exact h
  | 5, h => exact h
  | 6, h => exact h
  | 7, h => exact SliceB.below h hb
  | 8, h => exact h
  | _ + 9, h =>
    obtain ⟨g, h1, h2, h3⟩ := h
    exact ⟨g, h1, h2, by rw [hb.block _ (Array.getElem?_eq_some_iff.1 h3).1]; exact h3⟩

set_option maxRecDepth 20000 in
set_option maxHeartbeats 8000000 in
theorem mackeeps_any (vs vt vi : Value) (ls lt li : Nat) (ps pt pi : Nat → Int) (n : Int) (w : World) (hG : Glob w) (hs : ls + 400 ≤ 140737488355328) (ht : lt + 400 ≤ 140737488355328) (hli : li + 600 ≤ 140737488355328) (h0 : SliceB w vs ls ps) (h1 : SliceB w vt lt pt) (h2 : SliceB w vi li pi)
    (hn0 : ∀ cap, vs = .slice none ls cap → cap = 0) (hn1 : ∀ cap, vt = .slice none lt cap → cap = 0) (hn2 : ∀ cap, vi = .slice none li cap → cap = 0) :
    Calls Tryd.prog 8 #[.agg #[vs, vt, vi, .int .i64 n]] w fun e w' => e = .returned (.bool true) ∧ Below w.heap.size w w' := by
  obtain ⟨aS, cs, rfl, hx⟩ := h0.shape
  clear hx
  obtain ⟨at', ct, rfl, hx⟩ := h1.shape
  clear hx
  obtain ⟨ai, ci, rfl, hx⟩ := h2.shape
  clear hx
  have HG : Hid (_) := hG
  have HS' : Hid (ls + 400 ≤ 140737488355328) := hs
  have HT : Hid (lt + 400 ≤ 140737488355328) := ht
  have HL : Hid (li + 600 ≤ 140737488355328) := hli
  have H0 : Hid (SliceB w (.slice aS ls cs) ls ps) := h0
  have H1 : Hid (SliceB w (.slice at' lt ct) lt pt) := h1
  have H2 : Hid (SliceB w (.slice ai li ci) li pi) := h2
  have N0 : Hid (_) := hn0
  have N1 : Hid (_) := hn1
  have N2 : Hid (_) := hn2
  clear hG hs ht hli h0 h1 h2 hn0 hn1 hn2
  go_enter Tryd.func8, Tryd.ntmps8
  go_wp2_with fail
  have m0 : (w.alloc (.cells #[.slice aS ls cs, .slice at' lt ct, .slice ai li ci, .int .i64 n] 34)).heap[w.heap.size]? = some (.cells #[.slice aS ls cs, .slice at' lt ct, .slice ai li ci, .int .i64 n] 34) := heap_alloc_new _ _
  have mB : Below w.heap.size w (w.alloc (.cells #[.slice aS ls cs, .slice at' lt ct, .slice ai li ci, .int .i64 n] 34)) := (Below.refl _ _).alloc (Nat.le_refl _) _
  refine (awake_any _ (HG.out.below mB HG.out.sz)).mono ?_
  rintro e w1 ⟨rfl, hb1⟩
  have W1 : Hid (Below w.heap.size w w1) := mB.trans (hb1.mono mB.size)
  have R1 : Hid (w1.heap[w.heap.size]? = some (.cells #[.slice aS ls cs, .slice at' lt ct, .slice ai li ci, .int .i64 n] 34)) := by rw [hb1.block _ (by simp)]; exact m0
  clear m0 mB hb1
  go_wp2_with fail
  have LM : w.heap.size < w1.heap.size := (Array.getElem?_eq_some_iff.1 R1.out).1
  refine wp_region_slotsAD 11 226 [26, 27, 28, 29, 30, 31, 32, 33, 34, 3, 4] (rmS w1.heap.size w.heap.size ls lt li ps pt pi (.slice aS ls cs) (.slice at' lt ct) (.slice ai li ci)) rmD (by kernel_rfl) (by kernel_rfl) (by kernel_rfl) (by decide) rfl rfl (by decide) (by decide) (rmS_mono _ _ _ _ _ _ _ _ _ _ _) ?_ ?_
  · intro j hj a W hB hf hdep
    have mW : W.heap[w.heap.size]? = some (.cells #[.slice aS ls cs, .slice at' lt ct, .slice ai li ci, .int .i64 n] 34) := by rw [hB.block _ LM]; exact R1.out
    have c0 : W.cell? ⟨w.heap.size, 0, none⟩ = some (.slice aS ls cs) := by rw [cell_of_row _ _ _ _ _ _ mW]; rfl
    have c1 : W.cell? ⟨w.heap.size, 1, none⟩ = some (.slice at' lt ct) := by rw [cell_of_row _ _ _ _ _ _ mW]; rfl
    have c2 : W.cell? ⟨w.heap.size, 2, none⟩ = some (.slice ai li ci) := by rw [cell_of_row _ _ _ _ _ _ mW]; rfl
    have gW : Below w.heap.size w W := W1.out.trans (hB.mono W1.out.size)
    have fin : ∀ (j l : Nat) (p : Nat → Int) (e : Ending) (w' : World), (∃ v', e = .returned v' ∧ w'.ownsRow W.heap.size 5 1 v' (l + 80) (vals (firstL (room p l) (l + 80))) ∧ Below W.heap.size W w') → ∃ v, e = .returned v ∧ RmV w1.heap.size l p v w' ∧ Below W.heap.size W w' ∧ ∀ i u, rmS w1.heap.size w.heap.size ls lt li ps pt pi (.slice aS ls cs) (.slice at' lt ct) (.slice ai li ci) i u W → rmD i j u v ∧ rmD j i v u := by
      rintro j l p e w' ⟨v', rfl, own, hb⟩
      obtain ⟨g, cap, rfl, h1, h2, h3, h4⟩ := own_rowP own (by omega)
      exact ⟨_, rfl, ⟨g, cap, rfl, Nat.le_trans hB.size h1, h2, h3, h4⟩, hb, fun i u h => rmD_fresh (Or.inr h1) i u h⟩
    have nul : ∀ (j : Nat) (v : Value), rid j = 0 → ∀ i u, rmS w1.heap.size w.heap.size ls lt li ps pt pi (.slice aS ls cs) (.slice at' lt ct) (.slice ai li ci) i u W → rmD i j u v ∧ rmD j i v u := fun j v h i u hu => rmD_fresh (Or.inl h) i u hu
    match j, hj with
    | 0, _ => exact stepV rfl rfl (execFd0 rfl (hf 1 (by decide))) ⟨_, rfl, rfl, Below.refl _ _, fun i u _ _ h _ => nul 0 _ rfl i u h⟩
    | 1, _ =>
      have h0 : a.eval (.tmp 26) = .pointer (some ⟨w.heap.size, 0, none⟩) := hdep _ rfl 0 rfl
      exact stepV rfl rfl (exec_load33 rfl h0 c0) ⟨_, rfl, rfl, Below.refl _ _, fun i u _ _ h _ => nul 1 _ rfl i u h⟩
    | 2, _ =>
      have h0 : a.eval (.tmp 27) = .slice aS ls cs := hdep _ rfl 1 rfl
      exact stepC rfl rfl (execCall1 Tryd.func21 (by kernel_rfl) (by kernel_rfl) rfl h0) (roomy_any _ ls ps W (by have := HS'.out; omega) (H0.out.below gW) N0.out) fun e w' h => by
        obtain ⟨v, h1, h2, h3, h4⟩ := fin 2 ls ps e w' h
        exact ⟨v, h1, v, rfl, h2, h3, fun i u _ _ h _ => h4 i u h⟩
    | 3, _ => exact stepV rfl rfl (execFd1 rfl (hf 1 (by decide))) ⟨_, rfl, rfl, Below.refl _ _, fun i u _ _ h _ => nul 3 _ rfl i u h⟩
    | 4, _ =>
      have h0 : a.eval (.tmp 29) = .pointer (some ⟨w.heap.size, 1, none⟩) := hdep _ rfl 3 rfl
      exact stepV rfl rfl (exec_load33 rfl h0 c1) ⟨_, rfl, rfl, Below.refl _ _, fun i u _ _ h _ => nul 4 _ rfl i u h⟩
    | 5, _ =>
      have h0 : a.eval (.tmp 30) = .slice at' lt ct := hdep _ rfl 4 rfl
      exact stepC rfl rfl (execCall1 Tryd.func21 (by kernel_rfl) (by kernel_rfl) rfl h0) (roomy_any _ lt pt W (by have := HT.out; omega) (H1.out.below gW) N1.out) fun e w' h => by
        obtain ⟨v, h1, h2, h3, h4⟩ := fin 5 lt pt e w' h
        exact ⟨v, h1, v, rfl, h2, h3, fun i u _ _ h _ => h4 i u h⟩
    | 6, _ => exact stepV rfl rfl (execFd2 rfl (hf 1 (by decide))) ⟨_, rfl, rfl, Below.refl _ _, fun i u _ _ h _ => nul 6 _ rfl i u h⟩
    | 7, _ =>
      have h0 : a.eval (.tmp 32) = .pointer (some ⟨w.heap.size, 2, none⟩) := hdep _ rfl 6 rfl
      exact stepV rfl rfl (exec_load33 rfl h0 c2) ⟨_, rfl, rfl, Below.refl _ _, fun i u _ _ h _ => nul 7 _ rfl i u h⟩
    | 8, _ =>
      have h0 : a.eval (.tmp 33) = .slice ai li ci := hdep _ rfl 7 rfl
      exact stepC rfl rfl (execCall1 Tryd.func21 (by kernel_rfl) (by kernel_rfl) rfl h0) (roomy_any _ li pi W (by have := HL.out; omega) (H2.out.below gW) N2.out) fun e w' h => by
        obtain ⟨v, h1, h2, h3, h4⟩ := fin 8 li pi e w' h
        exact ⟨v, h1, v, rfl, h2, h3, fun i u _ _ h _ => h4 i u h⟩
    | 9, _ =>
      have h0 : RmV w1.heap.size ls ps (a.eval (.tmp 28)) W := hdep _ rfl 2 rfl
      exact stepV rfl rfl (execAsg rfl) ⟨_, rfl, h0, Below.refl _ _, fun i u hi hij _ hk => by
        by_cases e : i = 2
        · subst e
          exact ⟨fun _ _ h => absurd rfl h, fun _ _ h => absurd rfl h⟩
        · have h := hk _ rfl 2 rfl (fun x => e x.symm)
          exact ⟨h.2, h.1⟩⟩
    | 10, _ =>
      have h0 : RmV w1.heap.size lt pt (a.eval (.tmp 31)) W := hdep _ rfl 5 rfl
      exact stepV rfl rfl (execAsg rfl) ⟨_, rfl, h0, Below.refl _ _, fun i u hi hij _ hk => by
        by_cases e : i = 5
        · subst e
          exact ⟨fun _ _ h => absurd rfl h, fun _ _ h => absurd rfl h⟩
        · have h := hk _ rfl 5 rfl (fun x => e x.symm)
          exact ⟨h.2, h.1⟩⟩
    | k + 11, hj => exact absurd hj (by omega)
  · intro x W3 hB hS hD
    obtain ⟨ga, ca, e9, ba, ca1, ca2, ra⟩ := hS 9 (by omega)
    obtain ⟨gb, cb, e10, bb, cb1, cb2, rb⟩ := hS 10 (by omega)
    obtain ⟨gc, cc, e8, bc, cc1, cc2, rc⟩ := hS 8 (by omega)
    have dab : ga ≠ gb := by have h := hD 9 10 (by omega) (by omega) (by omega) (by decide) (by decide) (by decide); rw [e9, e10] at h; exact h
    have dac : ga ≠ gc := by have h := hD 9 8 (by omega) (by omega) (by omega) (by decide) (by decide) (by decide); rw [e9, e8] at h; exact h
    have dbc : gb ≠ gc := by have h := hD 10 8 (by omega) (by omega) (by omega) (by decide) (by decide) (by decide); rw [e10, e8] at h; exact h
    have K3 : Hid (KS w W3 w.heap.size ga gb gc ls lt li (room ps ls) (room pt lt) (room pi li) #[.slice aS ls cs, .slice at' lt ct, .slice ai li ci, .int .i64 n]) :=
      ⟨W1.out.trans (hB.mono W1.out.size), by rw [hB.block _ LM]; exact R1.out, ra, rb, rc⟩
    have BS : Hid (w.heap.size < w1.heap.size ∧ w1.heap.size ≤ ga ∧ w1.heap.size ≤ gb ∧ w1.heap.size ≤ gc) := ⟨LM, ba, bb, bc⟩
    have DD : Hid (ga ≠ gb ∧ ga ≠ gc ∧ gb ≠ gc) := ⟨dab, dac, dbc⟩
    have CA : Hid (ls + 80 ≤ ca ∧ ca ≤ maxLen) := ⟨ca1, ca2⟩
    have CB : Hid (lt + 80 ≤ cb ∧ cb ≤ maxLen) := ⟨cb1, cb2⟩
    have CC : Hid (li + 80 ≤ cc ∧ cc ≤ maxLen) := ⟨cc1, cc2⟩
    simp only [putL, List.drop_succ_cons, List.drop_zero, e8, e9, e10, Act.put, List.setIfInBounds_toArray, List.set_cons_succ, List.set_cons_zero]
    clear hS hD hB e8 e9 e10 ba bb bc ca1 ca2 cb1 cb2 cc1 cc2 ra rb rc dab dac dbc LM R1 W1
    go_wp2_with fail
    refine wp_region_slotsA 17 226 [35, 36, 37, 38, 39, 40, 41, 42, 43, 44, 45, 46, 47, 48, 49, 6, 7] (fun j v _ => xyS w.heap.size ga gb gc ls lt li ca cb cc (.slice aS ls cs) (.slice at' lt ct) (.slice ai li ci) j v) (by kernel_rfl) (by kernel_rfl) (by kernel_rfl) (by decide) rfl rfl (by decide) (by decide) (fun _ _ _ _ h _ => h) ?_ ?_
    · intro j hj a W hB hf hdep
      have mW := (K3.out.below hB).made
      have c0 : W.cell? ⟨w.heap.size, 0, none⟩ = some (.slice aS ls cs) := by rw [cell_of_row _ _ _ _ _ _ mW]; rfl
      have c1 : W.cell? ⟨w.heap.size, 1, none⟩ = some (.slice at' lt ct) := by rw [cell_of_row _ _ _ _ _ _ mW]; rfl
      have c2 : W.cell? ⟨w.heap.size, 2, none⟩ = some (.slice ai li ci) := by rw [cell_of_row _ _ _ _ _ _ mW]; rfl
      have x1 := CA.out.1
      have x2 := CB.out.1
      have x3 := CC.out.1
      match j, hj with
      | 0, _ => exact stepV rfl rfl (execMove rfl) ⟨_, rfl, hf 3 (by decide), Below.refl _ _⟩
      | 1, _ => exact stepV rfl rfl (execFd0 rfl (hf 1 (by decide))) ⟨_, rfl, rfl, Below.refl _ _⟩
      | 2, _ =>
        have h0 : a.eval (.tmp 36) = .pointer (some ⟨w.heap.size, 0, none⟩) := hdep _ rfl 1 rfl
        exact stepV rfl rfl (exec_load33 rfl h0 c0) ⟨_, rfl, rfl, Below.refl _ _⟩
      | 3, _ =>
        have h0 : a.eval (.tmp 37) = (.slice aS ls cs) := hdep _ rfl 2 rfl
        exact stepV rfl rfl (execLen rfl h0) ⟨_, rfl, rfl, Below.refl _ _⟩
      | 4, _ =>
        have h0 : a.eval (.tmp 35) = .slice (some ⟨ga, 0, none⟩) (ls + 80) ca := hdep _ rfl 0 rfl
        have h1 : a.eval (.tmp 38) = .int .i64 (ls : Int) := hdep _ rfl 3 rfl
        exact stepV rfl rfl (execSliceH rfl h0 h1 (slice_room ga (ls + 80) ca ls (by omega) W)) ⟨_, rfl, rfl, Below.refl _ _⟩
      | 5, _ => exact stepV rfl rfl (execMove rfl) ⟨_, rfl, hf 4 (by decide), Below.refl _ _⟩
      | 6, _ => exact stepV rfl rfl (execFd1 rfl (hf 1 (by decide))) ⟨_, rfl, rfl, Below.refl _ _⟩
      | 7, _ =>
        have h0 : a.eval (.tmp 41) = .pointer (some ⟨w.heap.size, 1, none⟩) := hdep _ rfl 6 rfl
        exact stepV rfl rfl (exec_load33 rfl h0 c1) ⟨_, rfl, rfl, Below.refl _ _⟩
      | 8, _ =>
        have h0 : a.eval (.tmp 42) = (.slice at' lt ct) := hdep _ rfl 7 rfl
        exact stepV rfl rfl (execLen rfl h0) ⟨_, rfl, rfl, Below.refl _ _⟩
      | 9, _ =>
        have h0 : a.eval (.tmp 40) = .slice (some ⟨gb, 0, none⟩) (lt + 80) cb := hdep _ rfl 5 rfl
        have h1 : a.eval (.tmp 43) = .int .i64 (lt : Int) := hdep _ rfl 8 rfl
        exact stepV rfl rfl (execSliceH rfl h0 h1 (slice_room gb (lt + 80) cb lt (by omega) W)) ⟨_, rfl, rfl, Below.refl _ _⟩
      | 10, _ => exact stepV rfl rfl (execMove rfl) ⟨_, rfl, hf 5 (by decide), Below.refl _ _⟩
      | 11, _ => exact stepV rfl rfl (execFd2 rfl (hf 1 (by decide))) ⟨_, rfl, rfl, Below.refl _ _⟩
      | 12, _ =>
        have h0 : a.eval (.tmp 46) = .pointer (some ⟨w.heap.size, 2, none⟩) := hdep _ rfl 11 rfl
        exact stepV rfl rfl (exec_load33 rfl h0 c2) ⟨_, rfl, rfl, Below.refl _ _⟩
      | 13, _ =>
        have h0 : a.eval (.tmp 47) = (.slice ai li ci) := hdep _ rfl 12 rfl
        exact stepV rfl rfl (execLen rfl h0) ⟨_, rfl, rfl, Below.refl _ _⟩
      | 14, _ =>
        have h0 : a.eval (.tmp 45) = .slice (some ⟨gc, 0, none⟩) (li + 80) cc := hdep _ rfl 10 rfl
        have h1 : a.eval (.tmp 48) = .int .i64 (li : Int) := hdep _ rfl 13 rfl
        exact stepV rfl rfl (execSliceH rfl h0 h1 (slice_room gc (li + 80) cc li (by omega) W)) ⟨_, rfl, rfl, Below.refl _ _⟩
      | 15, _ =>
        have h0 : a.eval (.tmp 39) = .slice (some ⟨ga, 0, none⟩) ls ca := hdep _ rfl 4 rfl
        exact stepV rfl rfl (execAsg rfl) ⟨_, rfl, h0, Below.refl _ _⟩
      | 16, _ =>
        have h0 : a.eval (.tmp 44) = .slice (some ⟨gb, 0, none⟩) lt cb := hdep _ rfl 9 rfl
        exact stepV rfl rfl (execAsg rfl) ⟨_, rfl, h0, Below.refl _ _⟩
      | k + 17, hj => exact absurd hj (by omega)
    · intro x4 W4 hB hS
      have e4 : x4 4 = .slice (some ⟨ga, 0, none⟩) ls ca := hS 4 (by omega)
      have e9 : x4 9 = .slice (some ⟨gb, 0, none⟩) lt cb := hS 9 (by omega)
      have e14 : x4 14 = .slice (some ⟨gc, 0, none⟩) li cc := hS 14 (by omega)
      have e15 : x4 15 = .slice (some ⟨ga, 0, none⟩) ls ca := hS 15 (by omega)
      have e16 : x4 16 = .slice (some ⟨gb, 0, none⟩) lt cb := hS 16 (by omega)
      have K4 : Hid (KS w W4 w.heap.size ga gb gc ls lt li (room ps ls) (room pt lt) (room pi li) #[.slice aS ls cs, .slice at' lt ct, .slice ai li ci, .int .i64 n]) := K3.out.below hB
      simp only [putL, List.drop_succ_cons, List.drop_zero, e4, e9, e14, e15, e16, Act.put, List.setIfInBounds_toArray, List.set_cons_succ, List.set_cons_zero]
      clear hS hB e4 e9 e14 e15 e16 K3
      go_wp2_with fail
      obtain ⟨T, hT⟩ : ∃ T, T = tagV ps ls pt lt := ⟨_, rfl⟩
      have HTT : Hid (_) := hT
      clear hT
      refine wp_region_slotsA 10 226 [50, 51, 52, 53, 54, 55, 56, 57, 58, 9] (wtS W4.heap.size w.heap.size ls lt ps pt (.slice aS ls cs) (.slice at' lt ct) T) (by kernel_rfl) (by kernel_rfl) (by kernel_rfl) (by decide) rfl rfl (by decide) (by decide) (wtS_mono _ _ _ _ _ _ _ _ _) ?_ ?_
      · intro j hj a W hB hf hdep
        have kW := K4.out.below hB
        have mW := kW.made
        have c0 : W.cell? ⟨w.heap.size, 0, none⟩ = some (.slice aS ls cs) := by rw [cell_of_row _ _ _ _ _ _ mW]; rfl
        have c1 : W.cell? ⟨w.heap.size, 1, none⟩ = some (.slice at' lt ct) := by rw [cell_of_row _ _ _ _ _ _ mW]; rfl
        match j, hj with
        | 0, _ => exact stepV rfl rfl (execEmpty rfl) ⟨_, rfl, ⟨_, rfl⟩, (Below.refl _ _).alloc (Nat.le_refl _) _⟩
        | 1, _ => exact stepV rfl rfl (execFd0 rfl (hf 1 (by decide))) ⟨_, rfl, rfl, Below.refl _ _⟩
        | 2, _ =>
          have h0 : a.eval (.tmp 51) = .pointer (some ⟨w.heap.size, 0, none⟩) := hdep _ rfl 1 rfl
          exact stepV rfl rfl (exec_load33 rfl h0 c0) ⟨_, rfl, rfl, Below.refl _ _⟩
        | 3, _ =>
          have h0 : ∃ b, a.eval (.tmp 50) = .slice (some b) 0 0 := hdep _ rfl 0 rfl
          have h2 : a.eval (.tmp 52) = .slice aS ls cs := hdep _ rfl 2 rfl
          obtain ⟨b, h0⟩ := h0
          exact stepCopy rfl rfl rfl h0 h2 (H0.out.below kW.bel) (by have := HS'.out; omega) fun v' w' h1 h2 => ⟨v', rfl, h1, h2⟩
        | 4, _ => exact stepV rfl rfl (execEmpty rfl) ⟨_, rfl, ⟨_, rfl⟩, (Below.refl _ _).alloc (Nat.le_refl _) _⟩
        | 5, _ => exact stepV rfl rfl (execFd1 rfl (hf 1 (by decide))) ⟨_, rfl, rfl, Below.refl _ _⟩
        | 6, _ =>
          have h0 : a.eval (.tmp 55) = .pointer (some ⟨w.heap.size, 1, none⟩) := hdep _ rfl 5 rfl
          exact stepV rfl rfl (exec_load33 rfl h0 c1) ⟨_, rfl, rfl, Below.refl _ _⟩
        | 7, _ =>
          have h0 : ∃ b, a.eval (.tmp 54) = .slice (some b) 0 0 := hdep _ rfl 4 rfl
          have h2 : a.eval (.tmp 56) = .slice at' lt ct := hdep _ rfl 6 rfl
          obtain ⟨b, h0⟩ := h0
          exact stepCopy rfl rfl rfl h0 h2 (H1.out.below kW.bel) (by have := HT.out; omega) fun v' w' h1 h2 => ⟨v', rfl, h1, h2⟩
        | 8, _ =>
          have s3 : SliceB W (a.eval (.tmp 53)) ls ps := hdep _ rfl 3 rfl
          have s7 : SliceB W (a.eval (.tmp 57)) lt pt := hdep _ rfl 7 rfl
          have r := mtag_any _ _ ls lt ps pt W (HG.out.below kW.bel HG.out.sz) (by have := HS'.out; omega) (by have := HT.out; omega) s3 s7
          rw [← HTT.out] at r
          exact stepC rfl rfl (execCall2 Tryd.func14 (by kernel_rfl) (by kernel_rfl) rfl rfl rfl) r fun e w' h => ⟨_, h.1, _, rfl, rfl, h.2⟩
        | 9, _ => exact stepV rfl rfl (execAlloc32 rfl) ⟨_, rfl, ⟨_, rfl, hB.size, heap_alloc_new _ _⟩, (Below.refl _ _).alloc (Nat.le_refl _) _⟩
      · intro x5 W5 hB hS
        have e8 : x5 8 = .agg (tab8 32 T) := hS 8 (by omega)
        obtain ⟨g9, e9, hg9, hz9⟩ := hS 9 (by omega)
        simp only [putL, List.drop_succ_cons, List.drop_zero, e8, e9, Act.put, List.setIfInBounds_toArray, List.set_cons_succ, List.set_cons_zero]
        refine wpList_store_row rfl 25 (.tmp 9) (.tmp 58) rfl g9 _ rfl rfl 25 _ hz9 (size28' _) (by simp only [tab8_size]) (tab8_one _ _) ?_
        simp only [Act.put]
        obtain ⟨V5, hV5⟩ : ∃ V, V = W5.setRow g9 (tab8 32 T) := ⟨_, rfl⟩
        rw [← hV5]
        have K5 : Hid (KS w V5 w.heap.size ga gb gc ls lt li (room ps ls) (room pt lt) (room pi li) #[.slice aS ls cs, .slice at' lt ct, .slice ai li ci, .int .i64 n]) := by rw [hV5]; exact K4.out.below (below_setRow hB hg9 _)
        have R9 : Hid (V5.heap[g9]? = some (.cells (tab8 32 T) 25)) := by rw [hV5]; exact setRow_heap _ _ _ _ _ _ hz9
        clear hS hB e8 e9 hg9 hz9 hV5 K4
        have SX : Hid (∀ W, KS w W w.heap.size ga gb gc ls lt li (room ps ls) (room pt lt) (room pi li) #[.slice aS ls cs, .slice at' lt ct, .slice ai li ci, .int .i64 n] → SliceB W (.slice (some ⟨ga, 0, none⟩) ls ca) ls ps) := fun W k => room_slice k.ra CA.out H0.out.bytes
        have SY : Hid (∀ W, KS w W w.heap.size ga gb gc ls lt li (room ps ls) (room pt lt) (room pi li) #[.slice aS ls cs, .slice at' lt ct, .slice ai li ci, .int .i64 n] → SliceB W (.slice (some ⟨gb, 0, none⟩) lt cb) lt pt) := fun W k => room_slice k.rb CB.out H1.out.bytes
        have SZ : Hid (∀ W, KS w W w.heap.size ga gb gc ls lt li (room ps ls) (room pt lt) (room pi li) #[.slice aS ls cs, .slice at' lt ct, .slice ai li ci, .int .i64 n] → SliceB W (.slice (some ⟨gc, 0, none⟩) li cc) li pi) := fun W k => room_slice k.rc CC.out H2.out.bytes
        have GW : Hid (∀ W, KS w W w.heap.size ga gb gc ls lt li (room ps ls) (room pt lt) (room pi li) #[.slice aS ls cs, .slice at' lt ct, .slice ai li ci, .int .i64 n] → Glob W) := fun W k => HG.out.below k.bel HG.out.sz
        have z28 := zero28
        go_wp2_with fail
        have r := mtag_any _ _ ls lt ps pt V5 (GW.out _ K5.out) (by have := HS'.out; omega) (by have := HT.out; omega) (SX.out _ K5.out) (SY.out _ K5.out)
        rw [← HTT.out] at r
        refine r.mono ?_
        rintro e W6 ⟨rfl, hb6⟩
        have K6 : Hid (KS w W6 w.heap.size ga gb gc ls lt li (room ps ls) (room pt lt) (room pi li) #[.slice aS ls cs, .slice at' lt ct, .slice ai li ci, .int .i64 n]) := K5.out.below hb6
        have R9b : Hid (W6.heap[g9]? = some (.cells (tab8 32 T) 25)) := by rw [hb6.block _ (Array.getElem?_eq_some_iff.1 R9.out).1]; exact R9.out
        clear r hb6 K5 R9
        obtain ⟨L, hL⟩ : ∃ L, L = expN n := ⟨_, rfl⟩
        have HLn : Hid (L = expN n ∧ L ≤ 8160) := ⟨hL, by rw [hL]; exact expN_le n⟩
        obtain ⟨E1, hE1⟩ : ∃ E, E = ebK ps ls pi li := ⟨_, rfl⟩
        obtain ⟨E2, hE2⟩ : ∃ E, E = ebK (exK ps ls pt lt) 32 pi li := ⟨_, rfl⟩
        have HE1 : Hid (E1 = ebK ps ls pi li ∧ ∀ j, 0 ≤ E1 j ∧ E1 j < 256) := ⟨hE1, by rw [hE1]; exact eb_bd _ _ _ _⟩
        have HE2 : Hid (E2 = ebK (exK ps ls pt lt) 32 pi li ∧ ∀ j, 0 ≤ E2 j ∧ E2 j < 256) := ⟨hE2, by rw [hE2]; exact eb_bd _ _ _ _⟩
        clear hL hE1 hE2
        go_wp2_with (first
          | (refine isStore 25 (.tmp 10) (.tmp 61) rfl ?_; go_must (refine wpList_store_row rfl 25 (.tmp 10) (.tmp 61) rfl W6.heap.size _ rfl rfl 25 _ (heap_alloc_new _ _) (size28' _) (by simp only [tab8_size]) (tab8_one _ _) ?_; rw [World.setRow_alloc_new]; simp only [Act.put]; obtain ⟨g10, hg10⟩ : ∃ G, G = W6.heap.size := ⟨_, rfl⟩; obtain ⟨V6, hV6⟩ : ∃ V, V = W6.alloc (.cells (tab8 32 T) 25) := ⟨_, rfl⟩; have b6 : Below W6.heap.size W6 V6 := (by rw [hV6]; exact (Below.refl _ _).alloc (Nat.le_refl _) _); have K6b : Hid (KS w V6 w.heap.size ga gb gc ls lt li (room ps ls) (room pt lt) (room pi li) #[.slice aS ls cs, .slice at' lt ct, .slice ai li ci, .int .i64 n]) := K6.out.below b6; have R10 : Hid (V6.heap[g10]? = some (.cells (tab8 32 T) 25)) := (by rw [hV6, hg10]; exact heap_alloc_new _ _); have R9c : Hid (V6.heap[g9]? = some (.cells (tab8 32 T) 25)) := (by rw [b6.block _ (Array.getElem?_eq_some_iff.1 R9b.out).1]; exact R9b.out); have c3 : V6.cell? ⟨w.heap.size, 3, none⟩ = some (.int .i64 n) := (by rw [cell_of_row _ _ _ _ _ _ K6b.out.made]; rfl); rw [← hV6, ← hg10]; clear b6 hV6 hg10)))
        have r := mexpandN_any _ _ ls li ps pi n V6 (GW.out _ K6b.out) (by have := HS'.out; omega) (by have := HL.out; omega) (SX.out _ K6b.out) (SZ.out _ K6b.out)
        rw [← HLn.out.1, ← HE1.out.1] at r
        refine r.mono ?_
        rintro e W7 ⟨vp, rfl, new7, hb7⟩
        obtain ⟨ap, gp, rfl, nf7⟩ := newB_form new7
        have K7 : Hid (KS w W7 w.heap.size ga gb gc ls lt li (room ps ls) (room pt lt) (room pi li) #[.slice aS ls cs, .slice at' lt ct, .slice ai li ci, .int .i64 n]) := K6b.out.below hb7
        have R9d : Hid (W7.heap[g9]? = some (.cells (tab8 32 T) 25)) := by rw [hb7.block _ (Array.getElem?_eq_some_iff.1 R9c.out).1]; exact R9c.out
        have R10d : Hid (W7.heap[g10]? = some (.cells (tab8 32 T) 25)) := by rw [hb7.block _ (Array.getElem?_eq_some_iff.1 R10.out).1]; exact R10.out
        have P7 : Hid (NF W7 V6.heap.size ap gp L E1) := nf7
        have Z7 : Hid (V6.heap.size ≤ W7.heap.size) := hb7.size
        have ZA : Hid (w.heap.size < V6.heap.size ∧ ga < V6.heap.size ∧ gb < V6.heap.size ∧ gc < V6.heap.size) := ⟨(Array.getElem?_eq_some_iff.1 K6b.out.made).1, K6b.out.ra.lt, K6b.out.rb.lt, K6b.out.rc.lt⟩
        clear r new7 nf7 hb7 c3 K6 R9b R9c R10 z28
        have c3 : W7.cell? ⟨w.heap.size, 3, none⟩ = some (.int .i64 n) := by rw [cell_of_row _ _ _ _ _ _ K7.out.made]; rfl
        go_wp2_with fail
        have r := mexpandN_any _ _ ls li ps pi n W7 (GW.out _ K7.out) (by have := HS'.out; omega) (by have := HL.out; omega) (SX.out _ K7.out) (SZ.out _ K7.out)
        rw [← HLn.out.1, ← HE1.out.1] at r
        refine r.mono ?_
        rintro e W8 ⟨vq, rfl, new8, hb8⟩
        obtain ⟨aq, gq, rfl, nf8⟩ := newB_form new8
        have K8 : Hid (KS w W8 w.heap.size ga gb gc ls lt li (room ps ls) (room pt lt) (room pi li) #[.slice aS ls cs, .slice at' lt ct, .slice ai li ci, .int .i64 n]) := K7.out.below hb8
        have R9e : Hid (W8.heap[g9]? = some (.cells (tab8 32 T) 25)) := by rw [hb8.block _ (Array.getElem?_eq_some_iff.1 R9d.out).1]; exact R9d.out
        have R10e : Hid (W8.heap[g10]? = some (.cells (tab8 32 T) 25)) := by rw [hb8.block _ (Array.getElem?_eq_some_iff.1 R10d.out).1]; exact R10d.out
        have P8 : Hid (NF W8 V6.heap.size ap gp L E1) := P7.out.below hb8
        have Q8 : Hid (NF W8 W7.heap.size aq gq L E1) := nf8
        have Z8 : Hid (W7.heap.size ≤ W8.heap.size) := hb8.size
        clear r new8 nf8 hb8 c3 R9d R10d
        have c3 : W8.cell? ⟨w.heap.size, 3, none⟩ = some (.int .i64 n) := by rw [cell_of_row _ _ _ _ _ _ K8.out.made]; rfl
        go_wp2_with fail
        have r := mderiveN_any _ _ _ ls lt li ps pt pi n W8 (GW.out _ K8.out) (by have := HS'.out; omega) (by have := HT.out; omega) (by have := HL.out; omega) (SX.out _ K8.out) (SY.out _ K8.out) (SZ.out _ K8.out)
        rw [← HLn.out.1, ← HE2.out.1] at r
        refine r.mono ?_
        rintro e W9 ⟨vr, rfl, new9, hb9⟩
        obtain ⟨ar, gr, rfl, nf9⟩ := newB_form new9
        have K9 : Hid (KS w W9 w.heap.size ga gb gc ls lt li (room ps ls) (room pt lt) (room pi li) #[.slice aS ls cs, .slice at' lt ct, .slice ai li ci, .int .i64 n]) := K8.out.below hb9
        have R9f : Hid (W9.heap[g9]? = some (.cells (tab8 32 T) 25)) := by rw [hb9.block _ (Array.getElem?_eq_some_iff.1 R9e.out).1]; exact R9e.out
        have R10f : Hid (W9.heap[g10]? = some (.cells (tab8 32 T) 25)) := by rw [hb9.block _ (Array.getElem?_eq_some_iff.1 R10e.out).1]; exact R10e.out
        have P9 : Hid (NF W9 V6.heap.size ap gp L E1) := P8.out.below hb9
        have Q9 : Hid (NF W9 W7.heap.size aq gq L E1) := Q8.out.below hb9
        have U9 : Hid (NF W9 W8.heap.size ar gr L E2) := nf9
        have Z9 : Hid (W8.heap.size ≤ W9.heap.size) := hb9.size
        clear r new9 nf9 hb9 c3 R9e R10e
        have c3 : W9.cell? ⟨w.heap.size, 3, none⟩ = some (.int .i64 n) := by rw [cell_of_row _ _ _ _ _ _ K9.out.made]; rfl
        go_wp2_with fail
        have r := mderiveN_any _ _ _ ls lt li ps pt pi n W9 (GW.out _ K9.out) (by have := HS'.out; omega) (by have := HT.out; omega) (by have := HL.out; omega) (SX.out _ K9.out) (SY.out _ K9.out) (SZ.out _ K9.out)
        rw [← HLn.out.1, ← HE2.out.1] at r
        refine r.mono ?_
        rintro e W10 ⟨vS, rfl, new10, hb10⟩
        obtain ⟨as', gS, rfl, nf10⟩ := newB_form new10
        have K10 : Hid (KS w W10 w.heap.size ga gb gc ls lt li (room ps ls) (room pt lt) (room pi li) #[.slice aS ls cs, .slice at' lt ct, .slice ai li ci, .int .i64 n]) := K9.out.below hb10
        have R9g : Hid (W10.heap[g9]? = some (.cells (tab8 32 T) 25)) := by rw [hb10.block _ (Array.getElem?_eq_some_iff.1 R9f.out).1]; exact R9f.out
        have R10g : Hid (W10.heap[g10]? = some (.cells (tab8 32 T) 25)) := by rw [hb10.block _ (Array.getElem?_eq_some_iff.1 R10f.out).1]; exact R10f.out
        have P10 : Hid (NF W10 V6.heap.size ap gp L E1) := P9.out.below hb10
        have Q10 : Hid (NF W10 W7.heap.size aq gq L E1) := Q9.out.below hb10
        have U10 : Hid (NF W10 W8.heap.size ar gr L E2) := U9.out.below hb10
        have X10 : Hid (NF W10 W9.heap.size as' gS L E2) := nf10
        -- the four rows are four
        have D4 : Hid (0 < L → gp ≠ gq ∧ gp ≠ gr ∧ gp ≠ gS ∧ gq ≠ gr ∧ gq ≠ gS ∧ gr ≠ gS) := fun h0 => by
          have a1 := P7.out.lt h0
          have a2 := Q8.out.lt h0
          have a3 := U9.out.lt h0
          have b2 := (Q8.out.2 h0).2.1
          have b3 := (U9.out.2 h0).2.1
          have b4 := (X10.out.2 h0).2.1
          have s8 : gp < W8.heap.size := P8.out.lt h0
          have s9 : gp < W9.heap.size := P9.out.lt h0
          have t9 : gq < W9.heap.size := Q9.out.lt h0
          omega
        clear r new10 nf10 hb10 c3 R9f R10f P7 P8 P9 Q8 Q9 U9
        go_wp2_with fail
        refine (mequal_any _ _ ls lt ps pt W10 (SX.out _ K10.out) (SY.out _ K10.out)).mono ?_
        rintro e W11 ⟨rfl, rfl⟩
        go_wp2_with fail
        refine (mextract_any _ _ lt ls pt ps W11 (GW.out _ K10.out) (by have := HT.out; omega) (by have := HS'.out; omega) (SY.out _ K10.out) (SX.out _ K10.out)).mono ?_
        rintro e W12 ⟨rfl, hb12⟩
        have K12 : Hid (KS w W12 w.heap.size ga gb gc ls lt li (room ps ls) (room pt lt) (room pi li) #[.slice aS ls cs, .slice at' lt ct, .slice ai li ci, .int .i64 n]) := K10.out.below hb12
        have R9h : Hid (W12.heap[g9]? = some (.cells (tab8 32 T) 25)) := by rw [hb12.block _ (Array.getElem?_eq_some_iff.1 R9g.out).1]; exact R9g.out
        have R10h : Hid (W12.heap[g10]? = some (.cells (tab8 32 T) 25)) := by rw [hb12.block _ (Array.getElem?_eq_some_iff.1 R10g.out).1]; exact R10g.out
        have P12 : Hid (NF W12 V6.heap.size ap gp L E1) := P10.out.below hb12
        have Q12 : Hid (NF W12 W7.heap.size aq gq L E1) := Q10.out.below hb12
        have U12 : Hid (NF W12 W8.heap.size ar gr L E2) := U10.out.below hb12
        have X12 : Hid (NF W12 W9.heap.size as' gS L E2) := X10.out.below hb12
        clear hb12 R9g R10g P10 Q10 U10 X10
        have dp := conv_strP (P12.out.sliceB HLn.out.2 HE1.out.2)
        have dq := conv_strP (Q12.out.sliceB HLn.out.2 HE1.out.2)
        have dr := conv_strP (U12.out.sliceB HLn.out.2 HE2.out.2)
        have ds := conv_strP (X12.out.sliceB HLn.out.2 HE2.out.2)
        have c0 : W12.cell? ⟨w.heap.size, 0, none⟩ = some (.slice aS ls cs) := by rw [cell_of_row _ _ _ _ _ _ K12.out.made]; rfl
        have c1 : W12.cell? ⟨w.heap.size, 1, none⟩ = some (.slice at' lt ct) := by rw [cell_of_row _ _ _ _ _ _ K12.out.made]; rfl
        have c2 : W12.cell? ⟨w.heap.size, 2, none⟩ = some (.slice ai li ci) := by rw [cell_of_row _ _ _ _ _ _ K12.out.made]; rfl
        go_wp2_with (first
          | (refine isLoad 25 (.tmp 10) rfl ?_; go_must (refine wpList_load_row_w rfl 25 (.tmp 10) rfl g10 rfl 25 _ (0, 0) _ R10h.out Tryd.underlying25 rfl (size28' _) ?_; simp only [Act.put, List.setIfInBounds_toArray, List.set_cons_succ, List.set_cons_zero]))
          | (refine isLoad 25 (.tmp 9) rfl ?_; go_must (refine wpList_load_row_w rfl 25 (.tmp 9) rfl g9 rfl 25 _ (0, 0) _ R9h.out Tryd.underlying25 rfl (size28' _) ?_; simp only [Act.put, List.setIfInBounds_toArray, List.set_cons_succ, List.set_cons_zero]))
          | (refine isNeq (.tmp 125) (.tmp 126) rfl ?_; go_must (refine wpList_neq28_w rfl (.tmp 125) (.tmp 126) rfl rfl rfl ?_; rw [eq32_self]; simp only [Act.put, List.setIfInBounds_toArray, List.set_cons_succ, List.set_cons_zero])))
        clear dp dq dr ds R9h R10h
        refine (kept_any ga ls ca ps (room ps ls) _ W12 (by have := HS'.out; omega) CA.out.1 CA.out.2 K12.out.ra (H0.out.below K12.out.bel) (fun j hj => room_lo hj) (fun j h1 _ => room_hi h1)).mono ?_
        rintro e W13 ⟨rfl, hb13⟩
        have K13 : Hid (KS w W13 w.heap.size ga gb gc ls lt li (room ps ls) (room pt lt) (room pi li) #[.slice aS ls cs, .slice at' lt ct, .slice ai li ci, .int .i64 n]) := K12.out.below hb13
        have P13 : Hid (NF W13 V6.heap.size ap gp L E1) := P12.out.below hb13
        have Q13 : Hid (NF W13 W7.heap.size aq gq L E1) := Q12.out.below hb13
        have U13 : Hid (NF W13 W8.heap.size ar gr L E2) := U12.out.below hb13
        have X13 : Hid (NF W13 W9.heap.size as' gS L E2) := X12.out.below hb13
        clear hb13 c0 c1 c2 K12 P12 Q12 U12 X12
        have c1 : W13.cell? ⟨w.heap.size, 1, none⟩ = some (.slice at' lt ct) := by rw [cell_of_row _ _ _ _ _ _ K13.out.made]; rfl
        go_wp2_with fail
        refine (kept_any gb lt cb pt (room pt lt) _ W13 (by have := HT.out; omega) CB.out.1 CB.out.2 K13.out.rb (H1.out.below K13.out.bel) (fun j hj => room_lo hj) (fun j h1 _ => room_hi h1)).mono ?_
        rintro e W14 ⟨rfl, hb14⟩
        have K14 : Hid (KS w W14 w.heap.size ga gb gc ls lt li (room ps ls) (room pt lt) (room pi li) #[.slice aS ls cs, .slice at' lt ct, .slice ai li ci, .int .i64 n]) := K13.out.below hb14
        have P14 : Hid (NF W14 V6.heap.size ap gp L E1) := P13.out.below hb14
        have Q14 : Hid (NF W14 W7.heap.size aq gq L E1) := Q13.out.below hb14
        have U14 : Hid (NF W14 W8.heap.size ar gr L E2) := U13.out.below hb14
        have X14 : Hid (NF W14 W9.heap.size as' gS L E2) := X13.out.below hb14
        clear hb14 c1 K13 P13 Q13 U13 X13
        have c2 : W14.cell? ⟨w.heap.size, 2, none⟩ = some (.slice ai li ci) := by rw [cell_of_row _ _ _ _ _ _ K14.out.made]; rfl
        go_wp2_with fail
        refine (kept_any gc li cc pi (room pi li) _ W14 (by have := HL.out; omega) CC.out.1 CC.out.2 K14.out.rc (H2.out.below K14.out.bel) (fun j hj => room_lo hj) (fun j h1 _ => room_hi h1)).mono ?_
        rintro e W15 ⟨rfl, hb15⟩
        have K15 : Hid (KS w W15 w.heap.size ga gb gc ls lt li (room ps ls) (room pt lt) (room pi li) #[.slice aS ls cs, .slice at' lt ct, .slice ai li ci, .int .i64 n]) := K14.out.below hb15
        have P15 : Hid (NF W15 V6.heap.size ap gp L E1) := P14.out.below hb15
        have Q15 : Hid (NF W15 W7.heap.size aq gq L E1) := Q14.out.below hb15
        have U15 : Hid (NF W15 W8.heap.size ar gr L E2) := U14.out.below hb15
        have X15 : Hid (NF W15 W9.heap.size as' gS L E2) := X14.out.below hb15
        clear hb15 c2 K14 P14 Q14 U14 X14
        have O0 : Hid ((W15.alloc (.cells #[] 5)).ownsRow W15.heap.size 5 1 (.slice (some ⟨W15.heap.size, 0, none⟩) 0 0) 0 (vals [])) := own_empty W15
        have B0 : Hid (Below W15.heap.size W15 (W15.alloc (.cells #[] 5))) := (Below.refl _ _).alloc (Nat.le_refl _) _
        have NR : Hid (ar = none → L = 0) := U15.out.1
        go_wp2_with (first
          | (refine isApp (.tmp 148) (.tmp 149) rfl ?_; go_must (refine wpList_appS (B := W15.heap.size) (l := []) (r := firstL E2 L) (w0 := W15) rfl (.tmp 148) (.tmp 149) rfl rfl rfl O0.out (firstL_len _ _) (src_of ((U15.out.below B0.out).sliceB HLn.out.2 HE2.out.2) NR.out) (by have := HLn.out.2; omega) B0.out B0.out.size ?_; intro v19 W16 own16 bel16 sz16; simp only [List.nil_append, Nat.zero_add] at own16; simp only [Act.put, List.setIfInBounds_toArray, List.set_cons_succ, List.set_cons_zero]; have O16 : Hid (W16.ownsRow W15.heap.size 5 1 v19 L (vals (firstL E2 L))) := own16; have B16 : Hid (Below W15.heap.size W15 W16) := bel16; clear own16 bel16 sz16)))
        obtain ⟨a19, g19, c19, rfl, f19a, f19b, f19⟩ := own_F O16.out
        have F19 : Hid (L ≤ c19 ∧ c19 ≤ maxLen ∧ (0 < L → a19 = some ⟨g19, 0, none⟩ ∧ W15.heap.size ≤ g19 ∧ RowP W16 g19 L E2)) := ⟨f19a, f19b, f19⟩
        clear f19a f19b f19 O16 O0 B0 NR
        obtain ⟨V16, hV16⟩ : ∃ V, V = W16.alloc (.cells #[.slice ap L L, .slice aq L L, .slice ar L L, .slice as' L L] 22) := ⟨_, rfl⟩
        have bV : Below W15.heap.size W15 V16 := by rw [hV16]; exact B16.out.alloc B16.out.size _
        have hLrow : V16.heap[W16.heap.size]? = some (.cells #[.slice ap L L, .slice aq L L, .slice ar L L, .slice as' L L] 22) := by rw [hV16]; exact heap_alloc_new _ _
        have K16 : Hid (KS w V16 w.heap.size ga gb gc ls lt li (room ps ls) (room pt lt) (room pi li) #[.slice aS ls cs, .slice at' lt ct, .slice ai li ci, .int .i64 n]) := K15.out.below bV
        have pV := P15.out.below bV
        have qV := Q15.out.below bV
        have uV := U15.out.below bV
        have xV := X15.out.below bV
        have r := apart_any W16.heap.size L (ao4 ap aq ar as') (gs4 gp gq gr gS) (fs4 E1 E2) V16 HLn.out.2 (Array.getElem?_eq_some_iff.1 hLrow).1 (fun i hi => by
          rw [cell_of_row _ _ _ _ _ _ hLrow]
          have h4 : i = 0 ∨ i = 1 ∨ i = 2 ∨ i = 3 := by omega
          rcases h4 with rfl | rfl | rfl | rfl <;> rfl) (fun h0 i hi => by
          have l1 := P15.out.lt h0
          have l2 := Q15.out.lt h0
          have l3 := U15.out.lt h0
          have l4 := X15.out.lt h0
          have l5 := B16.out.size
          have h4 : i = 0 ∨ i = 1 ∨ i = 2 ∨ i = 3 := by omega
          rcases h4 with rfl | rfl | rfl | rfl
          · exact ⟨(pV.2 h0).1, (pV.2 h0).2.2, fun e => by have e' : gp = W16.heap.size := e; omega⟩
          · exact ⟨(qV.2 h0).1, (qV.2 h0).2.2, fun e => by have e' : gq = W16.heap.size := e; omega⟩
          · exact ⟨(uV.2 h0).1, (uV.2 h0).2.2, fun e => by have e' : gr = W16.heap.size := e; omega⟩
          · exact ⟨(xV.2 h0).1, (xV.2 h0).2.2, fun e => by have e' : gS = W16.heap.size := e; omega⟩) (fun h0 i j hi hj hij => by
          obtain ⟨d1, d2, d3, d4, d5, d6⟩ := D4.out h0
          have h4 : i = 0 ∨ i = 1 ∨ i = 2 ∨ i = 3 := by omega
          have h5 : j = 0 ∨ j = 1 ∨ j = 2 ∨ j = 3 := by omega
          rcases h4 with rfl | rfl | rfl | rfl <;> rcases h5 with rfl | rfl | rfl | rfl <;> first | exact absurd rfl hij | assumption | exact fun e => d1 e.symm | exact fun e => d2 e.symm | exact fun e => d3 e.symm | exact fun e => d4 e.symm | exact fun e => d5 e.symm | exact fun e => d6 e.symm)
        rw [hV16] at r
        refine r.mono ?_
        rintro e W17 ⟨rfl, sv17⟩
        rw [← hV16] at sv17
        have gsB : ∀ k, (0 < L ∧ ∃ i, i < 4 ∧ k = gs4 gp gq gr gS i) → V6.heap.size ≤ k ∧ k < W15.heap.size := by
          rintro k ⟨h0, i, hi, rfl⟩
          have l1 := P15.out.lt h0
          have l2 := Q15.out.lt h0
          have l3 := U15.out.lt h0
          have l4 := X15.out.lt h0
          have m1 := (P15.out.2 h0).2.1
          have m2 := (Q15.out.2 h0).2.1
          have m3 := (U15.out.2 h0).2.1
          have m4 := (X15.out.2 h0).2.1
          have z7 := Z7.out
          have z8 := Z8.out
          have z9 := Z9.out
          have h4 : i = 0 ∨ i = 1 ∨ i = 2 ∨ i = 3 := by omega
          rcases h4 with rfl | rfl | rfl | rfl
          · exact ⟨m1, l1⟩
          · exact ⟨Nat.le_trans z7 m2, l2⟩
          · exact ⟨Nat.le_trans (Nat.le_trans z7 z8) m3, l3⟩
          · exact ⟨Nat.le_trans (Nat.le_trans (Nat.le_trans z7 z8) z9) m4, l4⟩
        have za := ZA.out
        have K17 : Hid (KS w W17 w.heap.size ga gb gc ls lt li (room ps ls) (room pt lt) (room pi li) #[.slice aS ls cs, .slice at' lt ct, .slice ai li ci, .int .i64 n]) :=
          ⟨K16.out.bel.trans (sv17.to_below K16.out.bel.size fun k hk => by have := (gsB k hk).1; omega),
           by rw [sv17.block _ (Array.getElem?_eq_some_iff.1 K16.out.made).1 (fun hk => by have := (gsB _ hk).1; omega)]; exact K16.out.made,
           K16.out.ra.of_block (sv17.block _ K16.out.ra.lt (fun hk => by have := (gsB _ hk).1; omega)),
           K16.out.rb.of_block (sv17.block _ K16.out.rb.lt (fun hk => by have := (gsB _ hk).1; omega)),
           K16.out.rc.of_block (sv17.block _ K16.out.rc.lt (fun hk => by have := (gsB _ hk).1; omega))⟩
        have F17 : Hid (0 < L → a19 = some ⟨g19, 0, none⟩ ∧ W15.heap.size ≤ g19 ∧ RowP W17 g19 L E2) := fun h0 => by
          obtain ⟨f1, f2, f3⟩ := F19.out.2.2 h0
          have f4 : RowP V16 g19 L E2 := by rw [hV16]; exact f3.below ((Below.refl _ _).alloc (Nat.le_refl _) _)
          exact ⟨f1, f2, f4.of_block (sv17.block _ f4.lt (fun hk => by have := (gsB _ hk).2; omega))⟩
        have Z15 : Hid (ga < W15.heap.size ∧ gb < W15.heap.size) := ⟨K15.out.ra.lt, K15.out.rb.lt⟩
        clear r sv17 gsB za pV qV uV xV hLrow bV hV16 K15 K16 P15 Q15 U15 X15 B16
        have c0 : W17.cell? ⟨w.heap.size, 0, none⟩ = some (.slice aS ls cs) := by rw [cell_of_row _ _ _ _ _ _ K17.out.made]; rfl
        go_wp2_with fail
        refine (kept_any ga ls ca ps (room ps ls) _ W17 (by have := HS'.out; omega) CA.out.1 CA.out.2 K17.out.ra (H0.out.below K17.out.bel) (fun j hj => room_lo hj) (fun j h1 _ => room_hi h1)).mono ?_
        rintro e W18 ⟨rfl, hb18⟩
        have K18 : Hid (KS w W18 w.heap.size ga gb gc ls lt li (room ps ls) (room pt lt) (room pi li) #[.slice aS ls cs, .slice at' lt ct, .slice ai li ci, .int .i64 n]) := K17.out.below hb18
        have F18 : Hid (0 < L → a19 = some ⟨g19, 0, none⟩ ∧ W15.heap.size ≤ g19 ∧ RowP W18 g19 L E2) := fun h0 => ⟨(F17.out h0).1, (F17.out h0).2.1, (F17.out h0).2.2.below hb18⟩
        clear hb18 c0 K17 F17
        have c2 : W18.cell? ⟨w.heap.size, 2, none⟩ = some (.slice ai li ci) := by rw [cell_of_row _ _ _ _ _ _ K18.out.made]; rfl
        go_wp2_with fail
        refine (kept_any gc li cc pi (room pi li) _ W18 (by have := HL.out; omega) CC.out.1 CC.out.2 K18.out.rc (H2.out.below K18.out.bel) (fun j hj => room_lo hj) (fun j h1 _ => room_hi h1)).mono ?_
        rintro e W19 ⟨rfl, hb19⟩
        have K19 : Hid (KS w W19 w.heap.size ga gb gc ls lt li (room ps ls) (room pt lt) (room pi li) #[.slice aS ls cs, .slice at' lt ct, .slice ai li ci, .int .i64 n]) := K18.out.below hb19
        have FW : Hid (0 < L → a19 = some ⟨g19, 0, none⟩ ∧ W15.heap.size ≤ g19 ∧ RowP W19 g19 L E2) := fun h0 => ⟨(F18.out h0).1, (F18.out h0).2.1, (F18.out h0).2.2.below hb19⟩
        clear hb19 c2 K18 F18
        go_wp2_with fail
        go_loopw [20] (fun i W => ∃ m : Nat, m ≤ ls ∧ i = .int .i64 m ∧ RowP W ga (ls + 80) (px (room ps ls) m) ∧ Save (fun k => k = ga) W19 W) (fun i _ => ls - (intOf i).toNat)
        case atStart => exact ⟨0, by omega, rfl, by rw [px_zero]; exact K19.out.ra, Save.refl _ _⟩
        case round =>
          obtain ⟨m, hm, rfl, hr, hs⟩ := hrel
          have RX : Hid (RowP wr ga (ls + 80) (px (room ps ls) m)) := hr
          have SV : Hid (Save (fun k => k = ga) W19 wr) := hs
          clear hr hs
          by_cases hlt : m < ls
          · have i1 : (m : Int) < ls := by omega
            obtain ⟨q1, q2⟩ := RX.out.cell (m := m) (by omega)
            rw [px_at] at q1
            have w3 : wrap64 ((m : Int) + 1) = ((m + 1 : Nat) : Int) := by have := HS'.out; simp [wrap64]; omega
            have W3' : Hid (_) := w3
            clear w3
            go_wp2
            go_roundw
            case rel => exact ⟨m + 1, by omega, by rw [W3'.out], by rw [← px_step]; exact RX.out.set _ (by omega), SV.out.cell _ rfl⟩
            case measure =>
              rw [W3'.out]
              simp only [intOf, Int.toNat_natCast]
              omega
          · have em : m = ls := by omega
            obtain ⟨Y, hY⟩ : ∃ Y, Y = wr := ⟨_, rfl⟩
            have HY : Hid (Y = wr) := hY
            have dd := DD.out
            have bs := BS.out
            have RXY : Hid (RowP Y ga (ls + 80) (px (room ps ls) ls)) := by have h := RX.out; rw [em] at h; rw [hY]; exact h
            have SVY : Hid (Save (fun k => k = ga) W19 Y) := by rw [hY]; exact SV.out
            have RYY : Hid (RowP Y gb (lt + 80) (room pt lt)) := K19.out.rb.of_block (SVY.out.block _ K19.out.rb.lt (fun e => dd.1 e.symm))
            have MY : Hid (Y.heap[w.heap.size]? = some (.cells #[.slice aS ls cs, .slice at' lt ct, .slice ai li ci, .int .i64 n] 34)) := by
              show Y.heap[w.heap.size]? = some (.cells #[.slice aS ls cs, .slice at' lt ct, .slice ai li ci, .int .i64 n] 34)
              rw [SVY.out.block _ (Array.getElem?_eq_some_iff.1 K19.out.made).1 (fun e => by have e' : w.heap.size = ga := e; omega)]; exact K19.out.made
            have BY : Hid (Below w.heap.size w Y) := K19.out.bel.trans (SVY.out.to_below K19.out.bel.size (fun k e => by have e' : k = ga := e; omega))
            have z15 := Z15.out
            have FY : Hid (0 < L → a19 = some ⟨g19, 0, none⟩ ∧ W15.heap.size ≤ g19 ∧ RowP Y g19 L E2) := fun h0 => ⟨(FW.out h0).1, (FW.out h0).2.1, (FW.out h0).2.2.of_block (SVY.out.block _ (FW.out h0).2.2.lt (fun e => by have e' : g19 = ga := e; have := (FW.out h0).2.1; omega))⟩
            clear hY dd bs z15 em RX SV
            go_wp2
            go_loopw [21] (fun i W => ∃ m : Nat, m ≤ lt ∧ i = .int .i64 m ∧ RowP W gb (lt + 80) (px (room pt lt) m) ∧ Save (fun k => k = gb) Y W) (fun i _ => lt - (intOf i).toNat)
            case atStart => exact ⟨0, by omega, rfl, by rw [px_zero, ← HY.out]; exact RYY.out, by rw [← HY.out]; exact Save.refl _ _⟩
            case round =>
              obtain ⟨m2, hm2, rfl, hr, hs⟩ := hrel
              have RX : Hid (RowP wr gb (lt + 80) (px (room pt lt) m2)) := hr
              have SV : Hid (Save (fun k => k = gb) Y wr) := hs
              clear hr hs
              by_cases hlt2 : m2 < lt
              · have i1 : (m2 : Int) < lt := by omega
                obtain ⟨q1, q2⟩ := RX.out.cell (m := m2) (by omega)
                rw [px_at] at q1
                have w3 : wrap64 ((m2 : Int) + 1) = ((m2 + 1 : Nat) : Int) := by have := HT.out; simp [wrap64]; omega
                have W3' : Hid (_) := w3
                clear w3
                go_wp2
                go_roundw
                case rel => exact ⟨m2 + 1, by omega, by rw [W3'.out], by rw [← px_step]; exact RX.out.set _ (by omega), SV.out.cell _ rfl⟩
                case measure =>
                  rw [W3'.out]
                  simp only [intOf, Int.toNat_natCast]
                  omega
              · have em : m2 = lt := by omega
                obtain ⟨fx, hfx⟩ : ∃ f, f = px (room ps ls) ls := ⟨_, rfl⟩
                obtain ⟨fy, hfy⟩ : ∃ f, f = px (room pt lt) lt := ⟨_, rfl⟩
                have dd := DD.out
                have bs := BS.out
                have RA : Hid (RowP wr ga (ls + 80) fx) := by rw [hfx]; exact RXY.out.of_block (SV.out.block _ RXY.out.lt (fun e => dd.1 e))
                have RB : Hid (RowP wr gb (lt + 80) fy) := by have h := RX.out; rw [em] at h; rw [hfy]; exact h
                have FXB : Hid (∀ j, j < ls → 0 ≤ fx j ∧ fx j < 256) := by rw [hfx]; exact px_bd _ _ _ fun j _ => room_bd H0.out.bytes j
                have FYB : Hid (∀ j, j < lt → 0 ≤ fy j ∧ fy j < 256) := by rw [hfy]; exact px_bd _ _ _ fun j _ => room_bd H1.out.bytes j
                have M2 : Hid (wr.heap[w.heap.size]? = some (.cells #[.slice aS ls cs, .slice at' lt ct, .slice ai li ci, .int .i64 n] 34)) := by
                  show wr.heap[w.heap.size]? = some (.cells #[.slice aS ls cs, .slice at' lt ct, .slice ai li ci, .int .i64 n] 34)
                  rw [SV.out.block _ (Array.getElem?_eq_some_iff.1 MY.out).1 (fun e => by have e' : w.heap.size = gb := e; omega)]; exact MY.out
                have B2 : Hid (Below w.heap.size w wr) := BY.out.trans (SV.out.to_below BY.out.size (fun k e => by have e' : k = gb := e; omega))
                have z15 := Z15.out
                have F2 : Hid (0 < L → a19 = some ⟨g19, 0, none⟩ ∧ RowP wr g19 L E2) := fun h0 => ⟨(FY.out h0).1, (FY.out h0).2.2.of_block (SV.out.block _ (FY.out h0).2.2.lt (fun e => by have e' : g19 = gb := e; have := (FY.out h0).2.1; omega))⟩
                clear hfx hfy dd bs z15 em RX SV RXY SVY RYY MY BY FY
                have c0 : wr.cell? ⟨w.heap.size, 0, none⟩ = some (.slice aS ls cs) := by rw [cell_of_row _ _ _ _ _ _ M2.out]; rfl
                have c1 : wr.cell? ⟨w.heap.size, 1, none⟩ = some (.slice at' lt ct) := by rw [cell_of_row _ _ _ _ _ _ M2.out]; rfl
                have c2 : wr.cell? ⟨w.heap.size, 2, none⟩ = some (.slice ai li ci) := by rw [cell_of_row _ _ _ _ _ _ M2.out]; rfl
                have c3 : wr.cell? ⟨w.heap.size, 3, none⟩ = some (.int .i64 n) := by rw [cell_of_row _ _ _ _ _ _ M2.out]; rfl
                go_wp2_with fail
                have r := mderiveN_any _ _ _ ls lt li ps pt pi n wr (HG.out.below B2.out HG.out.sz) (by have := HS'.out; omega) (by have := HT.out; omega) (by have := HL.out; omega) (H0.out.below B2.out) (H1.out.below B2.out) (H2.out.below B2.out)
                rw [← HLn.out.1, ← HE2.out.1] at r
                refine r.mono ?_
                rintro e W22 ⟨v22, rfl, new22, hb22⟩
                have RA2 : Hid (RowP W22 ga (ls + 80) fx) := RA.out.below hb22
                have RB2 : Hid (RowP W22 gb (lt + 80) fy) := RB.out.below hb22
                have BW : Hid (Below w.heap.size w W22) := B2.out.trans (hb22.mono B2.out.size)
                have d1 := conv_strP (new22.sliceB HLn.out.2 HE2.out.2)
                have d2 := conv_strP (F_sliceB F19.out.1 F19.out.2.1 (fun h0 => ⟨(F2.out h0).1, (F2.out h0).2.below hb22⟩) HE2.out.2)
                clear r new22 hb22 c0 c1 c2 c3 RA RB B2 M2 F2
                go_wp2_with fail
                have SX2 : Hid (∀ W, Below W22.heap.size W22 W → SliceB W (.slice (some ⟨ga, 0, none⟩) ls ca) ls fx) := fun W hb => (RA2.out.below hb).sliceB (by omega) (by have := CA.out.1; omega) CA.out.2 FXB.out
                have SY2 : Hid (∀ W, Below W22.heap.size W22 W → SliceB W (.slice (some ⟨gb, 0, none⟩) lt cb) lt fy) := fun W hb => (RB2.out.below hb).sliceB (by omega) (by have := CB.out.1; omega) CB.out.2 FYB.out
                obtain ⟨T2, hT2⟩ : ∃ T, T = tagV fx ls fy lt := ⟨_, rfl⟩
                have HT2 : Hid (_) := hT2
                have r := mtag_any _ _ ls lt fx fy W22 (HG.out.below BW.out HG.out.sz) (by have := HS'.out; omega) (by have := HT.out; omega) (SX2.out _ (Below.refl _ _)) (SY2.out _ (Below.refl _ _))
                rw [← hT2] at r
                refine r.mono ?_
                rintro e W23 ⟨rfl, hb23⟩
                have B23 : Hid (Below W22.heap.size W22 W23) := hb23
                clear r hT2 hb23 d1 d2
                have b23 : Hid (Below W22.heap.size W22 (W23.alloc (.cells #[] 5))) := B23.out.alloc B23.out.size _
                go_wp2_with (first
                  | (refine isApp (.tmp 217) (.tmp 218) rfl ?_; go_must (refine wpList_copy_w (p := fx) rfl (.tmp 217) (.tmp 218) rfl rfl rfl (SX2.out _ b23.out) (by have := HS'.out; omega) ?_; intro v24 W24 s24 h24; simp only [Act.put, List.setIfInBounds_toArray, List.set_cons_succ, List.set_cons_zero]; have S24 : Hid (SliceB W24 v24 ls fx) := s24; have B24 : Hid (Below W22.heap.size W22 W24) := b23.out.trans (h24.mono b23.out.size); have b24 : Hid (Below W22.heap.size W22 (W24.alloc (.cells #[] 5))) := B24.out.alloc B24.out.size _; clear s24 h24))
                  | (refine isApp (.tmp 220) (.tmp 221) rfl ?_; go_must (refine wpList_copy_w (p := fy) rfl (.tmp 220) (.tmp 221) rfl rfl rfl (SY2.out _ b24.out) (by have := HT.out; omega) ?_; intro v26 W26 s26 h26; simp only [Act.put, List.setIfInBounds_toArray, List.set_cons_succ, List.set_cons_zero]; have S26 : Hid (SliceB W26 v26 lt fy) := s26; have S24b : Hid (SliceB W26 v24 ls fx) := (S24.out.below ((Below.refl _ _).alloc (Nat.le_refl _) _)).below h26; have B26 : Hid (Below W22.heap.size W22 W26) := b24.out.trans (h26.mono b24.out.size); clear s26 h26)))
                have BW26 : Hid (Below w.heap.size w W26) := BW.out.trans (B26.out.mono BW.out.size)
                have r := mtag_any _ _ ls lt fx fy W26 (HG.out.below BW26.out HG.out.sz) (by have := HS'.out; omega) (by have := HT.out; omega) S24b.out S26.out
                rw [← HT2.out] at r
                refine r.mono ?_
                rintro e W27 ⟨rfl, hb27⟩
                have BW27 : Hid (Below w.heap.size w W27) := BW26.out.trans (hb27.mono BW26.out.size)
                clear r hb27
                go_wp2_with (first
                  | (refine isEql (.tmp 216) (.tmp 223) rfl ?_; go_must (refine wpList_eql28_w rfl (.tmp 216) (.tmp 223) rfl rfl rfl ?_; rw [eq32_self]; simp only [Act.put, List.setIfInBounds_toArray, List.set_cons_succ, List.set_cons_zero])))
                go_ret
                exact ⟨rfl, BW27.out⟩
end Go.Proofs.YtjaddenjeaalaaaDoor
