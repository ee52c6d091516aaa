import Derived.Test.YtigkmgoidbamnaaV9t
namespace Go.Proofs.Ytigkmgoidbamnaa.Tap
open Go.RowKit Gf8 Aes By8 Cel Cf
/- What is known of parts: the law's lists and alike of them. -/

theorem ptX_lL (nv bv : Value) (x : Nat → Value) (n : Nat) : [nv, bv] ++ lL x n = lL (ptX nv bv x) (2 + n) := by
  induction n with
  | zero => rfl
  | succ k ih =>
    rw [show 2 + (k + 1) = (2 + k) + 1 by omega]
    simp only [lL]
    rw [← ih, List.append_assoc]
    congr 2
    unfold ptX
    rw [if_neg (by omega), if_neg (by omega), Nat.add_sub_cancel_left]
theorem ownL_cell {W : World} {B m lg lc : Nat} {x : Nat → Value} (h : W.ownsRow B 27 1 (.slice (some ⟨lg, 0, none⟩) m lc) m (lL x m)) {t : Nat} (ht : t < m) : W.cell? ⟨lg, 0 + t, none⟩ = some (x t) := by
  rcases h.2 with ⟨e, _⟩ | ⟨g, cap, cur, e, _, hg, h1, h2, h3, h4⟩
  · cases e
  · injection e with e1 _ _
    injection e1 with e1
    injection e1 with e1 _ _
    subst e1
    rw [cell_of_row _ _ _ _ _ _ hg, Nat.zero_add, ← Array.getElem?_toList]
    have := lL_get x m t ht
    rw [← h4, List.getElem?_take, if_pos (by omega)] at this
    exact this
theorem ownL_some {W : World} {B m : Nat} {v : Value} {xs : List Value} {t : TypeId} {s : Nat} (h : W.ownsRow B t s v m xs) (hm : 0 < m) : ∃ g c, v = .slice (some ⟨g, 0, none⟩) m c ∧ B ≤ g ∧ g < W.heap.size := by
  rcases h.2 with ⟨_, e⟩ | ⟨g, cap, cur, e, hB, hg, _⟩
  · omega
  · exact ⟨g, cap, e, hB, (Array.getElem?_eq_some_iff.1 hg).1⟩
theorem own_sl {W : World} {B n : Nat} {v : Value} {p : Nat → Nat} (h : W.ownsRow B 5 1 v n (bytesL n p)) (hp : ∀ j, j < n → p j < 256) : SliceN W v n p := own_slice h hp
theorem one_of {v : Value} (h : ∃ g l k, v = .slice g l k) : v.oneCell' = true := by
  obtain ⟨_, _, _, rfl⟩ := h
  rfl
section
variable {W : World} {B n : Nat} {nv bv cv : Value} {x : Nat → Value} {ln lb lq : Nat} {f : Nat → Nat}
theorem PtS.rowAt (h : PtS W B n nv bv cv x ln lb lq f) : 0 < n → ∃ ca oa cc, cv = .slice (some ⟨ca, oa, none⟩) n cc ∧ ca < W.heap.size ∧ ∀ i, i < n → W.cell? ⟨ca, oa + i, none⟩ = some (x i) := fun h0 => by
  obtain ⟨g, c, rfl, _, hg⟩ := ownL_some h.own h0
  exact ⟨g, 0, c, rfl, hg, fun i hi => ownL_cell h.own hi⟩
theorem PtS.nil (h : PtS W B n nv bv cv x ln lb lq f) : ∃ aa ka, cv = .slice aa n ka ∧ (aa = none → n = 0 ∧ ka = 0) ∧ (0 < n → ∃ ca oa, aa = some ⟨ca, oa, none⟩ ∧ ca < W.heap.size ∧ ∀ i, i < n → W.cell? ⟨ca, oa + i, none⟩ = some (x i)) := by
  rcases h.own.2 with ⟨rfl, rfl⟩ | ⟨g, cap, cur, rfl, hB, hg, _⟩
  · exact ⟨_, _, rfl, (fun _ => ⟨rfl, rfl⟩), fun h => by omega⟩
  · exact ⟨_, _, rfl, (fun h => by cases h), fun h0 => ⟨g, 0, rfl, (Array.getElem?_eq_some_iff.1 hg).1, fun i hi => ownL_cell h.own hi⟩⟩
theorem lists_pt (h : PtS W B n nv bv cv x ln lb lq f) (hn : n ≤ 64) : Calls Try.prog 21 #[.agg (ptC nv bv cv)] W fun e w' => ∃ r, e = .returned r ∧ w'.ownsRow W.heap.size 27 1 r (2 + n) (lL (ptX nv bv x) (2 + n)) ∧ Below W.heap.size W w' := by
  obtain ⟨aa, ka, rfl, h1, h2⟩ := h.nil
  have := lists_any nv bv n aa ka x W (shp3 h.rowN) (shp3 h.rowB) (fun i hi => one_of (shp3 (h.rowC i hi))) h1 h2 (by omega)
  rw [ptX_lL] at this
  exact this
theorem alike_pt {B' : Nat} {nv' bv' cv' : Value} {x' : Nat → Value} (h : PtS W B n nv bv cv x ln lb lq f) (h' : PtS W B' n nv' bv' cv' x' ln lb lq f) (hn : n ≤ 64) (hf : ∀ j, j < ln + lb + n * lq → f j < 256) :
    Calls Try.prog 19 #[.agg (ptC nv bv cv), .agg (ptC nv' bv' cv')] W fun e w' => e = .returned (.bool true) ∧ Below W.heap.size W w' := by
  obtain ⟨aa, ka, rfl, _, h2⟩ := h.nil
  obtain ⟨ab, kb, rfl, _, h2'⟩ := h'.nil
  have l1 : ∀ j, j < ln → f j < 256 := fun j hj => hf j (by omega)
  have l2 : ∀ j, j < lb → f (ln + j) < 256 := fun j hj => hf _ (by omega)
  have l3 : ∀ i, i < n → ∀ j, j < lq → f (ln + lb + i * lq + j) < 256 := fun i hi j hj => hf _ (by
    have : (i + 1) * lq ≤ n * lq := Nat.mul_le_mul_right _ hi
    rw [Nat.add_mul, Nat.one_mul] at this
    omega)
  exact alike_any nv bv nv' bv' n aa ab ka kb ln lb x x' (fun _ => lq) f f (fun j => f (ln + j)) (fun j => f (ln + j)) (fun i j => f (ln + lb + i * lq + j)) (fun i j => f (ln + lb + i * lq + j)) W
    ⟨own_sl h.rowN l1, own_sl h'.rowN l1⟩ (fun _ _ => rfl) ⟨own_sl h.rowB l2, own_sl h'.rowB l2⟩ (fun _ _ => rfl) (fun i hi => ⟨own_sl (h.rowC i hi) (l3 i hi), own_sl (h'.rowC i hi) (l3 i hi)⟩) (fun _ _ _ _ => rfl) h2 h2' (by omega)
end
/-- Where the lists begin. -/
def offP (H q : Nat) (t : Nat) : Nat := if t = 0 then 0 else if t = 1 then 18 else 18 + H + (t - 2) * q
theorem offP_succ (H q t : Nat) : offP H q (t + 1) = offP H q t + ptN 18 H q t := by
  unfold offP ptN
  by_cases e0 : t = 0
  · subst e0; simp
  · by_cases e1 : t = 1
    · subst e1; simp
    · rw [if_neg (by omega), if_neg (by omega), if_neg e0, if_neg e1, if_neg e0, if_neg e1, show t + 1 - 2 = (t - 2) + 1 by omega, Nat.add_mul, Nat.one_mul]
      omega
theorem ptF_off (f : Nat → Nat) (H q t j : Nat) : ptF f 18 H q t j = f (offP H q t + j) := by
  unfold ptF offP
  by_cases e0 : t = 0
  · subst e0; simp
  · by_cases e1 : t = 1
    · subst e1; simp
    · rw [if_neg e0, if_neg e1, if_neg e0, if_neg e1]
theorem offP_le (len n H q t : Nat) (hn : 0 < n) (h18 : 18 ≤ len) (eH : (len - 18) / 2 = H) (eq : (len - 18 - H) / n = q) (ht : t ≤ 2 + n) : offP H q t ≤ len ∧ (t = 2 + n → len < offP H q t + n) := by
  have h1 : n * q ≤ len - 18 - H := by rw [← eq]; exact Nat.mul_div_le _ _
  have h2 : len - 18 - H < n * q + n := by
    rw [← eq]
    have := Nat.lt_mul_div_succ (len - 18 - H) hn
    rw [Nat.mul_add, Nat.mul_one] at this
    exact this
  unfold offP
  by_cases e0 : t = 0
  · subst e0
    refine ⟨by simp, fun h => by omega⟩
  · by_cases e1 : t = 1
    · subst e1
      refine ⟨by simp; omega, fun h => by omega⟩
    · rw [if_neg e0, if_neg e1]
      have h3 : (t - 2) * q ≤ n * q := Nat.mul_le_mul_right _ (by omega)
      refine ⟨by omega, fun h => ?_⟩
      rw [show t - 2 = n by omega]
      omega
end Go.Proofs.Ytigkmgoidbamnaa.Tap
