import Derived.Test.YteekoabgbjbabaaGreatDoorV9l
import Derived.Test.YteekoabgbjbabaaGreatDoorX7b
import Derived.Test.YteekoabgbjbabaaGreatDoorX7f
import Derived.Test.YteekoabgbjbabaaGreatDoorV8f
import Derived.Test.YteekoabgbjbabaaGreatDoorF9b
namespace Go.Proofs.YteekoabgbjbabaaGreatDoor.Tap
open Go.RowKit Gf8 Aes By8 Cel Cf
/- Parts; the law's alike where they are the same. Written by tools/mkV9g.py. -/

section
variable {o : Oper} {a : Act} {w : World}
end
structure LA (ra rb : Nat) (a : Act) : Prop where
  sz : a.tmps.size = 48
  df : a.defers = []
  t2 : a.eval (.tmp 2) = .pointer (some ⟨ra, 0, none⟩)
  t3 : a.eval (.tmp 3) = .pointer (some ⟨rb, 0, none⟩)
theorem LA.keep {ra rb : Nat} {a a' : Act} {ds : List Nat} (h : LA ra rb a) (hs : a'.tmps.size = 48) (hd : a'.defers = a.defers) (hf : ∀ e, e ∉ ds → a'.eval (.tmp e) = a.eval (.tmp e)) (hk : ([2, 3] : List Nat).all (fun k => !ds.contains k) = true) : LA ra rb a' := by
  have hk2 : ∀ k, k ∈ ([2, 3] : List Nat) → k ∉ ds := fun k hk1 => by
    have := List.all_eq_true.1 hk k hk1
    simpa using this
  exact ⟨hs, hd.trans h.df, (hf 2 (hk2 2 (by simp))).trans h.t2, (hf 3 (hk2 3 (by simp))).trans h.t3⟩
end Go.Proofs.YteekoabgbjbabaaGreatDoor.Tap

namespace Go.Proofs.YteekoabgbjbabaaGreatDoor.Tap
open Go.RowKit Gf8 Aes By8 Cel Cf
/- The law's lists. Written by tools/mkV9i.py. -/

theorem ownW_base9 {W : World} {B C t s n : Nat} {v : Value} {xs : List Value} (h : W.ownsRow C t s v n xs) (hB : B ≤ C) : W.ownsRow B t s v n xs := by
  refine ⟨h.1, ?_⟩
  rcases h.2 with h | ⟨g, cap, cur, e, hC, h1⟩
  · exact Or.inl h
  · exact Or.inr ⟨g, cap, cur, e, Nat.le_trans hB hC, h1⟩
end Go.Proofs.YteekoabgbjbabaaGreatDoor.Tap

namespace Go.Proofs.YteekoabgbjbabaaGreatDoor.Tap
open Go.RowKit Gf8 Aes By8 Cel Cf
/- What Split answers. -/

/-- The lists of parts: which, how long, and what they hold. -/
def ptX (nv bv : Value) (x : Nat → Value) : Nat → Value := fun t => if t = 0 then nv else if t = 1 then bv else x (t - 2)
def ptN (ln lb lq : Nat) : Nat → Nat := fun t => if t = 0 then ln else if t = 1 then lb else lq
def ptF (f : Nat → Nat) (ln lb lq : Nat) : Nat → Nat → Nat := fun t j => if t = 0 then f j else if t = 1 then f (ln + j) else f (ln + lb + (t - 2) * lq + j)
structure PtS (W : World) (B n : Nat) (nv bv cv : Value) (x : Nat → Value) (ln lb lq : Nat) (f : Nat → Nat) : Prop where
  own : W.ownsRow B 24 1 cv n (lL x n)
  fam : Fam B (2 + n) (ptX nv bv x) (ptN ln lb lq) (ptF f ln lb lq) W
theorem ownsLL_below {W W' : World} {B n : Nat} {v : Value} {xs : List Value} {t : TypeId} {s : Nat} (h : W.ownsRow B t s v n xs) (hb : Below W.heap.size W W') : W'.ownsRow B t s v n xs := by
  refine ⟨h.1, ?_⟩
  rcases h.2 with h | ⟨g, cap, cur, e, hB, hg, hr⟩
  · exact Or.inl h
  · exact Or.inr ⟨g, cap, cur, e, hB, on9 hg hb, hr⟩
theorem PtS.on {W W' : World} {B n : Nat} {nv bv cv : Value} {x : Nat → Value} {ln lb lq : Nat} {f : Nat → Nat} (h : PtS W B n nv bv cv x ln lb lq f) (hb : Below W.heap.size W W') : PtS W' B n nv bv cv x ln lb lq f := ⟨ownsLL_below h.own hb, h.fam.on hb⟩
theorem PtS.base {W : World} {B C n : Nat} {nv bv cv : Value} {x : Nat → Value} {ln lb lq : Nat} {f : Nat → Nat} (h : PtS W C n nv bv cv x ln lb lq f) (hB : B ≤ C) : PtS W B n nv bv cv x ln lb lq f := ⟨ownW_base9 h.own hB, fam_base h.fam hB⟩
/-- A list of lists being filled. -/
def LiR (R n i : Nat) (x : Nat → Value) (W : World) : Prop := ∃ c, W.heap[R]? = some (.cells c 24) ∧ c.size = n ∧ ∀ t, t < i → c[t]? = some (x t)
theorem LiR.on {R n i : Nat} {x : Nat → Value} {W W' : World} (h : LiR R n i x W) (hb : Below W.heap.size W W') : LiR R n i x W' := by
  obtain ⟨c, h1, h2, h3⟩ := h
  exact ⟨c, on9 h1 hb, h2, h3⟩
theorem LiR.begin (W : World) (n : Nat) (x : Nat → Value) : LiR W.heap.size n 0 x (W.alloc (.cells (madeCells #[.slice none 0 0] n) 24)) := ⟨_, heapNew W _, by simp [madeCells], fun t ht => by omega⟩
theorem LiR.put {R n i : Nat} {x : Nat → Value} {W : World} (h : LiR R n i x W) (hi : i < n) (r : Value) : LiR R n (i + 1) (updX x i r) (W.setCell ⟨R, 0 + i, none⟩ r) := by
  obtain ⟨c, h1, h2, h3⟩ := h
  refine ⟨c.setIfInBounds (0 + i) r, heap4 _ h1, by rw [Array.size_setIfInBounds]; exact h2, fun t ht => ?_⟩
  rw [Array.getElem?_setIfInBounds, Nat.zero_add]
  unfold updX
  by_cases e : i = t
  · subst e
    rw [if_pos rfl, if_pos rfl, if_pos (by omega)]
  · rw [if_neg e, if_neg (fun q => e q.symm)]
    exact h3 t (by omega)
theorem LiR.cell {R n i : Nat} {x : Nat → Value} {W : World} (h : LiR R n i x W) {k : Nat} (hk : k < n) : (∃ v, W.cell? ⟨R, k, none⟩ = some v) ∧ W.frozen? ⟨R, k, none⟩ = false := by
  obtain ⟨c, h1, h2, _⟩ := h
  exact ⟨⟨_, by rw [cell_of_row _ _ _ _ _ _ h1]; exact Array.getElem?_eq_getElem (by omega)⟩, frozen4 h1⟩
theorem LiR.own {R n B : Nat} {x : Nat → Value} {W : World} (h : LiR R n n x W) (hB : B ≤ R) (hn : n ≤ 1000) : W.ownsRow B 24 1 (.slice (some ⟨R, 0, none⟩) n n) n (lL x n) := by
  obtain ⟨c, h1, h2, h3⟩ := h
  refine ⟨by rw [lL_len, Nat.mul_one], Or.inr ⟨R, n, c, rfl, hB, h1, Nat.le_refl _, by unfold maxLen; omega, by rw [h2, Nat.mul_one], ?_⟩⟩
  apply List.ext_getElem?
  intro k
  by_cases e : k < n
  · rw [List.getElem?_take, if_pos (by omega), Array.getElem?_toList, h3 k e, lL_get x n k e]
  · rw [List.getElem?_eq_none (by simp; omega), List.getElem?_eq_none (by rw [lL_len]; omega)]
section
variable {o : Oper} {a : Act} {w : World}
end
end Go.Proofs.YteekoabgbjbabaaGreatDoor.Tap

namespace Go.Proofs.YteekoabgbjbabaaGreatDoor.Tap
open Go.RowKit Gf8 Aes By8 Cel Cf
/- The program's Split. Written by tools/mkV9s.py. -/

section
variable {o : Oper} {a : Act} {w : World}
end
section
variable {W : World} {B n : Nat} {nv bv cv : Value} {x : Nat → Value} {ln lb lq : Nat} {f : Nat → Nat}
theorem own_setR {C m s g : Nat} {t u : TypeId} {v : Value} {xs : List Value} {cur c : Array Value} (h : W.ownsRow C t s v m xs) (hg : W.heap[g]? = some (.cells cur u)) (ht : u ≠ t) : (W.setRow g c).ownsRow C t s v m xs := by
  refine ⟨h.1, ?_⟩
  rcases h.2 with h | ⟨g1, cap, cu, e, hB, h1, hr⟩
  · exact Or.inl h
  · refine Or.inr ⟨g1, cap, cu, e, hB, ?_, hr⟩
    rw [setRow_other _ _ _ _ (fun q => ?_)]
    · exact h1
    · subst q
      rw [h1] at hg
      injection hg with hg
      injection hg with _ hg _
      exact ht hg.symm
theorem PtS.set {g : Nat} {cur c : Array Value} {t : TypeId} (h : PtS W B n nv bv cv x ln lb lq f) (hg : W.heap[g]? = some (.cells cur t)) (h5 : t ≠ 5) (hL : t ≠ 24) : PtS (W.setRow g c) B n nv bv cv x ln lb lq f :=
  ⟨own_setR h.own hg hL, ⟨fun t ht => own_setR (h.fam.rows t ht) hg h5, h.fam.dis⟩⟩
end
end Go.Proofs.YteekoabgbjbabaaGreatDoor.Tap

namespace Go.Proofs.YteekoabgbjbabaaGreatDoor.Tap
open Go.RowKit Gf8 Aes By8 Cel Cf
/- What is known of parts: the law's lists and alike of them. -/

theorem ownL_cell {W : World} {B m lg lc : Nat} {x : Nat → Value} (h : W.ownsRow B 24 1 (.slice (some ⟨lg, 0, none⟩) m lc) m (lL x m)) {t : Nat} (ht : t < m) : W.cell? ⟨lg, 0 + t, none⟩ = some (x t) := by
  rcases h.2 with ⟨e, _⟩ | ⟨g, cap, cur, e, _, hg, h1, h2, h3, h4⟩
  · cases e
  · injection e with e1 _ _
    injection e1 with e1
    injection e1 with e1 _ _
    subst e1
    rw [cell_of_row _ _ _ _ _ _ hg, Nat.zero_add, ← Array.getElem?_toList]
    have := lL_get x m t ht
    rw [← h4, List.getElem?_take, if_pos (by omega)] at this
    exact this
theorem one_of {v : Value} (h : ∃ g l k, v = .slice g l k) : v.oneCell' = true := by
  obtain ⟨_, _, _, rfl⟩ := h
  rfl
section
variable {W : World} {B n : Nat} {nv bv cv : Value} {x : Nat → Value} {ln lb lq : Nat} {f : Nat → Nat}
theorem PtS.nil (h : PtS W B n nv bv cv x ln lb lq f) : ∃ aa ka, cv = .slice aa n ka ∧ (aa = none → n = 0 ∧ ka = 0) ∧ (0 < n → ∃ ca oa, aa = some ⟨ca, oa, none⟩ ∧ ca < W.heap.size ∧ ∀ i, i < n → W.cell? ⟨ca, oa + i, none⟩ = some (x i)) := by
  rcases h.own.2 with ⟨rfl, rfl⟩ | ⟨g, cap, cur, rfl, hB, hg, _⟩
  · exact ⟨_, _, rfl, (fun _ => ⟨rfl, rfl⟩), fun h => by omega⟩
  · exact ⟨_, _, rfl, (fun h => by cases h), fun h0 => ⟨g, 0, rfl, (Array.getElem?_eq_some_iff.1 hg).1, fun i hi => ownL_cell h.own hi⟩⟩
end
end Go.Proofs.YteekoabgbjbabaaGreatDoor.Tap

namespace Go.Proofs.YteekoabgbjbabaaGreatDoor.Tap
open Go.RowKit Gf8 Aes By8 Cel Cf
/- The reference's Split with its errors; rows of bytes that are written over. -/

/-- A row of bytes that may be written into. -/
def ByR (W : World) (g cap N : Nat) : Prop := ∃ cur fz, W.heap[g]? = some (.cells cur 5 fz) ∧ cur.size = cap ∧ N ≤ cap ∧ (∀ j, j < N → ∃ z : Nat, z < 256 ∧ cur[j]? = some (.int .u8 (z : Int))) ∧ (cap ≤ fz.1 ∨ fz.2 = 0)
theorem ByR.on {W W' : World} {g cap N : Nat} (h : ByR W g cap N) (hb : Below W.heap.size W W') : ByR W' g cap N := by
  obtain ⟨cur, fz, h1, h2⟩ := h
  exact ⟨cur, fz, on9 h1 hb, h2⟩
theorem ByR.cell {W : World} {g cap N : Nat} (h : ByR W g cap N) {k : Nat} (hk : k < N) : ∃ z : Nat, z < 256 ∧ W.cell? ⟨g, k, none⟩ = some (.int .u8 (z : Int)) ∧ W.frozen? ⟨g, k, none⟩ = false := by
  obtain ⟨cur, fz, h1, h2, h3, h4, h5⟩ := h
  obtain ⟨z, hz, hc⟩ := h4 k hk
  refine ⟨z, hz, by rw [cell_of_row _ _ _ _ _ _ h1]; exact hc, ?_⟩
  simp [World.frozen?, h1]
  omega
theorem ByR.set {W : World} {g cap N : Nat} (h : ByR W g cap N) (k : Nat) {z : Nat} (hz : z < 256) : ByR (W.setCell ⟨g, k, none⟩ (.int .u8 (z : Int))) g cap N := by
  obtain ⟨cur, fz, h1, h2, h3, h4, h5⟩ := h
  rw [setCell_eq_setRow W g k _ _ _ _ h1]
  refine ⟨_, fz, setRow_heap _ _ _ _ _ _ h1, by rw [Array.size_setIfInBounds]; exact h2, h3, fun j hj => ?_, h5⟩
  rw [Array.getElem?_setIfInBounds]
  by_cases e : k = j
  · rw [if_pos e, if_pos (by omega)]
    exact ⟨z, hz, rfl⟩
  · rw [if_neg e]
    exact h4 j hj
end Go.Proofs.YteekoabgbjbabaaGreatDoor.Tap

namespace Go.Proofs.YteekoabgbjbabaaGreatDoor.Tap
open Go.RowKit Gf8 Aes By8 Cel Cf
/- TapeScripts: pieces of the code, and what stays. -/

def hasR : Code → Nat → Bool
  | .seq x y, k => hasR x k || hasR y k
  | .region id _ _, k => Nat.beq id k
  | .block _ x, k => hasR x k
  | .loop x, k => hasR x k
  | .cond _ x y, k => hasR x k || hasR y k
  | _, _ => false
/-- The largest piece that begins with region k. -/
def findR (k : Nat) : Code → Code
  | .seq x y => bif leadR x k then .seq x y else bif hasR x k then findR k x else findR k y
  | .block _ x => findR k x
  | .loop x => findR k x
  | .cond _ x y => bif hasR x k then findR k x else findR k y
  | c => c
section
variable {o : Oper} {a : Act} {w : World}
end
section
variable {V : World} {tv bv : Value} {m : Nat} {P : Nat → Nat → Nat} {Ln At : Nat → Nat} {pv : Nat → Value} {W W' : World}
end
end Go.Proofs.YteekoabgbjbabaaGreatDoor.Tap
