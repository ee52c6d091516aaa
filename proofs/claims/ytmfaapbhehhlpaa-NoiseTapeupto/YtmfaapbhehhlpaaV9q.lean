import Derived.Test.YtmfaapbhehhlpaaV9c
import Derived.Test.YtmfaapbhehhlpaaX7b
import Derived.Test.YtmfaapbhehhlpaaX7f
import Derived.Test.YtmfaapbhehhlpaaV9o
namespace Go.Proofs.Ytmfaapbhehhlpaa.Tap
open Go.RowKit Gf8 Aes By8 Cel Cf
/- The law's apart: lists that are grown. -/

theorem execMkL {o : Oper} {a : Act} {w : World} {n : Nat} {x y : Operand} (ho : o.op = .makeSlice 39 x y) (hx : a.eval x = .int .i64 (n : Int)) (hy : a.eval y = .int .i64 (n : Int)) (hn : n ≤ 1000000) :
    (execOp a.eval o).run Try.prog w = .ok (.value (.slice (some ⟨w.heap.size, 0, none⟩) n n)) (w.alloc (.cells (madeCells #[.slice none 0 0] n) 31)) := by
  unfold execOp
  simp only [ho, hx, hy, Sem.run_bind, run_mkL n hn, Result.andThen_ok, Sem.run_pure]
/-- All ahead of i are grown by hi bytes, the others by lo; what lies in the list of lists. -/
structure GSt (B m : Nat) (nn : Nat → Nat) (x : Nat → Value) (R : Nat) (V W : World) (lo hi : Nat) (pre : Prop) (i : Nat) (gv : Nat → Value) (gl : Nat → Nat) (mo : Nat → Value) : Prop where
  mn : MoN B m nn x gv gl mo R V W
  len : ∀ t, t < m → gl t = nn t + (if t < i then hi else lo)
  done : ∀ t, t < m → t < i → mo t = gv t
  todo : ∀ t, t < m → i ≤ t → (pre → mo t = gv t) ∧ (¬ pre → gv t = x t)
/-- The i-th is being grown: v, of n' bytes. -/
structure GI (B m : Nat) (nn : Nat → Nat) (x : Nat → Value) (R : Nat) (V W : World) (lo hi : Nat) (pre : Prop) (i n' : Nat) (v : Value) (gv : Nat → Value) (gl : Nat → Nat) (mo : Nat → Value) : Prop where
  mn : MoN B m nn x gv gl mo R V W
  v_ : gv i = v
  n_ : gl i = n'
  len : ∀ t, t < m → t ≠ i → gl t = nn t + (if t < i then hi else lo)
  done : ∀ t, t < m → t < i → mo t = gv t
  todo : ∀ t, t < m → i < t → (pre → mo t = gv t) ∧ (¬ pre → gv t = x t)
section
variable {B m : Nat} {nn : Nat → Nat} {x : Nat → Value} {R : Nat} {V W W' : World} {lo hi : Nat} {pre : Prop} {i n' : Nat} {v : Value} {gv : Nat → Value} {gl : Nat → Nat} {mo : Nat → Value}
theorem GSt.start (h : GSt B m nn x R V W lo hi pre i gv gl mo) (hi' : i < m) : GI B m nn x R V W lo hi pre i (nn i + lo) (gv i) gv gl mo :=
  ⟨h.mn, rfl, by rw [h.len i hi', if_neg (by omega)], fun t ht _ => h.len t ht, h.done, fun t ht hl => h.todo t ht (by omega)⟩
theorem GI.on (h : GI B m nn x R V W lo hi pre i n' v gv gl mo) (hb : Below W.heap.size W W') : GI B m nn x R V W' lo hi pre i n' v gv gl mo := ⟨h.mn.on hb, h.v_, h.n_, h.len, h.done, h.todo⟩
theorem GI.own (h : GI B m nn x R V W lo hi pre i n' v gv gl mo) (hi' : i < m) : W.ownsRow B 5 1 v n' (bytesL n' (gM (fun _ => i % 256) (nn i) ((i + 140) % 256))) := by
  have := h.mn.ap.grown i hi'
  rw [h.v_, h.n_] at this
  exact this
theorem GI.put (h : GI B m nn x R V W lo hi pre i (nn i + hi) v gv gl mo) : GSt B m nn x R V (W.setCell ⟨R, 0 + i, none⟩ v) lo hi pre (i + 1) gv gl (updX mo i v) := by
  rw [Nat.zero_add]
  refine ⟨h.mn.put i v, fun t ht => ?_, fun t ht hl => ?_, fun t ht hl => ?_⟩
  · by_cases e : t = i
    · rw [e, h.n_, if_pos (by omega)]
    · rw [h.len t ht e]
      by_cases q : t < i
      · rw [if_pos q, if_pos (by omega)]
      · rw [if_neg q, if_neg (by omega)]
  · by_cases e : t = i
    · rw [e, updX_at, h.v_]
    · unfold updX
      rw [if_neg e]
      exact h.done t ht (by omega)
  · have e : t ≠ i := by omega
    unfold updX
    rw [if_neg e]
    exact h.todo t ht (by omega)
theorem GI.grow (h : GI B m nn x R V W lo hi pre i n' v gv gl mo) (hi' : i < m) {k : Nat} {v' : Value} (hv : W'.ownsRow B 5 1 v' (n' + k) (bytesL (n' + k) (gM (fun _ => i % 256) (nn i) ((i + 140) % 256)))) (hp : (v'.ownBlock = v.ownBlock ∧ W.grownBy W' v.ownBlock ∧ capV v' = capV v) ∨ (v'.ownBlock = some W.heap.size ∧ W.grownBy W' Option.none)) :
    GI B m nn x R V W' lo hi pre i (n' + k) v' (updX gv i v') (fun t => if t = i then gl i + k else gl t) mo := by
  refine ⟨h.mn.grow hi' (by rw [h.n_]; exact hv) (by rw [h.v_]; exact hp), updX_at _ _ _, by show (if i = i then gl i + k else gl i) = _; rw [if_pos rfl, h.n_], fun t ht hne => ?_, fun t ht hl => ?_, fun t ht hl => ?_⟩
  · show (if t = i then gl i + k else gl t) = _
    rw [if_neg hne]
    exact h.len t ht hne
  · have e : t ≠ i := by omega
    unfold updX
    rw [if_neg e]
    exact h.done t ht hl
  · have e : t ≠ i := by omega
    unfold updX
    rw [if_neg e]
    exact h.todo t ht hl
end
theorem GSt.begin {B m : Nat} {nn : Nat → Nat} {x : Nat → Value} {f : Nat → Nat → Nat} {V W : World} (FA : Fam B m x nn (mkA f m 0) W) (SV : Saved (Gx m x) V W) :
    GSt B m nn x W.heap.size V (W.alloc (.cells (madeCells #[.slice none 0 0] m) 31)) 0 8 False 0 x nn (fun _ => .slice none 0 0) := by
  have FA' : Fam B m x nn (fun t _ => t % 256) W := fam_cg8 FA fun t ht l _ => by unfold mkA; rw [if_pos (by omega)]
  refine ⟨⟨(ApN.begin FA').on (belNew W _), SV.below (belNew W _) SV.size, ⟨_, heapNew W _, by simp [madeCells], fun t ht => by simp [madeCells, ht, Nat.mod_one]⟩, SV.size, fun t ht k hk => .inr ⟨t, ht, hk⟩⟩, fun t ht => by rw [if_neg (by omega)]; rfl, fun t _ q => by omega, fun t ht _ => ⟨fun q => q.elim, fun _ => rfl⟩⟩
end Go.Proofs.Ytmfaapbhehhlpaa.Tap

namespace Go.Proofs.Ytmfaapbhehhlpaa.Tap
open Go.RowKit Gf8 Aes By8 Cel Cf
/- The law's apart: the lists are grown. Written by tools/mkV9e.py. -/

theorem GSt.again {B m : Nat} {nn : Nat → Nat} {x : Nat → Value} {R : Nat} {V W : World} {gv : Nat → Value} {gl : Nat → Nat} {mo : Nat → Value} (h : GSt B m nn x R V W 0 8 False m gv gl mo) : GSt B m nn x R V W 8 128 True 0 gv gl mo :=
  ⟨h.mn, fun t ht => by rw [h.len t ht, if_pos ht, if_neg (by omega)], fun t _ q => by omega, fun t ht _ => ⟨fun _ => h.done t ht ht, fun q => absurd trivial q⟩⟩
end Go.Proofs.Ytmfaapbhehhlpaa.Tap

namespace Go.Proofs.Ytmfaapbhehhlpaa.Tap
open Go.RowKit Gf8 Aes By8 Cel Cf
/- Parts; the law's alike where they are the same. Written by tools/mkV9g.py. -/

section
variable {o : Oper} {a : Act} {w : World}
end
structure LA (ra rb : Nat) (a : Act) : Prop where
  sz : a.tmps.size = 48
  df : a.defers = []
  t2 : a.eval (.tmp 2) = .pointer (some ⟨ra, 0, none⟩)
  t3 : a.eval (.tmp 3) = .pointer (some ⟨rb, 0, none⟩)
theorem LA.keep {ra rb : Nat} {a a' : Act} {ds : List Nat} (h : LA ra rb a) (hs : a'.tmps.size = 48) (hd : a'.defers = a.defers) (hf : ∀ e, e ∉ ds → a'.eval (.tmp e) = a.eval (.tmp e)) (hk : ([2, 3] : List Nat).all (fun k => !ds.contains k) = true) : LA ra rb a' := by
  have hk2 : ∀ k, k ∈ ([2, 3] : List Nat) → k ∉ ds := fun k hk1 => by
    have := List.all_eq_true.1 hk k hk1
    simpa using this
  exact ⟨hs, hd.trans h.df, (hf 2 (hk2 2 (by simp))).trans h.t2, (hf 3 (hk2 3 (by simp))).trans h.t3⟩
end Go.Proofs.Ytmfaapbhehhlpaa.Tap

namespace Go.Proofs.Ytmfaapbhehhlpaa.Tap
open Go.RowKit Gf8 Aes By8 Cel Cf
/- The law's lists. Written by tools/mkV9i.py. -/

theorem ownW_base9 {W : World} {B C t s n : Nat} {v : Value} {xs : List Value} (h : W.ownsRow C t s v n xs) (hB : B ≤ C) : W.ownsRow B t s v n xs := by
  refine ⟨h.1, ?_⟩
  rcases h.2 with h | ⟨g, cap, cur, e, hC, h1⟩
  · exact Or.inl h
  · exact Or.inr ⟨g, cap, cur, e, Nat.le_trans hB hC, h1⟩
end Go.Proofs.Ytmfaapbhehhlpaa.Tap

namespace Go.Proofs.Ytmfaapbhehhlpaa.Tap
open Go.RowKit Gf8 Aes By8 Cel Cf
/- What Split answers. -/

/-- The lists of parts: which, how long, and what they hold. -/
def ptX (nv bv : Value) (x : Nat → Value) : Nat → Value := fun t => if t = 0 then nv else if t = 1 then bv else x (t - 2)
def ptN (ln lb lq : Nat) : Nat → Nat := fun t => if t = 0 then ln else if t = 1 then lb else lq
def ptF (f : Nat → Nat) (ln lb lq : Nat) : Nat → Nat → Nat := fun t j => if t = 0 then f j else if t = 1 then f (ln + j) else f (ln + lb + (t - 2) * lq + j)
structure PtS (W : World) (B n : Nat) (nv bv cv : Value) (x : Nat → Value) (ln lb lq : Nat) (f : Nat → Nat) : Prop where
  own : W.ownsRow B 31 1 cv n (lL x n)
  fam : Fam B (2 + n) (ptX nv bv x) (ptN ln lb lq) (ptF f ln lb lq) W
theorem ownsLL_below {W W' : World} {B n : Nat} {v : Value} {xs : List Value} {t : TypeId} {s : Nat} (h : W.ownsRow B t s v n xs) (hb : Below W.heap.size W W') : W'.ownsRow B t s v n xs := by
  refine ⟨h.1, ?_⟩
  rcases h.2 with h | ⟨g, cap, cur, e, hB, hg, hr⟩
  · exact Or.inl h
  · exact Or.inr ⟨g, cap, cur, e, hB, on9 hg hb, hr⟩
theorem PtS.on {W W' : World} {B n : Nat} {nv bv cv : Value} {x : Nat → Value} {ln lb lq : Nat} {f : Nat → Nat} (h : PtS W B n nv bv cv x ln lb lq f) (hb : Below W.heap.size W W') : PtS W' B n nv bv cv x ln lb lq f := ⟨ownsLL_below h.own hb, h.fam.on hb⟩
theorem PtS.base {W : World} {B C n : Nat} {nv bv cv : Value} {x : Nat → Value} {ln lb lq : Nat} {f : Nat → Nat} (h : PtS W C n nv bv cv x ln lb lq f) (hB : B ≤ C) : PtS W B n nv bv cv x ln lb lq f := ⟨ownW_base9 h.own hB, fam_base h.fam hB⟩
/-- A list of lists being filled. -/
def LiR (R n i : Nat) (x : Nat → Value) (W : World) : Prop := ∃ c, W.heap[R]? = some (.cells c 31) ∧ c.size = n ∧ ∀ t, t < i → c[t]? = some (x t)
theorem LiR.on {R n i : Nat} {x : Nat → Value} {W W' : World} (h : LiR R n i x W) (hb : Below W.heap.size W W') : LiR R n i x W' := by
  obtain ⟨c, h1, h2, h3⟩ := h
  exact ⟨c, on9 h1 hb, h2, h3⟩
theorem LiR.begin (W : World) (n : Nat) (x : Nat → Value) : LiR W.heap.size n 0 x (W.alloc (.cells (madeCells #[.slice none 0 0] n) 31)) := ⟨_, heapNew W _, by simp [madeCells], fun t ht => by omega⟩
theorem LiR.put {R n i : Nat} {x : Nat → Value} {W : World} (h : LiR R n i x W) (hi : i < n) (r : Value) : LiR R n (i + 1) (updX x i r) (W.setCell ⟨R, 0 + i, none⟩ r) := by
  obtain ⟨c, h1, h2, h3⟩ := h
  refine ⟨c.setIfInBounds (0 + i) r, heap4 _ h1, by rw [Array.size_setIfInBounds]; exact h2, fun t ht => ?_⟩
  rw [Array.getElem?_setIfInBounds, Nat.zero_add]
  unfold updX
  by_cases e : i = t
  · subst e
    rw [if_pos rfl, if_pos rfl, if_pos (by omega)]
  · rw [if_neg e, if_neg (fun q => e q.symm)]
    exact h3 t (by omega)
theorem LiR.cell {R n i : Nat} {x : Nat → Value} {W : World} (h : LiR R n i x W) {k : Nat} (hk : k < n) : (∃ v, W.cell? ⟨R, k, none⟩ = some v) ∧ W.frozen? ⟨R, k, none⟩ = false := by
  obtain ⟨c, h1, h2, _⟩ := h
  exact ⟨⟨_, by rw [cell_of_row _ _ _ _ _ _ h1]; exact Array.getElem?_eq_getElem (by omega)⟩, frozen4 h1⟩
theorem LiR.own {R n B : Nat} {x : Nat → Value} {W : World} (h : LiR R n n x W) (hB : B ≤ R) (hn : n ≤ 1000) : W.ownsRow B 31 1 (.slice (some ⟨R, 0, none⟩) n n) n (lL x n) := by
  obtain ⟨c, h1, h2, h3⟩ := h
  refine ⟨by rw [lL_len, Nat.mul_one], Or.inr ⟨R, n, c, rfl, hB, h1, Nat.le_refl _, by unfold maxLen; omega, by rw [h2, Nat.mul_one], ?_⟩⟩
  apply List.ext_getElem?
  intro k
  by_cases e : k < n
  · rw [List.getElem?_take, if_pos (by omega), Array.getElem?_toList, h3 k e, lL_get x n k e]
  · rw [List.getElem?_eq_none (by simp; omega), List.getElem?_eq_none (by rw [lL_len]; omega)]
/-- Rows of bytes stay where a list of lists is written into. -/
theorem fam_setL {B m R k : Nat} {x : Nat → Value} {nn : Nat → Nat} {ff : Nat → Nat → Nat} {W : World} {v : Value} {c : Array Value} (h : Fam B m x nn ff W) (hR : W.heap[R]? = some (.cells c 31)) : Fam B m x nn ff (W.setCell ⟨R, k, none⟩ v) :=
  ⟨fun t ht => by
    have ht2 := h.rows t ht
    refine ⟨ht2.1, ?_⟩
    rcases ht2.2 with e | ⟨g, cap, cur, e, hB, hg, hr⟩
    · exact Or.inl e
    · refine Or.inr ⟨g, cap, cur, e, hB, ?_, hr⟩
      rw [heap4o _ hR (fun q => ?_)]
      · exact hg
      · subst q
        rw [hR] at hg
        injection hg with hg
        injection hg with _ hg _
        exact absurd hg (by decide), h.dis⟩
section
variable {o : Oper} {a : Act} {w : World}
theorem execMulN {x y : Operand} {p q : Nat} (ho : o.op = .binOp .mul 3 x y 3) (hx : a.eval x = .int .i64 (p : Int)) (hy : a.eval y = .int .i64 (q : Int)) (h : p * q < 9223372036854775808) : (execOp a.eval o).run Try.prog w = .ok (.value (.int .i64 ((p * q : Nat) : Int))) w := by
  have ew : IntKind.i64.wrap ((p : Int) * q) = ((p * q : Nat) : Int) := by
    rw [← Int.natCast_mul]
    simp [IntKind.wrap, IntKind.bits, IntKind.signed]
    omega
  unfold execOp
  simp only [ho, hx, hy]
  simp [go_sem, ew]
end
end Go.Proofs.Ytmfaapbhehhlpaa.Tap
