import Derived.Test.YteekoabgbjbabaaGreatDoorV8f
import Derived.Test.YteekoabgbjbabaaGreatDoorP9a
import Derived.Test.YteekoabgbjbabaaGreatDoorV9l
namespace Go.Proofs.YteekoabgbjbabaaGreatDoor.Dro
open Go.RowKit Gf8 Aes By8 Cel Cf Tap Drw
/- Stage 28: DropOrder. Written by tools/mkV8h.py. -/

open Prm (IsP)
/-- What is picked and what is left. -/
structure Od (n i : Nat) (lf p : Nat → Nat) : Prop where
  l : ∀ a, a < n - i → lf a < n
  o : ∀ a, a < i → p a < n
  li : ∀ a b, a < n - i → b < n - i → lf a = lf b → a = b
  oi : ∀ a b, a < i → b < i → p a = p b → a = b
  ol : ∀ a b, a < i → b < n - i → p a ≠ lf b
theorem Od.start (n : Nat) : Od n 0 (fun j => j) id := ⟨fun a h => by omega, fun a h => by omega, fun a b _ _ e => e, fun a b h => by omega, fun a b h => by omega⟩
theorem Od.cg {n i : Nat} {lf p p2 : Nat → Nat} (h : Od n i lf p) (e : ∀ j, j < i → p j = p2 j) : Od n i lf p2 := ⟨h.l, fun a ha => by rw [← e a ha]; exact h.o a ha, h.li, fun a b ha hb q => h.oi a b ha hb (by rw [e a ha, e b hb]; exact q), fun a b ha hb q => h.ol a b ha hb (by rw [e a ha]; exact q)⟩
theorem Od.next {n i k : Nat} {lf p : Nat → Nat} (h : Od n i lf p) (hk : k < n - i) : Od n (i + 1) (fun j => if j < k then lf j else lf (j + 1)) (fun j => if j = i then lf k else p j) := by
  have key : ∀ a, a < n - (i + 1) → ∃ b, b < n - i ∧ b ≠ k ∧ (if a < k then lf a else lf (a + 1)) = lf b ∧ (a < k → b = a) ∧ (¬ a < k → b = a + 1) := fun a ha => by
    by_cases q : a < k
    · exact ⟨a, by omega, by omega, if_pos q, fun _ => rfl, fun z => absurd q z⟩
    · exact ⟨a + 1, by omega, by omega, if_neg q, fun z => absurd z q, fun _ => rfl⟩
  refine ⟨fun a ha => ?_, fun a ha => ?_, fun a b ha hb e => ?_, fun a b ha hb e => ?_, fun a b ha hb e => ?_⟩
  · obtain ⟨b, hb, _, e, _⟩ := key a ha
    show (if a < k then lf a else lf (a + 1)) < n
    rw [e]
    exact h.l b hb
  · show (if a = i then lf k else p a) < n
    by_cases q : a = i
    · rw [if_pos q]; exact h.l k hk
    · rw [if_neg q]; exact h.o a (by omega)
  · obtain ⟨a', ha', _, ea, a1, a2⟩ := key a ha
    obtain ⟨b', hb', _, eb, b1, b2⟩ := key b hb
    have e2 : (if a < k then lf a else lf (a + 1)) = (if b < k then lf b else lf (b + 1)) := e
    rw [ea, eb] at e2
    have := h.li a' b' ha' hb' e2
    by_cases qa : a < k
    · by_cases qb : b < k
      · have := a1 qa; have := b1 qb; omega
      · have := a1 qa; have := b2 qb; omega
    · by_cases qb : b < k
      · have := a2 qa; have := b1 qb; omega
      · have := a2 qa; have := b2 qb; omega
  · have e2 : (if a = i then lf k else p a) = (if b = i then lf k else p b) := e
    by_cases qa : a = i
    · by_cases qb : b = i
      · omega
      · rw [if_pos qa, if_neg qb] at e2
        exact absurd e2.symm (h.ol b k (by omega) hk)
    · by_cases qb : b = i
      · rw [if_neg qa, if_pos qb] at e2
        exact absurd e2 (h.ol a k (by omega) hk)
      · rw [if_neg qa, if_neg qb] at e2
        exact h.oi a b (by omega) (by omega) e2
  · obtain ⟨b', hb', nb, eb, _⟩ := key b hb
    have e2 : (if a = i then lf k else p a) = (if b < k then lf b else lf (b + 1)) := e
    rw [eb] at e2
    by_cases qa : a = i
    · rw [if_pos qa] at e2
      exact nb (h.li k b' hk hb' e2).symm
    · rw [if_neg qa] at e2
      exact h.ol a b' (by omega) hb' e2
theorem ls_of {B n : Nat} {W : World} {v : Value} {y : Nat → Value} {ln : Nat → Nat} {f : Nat → Nat → Nat} (h : W.ownsRow B 24 1 v n (lL y n)) (hc : ∀ a, a < n → SliceN W (y a) (ln a) (f a)) (hz : ∀ a, a < n → ∀ l c, y a = .slice none l c → c = 0) (hl : ∀ a, a < n → ln a ≤ 140737488351232) : Ls W v n y ln f := by
  refine ⟨?_, hc, hz, hl⟩
  rcases h.2 with ⟨rfl, e⟩ | ⟨g, cap, cur, rfl, h1, h2, h3, h4, h5, h6⟩
  · refine ⟨none, 0, ?_, ?_, by omega, fun q => ?_⟩
    · cases n with
      | zero => rfl
      | succ n => simp at e
    · cases n with
      | zero => exact Nat.le_refl _
      | succ n => simp at e
    · cases n with
      | zero => omega
      | succ n => simp at e
  · refine ⟨_, cap, rfl, h3, by unfold maxLen at h4; omega, fun _ => ⟨g, 0, rfl, (Array.getElem?_eq_some_iff.1 h2).1, fun i hi => ?_⟩⟩
    have := h.cells (g := g) rfl i (y i) (lL_get y n i hi)
    rw [Go.WideShapes.add_plain] at this
    exact this
end Go.Proofs.YteekoabgbjbabaaGreatDoor.Dro

namespace Go.Proofs.YteekoabgbjbabaaGreatDoor.Dro
open Go.RowKit Gf8 Aes By8 Cel Cf Tap Drw
/- Stage 28: one drop among others; lists of lists cut and put together; a Pair. Written by tools/mkV8i.py. -/

/-- One request, others elsewhere, and behind them requests at the drop of the first. -/
structure Bk (q : Nat) (ln : Nat → Nat) (c : Nat → Nat → Nat) : Prop where
  pos : 0 < q
  r0 : rgt (ln 0) = true
  rq : ∀ k, q ≤ k → rgt (ln k) = true
  nq : ∀ k, q ≤ k → ∀ j, j < 8 → c k j = c 0 j
  far : ∀ k, 0 < k → k < q → ¬ (rgt (ln k) = true ∧ ∀ j, j < 8 → c k j = c 0 j)
section
variable {q : Nat} {ln : Nat → Nat} {c : Nat → Nat → Nat}
theorem Bk.no0 (h : Bk q ln c) {k : Nat} (hk : k < q) : otQ ln c 0 k = false := by
  cases e : otQ ln c 0 k
  · rfl
  · obtain ⟨e1, e2, e3⟩ := ot_iff.1 e
    exact absurd ⟨rgt_iff.2 e2, e3⟩ (h.far k (by omega) hk)
theorem Bk.yes0 (h : Bk q ln c) {k : Nat} (hk : q ≤ k) : otQ ln c 0 k = true := ot_D (by have := h.pos; omega) (h.rq k hk) (h.nq k hk)
theorem Bk.c0 (h : Bk q ln c) : cnt (otQ ln c 0) q = 0 := cnt_zero.2 fun _ hk => h.no0 hk
theorem Bk.c1 (h : Bk q ln c) : cnt (otQ ln c 0) (q + 1) = 1 := by rw [cnt_succ, h.c0, h.yes0 (Nat.le_refl _)]; rfl
theorem Bk.c2 (h : Bk q ln c) : cnt (otQ ln c 0) (q + 2) = 2 := by rw [cnt_succ, h.c1, h.yes0 (Nat.le_succ _)]; rfl
theorem Bk.k0 (h : Bk q ln c) : kdF q ln c 0 = 0 := by unfold kdF; rw [h.r0, h.c0]; rfl
theorem Bk.k1 (h : Bk q ln c) : kdF (q + 1) ln c 0 = 1 := by unfold kdF; rw [h.r0, h.c1]; rfl
theorem Bk.k2 (h : Bk q ln c) : kdF (q + 2) ln c 0 = 2 := by unfold kdF; rw [h.r0, h.c2]; rfl
theorem Bk.p1 (h : Bk q ln c) : paF (q + 1) ln c 0 = q := (cnt_one h.c1 (Nat.lt_succ_self _) (h.yes0 (Nat.le_refl _))).symm
/-- One more elsewhere changes nothing. -/
theorem x_more {n i : Nat} (hr : rgt (ln i) = true → otQ ln c i n = false) : xL (n + 1) ln c i = xL n ln c i ∧ ∀ j, j < xL n ln c i → xF (n + 1) ln c i j = xF n ln c i j := by
  have ek : kdF (n + 1) ln c i = kdF n ln c i := by
    unfold kdF
    cases e : rgt (ln i)
    · rfl
    · rw [cnt_succ, hr e]; rfl
  have ep : kdF n ln c i = 1 → paF (n + 1) ln c i = paF n ln c i := fun z => fst_no (by rw [(met z).2.1]; exact Nat.one_pos)
  constructor
  · unfold xL
    rw [ek]
    by_cases z : kdF n ln c i = 1
    · rw [if_pos z, if_pos z, ep z]
    · rw [if_neg z, if_neg z]
  · intro j hj
    unfold xF
    by_cases z : j = 0
    · rw [if_pos z, if_pos z, ek]
    · rw [if_neg z, if_neg z]
      by_cases y : kdF n ln c i = 1
      · rw [ep y]
      · unfold xL at hj; rw [if_neg y] at hj; omega
theorem Bk.mid (h : Bk q ln c) {i k : Nat} (h0 : 0 < i) (hi : i < q) (hk : q ≤ k) : rgt (ln i) = true → otQ ln c i k = false := fun r => by
  cases e : otQ ln c i k
  · rfl
  · obtain ⟨_, _, e3⟩ := ot_iff.1 e
    exact absurd ⟨r, fun j hj => (e3 j hj).symm.trans (h.nq k hk j hj)⟩ (h.far i h0 hi)
theorem Bk.m1 (h : Bk q ln c) {i : Nat} (h0 : 0 < i) (hi : i < q) : xL q ln c i = xL (q + 1) ln c i ∧ ∀ j, j < xL q ln c i → xF q ln c i j = xF (q + 1) ln c i j := by
  obtain ⟨a, b⟩ := x_more (h.mid h0 hi (Nat.le_refl _))
  exact ⟨a.symm, fun j hj => (b j hj).symm⟩
theorem Bk.m2 (h : Bk q ln c) {i : Nat} (h0 : 0 < i) (hi : i < q) : xL q ln c i = xL (q + 2) ln c i ∧ ∀ j, j < xL q ln c i → xF q ln c i j = xF (q + 2) ln c i j := by
  obtain ⟨a, b⟩ := h.m1 h0 hi
  obtain ⟨a2, b2⟩ := x_more (h.mid h0 hi (Nat.le_succ q))
  exact ⟨a.trans a2.symm, fun j hj => (b j hj).trans (b2 j (by rw [← a]; exact hj)).symm⟩
end
/-- v[l:h] of a list of lists. -/
def cutLs : Value → Nat → Nat → Value
  | .slice a _ cap, l, h => sliced a l h cap 1
  | v, _, _ => v
section
variable {W : World} {v : Value} {n : Nat} {xv : Nat → Value} {ln : Nat → Nat} {c : Nat → Nat → Nat} {o : Oper} {a : Act} {x y z : Operand}
theorem Ls.cut (hv : Ls W v n xv ln c) (l h : Nat) (h1 : l ≤ h) (h2 : h ≤ n) : Ls W (cutLs v l h) (h - l) (fun i => xv (l + i)) (fun i => ln (l + i)) (fun i => c (l + i)) := by
  obtain ⟨a, cap, rfl, e1, e2, e3⟩ := hv.shape
  refine ⟨⟨_, cap - l, rfl, by omega, by omega, fun h0 => ?_⟩, fun i hi => hv.cell (l + i) (by omega), fun i hi => hv.nil (l + i) (by omega), fun i hi => hv.lens (l + i) (by omega)⟩
  obtain ⟨b, off, rfl, hb, hc⟩ := e3 (by omega)
  rw [if_neg (by omega)]
  refine ⟨b, off + l, ?_, hb, fun j hj => ?_⟩
  · simp [Addr.add]
  · rw [Nat.add_assoc]; exact hc (l + j) (by omega)
theorem Ls.cg {lm : Nat → Nat} {d : Nat → Nat → Nat} (h : Ls W v n xv ln c) (e : ∀ i, i < n → ln i = lm i ∧ c i = d i) : Ls W v n xv lm d := ⟨h.shape, fun i hi => by rw [← (e i hi).1, ← (e i hi).2]; exact h.cell i hi, h.nil, fun i hi => by rw [← (e i hi).1]; exact h.lens i hi⟩
end
section
variable {o : Oper} {a : Act} {w : World}
end
section
variable {W : World} {o : Oper} {a : Act} {x y : Operand} {g : Nat} {nm : Nat → Nat} {fv sv ov : Value}
end
end Go.Proofs.YteekoabgbjbabaaGreatDoor.Dro

namespace Go.Proofs.YteekoabgbjbabaaGreatDoor.Dro
open Go.RowKit Gf8 Aes By8 Cel Cf Tap
/- Stage 28's apart: the lists are marked; lists that are grown. Written by tools/mkV8n.py. -/

structure MoN (B m : Nat) (nn : Nat → Nat) (x gv : Nat → Value) (gl : Nat → Nat) (mo : Nat → Value) (R : Nat) (V W : World) : Prop where
  ap : ApN B m nn x (fun t _ => t % 256) (fun t => (t + 100) % 256) gv gl W
  sv : Saved (Gx m x) V W
  row : ∃ c, W.heap[R]? = some (.cells c 24) ∧ c.size = m ∧ ∀ t, t < m → c[t]? = some (mo t)
  new : V.heap.size ≤ R
  pl : ∀ t, t < m → ∀ k, (gv t).ownBlock = some k → V.heap.size ≤ k ∨ Gx m x k
section
variable {B m : Nat} {nn : Nat → Nat} {x gv : Nat → Value} {gl : Nat → Nat} {mo : Nat → Value} {R : Nat} {V W W' : World}
theorem MoN.cg {gl' : Nat → Nat} {mo' : Nat → Value} (h : MoN B m nn x gv gl mo R V W) (e : ∀ t, t < m → gl t = gl' t) (e' : ∀ t, t < m → mo t = mo' t) : MoN B m nn x gv gl' mo' R V W :=
  ⟨apn_cg h.ap e, h.sv, by obtain ⟨c, h1, h2, h3⟩ := h.row; exact ⟨c, h1, h2, fun t ht => by rw [← e' t ht]; exact h3 t ht⟩, h.new, h.pl⟩
theorem MoN.on (h : MoN B m nn x gv gl mo R V W) (hb : Below W.heap.size W W') : MoN B m nn x gv gl mo R V W' :=
  ⟨h.ap.on hb, h.sv.below hb h.sv.size, by obtain ⟨c, h1, h2, h3⟩ := h.row; exact ⟨c, by rw [hb.block _ (Array.getElem?_eq_some_iff.1 h1).1]; exact h1, h2, h3⟩, h.new, h.pl⟩
theorem MoN.grow (h : MoN B m nn x gv gl mo R V W) {i k : Nat} (hi : i < m) {v' : Value}
    (hv : W'.ownsRow B 5 1 v' (gl i + k) (bytesL (gl i + k) (gM (fun _ => i % 256) (nn i) ((i + 100) % 256)))) (hp : (v'.ownBlock = (gv i).ownBlock ∧ W.grownBy W' (gv i).ownBlock ∧ capV v' = capV (gv i)) ∨ (v'.ownBlock = some W.heap.size ∧ W.grownBy W' Option.none)) :
    MoN B m nn x (updX gv i v') (fun t => if t = i then gl i + k else gl t) mo R V W' := by
  refine ⟨h.ap.grow hi hv hp, ?_, ?_, h.new, fun t ht b hb => ?_⟩
  · rcases hp with ⟨_, hg, _⟩ | ⟨_, hg⟩
    · exact h.sv.grown hg (h.pl i hi)
    · exact h.sv.grown hg (fun k e => by cases e)
  · obtain ⟨c, h1, h2, h3⟩ := h.row
    refine ⟨c, ?_, h2, h3⟩
    rcases hp with ⟨_, hg, _⟩ | ⟨_, hg⟩
    · rw [hg.block _ (Array.getElem?_eq_some_iff.1 h1).1 (own_ne (h.ap.grown i hi) h1 (by decide))]
      exact h1
    · rw [hg.block _ (Array.getElem?_eq_some_iff.1 h1).1 (by simp)]
      exact h1
  · by_cases e : t = i
    · subst e
      rw [updX_at] at hb
      rcases hp with ⟨e, _⟩ | ⟨e, _⟩
      · exact h.pl t ht b (by rw [← e]; exact hb)
      · rw [e] at hb
        have := Option.some.inj hb
        have := h.sv.size
        exact Or.inl (by omega)
    · unfold updX at hb
      rw [if_neg e] at hb
      exact h.pl t ht b hb
/-- A list that has been grown is laid into the list of lists. -/
theorem MoN.put (h : MoN B m nn x gv gl mo R V W) (i : Nat) (u : Value) : MoN B m nn x gv gl (updX mo i u) R V (W.setCell ⟨R, i, none⟩ u) := by
  obtain ⟨c, h1, h2, h3⟩ := h.row
  refine ⟨h.ap.cell h1, h.sv.cell _ (Or.inl h.new), ⟨c.setIfInBounds i u, heap4 _ h1, by rw [Array.size_setIfInBounds]; exact h2, fun t ht => ?_⟩, h.new, h.pl⟩
  rw [Array.getElem?_setIfInBounds]
  unfold updX
  by_cases e : i = t
  · subst e
    rw [if_pos rfl, if_pos rfl, if_pos (by omega)]
  · rw [if_neg e, if_neg (fun q => e q.symm)]
    exact h3 t ht
theorem MoN.at (h : MoN B m nn x gv gl mo R V W) {i : Nat} (hi : i < m) : W.cell? ⟨R, i, none⟩ = some (mo i) ∧ W.frozen? ⟨R, i, none⟩ = false := by
  obtain ⟨c, h1, h2, h3⟩ := h.row
  exact ⟨by rw [cell_of_row _ _ _ _ _ _ h1]; exact h3 i hi, frozen4 h1⟩
end
/-- All ahead of i are grown by hi bytes, the others by lo; what lies in the list of lists. -/
structure GSt (B m : Nat) (nn : Nat → Nat) (x : Nat → Value) (R : Nat) (V W : World) (lo hi : Nat) (pre : Prop) (i : Nat) (gv : Nat → Value) (gl : Nat → Nat) (mo : Nat → Value) : Prop where
  mn : MoN B m nn x gv gl mo R V W
  len : ∀ t, t < m → gl t = nn t + (if t < i then hi else lo)
  done : ∀ t, t < m → t < i → mo t = gv t
  todo : ∀ t, t < m → i ≤ t → (pre → mo t = gv t) ∧ (¬ pre → gv t = x t)
/-- The i-th is being grown: v, of n' bytes. -/
structure GI (B m : Nat) (nn : Nat → Nat) (x : Nat → Value) (R : Nat) (V W : World) (lo hi : Nat) (pre : Prop) (i n' : Nat) (v : Value) (gv : Nat → Value) (gl : Nat → Nat) (mo : Nat → Value) : Prop where
  mn : MoN B m nn x gv gl mo R V W
  v_ : gv i = v
  n_ : gl i = n'
  len : ∀ t, t < m → t ≠ i → gl t = nn t + (if t < i then hi else lo)
  done : ∀ t, t < m → t < i → mo t = gv t
  todo : ∀ t, t < m → i < t → (pre → mo t = gv t) ∧ (¬ pre → gv t = x t)
section
variable {B m : Nat} {nn : Nat → Nat} {x : Nat → Value} {R : Nat} {V W W' : World} {lo hi : Nat} {pre : Prop} {i n' : Nat} {v : Value} {gv : Nat → Value} {gl : Nat → Nat} {mo : Nat → Value}
theorem GSt.start (h : GSt B m nn x R V W lo hi pre i gv gl mo) (hi' : i < m) : GI B m nn x R V W lo hi pre i (nn i + lo) (gv i) gv gl mo :=
  ⟨h.mn, rfl, by rw [h.len i hi', if_neg (by omega)], fun t ht _ => h.len t ht, h.done, fun t ht hl => h.todo t ht (by omega)⟩
theorem GI.on (h : GI B m nn x R V W lo hi pre i n' v gv gl mo) (hb : Below W.heap.size W W') : GI B m nn x R V W' lo hi pre i n' v gv gl mo := ⟨h.mn.on hb, h.v_, h.n_, h.len, h.done, h.todo⟩
theorem GI.own (h : GI B m nn x R V W lo hi pre i n' v gv gl mo) (hi' : i < m) : W.ownsRow B 5 1 v n' (bytesL n' (gM (fun _ => i % 256) (nn i) ((i + 100) % 256))) := by
  have := h.mn.ap.grown i hi'
  rw [h.v_, h.n_] at this
  exact this
theorem GI.put (h : GI B m nn x R V W lo hi pre i (nn i + hi) v gv gl mo) : GSt B m nn x R V (W.setCell ⟨R, 0 + i, none⟩ v) lo hi pre (i + 1) gv gl (updX mo i v) := by
  rw [Nat.zero_add]
  refine ⟨h.mn.put i v, fun t ht => ?_, fun t ht hl => ?_, fun t ht hl => ?_⟩
  · by_cases e : t = i
    · rw [e, h.n_, if_pos (by omega)]
    · rw [h.len t ht e]
      by_cases q : t < i
      · rw [if_pos q, if_pos (by omega)]
      · rw [if_neg q, if_neg (by omega)]
  · by_cases e : t = i
    · rw [e, updX_at, h.v_]
    · unfold updX
      rw [if_neg e]
      exact h.done t ht (by omega)
  · have e : t ≠ i := by omega
    unfold updX
    rw [if_neg e]
    exact h.todo t ht (by omega)
theorem GI.grow (h : GI B m nn x R V W lo hi pre i n' v gv gl mo) (hi' : i < m) {k : Nat} {v' : Value} (hv : W'.ownsRow B 5 1 v' (n' + k) (bytesL (n' + k) (gM (fun _ => i % 256) (nn i) ((i + 100) % 256)))) (hp : (v'.ownBlock = v.ownBlock ∧ W.grownBy W' v.ownBlock ∧ capV v' = capV v) ∨ (v'.ownBlock = some W.heap.size ∧ W.grownBy W' Option.none)) :
    GI B m nn x R V W' lo hi pre i (n' + k) v' (updX gv i v') (fun t => if t = i then gl i + k else gl t) mo := by
  refine ⟨h.mn.grow hi' (by rw [h.n_]; exact hv) (by rw [h.v_]; exact hp), updX_at _ _ _, by show (if i = i then gl i + k else gl i) = _; rw [if_pos rfl, h.n_], fun t ht hne => ?_, fun t ht hl => ?_, fun t ht hl => ?_⟩
  · show (if t = i then gl i + k else gl t) = _
    rw [if_neg hne]
    exact h.len t ht hne
  · have e : t ≠ i := by omega
    unfold updX
    rw [if_neg e]
    exact h.done t ht hl
  · have e : t ≠ i := by omega
    unfold updX
    rw [if_neg e]
    exact h.todo t ht hl
end
theorem GSt.begin {B m : Nat} {nn : Nat → Nat} {x : Nat → Value} {f : Nat → Nat → Nat} {V W : World} (FA : Fam B m x nn (mkA f m 0) W) (SV : Saved (Gx m x) V W) :
    GSt B m nn x W.heap.size V (W.alloc (.cells (madeCells #[.slice none 0 0] m) 24)) 0 8 False 0 x nn (fun _ => .slice none 0 0) := by
  have FA' : Fam B m x nn (fun t _ => t % 256) W := fam_cg8 FA fun t ht l _ => by unfold mkA; rw [if_pos (by omega)]
  refine ⟨⟨(ApN.begin FA').on (belNew W _), SV.below (belNew W _) SV.size, ⟨_, heapNew W _, by simp [madeCells], fun t ht => by simp [madeCells, ht, Nat.mod_one]⟩, SV.size, fun t ht k hk => .inr ⟨t, ht, hk⟩⟩, fun t ht => by rw [if_neg (by omega)]; rfl, fun t _ q => by omega, fun t ht _ => ⟨fun q => q.elim, fun _ => rfl⟩⟩
end Go.Proofs.YteekoabgbjbabaaGreatDoor.Dro

namespace Go.Proofs.YteekoabgbjbabaaGreatDoor.Dro
open Go.RowKit Gf8 Aes By8 Cel Cf Tap
/- Stage 28's apart: the lists are grown. Written by tools/mkV8n.py. -/

theorem GSt.again {B m : Nat} {nn : Nat → Nat} {x : Nat → Value} {R : Nat} {V W : World} {gv : Nat → Value} {gl : Nat → Nat} {mo : Nat → Value} (h : GSt B m nn x R V W 0 8 False m gv gl mo) : GSt B m nn x R V W 8 68 True 0 gv gl mo :=
  ⟨h.mn, fun t ht => by rw [h.len t ht, if_pos ht, if_neg (by omega)], fun t _ q => by omega, fun t ht _ => ⟨fun _ => h.done t ht ht, fun q => absurd trivial q⟩⟩
end Go.Proofs.YteekoabgbjbabaaGreatDoor.Dro

namespace Go.Proofs.YteekoabgbjbabaaGreatDoor.Dro
open Go.RowKit Gf8 Aes By8 Cel Cf Tap Drw
/- Stage 28: the laws' copied and lent; lists whose blocks lie within bounds. Written by tools/mkV8q.py. -/

theorem heap_set28 {W : World} {g k i : Nat} {u : Value} (h : i ≠ g) : (W.setCell ⟨g, k, none⟩ u).heap[i]? = W.heap[i]? := by
  unfold World.setCell
  simp only [Array.getElem?_modify]
  rw [if_neg (fun e => h e.symm)]
theorem own_hp {W W' : World} {B n s : Nat} {t : TypeId} {v : Value} {xs : List Value} (h : W.ownsRow B t s v n xs) (e : ∀ k, v.ownBlock = some k → W'.heap[k]? = W.heap[k]?) : W'.ownsRow B t s v n xs := by
  refine ⟨h.1, ?_⟩
  rcases h.2 with q | ⟨g, cap, cur, e1, h1, h2, h3⟩
  · exact Or.inl q
  · subst e1
    exact Or.inr ⟨g, cap, cur, rfl, h1, (e g rfl).trans h2, h3⟩
theorem fam_hp {W W' : World} {B m : Nat} {x : Nat → Value} {nn : Nat → Nat} {ff : Nat → Nat → Nat} (h : Fam B m x nn ff W) (e : ∀ t, t < m → ∀ k, (x t).ownBlock = some k → W'.heap[k]? = W.heap[k]?) : Fam B m x nn ff W' := ⟨fun t ht => own_hp (h.rows t ht) (e t ht), h.dis⟩
/-- Answers whose blocks lie from lo to hi. -/
structure AnI (lo hi : Nat) (W : World) (v : Value) (n : Nat) (y : Nat → Value) (ln : Nat → Nat) (f : Nat → Nat → Nat) : Prop where
  an : An lo W v n y ln f
  hv : ∀ k, v.ownBlock = some k → k < hi
  hr : ∀ t, t < n → ∀ k, (y t).ownBlock = some k → k < hi
section
variable {lo hi B n : Nat} {W W' : World} {v : Value} {y : Nat → Value} {ln : Nat → Nat} {f : Nat → Nat → Nat}
theorem AnI.keep (h : AnI lo hi W v n y ln f) (e : ∀ k, lo ≤ k → k < hi → W'.heap[k]? = W.heap[k]?) : AnI lo hi W' v n y ln f :=
  ⟨⟨own_hp h.an.own fun k hk => e k (h.an.own.lt k hk).1 (h.hv k hk), fam_hp h.an.fam fun t ht k hk => e k ((h.an.fam.rows t ht).lt k hk).1 (h.hr t ht k hk), h.an.byt⟩, h.hv, h.hr⟩
theorem AnI.on (h : AnI lo hi W v n y ln f) (hb : Below W.heap.size W W') : AnI lo hi W' v n y ln f := ⟨h.an.on hb, h.hv, h.hr⟩
theorem AnI.base (h : AnI lo hi W v n y ln f) (hB : B ≤ lo) : AnI B hi W v n y ln f := ⟨⟨ownD_base h.an.own hB, fam_base h.an.fam hB, h.an.byt⟩, h.hv, h.hr⟩
theorem AnI.set {g k : Nat} {u : Value} (h : AnI lo hi W v n y ln f) (hg : g < lo) : AnI lo hi (W.setCell ⟨g, k, none⟩ u) v n y ln f := h.keep fun k h1 _ => heap_set28 (by omega)
theorem AnI.ls (h : AnI lo hi W v n y ln f) (hl : ∀ t, t < n → ln t ≤ 140737488351232) : Ls W v n y ln f := h.an.ls hl
theorem AnI.of (h : An lo W v n y ln f) : AnI lo W.heap.size W v n y ln f := ⟨h, fun k hk => (h.own.lt k hk).2, fun t ht k hk => ((h.fam.rows t ht).lt k hk).2⟩
theorem AnI.grown {row : Option Nat} (h : AnI lo hi W v n y ln f) (hh : hi ≤ W.heap.size) (hg : W.grownBy W' row) (hr : ∀ k, row = some k → hi ≤ k) : AnI lo hi W' v n y ln f := h.keep fun k _ h2 => hg.block k (by omega) (fun e => by have := hr k e.symm; omega)
end
/-- Bytes, and two marks behind them. -/
def rmY (p : Nat → Nat) (l j : Nat) : Nat := if j < l then p j else if j = l then 77 else 78
/-- The copies: rows of their own with two marked places behind each list. -/
structure CpI (lo hi : Nat) (W : World) (v : Value) (n : Nat) (g cp ln : Nat → Nat) (c : Nat → Nat → Nat) : Prop where
  own : W.ownsRow lo 24 1 v n (lL (fun t => .slice (some ⟨g t, 0, none⟩) (ln t) (cp t)) n)
  fam : Fam lo n (fun t => .slice (some ⟨g t, 0, none⟩) (ln t + 2) (cp t)) (fun t => ln t + 2) (fun t => rmY (c t) (ln t)) W
  byt : ∀ t, t < n → ∀ j, j < ln t → c t j < 256
  len : ∀ t, t < n → ln t ≤ 140737488351232
  hv : ∀ k, v.ownBlock = some k → k < hi
  hr : ∀ t, t < n → g t < hi
theorem rm_lt {p : Nat → Nat} {l j : Nat} (h : ∀ i, i < l → p i < 256) : rmY p l j < 256 := by
  unfold rmY
  split
  · rename_i q; exact h j q
  · split <;> decide
section
variable {lo hi n : Nat} {W W' : World} {v : Value} {g cp ln : Nat → Nat} {c : Nat → Nat → Nat}
theorem CpI.on (h : CpI lo hi W v n g cp ln c) (hb : Below W.heap.size W W') : CpI lo hi W' v n g cp ln c := ⟨ownD_below h.own hb, h.fam.on hb, h.byt, h.len, h.hv, h.hr⟩
theorem CpI.keep (h : CpI lo hi W v n g cp ln c) (e : ∀ k, lo ≤ k → k < hi → W'.heap[k]? = W.heap[k]?) : CpI lo hi W' v n g cp ln c :=
  ⟨own_hp h.own fun k hk => e k (h.own.lt k hk).1 (h.hv k hk), fam_hp h.fam fun t ht k hk => e k ((h.fam.rows t ht).lt k hk).1 (by have := h.hr t ht; simp [Value.ownBlock] at hk; omega), h.byt, h.len, h.hv, h.hr⟩
theorem CpI.grown {row : Option Nat} (h : CpI lo hi W v n g cp ln c) (hh : hi ≤ W.heap.size) (hg : W.grownBy W' row) (hr : ∀ k, row = some k → hi ≤ k) : CpI lo hi W' v n g cp ln c := h.keep fun k _ h2 => hg.block k (by omega) (fun e => by have := hr k e.symm; omega)
theorem CpI.row (h : CpI lo hi W v n g cp ln c) {t : Nat} (ht : t < n) : SliceN W (.slice (some ⟨g t, 0, none⟩) (ln t + 2) (cp t)) (ln t + 2) (rmY (c t) (ln t)) := own_slice (h.fam.rows t ht) fun _ _ => rm_lt (h.byt t ht)
theorem CpI.ls (h : CpI lo hi W v n g cp ln c) : Ls W v n (fun t => .slice (some ⟨g t, 0, none⟩) (ln t) (cp t)) ln c :=
  ls_of h.own (fun t ht => slice_cg (takeN (h.row ht) (by omega)) fun j hj => if_pos hj) (fun t _ l c e => by cases e) h.len
theorem CpI.lo_ (h : CpI lo hi W v n g cp ln c) {t : Nat} (ht : t < n) : lo ≤ g t := ((h.fam.rows t ht).lt (g t) rfl).1
theorem CpI.put (h : CpI lo hi W v n g cp ln c) {t j : Nat} (ht : t < n) (hj : j < ln t) {z : Nat} (hz : z < 256) : CpI lo hi (W.setCell ⟨g t, 0 + j, none⟩ (.int .u8 ((z : Nat) : Int))) v n g cp ln (fun s => if s = t then (fun l => if l = j then z else c t l) else c s) := by
  rw [Nat.zero_add]
  obtain ⟨cc, hc⟩ := own_type (h.fam.rows t ht) (k := g t) rfl
  refine ⟨ownW_setCell h.own hc (by decide), fam_cg8 (fam_set8 h.fam ht rfl z) fun s hs l hl => ?_, fun s hs l hl => ?_, h.len, h.hv, h.hr⟩
  · by_cases e : s = t
    · subst e
      rw [if_pos rfl]
      show (if l = j then z else rmY (c s) (ln s) l) = rmY (if s = s then (fun l => if l = j then z else c s l) else c s) (ln s) l
      rw [if_pos rfl]
      unfold rmY
      by_cases e2 : l = j
      · rw [if_pos e2, if_pos (by omega)]; exact (if_pos e2).symm
      · rw [if_neg e2]
        by_cases q : l < ln s
        · rw [if_pos q, if_pos q]; exact (if_neg e2).symm
        · rw [if_neg q, if_neg q]
    · rw [if_neg e]
      show rmY (c s) (ln s) l = rmY (if s = t then (fun l => if l = j then z else c t l) else c s) (ln s) l
      rw [if_neg e]
  · show (if s = t then (fun l => if l = j then z else c t l) else c s) l < 256
    by_cases e : s = t
    · subst e
      rw [if_pos rfl]
      by_cases e2 : l = j
      · simp only [if_pos e2]; exact hz
      · simp only [if_neg e2]; exact h.byt s hs l hl
    · rw [if_neg e]; exact h.byt s hs l hl
theorem CpI.cg {d : Nat → Nat → Nat} (h : CpI lo hi W v n g cp ln c) (e : ∀ t, t < n → ∀ j, j < ln t → c t j = d t j) : CpI lo hi W v n g cp ln d :=
  ⟨h.own, fam_cg8 h.fam fun t ht l _ => by show rmY (c t) (ln t) l = rmY (d t) (ln t) l; unfold rmY; split; rename_i q; exact e t ht l q; rfl, fun t ht j hj => by rw [← e t ht j hj]; exact h.byt t ht j hj, h.len, h.hv, h.hr⟩
theorem own_some {B m : Nat} {u : Value} {xs : List Value} (h : W.ownsRow B 5 1 u m xs) (hm : 0 < m) : ∃ g_ c_, u = .slice (some ⟨g_, 0, none⟩) m c_ := by
  rcases h.2 with ⟨_, e⟩ | ⟨g', c', cur, e, _⟩
  · have := h.1; rw [e] at this; simp at this; omega
  · exact ⟨g', c', e⟩
end
theorem own_e0 {W : World} {B : Nat} {f : Nat → Nat} (h : B ≤ W.heap.size) : (W.alloc (.cells #[] 5)).ownsRow B 5 1 (.slice (some ⟨W.heap.size, 0, none⟩) 0 0) 0 (bytesL 0 f) := own_base ⟨rfl, Or.inr ⟨W.heap.size, 0, #[], rfl, Nat.le_refl _, heapNew W _, Nat.le_refl _, by unfold maxLen; omega, rfl, rfl⟩⟩ h
theorem cp_list {W : World} {B i a b : Nat} {v : Value} {g cp ln : Nat → Nat} (h : W.ownsRow B 24 1 v (i + 1) (lL (fun t => .slice (some ⟨g t, 0, none⟩) (ln t) (cp t)) i ++ (#[.slice (some ⟨a, 0, none⟩) (ln i) b] : Array Value).toList)) : W.ownsRow B 24 1 v (i + 1) (lL (fun t => .slice (some ⟨(fun t => if t = i then a else g t) t, 0, none⟩) (ln t) ((fun t => if t = i then b else cp t) t)) (i + 1)) := by
  have e : lL (fun t => .slice (some ⟨(fun t => if t = i then a else g t) t, 0, none⟩) (ln t) ((fun t => if t = i then b else cp t) t)) (i + 1) = lL (fun t => .slice (some ⟨g t, 0, none⟩) (ln t) (cp t)) i ++ [.slice (some ⟨a, 0, none⟩) (ln i) b] := by
    show lL _ i ++ [_] = _
    congr 1
    · exact lL_congr i fun t ht => by simp only [if_neg (show ¬ t = i by omega)]
    · simp
  rw [e]
  exact h
theorem cp_fam {W : World} {B i a b : Nat} {g cp nn : Nat → Nat} {ff : Nat → Nat → Nat} (h : Fam B (i + 1) (updX (fun t => .slice (some ⟨g t, 0, none⟩) (nn t) (cp t)) i (.slice (some ⟨a, 0, none⟩) (nn i) b)) nn ff W) : Fam B (i + 1) (fun t => .slice (some ⟨(fun t => if t = i then a else g t) t, 0, none⟩) (nn t) ((fun t => if t = i then b else cp t) t)) nn ff W := by
  have e : updX (fun t => .slice (some ⟨g t, 0, none⟩) (nn t) (cp t)) i (.slice (some ⟨a, 0, none⟩) (nn i) b) = fun t => .slice (some ⟨(fun t => if t = i then a else g t) t, 0, none⟩) (nn t) ((fun t => if t = i then b else cp t) t) := by
    funext t
    unfold updX
    by_cases q : t = i
    · subst q; simp
    · simp [q]
  rw [← e]
  exact h
end Go.Proofs.YteekoabgbjbabaaGreatDoor.Dro

namespace Go.Proofs.YteekoabgbjbabaaGreatDoor.Dro
open Go.RowKit Gf8 Aes By8 Cel Cf Tap Drw
/- Stage 28: DropExchanges. Written by tools/mkV8r.py. -/

theorem CpI.base {lo hi B n : Nat} {W : World} {v : Value} {g cp ln : Nat → Nat} {c : Nat → Nat → Nat} (h : CpI lo hi W v n g cp ln c) (hB : B ≤ lo) : CpI B hi W v n g cp ln c := ⟨ownD_base h.own hB, fam_base h.fam hB, h.byt, h.len, h.hv, h.hr⟩
section
variable {c : Nat → Nat → Nat} {i k t j l : Nat}
end
end Go.Proofs.YteekoabgbjbabaaGreatDoor.Dro
