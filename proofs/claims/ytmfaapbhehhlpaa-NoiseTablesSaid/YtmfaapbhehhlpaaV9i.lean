import Derived.Test.YtmfaapbhehhlpaaF9a
import Derived.Test.YtmfaapbhehhlpaaX7b
import Derived.Test.YtmfaapbhehhlpaaX7f
namespace Go.Proofs.Ytmfaapbhehhlpaa.Tap
open Go.RowKit Gf8 Aes By8 Cel Cf
/- What goes through the law's apart: lists of any lengths. -/

/-- The blocks of m lists. -/
def Gx (m : Nat) (x : Nat → Value) (k : Nat) : Prop := ∃ t, t < m ∧ (x t).ownBlock = some k
/-- All lists ahead of i are marked, and list i up to byte k. -/
def mkA (f : Nat → Nat → Nat) (i k t : Nat) : Nat → Nat := fun l => if t < i ∨ (t = i ∧ l < k) then t % 256 else f t l
theorem run_mkL (n : Nat) (hn : n ≤ 1000000) (W : World) : (Instr.makeSlice 39 (.int .i64 (n : Int)) (.int .i64 (n : Int))).run Try.prog W = .ok (.slice (some ⟨W.heap.size, 0, none⟩) n n) (W.alloc (.cells (madeCells #[.slice none 0 0] n) 31)) := by
  obtain ⟨i, h1, h2, h3, h4⟩ := infoB
  have h := run_make (P := Try.prog) W 39 31 i (.slice none 0 0) Try.underlying39 h1 h2 .i64 .i64 (n : Int) (n : Int) (by omega) (by omega) (by rw [h4]; omega) (by omega)
  rw [h3, Int.toNat_natCast, Nat.mul_one] at h
  exact h
theorem apn_cg {B m : Nat} {nn : Nat → Nat} {x : Nat → Value} {ff : Nat → Nat → Nat} {zz : Nat → Nat} {gv : Nat → Value} {gl gl' : Nat → Nat} {W : World} (h : ApN B m nn x ff zz gv gl W) (e : ∀ t, t < m → gl t = gl' t) : ApN B m nn x ff zz gv gl' W :=
  ⟨h.fam, fun t ht => by rw [← e t ht]; exact h.grown t ht, fun t ht => by rw [← e t ht]; exact h.le t ht, h.at', h.dis⟩
structure MoN (B m : Nat) (nn : Nat → Nat) (x gv : Nat → Value) (gl : Nat → Nat) (mo : Nat → Value) (R : Nat) (V W : World) : Prop where
  ap : ApN B m nn x (fun t _ => t % 256) (fun t => (t + 140) % 256) gv gl W
  sv : Saved (Gx m x) V W
  row : ∃ c, W.heap[R]? = some (.cells c 31) ∧ c.size = m ∧ ∀ t, t < m → c[t]? = some (mo t)
  new : V.heap.size ≤ R
  pl : ∀ t, t < m → ∀ k, (gv t).ownBlock = some k → V.heap.size ≤ k ∨ Gx m x k
section
variable {B m : Nat} {nn : Nat → Nat} {x gv : Nat → Value} {gl : Nat → Nat} {mo : Nat → Value} {R : Nat} {V W W' : World}
theorem MoN.cg {gl' : Nat → Nat} {mo' : Nat → Value} (h : MoN B m nn x gv gl mo R V W) (e : ∀ t, t < m → gl t = gl' t) (e' : ∀ t, t < m → mo t = mo' t) : MoN B m nn x gv gl' mo' R V W :=
  ⟨apn_cg h.ap e, h.sv, by obtain ⟨c, h1, h2, h3⟩ := h.row; exact ⟨c, h1, h2, fun t ht => by rw [← e' t ht]; exact h3 t ht⟩, h.new, h.pl⟩
theorem MoN.on (h : MoN B m nn x gv gl mo R V W) (hb : Below W.heap.size W W') : MoN B m nn x gv gl mo R V W' :=
  ⟨h.ap.on hb, h.sv.below hb h.sv.size, by obtain ⟨c, h1, h2, h3⟩ := h.row; exact ⟨c, by rw [hb.block _ (Array.getElem?_eq_some_iff.1 h1).1]; exact h1, h2, h3⟩, h.new, h.pl⟩
theorem MoN.grow (h : MoN B m nn x gv gl mo R V W) {i k : Nat} (hi : i < m) {v' : Value}
    (hv : W'.ownsRow B 5 1 v' (gl i + k) (bytesL (gl i + k) (gM (fun _ => i % 256) (nn i) ((i + 140) % 256)))) (hp : (v'.ownBlock = (gv i).ownBlock ∧ W.grownBy W' (gv i).ownBlock ∧ capV v' = capV (gv i)) ∨ (v'.ownBlock = some W.heap.size ∧ W.grownBy W' Option.none)) :
    MoN B m nn x (updX gv i v') (fun t => if t = i then gl i + k else gl t) mo R V W' := by
  refine ⟨h.ap.grow hi hv hp, ?_, ?_, h.new, fun t ht b hb => ?_⟩
  · rcases hp with ⟨_, hg, _⟩ | ⟨_, hg⟩
    · exact h.sv.grown hg (h.pl i hi)
    · exact h.sv.grown hg (fun k e => by cases e)
  · obtain ⟨c, h1, h2, h3⟩ := h.row
    refine ⟨c, ?_, h2, h3⟩
    rcases hp with ⟨_, hg, _⟩ | ⟨_, hg⟩
    · rw [hg.block _ (Array.getElem?_eq_some_iff.1 h1).1 (own_ne (h.ap.grown i hi) h1 (by decide))]
      exact h1
    · rw [hg.block _ (Array.getElem?_eq_some_iff.1 h1).1 (by simp)]
      exact h1
  · by_cases e : t = i
    · subst e
      rw [updX_at] at hb
      rcases hp with ⟨e, _⟩ | ⟨e, _⟩
      · exact h.pl t ht b (by rw [← e]; exact hb)
      · rw [e] at hb
        have := Option.some.inj hb
        have := h.sv.size
        exact Or.inl (by omega)
    · unfold updX at hb
      rw [if_neg e] at hb
      exact h.pl t ht b hb
/-- A list that has been grown is laid into the list of lists. -/
theorem MoN.put (h : MoN B m nn x gv gl mo R V W) (i : Nat) (u : Value) : MoN B m nn x gv gl (updX mo i u) R V (W.setCell ⟨R, i, none⟩ u) := by
  obtain ⟨c, h1, h2, h3⟩ := h.row
  refine ⟨h.ap.cell h1, h.sv.cell _ (Or.inl h.new), ⟨c.setIfInBounds i u, heap4 _ h1, by rw [Array.size_setIfInBounds]; exact h2, fun t ht => ?_⟩, h.new, h.pl⟩
  rw [Array.getElem?_setIfInBounds]
  unfold updX
  by_cases e : i = t
  · subst e
    rw [if_pos rfl, if_pos rfl, if_pos (by omega)]
  · rw [if_neg e, if_neg (fun q => e q.symm)]
    exact h3 t ht
theorem MoN.at (h : MoN B m nn x gv gl mo R V W) {i : Nat} (hi : i < m) : W.cell? ⟨R, i, none⟩ = some (mo i) ∧ W.frozen? ⟨R, i, none⟩ = false := by
  obtain ⟨c, h1, h2, h3⟩ := h.row
  exact ⟨by rw [cell_of_row _ _ _ _ _ _ h1]; exact h3 i hi, frozen4 h1⟩
end
end Go.Proofs.Ytmfaapbhehhlpaa.Tap

namespace Go.Proofs.Ytmfaapbhehhlpaa.Tap
open Go.RowKit Gf8 Aes By8 Cel Cf
/- The law's apart: the lists are marked. Written by tools/mkV9c.py. -/

structure AA (U : Value) (a : Act) : Prop where
  sz : a.tmps.size = 137
  df : a.defers = []
  t0 : a.eval (.tmp 0) = U
theorem AA.keep {U : Value} {a a' : Act} {ds : List Nat} (h : AA U a) (hs : a'.tmps.size = 137) (hd : a'.defers = a.defers) (hf : ∀ e, e ∉ ds → a'.eval (.tmp e) = a.eval (.tmp e)) (hk : ([0] : List Nat).all (fun k => !ds.contains k) = true) : AA U a' := by
  have hk2 : ∀ k, k ∈ ([0] : List Nat) → k ∉ ds := fun k hk1 => by
    have := List.all_eq_true.1 hk k hk1
    simpa using this
  exact ⟨hs, hd.trans h.df, (hf 0 (hk2 0 (by simp))).trans h.t0⟩
end Go.Proofs.Ytmfaapbhehhlpaa.Tap

namespace Go.Proofs.Ytmfaapbhehhlpaa.Tap
open Go.RowKit Gf8 Aes By8 Cel Cf
/- The law's apart: lists that are grown. -/

theorem execMkL {o : Oper} {a : Act} {w : World} {n : Nat} {x y : Operand} (ho : o.op = .makeSlice 39 x y) (hx : a.eval x = .int .i64 (n : Int)) (hy : a.eval y = .int .i64 (n : Int)) (hn : n ≤ 1000000) :
    (execOp a.eval o).run Try.prog w = .ok (.value (.slice (some ⟨w.heap.size, 0, none⟩) n n)) (w.alloc (.cells (madeCells #[.slice none 0 0] n) 31)) := by
  unfold execOp
  simp only [ho, hx, hy, Sem.run_bind, run_mkL n hn, Result.andThen_ok, Sem.run_pure]
/-- All ahead of i are grown by hi bytes, the others by lo; what lies in the list of lists. -/
structure GSt (B m : Nat) (nn : Nat → Nat) (x : Nat → Value) (R : Nat) (V W : World) (lo hi : Nat) (pre : Prop) (i : Nat) (gv : Nat → Value) (gl : Nat → Nat) (mo : Nat → Value) : Prop where
  mn : MoN B m nn x gv gl mo R V W
  len : ∀ t, t < m → gl t = nn t + (if t < i then hi else lo)
  done : ∀ t, t < m → t < i → mo t = gv t
  todo : ∀ t, t < m → i ≤ t → (pre → mo t = gv t) ∧ (¬ pre → gv t = x t)
/-- The i-th is being grown: v, of n' bytes. -/
structure GI (B m : Nat) (nn : Nat → Nat) (x : Nat → Value) (R : Nat) (V W : World) (lo hi : Nat) (pre : Prop) (i n' : Nat) (v : Value) (gv : Nat → Value) (gl : Nat → Nat) (mo : Nat → Value) : Prop where
  mn : MoN B m nn x gv gl mo R V W
  v_ : gv i = v
  n_ : gl i = n'
  len : ∀ t, t < m → t ≠ i → gl t = nn t + (if t < i then hi else lo)
  done : ∀ t, t < m → t < i → mo t = gv t
  todo : ∀ t, t < m → i < t → (pre → mo t = gv t) ∧ (¬ pre → gv t = x t)
section
variable {B m : Nat} {nn : Nat → Nat} {x : Nat → Value} {R : Nat} {V W W' : World} {lo hi : Nat} {pre : Prop} {i n' : Nat} {v : Value} {gv : Nat → Value} {gl : Nat → Nat} {mo : Nat → Value}
theorem GSt.start (h : GSt B m nn x R V W lo hi pre i gv gl mo) (hi' : i < m) : GI B m nn x R V W lo hi pre i (nn i + lo) (gv i) gv gl mo :=
  ⟨h.mn, rfl, by rw [h.len i hi', if_neg (by omega)], fun t ht _ => h.len t ht, h.done, fun t ht hl => h.todo t ht (by omega)⟩
theorem GI.on (h : GI B m nn x R V W lo hi pre i n' v gv gl mo) (hb : Below W.heap.size W W') : GI B m nn x R V W' lo hi pre i n' v gv gl mo := ⟨h.mn.on hb, h.v_, h.n_, h.len, h.done, h.todo⟩
theorem GI.own (h : GI B m nn x R V W lo hi pre i n' v gv gl mo) (hi' : i < m) : W.ownsRow B 5 1 v n' (bytesL n' (gM (fun _ => i % 256) (nn i) ((i + 140) % 256))) := by
  have := h.mn.ap.grown i hi'
  rw [h.v_, h.n_] at this
  exact this
theorem GI.put (h : GI B m nn x R V W lo hi pre i (nn i + hi) v gv gl mo) : GSt B m nn x R V (W.setCell ⟨R, 0 + i, none⟩ v) lo hi pre (i + 1) gv gl (updX mo i v) := by
  rw [Nat.zero_add]
  refine ⟨h.mn.put i v, fun t ht => ?_, fun t ht hl => ?_, fun t ht hl => ?_⟩
  · by_cases e : t = i
    · rw [e, h.n_, if_pos (by omega)]
    · rw [h.len t ht e]
      by_cases q : t < i
      · rw [if_pos q, if_pos (by omega)]
      · rw [if_neg q, if_neg (by omega)]
  · by_cases e : t = i
    · rw [e, updX_at, h.v_]
    · unfold updX
      rw [if_neg e]
      exact h.done t ht (by omega)
  · have e : t ≠ i := by omega
    unfold updX
    rw [if_neg e]
    exact h.todo t ht (by omega)
theorem GI.grow (h : GI B m nn x R V W lo hi pre i n' v gv gl mo) (hi' : i < m) {k : Nat} {v' : Value} (hv : W'.ownsRow B 5 1 v' (n' + k) (bytesL (n' + k) (gM (fun _ => i % 256) (nn i) ((i + 140) % 256)))) (hp : (v'.ownBlock = v.ownBlock ∧ W.grownBy W' v.ownBlock ∧ capV v' = capV v) ∨ (v'.ownBlock = some W.heap.size ∧ W.grownBy W' Option.none)) :
    GI B m nn x R V W' lo hi pre i (n' + k) v' (updX gv i v') (fun t => if t = i then gl i + k else gl t) mo := by
  refine ⟨h.mn.grow hi' (by rw [h.n_]; exact hv) (by rw [h.v_]; exact hp), updX_at _ _ _, by show (if i = i then gl i + k else gl i) = _; rw [if_pos rfl, h.n_], fun t ht hne => ?_, fun t ht hl => ?_, fun t ht hl => ?_⟩
  · show (if t = i then gl i + k else gl t) = _
    rw [if_neg hne]
    exact h.len t ht hne
  · have e : t ≠ i := by omega
    unfold updX
    rw [if_neg e]
    exact h.done t ht hl
  · have e : t ≠ i := by omega
    unfold updX
    rw [if_neg e]
    exact h.todo t ht hl
end
theorem GSt.begin {B m : Nat} {nn : Nat → Nat} {x : Nat → Value} {f : Nat → Nat → Nat} {V W : World} (FA : Fam B m x nn (mkA f m 0) W) (SV : Saved (Gx m x) V W) :
    GSt B m nn x W.heap.size V (W.alloc (.cells (madeCells #[.slice none 0 0] m) 31)) 0 8 False 0 x nn (fun _ => .slice none 0 0) := by
  have FA' : Fam B m x nn (fun t _ => t % 256) W := fam_cg8 FA fun t ht l _ => by unfold mkA; rw [if_pos (by omega)]
  refine ⟨⟨(ApN.begin FA').on (belNew W _), SV.below (belNew W _) SV.size, ⟨_, heapNew W _, by simp [madeCells], fun t ht => by simp [madeCells, ht, Nat.mod_one]⟩, SV.size, fun t ht k hk => .inr ⟨t, ht, hk⟩⟩, fun t ht => by rw [if_neg (by omega)]; rfl, fun t _ q => by omega, fun t ht _ => ⟨fun q => q.elim, fun _ => rfl⟩⟩
end Go.Proofs.Ytmfaapbhehhlpaa.Tap

namespace Go.Proofs.Ytmfaapbhehhlpaa.Tap
open Go.RowKit Gf8 Aes By8 Cel Cf
/- The law's apart: the lists are grown. Written by tools/mkV9e.py. -/

theorem GSt.again {B m : Nat} {nn : Nat → Nat} {x : Nat → Value} {R : Nat} {V W : World} {gv : Nat → Value} {gl : Nat → Nat} {mo : Nat → Value} (h : GSt B m nn x R V W 0 8 False m gv gl mo) : GSt B m nn x R V W 8 128 True 0 gv gl mo :=
  ⟨h.mn, fun t ht => by rw [h.len t ht, if_pos ht, if_neg (by omega)], fun t _ q => by omega, fun t ht _ => ⟨fun _ => h.done t ht ht, fun q => absurd trivial q⟩⟩
end Go.Proofs.Ytmfaapbhehhlpaa.Tap

namespace Go.Proofs.Ytmfaapbhehhlpaa.Tap
open Go.RowKit Gf8 Aes By8 Cel Cf
/- Parts; the law's alike where they are the same. Written by tools/mkV9g.py. -/

section
variable {o : Oper} {a : Act} {w : World}
end
structure LA (ra rb : Nat) (a : Act) : Prop where
  sz : a.tmps.size = 48
  df : a.defers = []
  t2 : a.eval (.tmp 2) = .pointer (some ⟨ra, 0, none⟩)
  t3 : a.eval (.tmp 3) = .pointer (some ⟨rb, 0, none⟩)
theorem LA.keep {ra rb : Nat} {a a' : Act} {ds : List Nat} (h : LA ra rb a) (hs : a'.tmps.size = 48) (hd : a'.defers = a.defers) (hf : ∀ e, e ∉ ds → a'.eval (.tmp e) = a.eval (.tmp e)) (hk : ([2, 3] : List Nat).all (fun k => !ds.contains k) = true) : LA ra rb a' := by
  have hk2 : ∀ k, k ∈ ([2, 3] : List Nat) → k ∉ ds := fun k hk1 => by
    have := List.all_eq_true.1 hk k hk1
    simpa using this
  exact ⟨hs, hd.trans h.df, (hf 2 (hk2 2 (by simp))).trans h.t2, (hf 3 (hk2 3 (by simp))).trans h.t3⟩
end Go.Proofs.Ytmfaapbhehhlpaa.Tap

namespace Go.Proofs.Ytmfaapbhehhlpaa.Tap
open Go.RowKit Gf8 Aes By8 Cel Cf
/- The law's lists. Written by tools/mkV9i.py. -/

theorem ownW_base9 {W : World} {B C t s n : Nat} {v : Value} {xs : List Value} (h : W.ownsRow C t s v n xs) (hB : B ≤ C) : W.ownsRow B t s v n xs := by
  refine ⟨h.1, ?_⟩
  rcases h.2 with h | ⟨g, cap, cur, e, hC, h1⟩
  · exact Or.inl h
  · exact Or.inr ⟨g, cap, cur, e, Nat.le_trans hB hC, h1⟩
end Go.Proofs.Ytmfaapbhehhlpaa.Tap
