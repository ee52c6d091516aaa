import Derived.Test.YtcibogmghagpoaaV9c
namespace Go.Proofs.Ytcibogmghagpoaa.Tap
open Go.RowKit Gf8 Aes By8 Cel Cf
/- The law's apart: lists that are grown. -/

theorem execMkL {o : Oper} {a : Act} {w : World} {n : Nat} {x y : Operand} (ho : o.op = .makeSlice 29 x y) (hx : a.eval x = .int .i64 (n : Int)) (hy : a.eval y = .int .i64 (n : Int)) (hn : n ≤ 1000000) :
    (execOp a.eval o).run Try.prog w = .ok (.value (.slice (some ⟨w.heap.size, 0, none⟩) n n)) (w.alloc (.cells (madeCells #[.slice none 0 0] n) 23)) := by
  unfold execOp
  simp only [ho, hx, hy, Sem.run_bind, run_mkL n hn, Result.andThen_ok, Sem.run_pure]
/-- All ahead of i are grown by hi bytes, the others by lo; what lies in the list of lists. -/
structure GSt (B m : Nat) (nn : Nat → Nat) (x : Nat → Value) (R : Nat) (V W : World) (lo hi : Nat) (pre : Prop) (i : Nat) (gv : Nat → Value) (gl : Nat → Nat) (mo : Nat → Value) : Prop where
  mn : MoN B m nn x gv gl mo R V W
  len : ∀ t, t < m → gl t = nn t + (if t < i then hi else lo)
  done : ∀ t, t < m → t < i → mo t = gv t
  todo : ∀ t, t < m → i ≤ t → (pre → mo t = gv t) ∧ (¬ pre → gv t = x t)
/-- The i-th is being grown: v, of n' bytes. -/
structure GI (B m : Nat) (nn : Nat → Nat) (x : Nat → Value) (R : Nat) (V W : World) (lo hi : Nat) (pre : Prop) (i n' : Nat) (v : Value) (gv : Nat → Value) (gl : Nat → Nat) (mo : Nat → Value) : Prop where
  mn : MoN B m nn x gv gl mo R V W
  v_ : gv i = v
  n_ : gl i = n'
  len : ∀ t, t < m → t ≠ i → gl t = nn t + (if t < i then hi else lo)
  done : ∀ t, t < m → t < i → mo t = gv t
  todo : ∀ t, t < m → i < t → (pre → mo t = gv t) ∧ (¬ pre → gv t = x t)
section
variable {B m : Nat} {nn : Nat → Nat} {x : Nat → Value} {R : Nat} {V W W' : World} {lo hi : Nat} {pre : Prop} {i n' : Nat} {v : Value} {gv : Nat → Value} {gl : Nat → Nat} {mo : Nat → Value}
theorem GSt.start (h : GSt B m nn x R V W lo hi pre i gv gl mo) (hi' : i < m) : GI B m nn x R V W lo hi pre i (nn i + lo) (gv i) gv gl mo :=
  ⟨h.mn, rfl, by rw [h.len i hi', if_neg (by omega)], fun t ht _ => h.len t ht, h.done, fun t ht hl => h.todo t ht (by omega)⟩
theorem GI.on (h : GI B m nn x R V W lo hi pre i n' v gv gl mo) (hb : Below W.heap.size W W') : GI B m nn x R V W' lo hi pre i n' v gv gl mo := ⟨h.mn.on hb, h.v_, h.n_, h.len, h.done, h.todo⟩
theorem GI.own (h : GI B m nn x R V W lo hi pre i n' v gv gl mo) (hi' : i < m) : W.ownsRow B 5 1 v n' (bytesL n' (gM (fun _ => i % 256) (nn i) ((i + 140) % 256))) := by
  have := h.mn.ap.grown i hi'
  rw [h.v_, h.n_] at this
  exact this
theorem GI.put (h : GI B m nn x R V W lo hi pre i (nn i + hi) v gv gl mo) : GSt B m nn x R V (W.setCell ⟨R, 0 + i, none⟩ v) lo hi pre (i + 1) gv gl (updX mo i v) := by
  rw [Nat.zero_add]
  refine ⟨h.mn.put i v, fun t ht => ?_, fun t ht hl => ?_, fun t ht hl => ?_⟩
  · by_cases e : t = i
    · rw [e, h.n_, if_pos (by omega)]
    · rw [h.len t ht e]
      by_cases q : t < i
      · rw [if_pos q, if_pos (by omega)]
      · rw [if_neg q, if_neg (by omega)]
  · by_cases e : t = i
    · rw [e, updX_at, h.v_]
    · unfold updX
      rw [if_neg e]
      exact h.done t ht (by omega)
  · have e : t ≠ i := by omega
    unfold updX
    rw [if_neg e]
    exact h.todo t ht (by omega)
theorem GI.grow (h : GI B m nn x R V W lo hi pre i n' v gv gl mo) (hi' : i < m) {k : Nat} {v' : Value} (hv : W'.ownsRow B 5 1 v' (n' + k) (bytesL (n' + k) (gM (fun _ => i % 256) (nn i) ((i + 140) % 256)))) (hp : (v'.ownBlock = v.ownBlock ∧ W.grownBy W' v.ownBlock ∧ capV v' = capV v) ∨ (v'.ownBlock = some W.heap.size ∧ W.grownBy W' Option.none)) :
    GI B m nn x R V W' lo hi pre i (n' + k) v' (updX gv i v') (fun t => if t = i then gl i + k else gl t) mo := by
  refine ⟨h.mn.grow hi' (by rw [h.n_]; exact hv) (by rw [h.v_]; exact hp), updX_at _ _ _, by show (if i = i then gl i + k else gl i) = _; rw [if_pos rfl, h.n_], fun t ht hne => ?_, fun t ht hl => ?_, fun t ht hl => ?_⟩
  · show (if t = i then gl i + k else gl t) = _
    rw [if_neg hne]
    exact h.len t ht hne
  · have e : t ≠ i := by omega
    unfold updX
    rw [if_neg e]
    exact h.done t ht hl
  · have e : t ≠ i := by omega
    unfold updX
    rw [if_neg e]
    exact h.todo t ht hl
end
theorem stepApp9 {ops : Array Oper} {Q : Exit → Act → World → Prop} {K : Act → World → Prop} {j : Nat} {o : Oper} {a : Act} {s y : Operand} {g k : Nat} {B m : Nat} {nn : Nat → Nat} {x : Nat → Value} {R : Nat} {V W : World} {lo hi : Nat} {pre : Prop} {i n' : Nat} {v : Value} {gv : Nat → Value} {gl : Nat → Nat} {mo : Nat → Value} {cs : Array Value} (hos : ops[j]? = some o) (hgd : Region.wanted o (yielded ops a.tmps) = true)
    (ho : o.op = .call { callee := .builtin .append, args := #[s, y], argTypes := #[23, 23] }) (hs : a.eval s = v) (hx : a.eval y = .slice (some ⟨g, 0, none⟩) k k) (h : GI B m nn x R V W lo hi pre i n' v gv gl mo) (hg : W.heap[g]? = some (.cells cs 5)) (hcs : ∀ l, l < k → cs[l]? = some (.int .u8 (((i + 140) % 256 : Nat) : Int))) (hi' : i < m) (hn : nn i ≤ n') (hb : n' + k ≤ 200000000000000) (hB : B ≤ V.heap.size)
    (hK : ∀ v' W' gv' gl', GI B m nn x R V W' lo hi pre i (n' + k) v' gv' gl' mo → K (a.put o.dst v') W') : wpOp Try.prog ops Q j K a W := by
  obtain ⟨v', W', run, own', hp⟩ := execApp8 (n := n') (m := k) (p := gM (fun _ => i % 256) (nn i) ((i + 140) % 256)) ho hs hx (h.own hi') (fun l hl => by
    rw [cell_of_row _ _ _ _ _ _ hg, hcs l hl]
    unfold gM
    rw [if_neg (by omega)]) hb (Nat.le_trans hB h.mn.sv.size)
  exact stepV hos hgd run (hK v' W' _ _ (h.grow hi' own' hp))
theorem GSt.begin {B m : Nat} {nn : Nat → Nat} {x : Nat → Value} {f : Nat → Nat → Nat} {V W : World} (FA : Fam B m x nn (mkA f m 0) W) (SV : Saved (Gx m x) V W) :
    GSt B m nn x W.heap.size V (W.alloc (.cells (madeCells #[.slice none 0 0] m) 23)) 0 8 False 0 x nn (fun _ => .slice none 0 0) := by
  have FA' : Fam B m x nn (fun t _ => t % 256) W := fam_cg8 FA fun t ht l _ => by unfold mkA; rw [if_pos (by omega)]
  refine ⟨⟨(ApN.begin FA').on (belNew W _), SV.below (belNew W _) SV.size, ⟨_, heapNew W _, by simp [madeCells], fun t ht => by simp [madeCells, ht, Nat.mod_one]⟩, SV.size, fun t ht k hk => .inr ⟨t, ht, hk⟩⟩, fun t ht => by rw [if_neg (by omega)]; rfl, fun t _ q => by omega, fun t ht _ => ⟨fun q => q.elim, fun _ => rfl⟩⟩
end Go.Proofs.Ytcibogmghagpoaa.Tap
