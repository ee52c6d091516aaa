import Derived.Test.YtaoncjgllcndmaaDoorD4a
import Derived.Test.YtaoncjgllcndmaaDoorD3s
import Derived.Test.YtaoncjgllcndmaaDoorD3k
namespace Go.Proofs.YtaoncjgllcndmaaDoor.Frm
open Go.RowKit Gf8 Aes By8 Cel
/- Groundwork for FrameFeeds: what lies. -/

theorem own_ne5 {W : World} {B n F t : Nat} {v : Value} {xs : List Value} {c : Array Value} (h : W.ownsRow B 5 1 v n xs) (hr : W.heap[F]? = some (.cells c t)) (ht : t ≠ 5) : some F ≠ v.ownBlock := by
  intro e
  rcases h.2 with ⟨rfl, _⟩ | ⟨g, cap, cur, rfl, hB, hg, _⟩
  · cases e
  · injection e with e
    subst e
    rw [hr] at hg
    exact ht (by simpa using congrArg (fun x => match x with | some (Obj.cells _ t _) => t | _ => 0) hg)
theorem off_own {W : World} {B n F : Nat} {v : Value} {xs : List Value} (h : W.ownsRow B 5 1 v n xs) (hF : F < B) : Off F v := by
  intro ad l c e _ q
  rcases h.2 with ⟨rfl, _⟩ | ⟨g, cap, cur, rfl, hB, _⟩
  · cases e
  · injection e with e1 _ _
    injection e1 with e1
    subst e1
    show False
    have : g = F := q
    omega
theorem row_svG {G : Nat → Prop} {W W' : World} {B n t : Nat} {v : Value} {xs : List Value} (h : W.ownsRow B t 1 v n xs) (sv : Saved G W W') (hG : ∀ g, v.ownBlock = some g → ¬ G g) : W'.ownsRow B t 1 v n xs := by
  refine ⟨h.1, ?_⟩
  rcases h.2 with h | ⟨g, cap, cur, e, hB, hg, h2⟩
  · exact Or.inl h
  · exact Or.inr ⟨g, cap, cur, e, hB, by rw [sv.block g (Array.getElem?_eq_some_iff.1 hg).1 (hG g (by rw [e]; rfl))]; exact hg, h2⟩
theorem CG.svI {A C B k : Nat} {x : Nat → Value} {cb : Nat → Nat → Nat} {cv : Value} {W W' : World} (h : CG B k x cb cv W) (sv : Saved (fun k => A ≤ k ∧ k < C) W W') (hC : C ≤ B) : CG B k x cb cv W' :=
  ⟨row_svG h.own sv (fun g hg q => by have := (h.own.lt g hg).1; have := q.2; omega), ⟨fun t ht => row_svG (h.fam.rows t ht) sv (fun g hg q => by have := ((h.fam.rows t ht).lt g hg).1; have := q.2; omega), h.fam.dis⟩⟩
theorem cg_cells {B k : Nat} {x : Nat → Value} {cb : Nat → Nat → Nat} {cv : Value} {W : World} (h : CG B k x cb cv W) (hb : ∀ i j, i < k → j < 320 → cb i j < 256) : Cells W cv k x (fun _ => 320) cb := by
  refine ⟨?_, fun i hi => own_slice (h.fam.rows i hi) fun j hj => hb i j hi hj, fun i hi => own_nonnil (h.fam.rows i hi) (by omega), fun i _ => by omega⟩
  by_cases h0 : 0 < k
  · obtain ⟨g, cap, rfl, hB, hg, hc⟩ := ownL_cells h.own h0
    have : k ≤ cap ∧ cap < 9223372036854775808 := by
      rcases h.own.2 with ⟨e, _⟩ | ⟨g', cap', cur, e, _, _, h1, h2, _⟩
      · cases e
      · injection e with _ _ e3
        unfold maxLen at h2
        omega
    exact ⟨_, cap, rfl, this.1, this.2, fun _ => ⟨g, 0, rfl, hg, fun i hi => by rw [Nat.zero_add]; have := hc i hi; rw [Nat.zero_add] at this; exact this⟩⟩
  · obtain ⟨ao, cap, rfl⟩ := ownL_shape h.own
    have : k ≤ cap ∧ cap < 9223372036854775808 := by
      rcases h.own.2 with ⟨e, _⟩ | ⟨g', cap', cur, e, _, _, h1, h2, _⟩
      · injection e with _ _ e3
        omega
      · injection e with _ _ e3
        unfold maxLen at h2
        omega
    exact ⟨ao, cap, rfl, this.1, this.2, fun q => absurd q h0⟩
theorem Cells.sub {w : World} {a : Option Addr} {n cap : Nat} {x : Nat → Value} {ln : Nat → Nat} {c : Nat → Nat → Nat} (h : Cells w (.slice a n cap) n x ln c) (l r : Nat) (e : l + r = n) : Cells w (sliced a l n cap 1) r (fun i => x (l + i)) (fun i => ln (l + i)) (fun i => c (l + i)) := by
  obtain ⟨a', cap', e', e1, e2, e3⟩ := id h.shape
  obtain ⟨rfl, _, rfl⟩ : a = a' ∧ n = n ∧ cap = cap' := by
    injection e' with x y z
    exact ⟨x, rfl, z⟩
  have er : n - l = r := by omega
  have S : ∃ a2 cap2, sliced a l n cap 1 = .slice a2 (n - l) cap2 ∧ n - l ≤ cap2 ∧ cap2 < 9223372036854775808 ∧ (0 < n - l → ∃ b off, a2 = some ⟨b, off, none⟩ ∧ b < w.heap.size ∧ ∀ i, i < n - l → w.cell? ⟨b, off + i, none⟩ = some (x (l + i))) := by
    refine ⟨_, cap - l, rfl, by omega, by omega, fun h0 => ?_⟩
    obtain ⟨b, off, rfl, hb, hc⟩ := e3 (by omega)
    rw [if_neg (by omega)]
    refine ⟨b, off + l, ?_, hb, fun j hj => ?_⟩
    · simp [Addr.add]
    · rw [Nat.add_assoc]; exact hc (l + j) (by omega)
  rw [er] at S
  exact ⟨S, fun i hi => h.cell (l + i) (by omega), fun i hi => h.nil (l + i) (by omega), fun i hi => h.lens (l + i) (by omega)⟩
theorem slice_lL (a : Option Addr) (len cap l : Nat) (h1 : l ≤ len) (W : World) : (Instr.sliceAt 24 (.slice a len cap) (some (.int .i64 (l : Int))) none none).run Tryd.prog W = .ok (sliced a l len cap 1) W := by
  have e1 : (l : Int) ≤ len := by omega
  simp [Instr.sliceAt, Instr.slice, run_underlying Tryd.underlying24, Instr.sliceBounds, run_sliceBound, sliced, h1]
theorem execU8F {o : Oper} {a : Act} {w : World} {x : Operand} {n : Nat} (ho : o.op = .convert 3 5 x) (hx : a.eval x = .int .i64 (n : Int)) : (execOp a.eval o).run Tryd.prog w = .ok (.value (.int .u8 ((n % 256 : Nat) : Int))) w := by
  unfold execOp
  simp only [ho, hx]
  simp [go_sem, IntKind.wrap, show IntKind.u8.signed = false from rfl]
theorem one_byte (W : World) (i : Nat) : SliceN (W.alloc (.cells #[.int .u8 ((i % 256 : Nat) : Int)] 5)) (.slice (some ⟨W.heap.size, 0, none⟩) 1 1) (i + 1 - i) (fun j => (i + j) % 256) := by
  rw [Nat.add_sub_cancel_left]
  refine ⟨⟨_, _, rfl, Nat.le_refl _, by omega, fun _ => ⟨W.heap.size, 0, rfl, (Array.getElem?_eq_some_iff.1 (heapNew W _)).1, fun j hj => ?_⟩⟩, fun j hj => by show (i + j) % 256 < 256; omega⟩
  rw [show j = 0 by omega, cell_of_row _ _ _ _ _ _ (heapNew W _)]
  rfl
/-- Two Feeds and the bytes that the first has taken. -/
structure FdS (F1 F2 : Nat) (s1 s2 : FSt) (n : Nat) (q : Nat → Nat) (rv : Value) (V W : World) : Prop where
  f1 : FAt F1 s1 W
  f2 : FAt F2 s2 W
  raw : W.ownsRow V.heap.size 5 1 rv n (bytesL n q)
  bel : Below V.heap.size V W
  l1 : V.heap.size ≤ F1
  l2 : V.heap.size ≤ F2
  ne : F1 ≠ F2
structure LoB (F1 F2 : Nat) (rv : Value) (b : Nat) : Prop where
  f1 : F1 < b
  f2 : F2 < b
  raw : ∀ g, rv.ownBlock = some g → g < b
theorem LoB.mono {F1 F2 : Nat} {rv : Value} {b d : Nat} (h : LoB F1 F2 rv b) (hd : b ≤ d) : LoB F1 F2 rv d := ⟨by have := h.f1; omega, by have := h.f2; omega, fun g hg => by have := h.raw g hg; omega⟩
section
variable {F1 F2 : Nat} {s1 s2 : FSt} {n : Nat} {q : Nat → Nat} {rv : Value} {V W W' : World}
theorem FdS.on (h : FdS F1 F2 s1 s2 n q rv V W) (hb : Below W.heap.size W W') : FdS F1 F2 s1 s2 n q rv V W' :=
  ⟨h.f1.on hb, h.f2.on hb, ownsRow_below h.raw hb, h.bel.trans (hb.mono h.bel.size), h.l1, h.l2, h.ne⟩
theorem FdS.lo (h : FdS F1 F2 s1 s2 n q rv V W) : LoB F1 F2 rv W.heap.size := ⟨h.f1.lt, h.f2.lt, fun g hg => (h.raw.lt g hg).2⟩
theorem FdS.grow (h : FdS F1 F2 s1 s2 n q rv V W) {z : Nat} {v' : Value} (own : W'.ownsRow V.heap.size 5 1 v' z (bytesL z q)) (gr : (v'.ownBlock = rv.ownBlock ∧ W.grownBy W' rv.ownBlock) ∨ (v'.ownBlock = some W.heap.size ∧ W.grownBy W' none)) : FdS F1 F2 s1 s2 z q v' V W' := by
  have g := grown_row gr
  exact ⟨⟨by rw [g.block F1 h.f1.lt (own_ne5 h.raw h.f1.row (by decide))]; exact h.f1.row⟩, ⟨by rw [g.block F2 h.f2.lt (own_ne5 h.raw h.f2.row (by decide))]; exact h.f2.row⟩, own, below_grown h.bel h.bel.size h.raw gr, h.l1, h.l2, h.ne⟩
theorem FdS.put1 {s1' : FSt} (h : FdS F1 F2 s1 s2 n q rv V W) (ft : FTo F1 s1' W W') : FdS F1 F2 s1' s2 n q rv V W' :=
  ⟨ft.at', ⟨by rw [ft.sv.block F2 h.f2.lt (Ne.symm h.ne)]; exact h.f2.row⟩, ownsRow_svT h.raw ft.sv h.f1.row (by decide), h.bel.trans (saved_below ft.sv h.l1 h.bel.size), h.l1, h.l2, h.ne⟩
theorem FdS.put2 {s2' : FSt} (h : FdS F1 F2 s1 s2 n q rv V W) (ft : FTo F2 s2' W W') : FdS F1 F2 s1 s2' n q rv V W' :=
  ⟨⟨by rw [ft.sv.block F1 h.f1.lt h.ne]; exact h.f1.row⟩, ft.at', ownsRow_svT h.raw ft.sv h.f2.row (by decide), h.bel.trans (saved_below ft.sv h.l2 h.bel.size), h.l1, h.l2, h.ne⟩
theorem FdS.low {b : Nat} (h : FdS F1 F2 s1 s2 n q rv V W) (lo : LoB F1 F2 rv b) (hb : Below b W W') (hV : V.heap.size ≤ b) : FdS F1 F2 s1 s2 n q rv V W' :=
  ⟨⟨by rw [hb.block _ lo.f1]; exact h.f1.row⟩, ⟨by rw [hb.block _ lo.f2]; exact h.f2.row⟩, row_onB h.raw lo.raw hb, h.bel.trans (hb.mono hV), h.l1, h.l2, h.ne⟩
end
end Go.Proofs.YtaoncjgllcndmaaDoor.Frm
