import Derived.Test.YthmlfglllhmimaaGreatDoorD1a
import Derived.Test.YthmlfglllhmimaaGreatDoorD2i
namespace Go.Proofs.YthmlfglllhmimaaGreatDoor.Frm
open Go.RowKit Gf8 Aes By8 Cel
/- The reference's Pack. -/

/-- A [][]byte: n lists, the i-th of ln i bytes c i. -/
structure Cells (W : World) (cv : Value) (n : Nat) (xv : Nat → Value) (ln : Nat → Nat) (c : Nat → Nat → Nat) : Prop where
  shape : ∃ a cap, cv = .slice a n cap ∧ n ≤ cap ∧ cap < 9223372036854775808 ∧ (0 < n → ∃ b off, a = some ⟨b, off, none⟩ ∧ b < W.heap.size ∧ ∀ i, i < n → W.cell? ⟨b, off + i, none⟩ = some (xv i))
  cell : ∀ i, i < n → SliceN W (xv i) (ln i) (c i)
  nil : ∀ i, i < n → ∀ l cc, xv i = .slice none l cc → cc = 0
  lens : ∀ i, i < n → ln i ≤ 140737488351232
theorem Cells.on {W W' : World} {cv : Value} {n : Nat} {xv : Nat → Value} {ln : Nat → Nat} {c : Nat → Nat → Nat} (h : Cells W cv n xv ln c) (hb : Below W.heap.size W W') : Cells W' cv n xv ln c := by
  obtain ⟨a, cap, e, h1, h2, h3⟩ := h.shape
  refine ⟨⟨a, cap, e, h1, h2, fun h0 => ?_⟩, fun i hi => (h.cell i hi).on hb, h.nil, h.lens⟩
  obtain ⟨b, off, e2, hl, hc⟩ := h3 h0
  exact ⟨b, off, e2, Nat.lt_of_lt_of_le hl hb.size, fun i hi => by rw [cell_below hb hl]; exact hc i hi⟩
theorem Cells.one {W : World} {cv : Value} {n : Nat} {xv : Nat → Value} {ln : Nat → Nat} {c : Nat → Nat → Nat} (h : Cells W cv n xv ln c) : cv.oneCell' = true := by
  obtain ⟨a, cap, rfl, _⟩ := h.shape
  rfl
/-- Are the header's numbers in their ranges? -/
def hdOk (rd ep lf : Int) : Bool := decide (0 ≤ lf) && decide (lf ≤ 8) && decide (0 ≤ rd) && decide (rd < 4611686018427387904) && decide (0 ≤ ep) && decide (ep ≤ 4611686018427387904)
/-- Is each cell of 320 bytes? -/
def allC (n : Nat) (ln : Nat → Nat) : Bool := (List.range n).all fun i => ln i == 320
theorem allC_iff (n : Nat) (ln : Nat → Nat) : allC n ln = true ↔ ∀ i, i < n → ln i = 320 := by
  unfold allC
  simp [List.all_eq_true]
def packE (rd ep lf : Int) (n : Nat) (ln : Nat → Nat) : Nat := if hdOk rd ep lf then (if n ≤ 256 then (if allC n ln then 0 else 64) else 63) else 62
def packN (rd ep lf : Int) (n : Nat) (ln : Nat → Nat) : Nat := if packE rd ep lf n ln = 0 then cellAt n + 4 else 0
def packI (rd ep lf : Int) (n : Nat) (c : Nat → Nat → Nat) : Nat → Nat := packF rd.toNat ep.toNat lf.toNat n c
def hC (rd ep lf : Int) : Array Value := #[.int .i64 rd, .int .i64 ep, .int .i64 lf]
theorem zeroH : ∀ w, (zeroValue 23).run Tryz.prog w = .ok (.agg (hC 0 0 0)) w := by
  intro w
  simp [go_sem, hC]
/-- Pack's rows. -/
structure PS (A : Nat) (rd ep lf : Int) (cv : Value) (V W : World) : Prop where
  b : W.heap[A]? = some (.cells (bC rd ep lf cv) 46)
  h : W.heap[A + 1]? = some (.cells (hC rd ep lf) 23)
  bel : Below A V W
theorem PS.on {A : Nat} {rd ep lf : Int} {cv : Value} {V W W' : World} (h : PS A rd ep lf cv V W) (hb : Below W.heap.size W W') : PS A rd ep lf cv V W' := by
  have l1 := (Array.getElem?_eq_some_iff.1 h.b).1
  have l2 := (Array.getElem?_eq_some_iff.1 h.h).1
  exact ⟨by rw [hb.block _ l1]; exact h.b, by rw [hb.block _ l2]; exact h.h, h.bel.trans (hb.mono (by omega))⟩
theorem PS.grown {A : Nat} {rd ep lf : Int} {cv : Value} {V W W' : World} (h : PS A rd ep lf cv V W) {n : Nat} {v : Value} {xs : List Value} (own : W.ownsRow A 5 1 v n xs) (hg : W.grownBy W' v.ownBlock) : PS A rd ep lf cv V W' := by
  have l1 := (Array.getElem?_eq_some_iff.1 h.b).1
  have l2 := (Array.getElem?_eq_some_iff.1 h.h).1
  exact ⟨by rw [hg.block _ l1 (own_ne own h.b (by decide))]; exact h.b, by rw [hg.block _ l2 (own_ne own h.h (by decide))]; exact h.h, h.bel.grown hg (by omega) (fun k hk => (own.lt k hk).1)⟩
theorem PS.cells {A : Nat} {rd ep lf : Int} {cv : Value} {V W : World} (h : PS A rd ep lf cv V W) : W.cell? ⟨A, 3, none⟩ = some cv ∧ W.cell? ⟨A + 1, 0, none⟩ = some (.int .i64 rd) ∧ W.cell? ⟨A + 1, 1, none⟩ = some (.int .i64 ep) ∧ W.cell? ⟨A + 1, 2, none⟩ = some (.int .i64 lf) := by
  refine ⟨?_, ?_, ?_, ?_⟩
  · rw [cell_of_row _ _ _ _ _ _ h.b]; rfl
  · rw [cell_of_row _ _ _ _ _ _ h.h]; rfl
  · rw [cell_of_row _ _ _ _ _ _ h.h]; rfl
  · rw [cell_of_row _ _ _ _ _ _ h.h]; rfl
theorem range_bh {W : World} {A : Nat} {rd ep lf : Int} {cv : Value} {t : TypeId} (h : W.heap[A]? = some (.cells (bC rd ep lf cv) t)) : W.rangeAt A 0 [.int .i64 rd, .int .i64 ep, .int .i64 lf] := by
  intro j u hu
  rw [cell_of_row _ _ _ _ _ _ h]
  match j, hu with
  | 0, hu => exact hu
  | 1, hu => exact hu
  | 2, hu => exact hu
theorem execStHd {o : Oper} {a : Act} {w : World} {x y : Operand} {g : Nat} {r0 e0 l0 rd ep lf : Int} {t : TypeId} (ho : o.op = .store 23 x y) (hx : a.eval x = .pointer (some ⟨g, 0, none⟩)) (hy : a.eval y = .agg (hC rd ep lf)) (hg : w.heap[g]? = some (.cells (hC r0 e0 l0) t)) :
    (execOp a.eval o).run Tryz.prog w = .ok .skip (w.setRow g (hC rd ep lf)) :=
  execStMid ho hx hy hg (by show 0 + 3 ≤ 3; decide) (by kernel_rfl) (by simp [hC, Value.oneCell'])

/-- Pack's first rows. -/
theorem ps_new (V : World) (rd ep lf : Int) (cv : Value) : PS V.heap.size rd ep lf cv V (((V.alloc (.cells (bC rd ep lf cv) 46)).alloc (.cells (hC 0 0 0) 23)).setRow (V.heap.size + 1) (hC rd ep lf)) := by
  have h := heap2c V (.cells (bC rd ep lf cv) 46) (.cells (hC 0 0 0) 23)
  exact ⟨by rw [setRow_other _ _ _ _ (by omega)]; exact h.1, setRow_heap _ _ _ _ _ _ h.2, below4 (below2c V _ _) (by omega) _⟩
end Go.Proofs.YthmlfglllhmimaaGreatDoor.Frm

namespace Go.Proofs.YthmlfglllhmimaaGreatDoor.Frm
open Go.RowKit Gf8 Aes By8 Cel
/- Header, End, Read. -/

theorem FAt.hd {F : Nat} {s : FSt} {W : World} (h : FAt F s W) : W.rangeAt F 325 [.int .i64 s.rd, .int .i64 s.ep, .int .i64 s.lf] := by
  intro j v hv
  match j, hv with
  | 0, hv => exact h.rd.trans hv
  | 1, hv => exact h.ep.trans hv
  | 2, hv => exact h.lf.trans hv
/-- What End tells. -/
def endP (s : FSt) : Nat × Nat := if s.ft ≠ 0 then (s.pl, s.ft) else if s.f = 9 then (0, 0) else (s.pl + s.hv, 67)
set_option maxRecDepth 20000 in
theorem end_any (F : Nat) (s : FSt) (V : World) (h : FAt F s V) (hl : s.ft = 0 → s.pl + s.hv ≤ 140737488355328) : Calls Tryz.prog 32 #[.pointer (some ⟨F, 0, none⟩)] V fun e w' => e = .returned (.tuple #[.int .i64 ((endP s).1 : Nat), .int .i64 ((endP s).2 : Nat)]) ∧ Below V.heap.size V w' := by
  have c0 := h.c0
  have c1 := h.ft
  have c2 := h.pl
  have c3 := h.hv
  unfold endP
  by_cases h1 : s.ft ≠ 0
  · have i1 : ((s.ft : Int) != 0) = true := by simp; omega
    rw [if_pos h1]
    clear h1 h hl
    go_enter Tryz.func32, Tryz.ntmps32
    go_wp2_with fail
    go_quiet (fail)
    go_wp2
    go_ret2
    exact ⟨rfl, belowD (Below.refl _ _) _⟩
  · have i1 : ((s.ft : Int) != 0) = false := by simp; omega
    rw [if_neg h1]
    by_cases h9 : s.f = 9
    · have i2 : (s.f : Int) = 9 := by omega
      rw [if_pos h9]
      clear h1 h h9 hl
      go_enter Tryz.func32, Tryz.ntmps32
      go_wp2
      go_ret2
      exact ⟨rfl, Below.refl _ _⟩
    · have i2 : ¬ (s.f : Int) = 9 := by omega
      have i3 : (s.pl : Int) + s.hv ≤ 140737488355328 := by have := hl (by omega); omega
      rw [if_neg h9]
      clear h1 h h9 hl
      go_enter Tryz.func32, Tryz.ntmps32
      go_wp2_with fail
      go_quiet (fail)
      go_wp2
      go_ret2
      exact ⟨rfl, belowD (Below.refl _ _) _⟩
/-- End tells what judging comes to. -/
theorem Took.ends {q : Nat → Nat} {n k : Nat} {s : FSt} (h : Took q n k s) (hb : ∀ j, j < n → q j < 256) : endP s = jE q n := by
  obtain ⟨_, _, a, b, _, c⟩ := h.tells hb
  unfold endP
  by_cases e : s.ft ≠ 0
  · rw [if_pos e, b e]
  · rw [if_neg e, a (by omega), c (by omega)]
theorem Took.le {q : Nat → Nat} {n k : Nat} {s : FSt} (h : Took q n k s) (h0 : s.ft = 0) : s.pl + s.hv = n := by
  rcases h.or with ⟨_, h2, _⟩ | ⟨_, h3, _⟩
  · exact h2
  · exact absurd h0 h3
theorem end_took (F : Nat) (s : FSt) (q : Nat → Nat) (n k : Nat) (V : World) (h : FAt F s V) (tk : Took q n k s) (hb : ∀ j, j < n → q j < 256) (hn : n ≤ 140737488351232) : Calls Tryz.prog 32 #[.pointer (some ⟨F, 0, none⟩)] V fun e w' => e = .returned (.tuple #[.int .i64 ((jE q n).1 : Nat), .int .i64 ((jE q n).2 : Nat)]) ∧ Below V.heap.size V w' := by
  have := end_any F s V h (fun e => by have := tk.le e; omega)
  rw [tk.ends hb] at this
  exact this
theorem saved_below {F B : Nat} {V W : World} (h : Saved (fun k => k = F) V W) (hF : B ≤ F) (hB : B ≤ V.heap.size) : Below B V W :=
  ⟨h.os, h.tape, h.output, h.size, fun k hk => h.block k (by omega) (by omega)⟩
theorem CG.base {B C k : Nat} {x : Nat → Value} {cb : Nat → Nat → Nat} {cv : Value} {W : World} (h : CG C k x cb cv W) (hB : B ≤ C) : CG B k x cb cv W := ⟨ownL_base h.own hB, ⟨fun t ht => own_base (h.fam.rows t ht) hB, h.fam.dis⟩⟩
theorem CG.sub {B k k' : Nat} {x : Nat → Value} {p : Nat → Nat} {cv : Value} {W : World} (h : CG B k x (fun i => cellB p (0 + i)) cv W) (e : k = k') : CL B k' x p cv W := by
  subst e
  refine ⟨h.own, ⟨fun t ht => ?_, h.fam.dis⟩⟩
  have := h.fam.rows t ht
  rw [Nat.zero_add] at this
  exact this
set_option maxRecDepth 20000 in
set_option maxHeartbeats 1000000 in
theorem pread_any (p : Nat → Nat) (len : Nat) (v : Value) (V : World) (g : Rules V) (hv : SliceN V v len p) (hl : len ≤ 140737488351232) :
    Calls Tryz.prog 17 #[v] V fun e w' => ∃ cv x, e = .returned (.tuple #[.agg (bC (rRound p len) (rEpoch p len) (rLeft p len) cv), .int .i64 (jE p len).1, .int .i64 (jE p len).2]) ∧ CL V.heap.size (rK p len) x p cv w' ∧ Below V.heap.size V w' := by
  have z := zeroB
  have b0 := belNew V (.cells (bC 0 0 0 (.slice none 0 0)) 46)
  have h00 := heapNew V (.cells (bC 0 0 0 (.slice none 0 0)) 46)
  obtain ⟨V0, hV0⟩ : ∃ V0, V.alloc (.cells (bC 0 0 0 (.slice none 0 0)) 46) = V0 := ⟨_, rfl⟩
  rw [hV0] at b0 h00
  have sz0 : V.heap.size < V0.heap.size := by rw [← hV0]; simp
  have HB : Hid (Rules V0 ∧ SliceN V0 v len p ∧ (∀ j, j < len → p j < 256) ∧ len ≤ 140737488351232 ∧ V.heap.size < V0.heap.size ∧ Below V.heap.size V V0 ∧ True ∧ V0.heap[V.heap.size]? = some (.cells (bC 0 0 0 (.slice none 0 0)) 46)) := ⟨g.on b0 g.sz, hv.on b0, hv.bytes, hl, sz0, b0, trivial, h00⟩
  have HV : Hid (V.alloc (.cells (bC 0 0 0 (.slice none 0 0)) 46) = V0) := hV0
  clear g hv hl b0 h00 hV0 sz0
  obtain ⟨E, hE⟩ : ∃ E, jE p len = E := ⟨_, rfl⟩
  by_cases e0 : E.2 = 0
  · have i1 : ((E.2 : Int) != 0) = false := by simp; omega
    go_enter Tryz.func17, Tryz.ntmps17
    go_wp2_with (first
      | (go_at_call 30; rw [HV.out]; refine (new_any V0).mono ?_; rintro e w1 ⟨F, rfl, hF, fa, b1⟩; have N1 : Hid (V0.heap.size ≤ F ∧ FAt F newS w1 ∧ Below V0.heap.size V0 w1) := ⟨hF, fa, b1⟩; clear hF fa b1)
      | (go_at_call 31; refine (put_any F newS p 0 len 0 v w1 N1.out.2.1 (HB.out.1.on N1.out.2.2 (by have := HB.out.2.2.2.2.1; omega)) (by have := HB.out.2.2.2.2.1; have := N1.out.1; omega) (Took.begin p) (Nat.zero_le _) (sliceN_cg (HB.out.2.1.on N1.out.2.2) fun j _ => by rw [Nat.zero_add]) (off_of HB.out.2.1 N1.out.1) HB.out.2.2.1 HB.out.2.2.2.1).mono ?_; rintro e w2 ⟨cv, x, s, c, rfl, cg, ft, tk⟩; obtain ⟨ac, cc, rfl⟩ := ownL_shape cg.own; have P2 : Hid (CG w1.heap.size c x (fun i => cellB p (0 + i)) (.slice ac c cc) w2 ∧ FTo F s w1 w2 ∧ Took p len (0 + c) s) := ⟨cg, ft, tk⟩; clear cg ft tk)
      | (go_at_call 32; refine (end_took F s p len (0 + c) w2 P2.out.2.1.at' P2.out.2.2 HB.out.2.2.1 HB.out.2.2.2.1).mono ?_; rw [hE]; rintro e w3 ⟨rfl, b3⟩; have r0 : w3.heap[V.heap.size]? = some (.cells (bC 0 0 0 (.slice none 0 0)) 46) := (by have l0 := HB.out.2.2.2.2.1; have l1 := N1.out.2.2.size; have l2 := P2.out.2.1.sv.size; rw [b3.block _ (by omega), P2.out.2.1.sv.block _ (by omega) (by have := N1.out.1; omega), N1.out.2.2.block _ l0]; exact HB.out.2.2.2.2.2.2.2); have R0 : Hid (_) := r0; have F3 : Hid (FAt F s w3) := P2.out.2.1.at'.on b3; have B3 : Hid (Below w2.heap.size w2 w3) := b3; clear r0 b3)
      | (refine atLoad 23 (.tmp 29) rfl ?_; go_must (refine wpList_ex rfl (execLoadMid (cs := [.int .i64 s.rd, .int .i64 s.ep, .int .i64 s.lf]) rfl rfl F3.out.hd Tryz.underlying23 rfl (by kernel_rfl)) ?_))
      | (refine wpList_ex rfl (execB2 (rd := s.rd) (ep := s.ep) (lf := s.lf) (ao := ac) (n := c) (c := cc) rfl rfl rfl) ?_)
      | (refine atStore 46 (.tmp 2) (.tmp 32) rfl ?_; go_must (refine wpList_exS rfl (execStBt (cv := .slice ac c cc) (rd := s.rd) (ep := s.ep) (lf := s.lf) rfl rfl rfl R0.out rfl) ?_)))
    refine bodyPost_ret (results_cell_tmp2 Tryz.results17 _ _ V.heap.size 46 _ (0, 0) _ rfl (setRow_heap _ _ _ (bC s.rd s.ep s.lf (.slice ac c cc)) _ _ R0.out) Tryz.underlying46 rfl (sizeB _ _ _ _)) rfl ?_
    obtain ⟨cg, ft, tk⟩ := P2.out
    have te := tk.ends HB.out.2.2.1
    rw [hE] at te
    obtain ⟨h0, h9⟩ : s.ft = 0 ∧ s.f = 9 := by
      unfold endP at te
      by_cases q1 : s.ft ≠ 0
      · rw [if_pos q1] at te
        rw [← te] at e0
        exact absurd e0 q1
      · rw [if_neg q1] at te
        by_cases q2 : s.f = 9
        · exact ⟨by omega, q2⟩
        · rw [if_neg q2] at te
          rw [← te] at e0
          cases e0
    obtain ⟨t1, t2, _⟩ := tk.tells HB.out.2.2.1
    rw [h9, decide_eq_true (by omega)] at t2
    have o1 : okR p len = true := by unfold okR; rw [hE, e0]; rfl
    have r1 : rRound p len = s.rd := by unfold rRound jRound; rw [if_pos o1, if_pos t2]; exact (tk.rd (by omega)).symm
    have r2 : rEpoch p len = s.ep := by unfold rEpoch jEpoch; rw [if_pos o1, if_pos t2]; exact (tk.ep (by omega)).symm
    have r3 : rLeft p len = s.lf := by unfold rLeft jLeft; rw [if_pos o1, if_pos t2]; exact (tk.lf (by omega)).symm
    have r4 : rK p len = 0 + c := by unfold rK; rw [if_pos o1]; exact t1
    have eE : E = (0, 0) := by rw [← hE]; exact jE_ok (by rw [hE]; exact e0)
    rw [r1, r2, r3, r4, hE, eE]
    have l1 := N1.out.2.2.size
    have cl : CL V.heap.size (0 + c) x p (.slice ac c cc) w2 := (cg.base (by have := HB.out.2.2.2.2.1; omega)).sub (Nat.zero_add c).symm
    have b2 : Below V.heap.size V w2 := HB.out.2.2.2.2.2.1.trans ((N1.out.2.2.mono (by have := HB.out.2.2.2.2.1; omega)).trans (saved_below ft.sv (by have := HB.out.2.2.2.2.1; have := N1.out.1; omega) (by have := HB.out.2.2.2.2.1; omega)))
    exact ⟨_, x, rfl, (cl.on B3.out).rowT R0.out (by decide) (by decide) _, below4 (b2.trans (B3.out.mono b2.size)) (Nat.le_refl _) _⟩
  · have i1 : ((E.2 : Int) != 0) = true := by simp; omega
    go_enter Tryz.func17, Tryz.ntmps17
    go_wp2_with (first
      | (go_at_call 30; rw [HV.out]; refine (new_any V0).mono ?_; rintro e w1 ⟨F, rfl, hF, fa, b1⟩; have N1 : Hid (V0.heap.size ≤ F ∧ FAt F newS w1 ∧ Below V0.heap.size V0 w1) := ⟨hF, fa, b1⟩; clear hF fa b1)
      | (go_at_call 31; refine (put_any F newS p 0 len 0 v w1 N1.out.2.1 (HB.out.1.on N1.out.2.2 (by have := HB.out.2.2.2.2.1; omega)) (by have := HB.out.2.2.2.2.1; have := N1.out.1; omega) (Took.begin p) (Nat.zero_le _) (sliceN_cg (HB.out.2.1.on N1.out.2.2) fun j _ => by rw [Nat.zero_add]) (off_of HB.out.2.1 N1.out.1) HB.out.2.2.1 HB.out.2.2.2.1).mono ?_; rintro e w2 ⟨cv, x, s, c, rfl, cg, ft, tk⟩; obtain ⟨ac, cc, rfl⟩ := ownL_shape cg.own; have P2 : Hid (CG w1.heap.size c x (fun i => cellB p (0 + i)) (.slice ac c cc) w2 ∧ FTo F s w1 w2 ∧ Took p len (0 + c) s) := ⟨cg, ft, tk⟩; clear cg ft tk)
      | (go_at_call 32; refine (end_took F s p len (0 + c) w2 P2.out.2.1.at' P2.out.2.2 HB.out.2.2.1 HB.out.2.2.2.1).mono ?_; rw [hE]; rintro e w3 ⟨rfl, b3⟩; have r0 : w3.heap[V.heap.size]? = some (.cells (bC 0 0 0 (.slice none 0 0)) 46) := (by have l0 := HB.out.2.2.2.2.1; have l1 := N1.out.2.2.size; have l2 := P2.out.2.1.sv.size; rw [b3.block _ (by omega), P2.out.2.1.sv.block _ (by omega) (by have := N1.out.1; omega), N1.out.2.2.block _ l0]; exact HB.out.2.2.2.2.2.2.2); have R0 : Hid (_) := r0; have F3 : Hid (FAt F s w3) := P2.out.2.1.at'.on b3; have B3 : Hid (Below w2.heap.size w2 w3) := b3; clear r0 b3)
      | (refine wpList_ex rfl (execB0 rfl) ?_)
      | (refine atStore 46 (.tmp 2) (.tmp 24) rfl ?_; go_must (refine wpList_exS rfl (execStBt (cv := .slice none 0 0) (rd := 0) (ep := 0) (lf := 0) rfl rfl rfl R0.out rfl) ?_)))
    refine bodyPost_ret (results_cell_tmp2 Tryz.results17 _ _ V.heap.size 46 _ (0, 0) _ rfl (setRow_heap _ _ _ (bC 0 0 0 (.slice none 0 0)) _ _ R0.out) Tryz.underlying46 rfl (sizeB _ _ _ _)) rfl ?_
    obtain ⟨cg, ft, tk⟩ := P2.out
    have o1 : okR p len = false := by unfold okR; rw [hE]; simp; omega
    have r1 : rRound p len = 0 := by unfold rRound; rw [o1]; rfl
    have r2 : rEpoch p len = 0 := by unfold rEpoch; rw [o1]; rfl
    have r3 : rLeft p len = 0 := by unfold rLeft; rw [o1]; rfl
    have r4 : rK p len = 0 := by unfold rK; rw [o1]; rfl
    rw [r1, r2, r3, r4, hE]
    have l1 := N1.out.2.2.size
    have b2 : Below V.heap.size V w2 := HB.out.2.2.2.2.2.1.trans ((N1.out.2.2.mono (by have := HB.out.2.2.2.2.1; omega)).trans (saved_below ft.sv (by have := HB.out.2.2.2.2.1; have := N1.out.1; omega) (by have := HB.out.2.2.2.2.1; omega)))
    exact ⟨_, x, rfl, CL.none _ _ _ _, below4 (b2.trans (B3.out.mono b2.size)) (Nat.le_refl _) _⟩
end Go.Proofs.YthmlfglllhmimaaGreatDoor.Frm

namespace Go.Proofs.YthmlfglllhmimaaGreatDoor.Frm
open Go.RowKit Gf8 Aes By8 Cel
/- withNumber, sound, the closure of packed. -/

/-- A list of one's own has grown, it alone: from (v, W) to (v', W'). -/
structure Grew (B : Nat) (v : Value) (W : World) (v' : Value) (W' : World) : Prop where
  sv : Saved (fun k => v.ownBlock = some k) W W'
  to : v'.ownBlock = v.ownBlock ∨ ∃ k, v'.ownBlock = some k ∧ W.heap.size ≤ k
theorem Grew.refl (B : Nat) (v : Value) (W : World) : Grew B v W v W := ⟨Saved.refl _ _, Or.inl rfl⟩
theorem Grew.new {B : Nat} {v v' : Value} {W W' : World} (h : Grew B v W v' W') (o : Obj) : Grew B v W v' (W'.alloc o) := ⟨h.sv.below (belNew W' o) h.sv.size, h.to⟩
theorem Grew.step {B : Nat} {v v' v'' : Value} {W W' W'' : World} (h : Grew B v W v' W') (hg : (v''.ownBlock = v'.ownBlock ∧ W'.grownBy W'' v'.ownBlock) ∨ (v''.ownBlock = some W'.heap.size ∧ W'.grownBy W'' none)) : Grew B v W v'' W'' := by
  refine ⟨h.sv.grown (grown_row hg) fun k hk => ?_, ?_⟩
  · rcases h.to with e | ⟨k', e, hk'⟩
    · exact Or.inr (by rw [← e]; exact hk)
    · rw [e] at hk
      injection hk with hk
      exact Or.inl (by omega)
  · rcases hg with ⟨e, _⟩ | ⟨e, _⟩
    · rw [e]; exact h.to
    · exact Or.inr ⟨_, e, h.sv.size⟩
theorem Grew.trans {B : Nat} {v v' v'' : Value} {W W' W'' : World} (h : Grew B v W v' W') (h' : Grew B v' W' v'' W'') : Grew B v W v'' W'' := by
  refine ⟨⟨h'.sv.os.trans h.sv.os, h'.sv.tape.trans h.sv.tape, h'.sv.output.trans h.sv.output, Nat.le_trans h.sv.size h'.sv.size, fun k hk hG => ?_⟩, ?_⟩
  · rw [h'.sv.block k (Nat.lt_of_lt_of_le hk h.sv.size) ?_, h.sv.block k hk hG]
    intro e
    rcases h.to with e1 | ⟨k', e1, hk'⟩
    · exact hG (by rw [← e1]; exact e)
    · rw [e1] at e
      injection e with e
      omega
  · rcases h'.to with e | ⟨k, e, hk⟩
    · rw [e]; exact h.to
    · exact Or.inr ⟨k, e, Nat.le_trans h.sv.size hk⟩
set_option maxRecDepth 20000 in
set_option maxHeartbeats 400000 in
theorem with_any (n k m B : Nat) (p : Nat → Nat) (v : Value) (V : World) (hn : n < 18446744073709551616) (hk : k ≤ 8) (hv : V.ownsRow B 5 1 v m (bytesL m p)) (hB : B ≤ V.heap.size) (hm : m ≤ 100000000) (hp : ∀ j, j < k → p (m + j) = numF n k j) :
    Calls Tryz.prog 43 #[v, .int .u64 n, .int .i64 k] V fun e w' => ∃ r, e = .returned r ∧ w'.ownsRow B 5 1 r (m + k) (bytesL (m + k) p) ∧ Grew B v V r w' := by
  have HN : Hid (n < 18446744073709551616 ∧ k ≤ 8 ∧ m ≤ 100000000 ∧ B ≤ V.heap.size ∧ V.ownsRow B 5 1 v m (bytesL m p) ∧ ∀ j, j < k → p (m + j) = numF n k j) := ⟨hn, hk, hm, hB, hv, hp⟩
  have lk : (k : Int) ≤ 8 := by omega
  have ln : (n : Int) < 18446744073709551616 := by omega
  clear hn hk hv hB hm hp
  go_enter Tryz.func43, Tryz.ntmps43
  go_wp2_with fail
  go_loopw [0, 7] (fun u x W => ∃ j : Nat, j ≤ k ∧ x = .int .i64 ((k : Int) - 1 - j) ∧ W.ownsRow B 5 1 u (m + j) (bytesL (m + j) p) ∧ Grew B v V u W) (fun u _ _ => m + k - lenV u)
  case atStart => exact ⟨0, Nat.zero_le _, by go_num, HN.out.2.2.2.2.1, Grew.refl _ _ _⟩
  case round =>
    obtain ⟨j, hj, rfl, own, gr⟩ := hrel
    obtain ⟨ao, cp, rfl⟩ := own_shapeJ own
    by_cases hlt : j < k
    · obtain ⟨i, hi⟩ : ∃ i : Nat, k - 1 - j = i := ⟨_, rfl⟩
      have e1 : (k : Int) - 1 - j = i := by omega
      rw [e1]
      have i1 : (i : Int) ≥ 0 := by omega
      have i2 : (i : Int) ≤ 7 := by omega
      have HK : Hid (j < k ∧ k - 1 - j = i) := ⟨hlt, hi⟩
      have OW : Hid (_) := own
      have GR : Hid (Grew B v V _ wr) := gr
      clear own gr hj hlt hi e1
      have EQ : Hid ((n : Int) / 2 ^ (8 * i) % 256 = (p (m + j) : Nat)) := by
        show (n : Int) / 2 ^ (8 * i) % 256 = (p (m + j) : Nat)
        rw [HN.out.2.2.2.2.2 j HK.out.1]
        unfold numF
        rw [HK.out.2, show (256 : Nat) ^ i = 2 ^ (8 * i) by rw [show (256 : Nat) = 2 ^ 8 from rfl, ← Nat.pow_mul]]
        simp
      go_wp2_with (refine atAppB (.tmp 14) (.tmp 20) rfl ?_; go_must (rw [EQ.out]; refine wpList_appP (B := B) (n := m + j) (g := wr.heap.size) (p := p) rfl (.tmp 14) (.tmp 20) rfl rfl rfl (ownsRow_below OW.out (belNew wr _)) (heapNew wr _) (by have := HK.out; have := HN.out; omega) (by have := GR.out.sv.size; have := HN.out.2.2.2.1; simp; omega) ?_; intro u2 W2 own2 g2; have G2 : Hid (_) := (GR.out.new (.cells #[.int .u8 (p (m + j) : Nat)] 5)).step g2; obtain ⟨a2, c2, rfl⟩ := own_shapeJ own2; clear g2))
      go_roundw
      case rel => exact ⟨j + 1, by have := HK.out; omega, by have := HK.out; have := HN.out; go_num, own2, G2.out⟩
      case measure => have := HK.out; show m + k - (m + j + 1) < m + k - (m + j); omega
    · have ek : j = k := by omega
      subst ek
      rw [show ((j : Int) - 1 - j) = -1 by omega]
      have OW : Hid (_) := own
      have GR : Hid (Grew B v V _ wr) := gr
      clear own gr
      go_wp2
      go_ret
      exact ⟨_, rfl, OW.out, GR.out⟩
set_option maxRecDepth 20000 in
set_option maxHeartbeats 400000 in
theorem sound_any (rd ep lf : Int) (V : World) : Calls Tryz.prog 26 #[.agg (hC rd ep lf)] V fun e w' => e = .returned (.bool (hdOk rd ep lf)) ∧ Below V.heap.size V w' := by
  have h1 := heapNew V (.cells (hC rd ep lf) 23)
  have c0 : (V.alloc (.cells (hC rd ep lf) 23)).cell? ⟨V.heap.size, 0, none⟩ = some (.int .i64 rd) := by rw [cell_of_row _ _ _ _ _ _ h1]; rfl
  have c1 : (V.alloc (.cells (hC rd ep lf) 23)).cell? ⟨V.heap.size, 1, none⟩ = some (.int .i64 ep) := by rw [cell_of_row _ _ _ _ _ _ h1]; rfl
  have c2 : (V.alloc (.cells (hC rd ep lf) 23)).cell? ⟨V.heap.size, 2, none⟩ = some (.int .i64 lf) := by rw [cell_of_row _ _ _ _ _ _ h1]; rfl
  clear h1
  go_enter Tryz.func26, Tryz.ntmps26
  have HO : Hid (hdOk rd ep lf = true ↔ 0 ≤ lf ∧ lf ≤ 8 ∧ 0 ≤ rd ∧ rd ≤ 4611686018427387903 ∧ 0 ≤ ep ∧ ep ≤ 4611686018427387904) := by
    show hdOk rd ep lf = true ↔ 0 ≤ lf ∧ lf ≤ 8 ∧ 0 ≤ rd ∧ rd ≤ 4611686018427387903 ∧ 0 ≤ ep ∧ ep ≤ 4611686018427387904
    unfold hdOk
    simp
    omega
  go_wp2
  all_goals
    go_ret
    refine ⟨?_, belNew _ _⟩
    show Ending.returned (Value.bool _) = _
    refine congrArg (fun b => Ending.returned (Value.bool b)) ?_
    rw [Bool.eq_iff_iff, HO.out]
    simp
    try omega
end Go.Proofs.YthmlfglllhmimaaGreatDoor.Frm
