import Derived.Test.YtaoncjgllcndmaaDoorD3r
namespace Go.Proofs.YtaoncjgllcndmaaDoor.Frm
open Go.RowKit Gf8 Aes By8 Cel
/- FramePacks. -/

theorem Cells.cg {W : World} {cv : Value} {n : Nat} {xv : Nat → Value} {ln lm : Nat → Nat} {c d : Nat → Nat → Nat} (h : Cells W cv n xv ln c) (e : ∀ i, i < n → ln i = lm i) (f : ∀ i j, i < n → j < ln i → c i j = d i j) : Cells W cv n xv lm d :=
  ⟨h.shape, fun i hi => by have := sliceN_cg (h.cell i hi) (q := d i) (fun j hj => f i j hi hj); rw [e i hi] at this; exact this, h.nil, fun i hi => by rw [← e i hi]; exact h.lens i hi⟩
theorem pack_lt {rd ep lf : Int} {n : Nat} {ln : Nat → Nat} {c : Nat → Nat → Nat} (hc : ∀ i j, i < n → j < ln i → c i j < 256) : ∀ j, j < packN rd ep lf n ln → packI rd ep lf n c j < 256 := by
  intro j hj
  by_cases e0 : packE rd ep lf n ln = 0
  · obtain ⟨rn, en, lnn, er, ee, el, gd, hal, hN⟩ := packE_ok e0
    rw [hN] at hj
    rw [er, ee, el]
    show packF rn en lnn n c j < 256
    by_cases h : j < cellAt n
    · rw [packF_in _ _ _ _ _ h]
      exact packB_lt _ _ _ _ _ (by have := gd.lf; omega) (fun a b ha hb => hc a b ha (by rw [hal a ha]; exact hb)) h
    · obtain ⟨i, rfl⟩ : ∃ i, j = cellAt n + i := ⟨j - cellAt n, by omega⟩
      rw [packF_foot]
      exact footF_lt _ _ _
  · unfold packN at hj
    rw [if_neg e0] at hj
    omega
/-- What the region that lays the copy knows. -/
def pcT (A : Nat) (rd ep lf : Int) (n : Nat) (cv : Value) (ln : Nat → Nat) (c : Nat → Nat → Nat) (V1 : World) (l : Nat → Bool) (x : Nat → Value) (W : World) : Prop :=
  (l 0 = true → x 0 = .pointer (some ⟨A, 0, none⟩)) ∧ (l 1 = true → x 1 = .agg (hC rd ep lf)) ∧ (l 2 = true → x 2 = .pointer (some ⟨A, 3, none⟩)) ∧ (l 3 = true → x 3 = cv) ∧ (l 4 = true → ∃ xx, CF V1.heap.size n xx ln c (x 4) W) ∧ (l 5 = true → x 5 = .agg (bC rd ep lf (x 4))) ∧
  (l 6 = true → ∃ I, x 6 = .pointer (some ⟨I, 0, none⟩) ∧ V1.heap.size ≤ I ∧ (l 7 = false → W.heap[I]? = some (.cells (bC 0 0 0 (.slice none 0 0)) 26)) ∧ (l 7 = true → W.heap[I]? = some (.cells (bC rd ep lf (x 4)) 26))) ∧ Below V1.heap.size V1 W
def pN (n : Nat) (ln : Nat → Nat) (N t : Nat) : Nat := if t < n then ln t else N
def pF (n : Nat) (c : Nat → Nat → Nat) (w : Nat → Nat) (t : Nat) : Nat → Nat := if t < n then c t else w
/-- p written over up to j; in's cells turned up to byte k of cell i. -/
def fA (n : Nat) (c : Nat → Nat → Nat) (w : Nat → Nat) (j t : Nat) : Nat → Nat := fun l => if t = n + 1 ∧ l < j then 85 else pF n c w t l
def fB (n : Nat) (c : Nat → Nat → Nat) (w : Nat → Nat) (i k t : Nat) : Nat → Nat := fun l => if t < n ∧ (t < i ∨ (t = i ∧ l < k)) then c t l ^^^ 170 else pF n c w t l
theorem four85 {l : Nat} (h : l < 4) : (#[Value.int .u8 85, .int .u8 85, .int .u8 85, .int .u8 85] : Array Value)[0 + l]? = some (.int .u8 ((85 : Nat) : Int)) := by
  match l, h with
  | 0, _ => rfl
  | 1, _ => rfl
  | 2, _ => rfl
  | 3, _ => rfl
theorem rows3 {B n N : Nat} {ln : Nat → Nat} {c : Nat → Nat → Nat} {w : Nat → Nat} {xx : Nat → Value} {r0 r1 r2 : Value} {W : World} (h : Fam B (n + 3) (updX (updX (updX xx n r0) (n + 1) r1) (n + 2) r2) (pN n ln N) (pF n c w) W) (e : pN n ln N n = N ∧ pN n ln N (n + 1) = N ∧ pN n ln N (n + 2) = N ∧ pF n c w n = w ∧ pF n c w (n + 1) = w ∧ pF n c w (n + 2) = w) : W.ownsRow B 5 1 r0 N (bytesL N w) ∧ W.ownsRow B 5 1 r1 N (bytesL N w) ∧ W.ownsRow B 5 1 r2 N (bytesL N w) := by
  have h0 := h.rows n (by omega)
  have h1 := h.rows (n + 1) (by omega)
  have h2 := h.rows (n + 2) (by omega)
  rw [e.1, e.2.2.2.1, updX_lt _ _ (by omega), updX_lt _ _ (by omega), updX_at] at h0
  rw [e.2.1, e.2.2.2.2.1, updX_lt _ _ (by omega), updX_at] at h1
  rw [e.2.2.1, e.2.2.2.2.2, updX_at] at h2
  exact ⟨h0, h1, h2⟩
theorem execFldB0 {o : Oper} {a : Act} {w : World} {x : Operand} {g : Nat} (ho : o.op = .fieldAddr 26 x 0) (hx : a.eval x = .pointer (some ⟨g, 0, none⟩)) : (execOp a.eval o).run Tryd.prog w = .ok (.value (.pointer (some ⟨g, 0, none⟩))) w := by
  unfold execOp
  simp only [ho, hx]
  simp [go_sem]
theorem execFldB1 {o : Oper} {a : Act} {w : World} {x : Operand} {g : Nat} (ho : o.op = .fieldAddr 26 x 1) (hx : a.eval x = .pointer (some ⟨g, 0, none⟩)) : (execOp a.eval o).run Tryd.prog w = .ok (.value (.pointer (some ⟨g, 3, none⟩))) w := by
  unfold execOp
  simp only [ho, hx]
  simp [go_sem]
theorem execAllB {o : Oper} {a : Act} {w : World} (ho : o.op = .alloc 26) : (execOp a.eval o).run Tryd.prog w = .ok (.value (.pointer (some ⟨w.heap.size, 0, none⟩))) (w.alloc (.cells (bC 0 0 0 (.slice none 0 0)) 26)) := by
  have z := zeroB
  unfold execOp
  simp only [ho]
  simp [go_sem, z, bC]
theorem execBt2 {o : Oper} {a : Act} {w : World} {x y : Operand} {rd ep lf : Int} {v : Value} (ho : o.op = .build 26 #[(0, x), (1, y)]) (hx : a.eval x = .agg (hC rd ep lf)) (hy : a.eval y = v) (hv : ∃ a n c, v = .slice a n c) : (execOp a.eval o).run Tryd.prog w = .ok (.value (.agg (bC rd ep lf v))) w := by
  obtain ⟨ao, n, c, rfl⟩ := hv
  exact execB2 ho hx hy
theorem CF.rowT {B k : Nat} {x : Nat → Value} {ln : Nat → Nat} {c : Nat → Nat → Nat} {cv : Value} {W : World} (h : CF B k x ln c cv W) {R : Nat} {d : Array Value} {t : TypeId} (hr : W.heap[R]? = some (.cells d t)) (h1 : t ≠ 30) (h2 : t ≠ 5) (e : Array Value) : CF B k x ln c cv (W.setRow R e) :=
  ⟨ownL_row h.own hr h1 e, ⟨fun t ht => ownsRow_row (h.fam.rows t ht) hr h2 e, h.fam.dis⟩⟩
set_option maxRecDepth 20000 in
set_option maxHeartbeats 2000000 in
theorem packs_any (rd ep lf : Int) (n : Nat) (cv : Value) (xv : Nat → Value) (ln : Nat → Nat) (c : Nat → Nat → Nat) (V : World) (g : Rules V) (hc : Cells V cv n xv ln c) (hn : n ≤ 140737488351232) :
    Calls Tryd.prog 3 #[.agg (bC rd ep lf cv)] V fun e w' => e = .returned (.bool true) ∧ Below V.heap.size V w' := by
  obtain ⟨ca, ccap, rfl, _⟩ := id hc.shape
  have hb := heapNew V (.cells (bC rd ep lf (.slice ca n ccap)) 26)
  have bel := belNew V (.cells (bC rd ep lf (.slice ca n ccap)) 26)
  obtain ⟨V1, hV1⟩ : ∃ V1, V.alloc (.cells (bC rd ep lf (.slice ca n ccap)) 26) = V1 := ⟨_, rfl⟩
  have s1 : V1.heap.size = V.heap.size + 1 := by rw [← hV1]; simp
  rw [hV1] at hb bel
  have HB : Hid (Rules V1 ∧ Cells V1 (.slice ca n ccap) n xv ln c ∧ n ≤ 140737488351232) := ⟨g.on bel g.sz, hc.on bel, hn⟩
  have H1 : Hid (V1.heap[V.heap.size]? = some (.cells (bC rd ep lf (.slice ca n ccap)) 26) ∧ Below V.heap.size V V1 ∧ V1.heap.size = V.heap.size + 1) := ⟨hb, bel, s1⟩
  have RW : Hid (∀ W, Below V1.heap.size V1 W → W.heap[V.heap.size]? = some (.cells (bC rd ep lf (.slice ca n ccap)) 26)) := fun W hW => by rw [hW.block _ (by have := H1.out.2.2; omega)]; exact H1.out.1
  have FIN : Hid (∀ W, Below V1.heap.size V1 W → Below V.heap.size V W) := fun W hW => H1.out.2.1.trans (hW.mono H1.out.2.1.size)
  have z := zeroB
  obtain ⟨G, hG⟩ : ∃ G : Bool, decide (2097152 < greatN n ln) = G := ⟨_, rfl⟩
  clear g hc hn hb bel s1
  cases G with
  | true =>
    go_enter Tryd.func3, Tryd.ntmps3
    go_wp2_with (first
      | (go_at_call 9; refine (awake_any V1 HB.out.1).mono ?_; rintro e w1 ⟨rfl, b1⟩; obtain ⟨_, _, _, k3⟩ := bC_at _ _ _ _ (RW.out _ b1); have B1 : Hid (Below V1.heap.size V1 w1) := b1; clear b1)
      | (go_at_call 10; refine (great_any _ n xv ln c w1 (HB.out.2.1.on B1.out) HB.out.2.2).mono ?_; rw [hG]; rintro e w2 ⟨rfl, hw2⟩; subst hw2))
    go_ret
    exact ⟨rfl, FIN.out _ B1.out⟩
  | false =>
    have sm : ¬ 2097152 < greatN n ln := by simpa using hG
    have HS : Hid (n ≤ 2097152 ∧ ∀ i, i < n → ln i ≤ 2097152) := ⟨by have := greatN_ge ln n; omega, fun i hi => by have := greatN_ln ln hi; omega⟩
    have CB : Hid (∀ i j, i < n → j < ln i → c i j < 256) := fun i j hi hj => (HB.out.2.1.cell i hi).bytes j hj
    clear sm
    go_enter Tryd.func3, Tryd.ntmps3
    go_wp2_with (first
      | (go_at_call 9; refine (awake_any V1 HB.out.1).mono ?_; rintro e w1 ⟨rfl, b1⟩; obtain ⟨_, _, _, k3⟩ := bC_at _ _ _ _ (RW.out _ b1); have B1 : Hid (Below V1.heap.size V1 w1) := b1; clear b1)
      | (go_at_call 10; refine (great_any _ n xv ln c w1 (HB.out.2.1.on B1.out) HB.out.2.2).mono ?_; rw [hG]; rintro e w2 ⟨rfl, hw2⟩; subst hw2))
    refine wp_region_detX 135 [(0, 21), (1, 22), (2, 23), (3, 24), (4, 25), (5, 26), (6, 3)] (pcT V.heap.size rd ep lf n (.slice ca n ccap) ln c V1) (fun _ => undef) (by kernel_rfl) (by kernel_rfl) rfl (by kernel_rfl) (by decide) (by decide) ?_ ?_ ?_
    · exact ⟨fun q => (by cases q), fun q => (by cases q), fun q => (by cases q), fun q => (by cases q), fun q => (by cases q), fun q => (by cases q), fun q => (by cases q), B1.out.drew⟩
    · intro j hj l x a W hl hf hdep hl2 hcl _ hT
      obtain ⟨t0, t1, t2, t3, t4, t5, t6, tb⟩ := hT
      match j, hj with
      | 0, _ => exact stepV rfl rfl (execFldB0 rfl (hf 1 (by decide))) ⟨_, ⟨_, rfl, rfl⟩, fun _ => rfl, t1, t2, t3, t4, t5, t6, tb⟩
      | 1, _ => exact stepV rfl rfl (execLoadMid (cs := (hC rd ep lf).toList) rfl ((hdep _ rfl 0 rfl _ rfl _ rfl).trans (t0 (hl2 _ rfl 0 rfl))) (range_b3 (RW.out _ tb)) Tryd.underlying23 rfl (by kernel_rfl)) ⟨_, ⟨_, rfl, rfl⟩, t0, fun _ => rfl, t2, t3, t4, t5, t6, tb⟩
      | 2, _ => exact stepV rfl rfl (execFldB1 rfl (hf 1 (by decide))) ⟨_, ⟨_, rfl, rfl⟩, t0, t1, fun _ => rfl, t3, t4, t5, t6, tb⟩
      | 3, _ => exact stepV rfl rfl (execLdC rfl ((hdep _ rfl 2 rfl _ rfl _ rfl).trans (t2 (hl2 _ rfl 2 rfl))) (bC_at _ _ _ _ (RW.out _ tb)).2.2.2) ⟨_, ⟨_, rfl, rfl⟩, t0, t1, t2, fun _ => rfl, t4, t5, t6, tb⟩
      | 4, _ =>
        have n5 : l 5 = false := by
          cases h : l 5 with
          | false => rfl
          | true =>
            have := hcl 5 _ rfl h 4 rfl
            rw [hl] at this
            cases this
        have n7 : l 7 = false := by
          cases h : l 7 with
          | false => rfl
          | true =>
            have := hcl 7 _ rfl h 5 rfl
            rw [n5] at this
            cases this
        refine stepC rfl rfl (execCall1 Tryd.func11 (by kernel_rfl) (by kernel_rfl) rfl ((hdep _ rfl 3 rfl _ rfl _ rfl).trans (t3 (hl2 _ rfl 3 rfl)))) (lcopied_any _ n xv ln c W (HB.out.2.1.on tb) HS.out.1) fun e w' h => ?_
        obtain ⟨r, xx, e1, cf, bw⟩ := h
        refine ⟨_, e1, _, ⟨_, rfl, rfl⟩, t0, t1, t2, t3, fun _ => ⟨xx, cf.base tb.size⟩, fun q => ?_, fun q => ?_, tb.trans (bw.mono tb.size)⟩
        · have q' : l 5 = true := q
          rw [n5] at q'; cases q'
        · obtain ⟨I, e6, lI, r1, _⟩ := t6 q
          refine ⟨I, e6, lI, fun _ => ?_, fun q => ?_⟩
          · have := r1 n7
            rw [bw.block _ (Array.getElem?_eq_some_iff.1 this).1]
            exact this
          · have q' : l 7 = true := q
            rw [n7] at q'; cases q'
      | 5, _ =>
        have n7 : l 7 = false := by
          cases h : l 7 with
          | false => rfl
          | true =>
            have := hcl 7 _ rfl h 5 rfl
            rw [hl] at this
            cases this
        obtain ⟨xx, cf⟩ := t4 (hl2 _ rfl 4 rfl)
        exact stepV rfl rfl (execBt2 rfl ((hdep _ rfl 1 rfl _ rfl _ rfl).trans (t1 (hl2 _ rfl 1 rfl))) (hdep _ rfl 4 rfl _ rfl _ rfl) (by obtain ⟨ao, cap, e⟩ := ownL_shape cf.own; exact ⟨ao, _, cap, e⟩)) ⟨_, ⟨_, rfl, rfl⟩, t0, t1, t2, t3, t4, fun _ => rfl, t6, tb⟩
      | 6, _ =>
        refine stepV rfl rfl (execAllB rfl) ⟨_, ⟨_, rfl, rfl⟩, t0, t1, t2, t3, fun q => ?_, t5, fun _ => ⟨W.heap.size, rfl, tb.size, fun _ => heapNew _ _, fun q => ?_⟩, tb.trans ((belNew W _).mono tb.size)⟩
        · obtain ⟨xx, cf⟩ := t4 q
          exact ⟨xx, cf.on (belNew W _)⟩
        · have q' : l 7 = true := q
          have := hcl 7 _ rfl q' 6 rfl
          rw [hl] at this
          cases this
      | 7, _ =>
        obtain ⟨I, e6, lI, r1, _⟩ := t6 (hl2 _ rfl 6 rfl)
        have h4 : l 4 = true := hcl 5 _ rfl (hl2 _ rfl 5 rfl) 4 rfl
        obtain ⟨xx, cf⟩ := t4 h4
        have r1 := r1 hl
        obtain ⟨ao, cap, e4⟩ := ownL_shape cf.own
        refine stepS rfl rfl (execStBt rfl ((hdep _ rfl 6 rfl _ rfl _ rfl).trans e6) ((hdep _ rfl 5 rfl _ rfl _ rfl).trans (t5 (hl2 _ rfl 5 rfl))) r1 (by rw [e4]; rfl)) ⟨_, ⟨_, rfl, rfl⟩, t0, t1, t2, t3, fun _ => ⟨xx, cf.rowT r1 (by decide) (by decide) _⟩, t5, fun _ => ⟨I, e6, lI, fun q => (by cases q), fun _ => setRow_heap _ _ _ _ _ _ r1⟩, below4 tb lI _⟩
      | n + 8, h => exact absurd h (by simp)
    · intro l x W hall hT
      obtain ⟨t0, t1, t2, t3, t4, t5, t6, tb⟩ := hT
      obtain ⟨xx, cf⟩ := t4 (hall 4 (by simp))
      obtain ⟨I, e6, lI, _, r1⟩ := t6 (hall 6 (by simp))
      have r1 := r1 (hall 7 (by simp))
      have e0 := t0 (hall 0 (by simp))
      have e1 := t1 (hall 1 (by simp))
      have e2 := t2 (hall 2 (by simp))
      have e3 := t3 (hall 3 (by simp))
      have e5 := t5 (hall 5 (by simp))
      obtain ⟨lv, hlv⟩ : ∃ lv, x 4 = lv := ⟨_, rfl⟩
      rw [hlv] at cf r1 e5
      obtain ⟨la, lc, rfl⟩ := ownL_shape cf.own
      obtain ⟨N, hN⟩ : ∃ N, packN rd ep lf n ln = N := ⟨_, rfl⟩
      obtain ⟨E, hE⟩ : ∃ E, packE rd ep lf n ln = E := ⟨_, rfl⟩
      obtain ⟨w, hw⟩ : ∃ w, packI rd ep lf n c = w := ⟨_, rfl⟩
      have WB : Hid (∀ j, j < N → w j < 256) := by
        have := pack_lt (rd := rd) (ep := ep) (lf := lf) (n := n) (ln := ln) (c := c) CB.out
        rw [hN, hw] at this
        exact this
      have N2 : N ≤ 100000 := by
        rw [← hN]
        unfold packN
        split
        · rename_i q
          obtain ⟨_, _, _, _, _, _, gd, _⟩ := packE_ok q
          have := gd.n
          unfold cellAt
          omega
        · omega
      have E1 : E ≤ 64 := by rw [← hE]; exact packE_le _ _ _ _ _
      have NB : Hid (N ≤ 100000) := N2
      have P0 : Hid (PaS I rd ep lf n (.slice la n lc) xx n (pN n ln N) (pF n c w) V1 W) := ⟨r1, cf.own, ⟨fun t ht => by unfold pN pF; rw [if_pos ht, if_pos ht]; exact cf.fam.rows t ht, cf.fam.dis⟩, tb, lI⟩
      have eN : pN n ln N n = N := if_neg (by omega)
      have eN1 : pN n ln N (n + 1) = N := if_neg (by omega)
      have eN2 : pN n ln N (n + 2) = N := if_neg (by omega)
      have eF : pF n c w n = w := if_neg (by omega)
      have eF1 : pF n c w (n + 1) = w := if_neg (by omega)
      have eF2 : pF n c w (n + 2) = w := if_neg (by omega)
      have EE : Hid (pN n ln N n = N ∧ pN n ln N (n + 1) = N ∧ pN n ln N (n + 2) = N ∧ pF n c w n = w ∧ pF n c w (n + 1) = w ∧ pF n c w (n + 2) = w) := ⟨eN, eN1, eN2, eF, eF1, eF2⟩
      have CEL : Hid (∀ (y : Nat → Value) (m : Nat) (W : World), n ≤ m → PaS I rd ep lf n (.slice la n lc) y m (pN n ln N) (pF n c w) V1 W → Cells W (.slice la n lc) n y ln c) := fun y m W hm hp =>
        (hp.cells hm (fun i j hi hj => by unfold pN at hj; unfold pF; rw [if_pos hi] at hj ⊢; exact CB.out i j hi hj) (fun i hi => by unfold pN; rw [if_pos hi]; have := HS.out.2 i hi; omega)).cg (fun i hi => if_pos hi) (fun i j hi _ => by unfold pF; rw [if_pos hi])
      have l1 : (N : Int) ≤ 100000 := by omega
      clear hall t0 t1 t2 t3 t4 t5 t6 cf r1 tb lI eN eN1 eN2 eF eF1 eF2 N2
      simp only [putP, e0, e1, e2, e3, e5, e6, hlv, Act.put, List.setIfInBounds_toArray, List.set_cons_succ, List.set_cons_zero]
      clear e0 e1 e2 e3 e5 e6 hlv
      go_wp2_with (first
        | (refine atLoad 26 (.tmp 1) rfl ?_; refine wpList_ex rfl (execLdBt rfl rfl (RW.out _ (by first | exact P3.out.bel | exact P0.out.bel))) ?_)
        | (refine atLoad 26 (.tmp 3) rfl ?_; refine wpList_ex rfl (execLdBt rfl rfl (by first | exact P3.out.i | exact P2.out.i | exact P1.out.i)) ?_)
        | (go_at_call 12; refine (rpack_any rd ep lf n _ xv ln c W (HB.out.2.1.on P0.out.bel) HB.out.2.2).mono ?_; rw [hN, hE, hw]; rintro e w3 ⟨r0, rfl, o3, b3⟩; obtain ⟨a0, d0, rfl⟩ := own_shapeJ o3; have P1 : Hid (PaS I rd ep lf n (.slice la n lc) (updX xx n (.slice a0 N d0)) (n + 1) (pN n ln N) (pF n c w) V1 w3) := P0.out.add (Nat.le_refl _) b3 (by rw [EE.out.1, EE.out.2.2.2.1]; exact o3); clear o3 b3)
        | (go_at_call 13; have p2 := P2; refine (ppack_any rd ep lf n _ _ ln c w4 (HB.out.1.on p2.out.bel HB.out.1.sz) (CEL.out _ _ _ (by omega) p2.out) HB.out.2.2).mono ?_; rw [hN, hE, hw]; rintro e w5 ⟨r2, rfl, o5, b5⟩; obtain ⟨a2, d2, rfl⟩ := own_shapeJ o5; have P3 : Hid (PaS I rd ep lf n (.slice la n lc) (updX (updX (updX xx n (.slice a0 N d0)) (n + 1) (.slice a1 N d1)) (n + 2) (.slice a2 N d2)) (n + 3) (pN n ln N) (pF n c w) V1 w5) := p2.out.add (by omega) b5 (by rw [EE.out.2.2.1, EE.out.2.2.2.2.2]; exact o5); have RS : Hid (w5.ownsRow V1.heap.size 5 1 (.slice a0 N d0) N (bytesL N w) ∧ w5.ownsRow V1.heap.size 5 1 (.slice a1 N d1) N (bytesL N w) ∧ w5.ownsRow V1.heap.size 5 1 (.slice a2 N d2) N (bytesL N w)) := (rows3 P3.out.fam EE.out); clear o5 b5 p2)
        | (go_at_call 13; refine (ppack_any rd ep lf n _ _ ln c w3 (HB.out.1.on P1.out.bel HB.out.1.sz) (CEL.out _ _ _ (Nat.le_succ _) P1.out) HB.out.2.2).mono ?_; rw [hN, hE, hw]; rintro e w4 ⟨r1, rfl, o4, b4⟩; obtain ⟨a1, d1, rfl⟩ := own_shapeJ o4; have P2 : Hid (PaS I rd ep lf n (.slice la n lc) (updX (updX xx n (.slice a0 N d0)) (n + 1) (.slice a1 N d1)) (n + 2) (pN n ln N) (pF n c w) V1 w4) := P1.out.add (Nat.le_succ _) b4 (by rw [EE.out.2.1, EE.out.2.2.2.2.1]; exact o4); clear o4 b4)
        | (go_at_call_of 14 a2; refine (same_true w w N _ _ _ (own_slice RS.out.2.2 WB.out) (own_slice RS.out.1 WB.out) (fun _ _ => rfl)).mono ?_; rintro e w7 ⟨rfl, hw7⟩; subst hw7)
        | (go_at_call_of 14 a1; refine (same_true w w N _ _ w5 (own_slice RS.out.2.1 WB.out) (own_slice RS.out.1 WB.out) (fun _ _ => rfl)).mono ?_; rintro e w6 ⟨rfl, hw6⟩; subst hw6)
        | (go_at_call 15; refine (alike_true rd ep lf n _ _ _ xv ln ln c c _ (CEL.out _ _ _ (by omega) P3.out) (HB.out.2.1.on P3.out.bel) ⟨fun _ _ => rfl, fun _ _ _ _ => rfl⟩ HB.out.2.2).mono ?_; rintro e w8 ⟨rfl, b8⟩; have P8 : Hid (PaS I rd ep lf n (.slice la n lc) (updX (updX (updX xx n (.slice a0 N d0)) (n + 1) (.slice a1 N d1)) (n + 2) (.slice a2 N d2)) (n + 3) (pN n ln N) (pF n c w) V1 w8) := P3.out.on b8; clear b8))
      obtain ⟨y, hy⟩ : ∃ y, updX (updX (updX xx n (.slice a0 N d0)) (n + 1) (.slice a1 N d1)) (n + 2) (.slice a2 N d2) = y := ⟨_, rfl⟩
      have YF : Hid (y n = .slice a0 N d0 ∧ y (n + 1) = .slice a1 N d1 ∧ y (n + 2) = .slice a2 N d2) := by
        rw [← hy]
        exact ⟨by rw [updX_lt _ _ (by omega), updX_lt _ _ (by omega), updX_at], by rw [updX_lt _ _ (by omega), updX_at], updX_at _ _ _⟩
      have Q0 : Hid (PaS I rd ep lf n (.slice la n lc) y (n + 3) (pN n ln N) (fA n c w 0) V1 w8) := by
        have := P8.out
        rw [hy] at this
        exact this.cg fun t _ l _ => by unfold fA; rw [if_neg (by omega)]
      clear hy P0 P1 P2 P3 P8 RS CEL
      go_loopw [70] (fun z W => ∃ j : Nat, j ≤ N ∧ z = .int .i64 (j : Int) ∧ PaS I rd ep lf n (.slice la n lc) y (n + 3) (pN n ln N) (fA n c w j) V1 W) (fun z _ => N - (intOf z).toNat)
      case atStart => exact ⟨0, Nat.zero_le _, rfl, Q0.out⟩
      case round =>
        obtain ⟨j, hj, rfl, ps⟩ := hrel
        clear Q0
        have row := ps.fam.rows (n + 1) (by omega)
        rw [EE.out.2.1, YF.out.2.1] at row
        by_cases hlt : j < N
        · have i1 : (j : Int) < N := by omega
          obtain ⟨gb, cap, e, gB, gl, ⟨cur, hcur⟩, hcell⟩ := own_byte row (by omega)
          injection e with e1 e2 e3
          subst e1
          have HK : Hid (j < N ∧ PaS I rd ep lf n (.slice la n lc) y (n + 3) (pN n ln N) (fA n c w j) V1 wr ∧ wr.heap[gb]? = some (.cells cur 5) ∧ wr.cell? ⟨gb, j, none⟩ = some (.int .u8 (fA n c w j (n + 1) j : Nat))) := ⟨hlt, ps, hcur, hcell j hlt⟩
          clear row hlt hj ps gB gl hcur hcell e2 e3
          go_wp2_with (first
            | (refine atStore 5 (.tmp 75) (.const (.int .u8 85)) rfl ?_; go_must (refine wpList_exS rfl (execStB rfl rfl rfl HK.out.2.2.2 (frozen4 HK.out.2.2.1)) ?_; have Q1 : Hid (_) := HK.out.2.1.set (t := n + 1) (k := j) (z := 85) (by omega) (by rw [YF.out.2.1, EE.out.2.1]))))
          go_roundw
          case rel => exact ⟨j + 1, HK.out.1, by go_num, Q1.out.cg fun t _ l _ => by
            unfold fA
            by_cases e : t = n + 1
            · rw [if_pos e]
              by_cases e2 : l = j
              · rw [if_pos e2, if_pos ⟨e, by omega⟩]
              · rw [if_neg e2, e]
                by_cases e3 : l < j
                · rw [if_pos ⟨rfl, e3⟩, if_pos ⟨rfl, by omega⟩]
                · rw [if_neg (fun q => e3 q.2), if_neg (fun q => by omega)]
            · rw [if_neg e, if_neg (fun q => e q.1), if_neg (fun q => e q.1)]⟩
          case measure => have := HK.out.1; simp [intOf]; omega
        · have ej : j = N := by omega
          subst ej
          have i1 : ¬ (j : Int) < j := by omega
          have HK : Hid (PaS I rd ep lf n (.slice la n lc) y (n + 3) (pN n ln j) (fA n c w j) V1 wr ∧ wr.ownsRow V1.heap.size 5 1 (.slice a1 j d1) j (bytesL j (fA n c w j (n + 1)))) := ⟨ps, row⟩
          clear ps row hj hlt
          go_wp2_with (first
            | (refine atAppB (.tmp 77) (.tmp 78) rfl ?_; go_must (
                obtain ⟨Wn, hWn⟩ : ∃ Wn, wr.alloc (.cells #[.int .u8 85, .int .u8 85, .int .u8 85, .int .u8 85] 5) = Wn := ⟨_, rfl⟩
                have bn : Below wr.heap.size wr Wn := (by rw [← hWn]; exact belNew _ _)
                have hn4 : Wn.heap[wr.heap.size]? = some (.cells #[.int .u8 85, .int .u8 85, .int .u8 85, .int .u8 85] 5) := (by rw [← hWn]; exact heapNew _ _)
                have p9 := HK.out.1.on bn
                rw [hWn]
                refine wpList_appS (B := V1.heap.size) (n := j) (m := 4) (p := fun l => if l < j then fA n c w j (n + 1) l else 85) rfl (.tmp 77) (.tmp 78) rfl rfl rfl (by rw [bytesL_congr (g := fA n c w j (n + 1)) fun l hl => if_pos hl]; exact ownsRow_below HK.out.2 bn) ⟨⟨_, 4, rfl, Nat.le_refl _, by omega, fun _ => ⟨wr.heap.size, 0, rfl, (Array.getElem?_eq_some_iff.1 hn4).1, fun l hl => by rw [cell_of_row _ _ _ _ _ _ hn4, if_neg (by omega)]; exact four85 hl⟩⟩, fun l _ => by rw [if_neg (by omega)]; omega⟩ (fun l c e => by cases e) (by have := NB.out; omega) p9.bel.size ?_
                intro v' W6 own6 gr6
                have p10 := (p9.cg (gg := fun t => if t = n + 1 then (fun _ => 85) else pF n c w t) (fun t _ l hl => by
                  unfold fA
                  by_cases e : t = n + 1
                  · rw [if_pos e]
                    rw [e, EE.out.2.1] at hl
                    rw [if_pos ⟨e, hl⟩]
                  · rw [if_neg e, if_neg (fun q => e q.1)])).drop (u := .slice a2 j d2) (by rw [YF.out.2.1]; exact grown_row gr6) (by rw [EE.out.2.2.1, EE.out.2.1]) (by rw [if_neg (by omega), if_neg (by omega), EE.out.2.2.2.2.2, EE.out.2.2.2.1]) YF.out.2.2.symm
                have Q2 : Hid (PaS I rd ep lf n (.slice la n lc) (fun t => if t = n + 1 then .slice a2 j d2 else y t) (n + 2) (pN n ln j) (fB n c w 0 0) V1 W6) := p10.cg (fun t _ l _ => by
                  have hB0 : fB n c w 0 0 t l = pF n c w t l := if_neg (by omega)
                  rw [hB0]
                  by_cases e : t = n + 1
                  · simp only [if_pos e]
                    rw [if_neg (show ¬ n = n + 1 by omega), e, EE.out.2.2.2.1, EE.out.2.2.2.2.1]
                  · simp only [if_neg e])
                obtain ⟨a6, d6, rfl⟩ := own_shapeJ own6
                obtain ⟨_, _, _, kI⟩ := bC_at _ _ _ _ Q2.out.i
                clear own6 gr6 p9 p10 bn hn4 hWn)))
          obtain ⟨y', hy'⟩ : ∃ y', (fun t => if t = n + 1 then Value.slice a2 j d2 else y t) = y' := ⟨_, rfl⟩
          have YG : Hid (y' n = .slice a0 j d0 ∧ y' (n + 1) = .slice a2 j d2) := by
            rw [← hy']
            exact ⟨(if_neg (by omega)).trans YF.out.1, if_pos rfl⟩
          have Q3 : Hid (PaS I rd ep lf n (.slice la n lc) y' (n + 2) (pN n ln j) (fB n c w 0 0) V1 W6) := by
            have := Q2.out
            rw [hy'] at this
            exact this
          have nn : (n : Int) ≤ 2097152 := by have := HS.out.1; omega
          clear hy' Q2 YF HK kI
          go_loopw [83] (fun z W => ∃ i : Nat, i ≤ n ∧ z = .int .i64 (i : Int) ∧ PaS I rd ep lf n (.slice la n lc) y' (n + 2) (pN n ln j) (fB n c w i 0) V1 W) (fun z _ => n - (intOf z).toNat)
          case atStart => exact ⟨0, Nat.zero_le _, rfl, Q3.out⟩
          case round =>
            obtain ⟨i, hi, rfl, ps⟩ := hrel
            clear Q3
            obtain ⟨_, _, _, kI⟩ := bC_at _ _ _ _ ps.i
            by_cases hlt : i < n
            · have i1' : (i : Int) < n := by omega
              obtain ⟨Lb, lcap, e, _, _, hcl⟩ := ownL_cells ps.own (by omega)
              injection e with e1 e2 e3
              subst e1
              have kL := hcl i hlt
              rw [Nat.zero_add] at kL
              have row := ps.fam.rows i (by omega)
              have eln : pN n ln j i = ln i := if_pos hlt
              rw [eln] at row
              obtain ⟨yo, yc, ey⟩ := own_shapeJ row
              rw [ey] at kL
              have u1' : (ln i : Int) ≤ 2097152 := by have := HS.out.2 i hlt; omega
              have Q4 : Hid (PaS I rd ep lf n (.slice (some ⟨Lb, 0, none⟩) n lc) y' (n + 2) (pN n ln j) (fB n c w i 0) V1 wr) := ps
              have HI : Hid (i < n ∧ y' i = .slice yo (ln i) yc ∧ pN n ln j i = ln i) := ⟨hlt, ey, eln⟩
              obtain ⟨L, hL⟩ : ∃ L, ln i = L := ⟨_, rfl⟩
              have HL : Hid (ln i = L) := hL
              rw [hL] at kL u1'
              clear hlt hi ps hcl row eln ey e2 e3 hL
              go_wp2_with fail
              go_loopw [92] (fun z W => ∃ k : Nat, k ≤ L ∧ z = .int .i64 (k : Int) ∧ PaS I rd ep lf n (.slice (some ⟨Lb, 0, none⟩) n lc) y' (n + 2) (pN n ln j) (fB n c w i k) V1 W) (fun z _ => L - (intOf z).toNat)
              case atStart => exact ⟨0, Nat.zero_le _, rfl, Q4.out⟩
              case round =>
                obtain ⟨k, hk, rfl, ps⟩ := hrel
                clear Q4 kI kL
                obtain ⟨_, _, _, kI⟩ := bC_at _ _ _ _ ps.i
                by_cases hlt : k < L
                · have i3 : (k : Int) < L := by omega
                  obtain ⟨Lb2, lcap2, e, _, _, hcl⟩ := ownL_cells ps.own (by have := HI.out.1; omega)
                  injection e with e1 e2 e3
                  injection e1 with e1
                  injection e1 with e1 _ _
                  subst e1
                  have kL := hcl i HI.out.1
                  rw [Nat.zero_add] at kL
                  have row := ps.fam.rows i (by have := HI.out.1; omega)
                  rw [HI.out.2.2, HL.out] at row
                  obtain ⟨gb, cap, e, gB, gl, ⟨cur, hcur⟩, hcell⟩ := own_byte row (by omega)
                  rw [e] at kL
                  have ck := hcell k hlt
                  have cF : fB n c w i k i k = c i k := by
                    unfold fB
                    rw [if_neg (by omega)]
                    unfold pF
                    rw [if_pos HI.out.1]
                  rw [cF] at ck
                  obtain ⟨b, hb⟩ : ∃ b, c i k = b := ⟨_, rfl⟩
                  have b256 : b < 256 := by rw [← hb]; exact CB.out i k HI.out.1 (by rw [HL.out]; exact hlt)
                  rw [hb] at ck
                  have X : bits .xor .u8 (b : Int) 170 = ((b ^^^ 170 : Nat) : Int) := xor_u8 (a := b) (b := 170) b256 (by decide)
                  have HK : Hid (k < L ∧ PaS I rd ep lf n (.slice (some ⟨Lb, 0, none⟩) n lc) y' (n + 2) (pN n ln j) (fB n c w i k) V1 wr ∧ wr.heap[gb]? = some (.cells cur 5) ∧ wr.cell? ⟨gb, k, none⟩ = some (.int .u8 (b : Int)) ∧ y' i = .slice (some ⟨gb, 0, none⟩) L cap ∧ c i k = b) := ⟨hlt, ps, hcur, ck, e, hb⟩
                  clear hlt hk ps hcl row e gB gl hcur hcell cF hb b256 e2 e3
                  go_wp2_with (first
                    | (refine atStore 5 (.tmp 104) (.tmp 103) rfl ?_; go_must (refine wpList_exS rfl (execStB rfl rfl rfl HK.out.2.2.2.1 (frozen4 HK.out.2.2.1)) ?_; have Q5 : Hid (_) := HK.out.2.1.set (t := i) (k := k) (z := b ^^^ 170) (by have := HI.out.1; omega) (by rw [HK.out.2.2.2.2.1, HI.out.2.2, HL.out]))))
                  go_roundw
                  case rel => exact ⟨k + 1, HK.out.1, by go_num, Q5.out.cg fun t _ l _ => by
                    by_cases e : t = i
                    · simp only [if_pos e]
                      by_cases e2 : l = k
                      · rw [if_pos e2]
                        unfold fB
                        rw [if_pos ⟨by have := HI.out.1; omega, Or.inr ⟨e, by omega⟩⟩, e, e2, HK.out.2.2.2.2.2]
                      · rw [if_neg e2, e]
                        unfold fB
                        by_cases e3 : l < k
                        · rw [if_pos ⟨HI.out.1, Or.inr ⟨rfl, e3⟩⟩, if_pos ⟨HI.out.1, Or.inr ⟨rfl, by omega⟩⟩]
                        · rw [if_neg (by omega), if_neg (by omega)]
                    · simp only [if_neg e]
                      unfold fB
                      by_cases e3 : t < n ∧ t < i
                      · rw [if_pos ⟨e3.1, Or.inl e3.2⟩, if_pos ⟨e3.1, Or.inl e3.2⟩]
                      · rw [if_neg (by omega), if_neg (by omega)]⟩
                  case measure => have := HK.out.1; simp [intOf]; omega
                · have i3 : ¬ (k : Int) < L := by omega
                  have HK : Hid (PaS I rd ep lf n (.slice (some ⟨Lb, 0, none⟩) n lc) y' (n + 2) (pN n ln j) (fB n c w i k) V1 wr ∧ k = L) := ⟨ps, by omega⟩
                  clear hlt hk ps
                  go_wp2
                  go_roundw
                  case rel => exact ⟨i + 1, HI.out.1, by go_num, HK.out.1.cg fun t _ l hl => by
                    have hkL := HK.out.2
                    unfold fB
                    by_cases e : t = i
                    · rw [e, HI.out.2.2, HL.out] at hl
                      rw [if_pos ⟨by have := HI.out.1; omega, Or.inr ⟨e, by omega⟩⟩, if_pos ⟨by have := HI.out.1; omega, Or.inl (by omega)⟩]
                    · by_cases e3 : t < n ∧ t < i
                      · rw [if_pos ⟨e3.1, Or.inl e3.2⟩, if_pos ⟨e3.1, Or.inl (by omega)⟩]
                      · rw [if_neg (by omega), if_neg (by omega)]⟩
                  case measure => have := HI.out.1; simp [intOf]; omega
            · have i1' : ¬ (i : Int) < n := by omega
              have ei : i = n := by omega
              have Q5 : Hid (PaS I rd ep lf n (.slice la n lc) y' (n + 2) (pN n ln j) (fB n c w n 0) V1 wr) := by rw [ei] at ps; exact ps
              obtain ⟨w', hw'⟩ : ∃ w', packI rd ep lf n (fun t l => c t l ^^^ 170) = w' := ⟨_, rfl⟩
              have CC : Hid (∀ t l, t < n → l < ln t → c t l ^^^ 170 < 256) := fun t l ht hl => xor_lt (CB.out t l ht hl) (by decide)
              have WB' : Hid (∀ l, l < j → w' l < 256) := by
                have := pack_lt (rd := rd) (ep := ep) (lf := lf) (n := n) (ln := ln) (c := fun t l => c t l ^^^ 170) CC.out
                rw [hN, hw'] at this
                exact this
              have CEL : Hid (∀ W, PaS I rd ep lf n (.slice la n lc) y' (n + 2) (pN n ln j) (fB n c w n 0) V1 W → Cells W (.slice la n lc) n y' ln (fun t l => c t l ^^^ 170)) := fun W hp =>
                (hp.cells (by omega) (fun t l ht hl => by unfold fB; rw [if_pos ⟨ht, Or.inl ht⟩]; unfold pN at hl; rw [if_pos ht] at hl; exact CC.out t l ht hl) (fun t ht => by unfold pN; rw [if_pos ht]; have := HS.out.2 t ht; omega)).cg (fun t ht => if_pos ht) (fun t l ht _ => by unfold fB; rw [if_pos ⟨ht, Or.inl ht⟩])
              have TW : Hid (∀ W, PaS I rd ep lf n (.slice la n lc) y' (n + 2) (pN n ln j) (fB n c w n 0) V1 W → SliceN W (.slice a0 j d0) j w ∧ SliceN W (.slice a2 j d2) j w) := fun W hp => by
                have h0 := hp.fam.rows n (by omega)
                have h1 := hp.fam.rows (n + 1) (by omega)
                rw [EE.out.1, YG.out.1, bytesL_congr (g := w) fun l _ => by unfold fB; rw [if_neg (by omega), EE.out.2.2.2.1]] at h0
                rw [EE.out.2.1, YG.out.2, bytesL_congr (g := w) fun l _ => by unfold fB; rw [if_neg (by omega), EE.out.2.2.2.2.1]] at h1
                exact ⟨own_slice h0 WB.out, own_slice h1 WB.out⟩
              have l4 : (j : Int) + 4 ≥ 4 := by omega
              have l5 : decide ((j : Int) + 4 ≥ 4) = true := decide_eq_true l4
              clear hi hlt ps ei kI
              go_wp2_with (first
                | (refine atLoad 26 (.tmp 3) rfl ?_; refine wpList_ex rfl (execLdBt rfl rfl (by first | exact Q6.out.2.i | exact Q5.out.i)) ?_)
                | (go_at_call 12; refine (rpack_any rd ep lf n _ y' ln (fun t l => c t l ^^^ 170) wr (CEL.out _ Q5.out) HB.out.2.2).mono ?_; rw [hN, hE, hw']; rintro e w9 ⟨r9, rfl, o9, b9⟩; obtain ⟨a9, d9, rfl⟩ := own_shapeJ o9; have Q6 : Hid (SliceN w9 (.slice a9 j d9) j w' ∧ PaS I rd ep lf n (.slice la n lc) y' (n + 2) (pN n ln j) (fB n c w n 0) V1 w9) := ⟨own_slice o9 WB'.out, Q5.out.on b9⟩; clear o9 b9)
                | (go_at_call 13; refine (ppack_any rd ep lf n _ y' ln (fun t l => c t l ^^^ 170) w9 (HB.out.1.on Q6.out.2.bel HB.out.1.sz) (CEL.out _ Q6.out.2) HB.out.2.2).mono ?_; rw [hN, hE, hw']; rintro e w10 ⟨r10, rfl, o10, b10⟩; obtain ⟨a10, d10, rfl⟩ := own_shapeJ o10; have Q7 : Hid ((SliceN w10 (.slice a9 j d9) j w' ∧ SliceN w10 (.slice a10 j d10) j w') ∧ PaS I rd ep lf n (.slice la n lc) y' (n + 2) (pN n ln j) (fB n c w n 0) V1 w10) := ⟨⟨Q6.out.1.on b10, own_slice o10 WB'.out⟩, Q6.out.2.on b10⟩; clear o10 b10)
                | (go_at_call_of 14 a10; refine (same_true w' w' j _ _ _ Q7.out.1.2 Q7.out.1.1 (fun _ _ => rfl)).mono ?_; rintro e w12 ⟨rfl, hw12⟩; subst hw12)
                | (go_at_call_of 14 a2; refine (same_true w w j _ _ _ (TW.out _ Q7.out.2).2 (TW.out _ Q7.out.2).1 (fun _ _ => rfl)).mono ?_; rintro e w11 ⟨rfl, hw11⟩; subst hw11))
              go_ret
              exact ⟨rfl, FIN.out _ Q7.out.2.bel⟩
end Go.Proofs.YtaoncjgllcndmaaDoor.Frm
