import Derived.Test.YtaoncjgllcndmaaDoorD3l
namespace Go.Proofs.YtaoncjgllcndmaaDoor.Frm
open Go.RowKit Gf8 Aes By8 Cel
/- same, sameCells, alike, where they are the same. -/

theorem own_nonnil {W : World} {B n t : Nat} {v : Value} {xs : List Value} (h : W.ownsRow B t 1 v n xs) (hn : 0 < n) : ∀ l c, v = .slice none l c → c = 0 := by
  intro l c e
  rcases h.2 with ⟨_, e0⟩ | ⟨g, cap, cur, rfl, _⟩
  · omega
  · cases e
/-- A list of new cells is a list of cells. -/
theorem CL.cells {B k : Nat} {x : Nat → Value} {p : Nat → Nat} {cv : Value} {W : World} (h : CL B k x p cv W) (hb : ∀ i j, i < k → j < 320 → cellB p i j < 256) (hk : k ≤ 1000) : Cells W cv k x (fun _ => 320) (cellB p) := by
  refine ⟨?_, fun i hi => own_slice (h.fam.rows i hi) fun j hj => hb i j hi hj, fun i hi => own_nonnil (h.fam.rows i hi) (by omega), fun i _ => by omega⟩
  by_cases h0 : 0 < k
  · obtain ⟨g, cap, rfl, hB, hg, hc⟩ := ownL_cells h.own h0
    have : k ≤ cap ∧ cap < 9223372036854775808 := by
      rcases h.own.2 with ⟨e, _⟩ | ⟨g', cap', cur, e, _, _, h1, h2, _⟩
      · cases e
      · injection e with _ _ e3
        unfold maxLen at h2
        omega
    exact ⟨_, cap, rfl, this.1, this.2, fun _ => ⟨g, 0, rfl, hg, fun i hi => by rw [Nat.zero_add]; have := hc i hi; rw [Nat.zero_add] at this; exact this⟩⟩
  · obtain ⟨ao, cap, rfl⟩ := ownL_shape h.own
    have : k ≤ cap ∧ cap < 9223372036854775808 := by
      rcases h.own.2 with ⟨e, _⟩ | ⟨g', cap', cur, e, _, _, h1, h2, _⟩
      · injection e with _ _ e3
        omega
      · injection e with _ _ e3
        unfold maxLen at h2
        omega
    exact ⟨ao, cap, rfl, this.1, this.2, fun q => absurd q h0⟩
set_option maxRecDepth 20000 in
theorem same_true (p q : Nat → Nat) (n : Nat) (v u : Value) (V : World) (hv : SliceN V v n p) (hu : SliceN V u n q) (e : ∀ j, j < n → p j = q j) :
    Calls Tryd.prog 14 #[v, u] V fun r w' => r = .returned (.bool true) ∧ w' = V := by
  have hu' : SliceN V u n p := sliceN_cg hu fun j hj => (e j hj).symm
  have HV : Hid (SliceN V v n p ∧ SliceN V u n p) := ⟨hv, hu'⟩
  clear hv hu hu' e
  go_enter Tryd.func14, Tryd.ntmps14
  go_wp2_with (first
    | (refine wpList_ex rfl (execStr rfl rfl HV.out.1) ?_)
    | (refine wpList_ex rfl (execStr rfl rfl HV.out.2) ?_))
  go_ret
  refine ⟨?_, rfl⟩
  first | rfl | simp
/-- The same cells? -/
structure SameC (n : Nat) (ln lm : Nat → Nat) (c d : Nat → Nat → Nat) : Prop where
  len : ∀ i, i < n → ln i = lm i
  at' : ∀ i j, i < n → j < ln i → c i j = d i j
def scV (b1 o1 b2 o2 i : Nat) (va vb xa xb : Value) (j : Nat) : Value :=
  match j with
  | 0 => va | 1 => .int .i64 (i : Int) | 2 => .pointer (some ⟨b1, o1 + i, none⟩) | 3 => xa | 4 => vb | 5 => .int .i64 (i : Int) | 6 => .pointer (some ⟨b2, o2 + i, none⟩) | 7 => xb | 8 => .bool true | _ => .bool false
section
variable {o : Oper} {a : Act} {w : World}
theorem execIdxC {x i : Operand} {b off n cap k : Nat} (ho : o.op = .indexAddr 24 x i) (hx : a.eval x = .slice (some ⟨b, off, none⟩) n cap) (hi : a.eval i = .int .i64 (k : Int)) (hk : k < n) : (execOp a.eval o).run Tryd.prog w = .ok (.value (.pointer (some ⟨b, off + k, none⟩))) w := by
  have hk' : (k : Int) < n := by omega
  unfold execOp
  simp only [ho, hx, hi]
  simp [go_sem, hk']
theorem execNot {x : Operand} {b : Bool} (ho : o.op = .unOp .not 4 x) (hx : a.eval x = .bool b) : (execOp a.eval o).run Tryd.prog w = .ok (.value (.bool (!b))) w := by
  unfold execOp
  simp only [ho, hx]
  simp [go_sem]
end
set_option maxRecDepth 20000 in
set_option maxHeartbeats 400000 in
theorem sameCells_true (n : Nat) (va vb : Value) (xa xb : Nat → Value) (ln lm : Nat → Nat) (c d : Nat → Nat → Nat) (V : World) (ha : Cells V va n xa ln c) (hb : Cells V vb n xb lm d) (hs : SameC n ln lm c d) (hn : n ≤ 140737488351232) :
    Calls Tryd.prog 22 #[va, vb] V fun r w' => r = .returned (.bool true) ∧ Below V.heap.size V w' := by
  obtain ⟨a1, c1, rfl, _, _, h1⟩ := id ha.shape
  obtain ⟨a2, c2, rfl, _, _, h2⟩ := id hb.shape
  have HB : Hid (Cells V (.slice a1 n c1) n xa ln c ∧ Cells V (.slice a2 n c2) n xb lm d ∧ SameC n ln lm c d) := ⟨ha, hb, hs⟩
  have H1 : Hid (_) := h1
  have H2 : Hid (_) := h2
  have nn : (n : Int) ≤ 140737488351232 := by omega
  clear ha hb hs h1 h2
  go_enter Tryd.func22, Tryd.ntmps22
  go_wp2_with fail
  go_loopw [13] (fun z W => ∃ i : Nat, i ≤ n ∧ z = .int .i64 (i : Int) ∧ Below V.heap.size V W) (fun z _ => n - (intOf z).toNat)
  case atStart => exact ⟨0, Nat.zero_le _, rfl, Below.refl _ _⟩
  case round =>
    obtain ⟨i, hi, rfl, bel⟩ := hrel
    by_cases hlt : i < n
    · have i1 : (i : Int) < n := by omega
      obtain ⟨b1, o1, rfl, l1, e1⟩ := H1.out (by omega)
      obtain ⟨b2, o2, rfl, l2, e2⟩ := H2.out (by omega)
      have HK : Hid (i < n ∧ Below V.heap.size V wr ∧ V.cell? ⟨b1, o1 + i, none⟩ = some (xa i) ∧ V.cell? ⟨b2, o2 + i, none⟩ = some (xb i) ∧ b1 < V.heap.size ∧ b2 < V.heap.size) := ⟨hlt, bel, e1 i hlt, e2 i hlt, l1, l2⟩
      clear e1 e2 l1 l2 hlt hi bel
      go_wp2_with fail
      refine wp_region_det 27 [(0, 16), (1, 17), (2, 18), (3, 19), (4, 20), (5, 21), (6, 22), (7, 23), (8, 24), (9, 25)] (scV b1 o1 b2 o2 i (.slice (some ⟨b1, o1, none⟩) n c1) (.slice (some ⟨b2, o2, none⟩) n c2) (xa i) (xb i)) (fun _ W => Below V.heap.size V W) (by kernel_rfl) (by kernel_rfl) rfl (by kernel_rfl) (by decide) (by decide) ?_ ?_ ?_
      · exact HK.out.2.1.drew
      · intro j hj l a W hl hf hdep hl2 hcl _ hT
        obtain ⟨hlt, _, k1, k2, l1, l2⟩ := HK.out
        match j, hj with
        | 0, _ => exact stepV rfl rfl (execMvB rfl (hf 0 (by decide))) ⟨⟨_, rfl, rfl⟩, hT⟩
        | 1, _ => exact stepV rfl rfl (execMvB rfl (hf 5 (by decide))) ⟨⟨_, rfl, rfl⟩, hT⟩
        | 2, _ => exact stepV rfl rfl (execIdxC rfl (hdep _ rfl 0 rfl _ rfl _ rfl) (hdep _ rfl 1 rfl _ rfl _ rfl) hlt) ⟨⟨_, rfl, rfl⟩, hT⟩
        | 3, _ => exact stepV rfl rfl (execLdL rfl (hdep _ rfl 2 rfl _ rfl _ rfl) ((cell_below hT l1).trans k1)) ⟨⟨_, rfl, rfl⟩, hT⟩
        | 4, _ => exact stepV rfl rfl (execMvB rfl (hf 1 (by decide))) ⟨⟨_, rfl, rfl⟩, hT⟩
        | 5, _ => exact stepV rfl rfl (execMvB rfl (hf 5 (by decide))) ⟨⟨_, rfl, rfl⟩, hT⟩
        | 6, _ => exact stepV rfl rfl (execIdxC rfl (hdep _ rfl 4 rfl _ rfl _ rfl) (hdep _ rfl 5 rfl _ rfl _ rfl) hlt) ⟨⟨_, rfl, rfl⟩, hT⟩
        | 7, _ => exact stepV rfl rfl (execLdL rfl (hdep _ rfl 6 rfl _ rfl _ rfl) ((cell_below hT l2).trans k2)) ⟨⟨_, rfl, rfl⟩, hT⟩
        | 8, _ =>
          have s2 := HB.out.2.1.cell i hlt
          rw [← HB.out.2.2.len i hlt] at s2
          exact stepC rfl rfl (execCall2 Tryd.func14 (by kernel_rfl) (by kernel_rfl) rfl (hdep _ rfl 3 rfl _ rfl _ rfl) (hdep _ rfl 7 rfl _ rfl _ rfl)) (same_true _ _ _ _ _ W ((HB.out.1.cell i hlt).on hT) (s2.on hT) fun j hj => HB.out.2.2.at' i j hlt hj) fun e w' h => ⟨_, h.1, ⟨_, rfl, rfl⟩, by rw [h.2]; exact hT⟩
        | 9, _ => exact stepV rfl rfl (execNot rfl (hdep _ rfl 8 rfl _ rfl _ rfl)) ⟨⟨_, rfl, rfl⟩, hT⟩
        | n + 10, h => exact absurd h (by simp)
      · intro l W hall hT
        have BT : Hid (Below V.heap.size V W) := hT
        clear hall hT
        simp only [putP, scV, Act.put, List.setIfInBounds_toArray, List.set_cons_succ, List.set_cons_zero]
        go_wp2
        go_roundw
        case rel => exact ⟨i + 1, HK.out.1, by go_num, BT.out⟩
        case measure => have := HK.out.1; simp [intOf]; omega
    · have ei : i = n := by omega
      subst ei
      have i1 : ¬ (i : Int) < i := by omega
      have BT : Hid (Below V.heap.size V wr) := bel
      clear bel hi hlt
      go_wp2
      go_ret
      exact ⟨rfl, BT.out⟩
set_option maxRecDepth 20000 in
set_option maxHeartbeats 400000 in
theorem alike_true (rd ep lf : Int) (n : Nat) (va vb : Value) (xa xb : Nat → Value) (ln lm : Nat → Nat) (c d : Nat → Nat → Nat) (V : World) (ha : Cells V va n xa ln c) (hb : Cells V vb n xb lm d) (hs : SameC n ln lm c d) (hn : n ≤ 140737488351232) :
    Calls Tryd.prog 15 #[.agg (bC rd ep lf va), .agg (bC rd ep lf vb)] V fun r w' => r = .returned (.bool true) ∧ Below V.heap.size V w' := by
  obtain ⟨V2, hV2⟩ : ∃ V2, (V.alloc (.cells (bC rd ep lf va) 26)).alloc (.cells (bC rd ep lf vb) 26) = V2 := ⟨_, rfl⟩
  have hh := heap2c V (.cells (bC rd ep lf va) 26) (.cells (bC rd ep lf vb) 26)
  have bl := below2c V (.cells (bC rd ep lf va) 26) (.cells (bC rd ep lf vb) 26)
  rw [hV2] at hh bl
  obtain ⟨_, _, _, k1⟩ := bC_at _ _ _ _ hh.1
  obtain ⟨_, _, _, k2⟩ := bC_at _ _ _ _ hh.2
  have HB : Hid (Cells V2 va n xa ln c ∧ Cells V2 vb n xb lm d ∧ SameC n ln lm c d ∧ n ≤ 140737488351232 ∧ Below V.heap.size V V2) := ⟨ha.on bl, hb.on bl, hs, hn, bl⟩
  have HH : Hid (_ ∧ _) := hh
  have eqh := eqlH
  clear ha hb hs hn bl hh
  go_enter Tryd.func15, Tryd.ntmps15
  go_wp2_with (first
    | (refine atLoad 23 (.tmp 5) rfl ?_; go_must (refine wpList_ex rfl (execLoadMid (cs := (hC rd ep lf).toList) rfl rfl (range_b3 HH.out.1) Tryd.underlying23 rfl (by kernel_rfl)) ?_))
    | (refine atLoad 23 (.tmp 7) rfl ?_; go_must (refine wpList_ex rfl (execLoadMid (cs := (hC rd ep lf).toList) rfl rfl (range_b3 HH.out.2) Tryd.underlying23 rfl (by kernel_rfl)) ?_))
    | (go_at_call 22; refine (sameCells_true n _ _ xa xb ln lm c d V2 HB.out.1 HB.out.2.1 HB.out.2.2.1 HB.out.2.2.2.1).mono ?_; rintro e w1 ⟨rfl, b1⟩))
  go_ret
  refine ⟨rfl, HB.out.2.2.2.2.trans (b1.mono HB.out.2.2.2.2.size)⟩
end Go.Proofs.YtaoncjgllcndmaaDoor.Frm
