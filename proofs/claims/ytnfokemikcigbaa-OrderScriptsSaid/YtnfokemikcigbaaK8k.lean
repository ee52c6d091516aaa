import Derived.Test.YtnfokemikcigbaaK8j
namespace Go.Proofs.Ytnfokemikcigbaa.Ord
open Go.RowKit Gf8 Aes By8 Cel Cf Win Drw Prm
open Go.ChangeMaps Go.MapKept
/- OrderScripts. Written by tools/mkK8k.py. -/

def vv (a b : Nat) : Nat → Value
  | 0 => .pointer (some ⟨a, 0, none⟩)
  | 1 => .pointer (some ⟨b, 0, none⟩)
  | _ => .pointer none
def c3 (v : Nat → Value) : Array Value := #[v 0, v 1, v 2]
theorem c3_at {W : World} {g m : Nat} {v : Nat → Value} {t : TypeId} (h : W.heap[g]? = some (.cells (c3 v) t)) (hm : m < 3) : W.cell? ⟨g, m, none⟩ = some (v m) := by
  rcases lt3 hm with rfl | rfl | rfl <;> (rw [cell_of_row _ _ _ _ _ _ h]; rfl)
section
variable {o : Oper} {a : Act} {w : World}
theorem execIxB {x i : Operand} {b n cap k : Nat} (ho : o.op = .indexAddr 26 x i) (hx : a.eval x = .slice (some ⟨b, 0, none⟩) n cap) (hi : a.eval i = .int .i64 ((k : Nat) : Int)) (hk : k < n) : (execOp a.eval o).run Try.prog w = .ok (.value (.pointer (some ⟨b, k, none⟩))) w := by
  unfold execOp
  simp only [ho, hx, hi]
  simp [go_sem, hk]
theorem execIxK {x i : Operand} {b n cap k : Nat} (ho : o.op = .indexAddr 27 x i) (hx : a.eval x = .slice (some ⟨b, 0, none⟩) n cap) (hi : a.eval i = .int .i64 ((k : Nat) : Int)) (hk : k < n) : (execOp a.eval o).run Try.prog w = .ok (.value (.pointer (some ⟨b, k * 2, none⟩))) w := by
  unfold execOp
  simp only [ho, hx, hi]
  simp [go_sem, hk]
theorem execIxX {x i : Operand} {b off n cap k : Nat} (ho : o.op = .indexAddr 22 x i) (hx : a.eval x = .slice (some ⟨b, off, none⟩) n cap) (hi : a.eval i = .int .i64 ((k : Nat) : Int)) (hk : k < n) : (execOp a.eval o).run Try.prog w = .ok (.value (.pointer (some ⟨b, off + k * 4, none⟩))) w := by
  unfold execOp
  simp only [ho, hx, hi]
  simp [go_sem, hk]
theorem execLdX {x : Operand} {b k : Nat} {p q r s : Int} (ho : o.op = .load 29 x) (hx : a.eval x = .pointer (some ⟨b, k, none⟩)) (hc : w.rangeAt b k (xL p q r s)) : (execOp a.eval o).run Try.prog w = .ok (.value (.agg (xC p q r s))) w :=
  execLoadMid (P := Try.prog) ho hx hc Try.underlying29 rfl (by show _ = some 4; kernel_rfl)
theorem execAlX (ho : o.op = .alloc 29) : (execOp a.eval o).run Try.prog w = .ok (.value (.pointer (some ⟨w.heap.size, 0, none⟩))) (w.alloc (.cells (xC 0 0 0 0) 29)) := by
  unfold execOp
  simp only [ho]
  simp [go_sem, xC]
theorem execStX {x y : Operand} {g : Nat} {p q r s p0 q0 r0 s0 : Int} (ho : o.op = .store 29 x y) (hx : a.eval x = .pointer (some ⟨g, 0, none⟩)) (hy : a.eval y = .agg (xC p q r s)) (hg : w.heap[g]? = some (.cells (xC p0 q0 r0 s0) 29)) : (execOp a.eval o).run Try.prog w = .ok .skip (w.setRow g (xC p q r s)) := by
  have h := execStMid (P := Try.prog) ho hx hy hg (Nat.le_refl _) (show (Try.prog.info? 29).map (·.size) = some (xC p q r s).size from by show _ = some 4; kernel_rfl) (by simp [xC, Value.oneCell'])
  exact h
theorem execBs3 {x y : Operand} {p q : Nat} (ho : o.op = .buildSlice 26 3 #[(0, x), (1, y), (2, .const (.pointer none))]) (hx : a.eval x = .pointer (some ⟨p, 0, none⟩)) (hy : a.eval y = .pointer (some ⟨q, 0, none⟩)) : (execOp a.eval o).run Try.prog w = .ok (.value (.slice (some ⟨w.heap.size, 0, none⟩) 3 3)) (w.alloc (.cells (c3 (vv p q)) 24)) := by
  unfold execOp
  simp only [ho, List.map_toArray, List.map_cons, List.map_nil, hx, hy]
  kernel_rfl
theorem execMk3 {x y : Operand} (ho : o.op = .makeSlice 27 x y) (hx : a.eval x = .int .i64 3) (hy : a.eval y = .int .i64 3) : (execOp a.eval o).run Try.prog w = .ok (.value (.slice (some ⟨w.heap.size, 0, none⟩) 3 3)) (w.alloc (.cells (b3 (fun _ => .slice none 0 0) (fun _ => 0)) 35)) := by
  have h : (Try.prog.info? 35).map (fun i => (i.zero, i.size, i.bytes)) = some (some (.agg #[.slice none 0 0, .int .i64 0]), 2, 32) := by kernel_rfl
  obtain ⟨i, h1, h2⟩ := Option.map_eq_some_iff.1 h
  simp only [Prod.mk.injEq] at h2
  obtain ⟨h2, h3, h4⟩ := h2
  have h := run_make (P := Try.prog) w 27 35 i _ Try.underlying27 h1 h2 .i64 .i64 3 3 (by omega) (by omega) (by rw [h4]; omega) (by omega)
  rw [h3] at h
  have e : madeCells (Value.agg #[.slice none 0 0, .int .i64 0]).cells (Int.toNat 3 * 2) = b3 (fun _ => .slice none 0 0) (fun _ => 0) := by kernel_rfl
  rw [e] at h
  unfold execOp
  simp only [ho, hx, hy, Sem.run_bind, h, Result.andThen_ok, Sem.run_pure]
  rfl
end
theorem xC_range {W : World} {g : Nat} {k b i x : Int} {t : TypeId} (h : W.heap[g]? = some (.cells (xC k b i x) t)) : W.rangeAt g 0 (xL k b i x) := by
  obtain ⟨h0, h1, h2, h3⟩ := xC_at h
  intro j v hv
  match j, hv with
  | 0, hv => exact h0.trans hv
  | 1, hv => exact h1.trans hv
  | 2, hv => exact h2.trans hv
  | 3, hv => exact h3.trans hv
  | j + 4, hv => cases hv
/-- Two buffers, what they hold, and the rows of their books; the third is none. -/
structure Scs (W : World) (B bb kb : Nat) (F : Nat → Nat → Prop) (v r : Nat → Value) (p q : Nat → Nat → Int) (l nn : Nat → Nat) (S : Nat → Its) (k : Nat) : Prop where
  dr : ∀ i, i < 2 → BR 66 W (F i) (v i) (S i) (nn i)
  row : ∀ i, i < 2 → W.ownsRow B 69 2 (r i) (l i) (pL (l i) (p i) (q i))
  bk : ∀ i, i < 2 → Bk (p i) (q i) (l i) (nn i) (S i)
  le : ∀ i, i < 2 → l i ≤ k
  dis : ∀ i j x, i < 2 → j < 2 → i ≠ j → F i x → ¬ F j x
  rof : ∀ i j g, i < 2 → j < 2 → (r i).ownBlock = some g → ¬ F j g
  rdis : ∀ i j g, i < 2 → j < 2 → i ≠ j → (r i).ownBlock = some g → (r j).ownBlock ≠ some g
  ge : ∀ i x, i < 2 → F i x → B ≤ x
  kof : ∀ i, i < 2 → ¬ F i bb ∧ ¬ F i kb
  kr : ∀ i g, i < 2 → (r i).ownBlock = some g → g ≠ bb ∧ g ≠ kb
  two : r 2 = .slice none 0 0 ∧ nn 2 = 0
  gb : B ≤ kb ∧ bb ≠ kb
  lt : bb < W.heap.size ∧ kb < W.heap.size
section
variable {W X : World} {B bb kb k : Nat} {F : Nat → Nat → Prop} {v r : Nat → Value} {p q : Nat → Nat → Int} {l nn : Nat → Nat} {S : Nat → Its}
theorem Scs.on (h : Scs W B bb kb F v r p q l nn S k) (hb : Below W.heap.size W X) : Scs X B bb kb F v r p q l nn S k :=
  { h with dr := fun i hi => (h.dr i hi).on hb, row := fun i hi => ownD_below (h.row i hi) hb, lt := ⟨Nat.lt_of_lt_of_le h.lt.1 hb.size, Nat.lt_of_lt_of_le h.lt.2 hb.size⟩ }
theorem Scs.more (h : Scs W B bb kb F v r p q l nn S k) : Scs W B bb kb F v r p q l nn S (k + 1) := { h with le := fun i hi => Nat.le_succ_of_le (h.le i hi) }
/-- A step in memory is laid or written over: none of all this. -/
theorem Scs.over (h : Scs W B bb kb F v r p q l nn S k) {g : Nat} {d : Array Value} {t : TypeId} (hg : W.heap[g]? = some (.cells d t)) (ht : t ≠ 69) (hof : ∀ i, i < 2 → ¬ F i g) (gr : W.grownBy X (some g)) : Scs X B bb kb F v r p q l nn S k :=
  { h with dr := fun i hi => br_gr (h.dr i hi) gr (fun g e => by cases e; exact hof i hi), row := fun i hi => ownG_T (h.row i hi) hg ht gr, lt := ⟨Nat.lt_of_lt_of_le h.lt.1 gr.size, Nat.lt_of_lt_of_le h.lt.2 gr.size⟩ }
/-- A call of buffer m beside its book. -/
theorem Scs.play (h : Scs W B bb kb F v r p q l nn S k) {m : Nat} (hm : m < 2) {F' : Nat → Prop} {r' : Value} {p' q' : Nat → Int} {l' n' : Nat} {S' : Its} (hR : BR 66 X F' (v m) S' n') (own : X.ownsRow B 69 2 r' l' (pL l' p' q')) (hB : Bk p' q' l' n' S') (hl : l' ≤ l m + 1) (off : ∀ g, r'.ownBlock = some g → ¬ F' g) (new : ∀ g, r'.ownBlock = some g → (r m).ownBlock = some g ∨ W.heap.size ≤ g) (sub : ∀ x, F' x → F m x ∨ W.heap.size ≤ x) (sv : Saved (Gm (F m) kb (r m)) W X) (hBW : B ≤ W.heap.size) :
    Scs X B bb kb (up F m F') v (up r m r') (up p m p') (up q m q') (up l m l') (up nn m n') (up S m S') (k + 1) := by
  have hlt : ∀ i, i < 2 → ∀ x, F i x → x < W.heap.size := fun i hi x hx => (h.dr i hi).lt x hx
  have rl : ∀ i, i < 2 → ∀ g, (r i).ownBlock = some g → g < W.heap.size := fun i hi g hg => ((h.row i hi).lt g hg).2
  refine ⟨fun i hi => ?_, fun i hi => ?_, fun i hi => ?_, fun i hi => ?_, fun i j x hi hj hij hx => ?_, fun i j g hi hj hg => ?_, fun i j g hi hj hij hg => ?_, fun i x hi hx => ?_, fun i hi => ?_, fun i g hi hg => ?_, ?_, h.gb, ⟨Nat.lt_of_lt_of_le h.lt.1 sv.size, Nat.lt_of_lt_of_le h.lt.2 sv.size⟩⟩
  · by_cases e : i = m
    · subst e; simp only [up_at]; exact hR
    · simp only [up_ne _ _ e]
      refine (h.dr i hi).frame (fun b hb => sv.block b (hlt i hi b hb) ?_) sv.size
      rintro (w | w | w)
      · exact h.dis i m b hi hm e hb w
      · rw [w] at hb; exact (h.kof i hi).2 hb
      · exact h.rof m i b hm hi w hb
  · by_cases e : i = m
    · subst e; simp only [up_at]; exact own
    · simp only [up_ne _ _ e]
      refine own_sv (h.row i hi) sv fun g hg => ?_
      rintro (w | w | w)
      · exact h.rof i m g hi hm hg w
      · exact (h.kr i g hi hg).2 w
      · exact h.rdis i m g hi hm e hg w
  · by_cases e : i = m
    · subst e; simp only [up_at]; exact hB
    · simp only [up_ne _ _ e]; exact h.bk i hi
  · by_cases e : i = m
    · subst e; rw [up_at]; have := h.le i hi; omega
    · rw [up_ne _ _ e]; have := h.le i hi; omega
  · by_cases ei : i = m
    · subst ei
      rw [up_at] at hx
      rw [up_ne _ _ (Ne.symm hij)]
      rcases sub x hx with h1 | h1
      · exact h.dis i j x hi hj hij h1
      · exact fun h2 => Nat.not_lt.2 h1 (hlt j hj x h2)
    · rw [up_ne _ _ ei] at hx
      by_cases ej : j = m
      · subst ej
        rw [up_at]
        intro h2
        rcases sub x h2 with h1 | h1
        · exact h.dis i j x hi hj hij hx h1
        · exact Nat.not_lt.2 h1 (hlt i hi x hx)
      · rw [up_ne _ _ ej]; exact h.dis i j x hi hj hij hx
  · by_cases ei : i = m
    · subst ei
      rw [up_at] at hg
      by_cases ej : j = i
      · subst ej; rw [up_at]; exact off g hg
      · rw [up_ne _ _ ej]
        rcases new g hg with h1 | h1
        · exact h.rof i j g hi hj h1
        · exact fun h2 => Nat.not_lt.2 h1 (hlt j hj g h2)
    · rw [up_ne _ _ ei] at hg
      by_cases ej : j = m
      · subst ej
        rw [up_at]
        intro h2
        rcases sub g h2 with h1 | h1
        · exact h.rof i j g hi hj hg h1
        · exact Nat.not_lt.2 h1 (rl i hi g hg)
      · rw [up_ne _ _ ej]; exact h.rof i j g hi hj hg
  · by_cases ei : i = m
    · subst ei
      rw [up_at] at hg
      rw [up_ne _ _ (Ne.symm hij)]
      rcases new g hg with h1 | h1
      · exact h.rdis i j g hi hj hij h1
      · exact fun h2 => Nat.not_lt.2 h1 (rl j hj g h2)
    · rw [up_ne _ _ ei] at hg
      by_cases ej : j = m
      · subst ej
        rw [up_at]
        intro h2
        rcases new g h2 with h1 | h1
        · exact h.rdis i j g hi hj hij hg h1
        · exact Nat.not_lt.2 h1 (rl i hi g hg)
      · rw [up_ne _ _ ej]; exact h.rdis i j g hi hj hij hg
  · by_cases e : i = m
    · subst e
      rw [up_at] at hx
      rcases sub x hx with h1 | h1
      · exact h.ge i x hi h1
      · omega
    · rw [up_ne _ _ e] at hx; exact h.ge i x hi hx
  · by_cases e : i = m
    · subst e
      rw [up_at]
      refine ⟨fun h2 => ?_, fun h2 => ?_⟩
      · rcases sub _ h2 with h1 | h1
        · exact (h.kof i hi).1 h1
        · exact Nat.not_lt.2 h1 h.lt.1
      · rcases sub _ h2 with h1 | h1
        · exact (h.kof i hi).2 h1
        · exact Nat.not_lt.2 h1 h.lt.2
    · rw [up_ne _ _ e]; exact h.kof i hi
  · by_cases e : i = m
    · subst e
      rw [up_at] at hg
      rcases new g hg with h1 | h1
      · exact h.kr i g hi h1
      · have := h.lt; exact ⟨by omega, by omega⟩
    · rw [up_ne _ _ e] at hg; exact h.kr i g hi hg
  · rw [up_ne _ _ (by omega), up_ne _ _ (by omega)]; exact h.two
theorem Scs.begin {ga gb : Nat} {F1 F2 : Nat → Prop} (h1 : BR 66 W F1 (.pointer (some ⟨ga, 0, none⟩)) [] 0) (h2 : BR 66 W F2 (.pointer (some ⟨gb, 0, none⟩)) [] 0) (hd : ∀ x, F1 x → ¬ F2 x) (g1 : ∀ x, F1 x → B ≤ x) (g2 : ∀ x, F2 x → B ≤ x) (n1 : ¬ F1 bb ∧ ¬ F1 kb) (n2 : ¬ F2 bb ∧ ¬ F2 kb) (hk : B ≤ kb) (hne : bb ≠ kb) (hl : bb < W.heap.size ∧ kb < W.heap.size) :
    Scs W B bb kb (fun i => if i = 0 then F1 else F2) (vv ga gb) (fun _ => .slice none 0 0) (fun _ _ => 0) (fun _ _ => 0) (fun _ => 0) (fun _ => 0) (fun _ => []) 0 := by
  have t2 : ∀ {i}, i < 2 → i = 0 ∨ i = 1 := fun h => by omega
  refine ⟨fun i hi => ?_, fun i _ => own_none20 _ _ _ _ _, fun i _ => Bk.zero _ _, fun i _ => Nat.le_refl _, fun i j x hi hj hij hx => ?_, fun i j g _ _ hg => (by cases hg), fun i j g _ _ _ hg => (by cases hg), fun i x hi hx => ?_, fun i hi => ?_, fun i g _ hg => (by cases hg), ⟨rfl, rfl⟩, ⟨hk, hne⟩, hl⟩
  · rcases t2 hi with rfl | rfl
    · exact h1
    · exact h2
  · rcases t2 hi with rfl | rfl <;> rcases t2 hj with rfl | rfl
    · exact absurd rfl hij
    · exact hd x hx
    · exact fun w => hd x w hx
    · exact absurd rfl hij
  · rcases t2 hi with rfl | rfl
    · exact g1 x hx
    · exact g2 x hx
  · rcases t2 hi with rfl | rfl
    · exact n1
    · exact n2
end
/-- One call of a buffer, whatever the step. -/
theorem played_any (v : Value) (F : Nat → Prop) (kb m : Nat) (r : Nat → Value) (nn : Nat → Nat) (p q : Nat → Int) (l : Nat) (S : Its) (kd wh i x : Int) (U V : World) (hUV : Below U.heap.size U V) (hR : BR 66 V F v S (nn m)) (hK : V.heap[kb]? = some (.cells (b3 r nn) 35)) (hm : m < 3) (own : V.ownsRow U.heap.size 69 2 (r m) l (pL l p q)) (hB : Bk p q l (nn m) S) (hl : l ≤ 4398046511104) (hkb : ¬ F kb) (hku : U.heap.size ≤ kb) (hF : ∀ q, F q → U.heap.size ≤ q) (hr : ∀ g, (r m).ownBlock = some g → ¬ F g) (hi : I64 i) :
    Calls Try.prog 10 #[v, .pointer (some ⟨kb, m * 2, none⟩), .agg (xC kd wh i x), .bool false] V fun e w' => Plyd U V F v kb m r nn l e w' ∧ Below U.heap.size U w' := by
  by_cases hk0 : kd = 0
  · by_cases h0 : i < 0
    · exact ply_a v F kb m r nn p q l S kd wh i x U V hUV hR hK hm own hB hl hr hk0 h0
    · by_cases hj : ∃ j, j < l ∧ p j = i
      · obtain ⟨j, h1, h2⟩ := hj
        exact ply_t v F kb m r nn p q l S kd wh i x U V hUV hR hK hm own hB hl hr hi hk0 h0 j h1 h2
      · exact ply_o v F kb m r nn p q l S kd wh i x U V hUV hR hK hm own hB hl hkb hku hF hr hi hk0 h0 (fun j w1 w2 => hj ⟨j, w1, w2⟩)
  · by_cases hk1 : kd = 1
    · by_cases hj : ∃ j, j < l ∧ p j = ((nn m : Nat) : Int)
      · obtain ⟨j, h1, h2⟩ := hj
        exact ply_g v F kb m r nn p q l S kd wh i x U V hUV hR hK hm own hB hl hkb hku hF hr hk0 hk1 j h1 h2
      · exact ply_e v F kb m r nn p q l S kd wh i x U V hUV hR hK hm own hB hl hr hk0 hk1 (fun j w1 w2 => hj ⟨j, w1, w2⟩)
    · exact ply_x v F kb m r nn p q l S kd wh i x U V hUV hR hK hm own hB hl hr hk0 hk1
theorem played_nil (kb m : Nat) (r : Nat → Value) (nn : Nat → Nat) (kd wh i x : Int) (V : World) (hK : V.heap[kb]? = some (.cells (b3 r nn) 35)) (hm : m < 3) (hrm : r m = .slice none 0 0) (hnm : nn m = 0) :
    Calls Try.prog 10 #[.pointer none, .pointer (some ⟨kb, m * 2, none⟩), .agg (xC kd wh i x), .bool true] V fun e w' => e = .returned (.bool true) ∧ Below V.heap.size V w' := by
  have R := Below.refl V.heap.size V
  by_cases hk0 : kd = 0
  · by_cases h0 : i < 0
    · exact ply_na kb m r nn kd wh i x V V R hK hm hrm hnm hk0 h0
    · exact ply_no kb m r nn kd wh i x V V R hK hm hrm hnm hk0 h0
  · by_cases hk1 : kd = 1
    · exact ply_ne kb m r nn kd wh i x V V R hK hm hrm hnm hk0 hk1
    · exact ply_nx kb m r nn kd wh i x V V R hK hm hrm hnm hk0 hk1
set_option maxRecDepth 100000 in
set_option maxHeartbeats 4000000 in
/-- OrderScripts. -/
theorem scripts20 (sv : Value) (l : Nat) (kd wh ix xx : Nat → Int) (V : World) (hP : Sp4 V sv l kd wh ix xx) (hl : l ≤ 4398046510976) :
    Calls Try.prog 3 #[sv] V fun e w' => e = .returned (.bool true) ∧ Below V.heap.size V w' := by
  go_enter Try.func3, Try.ntmps3
  refine wo_ 46 [(0, sv)] ?_
  rintro a A ⟨t0, -⟩
  have BW : Below V.heap.size V V := Below.refl _ _
  have BB : Below V.heap.size V V := Below.refl _ _
  refine wp_seq ?_
  refine wi_ A (h1_ t0) (rf_ [] (h1_ t0) ?_)
  rintro a A - ⟨t0, -⟩
  refine wp_seq ?_
  refine wp_seq ?_
  refine wi_ A (h1_ t0) (rc_ 0 (awake20 V) (cb_ fun X1 bQ => ?_))
  replace BB := BB.trans (bQ.mono BB.size)
  clear bQ
  refine rv_ 1 (.bool false) (fun a ee => execNot8 (b := true) rfl (ee _)) (rf_ [(9, .bool false)] (h1_ t0) ?_)
  rintro a A ⟨t9, -⟩ ⟨t0, -⟩
  refine wp_cond_false t9 ?_
  refine wp_skip ?_
  clear t9
  refine wp_seq ?_
  refine wi_ A (h1_ t0) (rc_ 0 (pnewI X1) fun e X3_1 hh => ?_)
  obtain ⟨⟨ga, fp1, he, hk, hf⟩, hb⟩ := hh
  refine ⟨_, he, ?_⟩
  have bQ : Below X1.heap.size X1 X3_1 := hb
  have FR1 : (BR 66 X3_1 fp1 (.pointer (some ⟨ga, 0, none⟩)) [] 0) := hk
  have Fg1 : (∀ x, fp1 x → V.heap.size ≤ x) := fun q hq => Nat.le_trans (BB).size (hf q hq)
  replace BB := BB.trans (bQ.mono BB.size)
  clear bQ
  refine rc_ 1 (pnewI X3_1) fun e X3_2 hh => ?_
  obtain ⟨⟨gb, fp2, he, hk, hf⟩, hb⟩ := hh
  refine ⟨_, he, ?_⟩
  have bQ : Below X3_1.heap.size X3_1 X3_2 := hb
  have FR2 : (BR 66 X3_2 fp2 (.pointer (some ⟨gb, 0, none⟩)) [] 0) := hk
  have Fg2 : (∀ x, fp2 x → V.heap.size ≤ x) := fun q hq => Nat.le_trans (BB).size (hf q hq)
  have Fdis : (∀ x, fp1 x → ¬ fp2 x) := fun x h1 h2 => Nat.not_lt.2 (hf x h2) (FR1.lt x h1)
  replace FR1 := (FR1.on bQ)
  replace BB := BB.trans (bQ.mono BB.size)
  clear bQ
  obtain ⟨bb, egbb⟩ : ∃ z_ : Nat, X3_2.heap.size = z_ := ⟨_, rfl⟩
  refine rs_ 2 (fun a ee => ?_)
  refine stepV rfl rfl (execBs3 rfl (ee _) (ee _)) ⟨.slice (some ⟨bb, 0, none⟩) 3 3, ⟨_, rfl, by subst egbb; rfl⟩, fun X3 hX => ?_⟩
  have bQ : Below X3_2.heap.size X3_2 X3 := by subst hX egbb; exact (belNew X3_2 _)
  have FB : (X3.heap[bb]? = some (.cells (c3 (vv ga gb)) 24)) := by subst hX egbb; exact heapNew X3_2 _
  have Fb1 : (¬ fp1 bb) := by subst hX egbb; exact fun h => Nat.lt_irrefl _ (FR1.lt _ h)
  have Fb2 : (¬ fp2 bb) := by subst hX egbb; exact fun h => Nat.lt_irrefl _ (FR2.lt _ h)
  replace FR1 := (FR1.on bQ)
  replace FR2 := (FR2.on bQ)
  replace BB := BB.trans (bQ.mono BB.size)
  clear bQ hX egbb ee a
  refine rf_ [(3, .slice (some ⟨bb, 0, none⟩) 3 3)] (h1_ t0) ?_
  rintro a A ⟨t3, -⟩ ⟨t0, -⟩
  refine wp_seq ?_
  obtain ⟨kb, egkb⟩ : ∃ z_ : Nat, X3.heap.size = z_ := ⟨_, rfl⟩
  refine wi_ A (h2_ t0 t3) (rs_ 0 (fun a ee => ?_))
  refine stepV rfl rfl (execMk3 rfl rfl rfl) ⟨.slice (some ⟨kb, 0, none⟩) 3 3, ⟨_, rfl, by subst egkb; rfl⟩, fun X4 hX => ?_⟩
  have bQ : Below X3.heap.size X3 X4 := by subst hX egkb; exact (belNew X3 _)
  have FK : (X4.heap[kb]? = some (.cells (b3 (fun _ => .slice none 0 0) (fun _ => 0)) 35)) := by subst hX egkb; exact heapNew X3 _
  have Fk1 : (¬ fp1 kb) := by subst hX egkb; exact fun h => Nat.lt_irrefl _ (FR1.lt _ h)
  have Fk2 : (¬ fp2 kb) := by subst hX egkb; exact fun h => Nat.lt_irrefl _ (FR2.lt _ h)
  have Fkg : (V.heap.size ≤ kb) := by subst hX egkb; exact (BB).size
  have Fkn : (bb ≠ kb) := by subst hX egkb; exact Nat.ne_of_lt (Array.getElem?_eq_some_iff.1 FB).1
  replace FR1 := (FR1.on bQ)
  replace FR2 := (FR2.on bQ)
  replace FB := (on9 FB bQ)
  replace BB := BB.trans (bQ.mono BB.size)
  clear bQ hX egkb ee a
  refine rf_ [(4, .slice (some ⟨kb, 0, none⟩) 3 3)] (h2_ t0 t3) ?_
  rintro a A ⟨t4, -⟩ ⟨t0, t3, -⟩
  have FQ := Scs.begin FR1 FR2 Fdis Fg1 Fg2 ⟨Fb1, Fk1⟩ ⟨Fb2, Fk2⟩ Fkg Fkn ⟨(Array.getElem?_eq_some_iff.1 FB).1, (Array.getElem?_eq_some_iff.1 FK).1⟩
  clear FR1 FR2 Fdis Fg1 Fg2 Fb1 Fb2 Fk1 Fk2 Fkg Fkn
  refine wp_seq ?_
  refine wp_seq ?_
  refine wi_ A (h3_ t0 t3 t4) (rv_ 1 (.pointer (some ⟨bb, 0, none⟩)) (fun a ee => execIxB (k := 0) rfl (ee _) rfl (by omega)) (rv_ 2 (.pointer (some ⟨ga, 0, none⟩)) (fun a ee => execL20 rfl (Or.inr (Or.inr (Or.inr (Or.inr (Or.inr (Or.inl rfl)))))) (ee _) (c3_at FB (by omega))) (rv_ 3 (.bool false) (fun a ee => execPIeqls rfl (ee _)) (rv_ 6 (.pointer (some ⟨bb, 1, none⟩)) (fun a ee => execIxB (k := 1) rfl (ee _) rfl (by omega)) (rv_ 7 (.pointer (some ⟨gb, 0, none⟩)) (fun a ee => execL20 rfl (Or.inr (Or.inr (Or.inr (Or.inr (Or.inr (Or.inl rfl)))))) (ee _) (c3_at FB (by omega))) (rv_ 8 (.bool false) (fun a ee => execPIeqls rfl (ee _)) (rf_ [(23, .bool false)] (h3_ t0 t3 t4) ?_)))))))
  rintro a A ⟨t23, -⟩ ⟨t0, t3, t4, -⟩
  refine wp_cond_false t23 ?_
  refine wp_skip ?_
  clear t23
  refine wp_seq ?_
  refine wp_seq ?_
  refine wi_ A (h3_ t0 t3 t4) (rv_ 1 (.int .i64 ((l : Nat) : Int)) (fun a ee => execLnP (len := l) rfl (Or.inr (Or.inr (Or.inr (rfl)))) (ee _) hP.shp) (rf_ [(24, sv), (25, .int .i64 ((l : Nat) : Int)), (26, .int .i64 ((0 : Nat) : Int))] (h2_ t3 t4) ?_))
  rintro a A ⟨t24, t25, t26, -⟩ ⟨t3, t4, -⟩
  refine wp_block ?_
  refine wp_loop (fun a W => ∃ (i : Nat) (F : (Nat → Nat → Prop)) (r : (Nat → Value)) (p : (Nat → Nat → Int)) (q : (Nat → Nat → Int)) (ll : (Nat → Nat)) (nn : (Nat → Nat)) (S : (Nat → Its)), i ≤ l ∧ (a.tmps.size = 46 ∧ a.defers = []) ∧ a.eval (.tmp 3) = .slice (some ⟨bb, 0, none⟩) 3 3 ∧ a.eval (.tmp 4) = .slice (some ⟨kb, 0, none⟩) 3 3 ∧ a.eval (.tmp 24) = sv ∧ a.eval (.tmp 25) = .int .i64 ((l : Nat) : Int) ∧ a.eval (.tmp 26) = .int .i64 ((i : Nat) : Int) ∧ Below V.heap.size V W ∧ (Scs W V.heap.size bb kb F (vv ga gb) r p q ll nn S i) ∧ (W.heap[kb]? = some (.cells (b3 r nn) 35)) ∧ (W.heap[bb]? = some (.cells (c3 (vv ga gb)) 24))) (fun a _ => l - (intOf (a.eval (.tmp 26))).toNat) ⟨0, (fun i => if i = 0 then fp1 else fp2), (fun _ => .slice none 0 0), (fun _ _ => 0), (fun _ _ => 0), (fun _ => 0), (fun _ => 0), (fun _ => []), Nat.zero_le _, A, t3, t4, t24, t25, t26, BB, FQ, FK, FB⟩ ?_
  clear A t3 t4 t24 t25 t26 BB FQ FK FB a
  rintro a XL8 ⟨i, F, r, p, q, ll, nn, S, hi, A, t3, t4, t24, t25, t26, BB, FQ, FK, FB⟩
  have esi := t26
  refine wp_seq ?_
  refine wi_ A (h5_ t3 t4 t24 t25 t26) (rv_ 0 (.bool (decide (i < l))) (fun a ee => execLtW (p := i) (q := l) rfl (ee _) (ee _)) (rf_ [(27, .bool (decide (i < l)))] (h5_ t3 t4 t24 t25 t26) ?_))
  rintro a A ⟨t27, -⟩ ⟨t3, t4, t24, t25, t26, -⟩
  refine wp_seq ?_
  by_cases lti : i < l
  · rw [decide_eq_true lti] at t27
    refine wp_cond_true t27 ?_
    refine wp_skip ?_
    clear t27
    refine wp_seq ?_
    refine wp_block ?_
    obtain ⟨pb, po, pc, ep_, hpb, hpc⟩ := hP.at (show 0 < l by omega)
    have cP : ∀ X, Below V.heap.size V X → X.rangeAt pb (po + i * 4) (xL (kd i) (wh i) (ix i) (xx i)) := fun X hX => range20 (hpc i lti) hX hpb
    have hnm := hP.num i lti
    refine wp_seq ?_
    obtain ⟨g6, egg6⟩ : ∃ z_ : Nat, XL8.heap.size = z_ := ⟨_, rfl⟩
    refine wi_ A (h5_ t3 t4 t24 t25 t26) (rv_ 0 (.pointer (some ⟨pb, po + i * 4, none⟩)) (fun a ee => execIxX (k := i) rfl ((ee _).trans ep_) (ee _) lti) (rv_ 1 (.agg (xC (kd i) (wh i) (ix i) (xx i))) (fun a ee => execLdX rfl (ee _) (cP XL8 BB)) (rs_ 2 (fun a ee => ?_))))
    refine stepV rfl rfl (execAlX rfl) ⟨.pointer (some ⟨g6, 0, none⟩), ⟨_, rfl, by subst egg6; rfl⟩, fun X9_1 hX => ?_⟩
    have bQ : Below XL8.heap.size XL8 X9_1 := by subst hX egg6; exact (belNew XL8 _)
    have Fx : (X9_1.heap[g6]? = some (.cells (xC 0 0 0 0) 29)) := by subst hX egg6; exact heapNew XL8 _
    have Fxg : (V.heap.size ≤ g6) := by subst hX egg6; exact (BB).size
    have Fxo : (∀ i, i < 2 → ¬ F i g6) := by subst hX egg6; exact fun i hi h => Nat.lt_irrefl _ ((FQ.dr i hi).lt _ h)
    replace FQ := (FQ.on bQ)
    replace FK := (on9 FK bQ)
    replace FB := (on9 FB bQ)
    replace BB := BB.trans (bQ.mono BB.size)
    clear bQ hX egg6 ee a
    refine rs_ 3 (fun a ee => ?_)
    refine stepS rfl rfl (execStX rfl (ee _) (ee _) Fx) ⟨_, ⟨_, rfl, rfl⟩, fun X9 hX => ?_⟩
    obtain ⟨BB, FQ, FK, FB, Fx2⟩ : Below V.heap.size V X9 ∧ (Scs X9 V.heap.size bb kb F (vv ga gb) r p q ll nn S i) ∧ (X9.heap[kb]? = some (.cells (b3 r nn) 35)) ∧ (X9.heap[bb]? = some (.cells (c3 (vv ga gb)) 24)) ∧ (X9.heap[g6]? = some (.cells (xC (kd i) (wh i) (ix i) (xx i)) 29)) := by subst hX; exact ⟨below4 BB Fxg _, (Scs.over FQ Fx (by decide) Fxo Duc.grR18), (keepT FK Fx (by decide) Duc.grR18), (keepT FB Fx (by decide) Duc.grR18), setRow_heap _ _ _ _ _ _ Fx⟩
    clear Fx hX ee a
    refine rf_ [(6, .pointer (some ⟨g6, 0, none⟩))] (h5_ t3 t4 t24 t25 t26) ?_
    rintro a A ⟨t6, -⟩ ⟨t3, t4, t24, t25, t26, -⟩
    refine wp_seq ?_
    refine wi_ A (h6_ t3 t4 t24 t25 t26 t6) (rv_ 0 (.pointer (some ⟨g6, 1, none⟩)) (fun a ee => execFzX1 rfl (ee _)) (rv_ 1 (.int .i64 (wh i)) (fun a ee => execL20 rfl (Or.inl rfl) (ee _) (xC_at Fx2).2.1) (rc_ 2 (place20 (wh i) 3 X9 hnm.1.1 hnm.1.2 (by omega) (by omega)) (cs_ (rf_ [(7, .int .i64 ((plc (wh i) 3 : Nat) : Int))] (h6_ t3 t4 t24 t25 t26 t6) ?_)))))
    rintro a A ⟨t7, -⟩ ⟨t3, t4, t24, t25, t26, t6, -⟩
    obtain ⟨m, ek⟩ : ∃ m, plc (wh i) 3 = m := ⟨_, rfl⟩
    have hm : m < 3 := by rw [← ek]; exact Nat.mod_lt _ (by omega)
    rw [ek] at t7
    by_cases h2 : m < 2
    · refine wp_seq ?_
      refine wj_ [0, 1, 2, 3, 4, 5, 6, 7, 8, 9, 10, 11] [10] [3, 7] [10] A (h7_ t3 t4 t24 t25 t26 t6 t7) (fun X11_0 bD => ?_)
      refine dw_ 2 (.pointer (some ⟨bb, m, none⟩)) (fun a X ee => execIxB (k := m) rfl (ee _) (ee _) hm) (dv_ 3 (vv ga gb m) (fun a X ee hb => execL20 rfl (Or.inr (Or.inr (Or.inr (Or.inr (Or.inr (Or.inl rfl)))))) (ee _) (c3_at (on9 FB hb) hm)) (dw_ 6 (.pointer (some ⟨kb, m * 2, none⟩)) (fun a X ee => execIxK (k := m) rfl (ee _) (ee _) hm) (dv_ 7 (.agg (xC (kd i) (wh i) (ix i) (xx i))) (fun a X ee hb => execLdX rfl (ee _) (xC_range (on9 Fx2 hb))) (dw_ 9 (.bool false) (fun a X ee => execDec (exIeql3 (p := ((m : Nat) : Int)) (q := 2) rfl (ee _) rfl) (decide_eq_false (by omega))) (dc_ 10 (played_any (vv ga gb m) (F m) kb m r nn (p m) (q m) (ll m) (S m) (kd i) (wh i) (ix i) (xx i) V X11_0 (BB.trans (bD.mono BB.size)) ((FQ.on bD).dr m h2) (on9 FK bD) hm ((FQ.on bD).row m h2) ((FQ.on bD).bk m h2) (by have := (FQ.on bD).le m h2; omega) ((FQ.on bD).kof m h2).2 (FQ.on bD).gb.1 (fun q => (FQ.on bD).ge m q h2) (fun g => (FQ.on bD).rof m m g h2 h2) hnm.2.1) fun e X11 hh => ?_)))))
      obtain ⟨⟨f2, r2, p2, q2, l2, n2, s2, he, hkR, hkK, hown, hbk, hll, hoff, hnew, hsub, hsv⟩, hb⟩ := hh
      refine ⟨_, he, ?_⟩
      obtain ⟨BB, FB, FQ2, FK2⟩ : Below V.heap.size V X11 ∧ (X11.heap[bb]? = some (.cells (c3 (vv ga gb)) 24)) ∧ (Scs X11 V.heap.size bb kb (up F m f2) (vv ga gb) (up r m r2) (up p m p2) (up q m q2) (up ll m l2) (up nn m n2) (up S m s2) (i + 1)) ∧ (X11.heap[kb]? = some (.cells (b3 (up r m r2) (up nn m n2)) 35)) := ⟨hb, (bk_saved (on9 FB bD) hsv (fun w => w.elim ((FQ.on bD).kof m h2).1 (fun w => w.elim (FQ.on bD).gb.2 (fun w => ((FQ.on bD).kr m _ h2 w).1 rfl)))), (FQ.on bD).play h2 hkR hown hbk hll hoff hnew hsub hsv ((BB.trans (bD.mono BB.size))).size, hkK⟩
      clear bD FQ FK Fx2
      refine ⟨Or.inl rfl, ?_⟩
      refine dw_ 11 (.bool false) (fun a X ee => execNot8 (b := true) rfl (ee _)) (dz_ [(44, .bool false)] (h5_ t3 t4 t24 t25 t26) ?_)
      rintro a A ⟨t44, -⟩ ⟨t3, t4, t24, t25, t26, -⟩
      refine wp_cond_false t44 ?_
      refine wp_skip ?_
      clear t44
      have FQ := FQ2
      have FK := FK2
      refine wi_ A (h5_ t3 t4 t24 t25 t26) (rv_ 0 (.int .i64 ((i + 1 : Nat) : Int)) (fun a ee => execAd8 (p := i) (q := 1) rfl (ee _) rfl (by omega)) (rf_ [(26, .int .i64 ((i + 1 : Nat) : Int))] (h4_ t3 t4 t24 t25) ?_))
      rintro a A ⟨t26, -⟩ ⟨t3, t4, t24, t25, -⟩
      exact ⟨⟨i + 1, (up F m f2), (up r m r2), (up p m p2), (up q m q2), (up ll m l2), (up nn m n2), (up S m s2), lti, A, t3, t4, t24, t25, t26, BB, FQ, FK, FB⟩, by show l - (intOf (a.eval (.tmp 26))).toNat < l - (intOf (Act.eval _ (.tmp 26))).toNat; rw [t26, esi]; show l - (i + 1) < l - i; omega⟩
    · obtain rfl : m = 2 := by omega
      refine wp_seq ?_
      refine wj_ [0, 1, 2, 3, 4, 5, 6, 7, 8, 9, 10, 11] [10] [3, 7] [] A (h7_ t3 t4 t24 t25 t26 t6 t7) (fun X11_0 bD => ?_)
      refine dw_ 2 (.pointer (some ⟨bb, 2, none⟩)) (fun a X ee => execIxB (k := 2) rfl (ee _) (ee _) hm) (dv_ 3 (.pointer none) (fun a X ee hb => execL20 rfl (Or.inr (Or.inr (Or.inr (Or.inr (Or.inr (Or.inl rfl)))))) (ee _) (c3_at (on9 FB hb) hm)) (dw_ 6 (.pointer (some ⟨kb, 2 * 2, none⟩)) (fun a X ee => execIxK (k := 2) rfl (ee _) (ee _) hm) (dv_ 7 (.agg (xC (kd i) (wh i) (ix i) (xx i))) (fun a X ee hb => execLdX rfl (ee _) (xC_range (on9 Fx2 hb))) (dw_ 9 (.bool true) (fun a X ee => execDec (exIeql3 (p := ((2 : Nat) : Int)) (q := 2) rfl (ee _) rfl) (decide_eq_true (by omega))) (dc_ 10 (played_nil kb 2 r nn (kd i) (wh i) (ix i) (xx i) X11_0 (on9 FK bD) hm (FQ.on bD).two.1 (FQ.on bD).two.2) (cb_ fun X11 bQ => ?_))))))
      replace bD := bD.trans (bQ.mono bD.size)
      clear bQ
      refine ⟨Or.inr bD, ?_⟩
      refine dw_ 11 (.bool false) (fun a X ee => execNot8 (b := true) rfl (ee _)) (dz_ [(44, .bool false)] (h5_ t3 t4 t24 t25 t26) ?_)
      rintro a A ⟨t44, -⟩ ⟨t3, t4, t24, t25, t26, -⟩
      replace FQ := (FQ.on bD)
      replace FK := (on9 FK bD)
      replace FB := (on9 FB bD)
      replace Fx2 := (on9 Fx2 bD)
      replace BB := BB.trans (bD.mono BB.size)
      clear bD
      refine wp_cond_false t44 ?_
      refine wp_skip ?_
      clear t44
      have FQ := FQ.more
      refine wi_ A (h5_ t3 t4 t24 t25 t26) (rv_ 0 (.int .i64 ((i + 1 : Nat) : Int)) (fun a ee => execAd8 (p := i) (q := 1) rfl (ee _) rfl (by omega)) (rf_ [(26, .int .i64 ((i + 1 : Nat) : Int))] (h4_ t3 t4 t24 t25) ?_))
      rintro a A ⟨t26, -⟩ ⟨t3, t4, t24, t25, -⟩
      exact ⟨⟨i + 1, F, r, p, q, ll, nn, S, lti, A, t3, t4, t24, t25, t26, BB, FQ, FK, FB⟩, by show l - (intOf (a.eval (.tmp 26))).toNat < l - (intOf (Act.eval _ (.tmp 26))).toNat; rw [t26, esi]; show l - (i + 1) < l - i; omega⟩
  rw [decide_eq_false lti] at t27
  refine wp_cond_false t27 ?_
  refine wp_exit ?_
  first | with_reducible refine exit_in ?_ | with_reducible refine exit_then (exit_in ?_) | with_reducible refine exit_then (exit_then (exit_in ?_)) | refine exit_in ?_ | refine exit_then (exit_in ?_) | refine exit_then (exit_then (exit_in ?_))
  clear t27 esi
  refine wp_seq ?_
  refine wi_ A (h5_ t3 t4 t24 t25 t26) (rg_ [(2, .bool true)] ?_)
  rintro a A ⟨t2, -⟩
  refine wp_ret ?_
  refine bodyPost_ret (results_tmp rfl _ _ _) A.2 ⟨?_, BB⟩
  show Ending.returned (a.eval (.tmp 2)) = _
  rw [t2]
end Go.Proofs.Ytnfokemikcigbaa.Ord
