import Derived.Test.YtgmomkkhlcigbaaV9k
namespace Go.Proofs.Ytgmomkkhlcigbaa.Tap
open Go.RowKit Gf8 Aes By8 Cel Cf
/- The program's Byte and Take. Written by tools/mkV9l.py. -/
theorem on9 {W X : World} {g : Nat} {c : Obj} (h : W.heap[g]? = some c) (b : Below W.heap.size W X) : X.heap[g]? = some c := by rw [b.block _ (Array.getElem?_eq_some_iff.1 h).1]; exact h
section
variable {o : Oper} {a : Act} {w : World}
theorem execEqN {x y : Operand} {p q : Nat} (ho : o.op = .binOp .eql 3 x y 3) (hx : a.eval x = .int .i64 (p : Int)) (hy : a.eval y = .int .i64 (q : Int)) : (execOp a.eval o).run Try.prog w = .ok (.value (.bool (decide (p = q)))) w := by
 unfold execOp
 simp only [ho, hx, hy]
 by_cases h : p = q
 ·subst h
  simp [go_sem]
 ·have h2 : ¬ (p : Int) = q := by omega
  simp [go_sem, h, h2]
theorem execEqE {x y : Operand} {p q : Nat} (ho : o.op = .binOp .eql 26 x y 26) (hx : a.eval x = .int .i64 (p : Int)) (hy : a.eval y = .int .i64 (q : Int)) : (execOp a.eval o).run Try.prog w = .ok (.value (.bool (decide (p = q)))) w := by
 unfold execOp
 simp only [ho, hx, hy]
 by_cases h : p = q
 ·subst h
  simp [go_sem]
 ·have h2 : ¬ (p : Int) = q := by omega
  simp [go_sem, h, h2]
theorem execNeN {x y : Operand} {p q : Nat} (ho : o.op = .binOp .neq 3 x y 3) (hx : a.eval x = .int .i64 (p : Int)) (hy : a.eval y = .int .i64 (q : Int)) : (execOp a.eval o).run Try.prog w = .ok (.value (.bool (decide (p ≠ q)))) w := by
 unfold execOp
 simp only [ho, hx, hy]
 by_cases h : p = q
 ·subst h
  simp [go_sem]
 ·have h2 : ¬ (p : Int) = q := by omega
  simp [go_sem, h, h2]
theorem execNeE {x y : Operand} {p q : Nat} (ho : o.op = .binOp .neq 26 x y 26) (hx : a.eval x = .int .i64 (p : Int)) (hy : a.eval y = .int .i64 (q : Int)) : (execOp a.eval o).run Try.prog w = .ok (.value (.bool (decide (p ≠ q)))) w := by
 unfold execOp
 simp only [ho, hx, hy]
 by_cases h : p = q
 ·subst h
  simp [go_sem]
 ·have h2 : ¬ (p : Int) = q := by omega
  simp [go_sem, h, h2]
theorem execGtN {x y : Operand} {p q : Nat} (ho : o.op = .binOp .gtr 3 x y 3) (hx : a.eval x = .int .i64 (p : Int)) (hy : a.eval y = .int .i64 (q : Int)) : (execOp a.eval o).run Try.prog w = .ok (.value (.bool (decide (q < p)))) w := by
 unfold execOp
 simp only [ho, hx, hy]
 by_cases h : q < p
 ·simp [go_sem, h]
 ·simp [go_sem, h]
theorem execBldTp (ho : o.op = .build 74 #[]) (p : Nat → Nat) : (execOp a.eval o).run Try.prog w = .ok (.value (.agg (tpC p 0 0))) w := by
 rw [tp_zero]
 unfold execOp
 simp only [ho]
 simp [go_sem]
end
set_option maxRecDepth 100000 in
set_option maxHeartbeats 4000000 in
theorem byte_ok (p : Nat → Nat) (l at' : Nat) (V : World) (h : at' < l) (hl : l ≤ 140737488351232) (hp : ∀ j, j < l → p j < 256) :
  Calls Try.prog 55 #[.agg (tpC p l at')] V fun e w' => e = .returned (.tuple #[.int .u8 ((p at' : Nat) : Int), .agg (tpC p l (at' + 1)), .int .i64 ((0 : Nat) : Int)]) ∧ Below V.heap.size V w' := by
 obtain ⟨V1, hV1⟩ : ∃ V1, V1 = V.alloc (.cells (tpC p l at') 74) := ⟨_, rfl⟩
 obtain ⟨V2, hV2⟩ : ∃ V2, V2 = V1.alloc (.cells (tpC p 0 0) 74) := ⟨_, rfl⟩
 have r0 : V1.heap[V.heap.size]? = some (.cells (tpC p l at') 74) := by rw [hV1]; exact heapNew V _
 have b1 : Below V.heap.size V V1 := by rw [hV1]; exact belNew V _
 have r1 : V2.heap[V1.heap.size]? = some (.cells (tpC p 0 0) 74) := by rw [hV2]; exact heapNew V1 _
 have b2 : Below V1.heap.size V1 V2 := by rw [hV2]; exact belNew V1 _
 have r0 := on9 r0 b2
 have bV : Below V.heap.size V V2 := b1.trans (b2.mono b1.size)
 have hat : at' ≤ l := by omega
 have ne0 : V.heap.size ≠ V1.heap.size := by rw [hV1]; simp
 go_enter Try.func55, Try.ntmps55
 refine wp_seq ?_
 refine wp_region_sqW 16 [(0, 1), (1, 2), (2, 3), (3, 4)] (fun i_ => match i_ with | 0 => .pointer (some ⟨V.heap.size, 0, none⟩) | 1 => .int .u8 0 | 2 => .pointer (some ⟨V1.heap.size, 0, none⟩) | 3 => .int .i64 0 | _ => undef) (fun i_ => match i_ with | 0 => V | 1 => V1 | 2 => V1 | _ => V2) rfl (by kernel_rfl) (by decide) (by decide) ?_ ?_
 ·intro i_ hi_ a hf hv hn
  match i_, hi_ with
  | 0, _ => exact stepV rfl rfl (by rw [hV1]; exact execBoxTp rfl ((hf 0 (by decide)).trans rfl)) ⟨⟨_, rfl, rfl⟩, rfl⟩
  | 1, _ => exact stepV rfl rfl (execAsgB rfl rfl) ⟨⟨_, rfl, rfl⟩, rfl⟩
  | 2, _ => exact stepV rfl rfl (by rw [hV2]; exact execAllTp rfl p) ⟨⟨_, rfl, rfl⟩, rfl⟩
  | 3, _ => exact stepV rfl rfl (execAsgB rfl rfl) ⟨⟨_, rfl, rfl⟩, rfl⟩
  | k_ + 4, h_ => exact absurd h_ (by simp)
 intro a h1 h2 h3 h4
 have t1 : a.eval (.tmp 1) = .pointer (some ⟨V.heap.size, 0, none⟩) := h4 0 _ rfl _ rfl
 have t3 : a.eval (.tmp 3) = .pointer (some ⟨V1.heap.size, 0, none⟩) := h4 2 _ rfl _ rfl
 have A : a.tmps.size = 16 ∧ a.defers = [] := ⟨h1, h2⟩
 clear h1 h2 h3 h4
 refine wp_seq (wp_seq ?_)
 refine wp_region_sq (σ := Unit) 16 [(0, 5), (1, 6), (2, 7)] (fun j_ s X => Below V2.heap.size V2 X ∧ (match j_ with | 0 => True | 1 => True | 2 => True | _ => True)) (fun s => fun i_ => match i_ with | 0 => .agg (tpC p l at') | 1 => .int .i64 ((l - at' : Nat) : Int) | 2 => .bool (decide (l - at' = 0)) | _ => undef) () A.1 (by kernel_rfl) (by decide) (by decide) ⟨Below.refl _ _, trivial⟩ ?_ ?_
 ·intro i_ hi_ s a X hf hv hn hS
  match i_, hi_ with
  | 0, _ => exact stepV rfl rfl (execLdTp rfl ((hf 1 (by decide)).trans t1) (on9 r0 hS.1)) ⟨s, ⟨_, rfl, rfl⟩, hS, fun _ _ => rfl⟩
  | 1, _ =>
   refine stepC rfl rfl (execCall1 Try.func57 (by kernel_rfl) (by kernel_rfl) rfl (hv 0 (by omega) _ rfl _ rfl)) (left_any p l at' X hat hl) fun e w' hh => ⟨_, hh.1, s, ⟨_, rfl, rfl⟩, ⟨hS.1.trans (hh.2.mono hS.1.size), trivial⟩, fun _ _ => rfl⟩
  | 2, _ => exact stepV rfl rfl (execEqN (p := l - at') (q := 0) rfl (hv 1 (by omega) _ rfl _ rfl) rfl) ⟨s, ⟨_, rfl, rfl⟩, hS, fun _ _ => rfl⟩
  | k_ + 3, h_ => exact absurd h_ (by simp)
 intro s a X h1 h2 h3 h4 hS
 have hS : Below V2.heap.size V2 X := hS.1
 have t1 := (h3 1 (by decide)).trans t1
 have t3 := (h3 3 (by decide)).trans t3
 have t7 : a.eval (.tmp 7) = .bool (decide (l - at' = 0)) := h4 2 _ rfl _ rfl
 have A := (⟨h1, h2.trans A.2⟩ : a.tmps.size = 16 ∧ a.defers = [])
 clear h1 h2 h3 h4
 rw [decide_eq_false (by omega)] at t7
 refine wp_cond_false t7 (wp_skip ?_)
 refine wp_seq ?_
 refine wp_region_detA 16 [(0, 9), (1, 10), (2, 11), (3, 12), (4, 13), (5, 14), (6, 15), (7, 2), (9, 4)] (fun i_ => match i_ with | 0 => .pointer (some ⟨V.heap.size, 0, none⟩) | 1 => .string (strN p l) | 2 => .pointer (some ⟨V.heap.size, 1, none⟩) | 3 => .int .i64 ((at' : Nat) : Int) | 4 => .int .u8 ((p at' : Nat) : Int) | 5 => .agg (tpC p l at') | 6 => (.agg (tpC p l (at' + 1))) | 7 => .int .u8 ((p at' : Nat) : Int) | 8 => undef | 9 => .int .i64 ((0 : Nat) : Int) | _ => undef) (fun l_ Y => Y.heap[V.heap.size]? = some (.cells (tpC p l at') 74) ∧ Y.heap[V1.heap.size]? = some (.cells (if l_ 8 = true then tpC p l (at' + 1) else tpC p 0 0) 74) ∧ Below V.heap.size V Y) (by kernel_rfl) (by kernel_rfl) A.1 (by kernel_rfl) (by decide) (by decide) ⟨on9 r0 hS.drew, on9 r1 hS.drew, (bV.trans (hS.mono bV.size)).drew⟩ ?_ ?_
 ·intro i_ hi_ l_ a X hl_ hf hdep hl2 hcl _ hT
  have up : ∀ j, j ≠ 8 → updB l_ j 8 = l_ 8 := fun j hj => by unfold updB; simp [Ne.symm hj]
  match i_, hi_ with
  | 0, _ => exact stepV rfl rfl (execFldTp0 rfl ((hf 1 (by decide)).trans t1)) ⟨⟨_, rfl, rfl⟩, hT.1, by rw [up _ (by decide)]; exact hT.2.1, hT.2.2⟩
  | 1, _ => exact stepV rfl rfl (execLd9 rfl (hdep _ rfl 0 rfl _ rfl _ rfl) (tpC_at hT.1).1) ⟨⟨_, rfl, rfl⟩, hT.1, by rw [up _ (by decide)]; exact hT.2.1, hT.2.2⟩
  | 2, _ => exact stepV rfl rfl (execFldTp1 rfl ((hf 1 (by decide)).trans t1)) ⟨⟨_, rfl, rfl⟩, hT.1, by rw [up _ (by decide)]; exact hT.2.1, hT.2.2⟩
  | 3, _ => exact stepV rfl rfl (execLd3 rfl (hdep _ rfl 2 rfl _ rfl _ rfl) (tpC_at hT.1).2) ⟨⟨_, rfl, rfl⟩, hT.1, by rw [up _ (by decide)]; exact hT.2.1, hT.2.2⟩
  | 4, _ => exact stepV rfl rfl (execIdxSt rfl (hdep _ rfl 1 rfl _ rfl _ rfl) (hdep _ rfl 3 rfl _ rfl _ rfl) h (hp _ h)) ⟨⟨_, rfl, rfl⟩, hT.1, by rw [up _ (by decide)]; exact hT.2.1, hT.2.2⟩
  | 5, _ => exact stepV rfl rfl (execLdTp rfl ((hf 1 (by decide)).trans t1) hT.1) ⟨⟨_, rfl, rfl⟩, hT.1, by rw [up _ (by decide)]; exact hT.2.1, hT.2.2⟩
  | 6, _ => exact stepC rfl rfl (execCall2 Try.func58 (by kernel_rfl) (by kernel_rfl) rfl (hdep _ rfl 5 rfl _ rfl _ rfl) rfl) (behind_any p l at' 1 X h hl) fun e w' hh => ⟨_, hh.1, ⟨_, rfl, rfl⟩, on9 hT.1 hh.2, by rw [up _ (by decide)]; exact on9 hT.2.1 hh.2, hT.2.2.trans (hh.2.mono hT.2.2.size)⟩
  | 7, _ => exact stepV rfl rfl (execAsgB rfl (hdep _ rfl 4 rfl _ rfl _ rfl)) ⟨⟨_, rfl, rfl⟩, hT.1, by rw [up _ (by decide)]; exact hT.2.1, hT.2.2⟩
  | 8, _ =>
   have h3 : X.heap[V1.heap.size]? = some (.cells (tpC p 0 0) 74) := by have := hT.2.1; rw [hl_] at this; exact this
   exact stepS rfl rfl (execStTp rfl ((hf 3 (by decide)).trans t3) (hdep _ rfl 6 rfl _ rfl _ rfl) h3 rfl) ⟨⟨_, rfl, rfl⟩, by rw [setRow_other _ _ _ _ ne0]; exact hT.1, by rw [show updB l_ 8 8 = true from by unfold updB; simp]; exact setRow_heap _ _ _ _ _ _ h3, below4 hT.2.2 b1.size _⟩
  | 9, _ => exact stepV rfl rfl (execAsgB rfl rfl) ⟨⟨_, rfl, rfl⟩, hT.1, by rw [up _ (by decide)]; exact hT.2.1, hT.2.2⟩
  | k_ + 10, h_ => exact absurd h_ (by simp)
 intro l_ a X h1 h2 h3 h4 hall hT
 have t2 : a.eval (.tmp 2) = .int .u8 ((p at' : Nat) : Int) := h4 (7, 2) (by decide)
 have t3 := (h3 3 (by decide)).trans t3
 have t4 : a.eval (.tmp 4) = .int .i64 ((0 : Nat) : Int) := h4 (9, 4) (by decide)
 have A := (⟨h1, h2.trans A.2⟩ : a.tmps.size = 16 ∧ a.defers = [])
 clear h1 h2 h3 h4
 have hT2 := hT.2.1
 rw [hall 8 (by decide)] at hT2
 refine wp_ret ?_
 refine bodyPost_ret (results_tct9 (cs := tpC p l (at' + 1)) rfl _ _ V1.heap.size 74 (0, 0) _ t3 hT2 Try.underlying74 rfl (size_tp _ _ _)) A.2 ⟨?_, hT.2.2⟩
 show Ending.returned (.tuple #[a.eval (.tmp 2), .agg (tpC p l (at' + 1)), a.eval (.tmp 4)]) = _
 rw [t2, t4]
theorem OwnM.set {X : World} {B n g : Nat} {v : Value} {q : Nat → Nat} {cur c : Array Value} {t : TypeId} (h : OwnM X B v n q) (hg : X.heap[g]? = some (.cells cur t)) (ht : t ≠ 5) : OwnM (X.setRow g c) B v n q := by
 obtain ⟨g1, cap, cu, fz, e, hB, h1, hr⟩ := h
 refine ⟨g1, cap, cu, fz, e, hB, ?_, hr⟩
 rw [setRow_other _ _ _ _ (fun q => ?_)]
 ·exact h1
 ·subst q
  rw [h1] at hg
  injection hg with hg
  injection hg with _ hg _
  exact ht hg.symm
def TkA (W : World) (B : Nat) (v : Value) (k : Nat) (q : Nat → Nat) : Prop := (v = .slice none 0 0 ∧ k = 0) ∨ OwnM W B v k q
theorem TkA.slice {W : World} {B n : Nat} {v : Value} {p : Nat → Nat} (h : TkA W B v n p) : SliceN W v n p := by
 rcases h with ⟨rfl, rfl⟩ | h
 ·exact ⟨⟨_, _, rfl, Nat.le_refl _, by omega, fun h => by omega⟩, fun j hj => by omega⟩
 ·exact h.slice
theorem TkA.on {W W' : World} {B n : Nat} {v : Value} {p : Nat → Nat} (h : TkA W B v n p) (hb : Below W.heap.size W W') : TkA W' B v n p := h.imp id (·.on hb)
theorem TkA.base {W : World} {B C n : Nat} {v : Value} {p : Nat → Nat} (h : TkA W C v n p) (hB : B ≤ C) : TkA W B v n p := h.imp id (·.base hB)
theorem TkA.set {X : World} {B n g : Nat} {v : Value} {q : Nat → Nat} {cur c : Array Value} {t : TypeId} (h : TkA X B v n q) (hg : X.heap[g]? = some (.cells cur t)) (ht : t ≠ 5) : TkA (X.setRow g c) B v n q := h.imp id (·.set hg ht)
set_option maxRecDepth 20000 in
theorem byte_any (p : Nat → Nat) (l at' : Nat) (V : World) (h : at' ≤ l) (hl : l ≤ 140737488351232) (hp : ∀ j, j < l → p j < 256) :
  Calls Try.prog 55 #[.agg (tpC p l at')] V fun e w' => e = .returned (.tuple #[.int .u8 ((if at' < l then p at' else 0 : Nat) : Int), .agg (tpC p (if at' < l then l else 0) (if at' < l then at' + 1 else 0)), .int .i64 ((if at' < l then 0 else 3 : Nat) : Int)]) ∧ Below V.heap.size V w' := by
 by_cases hc : at' < l
 ·simp only [if_pos hc]
  exact byte_ok p l at' V hc hl hp
 ·simp only [if_neg hc]
  obtain rfl : at' = l := by omega
  have k0 : ∀ W, Calls Try.prog 57 #[.agg #[.string (strN p at'), .int .i64 (at' : Int)]] W fun e w' => e = .returned (.int .i64 0) ∧ Below W.heap.size W w' := fun W => by
   have := left_any p at' at' W (Nat.le_refl _) hl
   rw [Nat.sub_self] at this
   exact this
  clear h hl hp hc
  go_enter Try.func55, Try.ntmps55
  unfold tpC
  go_wp2_with (first
   | (go_at_call 57; refine (k0 _).mono ?_; rintro e w1 ⟨rfl, hb1⟩; have c0 := on9 (two9 V (.cells (tpC p at' at') 74) (.cells (tpC p 0 0) 74)).2 hb1; have bb : Below V.heap.size V w1 := ((belNew V _).trans ((belNew _ _).mono (belNew V _).size)).trans (hb1.mono ((belNew V _).trans ((belNew _ _).mono (belNew V _).size)).size); clear hb1)
   | (refine wpList_exS rfl (execStTp (p := p) (l := 0) (at' := 0) rfl rfl rfl c0 rfl) ?_))
  refine bodyPost_ret (results_tct9 (cs := tpC p 0 0) rfl _ _ (V.heap.size + 1) 74 (0, 0) _ rfl (setRow_heap _ _ _ _ _ _ c0) Try.underlying74 rfl (size_tp _ _ _)) rfl ⟨rfl, below4 bb (by omega) _⟩
end Go.Proofs.Ytgmomkkhlcigbaa.Tap
