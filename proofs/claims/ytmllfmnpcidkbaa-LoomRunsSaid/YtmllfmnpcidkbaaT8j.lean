import Derived.Test.YtmllfmnpcidkbaaT8i
import Derived.WalkKit
namespace Go.Proofs.Ytmllfmnpcidkbaa.Loo
open Go.RowKit Gf8 Aes By8 Cel Cf Win Drw Prm
/- LoomRuns. Written by tools/mkT8j.py. -/

theorem lf_ge {B g p q n b : Nat} (h : Lf0 g p q n b) (h1 : B ≤ g) (h2 : B ≤ p) (h3 : B ≤ q) : B ≤ b := by
  rcases h with rfl | e | e | e
  · exact h1
  · cases e
  · cases e; exact h2
  · cases e; exact h3
theorem lf_ty {W : World} {g p q n k : Nat} {c d e f : Array Value} (h1 : W.heap[p]? = some (.cells c 3)) (h2 : W.heap[q]? = some (.cells d 3)) (h3 : W.heap[g]? = some (.cells e 40)) (h4 : W.heap[k]? = some (.cells f 38)) : ¬ Lf0 g p q n k := by
  rintro (rfl | z | z | z)
  · rw [h3] at h4; injection h4 with h4; injection h4 with _ h4 _; exact absurd h4 (by decide)
  · cases z
  · cases z; rw [h1] at h4; injection h4 with h4; injection h4 with _ h4 _; exact absurd h4 (by decide)
  · cases z; rw [h2] at h4; injection h4 with h4; injection h4 with _ h4 _; exact absurd h4 (by decide)
set_option maxRecDepth 100000 in
set_option maxHeartbeats 4000000 in
/-- LoomRuns. -/
theorem runs19 (v0 cv : Value) (D : Sd) (m : Nat) (sc : Nat → Int) (most : Int) (V : World) (hP : ShL V v0 D) (hcap : ∀ a n c, v0 = .slice a n c → n ≤ c) (hS : SliceI V cv m sc) :
    Calls Try.prog 4 #[v0, cv, .int .i64 most] V fun e w' => e = .returned (.bool true) ∧ Below V.heap.size V w' := by
  go_enter Try.func4, Try.ntmps4
  refine wo_ 93 [(0, v0), (1, cv), (2, .int .i64 most)] ?_
  rintro a A ⟨t0, t1, t2, -⟩
  have BB : Below V.heap.size V V := Below.refl _ _
  refine wp_seq ?_
  obtain ⟨g3, egg3⟩ : ∃ z_ : Nat, V.heap.size = z_ := ⟨_, rfl⟩
  refine wi_ A (h3_ t0 t1 t2) (rs_ 0 (fun a ee => ?_))
  refine stepV rfl rfl (execBxM rfl (ee _) (sl3 hP.shp)) ⟨.pointer (some ⟨g3, 0, none⟩), ⟨_, rfl, by subst egg3; rfl⟩, fun X0 hX => ?_⟩
  have bQ : Below V.heap.size V X0 := by subst hX egg3; exact (belNew V _)
  have F3 : (X0.heap[g3]? = some (.cells #[v0] 37)) := by subst hX egg3; exact heapNew V _
  have Fg3 : (V.heap.size ≤ g3) := by subst hX egg3; exact (BB).size
  replace BB := BB.trans (bQ.mono BB.size)
  clear bQ hX egg3 ee a
  refine rf_ [(3, .pointer (some ⟨g3, 0, none⟩))] (h2_ t1 t2) ?_
  rintro a A ⟨t3, -⟩ ⟨t1, t2, -⟩
  refine wp_seq ?_
  refine wp_seq ?_
  refine wi_ A (h3_ t1 t2 t3) (rc_ 0 (alive19 limpl X0) (cb_ fun X1 bQ => ?_))
  replace F3 := (on9 F3 bQ)
  replace BB := BB.trans (bQ.mono BB.size)
  clear bQ
  refine rv_ 1 (.bool false) (fun a ee => execNot8 (b := true) rfl (ee _)) (rf_ [(14, .bool false)] (h3_ t1 t2 t3) ?_)
  rintro a A ⟨t14, -⟩ ⟨t1, t2, t3, -⟩
  refine wp_cond_false t14 ?_
  refine wp_skip ?_
  clear t14
  refine wp_join9 (fun a W => ∃ (sv : Value) (D2 : Sd), D2.n ≤ 200 ∧ ShL V sv D2 ∧ (a.tmps.size = 93 ∧ a.defers = []) ∧ a.eval (.tmp 1) = cv ∧ a.eval (.tmp 2) = .int .i64 most ∧ a.eval (.tmp 3) = .pointer (some ⟨g3, 0, none⟩) ∧ Below V.heap.size V W ∧ W.heap[g3]? = some (.cells #[sv] 37)) ?_ ?_
  · by_cases hl : 200 < D.n
    · obtain ⟨b, off, c, ev, hk⟩ := hP.take hl
      have hcc := hcap _ _ _ ev
      refine wp_seq ?_
      refine wi_ A (h3_ t1 t2 t3) (rv_ 0 (v0) (fun a ee => execLm rfl (Or.inr (Or.inr (Or.inr (Or.inr (Or.inl rfl))))) (ee _) (one_c F3)) (rv_ 1 (.int .i64 ((D.n : Nat) : Int)) (fun a ee => execLnM (len := D.n) rfl (Or.inl rfl) (ee _) hP.shp) (rv_ 2 (.bool true) (fun a ee => execDec (exIgtr3 (p := ((D.n : Nat) : Int)) (q := 200) rfl (ee _) rfl) (decide_eq_true (by omega))) (rf_ [(17, .bool true)] (h3_ t1 t2 t3) ?_))))
      rintro a A ⟨t17, -⟩ ⟨t1, t2, t3, -⟩
      refine wp_cond_true t17 ?_
      clear t17
      refine wi_ A (h3_ t1 t2 t3) (rv_ 0 (v0) (fun a ee => execLm rfl (Or.inr (Or.inr (Or.inr (Or.inr (Or.inl rfl))))) (ee _) (one_c F3)) (rv_ 1 (.slice (some ⟨b, off, none⟩) 200 c) (fun a ee => execSl200 rfl ((ee _).trans ev) (by omega)) (rs_ 2 (fun a ee => ?_))))
      refine stepS rfl rfl (execSm rfl (Or.inr (Or.inr (Or.inr (Or.inr (Or.inl rfl))))) (ee _) (ee _) (Or.inr (Or.inr (Or.inl ⟨_, _, _, rfl⟩))) (one_c F3) (frozen4 F3)) ⟨_, ⟨_, rfl, rfl⟩, fun X4 hX => ?_⟩
      obtain ⟨BB, F3b⟩ : Below V.heap.size V X4 ∧ (X4.heap[g3]? = some (.cells #[.slice (some ⟨b, off, none⟩) 200 c] 37)) := by subst hX; exact ⟨(BB).setCell Fg3 _, heap4 _ F3⟩
      clear F3 hX ee a
      refine rf_ [] (h3_ t1 t2 t3) ?_
      rintro a A - ⟨t1, t2, t3, -⟩
      exact ⟨rfl, _, _, Nat.le_refl _, hk c, A, t1, t2, t3, BB, F3b⟩
    · refine wp_seq ?_
      refine wi_ A (h3_ t1 t2 t3) (rv_ 0 (v0) (fun a ee => execLm rfl (Or.inr (Or.inr (Or.inr (Or.inr (Or.inl rfl))))) (ee _) (one_c F3)) (rv_ 1 (.int .i64 ((D.n : Nat) : Int)) (fun a ee => execLnM (len := D.n) rfl (Or.inl rfl) (ee _) hP.shp) (rv_ 2 (.bool false) (fun a ee => execDec (exIgtr3 (p := ((D.n : Nat) : Int)) (q := 200) rfl (ee _) rfl) (decide_eq_false (by omega))) (rf_ [(17, .bool false)] (h3_ t1 t2 t3) ?_))))
      rintro a A ⟨t17, -⟩ ⟨t1, t2, t3, -⟩
      refine wp_cond_false t17 ?_
      refine wp_skip ?_
      exact ⟨rfl, v0, D, by omega, hP, A, t1, t2, t3, BB, F3⟩
  clear A t1 t2 t3 BB F3 a
  rintro a XJ ⟨sv, D2, hn2, hP2, A, t1, t2, t3, BB, F3⟩
  have hn : D2.n ≤ 1000 := by omega
  refine wp_seq ?_
  refine wi_ A (h3_ t1 t2 t3) (rv_ 1 (.int .i64 (min most 500)) (fun a ee => execMinZ rfl (ee _) rfl) (rf_ [(2, .int .i64 (min most 500))] (h2_ t1 t3) ?_))
  rintro a A ⟨t2, -⟩ ⟨t1, t3, -⟩
  have BV := BB
  clear BB
  have BB : Below XJ.heap.size XJ XJ := Below.refl _ _
  refine wp_seq ?_
  refine wp_region_stB (σ := Nat × Nat × Nat) 93 [(0, 22), (1, 23), (2, 24), (3, 25), (4, 26), (5, 27), (6, 28), (7, 29), (8, 7)] (fun l_ s X => Below XJ.heap.size XJ X ∧ (l_ 2 = true → (X.heap[s.1]? = some (.cells (madeCells #[.int .i64 0] D2.n) 3))) ∧ (l_ 2 = true → (XJ.heap.size ≤ s.1)) ∧ (l_ 2 = true → l_ 5 = true → (s.1 ≠ s.2.1)) ∧ (l_ 5 = true → (X.heap[s.2.1]? = some (.cells (madeCells #[.int .i64 0] D2.n) 3))) ∧ (l_ 5 = true → (XJ.heap.size ≤ s.2.1)) ∧ (l_ 7 = true → (X.heap[s.2.2]? = some (.cells (gC (.slice none 0 0) (.slice (some ⟨s.1, 0, none⟩) D2.n D2.n) (.slice (some ⟨s.2.1, 0, none⟩) D2.n D2.n)) 40))) ∧ (l_ 7 = true → (XJ.heap.size ≤ s.2.2))) (fun s => fun i_ => match i_ with | 0 => sv | 1 => .int .i64 ((D2.n : Nat) : Int) | 2 => .slice (some ⟨s.1, 0, none⟩) D2.n D2.n | 3 => sv | 4 => .int .i64 ((D2.n : Nat) : Int) | 5 => .slice (some ⟨s.2.1, 0, none⟩) D2.n D2.n | 6 => .agg (gC (.slice none 0 0) (.slice (some ⟨s.1, 0, none⟩) D2.n D2.n) (.slice (some ⟨s.2.1, 0, none⟩) D2.n D2.n)) | 7 => .pointer (some ⟨s.2.2, 0, none⟩) | 8 => .pointer (some ⟨s.2.2, 0, none⟩) | _ => undef) (0, 0, 0) (by kernel_rfl) (by kernel_rfl) A.1 (by kernel_rfl) (by decide) (by decide) ⟨(BB.drew), (fun q0_ => by cases q0_), (fun q0_ => by cases q0_), (fun q0_ q1_ => by cases q0_), (fun q0_ => by cases q0_), (fun q0_ => by cases q0_), (fun q0_ => by cases q0_), (fun q0_ => by cases q0_)⟩ ?_ ?_
  · intro i_ hi_ l_ s a X hl_ hf hdep hl2 hcl hno hT
    have up : ∀ j x, x ≠ j → updB l_ j x = l_ x := fun j x hj => by unfold updB; simp [hj]
    match i_, hi_ with
    | 0, _ => exact stepV rfl rfl (execLm rfl (Or.inr (Or.inr (Or.inr (Or.inr (Or.inl rfl))))) ((hf 3 (by decide)).trans t3) (one_c (on9 F3 hT.1))) ⟨s, ⟨_, rfl, rfl⟩, ⟨hT.1, (fun q0_ => absurd (hl_.symm.trans (hcl 1 _ rfl (hcl 2 _ rfl ((up 0 2 (by decide)).symm.trans q0_) 1 rfl) 0 rfl)) (by decide)), (fun q0_ => absurd (hl_.symm.trans (hcl 1 _ rfl (hcl 2 _ rfl ((up 0 2 (by decide)).symm.trans q0_) 1 rfl) 0 rfl)) (by decide)), (fun q0_ q1_ => absurd (hl_.symm.trans (hcl 1 _ rfl (hcl 2 _ rfl ((up 0 2 (by decide)).symm.trans q0_) 1 rfl) 0 rfl)) (by decide)), (fun q0_ => (hT.2.2.2.2.1 (by rw [up 0 5 (by decide)] at q0_; exact q0_))), (fun q0_ => (hT.2.2.2.2.2.1 (by rw [up 0 5 (by decide)] at q0_; exact q0_))), (fun q0_ => absurd (hl_.symm.trans (hcl 1 _ rfl (hcl 2 _ rfl (hcl 6 _ rfl (hcl 7 _ rfl ((up 0 7 (by decide)).symm.trans q0_) 6 rfl) 2 rfl) 1 rfl) 0 rfl)) (by decide)), (fun q0_ => absurd (hl_.symm.trans (hcl 1 _ rfl (hcl 2 _ rfl (hcl 6 _ rfl (hcl 7 _ rfl ((up 0 7 (by decide)).symm.trans q0_) 6 rfl) 2 rfl) 1 rfl) 0 rfl)) (by decide))⟩, fun _ _ _ => rfl⟩
    | 1, _ => exact stepV rfl rfl (execLnM (len := D2.n) rfl (Or.inl rfl) (hdep _ rfl 0 rfl _ rfl _ rfl) hP2.shp) ⟨s, ⟨_, rfl, rfl⟩, ⟨hT.1, (fun q0_ => absurd (hl_.symm.trans (hcl 2 _ rfl ((up 1 2 (by decide)).symm.trans q0_) 1 rfl)) (by decide)), (fun q0_ => absurd (hl_.symm.trans (hcl 2 _ rfl ((up 1 2 (by decide)).symm.trans q0_) 1 rfl)) (by decide)), (fun q0_ q1_ => absurd (hl_.symm.trans (hcl 2 _ rfl ((up 1 2 (by decide)).symm.trans q0_) 1 rfl)) (by decide)), (fun q0_ => (hT.2.2.2.2.1 (by rw [up 1 5 (by decide)] at q0_; exact q0_))), (fun q0_ => (hT.2.2.2.2.2.1 (by rw [up 1 5 (by decide)] at q0_; exact q0_))), (fun q0_ => absurd (hl_.symm.trans (hcl 2 _ rfl (hcl 6 _ rfl (hcl 7 _ rfl ((up 1 7 (by decide)).symm.trans q0_) 6 rfl) 2 rfl) 1 rfl)) (by decide)), (fun q0_ => absurd (hl_.symm.trans (hcl 2 _ rfl (hcl 6 _ rfl (hcl 7 _ rfl ((up 1 7 (by decide)).symm.trans q0_) 6 rfl) 2 rfl) 1 rfl)) (by decide))⟩, fun _ _ _ => rfl⟩
    | 2, _ =>
      refine stepV rfl rfl (execMkI2 rfl (hdep _ rfl 1 rfl _ rfl _ rfl) (hdep _ rfl 1 rfl _ rfl _ rfl) (by omega)) ⟨(X.heap.size, s.2.1, s.2.2), ⟨_, rfl, rfl⟩, ⟨hT.1.trans (((belNew X _)).mono hT.1.size), (fun _q0_ => heapNew X _), (fun _q0_ => (hT.1).size), (fun q0_ q1_ => (Ne.symm (Nat.ne_of_lt (Array.getElem?_eq_some_iff.1 (hT.2.2.2.2.1 (by rw [up 2 5 (by decide)] at q1_; exact q1_))).1))), (fun q0_ => (on9 (hT.2.2.2.2.1 (by rw [up 2 5 (by decide)] at q0_; exact q0_)) (belNew X _))), (fun q0_ => (hT.2.2.2.2.2.1 (by rw [up 2 5 (by decide)] at q0_; exact q0_))), (fun q0_ => absurd (hl_.symm.trans (hcl 6 _ rfl (hcl 7 _ rfl ((up 2 7 (by decide)).symm.trans q0_) 6 rfl) 2 rfl)) (by decide)), (fun q0_ => absurd (hl_.symm.trans (hcl 6 _ rfl (hcl 7 _ rfl ((up 2 7 (by decide)).symm.trans q0_) 6 rfl) 2 rfl)) (by decide))⟩, fun i hi hli => ?_⟩
      match i, hi with
      | 0, _ => rfl
      | 1, _ => rfl
      | 2, _ => exact absurd (hl_.symm.trans hli) (by decide)
      | 3, _ => rfl
      | 4, _ => rfl
      | 5, _ => rfl
      | 6, _ => exact absurd (hl_.symm.trans (hcl 6 _ rfl hli 2 rfl)) (by decide)
      | 7, _ => rfl
      | 8, _ => rfl
      | k_ + 9, h_ => exact absurd h_ (by simp)
    | 3, _ => exact stepV rfl rfl (execLm rfl (Or.inr (Or.inr (Or.inr (Or.inr (Or.inl rfl))))) ((hf 3 (by decide)).trans t3) (one_c (on9 F3 hT.1))) ⟨s, ⟨_, rfl, rfl⟩, ⟨hT.1, (fun q0_ => (hT.2.1 (by rw [up 3 2 (by decide)] at q0_; exact q0_))), (fun q0_ => (hT.2.2.1 (by rw [up 3 2 (by decide)] at q0_; exact q0_))), (fun q0_ q1_ => absurd (hl_.symm.trans (hcl 4 _ rfl (hcl 5 _ rfl ((up 3 5 (by decide)).symm.trans q1_) 4 rfl) 3 rfl)) (by decide)), (fun q0_ => absurd (hl_.symm.trans (hcl 4 _ rfl (hcl 5 _ rfl ((up 3 5 (by decide)).symm.trans q0_) 4 rfl) 3 rfl)) (by decide)), (fun q0_ => absurd (hl_.symm.trans (hcl 4 _ rfl (hcl 5 _ rfl ((up 3 5 (by decide)).symm.trans q0_) 4 rfl) 3 rfl)) (by decide)), (fun q0_ => absurd (hl_.symm.trans (hcl 4 _ rfl (hcl 5 _ rfl (hcl 6 _ rfl (hcl 7 _ rfl ((up 3 7 (by decide)).symm.trans q0_) 6 rfl) 5 rfl) 4 rfl) 3 rfl)) (by decide)), (fun q0_ => absurd (hl_.symm.trans (hcl 4 _ rfl (hcl 5 _ rfl (hcl 6 _ rfl (hcl 7 _ rfl ((up 3 7 (by decide)).symm.trans q0_) 6 rfl) 5 rfl) 4 rfl) 3 rfl)) (by decide))⟩, fun _ _ _ => rfl⟩
    | 4, _ => exact stepV rfl rfl (execLnM (len := D2.n) rfl (Or.inl rfl) (hdep _ rfl 3 rfl _ rfl _ rfl) hP2.shp) ⟨s, ⟨_, rfl, rfl⟩, ⟨hT.1, (fun q0_ => (hT.2.1 (by rw [up 4 2 (by decide)] at q0_; exact q0_))), (fun q0_ => (hT.2.2.1 (by rw [up 4 2 (by decide)] at q0_; exact q0_))), (fun q0_ q1_ => absurd (hl_.symm.trans (hcl 5 _ rfl ((up 4 5 (by decide)).symm.trans q1_) 4 rfl)) (by decide)), (fun q0_ => absurd (hl_.symm.trans (hcl 5 _ rfl ((up 4 5 (by decide)).symm.trans q0_) 4 rfl)) (by decide)), (fun q0_ => absurd (hl_.symm.trans (hcl 5 _ rfl ((up 4 5 (by decide)).symm.trans q0_) 4 rfl)) (by decide)), (fun q0_ => absurd (hl_.symm.trans (hcl 5 _ rfl (hcl 6 _ rfl (hcl 7 _ rfl ((up 4 7 (by decide)).symm.trans q0_) 6 rfl) 5 rfl) 4 rfl)) (by decide)), (fun q0_ => absurd (hl_.symm.trans (hcl 5 _ rfl (hcl 6 _ rfl (hcl 7 _ rfl ((up 4 7 (by decide)).symm.trans q0_) 6 rfl) 5 rfl) 4 rfl)) (by decide))⟩, fun _ _ _ => rfl⟩
    | 5, _ =>
      refine stepV rfl rfl (execMkI2 rfl (hdep _ rfl 4 rfl _ rfl _ rfl) (hdep _ rfl 4 rfl _ rfl _ rfl) (by omega)) ⟨(s.1, X.heap.size, s.2.2), ⟨_, rfl, rfl⟩, ⟨hT.1.trans (((belNew X _)).mono hT.1.size), (fun q0_ => (on9 (hT.2.1 (by rw [up 5 2 (by decide)] at q0_; exact q0_)) (belNew X _))), (fun q0_ => (hT.2.2.1 (by rw [up 5 2 (by decide)] at q0_; exact q0_))), (fun q0_ q1_ => Nat.ne_of_lt (Array.getElem?_eq_some_iff.1 (hT.2.1 (by rw [up 5 2 (by decide)] at q0_; exact q0_))).1), (fun _q0_ => heapNew X _), (fun _q0_ => (hT.1).size), (fun q0_ => absurd (hl_.symm.trans (hcl 6 _ rfl (hcl 7 _ rfl ((up 5 7 (by decide)).symm.trans q0_) 6 rfl) 5 rfl)) (by decide)), (fun q0_ => absurd (hl_.symm.trans (hcl 6 _ rfl (hcl 7 _ rfl ((up 5 7 (by decide)).symm.trans q0_) 6 rfl) 5 rfl)) (by decide))⟩, fun i hi hli => ?_⟩
      match i, hi with
      | 0, _ => rfl
      | 1, _ => rfl
      | 2, _ => rfl
      | 3, _ => rfl
      | 4, _ => rfl
      | 5, _ => exact absurd (hl_.symm.trans hli) (by decide)
      | 6, _ => exact absurd (hl_.symm.trans (hcl 6 _ rfl hli 5 rfl)) (by decide)
      | 7, _ => rfl
      | 8, _ => rfl
      | k_ + 9, h_ => exact absurd h_ (by simp)
    | 6, _ => exact stepV rfl rfl (execBg rfl (hdep _ rfl 2 rfl _ rfl _ rfl) (hdep _ rfl 5 rfl _ rfl _ rfl)) ⟨s, ⟨_, rfl, rfl⟩, ⟨hT.1, (fun q0_ => (hT.2.1 (by rw [up 6 2 (by decide)] at q0_; exact q0_))), (fun q0_ => (hT.2.2.1 (by rw [up 6 2 (by decide)] at q0_; exact q0_))), (fun q0_ q1_ => (hT.2.2.2.1 (by rw [up 6 2 (by decide)] at q0_; exact q0_) (by rw [up 6 5 (by decide)] at q1_; exact q1_))), (fun q0_ => (hT.2.2.2.2.1 (by rw [up 6 5 (by decide)] at q0_; exact q0_))), (fun q0_ => (hT.2.2.2.2.2.1 (by rw [up 6 5 (by decide)] at q0_; exact q0_))), (fun q0_ => absurd (hl_.symm.trans (hcl 7 _ rfl ((up 6 7 (by decide)).symm.trans q0_) 6 rfl)) (by decide)), (fun q0_ => absurd (hl_.symm.trans (hcl 7 _ rfl ((up 6 7 (by decide)).symm.trans q0_) 6 rfl)) (by decide))⟩, fun _ _ _ => rfl⟩
    | 7, _ =>
      refine stepV rfl rfl (execBxG rfl (hdep _ rfl 6 rfl _ rfl _ rfl)) ⟨(s.1, s.2.1, X.heap.size), ⟨_, rfl, rfl⟩, ⟨hT.1.trans (((belNew X _)).mono hT.1.size), (fun q0_ => (on9 (hT.2.1 (by rw [up 7 2 (by decide)] at q0_; exact q0_)) (belNew X _))), (fun q0_ => (hT.2.2.1 (by rw [up 7 2 (by decide)] at q0_; exact q0_))), (fun q0_ q1_ => (hT.2.2.2.1 (by rw [up 7 2 (by decide)] at q0_; exact q0_) (by rw [up 7 5 (by decide)] at q1_; exact q1_))), (fun q0_ => (on9 (hT.2.2.2.2.1 (by rw [up 7 5 (by decide)] at q0_; exact q0_)) (belNew X _))), (fun q0_ => (hT.2.2.2.2.2.1 (by rw [up 7 5 (by decide)] at q0_; exact q0_))), (fun _q0_ => heapNew X _), (fun _q0_ => (hT.1).size)⟩, fun i hi hli => ?_⟩
      match i, hi with
      | 0, _ => rfl
      | 1, _ => rfl
      | 2, _ => rfl
      | 3, _ => rfl
      | 4, _ => rfl
      | 5, _ => rfl
      | 6, _ => rfl
      | 7, _ => exact absurd (hl_.symm.trans hli) (by decide)
      | 8, _ => exact absurd (hl_.symm.trans (hcl 8 _ rfl hli 7 rfl)) (by decide)
      | k_ + 9, h_ => exact absurd h_ (by simp)
    | 8, _ => exact stepV rfl rfl (Cf.execAsgB rfl (hdep _ rfl 7 rfl _ rfl _ rfl)) ⟨s, ⟨_, rfl, rfl⟩, ⟨hT.1, (fun q0_ => (hT.2.1 (by rw [up 8 2 (by decide)] at q0_; exact q0_))), (fun q0_ => (hT.2.2.1 (by rw [up 8 2 (by decide)] at q0_; exact q0_))), (fun q0_ q1_ => (hT.2.2.2.1 (by rw [up 8 2 (by decide)] at q0_; exact q0_) (by rw [up 8 5 (by decide)] at q1_; exact q1_))), (fun q0_ => (hT.2.2.2.2.1 (by rw [up 8 5 (by decide)] at q0_; exact q0_))), (fun q0_ => (hT.2.2.2.2.2.1 (by rw [up 8 5 (by decide)] at q0_; exact q0_))), (fun q0_ => (hT.2.2.2.2.2.2.1 (by rw [up 8 7 (by decide)] at q0_; exact q0_))), (fun q0_ => (hT.2.2.2.2.2.2.2 (by rw [up 8 7 (by decide)] at q0_; exact q0_)))⟩, fun _ _ _ => rfl⟩
    | k_ + 9, h_ => exact absurd h_ (by simp)
  rintro l_ ⟨p1, q1, ga⟩ a X6 h1 h2 h3 h4 hall hT
  clear BB
  obtain ⟨BB, F24, Fgp1, Fnq1, F27, Fgq1, F29, Fgga⟩ := hT
  replace F24 : (X6.heap[p1]? = some (.cells (madeCells #[.int .i64 0] D2.n) 3)) := F24 (hall 2 (by decide))
  replace Fgp1 : (XJ.heap.size ≤ p1) := Fgp1 (hall 2 (by decide))
  replace Fnq1 : (p1 ≠ q1) := Fnq1 (hall 2 (by decide)) (hall 5 (by decide))
  replace F27 : (X6.heap[q1]? = some (.cells (madeCells #[.int .i64 0] D2.n) 3)) := F27 (hall 5 (by decide))
  replace Fgq1 : (XJ.heap.size ≤ q1) := Fgq1 (hall 5 (by decide))
  replace F29 : (X6.heap[ga]? = some (.cells (gC (.slice none 0 0) (.slice (some ⟨p1, 0, none⟩) D2.n D2.n) (.slice (some ⟨q1, 0, none⟩) D2.n D2.n)) 40)) := F29 (hall 7 (by decide))
  replace Fgga : (XJ.heap.size ≤ ga) := Fgga (hall 7 (by decide))
  clear hall
  replace t1 := (h3 1 (by decide)).trans t1
  replace t2 := (h3 2 (by decide)).trans t2
  replace t3 := (h3 3 (by decide)).trans t3
  have t7 : a.eval (.tmp 7) = .pointer (some ⟨ga, 0, none⟩) := h4 (8, 7) (by decide)
  replace A := (⟨h1, h2.trans A.2⟩ : a.tmps.size = 93 ∧ a.defers = [])
  clear h1 h2 h3 h4
  have FL := lg_new F24 F27 F29 (Nat.le_trans BV.size Fgp1) (Nat.le_trans BV.size Fgq1) (Nat.le_trans BV.size Fgga) Fnq1 (by omega)
  have o3a : ¬ Lf0 ga p1 q1 D2.n g3 := fun w => Nat.not_lt.2 (lf_ge w Fgga Fgp1 Fgq1) (Array.getElem?_eq_some_iff.1 F3).1
  have F3Q := on9 F3 BB
  have FL0 := FL
  replace BV := BV.trans (BB.mono BV.size)
  clear BB F24 F27 F29
  have BB : Below X6.heap.size X6 X6 := Below.refl _ _
  refine wp_seq ?_
  refine wp_region_stB (σ := Nat × Nat × Nat × Nat) 93 [(0, 30), (1, 31), (2, 32), (3, 33), (4, 34), (5, 35), (6, 36), (7, 37), (8, 8)] (fun l_ s X => Below X6.heap.size X6 X ∧ (l_ 2 = true → (X.heap[s.1]? = some (.cells (madeCells #[.int .i64 0] D2.n) 3))) ∧ (l_ 2 = true → (X6.heap.size ≤ s.1)) ∧ (l_ 2 = true → l_ 5 = true → (s.1 ≠ s.2.1)) ∧ (l_ 5 = true → (X.heap[s.2.1]? = some (.cells (madeCells #[.int .i64 0] D2.n) 3))) ∧ (l_ 5 = true → (X6.heap.size ≤ s.2.1)) ∧ (l_ 7 = true → (X.heap[s.2.2.1]? = some (.cells (gC (.slice none 0 0) (.slice (some ⟨s.1, 0, none⟩) D2.n D2.n) (.slice (some ⟨s.2.1, 0, none⟩) D2.n D2.n)) 40))) ∧ (l_ 7 = true → (X6.heap.size ≤ s.2.2.1)) ∧ (l_ 8 = true → l_ 9 = false → (X.heap[s.2.2.2]? = some (.cells #[.pointer none] 38))) ∧ (l_ 8 = true → (X6.heap.size ≤ s.2.2.2)) ∧ (l_ 9 = true → (X.heap[s.2.2.2]? = some (.cells #[.pointer (some ⟨s.2.2.1, 0, none⟩)] 38)))) (fun s => fun i_ => match i_ with | 0 => sv | 1 => .int .i64 ((D2.n : Nat) : Int) | 2 => .slice (some ⟨s.1, 0, none⟩) D2.n D2.n | 3 => sv | 4 => .int .i64 ((D2.n : Nat) : Int) | 5 => .slice (some ⟨s.2.1, 0, none⟩) D2.n D2.n | 6 => .agg (gC (.slice none 0 0) (.slice (some ⟨s.1, 0, none⟩) D2.n D2.n) (.slice (some ⟨s.2.1, 0, none⟩) D2.n D2.n)) | 7 => .pointer (some ⟨s.2.2.1, 0, none⟩) | 8 => .pointer (some ⟨s.2.2.2, 0, none⟩) | 9 => undef | _ => undef) (0, 0, 0, 0) (by kernel_rfl) (by kernel_rfl) A.1 (by kernel_rfl) (by decide) (by decide) ⟨(BB.drew), (fun q0_ => by cases q0_), (fun q0_ => by cases q0_), (fun q0_ q1_ => by cases q0_), (fun q0_ => by cases q0_), (fun q0_ => by cases q0_), (fun q0_ => by cases q0_), (fun q0_ => by cases q0_), (fun q0_ q1_ => by cases q0_), (fun q0_ => by cases q0_), (fun q0_ => by cases q0_)⟩ ?_ ?_
  · intro i_ hi_ l_ s a X hl_ hf hdep hl2 hcl hno hT
    have up : ∀ j x, x ≠ j → updB l_ j x = l_ x := fun j x hj => by unfold updB; simp [hj]
    match i_, hi_ with
    | 0, _ => exact stepV rfl rfl (execLm rfl (Or.inr (Or.inr (Or.inr (Or.inr (Or.inl rfl))))) ((hf 3 (by decide)).trans t3) (one_c (on9 F3Q hT.1))) ⟨s, ⟨_, rfl, rfl⟩, ⟨hT.1, (fun q0_ => absurd (hl_.symm.trans (hcl 1 _ rfl (hcl 2 _ rfl ((up 0 2 (by decide)).symm.trans q0_) 1 rfl) 0 rfl)) (by decide)), (fun q0_ => absurd (hl_.symm.trans (hcl 1 _ rfl (hcl 2 _ rfl ((up 0 2 (by decide)).symm.trans q0_) 1 rfl) 0 rfl)) (by decide)), (fun q0_ q1_ => absurd (hl_.symm.trans (hcl 1 _ rfl (hcl 2 _ rfl ((up 0 2 (by decide)).symm.trans q0_) 1 rfl) 0 rfl)) (by decide)), (fun q0_ => (hT.2.2.2.2.1 (by rw [up 0 5 (by decide)] at q0_; exact q0_))), (fun q0_ => (hT.2.2.2.2.2.1 (by rw [up 0 5 (by decide)] at q0_; exact q0_))), (fun q0_ => absurd (hl_.symm.trans (hcl 1 _ rfl (hcl 2 _ rfl (hcl 6 _ rfl (hcl 7 _ rfl ((up 0 7 (by decide)).symm.trans q0_) 6 rfl) 2 rfl) 1 rfl) 0 rfl)) (by decide)), (fun q0_ => absurd (hl_.symm.trans (hcl 1 _ rfl (hcl 2 _ rfl (hcl 6 _ rfl (hcl 7 _ rfl ((up 0 7 (by decide)).symm.trans q0_) 6 rfl) 2 rfl) 1 rfl) 0 rfl)) (by decide)), (fun q0_ q1_ => (hT.2.2.2.2.2.2.2.2.1 (by rw [up 0 8 (by decide)] at q0_; exact q0_) (by rw [up 0 9 (by decide)] at q1_; exact q1_))), (fun q0_ => (hT.2.2.2.2.2.2.2.2.2.1 (by rw [up 0 8 (by decide)] at q0_; exact q0_))), (fun q0_ => absurd (hl_.symm.trans (hcl 9 _ rfl ((up 0 9 (by decide)).symm.trans q0_) 0 rfl)) (by decide))⟩, fun _ _ _ => rfl⟩
    | 1, _ => exact stepV rfl rfl (execLnM (len := D2.n) rfl (Or.inl rfl) (hdep _ rfl 0 rfl _ rfl _ rfl) hP2.shp) ⟨s, ⟨_, rfl, rfl⟩, ⟨hT.1, (fun q0_ => absurd (hl_.symm.trans (hcl 2 _ rfl ((up 1 2 (by decide)).symm.trans q0_) 1 rfl)) (by decide)), (fun q0_ => absurd (hl_.symm.trans (hcl 2 _ rfl ((up 1 2 (by decide)).symm.trans q0_) 1 rfl)) (by decide)), (fun q0_ q1_ => absurd (hl_.symm.trans (hcl 2 _ rfl ((up 1 2 (by decide)).symm.trans q0_) 1 rfl)) (by decide)), (fun q0_ => (hT.2.2.2.2.1 (by rw [up 1 5 (by decide)] at q0_; exact q0_))), (fun q0_ => (hT.2.2.2.2.2.1 (by rw [up 1 5 (by decide)] at q0_; exact q0_))), (fun q0_ => absurd (hl_.symm.trans (hcl 2 _ rfl (hcl 6 _ rfl (hcl 7 _ rfl ((up 1 7 (by decide)).symm.trans q0_) 6 rfl) 2 rfl) 1 rfl)) (by decide)), (fun q0_ => absurd (hl_.symm.trans (hcl 2 _ rfl (hcl 6 _ rfl (hcl 7 _ rfl ((up 1 7 (by decide)).symm.trans q0_) 6 rfl) 2 rfl) 1 rfl)) (by decide)), (fun q0_ q1_ => (hT.2.2.2.2.2.2.2.2.1 (by rw [up 1 8 (by decide)] at q0_; exact q0_) (by rw [up 1 9 (by decide)] at q1_; exact q1_))), (fun q0_ => (hT.2.2.2.2.2.2.2.2.2.1 (by rw [up 1 8 (by decide)] at q0_; exact q0_))), (fun q0_ => absurd (hl_.symm.trans (hcl 9 _ rfl ((up 1 9 (by decide)).symm.trans q0_) 1 rfl)) (by decide))⟩, fun _ _ _ => rfl⟩
    | 2, _ =>
      refine stepV rfl rfl (execMkI2 rfl (hdep _ rfl 1 rfl _ rfl _ rfl) (hdep _ rfl 1 rfl _ rfl _ rfl) (by omega)) ⟨(X.heap.size, s.2.1, s.2.2.1, s.2.2.2), ⟨_, rfl, rfl⟩, ⟨hT.1.trans (((belNew X _)).mono hT.1.size), (fun _q0_ => heapNew X _), (fun _q0_ => (hT.1).size), (fun q0_ q1_ => (Ne.symm (Nat.ne_of_lt (Array.getElem?_eq_some_iff.1 (hT.2.2.2.2.1 (by rw [up 2 5 (by decide)] at q1_; exact q1_))).1))), (fun q0_ => (on9 (hT.2.2.2.2.1 (by rw [up 2 5 (by decide)] at q0_; exact q0_)) (belNew X _))), (fun q0_ => (hT.2.2.2.2.2.1 (by rw [up 2 5 (by decide)] at q0_; exact q0_))), (fun q0_ => absurd (hl_.symm.trans (hcl 6 _ rfl (hcl 7 _ rfl ((up 2 7 (by decide)).symm.trans q0_) 6 rfl) 2 rfl)) (by decide)), (fun q0_ => absurd (hl_.symm.trans (hcl 6 _ rfl (hcl 7 _ rfl ((up 2 7 (by decide)).symm.trans q0_) 6 rfl) 2 rfl)) (by decide)), (fun q0_ q1_ => (on9 (hT.2.2.2.2.2.2.2.2.1 (by rw [up 2 8 (by decide)] at q0_; exact q0_) (by rw [up 2 9 (by decide)] at q1_; exact q1_)) (belNew X _))), (fun q0_ => (hT.2.2.2.2.2.2.2.2.2.1 (by rw [up 2 8 (by decide)] at q0_; exact q0_))), (fun q0_ => absurd (hl_.symm.trans (hcl 9 _ rfl ((up 2 9 (by decide)).symm.trans q0_) 2 rfl)) (by decide))⟩, fun i hi hli => ?_⟩
      match i, hi with
      | 0, _ => rfl
      | 1, _ => rfl
      | 2, _ => exact absurd (hl_.symm.trans hli) (by decide)
      | 3, _ => rfl
      | 4, _ => rfl
      | 5, _ => rfl
      | 6, _ => exact absurd (hl_.symm.trans (hcl 6 _ rfl hli 2 rfl)) (by decide)
      | 7, _ => rfl
      | 8, _ => rfl
      | 9, _ => rfl
      | k_ + 10, h_ => exact absurd h_ (by simp)
    | 3, _ => exact stepV rfl rfl (execLm rfl (Or.inr (Or.inr (Or.inr (Or.inr (Or.inl rfl))))) ((hf 3 (by decide)).trans t3) (one_c (on9 F3Q hT.1))) ⟨s, ⟨_, rfl, rfl⟩, ⟨hT.1, (fun q0_ => (hT.2.1 (by rw [up 3 2 (by decide)] at q0_; exact q0_))), (fun q0_ => (hT.2.2.1 (by rw [up 3 2 (by decide)] at q0_; exact q0_))), (fun q0_ q1_ => absurd (hl_.symm.trans (hcl 4 _ rfl (hcl 5 _ rfl ((up 3 5 (by decide)).symm.trans q1_) 4 rfl) 3 rfl)) (by decide)), (fun q0_ => absurd (hl_.symm.trans (hcl 4 _ rfl (hcl 5 _ rfl ((up 3 5 (by decide)).symm.trans q0_) 4 rfl) 3 rfl)) (by decide)), (fun q0_ => absurd (hl_.symm.trans (hcl 4 _ rfl (hcl 5 _ rfl ((up 3 5 (by decide)).symm.trans q0_) 4 rfl) 3 rfl)) (by decide)), (fun q0_ => absurd (hl_.symm.trans (hcl 4 _ rfl (hcl 5 _ rfl (hcl 6 _ rfl (hcl 7 _ rfl ((up 3 7 (by decide)).symm.trans q0_) 6 rfl) 5 rfl) 4 rfl) 3 rfl)) (by decide)), (fun q0_ => absurd (hl_.symm.trans (hcl 4 _ rfl (hcl 5 _ rfl (hcl 6 _ rfl (hcl 7 _ rfl ((up 3 7 (by decide)).symm.trans q0_) 6 rfl) 5 rfl) 4 rfl) 3 rfl)) (by decide)), (fun q0_ q1_ => (hT.2.2.2.2.2.2.2.2.1 (by rw [up 3 8 (by decide)] at q0_; exact q0_) (by rw [up 3 9 (by decide)] at q1_; exact q1_))), (fun q0_ => (hT.2.2.2.2.2.2.2.2.2.1 (by rw [up 3 8 (by decide)] at q0_; exact q0_))), (fun q0_ => absurd (hl_.symm.trans (hcl 9 _ rfl ((up 3 9 (by decide)).symm.trans q0_) 3 rfl)) (by decide))⟩, fun _ _ _ => rfl⟩
    | 4, _ => exact stepV rfl rfl (execLnM (len := D2.n) rfl (Or.inl rfl) (hdep _ rfl 3 rfl _ rfl _ rfl) hP2.shp) ⟨s, ⟨_, rfl, rfl⟩, ⟨hT.1, (fun q0_ => (hT.2.1 (by rw [up 4 2 (by decide)] at q0_; exact q0_))), (fun q0_ => (hT.2.2.1 (by rw [up 4 2 (by decide)] at q0_; exact q0_))), (fun q0_ q1_ => absurd (hl_.symm.trans (hcl 5 _ rfl ((up 4 5 (by decide)).symm.trans q1_) 4 rfl)) (by decide)), (fun q0_ => absurd (hl_.symm.trans (hcl 5 _ rfl ((up 4 5 (by decide)).symm.trans q0_) 4 rfl)) (by decide)), (fun q0_ => absurd (hl_.symm.trans (hcl 5 _ rfl ((up 4 5 (by decide)).symm.trans q0_) 4 rfl)) (by decide)), (fun q0_ => absurd (hl_.symm.trans (hcl 5 _ rfl (hcl 6 _ rfl (hcl 7 _ rfl ((up 4 7 (by decide)).symm.trans q0_) 6 rfl) 5 rfl) 4 rfl)) (by decide)), (fun q0_ => absurd (hl_.symm.trans (hcl 5 _ rfl (hcl 6 _ rfl (hcl 7 _ rfl ((up 4 7 (by decide)).symm.trans q0_) 6 rfl) 5 rfl) 4 rfl)) (by decide)), (fun q0_ q1_ => (hT.2.2.2.2.2.2.2.2.1 (by rw [up 4 8 (by decide)] at q0_; exact q0_) (by rw [up 4 9 (by decide)] at q1_; exact q1_))), (fun q0_ => (hT.2.2.2.2.2.2.2.2.2.1 (by rw [up 4 8 (by decide)] at q0_; exact q0_))), (fun q0_ => absurd (hl_.symm.trans (hcl 9 _ rfl ((up 4 9 (by decide)).symm.trans q0_) 4 rfl)) (by decide))⟩, fun _ _ _ => rfl⟩
    | 5, _ =>
      refine stepV rfl rfl (execMkI2 rfl (hdep _ rfl 4 rfl _ rfl _ rfl) (hdep _ rfl 4 rfl _ rfl _ rfl) (by omega)) ⟨(s.1, X.heap.size, s.2.2.1, s.2.2.2), ⟨_, rfl, rfl⟩, ⟨hT.1.trans (((belNew X _)).mono hT.1.size), (fun q0_ => (on9 (hT.2.1 (by rw [up 5 2 (by decide)] at q0_; exact q0_)) (belNew X _))), (fun q0_ => (hT.2.2.1 (by rw [up 5 2 (by decide)] at q0_; exact q0_))), (fun q0_ q1_ => Nat.ne_of_lt (Array.getElem?_eq_some_iff.1 (hT.2.1 (by rw [up 5 2 (by decide)] at q0_; exact q0_))).1), (fun _q0_ => heapNew X _), (fun _q0_ => (hT.1).size), (fun q0_ => absurd (hl_.symm.trans (hcl 6 _ rfl (hcl 7 _ rfl ((up 5 7 (by decide)).symm.trans q0_) 6 rfl) 5 rfl)) (by decide)), (fun q0_ => absurd (hl_.symm.trans (hcl 6 _ rfl (hcl 7 _ rfl ((up 5 7 (by decide)).symm.trans q0_) 6 rfl) 5 rfl)) (by decide)), (fun q0_ q1_ => (on9 (hT.2.2.2.2.2.2.2.2.1 (by rw [up 5 8 (by decide)] at q0_; exact q0_) (by rw [up 5 9 (by decide)] at q1_; exact q1_)) (belNew X _))), (fun q0_ => (hT.2.2.2.2.2.2.2.2.2.1 (by rw [up 5 8 (by decide)] at q0_; exact q0_))), (fun q0_ => absurd (hl_.symm.trans (hcl 9 _ rfl ((up 5 9 (by decide)).symm.trans q0_) 5 rfl)) (by decide))⟩, fun i hi hli => ?_⟩
      match i, hi with
      | 0, _ => rfl
      | 1, _ => rfl
      | 2, _ => rfl
      | 3, _ => rfl
      | 4, _ => rfl
      | 5, _ => exact absurd (hl_.symm.trans hli) (by decide)
      | 6, _ => exact absurd (hl_.symm.trans (hcl 6 _ rfl hli 5 rfl)) (by decide)
      | 7, _ => rfl
      | 8, _ => rfl
      | 9, _ => rfl
      | k_ + 10, h_ => exact absurd h_ (by simp)
    | 6, _ => exact stepV rfl rfl (execBg rfl (hdep _ rfl 2 rfl _ rfl _ rfl) (hdep _ rfl 5 rfl _ rfl _ rfl)) ⟨s, ⟨_, rfl, rfl⟩, ⟨hT.1, (fun q0_ => (hT.2.1 (by rw [up 6 2 (by decide)] at q0_; exact q0_))), (fun q0_ => (hT.2.2.1 (by rw [up 6 2 (by decide)] at q0_; exact q0_))), (fun q0_ q1_ => (hT.2.2.2.1 (by rw [up 6 2 (by decide)] at q0_; exact q0_) (by rw [up 6 5 (by decide)] at q1_; exact q1_))), (fun q0_ => (hT.2.2.2.2.1 (by rw [up 6 5 (by decide)] at q0_; exact q0_))), (fun q0_ => (hT.2.2.2.2.2.1 (by rw [up 6 5 (by decide)] at q0_; exact q0_))), (fun q0_ => absurd (hl_.symm.trans (hcl 7 _ rfl ((up 6 7 (by decide)).symm.trans q0_) 6 rfl)) (by decide)), (fun q0_ => absurd (hl_.symm.trans (hcl 7 _ rfl ((up 6 7 (by decide)).symm.trans q0_) 6 rfl)) (by decide)), (fun q0_ q1_ => (hT.2.2.2.2.2.2.2.2.1 (by rw [up 6 8 (by decide)] at q0_; exact q0_) (by rw [up 6 9 (by decide)] at q1_; exact q1_))), (fun q0_ => (hT.2.2.2.2.2.2.2.2.2.1 (by rw [up 6 8 (by decide)] at q0_; exact q0_))), (fun q0_ => absurd (hl_.symm.trans (hcl 9 _ rfl ((up 6 9 (by decide)).symm.trans q0_) 6 rfl)) (by decide))⟩, fun _ _ _ => rfl⟩
    | 7, _ =>
      refine stepV rfl rfl (execBxG rfl (hdep _ rfl 6 rfl _ rfl _ rfl)) ⟨(s.1, s.2.1, X.heap.size, s.2.2.2), ⟨_, rfl, rfl⟩, ⟨hT.1.trans (((belNew X _)).mono hT.1.size), (fun q0_ => (on9 (hT.2.1 (by rw [up 7 2 (by decide)] at q0_; exact q0_)) (belNew X _))), (fun q0_ => (hT.2.2.1 (by rw [up 7 2 (by decide)] at q0_; exact q0_))), (fun q0_ q1_ => (hT.2.2.2.1 (by rw [up 7 2 (by decide)] at q0_; exact q0_) (by rw [up 7 5 (by decide)] at q1_; exact q1_))), (fun q0_ => (on9 (hT.2.2.2.2.1 (by rw [up 7 5 (by decide)] at q0_; exact q0_)) (belNew X _))), (fun q0_ => (hT.2.2.2.2.2.1 (by rw [up 7 5 (by decide)] at q0_; exact q0_))), (fun _q0_ => heapNew X _), (fun _q0_ => (hT.1).size), (fun q0_ q1_ => (on9 (hT.2.2.2.2.2.2.2.2.1 (by rw [up 7 8 (by decide)] at q0_; exact q0_) (by rw [up 7 9 (by decide)] at q1_; exact q1_)) (belNew X _))), (fun q0_ => (hT.2.2.2.2.2.2.2.2.2.1 (by rw [up 7 8 (by decide)] at q0_; exact q0_))), (fun q0_ => absurd (hl_.symm.trans (hcl 9 _ rfl ((up 7 9 (by decide)).symm.trans q0_) 7 rfl)) (by decide))⟩, fun i hi hli => ?_⟩
      match i, hi with
      | 0, _ => rfl
      | 1, _ => rfl
      | 2, _ => rfl
      | 3, _ => rfl
      | 4, _ => rfl
      | 5, _ => rfl
      | 6, _ => rfl
      | 7, _ => exact absurd (hl_.symm.trans hli) (by decide)
      | 8, _ => rfl
      | 9, _ => rfl
      | k_ + 10, h_ => exact absurd h_ (by simp)
    | 8, _ =>
      refine stepV rfl rfl (execAlG rfl) ⟨(s.1, s.2.1, s.2.2.1, X.heap.size), ⟨_, rfl, rfl⟩, ⟨hT.1.trans (((belNew X _)).mono hT.1.size), (fun q0_ => (on9 (hT.2.1 (by rw [up 8 2 (by decide)] at q0_; exact q0_)) (belNew X _))), (fun q0_ => (hT.2.2.1 (by rw [up 8 2 (by decide)] at q0_; exact q0_))), (fun q0_ q1_ => (hT.2.2.2.1 (by rw [up 8 2 (by decide)] at q0_; exact q0_) (by rw [up 8 5 (by decide)] at q1_; exact q1_))), (fun q0_ => (on9 (hT.2.2.2.2.1 (by rw [up 8 5 (by decide)] at q0_; exact q0_)) (belNew X _))), (fun q0_ => (hT.2.2.2.2.2.1 (by rw [up 8 5 (by decide)] at q0_; exact q0_))), (fun q0_ => (on9 (hT.2.2.2.2.2.2.1 (by rw [up 8 7 (by decide)] at q0_; exact q0_)) (belNew X _))), (fun q0_ => (hT.2.2.2.2.2.2.2.1 (by rw [up 8 7 (by decide)] at q0_; exact q0_))), (fun _q0_ _q1_ => heapNew X _), (fun _q0_ => (hT.1).size), (fun q0_ => absurd (hl_.symm.trans (hcl 9 _ rfl ((up 8 9 (by decide)).symm.trans q0_) 8 rfl)) (by decide))⟩, fun i hi hli => ?_⟩
      match i, hi with
      | 0, _ => rfl
      | 1, _ => rfl
      | 2, _ => rfl
      | 3, _ => rfl
      | 4, _ => rfl
      | 5, _ => rfl
      | 6, _ => rfl
      | 7, _ => rfl
      | 8, _ => exact absurd (hl_.symm.trans hli) (by decide)
      | 9, _ => rfl
      | k_ + 10, h_ => exact absurd h_ (by simp)
    | 9, _ =>
      refine stepS rfl rfl (execSm rfl (Or.inr (Or.inr (Or.inr (Or.inr (Or.inr (rfl)))))) (hdep _ rfl 8 rfl _ rfl _ rfl) (hdep _ rfl 7 rfl _ rfl _ rfl) (Or.inr (Or.inr (Or.inr ⟨_, rfl⟩))) (one_c (hT.2.2.2.2.2.2.2.2.1 (hl2 _ rfl 8 rfl) hl_)) (frozen4 (hT.2.2.2.2.2.2.2.2.1 (hl2 _ rfl 8 rfl) hl_))) ⟨s, ⟨_, rfl, rfl⟩, ⟨(hT.1).setCell (hT.2.2.2.2.2.2.2.2.2.1 (hl2 _ rfl 8 rfl)) _, (fun q0_ => (keepT19 (hT.2.1 (by rw [up 9 2 (by decide)] at q0_; exact q0_)) (hT.2.2.2.2.2.2.2.2.1 (hl2 _ rfl 8 rfl) hl_) (by decide) grC19)), (fun q0_ => (hT.2.2.1 (by rw [up 9 2 (by decide)] at q0_; exact q0_))), (fun q0_ q1_ => (hT.2.2.2.1 (by rw [up 9 2 (by decide)] at q0_; exact q0_) (by rw [up 9 5 (by decide)] at q1_; exact q1_))), (fun q0_ => (keepT19 (hT.2.2.2.2.1 (by rw [up 9 5 (by decide)] at q0_; exact q0_)) (hT.2.2.2.2.2.2.2.2.1 (hl2 _ rfl 8 rfl) hl_) (by decide) grC19)), (fun q0_ => (hT.2.2.2.2.2.1 (by rw [up 9 5 (by decide)] at q0_; exact q0_))), (fun q0_ => (keepT19 (hT.2.2.2.2.2.2.1 (by rw [up 9 7 (by decide)] at q0_; exact q0_)) (hT.2.2.2.2.2.2.2.2.1 (hl2 _ rfl 8 rfl) hl_) (by decide) grC19)), (fun q0_ => (hT.2.2.2.2.2.2.2.1 (by rw [up 9 7 (by decide)] at q0_; exact q0_))), (fun q0_ q1_ => absurd q1_ (by unfold updB; simp)), (fun q0_ => (hT.2.2.2.2.2.2.2.2.2.1 (by rw [up 9 8 (by decide)] at q0_; exact q0_))), (fun _q0_ => heap4 _ (hT.2.2.2.2.2.2.2.2.1 (hl2 _ rfl 8 rfl) hl_))⟩, fun i hi hli => ?_⟩
      match i, hi with
      | 0, _ => rfl
      | 1, _ => rfl
      | 2, _ => rfl
      | 3, _ => rfl
      | 4, _ => rfl
      | 5, _ => rfl
      | 6, _ => rfl
      | 7, _ => rfl
      | 8, _ => rfl
      | 9, _ => exact absurd (hl_.symm.trans hli) (by decide)
      | k_ + 10, h_ => exact absurd h_ (by simp)
    | k_ + 10, h_ => exact absurd h_ (by simp)
  rintro l_ ⟨p2, q2, gb, g8⟩ a X7 h1 h2 h3 h4 hall hT
  clear BB
  obtain ⟨BB, F32, Fgp2, Fnq2, F35, Fgq2, F37, Fggb, F8n, Fgg8, F8⟩ := hT
  replace F32 : (X7.heap[p2]? = some (.cells (madeCells #[.int .i64 0] D2.n) 3)) := F32 (hall 2 (by decide))
  replace Fgp2 : (X6.heap.size ≤ p2) := Fgp2 (hall 2 (by decide))
  replace Fnq2 : (p2 ≠ q2) := Fnq2 (hall 2 (by decide)) (hall 5 (by decide))
  replace F35 : (X7.heap[q2]? = some (.cells (madeCells #[.int .i64 0] D2.n) 3)) := F35 (hall 5 (by decide))
  replace Fgq2 : (X6.heap.size ≤ q2) := Fgq2 (hall 5 (by decide))
  replace F37 : (X7.heap[gb]? = some (.cells (gC (.slice none 0 0) (.slice (some ⟨p2, 0, none⟩) D2.n D2.n) (.slice (some ⟨q2, 0, none⟩) D2.n D2.n)) 40)) := F37 (hall 7 (by decide))
  replace Fggb : (X6.heap.size ≤ gb) := Fggb (hall 7 (by decide))
  clear F8n
  replace Fgg8 : (X6.heap.size ≤ g8) := Fgg8 (hall 8 (by decide))
  replace F8 : (X7.heap[g8]? = some (.cells #[.pointer (some ⟨gb, 0, none⟩)] 38)) := F8 (hall 9 (by decide))
  clear hall
  replace t1 := (h3 1 (by decide)).trans t1
  replace t2 := (h3 2 (by decide)).trans t2
  replace t3 := (h3 3 (by decide)).trans t3
  replace t7 := (h3 7 (by decide)).trans t7
  have t8 : a.eval (.tmp 8) = .pointer (some ⟨g8, 0, none⟩) := h4 (8, 8) (by decide)
  replace A := (⟨h1, h2.trans A.2⟩ : a.tmps.size = 93 ∧ a.defers = [])
  clear h1 h2 h3 h4
  have FLb := lg_new F32 F35 F37 (Nat.le_trans BV.size Fgp2) (Nat.le_trans BV.size Fgq2) (Nat.le_trans BV.size Fggb) Fnq2 (by omega)
  have o3b : ¬ Lf0 gb p2 q2 D2.n g3 := fun w => Nat.not_lt.2 (lf_ge w Fggb Fgp2 Fgq2) (Array.getElem?_eq_some_iff.1 F3Q).1
  have o8a : ¬ Lf0 ga p1 q1 D2.n g8 := fun w => Nat.not_lt.2 Fgg8 (FL0.lt g8 w)
  have o8b : ¬ Lf0 gb p2 q2 D2.n g8 := lf_ty F32 F35 F37 F8
  have hab : ∀ b, Lf0 ga p1 q1 D2.n b → ¬ Lf0 gb p2 q2 D2.n b := fun b w z => Nat.not_lt.2 (lf_ge z Fggb Fgp2 Fgq2) (FL0.lt b w)
  have hge : V.heap.size ≤ g3 ∧ V.heap.size ≤ g8 := ⟨Fg3, Nat.le_trans BV.size Fgg8⟩
  have F3S := on9 F3Q BB
  replace FL := FL0.on BB
  replace BV := BV.trans (BB.mono BV.size)
  clear BB F32 F35 F37
  have BB := BV
  refine wp_seq ?_
  refine wi_ A (h5_ t1 t2 t3 t7 t8) (rv_ 1 (sv) (fun a ee => execLm rfl (Or.inr (Or.inr (Or.inr (Or.inr (Or.inl rfl))))) (ee _) (one_c F3S)) (rc_ 4 (runs_played (most := (min most 500)) BV F3S F8 FL FLb hab ⟨o3a, o3b⟩ ⟨o8a, o8b⟩ hge hP2 hn hS (by omega)) fun e X8_1 hh => ?_))
  obtain ⟨pk, fa, he, hA⟩ := hh
  refine ⟨_, he, ?_⟩
  obtain ⟨BB, FD, FA⟩ : Below V.heap.size V X8_1 ∧ (Below X8_1.heap.size X8_1 X8_1) ∧ (RnM V X8_1 g3 g8 ga gb sv pk D2 (gO V gb g8 g3 sv D2 hP2 hn m sc (min most 500)).2.2.1 (gO V gb g8 g3 sv D2 hP2 hn m sc (min most 500)).1 fa (Lf0 gb p2 q2 D2.n)) := ⟨hA.bel, Below.refl _ _, hA⟩
  obtain ⟨g9, egg9⟩ : ∃ z_ : Nat, X8_1.heap.size = z_ := ⟨_, rfl⟩
  refine rs_ 5 (fun a ee => ?_)
  refine stepV rfl rfl (execAlH rfl) ⟨.pointer (some ⟨g9, 0, none⟩), ⟨_, rfl, by subst egg9; rfl⟩, fun X8_2 hX => ?_⟩
  have bQ : Below X8_1.heap.size X8_1 X8_2 := by subst hX egg9; exact (belNew X8_1 _)
  have F9n : (X8_2.heap[g9]? = some (.cells (hC (.slice none 0 0) 0 false false 0 (.slice none 0 0)) 29)) := by subst hX egg9; exact heapNew X8_1 _
  have Fz : (X8_1.heap.size ≤ g9) := by subst hX egg9; exact FD.size
  replace FD := (FD.trans (bQ.mono FD.size))
  replace BB := BB.trans (bQ.mono BB.size)
  clear bQ hX egg9 ee a
  refine rs_ 6 (fun a ee => ?_)
  refine stepS rfl rfl (execStH rfl (ee _) (ee _) F9n (sl3 (own_shpZ FA.op)) ⟨_, _, _, rfl⟩) ⟨_, ⟨_, rfl, rfl⟩, fun X8 hX => ?_⟩
  obtain ⟨BB, FD, F9⟩ : Below V.heap.size V X8 ∧ (Below X8_1.heap.size X8_1 X8) ∧ (X8.heap[g9]? = some (.cells (hC pk 0 (gE D2 (gO V gb g8 g3 sv D2 hP2 hn m sc (min most 500))) (gS D2 (gO V gb g8 g3 sv D2 hP2 hn m sc (min most 500))) 0 (.slice none 0 0)) 29)) := by subst hX; exact ⟨below4 BB (Nat.le_trans FA.bel.size Fz) _, (below4 FD Fz _), setRow_heap _ _ _ _ _ _ F9n⟩
  clear F9n hX ee a
  refine rf_ [(9, .pointer (some ⟨g9, 0, none⟩))] (h5_ t1 t2 t3 t7 t8) ?_
  rintro a A ⟨t9, -⟩ ⟨t1, t2, t3, t7, t8, -⟩
  exact runsC V sv cv D2 m sc (min most 500) hP2 hn hS (by omega) a _ g3 g8 g9 ga gb pk fa _ A t1 t2 t3 t7 t8 t9 (FA.fin FD F9 Fz)
end Go.Proofs.Ytmllfmnpcidkbaa.Loo
