import Derived.Test.YtijibdapooalcabC9j
namespace Go.Proofs.Ytijibdapooalcab.Win
open Go.RowKit Gf8 Aes By8 Cel Cf
/- The law's same, of like windows. Written by tools/mkC9l.py. -/

theorem ne16 {X : World} {g : Nat} {c : Obj} (h : X.heap[g]? = some c) : g ≠ X.heap.size := fun e => by
  have := (Array.getElem?_eq_some_iff.1 h).1
  omega
set_option maxRecDepth 100000 in
set_option maxHeartbeats 4000000 in
/-- The law's same, of like windows. -/
theorem same16 (nw : Int) (ev fv : Value) (n : Nat) (nu : Nat → Int) (tw uw : Nat → Value) (ln : Nat → Nat) (t tt : Nat → Nat → Nat → Nat) (V : World) (hE : Eps V ev n nu tw ln t) (hF : Eps V fv n nu uw ln tt) (hn : n < 9223372036854775808) (hq : ∀ j, j < n → ∀ k, k < ln j → ∀ i, i < 16 → t j k i = tt j k i) :
    Calls Try.prog 7 #[.agg (wC nw ev), .agg (wC nw fv)] V fun e w' => e = .returned (.bool true) ∧ Below V.heap.size V w' := by
  go_enter Try.func7, Try.ntmps7
  refine wo_ 72 [(0, .agg (wC nw ev)), (1, .agg (wC nw fv))] ?_
  rintro a A ⟨t0, t1, -⟩
  have BW : Below V.heap.size V V := Below.refl _ _
  refine wp_seq ?_
  obtain ⟨g2, egg2⟩ : ∃ z_ : Nat, V.heap.size = z_ := ⟨_, rfl⟩
  refine wi_ A (h2_ t0 t1) (rs_ 0 (fun a ee => ?_))
  refine stepV rfl rfl (execBoxW rfl (ee _)) ⟨.pointer (some ⟨g2, 0, none⟩), ⟨_, rfl, by subst egg2; rfl⟩, fun X0_1 hX => ?_⟩
  have bQ : Below V.heap.size V X0_1 := by subst hX egg2; exact (belNew V _)
  have Fg2 : (X0_1.heap[g2]? = some (.cells (wC nw ev) 24)) := by subst hX egg2; exact heapNew V _
  have bX := bQ
  clear bQ hX egg2 ee a
  obtain ⟨g3, egg3⟩ : ∃ z_ : Nat, X0_1.heap.size = z_ := ⟨_, rfl⟩
  refine rs_ 1 (fun a ee => ?_)
  refine stepV rfl rfl (execBoxW rfl (ee _)) ⟨.pointer (some ⟨g3, 0, none⟩), ⟨_, rfl, by subst egg3; rfl⟩, fun X0 hX => ?_⟩
  have bQ : Below X0_1.heap.size X0_1 X0 := by subst hX egg3; exact (belNew X0_1 _)
  have Fg3 : (X0.heap[g3]? = some (.cells (wC nw fv) 24)) := by subst hX egg3; exact heapNew X0_1 _
  replace Fg2 := (on9 Fg2 bQ)
  replace bX := bX.trans (bQ.mono bX.size)
  clear bQ hX egg3 ee a
  refine rg_ [(2, .pointer (some ⟨g2, 0, none⟩)), (3, .pointer (some ⟨g3, 0, none⟩))] ?_
  rintro a A ⟨t2, t3, -⟩
  replace hE := (hE.on bX)
  replace hF := (hF.on bX)
  have ZX0 := bX.size
  replace BW := BW.trans (bX.mono BW.size)
  clear bX
  have BB : Below X0.heap.size X0 X0 := Below.refl _ _
  refine wp_seq ?_
  refine wp_seq ?_
  refine wi_ A (h2_ t2 t3) (rv_ 0 (.pointer (some ⟨g2, 0, none⟩)) (fun a ee => execFldW0 rfl (ee _)) (rv_ 1 (.int .i64 nw) (fun a ee => execLd2 rfl (ee _) (wC_0 (on9 Fg2 BB))) (rv_ 2 (.pointer (some ⟨g3, 0, none⟩)) (fun a ee => execFldW0 rfl (ee _)) (rv_ 3 (.int .i64 nw) (fun a ee => execLd2 rfl (ee _) (wC_0 (on9 Fg3 BB))) (rv_ 4 (.bool false) (fun a ee => execDec (exIneq2 (p := nw) (q := nw) rfl (ee _) (ee _)) (decide_eq_false (fun h_ => h_ rfl))) (rv_ 6 (.pointer (some ⟨g2, 1, none⟩)) (fun a ee => execFldW1 rfl (ee _)) (rv_ 7 (ev) (fun a ee => execLdEs rfl (ee _) (wC_1 (on9 Fg2 BB))) (rv_ 8 (.int .i64 ((n : Nat) : Int)) (fun a ee => execLenEs (len := n) rfl (ee _) hE.shp) (rv_ 9 (.pointer (some ⟨g3, 1, none⟩)) (fun a ee => execFldW1 rfl (ee _)) (rv_ 10 (fv) (fun a ee => execLdEs rfl (ee _) (wC_1 (on9 Fg3 BB))) (rv_ 11 (.int .i64 ((n : Nat) : Int)) (fun a ee => execLenEs (len := n) rfl (ee _) hF.shp) (rv_ 12 (.bool false) (fun a ee => execDec (execNeN (p := n) (q := n) rfl (ee _) (ee _)) (decide_eq_false (by omega))) (rf_ [(22, .bool false)] (h2_ t2 t3) ?_)))))))))))))
  rintro a A ⟨t22, -⟩ ⟨t2, t3, -⟩
  refine wp_cond_false t22 ?_
  refine wp_skip ?_
  clear t22
  refine wp_seq ?_
  refine wp_seq ?_
  refine wi_ A (h2_ t2 t3) (rf_ [(5, .int .i64 ((0 : Nat) : Int))] (h2_ t2 t3) ?_)
  rintro a A ⟨t5, -⟩ ⟨t2, t3, -⟩
  refine wp_block ?_
  refine wp_loop (fun a W => ∃ (i : Nat), i ≤ n ∧ (a.tmps.size = 72 ∧ a.defers = []) ∧ a.eval (.tmp 2) = .pointer (some ⟨g2, 0, none⟩) ∧ a.eval (.tmp 3) = .pointer (some ⟨g3, 0, none⟩) ∧ a.eval (.tmp 5) = .int .i64 ((i : Nat) : Int) ∧ Below X0.heap.size X0 W) (fun a _ => n - (intOf (a.eval (.tmp 5))).toNat) ⟨0, Nat.zero_le _, A, t2, t3, t5, BB⟩ ?_
  clear A t2 t3 t5 BB a
  rintro a XL4 ⟨i, hi, A, t2, t3, t5, BB⟩
  have esi := t5
  refine wp_seq ?_
  refine wp_seq ?_
  refine wi_ A (h3_ t2 t3 t5) (rv_ 1 (.pointer (some ⟨g2, 1, none⟩)) (fun a ee => execFldW1 rfl (ee _)) (rv_ 2 (ev) (fun a ee => execLdEs rfl (ee _) (wC_1 (on9 Fg2 BB))) (rv_ 3 (.int .i64 ((n : Nat) : Int)) (fun a ee => execLenEs (len := n) rfl (ee _) hE.shp) (rv_ 4 (.bool (decide (i < n))) (fun a ee => execLtW (p := i) (q := n) rfl (ee _) (ee _)) (rf_ [(27, .bool (decide (i < n)))] (h3_ t2 t3 t5) ?_)))))
  rintro a A ⟨t27, -⟩ ⟨t2, t3, t5, -⟩
  by_cases lti : i < n
  · rw [decide_eq_true lti] at t27
    refine wp_cond_true t27 ?_
    refine wp_skip ?_
    clear t27
    refine wp_seq ?_
    refine wp_block ?_
    have hTe := hE.lists i lti
    have hU := hF.lists i lti
    have hln : ln i < 9223372036854775808 := by obtain ⟨_, c_, _, q1, q2, _⟩ := hTe.shape; omega
    obtain ⟨eb, ebo, ebc, ebe, heb, hebc⟩ := hE.at (show 0 < n by omega)
    have cN : ∀ X, Below X0.heap.size X0 X → X.cell? ⟨eb, ebo + i * 2 + 0, none⟩ = some (.int .i64 (nu i)) := fun X hX => by rw [cell_below hX heb]; exact (hebc i lti).1
    have cE : ∀ X, Below X0.heap.size X0 X → X.cell? ⟨eb, ebo + i * 2 + 1, none⟩ = some (tw i) := fun X hX => by rw [cell_below hX heb]; exact (hebc i lti).2
    obtain ⟨fb, fbo, fbc, fbe, hfb, hfbc⟩ := hF.at (show 0 < n by omega)
    have dN : ∀ X, Below X0.heap.size X0 X → X.cell? ⟨fb, fbo + i * 2 + 0, none⟩ = some (.int .i64 (nu i)) := fun X hX => by rw [cell_below hX hfb]; exact (hfbc i lti).1
    have dE : ∀ X, Below X0.heap.size X0 X → X.cell? ⟨fb, fbo + i * 2 + 1, none⟩ = some (uw i) := fun X hX => by rw [cell_below hX hfb]; exact (hfbc i lti).2
    refine wp_seq ?_
    refine wp_region_stB (σ := Nat × Nat) 72 [(0, 30), (1, 31), (2, 32), (3, 33), (4, 34), (5, 35), (6, 36), (7, 37), (8, 38), (9, 39), (10, 6), (11, 7)] (fun l_ s X => Below X0.heap.size X0 X ∧ (l_ 10 = true → l_ 12 = false → (X.heap[s.1]? = some (.cells (epC 0 (.slice none 0 0)) 47))) ∧ (l_ 10 = true → (X0.heap.size ≤ s.1)) ∧ (l_ 10 = true → l_ 12 = false → (s.1 < X.heap.size)) ∧ (l_ 10 = true → l_ 11 = true → (s.1 ≠ s.2)) ∧ (l_ 11 = true → l_ 13 = false → (X.heap[s.2]? = some (.cells (epC 0 (.slice none 0 0)) 47))) ∧ (l_ 11 = true → (X0.heap.size ≤ s.2)) ∧ (l_ 11 = true → l_ 12 = false → (s.2 < X.heap.size)) ∧ (l_ 12 = true → (X.heap[s.1]? = some (.cells (epC (nu i) (tw i)) 47))) ∧ (l_ 13 = true → (X.heap[s.2]? = some (.cells (epC (nu i) (uw i)) 47)))) (fun s => fun i_ => match i_ with | 0 => .pointer (some ⟨g2, 1, none⟩) | 1 => ev | 2 => .int .i64 ((i : Nat) : Int) | 3 => .pointer (some ⟨eb, ebo + i * 2, none⟩) | 4 => .agg (epC (nu i) (tw i)) | 5 => .pointer (some ⟨g3, 1, none⟩) | 6 => fv | 7 => .int .i64 ((i : Nat) : Int) | 8 => .pointer (some ⟨fb, fbo + i * 2, none⟩) | 9 => .agg (epC (nu i) (uw i)) | 10 => .pointer (some ⟨s.1, 0, none⟩) | 11 => .pointer (some ⟨s.2, 0, none⟩) | 12 => undef | 13 => undef | _ => undef) (0, 0) (by kernel_rfl) (by kernel_rfl) A.1 (by kernel_rfl) (by decide) (by decide) ⟨(BB.drew), (fun q0_ q1_ => by cases q0_), (fun q0_ => by cases q0_), (fun q0_ q1_ => by cases q0_), (fun q0_ q1_ => by cases q0_), (fun q0_ q1_ => by cases q0_), (fun q0_ => by cases q0_), (fun q0_ q1_ => by cases q0_), (fun q0_ => by cases q0_), (fun q0_ => by cases q0_)⟩ ?_ ?_
    · intro i_ hi_ l_ s a X hl_ hf hdep hl2 hcl hno hT
      have up : ∀ j x, x ≠ j → updB l_ j x = l_ x := fun j x hj => by unfold updB; simp [hj]
      match i_, hi_ with
      | 0, _ => exact stepV rfl rfl (execFldW1 rfl ((hf 2 (by decide)).trans t2)) ⟨s, ⟨_, rfl, rfl⟩, ⟨hT.1, (fun q0_ q1_ => (hT.2.1 (by rw [up 0 10 (by decide)] at q0_; exact q0_) (by rw [up 0 12 (by decide)] at q1_; exact q1_))), (fun q0_ => (hT.2.2.1 (by rw [up 0 10 (by decide)] at q0_; exact q0_))), (fun q0_ q1_ => (hT.2.2.2.1 (by rw [up 0 10 (by decide)] at q0_; exact q0_) (by rw [up 0 12 (by decide)] at q1_; exact q1_))), (fun q0_ q1_ => (hT.2.2.2.2.1 (by rw [up 0 10 (by decide)] at q0_; exact q0_) (by rw [up 0 11 (by decide)] at q1_; exact q1_))), (fun q0_ q1_ => (hT.2.2.2.2.2.1 (by rw [up 0 11 (by decide)] at q0_; exact q0_) (by rw [up 0 13 (by decide)] at q1_; exact q1_))), (fun q0_ => (hT.2.2.2.2.2.2.1 (by rw [up 0 11 (by decide)] at q0_; exact q0_))), (fun q0_ q1_ => (hT.2.2.2.2.2.2.2.1 (by rw [up 0 11 (by decide)] at q0_; exact q0_) (by rw [up 0 12 (by decide)] at q1_; exact q1_))), (fun q0_ => absurd (hl_.symm.trans (hcl 12 _ rfl ((up 0 12 (by decide)).symm.trans q0_) 0 rfl)) (by decide)), (fun q0_ => absurd (hl_.symm.trans (hcl 13 _ rfl ((up 0 13 (by decide)).symm.trans q0_) 0 rfl)) (by decide))⟩, fun _ _ _ => rfl⟩
      | 1, _ => exact stepV rfl rfl (execLdEs rfl (hdep _ rfl 0 rfl _ rfl _ rfl) (wC_1 (on9 Fg2 hT.1))) ⟨s, ⟨_, rfl, rfl⟩, ⟨hT.1, (fun q0_ q1_ => (hT.2.1 (by rw [up 1 10 (by decide)] at q0_; exact q0_) (by rw [up 1 12 (by decide)] at q1_; exact q1_))), (fun q0_ => (hT.2.2.1 (by rw [up 1 10 (by decide)] at q0_; exact q0_))), (fun q0_ q1_ => (hT.2.2.2.1 (by rw [up 1 10 (by decide)] at q0_; exact q0_) (by rw [up 1 12 (by decide)] at q1_; exact q1_))), (fun q0_ q1_ => (hT.2.2.2.2.1 (by rw [up 1 10 (by decide)] at q0_; exact q0_) (by rw [up 1 11 (by decide)] at q1_; exact q1_))), (fun q0_ q1_ => (hT.2.2.2.2.2.1 (by rw [up 1 11 (by decide)] at q0_; exact q0_) (by rw [up 1 13 (by decide)] at q1_; exact q1_))), (fun q0_ => (hT.2.2.2.2.2.2.1 (by rw [up 1 11 (by decide)] at q0_; exact q0_))), (fun q0_ q1_ => (hT.2.2.2.2.2.2.2.1 (by rw [up 1 11 (by decide)] at q0_; exact q0_) (by rw [up 1 12 (by decide)] at q1_; exact q1_))), (fun q0_ => absurd (hl_.symm.trans (hcl 12 _ rfl ((up 1 12 (by decide)).symm.trans q0_) 1 rfl)) (by decide)), (fun q0_ => absurd (hl_.symm.trans (hcl 13 _ rfl ((up 1 13 (by decide)).symm.trans q0_) 1 rfl)) (by decide))⟩, fun _ _ _ => rfl⟩
      | 2, _ => exact stepV rfl rfl (execMvB rfl ((hf 5 (by decide)).trans t5)) ⟨s, ⟨_, rfl, rfl⟩, ⟨hT.1, (fun q0_ q1_ => (hT.2.1 (by rw [up 2 10 (by decide)] at q0_; exact q0_) (by rw [up 2 12 (by decide)] at q1_; exact q1_))), (fun q0_ => (hT.2.2.1 (by rw [up 2 10 (by decide)] at q0_; exact q0_))), (fun q0_ q1_ => (hT.2.2.2.1 (by rw [up 2 10 (by decide)] at q0_; exact q0_) (by rw [up 2 12 (by decide)] at q1_; exact q1_))), (fun q0_ q1_ => (hT.2.2.2.2.1 (by rw [up 2 10 (by decide)] at q0_; exact q0_) (by rw [up 2 11 (by decide)] at q1_; exact q1_))), (fun q0_ q1_ => (hT.2.2.2.2.2.1 (by rw [up 2 11 (by decide)] at q0_; exact q0_) (by rw [up 2 13 (by decide)] at q1_; exact q1_))), (fun q0_ => (hT.2.2.2.2.2.2.1 (by rw [up 2 11 (by decide)] at q0_; exact q0_))), (fun q0_ q1_ => (hT.2.2.2.2.2.2.2.1 (by rw [up 2 11 (by decide)] at q0_; exact q0_) (by rw [up 2 12 (by decide)] at q1_; exact q1_))), (fun q0_ => absurd (hl_.symm.trans (hcl 12 _ rfl ((up 2 12 (by decide)).symm.trans q0_) 2 rfl)) (by decide)), (fun q0_ => absurd (hl_.symm.trans (hcl 13 _ rfl ((up 2 13 (by decide)).symm.trans q0_) 2 rfl)) (by decide))⟩, fun _ _ _ => rfl⟩
      | 3, _ => exact stepV rfl rfl (execIdxEs (k := i) rfl ((hdep _ rfl 1 rfl _ rfl _ rfl).trans ebe) (hdep _ rfl 2 rfl _ rfl _ rfl) lti) ⟨s, ⟨_, rfl, rfl⟩, ⟨hT.1, (fun q0_ q1_ => (hT.2.1 (by rw [up 3 10 (by decide)] at q0_; exact q0_) (by rw [up 3 12 (by decide)] at q1_; exact q1_))), (fun q0_ => (hT.2.2.1 (by rw [up 3 10 (by decide)] at q0_; exact q0_))), (fun q0_ q1_ => (hT.2.2.2.1 (by rw [up 3 10 (by decide)] at q0_; exact q0_) (by rw [up 3 12 (by decide)] at q1_; exact q1_))), (fun q0_ q1_ => (hT.2.2.2.2.1 (by rw [up 3 10 (by decide)] at q0_; exact q0_) (by rw [up 3 11 (by decide)] at q1_; exact q1_))), (fun q0_ q1_ => (hT.2.2.2.2.2.1 (by rw [up 3 11 (by decide)] at q0_; exact q0_) (by rw [up 3 13 (by decide)] at q1_; exact q1_))), (fun q0_ => (hT.2.2.2.2.2.2.1 (by rw [up 3 11 (by decide)] at q0_; exact q0_))), (fun q0_ q1_ => (hT.2.2.2.2.2.2.2.1 (by rw [up 3 11 (by decide)] at q0_; exact q0_) (by rw [up 3 12 (by decide)] at q1_; exact q1_))), (fun q0_ => absurd (hl_.symm.trans (hcl 12 _ rfl ((up 3 12 (by decide)).symm.trans q0_) 3 rfl)) (by decide)), (fun q0_ => absurd (hl_.symm.trans (hcl 13 _ rfl ((up 3 13 (by decide)).symm.trans q0_) 3 rfl)) (by decide))⟩, fun _ _ _ => rfl⟩
      | 4, _ => exact stepV rfl rfl (execLdEp rfl (hdep _ rfl 3 rfl _ rfl _ rfl) (cN X hT.1) (cE X hT.1)) ⟨s, ⟨_, rfl, rfl⟩, ⟨hT.1, (fun q0_ q1_ => (hT.2.1 (by rw [up 4 10 (by decide)] at q0_; exact q0_) (by rw [up 4 12 (by decide)] at q1_; exact q1_))), (fun q0_ => (hT.2.2.1 (by rw [up 4 10 (by decide)] at q0_; exact q0_))), (fun q0_ q1_ => (hT.2.2.2.1 (by rw [up 4 10 (by decide)] at q0_; exact q0_) (by rw [up 4 12 (by decide)] at q1_; exact q1_))), (fun q0_ q1_ => (hT.2.2.2.2.1 (by rw [up 4 10 (by decide)] at q0_; exact q0_) (by rw [up 4 11 (by decide)] at q1_; exact q1_))), (fun q0_ q1_ => (hT.2.2.2.2.2.1 (by rw [up 4 11 (by decide)] at q0_; exact q0_) (by rw [up 4 13 (by decide)] at q1_; exact q1_))), (fun q0_ => (hT.2.2.2.2.2.2.1 (by rw [up 4 11 (by decide)] at q0_; exact q0_))), (fun q0_ q1_ => (hT.2.2.2.2.2.2.2.1 (by rw [up 4 11 (by decide)] at q0_; exact q0_) (by rw [up 4 12 (by decide)] at q1_; exact q1_))), (fun q0_ => absurd (hl_.symm.trans (hcl 12 _ rfl ((up 4 12 (by decide)).symm.trans q0_) 4 rfl)) (by decide)), (fun q0_ => absurd (hl_.symm.trans (hcl 13 _ rfl ((up 4 13 (by decide)).symm.trans q0_) 4 rfl)) (by decide))⟩, fun _ _ _ => rfl⟩
      | 5, _ => exact stepV rfl rfl (execFldW1 rfl ((hf 3 (by decide)).trans t3)) ⟨s, ⟨_, rfl, rfl⟩, ⟨hT.1, (fun q0_ q1_ => (hT.2.1 (by rw [up 5 10 (by decide)] at q0_; exact q0_) (by rw [up 5 12 (by decide)] at q1_; exact q1_))), (fun q0_ => (hT.2.2.1 (by rw [up 5 10 (by decide)] at q0_; exact q0_))), (fun q0_ q1_ => (hT.2.2.2.1 (by rw [up 5 10 (by decide)] at q0_; exact q0_) (by rw [up 5 12 (by decide)] at q1_; exact q1_))), (fun q0_ q1_ => (hT.2.2.2.2.1 (by rw [up 5 10 (by decide)] at q0_; exact q0_) (by rw [up 5 11 (by decide)] at q1_; exact q1_))), (fun q0_ q1_ => (hT.2.2.2.2.2.1 (by rw [up 5 11 (by decide)] at q0_; exact q0_) (by rw [up 5 13 (by decide)] at q1_; exact q1_))), (fun q0_ => (hT.2.2.2.2.2.2.1 (by rw [up 5 11 (by decide)] at q0_; exact q0_))), (fun q0_ q1_ => (hT.2.2.2.2.2.2.2.1 (by rw [up 5 11 (by decide)] at q0_; exact q0_) (by rw [up 5 12 (by decide)] at q1_; exact q1_))), (fun q0_ => (hT.2.2.2.2.2.2.2.2.1 (by rw [up 5 12 (by decide)] at q0_; exact q0_))), (fun q0_ => absurd (hl_.symm.trans (hcl 13 _ rfl ((up 5 13 (by decide)).symm.trans q0_) 5 rfl)) (by decide))⟩, fun _ _ _ => rfl⟩
      | 6, _ => exact stepV rfl rfl (execLdEs rfl (hdep _ rfl 5 rfl _ rfl _ rfl) (wC_1 (on9 Fg3 hT.1))) ⟨s, ⟨_, rfl, rfl⟩, ⟨hT.1, (fun q0_ q1_ => (hT.2.1 (by rw [up 6 10 (by decide)] at q0_; exact q0_) (by rw [up 6 12 (by decide)] at q1_; exact q1_))), (fun q0_ => (hT.2.2.1 (by rw [up 6 10 (by decide)] at q0_; exact q0_))), (fun q0_ q1_ => (hT.2.2.2.1 (by rw [up 6 10 (by decide)] at q0_; exact q0_) (by rw [up 6 12 (by decide)] at q1_; exact q1_))), (fun q0_ q1_ => (hT.2.2.2.2.1 (by rw [up 6 10 (by decide)] at q0_; exact q0_) (by rw [up 6 11 (by decide)] at q1_; exact q1_))), (fun q0_ q1_ => (hT.2.2.2.2.2.1 (by rw [up 6 11 (by decide)] at q0_; exact q0_) (by rw [up 6 13 (by decide)] at q1_; exact q1_))), (fun q0_ => (hT.2.2.2.2.2.2.1 (by rw [up 6 11 (by decide)] at q0_; exact q0_))), (fun q0_ q1_ => (hT.2.2.2.2.2.2.2.1 (by rw [up 6 11 (by decide)] at q0_; exact q0_) (by rw [up 6 12 (by decide)] at q1_; exact q1_))), (fun q0_ => (hT.2.2.2.2.2.2.2.2.1 (by rw [up 6 12 (by decide)] at q0_; exact q0_))), (fun q0_ => absurd (hl_.symm.trans (hcl 13 _ rfl ((up 6 13 (by decide)).symm.trans q0_) 6 rfl)) (by decide))⟩, fun _ _ _ => rfl⟩
      | 7, _ => exact stepV rfl rfl (execMvB rfl ((hf 5 (by decide)).trans t5)) ⟨s, ⟨_, rfl, rfl⟩, ⟨hT.1, (fun q0_ q1_ => (hT.2.1 (by rw [up 7 10 (by decide)] at q0_; exact q0_) (by rw [up 7 12 (by decide)] at q1_; exact q1_))), (fun q0_ => (hT.2.2.1 (by rw [up 7 10 (by decide)] at q0_; exact q0_))), (fun q0_ q1_ => (hT.2.2.2.1 (by rw [up 7 10 (by decide)] at q0_; exact q0_) (by rw [up 7 12 (by decide)] at q1_; exact q1_))), (fun q0_ q1_ => (hT.2.2.2.2.1 (by rw [up 7 10 (by decide)] at q0_; exact q0_) (by rw [up 7 11 (by decide)] at q1_; exact q1_))), (fun q0_ q1_ => (hT.2.2.2.2.2.1 (by rw [up 7 11 (by decide)] at q0_; exact q0_) (by rw [up 7 13 (by decide)] at q1_; exact q1_))), (fun q0_ => (hT.2.2.2.2.2.2.1 (by rw [up 7 11 (by decide)] at q0_; exact q0_))), (fun q0_ q1_ => (hT.2.2.2.2.2.2.2.1 (by rw [up 7 11 (by decide)] at q0_; exact q0_) (by rw [up 7 12 (by decide)] at q1_; exact q1_))), (fun q0_ => (hT.2.2.2.2.2.2.2.2.1 (by rw [up 7 12 (by decide)] at q0_; exact q0_))), (fun q0_ => absurd (hl_.symm.trans (hcl 13 _ rfl ((up 7 13 (by decide)).symm.trans q0_) 7 rfl)) (by decide))⟩, fun _ _ _ => rfl⟩
      | 8, _ => exact stepV rfl rfl (execIdxEs (k := i) rfl ((hdep _ rfl 6 rfl _ rfl _ rfl).trans fbe) (hdep _ rfl 7 rfl _ rfl _ rfl) lti) ⟨s, ⟨_, rfl, rfl⟩, ⟨hT.1, (fun q0_ q1_ => (hT.2.1 (by rw [up 8 10 (by decide)] at q0_; exact q0_) (by rw [up 8 12 (by decide)] at q1_; exact q1_))), (fun q0_ => (hT.2.2.1 (by rw [up 8 10 (by decide)] at q0_; exact q0_))), (fun q0_ q1_ => (hT.2.2.2.1 (by rw [up 8 10 (by decide)] at q0_; exact q0_) (by rw [up 8 12 (by decide)] at q1_; exact q1_))), (fun q0_ q1_ => (hT.2.2.2.2.1 (by rw [up 8 10 (by decide)] at q0_; exact q0_) (by rw [up 8 11 (by decide)] at q1_; exact q1_))), (fun q0_ q1_ => (hT.2.2.2.2.2.1 (by rw [up 8 11 (by decide)] at q0_; exact q0_) (by rw [up 8 13 (by decide)] at q1_; exact q1_))), (fun q0_ => (hT.2.2.2.2.2.2.1 (by rw [up 8 11 (by decide)] at q0_; exact q0_))), (fun q0_ q1_ => (hT.2.2.2.2.2.2.2.1 (by rw [up 8 11 (by decide)] at q0_; exact q0_) (by rw [up 8 12 (by decide)] at q1_; exact q1_))), (fun q0_ => (hT.2.2.2.2.2.2.2.2.1 (by rw [up 8 12 (by decide)] at q0_; exact q0_))), (fun q0_ => absurd (hl_.symm.trans (hcl 13 _ rfl ((up 8 13 (by decide)).symm.trans q0_) 8 rfl)) (by decide))⟩, fun _ _ _ => rfl⟩
      | 9, _ => exact stepV rfl rfl (execLdEp rfl (hdep _ rfl 8 rfl _ rfl _ rfl) (dN X hT.1) (dE X hT.1)) ⟨s, ⟨_, rfl, rfl⟩, ⟨hT.1, (fun q0_ q1_ => (hT.2.1 (by rw [up 9 10 (by decide)] at q0_; exact q0_) (by rw [up 9 12 (by decide)] at q1_; exact q1_))), (fun q0_ => (hT.2.2.1 (by rw [up 9 10 (by decide)] at q0_; exact q0_))), (fun q0_ q1_ => (hT.2.2.2.1 (by rw [up 9 10 (by decide)] at q0_; exact q0_) (by rw [up 9 12 (by decide)] at q1_; exact q1_))), (fun q0_ q1_ => (hT.2.2.2.2.1 (by rw [up 9 10 (by decide)] at q0_; exact q0_) (by rw [up 9 11 (by decide)] at q1_; exact q1_))), (fun q0_ q1_ => (hT.2.2.2.2.2.1 (by rw [up 9 11 (by decide)] at q0_; exact q0_) (by rw [up 9 13 (by decide)] at q1_; exact q1_))), (fun q0_ => (hT.2.2.2.2.2.2.1 (by rw [up 9 11 (by decide)] at q0_; exact q0_))), (fun q0_ q1_ => (hT.2.2.2.2.2.2.2.1 (by rw [up 9 11 (by decide)] at q0_; exact q0_) (by rw [up 9 12 (by decide)] at q1_; exact q1_))), (fun q0_ => (hT.2.2.2.2.2.2.2.2.1 (by rw [up 9 12 (by decide)] at q0_; exact q0_))), (fun q0_ => absurd (hl_.symm.trans (hcl 13 _ rfl ((up 9 13 (by decide)).symm.trans q0_) 9 rfl)) (by decide))⟩, fun _ _ _ => rfl⟩
      | 10, _ =>
        refine stepV rfl rfl (execAllEp rfl) ⟨(X.heap.size, s.2), ⟨_, rfl, rfl⟩, ⟨hT.1.trans (((belNew X _)).mono hT.1.size), (fun _q0_ _q1_ => heapNew X _), (fun _q0_ => (hT.1).size), (fun _q0_ _q1_ => (Array.getElem?_eq_some_iff.1 (heapNew X _)).1), (fun q0_ q1_ => Nat.ne_of_gt (hT.2.2.2.2.2.2.2.1 (by rw [up 10 11 (by decide)] at q1_; exact q1_) (by cases hq_ : l_ 12 with | false => rfl | true => exact absurd (hl_.symm.trans (hcl 12 _ rfl hq_ 10 rfl)) (by decide)))), (fun q0_ q1_ => (on9 (hT.2.2.2.2.2.1 (by rw [up 10 11 (by decide)] at q0_; exact q0_) (by rw [up 10 13 (by decide)] at q1_; exact q1_)) (belNew X _))), (fun q0_ => (hT.2.2.2.2.2.2.1 (by rw [up 10 11 (by decide)] at q0_; exact q0_))), (fun q0_ q1_ => (Nat.lt_of_lt_of_le (hT.2.2.2.2.2.2.2.1 (by rw [up 10 11 (by decide)] at q0_; exact q0_) (by rw [up 10 12 (by decide)] at q1_; exact q1_)) ((belNew X _)).size)), (fun q0_ => absurd (hl_.symm.trans (hcl 12 _ rfl ((up 10 12 (by decide)).symm.trans q0_) 10 rfl)) (by decide)), (fun q0_ => absurd (hl_.symm.trans (hcl 13 _ rfl ((up 10 13 (by decide)).symm.trans q0_) 10 rfl)) (by decide))⟩, fun i hi hli => ?_⟩
        match i, hi with
        | 0, _ => rfl
        | 1, _ => rfl
        | 2, _ => rfl
        | 3, _ => rfl
        | 4, _ => rfl
        | 5, _ => rfl
        | 6, _ => rfl
        | 7, _ => rfl
        | 8, _ => rfl
        | 9, _ => rfl
        | 10, _ => exact absurd (hl_.symm.trans hli) (by decide)
        | 11, _ => rfl
        | 12, _ => rfl
        | 13, _ => rfl
        | k_ + 14, h_ => exact absurd h_ (by simp)
      | 11, _ =>
        refine stepV rfl rfl (execAllEp rfl) ⟨(s.1, X.heap.size), ⟨_, rfl, rfl⟩, ⟨hT.1.trans (((belNew X _)).mono hT.1.size), (fun q0_ q1_ => (on9 (hT.2.1 (by rw [up 11 10 (by decide)] at q0_; exact q0_) (by rw [up 11 12 (by decide)] at q1_; exact q1_)) (belNew X _))), (fun q0_ => (hT.2.2.1 (by rw [up 11 10 (by decide)] at q0_; exact q0_))), (fun q0_ q1_ => (Nat.lt_of_lt_of_le (hT.2.2.2.1 (by rw [up 11 10 (by decide)] at q0_; exact q0_) (by rw [up 11 12 (by decide)] at q1_; exact q1_)) ((belNew X _)).size)), (fun q0_ q1_ => Nat.ne_of_lt (hT.2.2.2.1 (by rw [up 11 10 (by decide)] at q0_; exact q0_) (by cases hq_ : l_ 12 with | false => rfl | true => exact absurd (hl_.symm.trans (hcl 12 _ rfl hq_ 11 rfl)) (by decide)))), (fun _q0_ _q1_ => heapNew X _), (fun _q0_ => (hT.1).size), (fun _q0_ _q1_ => (Array.getElem?_eq_some_iff.1 (heapNew X _)).1), (fun q0_ => absurd (hl_.symm.trans (hcl 12 _ rfl ((up 11 12 (by decide)).symm.trans q0_) 11 rfl)) (by decide)), (fun q0_ => absurd (hl_.symm.trans (hcl 13 _ rfl ((up 11 13 (by decide)).symm.trans q0_) 11 rfl)) (by decide))⟩, fun i hi hli => ?_⟩
        match i, hi with
        | 0, _ => rfl
        | 1, _ => rfl
        | 2, _ => rfl
        | 3, _ => rfl
        | 4, _ => rfl
        | 5, _ => rfl
        | 6, _ => rfl
        | 7, _ => rfl
        | 8, _ => rfl
        | 9, _ => rfl
        | 10, _ => rfl
        | 11, _ => exact absurd (hl_.symm.trans hli) (by decide)
        | 12, _ => rfl
        | 13, _ => rfl
        | k_ + 14, h_ => exact absurd h_ (by simp)
      | 12, _ =>
        refine stepS rfl rfl (execStEp rfl (hdep _ rfl 10 rfl _ rfl _ rfl) (hdep _ rfl 4 rfl _ rfl _ rfl) (hT.2.1 (hl2 _ rfl 10 rfl) hl_) (by obtain ⟨_, _, e_⟩ := hTe.shp; rw [e_]; rfl)) ⟨s, ⟨_, rfl, rfl⟩, ⟨below4 hT.1 (hT.2.2.1 (hl2 _ rfl 10 rfl)) _, (fun q0_ q1_ => absurd q1_ (by unfold updB; simp)), (fun q0_ => (hT.2.2.1 (by rw [up 12 10 (by decide)] at q0_; exact q0_))), (fun q0_ q1_ => absurd q1_ (by unfold updB; simp)), (fun q0_ q1_ => (hT.2.2.2.2.1 (by rw [up 12 10 (by decide)] at q0_; exact q0_) (by rw [up 12 11 (by decide)] at q1_; exact q1_))), (fun q0_ q1_ => (by rw [setRow_other _ _ _ _ (fun e_ => (hT.2.2.2.2.1 (hl2 _ rfl 10 rfl) (hl2 _ rfl 11 rfl)) e_.symm)]; exact (hT.2.2.2.2.2.1 (by rw [up 12 11 (by decide)] at q0_; exact q0_) (by rw [up 12 13 (by decide)] at q1_; exact q1_)))), (fun q0_ => (hT.2.2.2.2.2.2.1 (by rw [up 12 11 (by decide)] at q0_; exact q0_))), (fun q0_ q1_ => absurd q1_ (by unfold updB; simp)), (fun _q0_ => setRow_heap _ _ _ _ _ _ (hT.2.1 (hl2 _ rfl 10 rfl) hl_)), (fun q0_ => absurd (hl_.symm.trans (hcl 13 _ rfl ((up 12 13 (by decide)).symm.trans q0_) 12 rfl)) (by decide))⟩, fun i hi hli => ?_⟩
        match i, hi with
        | 0, _ => rfl
        | 1, _ => rfl
        | 2, _ => rfl
        | 3, _ => rfl
        | 4, _ => rfl
        | 5, _ => rfl
        | 6, _ => rfl
        | 7, _ => rfl
        | 8, _ => rfl
        | 9, _ => rfl
        | 10, _ => rfl
        | 11, _ => rfl
        | 12, _ => exact absurd (hl_.symm.trans hli) (by decide)
        | 13, _ => rfl
        | k_ + 14, h_ => exact absurd h_ (by simp)
      | 13, _ =>
        refine stepS rfl rfl (execStEp rfl (hdep _ rfl 11 rfl _ rfl _ rfl) (hdep _ rfl 9 rfl _ rfl _ rfl) (hT.2.2.2.2.2.1 (hl2 _ rfl 11 rfl) hl_) (by obtain ⟨_, _, e_⟩ := hU.shp; rw [e_]; rfl)) ⟨s, ⟨_, rfl, rfl⟩, ⟨below4 hT.1 (hT.2.2.2.2.2.2.1 (hl2 _ rfl 11 rfl)) _, (fun q0_ q1_ => absurd (q1_.symm.trans ((up 13 12 (by decide)).trans (hl2 _ rfl 12 rfl))) (by decide)), (fun q0_ => (hT.2.2.1 (by rw [up 13 10 (by decide)] at q0_; exact q0_))), (fun q0_ q1_ => absurd (q1_.symm.trans ((up 13 12 (by decide)).trans (hl2 _ rfl 12 rfl))) (by decide)), (fun q0_ q1_ => (hT.2.2.2.2.1 (by rw [up 13 10 (by decide)] at q0_; exact q0_) (by rw [up 13 11 (by decide)] at q1_; exact q1_))), (fun q0_ q1_ => absurd q1_ (by unfold updB; simp)), (fun q0_ => (hT.2.2.2.2.2.2.1 (by rw [up 13 11 (by decide)] at q0_; exact q0_))), (fun q0_ q1_ => absurd (q1_.symm.trans ((up 13 12 (by decide)).trans (hl2 _ rfl 12 rfl))) (by decide)), (fun q0_ => (by rw [setRow_other _ _ _ _ ((hT.2.2.2.2.1 (hl2 _ rfl 10 rfl) (hl2 _ rfl 11 rfl)))]; exact (hT.2.2.2.2.2.2.2.2.1 (by rw [up 13 12 (by decide)] at q0_; exact q0_)))), (fun _q0_ => setRow_heap _ _ _ _ _ _ (hT.2.2.2.2.2.1 (hl2 _ rfl 11 rfl) hl_))⟩, fun i hi hli => ?_⟩
        match i, hi with
        | 0, _ => rfl
        | 1, _ => rfl
        | 2, _ => rfl
        | 3, _ => rfl
        | 4, _ => rfl
        | 5, _ => rfl
        | 6, _ => rfl
        | 7, _ => rfl
        | 8, _ => rfl
        | 9, _ => rfl
        | 10, _ => rfl
        | 11, _ => rfl
        | 12, _ => rfl
        | 13, _ => exact absurd (hl_.symm.trans hli) (by decide)
        | k_ + 14, h_ => exact absurd h_ (by simp)
      | k_ + 14, h_ => exact absurd h_ (by simp)
    rintro l_ ⟨g6, g7⟩ a X6 h1 h2 h3 h4 hall hT
    clear BB
    obtain ⟨BB, Fg6, FGg6, Lg6, FN, Fg7, FGg7, Lg7, Fe6, Fe7⟩ := hT
    clear Fg6
    replace FGg6 : (X0.heap.size ≤ g6) := FGg6 (hall 10 (by decide))
    clear Lg6
    replace FN : (g6 ≠ g7) := FN (hall 10 (by decide)) (hall 11 (by decide))
    clear Fg7
    replace FGg7 : (X0.heap.size ≤ g7) := FGg7 (hall 11 (by decide))
    clear Lg7
    replace Fe6 : (X6.heap[g6]? = some (.cells (epC (nu i) (tw i)) 47)) := Fe6 (hall 12 (by decide))
    replace Fe7 : (X6.heap[g7]? = some (.cells (epC (nu i) (uw i)) 47)) := Fe7 (hall 13 (by decide))
    clear hall
    replace t2 := (h3 2 (by decide)).trans t2
    replace t3 := (h3 3 (by decide)).trans t3
    replace t5 := (h3 5 (by decide)).trans t5
    have t6 : a.eval (.tmp 6) = .pointer (some ⟨g6, 0, none⟩) := h4 (10, 6) (by decide)
    have t7 : a.eval (.tmp 7) = .pointer (some ⟨g7, 0, none⟩) := h4 (11, 7) (by decide)
    replace A := (⟨h1, h2.trans A.2⟩ : a.tmps.size = 72 ∧ a.defers = [])
    clear h1 h2 h3 h4
    clear FGg6 FGg7 FN
    refine wp_seq ?_
    refine wp_seq ?_
    refine wi_ A (h5_ t2 t3 t5 t6 t7) (rv_ 0 (.pointer (some ⟨g6, 0 + 0, none⟩)) (fun a ee => execFldE0 rfl (ee _)) (rv_ 1 (.int .i64 (nu i)) (fun a ee => execLd2 rfl (ee _) (epC_0 Fe6)) (rv_ 2 (.pointer (some ⟨g7, 0 + 0, none⟩)) (fun a ee => execFldE0 rfl (ee _)) (rv_ 3 (.int .i64 (nu i)) (fun a ee => execLd2 rfl (ee _) (epC_0 Fe7)) (rv_ 4 (.bool false) (fun a ee => execDec (exIneq2 (p := (nu i)) (q := (nu i)) rfl (ee _) (ee _)) (decide_eq_false (fun h_ => h_ rfl))) (rv_ 6 (.pointer (some ⟨g6, 0 + 1, none⟩)) (fun a ee => execFldE1 rfl (ee _)) (rv_ 7 (tw i) (fun a ee => execLdTs rfl (ee _) (epC_1 Fe6)) (rv_ 8 (.int .i64 ((ln i : Nat) : Int)) (fun a ee => execLenTs (len := ln i) rfl (ee _) hTe.shp) (rv_ 9 (.pointer (some ⟨g7, 0 + 1, none⟩)) (fun a ee => execFldE1 rfl (ee _)) (rv_ 10 (uw i) (fun a ee => execLdTs rfl (ee _) (epC_1 Fe7)) (rv_ 11 (.int .i64 ((ln i : Nat) : Int)) (fun a ee => execLenTs (len := ln i) rfl (ee _) hU.shp) (rv_ 12 (.bool false) (fun a ee => execDec (execNeN (p := ln i) (q := ln i) rfl (ee _) (ee _)) (decide_eq_false (by omega))) (rf_ [(53, .bool false)] (h5_ t2 t3 t5 t6 t7) ?_)))))))))))))
    rintro a A ⟨t53, -⟩ ⟨t2, t3, t5, t6, t7, -⟩
    refine wp_cond_false t53 ?_
    refine wp_skip ?_
    clear t53
    refine wp_seq ?_
    refine wi_ A (h5_ t2 t3 t5 t6 t7) (rf_ [(8, .int .i64 ((0 : Nat) : Int))] (h5_ t2 t3 t5 t6 t7) ?_)
    rintro a A ⟨t8, -⟩ ⟨t2, t3, t5, t6, t7, -⟩
    refine wp_block ?_
    refine wp_loop (fun a W => ∃ (j : Nat), j ≤ ln i ∧ (a.tmps.size = 72 ∧ a.defers = []) ∧ a.eval (.tmp 2) = .pointer (some ⟨g2, 0, none⟩) ∧ a.eval (.tmp 3) = .pointer (some ⟨g3, 0, none⟩) ∧ a.eval (.tmp 5) = .int .i64 ((i : Nat) : Int) ∧ a.eval (.tmp 6) = .pointer (some ⟨g6, 0, none⟩) ∧ a.eval (.tmp 7) = .pointer (some ⟨g7, 0, none⟩) ∧ a.eval (.tmp 8) = .int .i64 ((j : Nat) : Int) ∧ Below X0.heap.size X0 W ∧ (W.heap[g6]? = some (.cells (epC (nu i) (tw i)) 47)) ∧ (W.heap[g7]? = some (.cells (epC (nu i) (uw i)) 47))) (fun a _ => ln i - (intOf (a.eval (.tmp 8))).toNat) ⟨0, Nat.zero_le _, A, t2, t3, t5, t6, t7, t8, BB, Fe6, Fe7⟩ ?_
    clear A t2 t3 t5 t6 t7 t8 BB Fe6 Fe7 a
    rintro a XL10 ⟨j, hj, A, t2, t3, t5, t6, t7, t8, BB, Fe6, Fe7⟩
    have esj := t8
    refine wp_seq ?_
    refine wp_seq ?_
    refine wi_ A (h6_ t2 t3 t5 t6 t7 t8) (rv_ 1 (.pointer (some ⟨g6, 0 + 1, none⟩)) (fun a ee => execFldE1 rfl (ee _)) (rv_ 2 (tw i) (fun a ee => execLdTs rfl (ee _) (epC_1 Fe6)) (rv_ 3 (.int .i64 ((ln i : Nat) : Int)) (fun a ee => execLenTs (len := ln i) rfl (ee _) hTe.shp) (rv_ 4 (.bool (decide (j < ln i))) (fun a ee => execLtW (p := j) (q := ln i) rfl (ee _) (ee _)) (rf_ [(58, .bool (decide (j < ln i)))] (h6_ t2 t3 t5 t6 t7 t8) ?_)))))
    rintro a A ⟨t58, -⟩ ⟨t2, t3, t5, t6, t7, t8, -⟩
    by_cases ltj : j < ln i
    · rw [decide_eq_true ltj] at t58
      refine wp_cond_true t58 ?_
      refine wp_skip ?_
      clear t58
      refine wp_seq ?_
      refine wp_block ?_
      obtain ⟨tb, tbo, tbc, tbe, htb, htbc⟩ := hTe.at (show 0 < ln i by omega)
      have cT : ∀ X, Below X0.heap.size X0 X → ∀ j_, j_ < 16 → X.cell? ⟨tb, tbo + j * 16 + j_, none⟩ = some (.int .u8 ((t i j j_ : Nat) : Int)) := fun X hX j_ hj_ => by rw [cell_below hX htb]; exact htbc j ltj j_ hj_
      obtain ⟨ub, ubo, ubc, ube, hub, hubc⟩ := hU.at (show 0 < ln i by omega)
      have cU : ∀ X, Below X0.heap.size X0 X → ∀ j_, j_ < 16 → X.cell? ⟨ub, ubo + j * 16 + j_, none⟩ = some (.int .u8 ((tt i j j_ : Nat) : Int)) := fun X hX j_ hj_ => by rw [cell_below hX hub]; exact hubc j ltj j_ hj_
      refine wp_seq ?_
      refine wj_ [0, 1, 2, 3, 4, 5, 6, 7, 8, 9, 10] [] [1, 4, 6, 9] [] A (h6_ t2 t3 t5 t6 t7 t8) (fun X12 bD => ?_)
      refine dw_ 0 (.pointer (some ⟨g6, 0 + 1, none⟩)) (fun a X ee => execFldE1 rfl (ee _)) (dv_ 1 (tw i) (fun a X ee hb => execLdTs rfl (ee _) (epC_1 (on9 Fe6 hb))) (dw_ 3 (.pointer (some ⟨tb, tbo + j * 16, none⟩)) (fun a X ee => execIdxTs (k := j) rfl ((ee _).trans tbe) (ee _) ltj) (dv_ 4 (.agg (bA 16 (t i j))) (fun a X ee hb => execLdT rfl (ee _) (fun j_ hj_ => cT X (BB.trans (hb.mono BB.size)) j_ hj_)) (dw_ 5 (.pointer (some ⟨g7, 0 + 1, none⟩)) (fun a X ee => execFldE1 rfl (ee _)) (dv_ 6 (uw i) (fun a X ee hb => execLdTs rfl (ee _) (epC_1 (on9 Fe7 hb))) (dw_ 8 (.pointer (some ⟨ub, ubo + j * 16, none⟩)) (fun a X ee => execIdxTs (k := j) rfl ((ee _).trans ube) (ee _) ltj) (dv_ 9 (.agg (bA 16 (tt i j))) (fun a X ee hb => execLdT rfl (ee _) (fun j_ hj_ => cU X (BB.trans (hb.mono BB.size)) j_ hj_)) (dw_ 10 (.bool false) (fun a X ee => execneq16t rfl (ee _) (ee _) (eqB_true (hq i lti j ltj))) (dz_ [(71, .bool false)] (h6_ t2 t3 t5 t6 t7 t8) ?_)))))))))
      rintro a A ⟨t71, -⟩ ⟨t2, t3, t5, t6, t7, t8, -⟩
      replace Fe6 := (on9 Fe6 bD)
      replace Fe7 := (on9 Fe7 bD)
      replace BB := BB.trans (bD.mono BB.size)
      clear bD
      refine wp_cond_false t71 ?_
      refine wp_skip ?_
      clear t71
      refine wi_ A (h6_ t2 t3 t5 t6 t7 t8) (rv_ 1 (.int .i64 ((j + 1 : Nat) : Int)) (fun a ee => execAd8 (p := j) (q := 1) rfl (ee _) rfl (by omega)) (rf_ [(8, .int .i64 ((j + 1 : Nat) : Int))] (h5_ t2 t3 t5 t6 t7) ?_))
      rintro a A ⟨t8, -⟩ ⟨t2, t3, t5, t6, t7, -⟩
      exact ⟨⟨j + 1, ltj, A, t2, t3, t5, t6, t7, t8, BB, Fe6, Fe7⟩, by show ln i - (intOf (a.eval (.tmp 8))).toNat < ln i - (intOf (Act.eval _ (.tmp 8))).toNat; rw [t8, esj]; show ln i - (j + 1) < ln i - j; omega⟩
    · rw [decide_eq_false ltj] at t58
      refine wp_cond_false t58 ?_
      refine wp_exit ?_
      first | with_reducible refine exit_in ?_ | with_reducible refine exit_then (exit_in ?_) | with_reducible refine exit_then (exit_then (exit_in ?_)) | refine exit_in ?_ | refine exit_then (exit_in ?_) | refine exit_then (exit_then (exit_in ?_))
      clear t58 esj
      clear Fe6 Fe7 t6 t7 t8
      refine wi_ A (h3_ t2 t3 t5) (rv_ 1 (.int .i64 ((i + 1 : Nat) : Int)) (fun a ee => execAd8 (p := i) (q := 1) rfl (ee _) rfl (by omega)) (rf_ [(5, .int .i64 ((i + 1 : Nat) : Int))] (h2_ t2 t3) ?_))
      rintro a A ⟨t5, -⟩ ⟨t2, t3, -⟩
      exact ⟨⟨i + 1, lti, A, t2, t3, t5, BB⟩, by show n - (intOf (a.eval (.tmp 5))).toNat < n - (intOf (Act.eval _ (.tmp 5))).toNat; rw [t5, esi]; show n - (i + 1) < n - i; omega⟩
  · rw [decide_eq_false lti] at t27
    refine wp_cond_false t27 ?_
    refine wp_exit ?_
    first | with_reducible refine exit_in ?_ | with_reducible refine exit_then (exit_in ?_) | with_reducible refine exit_then (exit_then (exit_in ?_)) | refine exit_in ?_ | refine exit_then (exit_in ?_) | refine exit_then (exit_then (exit_in ?_))
    clear t27 esi
    have BW2 := BW.trans (BB.mono BW.size)
    refine wp_seq ?_
    refine wi_ A (h3_ t2 t3 t5) (rg_ [(4, .bool true)] ?_)
    rintro a A ⟨t4, -⟩
    refine wp_ret ?_
    refine bodyPost_ret (results_tmp rfl _ _ _) A.2 ⟨?_, BW2⟩
    show Ending.returned (a.eval (.tmp 4)) = _
    rw [t4]
end Go.Proofs.Ytijibdapooalcab.Win
