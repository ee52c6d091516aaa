import Derived.Test.YtijibdapooalcabC9v
namespace Go.Proofs.Ytijibdapooalcab.Win
open Go.RowKit Gf8 Aes By8 Cel Cf
/- WindowPieces over what the package keeps. Written by tools/mkC9x.py. -/

theorem execBsT0 {o : Oper} {a : Act} {w : World} (ho : o.op = .buildSlice 25 0 #[]) : (execOp a.eval o).run Try.prog w = .ok (.value (.slice (some ⟨w.heap.size, 0, none⟩) 0 0)) (w.alloc (.cells #[] 36)) := by
  have hs : (sizeOf 36).run Try.prog w = .ok 16 w := by simp [go_sem]
  have hr : (Instr.buildSlice 25 0 #[]).run Try.prog w = .ok (.slice (some ⟨w.heap.size, 0, none⟩) 0 0) (w.alloc (.cells #[] 36)) := by
    simp only [Instr.buildSlice, Sem.run_bind, run_underlying Try.underlying25, Result.andThen_ok, hs]
    rw [if_neg (by decide), if_pos (by decide)]
    simp [newRow, Instr.fill]
    rw [show Array.map (fun _ : Nat => (default : Value)) (Array.range 0) = #[] from Array.eq_empty_of_size_eq_zero (by simp)]
  unfold execOp
  simp only [ho, List.map_toArray, List.map_nil, Sem.run_bind, hr, Result.andThen_ok, Sem.run_pure]
theorem own_bs0 (W : World) (t : Nat → Nat → Nat) : (W.alloc (.cells #[] 36)).ownsRow W.heap.size 36 16 (.slice (some ⟨W.heap.size, 0, none⟩) 0 0) 0 (tgV t 0) :=
  ⟨rfl, Or.inr ⟨W.heap.size, 0, _, rfl, Nat.le_refl _, heapNew W _, Nat.le_refl _, by unfold maxLen; omega, rfl, rfl⟩⟩
/-- What Add answers is small. -/
theorem wd_ans {W : World} {ev : Value} {n : Nat} {nu : Nat → Int} {tw : Nat → Value} {ln : Nat → Nat} {t : Nat → Nat → Nat → Nat} {w : Wn} {ep r : Int} {T : List Nat} {p : Wn × Nat} (hE : Eps W ev n nu tw ln t) (hp : wAdd w ep T r = p) (hq : esL n nu ln t = p.1.2) : Wd W p.1.1 ev n nu tw ln t := by
  subst hp
  by_cases h : (wAdd w ep T r).2 = 0
  · obtain ⟨_, hA, hB, _⟩ := add_0 h
    have hR := add_rgt (s := 8) hA.2.2 h hB.2.2
    refine wd_right (s := 8) (r := r) hE ?_
    rw [hq]
    exact hR
  · have h0 := add_e h
    have hn : n = 0 := esL_n hq (by rw [h0]; rfl)
    subst hn
    exact ⟨hE, by omega, fun j hj => absurd hj (Nat.not_lt_zero j), by rw [h0]; decide⟩
set_option maxRecDepth 100000 in
set_option maxHeartbeats 4000000 in
/-- WindowPieces. -/
theorem pieces16 (I : Impl) (nw : Int) (ev : Value) (n : Nat) (nu : Nat → Int) (tw : Nat → Value) (ln : Nat → Nat) (t : Nat → Nat → Nat → Nat) (sp rm ep : Int) (tgv : Value) (m : Nat) (tg : Nat → Nat → Nat) (mrv : Value) (k : Nat) (mr : Nat → Nat → Nat) (V : World) (hW : Wd V nw ev n nu tw ln t) (hrm : I64 rm) (hep : I64 ep) (hT : Tgs V tgv m tg) (hM : Tgs V mrv k mr) (hmk : (m + k) * 16 ≤ 140737488351232) :
    Calls Try.prog 3 #[.agg (jbC nw ev sp rm ep tgv mrv)] V fun e w' => e = .returned (.bool true) ∧ Below V.heap.size V w' := by
  go_enter Try.func3, Try.ntmps3
  obtain ⟨o, eo⟩ : ∃ o, wAdd (nw, esL n nu ln t) ep (tgL m tg ++ tgL k mr) rm = o := ⟨_, rfl⟩
  obtain ⟨p, ep_⟩ : ∃ p, wAdd (nw, esL n nu ln t) ep (tgL m tg) rm = p := ⟨_, rfl⟩
  obtain ⟨q, eq_⟩ : ∃ q, wAdd p.1 ep (tgL k mr) rm = q := ⟨_, rfl⟩
  have eo1 : wAdd (nw, esL n nu ln t) ep (tgL (m + k) (catT m tg mr)) rm = o := by rw [tgL_cat]; exact eo
  have eo2 : wAdd (nw, esL n nu ln t) ep (tgL (k + m) (catT k mr tg)) rm = o := by
    rw [tgL_cat, ← eo]
    exact add_same fun x => by rw [List.mem_append, List.mem_append]; exact Or.comm
  have hTg := hT
  have hSe : ∃ g n c, ev = .slice g n c := by obtain ⟨_, _, e_⟩ := hW.eps.shp; exact ⟨_, _, _, e_⟩
  have hSt : ∃ g n c, tgv = .slice g n c := by obtain ⟨_, _, e_⟩ := hT.shp; exact ⟨_, _, _, e_⟩
  have hSm : ∃ g n c, mrv = .slice g n c := by obtain ⟨_, _, e_⟩ := hM.shp; exact ⟨_, _, _, e_⟩
  refine wo_ 96 [(0, .agg (jbC nw ev sp rm ep tgv mrv))] ?_
  rintro a A ⟨t0, -⟩
  have BW : Below V.heap.size V V := Below.refl _ _
  have BB := BW
  refine wp_seq ?_
  obtain ⟨g1, egg1⟩ : ∃ z_ : Nat, V.heap.size = z_ := ⟨_, rfl⟩
  refine wi_ A (h1_ t0) (rs_ 0 (fun a ee => ?_))
  refine stepV rfl rfl (execBoxJ hSe hSt hSm rfl (ee _)) ⟨.pointer (some ⟨g1, 0, none⟩), ⟨_, rfl, by subst egg1; rfl⟩, fun X0 hX => ?_⟩
  have bQ : Below V.heap.size V X0 := by subst hX egg1; exact (belNew V _)
  have Fg1 : (X0.heap[g1]? = some (.cells (jbC nw ev sp rm ep tgv mrv) 27)) := by subst hX egg1; exact heapNew V _
  replace BB := BB.trans (bQ.mono BB.size)
  clear bQ hX egg1 ee a
  refine rg_ [(1, .pointer (some ⟨g1, 0, none⟩))] ?_
  rintro a A ⟨t1, -⟩
  refine wp_seq ?_
  refine wp_seq ?_
  refine wi_ A (h1_ t1) (rc_ 0 (alive16 I X0) (cb_ fun X1 bQ => ?_))
  replace Fg1 := (on9 Fg1 bQ)
  replace BB := BB.trans (bQ.mono BB.size)
  clear bQ
  refine rv_ 1 (.bool false) (fun a ee => execNot8 (b := true) rfl (ee _)) (rf_ [(14, .bool false)] (h1_ t1) ?_)
  rintro a A ⟨t14, -⟩ ⟨t1, -⟩
  refine wp_cond_false t14 ?_
  refine wp_skip ?_
  clear t14
  refine wp_seq ?_
  refine wp_region_stB (σ := Nat × Value × Value) 96 [(0, 15), (1, 16), (2, 17), (3, 18), (4, 19), (5, 20), (6, 21), (7, 3)] (fun l_ s X => Below V.heap.size V X ∧ ((X.heap[g1]? = some (.cells (jbC nw ev sp rm ep tgv mrv) 27))) ∧ (l_ 0 = true → l_ 3 = false → (X.ownsRow V.heap.size 36 16 (.slice (some ⟨s.1, 0, none⟩) 0 0) (0) (tgV (fun _ _ => 0) (0)))) ∧ (l_ 3 = true → l_ 6 = false → (X.ownsRow V.heap.size 36 16 s.2.1 (m) (tgV (tg) (m)))) ∧ (l_ 6 = true → (X.ownsRow V.heap.size 36 16 s.2.2 (m + k) (tgV (catT (m) (tg) (mr)) (m + k))))) (fun s => fun i_ => match i_ with | 0 => .slice (some ⟨s.1, 0, none⟩) 0 0 | 1 => .pointer (some ⟨g1, 5, none⟩) | 2 => tgv | 3 => s.2.1 | 4 => .pointer (some ⟨g1, 6, none⟩) | 5 => mrv | 6 => s.2.2 | 7 => s.2.2 | _ => undef) (0, undef, undef) (by kernel_rfl) (by kernel_rfl) A.1 (by kernel_rfl) (by decide) (by decide) ⟨(BB.drew), ((on9 Fg1 (Below.refl _ _).drew)), (fun q0_ q1_ => by cases q0_), (fun q0_ q1_ => by cases q0_), (fun q0_ => by cases q0_)⟩ ?_ ?_
  · intro i_ hi_ l_ s a X hl_ hf hdep hl2 hcl hno hT
    have up : ∀ j x, x ≠ j → updB l_ j x = l_ x := fun j x hj => by unfold updB; simp [hj]
    match i_, hi_ with
    | 0, _ =>
      refine stepV rfl rfl (execBsT0 rfl) ⟨(X.heap.size, s.2.1, s.2.2), ⟨_, rfl, rfl⟩, ⟨hT.1.trans (((belNew X _)).mono hT.1.size), ((on9 hT.2.1 (belNew X _))), (fun _q0_ _q1_ => ownE_base (own_bs0 X _) (hT.1).size), (fun q0_ q1_ => absurd (hl_.symm.trans (hcl 3 _ rfl ((up 0 3 (by decide)).symm.trans q0_) 0 rfl)) (by decide)), (fun q0_ => absurd (hl_.symm.trans (hcl 3 _ rfl (hcl 6 _ rfl ((up 0 6 (by decide)).symm.trans q0_) 3 rfl) 0 rfl)) (by decide))⟩, fun i hi hli => ?_⟩
      match i, hi with
      | 0, _ => exact absurd (hl_.symm.trans hli) (by decide)
      | 1, _ => rfl
      | 2, _ => rfl
      | 3, _ => rfl
      | 4, _ => rfl
      | 5, _ => rfl
      | 6, _ => rfl
      | 7, _ => rfl
      | k_ + 8, h_ => exact absurd h_ (by simp)
    | 1, _ => exact stepV rfl rfl (execFldJ4 rfl ((hf 1 (by decide)).trans t1)) ⟨s, ⟨_, rfl, rfl⟩, ⟨hT.1, (hT.2.1), (fun q0_ q1_ => (hT.2.2.1 (by rw [up 1 0 (by decide)] at q0_; exact q0_) (by rw [up 1 3 (by decide)] at q1_; exact q1_))), (fun q0_ q1_ => absurd (hl_.symm.trans (hcl 2 _ rfl (hcl 3 _ rfl ((up 1 3 (by decide)).symm.trans q0_) 2 rfl) 1 rfl)) (by decide)), (fun q0_ => absurd (hl_.symm.trans (hcl 2 _ rfl (hcl 3 _ rfl (hcl 6 _ rfl ((up 1 6 (by decide)).symm.trans q0_) 3 rfl) 2 rfl) 1 rfl)) (by decide))⟩, fun _ _ _ => rfl⟩
    | 2, _ => exact stepV rfl rfl (execLdTs rfl (hdep _ rfl 1 rfl _ rfl _ rfl) (row_at hT.2.1 rfl)) ⟨s, ⟨_, rfl, rfl⟩, ⟨hT.1, (hT.2.1), (fun q0_ q1_ => (hT.2.2.1 (by rw [up 2 0 (by decide)] at q0_; exact q0_) (by rw [up 2 3 (by decide)] at q1_; exact q1_))), (fun q0_ q1_ => absurd (hl_.symm.trans (hcl 3 _ rfl ((up 2 3 (by decide)).symm.trans q0_) 2 rfl)) (by decide)), (fun q0_ => absurd (hl_.symm.trans (hcl 3 _ rfl (hcl 6 _ rfl ((up 2 6 (by decide)).symm.trans q0_) 3 rfl) 2 rfl)) (by decide))⟩, fun _ _ _ => rfl⟩
    | 3, _ =>
      refine stepAppT (n := 0) (m := m) (t := fun _ _ => 0) (p := tg) rfl rfl rfl (hdep _ rfl 0 rfl _ rfl _ rfl) (hdep _ rfl 2 rfl _ rfl _ rfl) (hT.2.2.1 (hl2 _ rfl 0 rfl) hl_) (hTg.on hT.1) (by omega) (hT.1).size fun v' W' own' gr => ⟨(s.1, v', s.2.2), ⟨_, rfl, rfl⟩, ⟨(hT.1).grown gr (hT.1).size (fun k hk => ((hT.2.2.1 (hl2 _ rfl 0 rfl) hl_).lt k hk).1), (heapE_over (hT.2.2.1 (hl2 _ rfl 0 rfl) hl_) gr hT.2.1 (by decide)), (fun q0_ q1_ => absurd q1_ (by unfold updB; simp)), (fun _q0_ _q1_ => (by rw [Nat.zero_add, cat0] at own'; exact own')), (fun q0_ => absurd (hl_.symm.trans (hcl 6 _ rfl ((up 3 6 (by decide)).symm.trans q0_) 3 rfl)) (by decide))⟩, fun i hi hli => ?_⟩
      match i, hi with
      | 0, _ => rfl
      | 1, _ => rfl
      | 2, _ => rfl
      | 3, _ => exact absurd (hl_.symm.trans hli) (by decide)
      | 4, _ => rfl
      | 5, _ => rfl
      | 6, _ => rfl
      | 7, _ => rfl
      | k_ + 8, h_ => exact absurd h_ (by simp)
    | 4, _ => exact stepV rfl rfl (execFldJ5 rfl ((hf 1 (by decide)).trans t1)) ⟨s, ⟨_, rfl, rfl⟩, ⟨hT.1, (hT.2.1), (fun q0_ q1_ => (hT.2.2.1 (by rw [up 4 0 (by decide)] at q0_; exact q0_) (by rw [up 4 3 (by decide)] at q1_; exact q1_))), (fun q0_ q1_ => (hT.2.2.2.1 (by rw [up 4 3 (by decide)] at q0_; exact q0_) (by rw [up 4 6 (by decide)] at q1_; exact q1_))), (fun q0_ => absurd (hl_.symm.trans (hcl 5 _ rfl (hcl 6 _ rfl ((up 4 6 (by decide)).symm.trans q0_) 5 rfl) 4 rfl)) (by decide))⟩, fun _ _ _ => rfl⟩
    | 5, _ => exact stepV rfl rfl (execLdTs rfl (hdep _ rfl 4 rfl _ rfl _ rfl) (row_at hT.2.1 rfl)) ⟨s, ⟨_, rfl, rfl⟩, ⟨hT.1, (hT.2.1), (fun q0_ q1_ => (hT.2.2.1 (by rw [up 5 0 (by decide)] at q0_; exact q0_) (by rw [up 5 3 (by decide)] at q1_; exact q1_))), (fun q0_ q1_ => (hT.2.2.2.1 (by rw [up 5 3 (by decide)] at q0_; exact q0_) (by rw [up 5 6 (by decide)] at q1_; exact q1_))), (fun q0_ => absurd (hl_.symm.trans (hcl 6 _ rfl ((up 5 6 (by decide)).symm.trans q0_) 5 rfl)) (by decide))⟩, fun _ _ _ => rfl⟩
    | 6, _ =>
      refine stepAppT (n := m) (m := k) (t := tg) (p := mr) rfl rfl rfl (hdep _ rfl 3 rfl _ rfl _ rfl) (hdep _ rfl 5 rfl _ rfl _ rfl) (hT.2.2.2.1 (hl2 _ rfl 3 rfl) hl_) (hM.on hT.1) (by omega) (hT.1).size fun v' W' own' gr => ⟨(s.1, s.2.1, v'), ⟨_, rfl, rfl⟩, ⟨(hT.1).grown gr (hT.1).size (fun k hk => ((hT.2.2.2.1 (hl2 _ rfl 3 rfl) hl_).lt k hk).1), (heapE_over (hT.2.2.2.1 (hl2 _ rfl 3 rfl) hl_) gr hT.2.1 (by decide)), (fun q0_ q1_ => absurd (q1_.symm.trans ((up 6 3 (by decide)).trans (hl2 _ rfl 3 rfl))) (by decide)), (fun q0_ q1_ => absurd q1_ (by unfold updB; simp)), (fun _q0_ => own')⟩, fun i hi hli => ?_⟩
      match i, hi with
      | 0, _ => rfl
      | 1, _ => rfl
      | 2, _ => rfl
      | 3, _ => rfl
      | 4, _ => rfl
      | 5, _ => rfl
      | 6, _ => exact absurd (hl_.symm.trans hli) (by decide)
      | 7, _ => exact absurd (hl_.symm.trans (hcl 7 _ rfl hli 6 rfl)) (by decide)
      | k_ + 8, h_ => exact absurd h_ (by simp)
    | 7, _ => exact stepV rfl rfl (Cf.execAsgB rfl (hdep _ rfl 6 rfl _ rfl _ rfl)) ⟨s, ⟨_, rfl, rfl⟩, ⟨hT.1, (hT.2.1), (fun q0_ q1_ => absurd (q1_.symm.trans ((up 7 3 (by decide)).trans (hl2 _ rfl 3 rfl))) (by decide)), (fun q0_ q1_ => absurd (q1_.symm.trans ((up 7 6 (by decide)).trans (hl2 _ rfl 6 rfl))) (by decide)), (fun q0_ => (hT.2.2.2.2 (by rw [up 7 6 (by decide)] at q0_; exact q0_)))⟩, fun _ _ _ => rfl⟩
    | k_ + 8, h_ => exact absurd h_ (by simp)
  rintro l_ ⟨g15, v18, v21⟩ a X3 h1 h2 h3 h4 hall hT
  clear BB
  clear Fg1
  obtain ⟨BB, Fg1, FO15, FP18, FU⟩ := hT
  replace Fg1 : (X3.heap[g1]? = some (.cells (jbC nw ev sp rm ep tgv mrv) 27)) := Fg1
  clear FO15
  clear FP18
  replace FU : (X3.ownsRow V.heap.size 36 16 v21 (m + k) (tgV (catT (m) (tg) (mr)) (m + k))) := FU (hall 6 (by decide))
  clear hall
  replace t1 := (h3 1 (by decide)).trans t1
  have t3 : a.eval (.tmp 3) = v21 := h4 (7, 3) (by decide)
  replace A := (⟨h1, h2.trans A.2⟩ : a.tmps.size = 96 ∧ a.defers = [])
  clear h1 h2 h3 h4
  have TU := own_tgs FU (cat_byt hTg.byt hM.byt)
  clear FU
  replace hW := (hW.on BB)
  replace hTg := (hTg.on BB)
  replace hM := (hM.on BB)
  replace BW := BW.trans (BB.mono BW.size)
  clear BB
  have BB : Below X3.heap.size X3 X3 := Below.refl _ _
  refine wp_seq ?_
  refine wp_region_stB (σ := Nat × Value × Value) 96 [(0, 22), (1, 23), (2, 24), (3, 25), (4, 26), (5, 27), (6, 28), (7, 4)] (fun l_ s X => Below X3.heap.size X3 X ∧ (l_ 0 = true → l_ 3 = false → (X.ownsRow X3.heap.size 36 16 (.slice (some ⟨s.1, 0, none⟩) 0 0) (0) (tgV (fun _ _ => 0) (0)))) ∧ (l_ 3 = true → l_ 6 = false → (X.ownsRow X3.heap.size 36 16 s.2.1 (k) (tgV (mr) (k)))) ∧ (l_ 6 = true → (X.ownsRow X3.heap.size 36 16 s.2.2 (k + m) (tgV (catT (k) (mr) (tg)) (k + m))))) (fun s => fun i_ => match i_ with | 0 => .slice (some ⟨s.1, 0, none⟩) 0 0 | 1 => .pointer (some ⟨g1, 6, none⟩) | 2 => mrv | 3 => s.2.1 | 4 => .pointer (some ⟨g1, 5, none⟩) | 5 => tgv | 6 => s.2.2 | 7 => s.2.2 | _ => undef) (0, undef, undef) (by kernel_rfl) (by kernel_rfl) A.1 (by kernel_rfl) (by decide) (by decide) ⟨(BB.drew), (fun q0_ q1_ => by cases q0_), (fun q0_ q1_ => by cases q0_), (fun q0_ => by cases q0_)⟩ ?_ ?_
  · intro i_ hi_ l_ s a X hl_ hf hdep hl2 hcl hno hT
    have up : ∀ j x, x ≠ j → updB l_ j x = l_ x := fun j x hj => by unfold updB; simp [hj]
    match i_, hi_ with
    | 0, _ =>
      refine stepV rfl rfl (execBsT0 rfl) ⟨(X.heap.size, s.2.1, s.2.2), ⟨_, rfl, rfl⟩, ⟨hT.1.trans (((belNew X _)).mono hT.1.size), (fun _q0_ _q1_ => ownE_base (own_bs0 X _) (hT.1).size), (fun q0_ q1_ => absurd (hl_.symm.trans (hcl 3 _ rfl ((up 0 3 (by decide)).symm.trans q0_) 0 rfl)) (by decide)), (fun q0_ => absurd (hl_.symm.trans (hcl 3 _ rfl (hcl 6 _ rfl ((up 0 6 (by decide)).symm.trans q0_) 3 rfl) 0 rfl)) (by decide))⟩, fun i hi hli => ?_⟩
      match i, hi with
      | 0, _ => exact absurd (hl_.symm.trans hli) (by decide)
      | 1, _ => rfl
      | 2, _ => rfl
      | 3, _ => rfl
      | 4, _ => rfl
      | 5, _ => rfl
      | 6, _ => rfl
      | 7, _ => rfl
      | k_ + 8, h_ => exact absurd h_ (by simp)
    | 1, _ => exact stepV rfl rfl (execFldJ5 rfl ((hf 1 (by decide)).trans t1)) ⟨s, ⟨_, rfl, rfl⟩, ⟨hT.1, (fun q0_ q1_ => (hT.2.1 (by rw [up 1 0 (by decide)] at q0_; exact q0_) (by rw [up 1 3 (by decide)] at q1_; exact q1_))), (fun q0_ q1_ => absurd (hl_.symm.trans (hcl 2 _ rfl (hcl 3 _ rfl ((up 1 3 (by decide)).symm.trans q0_) 2 rfl) 1 rfl)) (by decide)), (fun q0_ => absurd (hl_.symm.trans (hcl 2 _ rfl (hcl 3 _ rfl (hcl 6 _ rfl ((up 1 6 (by decide)).symm.trans q0_) 3 rfl) 2 rfl) 1 rfl)) (by decide))⟩, fun _ _ _ => rfl⟩
    | 2, _ => exact stepV rfl rfl (execLdTs rfl (hdep _ rfl 1 rfl _ rfl _ rfl) (row_at (on9 Fg1 hT.1) rfl)) ⟨s, ⟨_, rfl, rfl⟩, ⟨hT.1, (fun q0_ q1_ => (hT.2.1 (by rw [up 2 0 (by decide)] at q0_; exact q0_) (by rw [up 2 3 (by decide)] at q1_; exact q1_))), (fun q0_ q1_ => absurd (hl_.symm.trans (hcl 3 _ rfl ((up 2 3 (by decide)).symm.trans q0_) 2 rfl)) (by decide)), (fun q0_ => absurd (hl_.symm.trans (hcl 3 _ rfl (hcl 6 _ rfl ((up 2 6 (by decide)).symm.trans q0_) 3 rfl) 2 rfl)) (by decide))⟩, fun _ _ _ => rfl⟩
    | 3, _ =>
      refine stepAppT (n := 0) (m := k) (t := fun _ _ => 0) (p := mr) rfl rfl rfl (hdep _ rfl 0 rfl _ rfl _ rfl) (hdep _ rfl 2 rfl _ rfl _ rfl) (hT.2.1 (hl2 _ rfl 0 rfl) hl_) (hM.on hT.1) (by omega) (hT.1).size fun v' W' own' gr => ⟨(s.1, v', s.2.2), ⟨_, rfl, rfl⟩, ⟨(hT.1).grown gr (hT.1).size (fun k hk => ((hT.2.1 (hl2 _ rfl 0 rfl) hl_).lt k hk).1), (fun q0_ q1_ => absurd q1_ (by unfold updB; simp)), (fun _q0_ _q1_ => (by rw [Nat.zero_add, cat0] at own'; exact own')), (fun q0_ => absurd (hl_.symm.trans (hcl 6 _ rfl ((up 3 6 (by decide)).symm.trans q0_) 3 rfl)) (by decide))⟩, fun i hi hli => ?_⟩
      match i, hi with
      | 0, _ => rfl
      | 1, _ => rfl
      | 2, _ => rfl
      | 3, _ => exact absurd (hl_.symm.trans hli) (by decide)
      | 4, _ => rfl
      | 5, _ => rfl
      | 6, _ => rfl
      | 7, _ => rfl
      | k_ + 8, h_ => exact absurd h_ (by simp)
    | 4, _ => exact stepV rfl rfl (execFldJ4 rfl ((hf 1 (by decide)).trans t1)) ⟨s, ⟨_, rfl, rfl⟩, ⟨hT.1, (fun q0_ q1_ => (hT.2.1 (by rw [up 4 0 (by decide)] at q0_; exact q0_) (by rw [up 4 3 (by decide)] at q1_; exact q1_))), (fun q0_ q1_ => (hT.2.2.1 (by rw [up 4 3 (by decide)] at q0_; exact q0_) (by rw [up 4 6 (by decide)] at q1_; exact q1_))), (fun q0_ => absurd (hl_.symm.trans (hcl 5 _ rfl (hcl 6 _ rfl ((up 4 6 (by decide)).symm.trans q0_) 5 rfl) 4 rfl)) (by decide))⟩, fun _ _ _ => rfl⟩
    | 5, _ => exact stepV rfl rfl (execLdTs rfl (hdep _ rfl 4 rfl _ rfl _ rfl) (row_at (on9 Fg1 hT.1) rfl)) ⟨s, ⟨_, rfl, rfl⟩, ⟨hT.1, (fun q0_ q1_ => (hT.2.1 (by rw [up 5 0 (by decide)] at q0_; exact q0_) (by rw [up 5 3 (by decide)] at q1_; exact q1_))), (fun q0_ q1_ => (hT.2.2.1 (by rw [up 5 3 (by decide)] at q0_; exact q0_) (by rw [up 5 6 (by decide)] at q1_; exact q1_))), (fun q0_ => absurd (hl_.symm.trans (hcl 6 _ rfl ((up 5 6 (by decide)).symm.trans q0_) 5 rfl)) (by decide))⟩, fun _ _ _ => rfl⟩
    | 6, _ =>
      refine stepAppT (n := k) (m := m) (t := mr) (p := tg) rfl rfl rfl (hdep _ rfl 3 rfl _ rfl _ rfl) (hdep _ rfl 5 rfl _ rfl _ rfl) (hT.2.2.1 (hl2 _ rfl 3 rfl) hl_) (hTg.on hT.1) (by omega) (hT.1).size fun v' W' own' gr => ⟨(s.1, s.2.1, v'), ⟨_, rfl, rfl⟩, ⟨(hT.1).grown gr (hT.1).size (fun k hk => ((hT.2.2.1 (hl2 _ rfl 3 rfl) hl_).lt k hk).1), (fun q0_ q1_ => absurd (q1_.symm.trans ((up 6 3 (by decide)).trans (hl2 _ rfl 3 rfl))) (by decide)), (fun q0_ q1_ => absurd q1_ (by unfold updB; simp)), (fun _q0_ => own')⟩, fun i hi hli => ?_⟩
      match i, hi with
      | 0, _ => rfl
      | 1, _ => rfl
      | 2, _ => rfl
      | 3, _ => rfl
      | 4, _ => rfl
      | 5, _ => rfl
      | 6, _ => exact absurd (hl_.symm.trans hli) (by decide)
      | 7, _ => exact absurd (hl_.symm.trans (hcl 7 _ rfl hli 6 rfl)) (by decide)
      | k_ + 8, h_ => exact absurd h_ (by simp)
    | 7, _ => exact stepV rfl rfl (Cf.execAsgB rfl (hdep _ rfl 6 rfl _ rfl _ rfl)) ⟨s, ⟨_, rfl, rfl⟩, ⟨hT.1, (fun q0_ q1_ => absurd (q1_.symm.trans ((up 7 3 (by decide)).trans (hl2 _ rfl 3 rfl))) (by decide)), (fun q0_ q1_ => absurd (q1_.symm.trans ((up 7 6 (by decide)).trans (hl2 _ rfl 6 rfl))) (by decide)), (fun q0_ => (hT.2.2.2 (by rw [up 7 6 (by decide)] at q0_; exact q0_)))⟩, fun _ _ _ => rfl⟩
    | k_ + 8, h_ => exact absurd h_ (by simp)
  rintro l_ ⟨g22, v25, v28⟩ a X4 h1 h2 h3 h4 hall hT
  clear BB
  obtain ⟨BB, FO22, FP25, FU2⟩ := hT
  clear FO22
  clear FP25
  replace FU2 : (X4.ownsRow X3.heap.size 36 16 v28 (k + m) (tgV (catT (k) (mr) (tg)) (k + m))) := FU2 (hall 6 (by decide))
  clear hall
  replace t1 := (h3 1 (by decide)).trans t1
  replace t3 := (h3 3 (by decide)).trans t3
  have t4 : a.eval (.tmp 4) = v28 := h4 (7, 4) (by decide)
  replace A := (⟨h1, h2.trans A.2⟩ : a.tmps.size = 96 ∧ a.defers = [])
  clear h1 h2 h3 h4
  have TU2 := own_tgs FU2 (cat_byt hM.byt hTg.byt)
  clear FU2
  replace hW := (hW.on BB)
  replace hTg := (hTg.on BB)
  replace hM := (hM.on BB)
  replace Fg1 := (on9 Fg1 BB)
  replace TU := (TU.on BB)
  replace BW := BW.trans (BB.mono BW.size)
  clear BB
  have BB : Below X4.heap.size X4 X4 := Below.refl _ _
  refine wp_seq ?_
  refine wi_ A (h3_ t1 t3 t4) (rv_ 0 (.pointer (some ⟨g1, 0, none⟩)) (fun a ee => execFldJ0 rfl (ee _)) (rv_ 1 (.agg (wC nw ev)) (fun a ee => execLdWm rfl (ee _) (row_at (on9 Fg1 BB) rfl) (row_at (on9 Fg1 BB) rfl)) (rv_ 2 (.pointer (some ⟨g1, 4, none⟩)) (fun a ee => execFldJ3 rfl (ee _)) (rv_ 3 (.int .i64 ep) (fun a ee => execLd2 rfl (ee _) (row_at (on9 Fg1 BB) rfl)) (rv_ 5 (.pointer (some ⟨g1, 3, none⟩)) (fun a ee => execFldJ2 rfl (ee _)) (rv_ 6 (.int .i64 rm) (fun a ee => execLd3 rfl (ee _) (row_at (on9 Fg1 BB) rfl)) (rc_ 7 (eo1 ▸ I.add nw ep rm ev n nu tw ln t X4 v21 (m + k) (catT m tg mr) (hW.on BB) hep hrm (TU.on BB) hmk) fun e X5_1 hh => ?_)))))))
  obtain ⟨⟨ev37, n37, nu37, tw37, ln37, tt37, he, hq, hk⟩, hb⟩ := hh
  refine ⟨_, he, ?_⟩
  have bQ : Below X4.heap.size X4 X5_1 := hb
  have FW37 : (NwE X4.heap.size X5_1 ev37 n37 nu37 tw37 ln37 tt37) := hk.base (BB).size
  have FQ37 : (esL n37 nu37 ln37 tt37 = o.1.2) := hq
  replace BB := BB.trans (bQ.mono BB.size)
  clear bQ
  obtain ⟨g5, egg5⟩ : ∃ z_ : Nat, X5_1.heap.size = z_ := ⟨_, rfl⟩
  refine rs_ 11 (fun a ee => ?_)
  refine stepV rfl rfl (execAllW rfl) ⟨.pointer (some ⟨g5, 0, none⟩), ⟨_, rfl, by subst egg5; rfl⟩, fun X5_2 hX => ?_⟩
  have bQ : Below X5_1.heap.size X5_1 X5_2 := by subst hX egg5; exact (belNew X5_1 _)
  have Fg5 : (X5_2.heap[g5]? = some (.cells (wC 0 (.slice none 0 0)) 24)) := by subst hX egg5; exact heapNew X5_1 _
  have FGg5 : (X4.heap.size ≤ g5) := by subst hX egg5; exact (BB).size
  replace FW37 := (FW37.on bQ)
  replace BB := BB.trans (bQ.mono BB.size)
  clear bQ hX egg5 ee a
  refine rs_ 12 (fun a ee => ?_)
  refine stepS rfl rfl (execStWn rfl (ee _) (ee _) Fg5 (slc_one (ownE_shp FW37.row))) ⟨_, ⟨_, rfl, rfl⟩, fun X5 hX => ?_⟩
  obtain ⟨BB, FW37, Fx⟩ : Below X4.heap.size X4 X5 ∧ (NwE X4.heap.size X5 ev37 n37 nu37 tw37 ln37 tt37) ∧ (X5.heap[g5]? = some (.cells (wC o.1.1 ev37) 24)) := by subst hX; exact ⟨below4 BB FGg5 _, (FW37).setW Fg5 (by decide) (by decide), setRow_heap _ _ _ _ _ _ Fg5⟩
  clear Fg5 hX ee a
  refine rf_ [(5, .pointer (some ⟨g5, 0, none⟩)), (6, .int .i64 ((o.2 : Nat) : Int))] (h2_ t1 t4) ?_
  rintro a A ⟨t5, t6, -⟩ ⟨t1, t4, -⟩
  refine wp_seq ?_
  refine wi_ A (h4_ t1 t4 t5 t6) (rv_ 0 (.pointer (some ⟨g1, 0, none⟩)) (fun a ee => execFldJ0 rfl (ee _)) (rv_ 1 (.agg (wC nw ev)) (fun a ee => execLdWm rfl (ee _) (row_at (on9 Fg1 BB) rfl) (row_at (on9 Fg1 BB) rfl)) (rv_ 2 (.pointer (some ⟨g1, 4, none⟩)) (fun a ee => execFldJ3 rfl (ee _)) (rv_ 3 (.int .i64 ep) (fun a ee => execLd2 rfl (ee _) (row_at (on9 Fg1 BB) rfl)) (rv_ 5 (.pointer (some ⟨g1, 3, none⟩)) (fun a ee => execFldJ2 rfl (ee _)) (rv_ 6 (.int .i64 rm) (fun a ee => execLd3 rfl (ee _) (row_at (on9 Fg1 BB) rfl)) (rc_ 7 (eo2 ▸ I.add nw ep rm ev n nu tw ln t X5 v28 (k + m) (catT k mr tg) (hW.on BB) hep hrm (TU2.on BB) (by omega)) fun e X6_1 hh => ?_)))))))
  obtain ⟨⟨ev48, n48, nu48, tw48, ln48, tt48, he, hq, hk⟩, hb⟩ := hh
  refine ⟨_, he, ?_⟩
  have bQ : Below X5.heap.size X5 X6_1 := hb
  have FW48 : (NwE X4.heap.size X6_1 ev48 n48 nu48 tw48 ln48 tt48) := hk.base (BB).size
  have FQ48 : (esL n48 nu48 ln48 tt48 = o.1.2) := hq
  replace FW37 := (FW37.on bQ)
  replace Fx := (on9 Fx bQ)
  replace BB := BB.trans (bQ.mono BB.size)
  clear bQ
  obtain ⟨g7, egg7⟩ : ∃ z_ : Nat, X6_1.heap.size = z_ := ⟨_, rfl⟩
  refine rs_ 11 (fun a ee => ?_)
  refine stepV rfl rfl (execAllW rfl) ⟨.pointer (some ⟨g7, 0, none⟩), ⟨_, rfl, by subst egg7; rfl⟩, fun X6_2 hX => ?_⟩
  have bQ : Below X6_1.heap.size X6_1 X6_2 := by subst hX egg7; exact (belNew X6_1 _)
  have Fg7 : (X6_2.heap[g7]? = some (.cells (wC 0 (.slice none 0 0)) 24)) := by subst hX egg7; exact heapNew X6_1 _
  have FGg7 : (X4.heap.size ≤ g7) := by subst hX egg7; exact (BB).size
  have FNg5g7 : (g5 ≠ g7) := by subst hX egg7; exact ne16 Fx
  replace FW37 := (FW37.on bQ)
  replace Fx := (on9 Fx bQ)
  replace FW48 := (FW48.on bQ)
  replace BB := BB.trans (bQ.mono BB.size)
  clear bQ hX egg7 ee a
  refine rs_ 12 (fun a ee => ?_)
  refine stepS rfl rfl (execStWn rfl (ee _) (ee _) Fg7 (slc_one (ownE_shp FW48.row))) ⟨_, ⟨_, rfl, rfl⟩, fun X6 hX => ?_⟩
  obtain ⟨BB, FW37, Fx, FW48, Fy⟩ : Below X4.heap.size X4 X6 ∧ (NwE X4.heap.size X6 ev37 n37 nu37 tw37 ln37 tt37) ∧ (X6.heap[g5]? = some (.cells (wC o.1.1 ev37) 24)) ∧ (NwE X4.heap.size X6 ev48 n48 nu48 tw48 ln48 tt48) ∧ (X6.heap[g7]? = some (.cells (wC o.1.1 ev48) 24)) := by subst hX; exact ⟨below4 BB FGg7 _, (FW37).setW Fg7 (by decide) (by decide), (by rw [setRow_other _ _ _ _ FNg5g7]; exact Fx), (FW48).setW Fg7 (by decide) (by decide), setRow_heap _ _ _ _ _ _ Fg7⟩
  clear Fg7 hX ee a
  refine rf_ [(7, .pointer (some ⟨g7, 0, none⟩)), (8, .int .i64 ((o.2 : Nat) : Int))] (h3_ t1 t5 t6) ?_
  rintro a A ⟨t7, t8, -⟩ ⟨t1, t5, t6, -⟩
  refine wp_seq ?_
  refine wi_ A (h5_ t1 t5 t6 t7 t8) (rv_ 0 (.pointer (some ⟨g1, 0, none⟩)) (fun a ee => execFldJ0 rfl (ee _)) (rv_ 1 (.agg (wC nw ev)) (fun a ee => execLdWm rfl (ee _) (row_at (on9 Fg1 BB) rfl) (row_at (on9 Fg1 BB) rfl)) (rv_ 2 (.pointer (some ⟨g1, 4, none⟩)) (fun a ee => execFldJ3 rfl (ee _)) (rv_ 3 (.int .i64 ep) (fun a ee => execLd2 rfl (ee _) (row_at (on9 Fg1 BB) rfl)) (rv_ 4 (.pointer (some ⟨g1, 5, none⟩)) (fun a ee => execFldJ4 rfl (ee _)) (rv_ 5 (tgv) (fun a ee => execLdTs rfl (ee _) (row_at (on9 Fg1 BB) rfl)) (rv_ 6 (.pointer (some ⟨g1, 3, none⟩)) (fun a ee => execFldJ2 rfl (ee _)) (rv_ 7 (.int .i64 rm) (fun a ee => execLd3 rfl (ee _) (row_at (on9 Fg1 BB) rfl)) (rc_ 8 (ep_ ▸ I.add nw ep rm ev n nu tw ln t X6 tgv m tg (hW.on BB) hep hrm (hTg.on BB) (by omega)) fun e X7_1 hh => ?_)))))))))
  obtain ⟨⟨ev60, n60, nu60, tw60, ln60, tt60, he, hq, hk⟩, hb⟩ := hh
  refine ⟨_, he, ?_⟩
  have bQ : Below X6.heap.size X6 X7_1 := hb
  have FW60 : (NwE X4.heap.size X7_1 ev60 n60 nu60 tw60 ln60 tt60) := hk.base (BB).size
  have FQ60 : (esL n60 nu60 ln60 tt60 = p.1.2) := hq
  replace FW37 := (FW37.on bQ)
  replace Fx := (on9 Fx bQ)
  replace FW48 := (FW48.on bQ)
  replace Fy := (on9 Fy bQ)
  replace BB := BB.trans (bQ.mono BB.size)
  clear bQ
  obtain ⟨g9, egg9⟩ : ∃ z_ : Nat, X7_1.heap.size = z_ := ⟨_, rfl⟩
  refine rs_ 12 (fun a ee => ?_)
  refine stepV rfl rfl (execAllW rfl) ⟨.pointer (some ⟨g9, 0, none⟩), ⟨_, rfl, by subst egg9; rfl⟩, fun X7_2 hX => ?_⟩
  have bQ : Below X7_1.heap.size X7_1 X7_2 := by subst hX egg9; exact (belNew X7_1 _)
  have Fg9 : (X7_2.heap[g9]? = some (.cells (wC 0 (.slice none 0 0)) 24)) := by subst hX egg9; exact heapNew X7_1 _
  have FGg9 : (X4.heap.size ≤ g9) := by subst hX egg9; exact (BB).size
  have FNg5g9 : (g5 ≠ g9) := by subst hX egg9; exact ne16 Fx
  have FNg7g9 : (g7 ≠ g9) := by subst hX egg9; exact ne16 Fy
  replace FW37 := (FW37.on bQ)
  replace Fx := (on9 Fx bQ)
  replace FW48 := (FW48.on bQ)
  replace Fy := (on9 Fy bQ)
  replace FW60 := (FW60.on bQ)
  replace BB := BB.trans (bQ.mono BB.size)
  clear bQ hX egg9 ee a
  refine rs_ 13 (fun a ee => ?_)
  refine stepS rfl rfl (execStWn rfl (ee _) (ee _) Fg9 (slc_one (ownE_shp FW60.row))) ⟨_, ⟨_, rfl, rfl⟩, fun X7 hX => ?_⟩
  obtain ⟨BB, FW37, Fx, FW48, Fy, FW60, Fa⟩ : Below X4.heap.size X4 X7 ∧ (NwE X4.heap.size X7 ev37 n37 nu37 tw37 ln37 tt37) ∧ (X7.heap[g5]? = some (.cells (wC o.1.1 ev37) 24)) ∧ (NwE X4.heap.size X7 ev48 n48 nu48 tw48 ln48 tt48) ∧ (X7.heap[g7]? = some (.cells (wC o.1.1 ev48) 24)) ∧ (NwE X4.heap.size X7 ev60 n60 nu60 tw60 ln60 tt60) ∧ (X7.heap[g9]? = some (.cells (wC p.1.1 ev60) 24)) := by subst hX; exact ⟨below4 BB FGg9 _, (FW37).setW Fg9 (by decide) (by decide), (by rw [setRow_other _ _ _ _ FNg5g9]; exact Fx), (FW48).setW Fg9 (by decide) (by decide), (by rw [setRow_other _ _ _ _ FNg7g9]; exact Fy), (FW60).setW Fg9 (by decide) (by decide), setRow_heap _ _ _ _ _ _ Fg9⟩
  clear Fg9 hX ee a
  refine rf_ [(9, .pointer (some ⟨g9, 0, none⟩)), (10, .int .i64 ((p.2 : Nat) : Int))] (h5_ t1 t5 t6 t7 t8) ?_
  rintro a A ⟨t9, t10, -⟩ ⟨t1, t5, t6, t7, t8, -⟩
  have eq1 : wAdd (p.1.1, esL n60 nu60 ln60 tt60) ep (tgL k mr) rm = q := by rw [FQ60]; exact eq_
  refine wp_seq ?_
  refine wi_ A (h7_ t1 t5 t6 t7 t8 t9 t10) (rv_ 0 (.agg (wC p.1.1 ev60)) (fun a ee => execLdWn rfl (ee _) Fa) (rv_ 1 (.pointer (some ⟨g1, 4, none⟩)) (fun a ee => execFldJ3 rfl (ee _)) (rv_ 2 (.int .i64 ep) (fun a ee => execLd2 rfl (ee _) (row_at (on9 Fg1 BB) rfl)) (rv_ 3 (.pointer (some ⟨g1, 6, none⟩)) (fun a ee => execFldJ5 rfl (ee _)) (rv_ 4 (mrv) (fun a ee => execLdTs rfl (ee _) (row_at (on9 Fg1 BB) rfl)) (rv_ 5 (.pointer (some ⟨g1, 3, none⟩)) (fun a ee => execFldJ2 rfl (ee _)) (rv_ 6 (.int .i64 rm) (fun a ee => execLd3 rfl (ee _) (row_at (on9 Fg1 BB) rfl)) (rc_ 7 (eq1 ▸ I.add p.1.1 ep rm ev60 n60 nu60 tw60 ln60 tt60 X7 mrv k mr (wd_ans FW60.eps ep_ FQ60) hep hrm (hM.on BB) (by omega)) fun e X8_1 hh => ?_))))))))
  obtain ⟨⟨ev71, n71, nu71, tw71, ln71, tt71, he, hq, hk⟩, hb⟩ := hh
  refine ⟨_, he, ?_⟩
  have bQ : Below X7.heap.size X7 X8_1 := hb
  have FW71 : (NwE X4.heap.size X8_1 ev71 n71 nu71 tw71 ln71 tt71) := hk.base (BB).size
  have FQ71 : (esL n71 nu71 ln71 tt71 = q.1.2) := hq
  replace FW37 := (FW37.on bQ)
  replace Fx := (on9 Fx bQ)
  replace FW48 := (FW48.on bQ)
  replace Fy := (on9 Fy bQ)
  replace FW60 := (FW60.on bQ)
  replace Fa := (on9 Fa bQ)
  replace BB := BB.trans (bQ.mono BB.size)
  clear bQ
  obtain ⟨g11, egg11⟩ : ∃ z_ : Nat, X8_1.heap.size = z_ := ⟨_, rfl⟩
  refine rs_ 11 (fun a ee => ?_)
  refine stepV rfl rfl (execAllW rfl) ⟨.pointer (some ⟨g11, 0, none⟩), ⟨_, rfl, by subst egg11; rfl⟩, fun X8_2 hX => ?_⟩
  have bQ : Below X8_1.heap.size X8_1 X8_2 := by subst hX egg11; exact (belNew X8_1 _)
  have Fg11 : (X8_2.heap[g11]? = some (.cells (wC 0 (.slice none 0 0)) 24)) := by subst hX egg11; exact heapNew X8_1 _
  have FGg11 : (X4.heap.size ≤ g11) := by subst hX egg11; exact (BB).size
  have FNg5g11 : (g5 ≠ g11) := by subst hX egg11; exact ne16 Fx
  have FNg7g11 : (g7 ≠ g11) := by subst hX egg11; exact ne16 Fy
  have FNg9g11 : (g9 ≠ g11) := by subst hX egg11; exact ne16 Fa
  replace FW37 := (FW37.on bQ)
  replace Fx := (on9 Fx bQ)
  replace FW48 := (FW48.on bQ)
  replace Fy := (on9 Fy bQ)
  replace FW60 := (FW60.on bQ)
  replace Fa := (on9 Fa bQ)
  replace FW71 := (FW71.on bQ)
  replace BB := BB.trans (bQ.mono BB.size)
  clear bQ hX egg11 ee a
  refine rs_ 12 (fun a ee => ?_)
  refine stepS rfl rfl (execStWn rfl (ee _) (ee _) Fg11 (slc_one (ownE_shp FW71.row))) ⟨_, ⟨_, rfl, rfl⟩, fun X8 hX => ?_⟩
  obtain ⟨BB, FW37, Fx, FW48, Fy, FW60, Fa, FW71, Fb⟩ : Below X4.heap.size X4 X8 ∧ (NwE X4.heap.size X8 ev37 n37 nu37 tw37 ln37 tt37) ∧ (X8.heap[g5]? = some (.cells (wC o.1.1 ev37) 24)) ∧ (NwE X4.heap.size X8 ev48 n48 nu48 tw48 ln48 tt48) ∧ (X8.heap[g7]? = some (.cells (wC o.1.1 ev48) 24)) ∧ (NwE X4.heap.size X8 ev60 n60 nu60 tw60 ln60 tt60) ∧ (X8.heap[g9]? = some (.cells (wC p.1.1 ev60) 24)) ∧ (NwE X4.heap.size X8 ev71 n71 nu71 tw71 ln71 tt71) ∧ (X8.heap[g11]? = some (.cells (wC q.1.1 ev71) 24)) := by subst hX; exact ⟨below4 BB FGg11 _, (FW37).setW Fg11 (by decide) (by decide), (by rw [setRow_other _ _ _ _ FNg5g11]; exact Fx), (FW48).setW Fg11 (by decide) (by decide), (by rw [setRow_other _ _ _ _ FNg7g11]; exact Fy), (FW60).setW Fg11 (by decide) (by decide), (by rw [setRow_other _ _ _ _ FNg9g11]; exact Fa), (FW71).setW Fg11 (by decide) (by decide), setRow_heap _ _ _ _ _ _ Fg11⟩
  clear Fg11 hX ee a
  refine rf_ [(11, .pointer (some ⟨g11, 0, none⟩)), (12, .int .i64 ((q.2 : Nat) : Int))] (h7_ t1 t5 t6 t7 t8 t9 t10) ?_
  rintro a A ⟨t11, t12, -⟩ ⟨t1, t5, t6, t7, t8, t9, t10, -⟩
  refine wp_seq ?_
  refine wp_seq ?_
  refine wi_ A (h9_ t1 t5 t6 t7 t8 t9 t10 t11 t12) (rv_ 2 (.bool false) (fun a ee => execDec (execNeE (p := o.2) (q := o.2) rfl (ee _) (ee _)) (decide_eq_false (fun h_ => h_ rfl))) (rv_ 4 (.agg (wC o.1.1 ev37)) (fun a ee => execLdWn rfl (ee _) Fx) (rv_ 5 (.agg (wC o.1.1 ev48)) (fun a ee => execLdWn rfl (ee _) Fy) (rc_ 6 (same16w o.1.1 X8 FW37.eps FW48.eps (FQ37.trans FQ48.symm)) (cb_ fun X9 bQ => ?_)))))
  replace FW37 := (FW37.on bQ)
  replace Fx := (on9 Fx bQ)
  replace FW48 := (FW48.on bQ)
  replace Fy := (on9 Fy bQ)
  replace FW60 := (FW60.on bQ)
  replace Fa := (on9 Fa bQ)
  replace FW71 := (FW71.on bQ)
  replace Fb := (on9 Fb bQ)
  replace BB := BB.trans (bQ.mono BB.size)
  clear bQ
  refine rv_ 7 (.bool false) (fun a ee => execNot8 (b := true) rfl (ee _)) (rf_ [(82, .bool false)] (h5_ t5 t6 t10 t11 t12) ?_)
  rintro a A ⟨t82, -⟩ ⟨t5, t6, t10, t11, t12, -⟩
  refine wp_cond_false t82 ?_
  refine wp_skip ?_
  clear t82
  have BB2 := BW.trans (BB.mono BW.size)
  refine wp_seq ?_
  refine wp_seq ?_
  by_cases hp0 : p.2 ≠ 0
  · refine wi_ A (h5_ t5 t6 t10 t11 t12) (rv_ 1 (.bool true) (fun a ee => execDec (execNeE (p := p.2) (q := 0) rfl (ee _) rfl) (decide_eq_true (by exact hp0))) (rf_ [(84, .bool true)] (h2_ t6 t10) ?_))
    rintro a A ⟨t84, -⟩ ⟨t6, t10, -⟩
    refine wp_cond_true t84 ?_
    clear t84
    refine wp_seq ?_
    have hpo : o.2 = p.2 := by rw [← eo, ← ep_]; exact add_no (by rw [ep_]; exact hp0)
    refine wi_ A (h2_ t6 t10) (rv_ 2 (.bool true) (fun a ee => execDec (execEqE (p := o.2) (q := p.2) rfl (ee _) (ee _)) (decide_eq_true hpo)) (rg_ [(2, .bool true)] ?_))
    rintro a A ⟨t2, -⟩
    have BB3 := BW.trans (BB.mono BW.size)
    refine wp_ret ?_
    repeat (first | with_reducible refine ret_in ?_ | with_reducible refine ret_then ?_)
    refine bodyPost_ret (results_tmp rfl _ _ _) A.2 ⟨?_, BB3⟩
    show Ending.returned (a.eval (.tmp 2)) = _
    rw [t2]
  · refine wi_ A (h5_ t5 t6 t10 t11 t12) (rv_ 1 (.bool false) (fun a ee => execDec (execNeE (p := p.2) (q := 0) rfl (ee _) rfl) (decide_eq_false (by exact hp0))) (rf_ [(84, .bool false)] (h4_ t5 t6 t11 t12) ?_))
    rintro a A ⟨t84, -⟩ ⟨t5, t6, t11, t12, -⟩
    refine wp_cond_false t84 ?_
    refine wp_skip ?_
    clear t84
    have hqo1 : q = o := by
      rw [← eq_, ← ep_, ← eo]
      exact add_two (by rw [ep_]; exact Classical.not_not.1 hp0)
    have hqo : q.2 = o.2 := by rw [hqo1]
    rw [hqo1] at Fb FQ71
    refine wp_seq ?_
    refine wi_ A (h4_ t5 t6 t11 t12) (rv_ 2 (.bool true) (fun a ee => execDec (execEqE (p := q.2) (q := o.2) rfl (ee _) (ee _)) (decide_eq_true hqo)) (rv_ 4 (.agg (wC o.1.1 ev71)) (fun a ee => execLdWn rfl (ee _) Fb) (rv_ 5 (.agg (wC o.1.1 ev37)) (fun a ee => execLdWn rfl (ee _) Fx) (rc_ 6 (same16w o.1.1 X9 FW71.eps FW37.eps (FQ71.trans FQ37.symm)) (cb_ fun X13 bQ => ?_)))))
    replace FW37 := (FW37.on bQ)
    replace Fx := (on9 Fx bQ)
    replace FW48 := (FW48.on bQ)
    replace Fy := (on9 Fy bQ)
    replace FW60 := (FW60.on bQ)
    replace Fa := (on9 Fa bQ)
    replace FW71 := (FW71.on bQ)
    replace Fb := (on9 Fb bQ)
    replace BB := BB.trans (bQ.mono BB.size)
    clear bQ
    refine rg_ [(2, .bool true)] ?_
    rintro a A ⟨t2, -⟩
    have BB3 := BW.trans (BB.mono BW.size)
    refine wp_ret ?_
    refine bodyPost_ret (results_tmp rfl _ _ _) A.2 ⟨?_, BB3⟩
    show Ending.returned (a.eval (.tmp 2)) = _
    rw [t2]
end Go.Proofs.Ytijibdapooalcab.Win
