import Derived.Test.YtijibdapooalcabJ9f
namespace Go.Proofs.Ytijibdapooalcab.Win
open Go.RowKit Gf8 Aes By8 Cel Cf
/- slices.Clone of tags, the program's copyOf, Open. Written by tools/mkJ9g.py. -/

section
variable {o : Oper} {a : Act} {w : World}
theorem execNl6t {x : Operand} {n c : Nat} (ho : o.op = .binOp .eql 25 x (.const (.slice none 0 0)) 25) (hx : a.eval x = .slice none n c) : (execOp a.eval o).run Try.prog w = .ok (.value (.bool true)) w := by
  have en := Go.Lib.run_eql_slice_nil (P := Try.prog) w 25 36 none n c 0 0 Try.underlying25
  have ec : a.eval (.const (.slice none 0 0)) = .slice none 0 0 := rfl
  unfold execOp
  simp only [ho, hx, ec]
  simp [go_sem, en]
theorem execNl6f {x : Operand} {ad : Addr} {n c : Nat} (ho : o.op = .binOp .eql 25 x (.const (.slice none 0 0)) 25) (hx : a.eval x = .slice (some ad) n c) : (execOp a.eval o).run Try.prog w = .ok (.value (.bool false)) w := by
  have en := Go.Lib.run_eql_slice_nil (P := Try.prog) w 25 36 (some ad) n c 0 0 Try.underlying25
  have ec : a.eval (.const (.slice none 0 0)) = .slice none 0 0 := rfl
  unfold execOp
  simp only [ho, hx, ec]
  simp [go_sem, en]
theorem execBs06 (ho : o.op = .buildSlice 25 0 #[]) : (execOp a.eval o).run Try.prog w = .ok (.value (.slice (some ⟨w.heap.size, 0, none⟩) 0 0)) (w.alloc (.cells #[] 36)) := by
  unfold execOp
  simp only [ho]
  simp [go_sem]
theorem execBoxEp {x : Operand} {z : Int} {v : Value} (ho : o.op = .box 47 x) (hx : a.eval x = .agg (epC z v)) : (execOp a.eval o).run Try.prog w = .ok (.value (.pointer (some ⟨w.heap.size, 0, none⟩))) (w.alloc (.cells (epC z v) 47)) := by
  unfold execOp
  simp only [ho, hx]
  simp [go_sem]
end
theorem results_cell1 {P : Program} {fn : Func} {p : Tmp} {ty : TypeId} (h : fn.results = #[.cell p ty]) (tmps : Array Value) (w : World) (g : Nat) (t : TypeId) (cs : Array Value) (fr : Nat × Nat) (d : TypeDesc)
    (hp : tmps.getD p undef = .pointer (some ⟨g, 0, none⟩)) (hg : w.heap[g]? = some (.cells cs t fr))
    (hu : P.underlying ty = some d) (hd : (match d with | .struct _ | .array _ _ => true | _ => false) = true) (hi : (P.info? ty).map (·.size) = some cs.size) :
    (results fn tmps).run P w = .ok (.agg cs) w := by
  have hp' : tmps[p]?.getD undef = .pointer (some ⟨g, 0, none⟩) := by simpa using hp
  simp [results, h, hp', asAddr, run_loadVar_row w g t ty cs fr d hg hu hd hi]
theorem sizeEp (z : Int) (v : Value) : (Try.prog.info? 47).map (·.size) = some (epC z v).size := by kernel_rfl
theorem own_emp6 (W : World) : (W.alloc (.cells #[] 36)).ownsRow W.heap.size 36 16 (.slice (some ⟨W.heap.size, 0, none⟩) 0 0) 0 (tgV (fun _ _ => 0) 0) :=
  ⟨rfl, Or.inr ⟨W.heap.size, 0, #[], rfl, Nat.le_refl _, heapNew W _, Nat.le_refl _, Nat.zero_le _, rfl, rfl⟩⟩
set_option maxRecDepth 100000 in
set_option maxHeartbeats 4000000 in
/-- slices.Clone of tags. -/
theorem pclone16 (v : Value) (m : Nat) (t : Nat → Nat → Nat) (V : World) (hT : Tgs V v m t) (hm : m * 16 ≤ 140737488355328) :
    Calls Try.prog 34 #[v] V fun e w' => (∃ r, e = .returned r ∧ w'.ownsRow V.heap.size 36 16 r m (tgV t m)) ∧ Below V.heap.size V w' := by
  go_enter Try.func34, Try.ntmps34
  refine wo_ 8 [(0, v)] ?_
  rintro a A ⟨t0, -⟩
  have BB : Below V.heap.size V V := Below.refl _ _
  refine wp_seq ?_
  refine wi_ A (h1_ t0) (rf_ [] (h1_ t0) ?_)
  rintro a A - ⟨t0, -⟩
  refine wp_seq ?_
  refine wp_seq ?_
  obtain ⟨ad, c_, ev_, hmc, -, -⟩ := hT.shape
  have hnl := hT.nil
  rcases ad with _ | ad
  · have hc0 := hnl _ _ ev_
    refine wi_ A (h1_ t0) (rv_ 1 (.bool true) (fun a ee => execNl6t rfl ((ee _).trans ev_)) (rf_ [(4, .bool true)] (h1_ t0) ?_))
    rintro a A ⟨t4, -⟩ ⟨t0, -⟩
    refine wp_cond_true t4 ?_
    clear t4
    refine wp_seq ?_
    refine wi_ A (h1_ t0) (rg_ [(2, .slice none 0 0)] ?_)
    rintro a A ⟨t2, -⟩
    refine wp_ret ?_
    repeat (first | with_reducible refine ret_in ?_ | with_reducible refine ret_then ?_)
    refine bodyPost_ret (results_tmp rfl _ _ _) A.2 ⟨⟨_, rfl, ?_⟩, BB⟩
    rw [show a.tmps.getD 2 undef = _ from t2]
    obtain rfl : m = 0 := by omega
    exact own_none16 _ _ _
  · refine wi_ A (h1_ t0) (rv_ 1 (.bool false) (fun a ee => execNl6f rfl ((ee _).trans ev_)) (rf_ [(4, .bool false)] (h1_ t0) ?_))
    rintro a A ⟨t4, -⟩ ⟨t0, -⟩
    refine wp_cond_false t4 ?_
    refine wp_skip ?_
    clear t4
    refine wp_seq ?_
    obtain ⟨g5, egg5⟩ : ∃ z_ : Nat, V.heap.size = z_ := ⟨_, rfl⟩
    refine wi_ A (h1_ t0) (rs_ 0 (fun a ee => ?_))
    refine stepV rfl rfl (execBs06 rfl) ⟨.slice (some ⟨g5, 0, none⟩) 0 0, ⟨_, rfl, by subst egg5; rfl⟩, fun X3_1 hX => ?_⟩
    have bQ : Below V.heap.size V X3_1 := by subst hX egg5; exact (belNew V _)
    have FO : (X3_1.ownsRow V.heap.size 36 16 (.slice (some ⟨g5, 0, none⟩) 0 0) (0) (tgV (fun _ _ => 0) (0))) := by subst hX egg5; exact ownE_base (own_emp6 V) (BB).size
    replace BB := BB.trans (bQ.mono BB.size)
    clear bQ hX egg5 ee a
    refine rs_ 2 (fun a ee => ?_)
    refine stepAppT (n := 0) (m := m) (t := fun _ _ => 0) (p := t) rfl rfl rfl (ee _) (ee _) FO (hT.on BB) (by omega) (BB).size fun v7 X3 own' gr => ⟨_, ⟨_, rfl, rfl⟩, eqw ?_⟩
    obtain ⟨BB, FR⟩ : Below V.heap.size V X3 ∧ (X3.ownsRow V.heap.size 36 16 v7 (m) (tgV (t) (m))) := ⟨(BB).grown gr (BB).size (fun k hk => (FO.lt k hk).1), (by rw [Nat.zero_add, cat0] at own'; exact own')⟩
    clear FO ee a
    refine rg_ [(2, v7)] ?_
    rintro a A ⟨t2, -⟩
    refine wp_ret ?_
    refine bodyPost_ret (results_tmp rfl _ _ _) A.2 ⟨⟨_, rfl, ?_⟩, BB⟩
    rw [show a.tmps.getD 2 undef = _ from t2]
    exact FR
set_option maxRecDepth 100000 in
set_option maxHeartbeats 4000000 in
/-- The program's copyOf. -/
theorem pcopyOf (z : Int) (v : Value) (m : Nat) (t : Nat → Nat → Nat) (V : World) (hTg : Tgs V v m t) (hm : m * 16 ≤ 140737488355328) :
    Calls Try.prog 22 #[.agg (epC z v)] V fun e w' => (∃ r, e = .returned (.agg (epC z r)) ∧ w'.ownsRow V.heap.size 36 16 r m (tgV t m)) ∧ Below V.heap.size V w' := by
  go_enter Try.func22, Try.ntmps22
  refine wo_ 9 [(0, .agg (epC z v))] ?_
  rintro a A ⟨t0, -⟩
  have BB : Below V.heap.size V V := Below.refl _ _
  refine wp_seq ?_
  obtain ⟨g1, egg1⟩ : ∃ z_ : Nat, V.heap.size = z_ := ⟨_, rfl⟩
  refine wi_ A (h1_ t0) (rs_ 0 (fun a ee => ?_))
  refine stepV rfl rfl (execBoxEp rfl (ee _)) ⟨.pointer (some ⟨g1, 0, none⟩), ⟨_, rfl, by subst egg1; rfl⟩, fun X0_1 hX => ?_⟩
  have bQ : Below V.heap.size V X0_1 := by subst hX egg1; exact (belNew V _)
  have Fb : (X0_1.heap[g1]? = some (.cells (epC z v) 47)) := by subst hX egg1; exact heapNew V _
  replace BB := BB.trans (bQ.mono BB.size)
  clear bQ hX egg1 ee a
  obtain ⟨g2, egg2⟩ : ∃ z_ : Nat, X0_1.heap.size = z_ := ⟨_, rfl⟩
  refine rs_ 1 (fun a ee => ?_)
  refine stepV rfl rfl (execAllEp rfl) ⟨.pointer (some ⟨g2, 0, none⟩), ⟨_, rfl, by subst egg2; rfl⟩, fun X0 hX => ?_⟩
  have bQ : Below X0_1.heap.size X0_1 X0 := by subst hX egg2; exact (belNew X0_1 _)
  have Fz : (X0.heap[g2]? = some (.cells (epC 0 (.slice none 0 0)) 47)) := by subst hX egg2; exact heapNew X0_1 _
  have FGz : (V.heap.size ≤ g2) := by subst hX egg2; exact (BB).size
  replace Fb := (on9 Fb bQ)
  replace BB := BB.trans (bQ.mono BB.size)
  clear bQ hX egg2 ee a
  refine rg_ [(1, .pointer (some ⟨g1, 0, none⟩)), (2, .pointer (some ⟨g2, 0, none⟩))] ?_
  rintro a A ⟨t1, t2, -⟩
  refine wp_seq ?_
  refine wp_region_stB (σ := Value) 9 [(0, 3), (1, 4), (2, 5), (3, 6), (4, 7), (5, 8)] (fun l_ s X => Below V.heap.size V X ∧ (l_ 6 = false → (X.heap[g1]? = some (.cells (epC z v) 47))) ∧ (l_ 6 = false → (X.heap[g2]? = some (.cells (epC 0 (.slice none 0 0)) 47))) ∧ ((V.heap.size ≤ g2)) ∧ (l_ 4 = true → (X.ownsRow V.heap.size 36 16 s (m) (tgV (t) (m)))) ∧ (l_ 6 = true → (X.heap[g2]? = some (.cells (epC z s) 47)))) (fun s => fun i_ => match i_ with | 0 => .pointer (some ⟨g1, 0 + 0, none⟩) | 1 => .int .i64 z | 2 => .pointer (some ⟨g1, 0 + 1, none⟩) | 3 => v | 4 => s | 5 => .agg (epC z (s)) | 6 => undef | _ => undef) undef (by kernel_rfl) (by kernel_rfl) A.1 (by kernel_rfl) (by decide) (by decide) ⟨(BB.drew), (fun _ => (on9 Fb (Below.refl _ _).drew)), (fun _ => (on9 Fz (Below.refl _ _).drew)), (FGz), (fun q0_ => by cases q0_), (fun q0_ => by cases q0_)⟩ ?_ ?_
  · intro i_ hi_ l_ s a X hl_ hf hdep hl2 hcl hno hT
    have up : ∀ j x, x ≠ j → updB l_ j x = l_ x := fun j x hj => by unfold updB; simp [hj]
    match i_, hi_ with
    | 0, _ => exact stepV rfl rfl (execFldE0 rfl ((hf 1 (by decide)).trans t1)) ⟨s, ⟨_, rfl, rfl⟩, ⟨hT.1, (fun q0_ => (hT.2.1 (by rw [up 0 6 (by decide)] at q0_; exact q0_))), (fun q0_ => (hT.2.2.1 (by rw [up 0 6 (by decide)] at q0_; exact q0_))), (hT.2.2.2.1), (fun q0_ => (hT.2.2.2.2.1 (by rw [up 0 4 (by decide)] at q0_; exact q0_))), (fun q0_ => absurd (hl_.symm.trans (hcl 6 _ rfl ((up 0 6 (by decide)).symm.trans q0_) 0 rfl)) (by decide))⟩, fun _ _ _ => rfl⟩
    | 1, _ => exact stepV rfl rfl (execLd2 rfl (hdep _ rfl 0 rfl _ rfl _ rfl) (epC_0 (hT.2.1 (by cases hq_ : l_ 6 with | false => rfl | true => exact absurd (hl_.symm.trans (hcl 6 _ rfl hq_ 1 rfl)) (by decide))))) ⟨s, ⟨_, rfl, rfl⟩, ⟨hT.1, (fun q0_ => (hT.2.1 (by rw [up 1 6 (by decide)] at q0_; exact q0_))), (fun q0_ => (hT.2.2.1 (by rw [up 1 6 (by decide)] at q0_; exact q0_))), (hT.2.2.2.1), (fun q0_ => (hT.2.2.2.2.1 (by rw [up 1 4 (by decide)] at q0_; exact q0_))), (fun q0_ => absurd (hl_.symm.trans (hcl 6 _ rfl ((up 1 6 (by decide)).symm.trans q0_) 1 rfl)) (by decide))⟩, fun _ _ _ => rfl⟩
    | 2, _ => exact stepV rfl rfl (execFldE1 rfl ((hf 1 (by decide)).trans t1)) ⟨s, ⟨_, rfl, rfl⟩, ⟨hT.1, (fun q0_ => (hT.2.1 (by rw [up 2 6 (by decide)] at q0_; exact q0_))), (fun q0_ => (hT.2.2.1 (by rw [up 2 6 (by decide)] at q0_; exact q0_))), (hT.2.2.2.1), (fun q0_ => absurd (hl_.symm.trans (hcl 3 _ rfl (hcl 4 _ rfl ((up 2 4 (by decide)).symm.trans q0_) 3 rfl) 2 rfl)) (by decide)), (fun q0_ => absurd (hl_.symm.trans (hcl 6 _ rfl ((up 2 6 (by decide)).symm.trans q0_) 2 rfl)) (by decide))⟩, fun _ _ _ => rfl⟩
    | 3, _ => exact stepV rfl rfl (execLdTs rfl (hdep _ rfl 2 rfl _ rfl _ rfl) (epC_1 (hT.2.1 (by cases hq_ : l_ 6 with | false => rfl | true => exact absurd (hl_.symm.trans (hcl 6 _ rfl hq_ 3 rfl)) (by decide))))) ⟨s, ⟨_, rfl, rfl⟩, ⟨hT.1, (fun q0_ => (hT.2.1 (by rw [up 3 6 (by decide)] at q0_; exact q0_))), (fun q0_ => (hT.2.2.1 (by rw [up 3 6 (by decide)] at q0_; exact q0_))), (hT.2.2.2.1), (fun q0_ => absurd (hl_.symm.trans (hcl 4 _ rfl ((up 3 4 (by decide)).symm.trans q0_) 3 rfl)) (by decide)), (fun q0_ => absurd (hl_.symm.trans (hcl 6 _ rfl ((up 3 6 (by decide)).symm.trans q0_) 3 rfl)) (by decide))⟩, fun _ _ _ => rfl⟩
    | 4, _ =>
      refine stepC rfl rfl (execCall1 Try.func34 (by kernel_rfl) (by kernel_rfl) rfl (hdep _ rfl 3 rfl _ rfl _ rfl)) (pclone16 v m t X (hTg.on hT.1) hm) fun e w' hh => ?_
      obtain ⟨⟨r_, he, hk⟩, hb⟩ := hh
      refine ⟨_, he, r_, ⟨_, rfl, rfl⟩, ⟨hT.1.trans ((hb).mono hT.1.size), (fun q0_ => (on9 (hT.2.1 (by rw [up 4 6 (by decide)] at q0_; exact q0_)) hb)), (fun q0_ => (on9 (hT.2.2.1 (by rw [up 4 6 (by decide)] at q0_; exact q0_)) hb)), (hT.2.2.2.1), (fun _q0_ => ownE_base hk (hT.1).size), (fun q0_ => absurd (hl_.symm.trans (hcl 6 _ rfl ((up 4 6 (by decide)).symm.trans q0_) 4 rfl)) (by decide))⟩, fun i hi hli => ?_⟩
      match i, hi with
      | 0, _ => rfl
      | 1, _ => rfl
      | 2, _ => rfl
      | 3, _ => rfl
      | 4, _ => exact absurd (hl_.symm.trans hli) (by decide)
      | 5, _ => exact absurd (hl_.symm.trans (hcl 5 _ rfl hli 4 rfl)) (by decide)
      | 6, _ => rfl
      | k_ + 7, h_ => exact absurd h_ (by simp)
    | 5, _ => exact stepV rfl rfl (execBdEp rfl (hdep _ rfl 1 rfl _ rfl _ rfl) (hdep _ rfl 4 rfl _ rfl _ rfl) (ownE_shp (hT.2.2.2.2.1 (hl2 _ rfl 4 rfl)))) ⟨s, ⟨_, rfl, rfl⟩, ⟨hT.1, (fun q0_ => (hT.2.1 (by rw [up 5 6 (by decide)] at q0_; exact q0_))), (fun q0_ => (hT.2.2.1 (by rw [up 5 6 (by decide)] at q0_; exact q0_))), (hT.2.2.2.1), (fun q0_ => (hT.2.2.2.2.1 (by rw [up 5 4 (by decide)] at q0_; exact q0_))), (fun q0_ => absurd (hl_.symm.trans (hcl 6 _ rfl ((up 5 6 (by decide)).symm.trans q0_) 5 rfl)) (by decide))⟩, fun _ _ _ => rfl⟩
    | 6, _ =>
      refine stepS rfl rfl (execStEp rfl ((hf 2 (by decide)).trans t2) (hdep _ rfl 5 rfl _ rfl _ rfl) (hT.2.2.1 hl_) (slc_one (ownE_shp (hT.2.2.2.2.1 (hl2 _ rfl 4 rfl))))) ⟨s, ⟨_, rfl, rfl⟩, ⟨below4 hT.1 FGz _, (fun q0_ => absurd q0_ (by unfold updB; simp)), (fun q0_ => absurd q0_ (by unfold updB; simp)), (hT.2.2.2.1), (fun q0_ => ownE_setT (hT.2.2.2.2.1 (by rw [up 6 4 (by decide)] at q0_; exact q0_)) (hT.2.2.1 hl_) (by decide)), (fun _q0_ => setRow_heap _ _ _ _ _ _ (hT.2.2.1 hl_))⟩, fun i hi hli => ?_⟩
      match i, hi with
      | 0, _ => rfl
      | 1, _ => rfl
      | 2, _ => rfl
      | 3, _ => rfl
      | 4, _ => rfl
      | 5, _ => rfl
      | 6, _ => exact absurd (hl_.symm.trans hli) (by decide)
      | k_ + 7, h_ => exact absurd h_ (by simp)
    | k_ + 7, h_ => exact absurd h_ (by simp)
  rintro l_ v7 a X1 h1 h2 h3 h4 hall hT
  clear BB
  clear Fb
  clear Fz
  clear FGz
  obtain ⟨BB, Fb, Fz, FGz, FR, Fs⟩ := hT
  clear Fb
  clear Fz
  replace FGz : (V.heap.size ≤ g2) := FGz
  replace FR : (X1.ownsRow V.heap.size 36 16 v7 (m) (tgV (t) (m))) := FR (hall 4 (by decide))
  replace Fs : (X1.heap[g2]? = some (.cells (epC z v7) 47)) := Fs (hall 6 (by decide))
  clear hall
  replace t2 := (h3 2 (by decide)).trans t2
  replace A := (⟨h1, h2.trans A.2⟩ : a.tmps.size = 9 ∧ a.defers = [])
  clear h1 h2 h3 h4
  clear t1
  refine wp_ret ?_
  refine bodyPost_ret (results_cell1 Try.results22 _ _ g2 47 _ (0, 0) _ t2 Fs Try.underlying47 rfl (sizeEp _ _)) A.2 ⟨⟨v7, rfl, FR⟩, BB⟩
end Go.Proofs.Ytijibdapooalcab.Win
