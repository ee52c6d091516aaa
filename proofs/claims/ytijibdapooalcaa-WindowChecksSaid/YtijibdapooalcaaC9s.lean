import Derived.Test.YtijibdapooalcaaC9r
namespace Go.Proofs.Ytijibdapooalcaa.Win
open Go.RowKit Gf8 Aes By8 Cel Cf
/- WindowNames, WindowOpens, WindowAdds, WindowChecks over what the package keeps. Written by tools/mkC9s.py. -/

theorem Eps.cg {W : World} {v : Value} {n : Nat} {nu mu : Nat → Int} {tw : Nat → Value} {ln lm : Nat → Nat} {t : Nat → Nat → Nat → Nat} (h : Eps W v n nu tw ln t) (h1 : ∀ j, j < n → nu j = mu j) (h2 : ∀ j, j < n → ln j = lm j) : Eps W v n mu tw lm t := by
  obtain ⟨⟨a, c, e, q1, q2, q3⟩, hl, hn⟩ := h
  refine ⟨⟨a, c, e, q1, q2, fun h0 => ?_⟩, fun j hj => by rw [← h2 j hj]; exact hl j hj, fun j hj => by rw [← h1 j hj]; exact hn j hj⟩
  obtain ⟨b, o, e1, e2, e3⟩ := q3 h0
  exact ⟨b, o, e1, e2, fun j hj => by rw [← h1 j hj]; exact e3 j hj⟩
def lkC (nw : Int) (ev : Value) (sp rm : Int) (u : Value) : Array Value := #[.int .i64 nw, ev, .int .i64 sp, .int .i64 rm, u]
section
variable {o : Oper} {a : Act} {w : World}
theorem execLdWm {x : Operand} {b off : Nat} {nw : Int} {v : Value} (ho : o.op = .load 25 x) (hx : a.eval x = .pointer (some ⟨b, off, none⟩)) (h0 : w.cell? ⟨b, off + 0, none⟩ = some (.int .i64 nw)) (h1 : w.cell? ⟨b, off + 1, none⟩ = some v) : (execOp a.eval o).run Try.prog w = .ok (.value (.agg (wC nw v))) w := by
  have hr := run_loadAt_mid (P := Try.prog) w b off 25 [.int .i64 nw, v] _ (fun j z hz => by
    match j, hz with
    | 0, hz => rw [← hz]; exact h0
    | 1, hz => rw [← hz]; exact h1) Try.underlying25 rfl (by kernel_rfl)
  unfold execOp
  simp only [ho, hx, Sem.run_bind, hr, Result.andThen_ok, Sem.run_pure]
  rfl
theorem execLd3 {x : Operand} {b k : Nat} {v : Value} (ho : o.op = .load 3 x) (hx : a.eval x = .pointer (some ⟨b, k, none⟩)) (hc : w.cell? ⟨b, k, none⟩ = some v) : (execOp a.eval o).run Try.prog w = .ok (.value v) w := by
  unfold execOp
  simp only [ho, hx]
  simp [go_sem, hc]
theorem execNeBo {x y : Operand} {b : Bool} (ho : o.op = .binOp .neq 4 x y 4) (hx : a.eval x = .bool b) (hy : a.eval y = .bool b) : (execOp a.eval o).run Try.prog w = .ok (.value (.bool false)) w := by
  unfold execOp
  simp only [ho, hx, hy]
  cases b <;> simp [go_sem]
theorem execBoxK {x : Operand} {nw : Int} {ev : Value} {sp rm : Int} {u : Value} (hev : ∃ g n c, ev = .slice g n c) (hu : ∃ g n c, u = .slice g n c) (ho : o.op = .box 28 x) (hx : a.eval x = .agg (lkC nw ev sp rm u)) : (execOp a.eval o).run Try.prog w = .ok (.value (.pointer (some ⟨w.heap.size, 0, none⟩))) (w.alloc (.cells (lkC nw ev sp rm u) 28)) := by
  obtain ⟨g, n, c, rfl⟩ := hev
  obtain ⟨g2, n2, c2, rfl⟩ := hu
  unfold execOp
  simp only [ho, hx]
  simp [go_sem, lkC]
theorem execFldK0 {x : Operand} {b : Nat} (ho : o.op = .fieldAddr 28 x 0) (hx : a.eval x = .pointer (some ⟨b, 0, none⟩)) : (execOp a.eval o).run Try.prog w = .ok (.value (.pointer (some ⟨b, 0, none⟩))) w := by
  unfold execOp
  simp only [ho, hx]
  simp [go_sem]
theorem execFldK1 {x : Operand} {b : Nat} (ho : o.op = .fieldAddr 28 x 1) (hx : a.eval x = .pointer (some ⟨b, 0, none⟩)) : (execOp a.eval o).run Try.prog w = .ok (.value (.pointer (some ⟨b, 2, none⟩))) w := by
  unfold execOp
  simp only [ho, hx]
  simp [go_sem]
theorem execFldK2 {x : Operand} {b : Nat} (ho : o.op = .fieldAddr 28 x 2) (hx : a.eval x = .pointer (some ⟨b, 0, none⟩)) : (execOp a.eval o).run Try.prog w = .ok (.value (.pointer (some ⟨b, 3, none⟩))) w := by
  unfold execOp
  simp only [ho, hx]
  simp [go_sem]
theorem execFldK3 {x : Operand} {b : Nat} (ho : o.op = .fieldAddr 28 x 3) (hx : a.eval x = .pointer (some ⟨b, 0, none⟩)) : (execOp a.eval o).run Try.prog w = .ok (.value (.pointer (some ⟨b, 4, none⟩))) w := by
  unfold execOp
  simp only [ho, hx]
  simp [go_sem]
end
theorem row_at {W : World} {g k : Nat} {c : Array Value} {t : TypeId} {z : Value} (h : W.heap[g]? = some (.cells c t)) (hz : c[k]? = some z) : W.cell? ⟨g, k, none⟩ = some z := by rw [cell_of_row _ _ _ _ _ _ h]; exact hz
set_option maxRecDepth 100000 in
set_option maxHeartbeats 4000000 in
/-- WindowChecks. -/
theorem checks16 (I : Impl) (nw : Int) (ev : Value) (n : Nat) (nu : Nat → Int) (tw : Nat → Value) (ln : Nat → Nat) (t : Nat → Nat → Nat → Nat) (sp rm : Int) (tgv : Value) (m : Nat) (tg : Nat → Nat → Nat) (V : World) (hW : Wd V nw ev n nu tw ln t) (hsp : I64 sp) (hrm : I64 rm) (hT : Tgs V tgv m tg) (hm : m * 16 ≤ 140737488351232) :
    Calls Try.prog 4 #[.agg (lkC nw ev sp rm tgv)] V fun e w' => e = .returned (.bool true) ∧ Below V.heap.size V w' := by
  go_enter Try.func4, Try.ntmps4
  have hSe : ∃ g n c, ev = .slice g n c := by obtain ⟨_, _, e_⟩ := hW.eps.shp; exact ⟨_, _, _, e_⟩
  have hSt : ∃ g n c, tgv = .slice g n c := by obtain ⟨_, _, e_⟩ := hT.shp; exact ⟨_, _, _, e_⟩
  refine wo_ 53 [(0, .agg (lkC nw ev sp rm tgv))] ?_
  rintro a A ⟨t0, -⟩
  have BW : Below V.heap.size V V := Below.refl _ _
  have BB := BW
  refine wp_seq ?_
  obtain ⟨g1, egg1⟩ : ∃ z_ : Nat, V.heap.size = z_ := ⟨_, rfl⟩
  refine wi_ A (h1_ t0) (rs_ 0 (fun a ee => ?_))
  refine stepV rfl rfl (execBoxK hSe hSt rfl (ee _)) ⟨.pointer (some ⟨g1, 0, none⟩), ⟨_, rfl, by subst egg1; rfl⟩, fun X0 hX => ?_⟩
  have bQ : Below V.heap.size V X0 := by subst hX egg1; exact (belNew V _)
  have Fg1 : (X0.heap[g1]? = some (.cells (lkC nw ev sp rm tgv) 28)) := by subst hX egg1; exact heapNew V _
  replace BB := BB.trans (bQ.mono BB.size)
  clear bQ hX egg1 ee a
  refine rg_ [(1, .pointer (some ⟨g1, 0, none⟩))] ?_
  rintro a A ⟨t1, -⟩
  refine wp_seq ?_
  refine wp_seq ?_
  refine wi_ A (h1_ t1) (rc_ 0 (alive16 I X0) (cb_ fun X1 bQ => ?_))
  replace Fg1 := (on9 Fg1 bQ)
  replace BB := BB.trans (bQ.mono BB.size)
  clear bQ
  refine rv_ 1 (.bool false) (fun a ee => execNot8 (b := true) rfl (ee _)) (rf_ [(9, .bool false)] (h1_ t1) ?_)
  rintro a A ⟨t9, -⟩ ⟨t1, -⟩
  refine wp_cond_false t9 ?_
  refine wp_skip ?_
  clear t9
  refine wp_seq ?_
  refine wp_region_stB (σ := Nat) 53 [(0, 10), (1, 11), (2, 12), (3, 13), (4, 14), (5, 15), (6, 16), (7, 17), (8, 3), (10, 4), (11, 5), (12, 6)] (fun l_ s X => Below V.heap.size V X ∧ ((X.heap[g1]? = some (.cells (lkC nw ev sp rm tgv) 28))) ∧ (l_ 8 = true → l_ 9 = false → (X.heap[s]? = some (.cells (wC 0 (.slice none 0 0)) 25))) ∧ (l_ 8 = true → (V.heap.size ≤ s)) ∧ (l_ 9 = true → (X.heap[s]? = some (.cells (wC nw ev) 25)))) (fun s => fun i_ => match i_ with | 0 => .pointer (some ⟨g1, 0, none⟩) | 1 => .agg (wC nw ev) | 2 => .pointer (some ⟨g1, 2, none⟩) | 3 => .int .i64 sp | 4 => .pointer (some ⟨g1, 3, none⟩) | 5 => .int .i64 rm | 6 => .pointer (some ⟨g1, 4, none⟩) | 7 => tgv | 8 => .pointer (some ⟨s, 0, none⟩) | 9 => undef | 10 => .int .i64 sp | 11 => .int .i64 rm | 12 => tgv | _ => undef) 0 (by kernel_rfl) (by kernel_rfl) A.1 (by kernel_rfl) (by decide) (by decide) ⟨(BB.drew), ((on9 Fg1 (Below.refl _ _).drew)), (fun q0_ q1_ => by cases q0_), (fun q0_ => by cases q0_), (fun q0_ => by cases q0_)⟩ ?_ ?_
  · intro i_ hi_ l_ s a X hl_ hf hdep hl2 hcl hno hT
    have up : ∀ j x, x ≠ j → updB l_ j x = l_ x := fun j x hj => by unfold updB; simp [hj]
    match i_, hi_ with
    | 0, _ => exact stepV rfl rfl (execFldK0 rfl ((hf 1 (by decide)).trans t1)) ⟨s, ⟨_, rfl, rfl⟩, ⟨hT.1, (hT.2.1), (fun q0_ q1_ => (hT.2.2.1 (by rw [up 0 8 (by decide)] at q0_; exact q0_) (by rw [up 0 9 (by decide)] at q1_; exact q1_))), (fun q0_ => (hT.2.2.2.1 (by rw [up 0 8 (by decide)] at q0_; exact q0_))), (fun q0_ => absurd (hl_.symm.trans (hcl 9 _ rfl ((up 0 9 (by decide)).symm.trans q0_) 0 rfl)) (by decide))⟩, fun _ _ _ => rfl⟩
    | 1, _ => exact stepV rfl rfl (execLdWm rfl (hdep _ rfl 0 rfl _ rfl _ rfl) (row_at hT.2.1 rfl) (row_at hT.2.1 rfl)) ⟨s, ⟨_, rfl, rfl⟩, ⟨hT.1, (hT.2.1), (fun q0_ q1_ => (hT.2.2.1 (by rw [up 1 8 (by decide)] at q0_; exact q0_) (by rw [up 1 9 (by decide)] at q1_; exact q1_))), (fun q0_ => (hT.2.2.2.1 (by rw [up 1 8 (by decide)] at q0_; exact q0_))), (fun q0_ => absurd (hl_.symm.trans (hcl 9 _ rfl ((up 1 9 (by decide)).symm.trans q0_) 1 rfl)) (by decide))⟩, fun _ _ _ => rfl⟩
    | 2, _ => exact stepV rfl rfl (execFldK1 rfl ((hf 1 (by decide)).trans t1)) ⟨s, ⟨_, rfl, rfl⟩, ⟨hT.1, (hT.2.1), (fun q0_ q1_ => (hT.2.2.1 (by rw [up 2 8 (by decide)] at q0_; exact q0_) (by rw [up 2 9 (by decide)] at q1_; exact q1_))), (fun q0_ => (hT.2.2.2.1 (by rw [up 2 8 (by decide)] at q0_; exact q0_))), (fun q0_ => (hT.2.2.2.2 (by rw [up 2 9 (by decide)] at q0_; exact q0_)))⟩, fun _ _ _ => rfl⟩
    | 3, _ => exact stepV rfl rfl (execLd3 rfl (hdep _ rfl 2 rfl _ rfl _ rfl) (row_at hT.2.1 rfl)) ⟨s, ⟨_, rfl, rfl⟩, ⟨hT.1, (hT.2.1), (fun q0_ q1_ => (hT.2.2.1 (by rw [up 3 8 (by decide)] at q0_; exact q0_) (by rw [up 3 9 (by decide)] at q1_; exact q1_))), (fun q0_ => (hT.2.2.2.1 (by rw [up 3 8 (by decide)] at q0_; exact q0_))), (fun q0_ => (hT.2.2.2.2 (by rw [up 3 9 (by decide)] at q0_; exact q0_)))⟩, fun _ _ _ => rfl⟩
    | 4, _ => exact stepV rfl rfl (execFldK2 rfl ((hf 1 (by decide)).trans t1)) ⟨s, ⟨_, rfl, rfl⟩, ⟨hT.1, (hT.2.1), (fun q0_ q1_ => (hT.2.2.1 (by rw [up 4 8 (by decide)] at q0_; exact q0_) (by rw [up 4 9 (by decide)] at q1_; exact q1_))), (fun q0_ => (hT.2.2.2.1 (by rw [up 4 8 (by decide)] at q0_; exact q0_))), (fun q0_ => (hT.2.2.2.2 (by rw [up 4 9 (by decide)] at q0_; exact q0_)))⟩, fun _ _ _ => rfl⟩
    | 5, _ => exact stepV rfl rfl (execLd3 rfl (hdep _ rfl 4 rfl _ rfl _ rfl) (row_at hT.2.1 rfl)) ⟨s, ⟨_, rfl, rfl⟩, ⟨hT.1, (hT.2.1), (fun q0_ q1_ => (hT.2.2.1 (by rw [up 5 8 (by decide)] at q0_; exact q0_) (by rw [up 5 9 (by decide)] at q1_; exact q1_))), (fun q0_ => (hT.2.2.2.1 (by rw [up 5 8 (by decide)] at q0_; exact q0_))), (fun q0_ => (hT.2.2.2.2 (by rw [up 5 9 (by decide)] at q0_; exact q0_)))⟩, fun _ _ _ => rfl⟩
    | 6, _ => exact stepV rfl rfl (execFldK3 rfl ((hf 1 (by decide)).trans t1)) ⟨s, ⟨_, rfl, rfl⟩, ⟨hT.1, (hT.2.1), (fun q0_ q1_ => (hT.2.2.1 (by rw [up 6 8 (by decide)] at q0_; exact q0_) (by rw [up 6 9 (by decide)] at q1_; exact q1_))), (fun q0_ => (hT.2.2.2.1 (by rw [up 6 8 (by decide)] at q0_; exact q0_))), (fun q0_ => (hT.2.2.2.2 (by rw [up 6 9 (by decide)] at q0_; exact q0_)))⟩, fun _ _ _ => rfl⟩
    | 7, _ => exact stepV rfl rfl (execLdTs rfl (hdep _ rfl 6 rfl _ rfl _ rfl) (row_at hT.2.1 rfl)) ⟨s, ⟨_, rfl, rfl⟩, ⟨hT.1, (hT.2.1), (fun q0_ q1_ => (hT.2.2.1 (by rw [up 7 8 (by decide)] at q0_; exact q0_) (by rw [up 7 9 (by decide)] at q1_; exact q1_))), (fun q0_ => (hT.2.2.2.1 (by rw [up 7 8 (by decide)] at q0_; exact q0_))), (fun q0_ => (hT.2.2.2.2 (by rw [up 7 9 (by decide)] at q0_; exact q0_)))⟩, fun _ _ _ => rfl⟩
    | 8, _ =>
      refine stepV rfl rfl (execAllW rfl) ⟨X.heap.size, ⟨_, rfl, rfl⟩, ⟨hT.1.trans (((belNew X _)).mono hT.1.size), ((on9 hT.2.1 (belNew X _))), (fun _q0_ _q1_ => heapNew X _), (fun _q0_ => (hT.1).size), (fun q0_ => absurd (hl_.symm.trans (hcl 9 _ rfl ((up 8 9 (by decide)).symm.trans q0_) 8 rfl)) (by decide))⟩, fun i hi hli => ?_⟩
      match i, hi with
      | 0, _ => rfl
      | 1, _ => rfl
      | 2, _ => rfl
      | 3, _ => rfl
      | 4, _ => rfl
      | 5, _ => rfl
      | 6, _ => rfl
      | 7, _ => rfl
      | 8, _ => exact absurd (hl_.symm.trans hli) (by decide)
      | 9, _ => rfl
      | 10, _ => rfl
      | 11, _ => rfl
      | 12, _ => rfl
      | k_ + 13, h_ => exact absurd h_ (by simp)
    | 9, _ =>
      refine stepS rfl rfl (execStWn rfl (hdep _ rfl 8 rfl _ rfl _ rfl) (hdep _ rfl 1 rfl _ rfl _ rfl) (hT.2.2.1 (hl2 _ rfl 8 rfl) hl_) (slc_one hSe)) ⟨s, ⟨_, rfl, rfl⟩, ⟨below4 hT.1 (hT.2.2.2.1 (hl2 _ rfl 8 rfl)) _, ((by rw [setRow_other _ _ _ _ (ne_type (hT.2.2.1 (hl2 _ rfl 8 rfl) hl_) hT.2.1 (by decide))]; exact hT.2.1)), (fun q0_ q1_ => absurd q1_ (by unfold updB; simp)), (fun q0_ => (hT.2.2.2.1 (by rw [up 9 8 (by decide)] at q0_; exact q0_))), (fun _q0_ => setRow_heap _ _ _ _ _ _ (hT.2.2.1 (hl2 _ rfl 8 rfl) hl_))⟩, fun i hi hli => ?_⟩
      match i, hi with
      | 0, _ => rfl
      | 1, _ => rfl
      | 2, _ => rfl
      | 3, _ => rfl
      | 4, _ => rfl
      | 5, _ => rfl
      | 6, _ => rfl
      | 7, _ => rfl
      | 8, _ => rfl
      | 9, _ => exact absurd (hl_.symm.trans hli) (by decide)
      | 10, _ => rfl
      | 11, _ => rfl
      | 12, _ => rfl
      | k_ + 13, h_ => exact absurd h_ (by simp)
    | 10, _ => exact stepV rfl rfl (Cf.execAsgB rfl (hdep _ rfl 3 rfl _ rfl _ rfl)) ⟨s, ⟨_, rfl, rfl⟩, ⟨hT.1, (hT.2.1), (fun q0_ q1_ => absurd (q1_.symm.trans ((up 10 9 (by decide)).trans (hl2 _ rfl 9 rfl))) (by decide)), (fun q0_ => (hT.2.2.2.1 (by rw [up 10 8 (by decide)] at q0_; exact q0_))), (fun q0_ => (hT.2.2.2.2 (by rw [up 10 9 (by decide)] at q0_; exact q0_)))⟩, fun _ _ _ => rfl⟩
    | 11, _ => exact stepV rfl rfl (Cf.execAsgB rfl (hdep _ rfl 5 rfl _ rfl _ rfl)) ⟨s, ⟨_, rfl, rfl⟩, ⟨hT.1, (hT.2.1), (fun q0_ q1_ => absurd (q1_.symm.trans ((up 11 9 (by decide)).trans (hl2 _ rfl 9 rfl))) (by decide)), (fun q0_ => (hT.2.2.2.1 (by rw [up 11 8 (by decide)] at q0_; exact q0_))), (fun q0_ => (hT.2.2.2.2 (by rw [up 11 9 (by decide)] at q0_; exact q0_)))⟩, fun _ _ _ => rfl⟩
    | 12, _ => exact stepV rfl rfl (Cf.execAsgB rfl (hdep _ rfl 7 rfl _ rfl _ rfl)) ⟨s, ⟨_, rfl, rfl⟩, ⟨hT.1, (hT.2.1), (fun q0_ q1_ => absurd (q1_.symm.trans ((up 12 9 (by decide)).trans (hl2 _ rfl 9 rfl))) (by decide)), (fun q0_ => (hT.2.2.2.1 (by rw [up 12 8 (by decide)] at q0_; exact q0_))), (fun q0_ => (hT.2.2.2.2 (by rw [up 12 9 (by decide)] at q0_; exact q0_)))⟩, fun _ _ _ => rfl⟩
    | k_ + 13, h_ => exact absurd h_ (by simp)
  rintro l_ g3 a X3 h1 h2 h3 h4 hall hT
  clear BB
  clear Fg1
  obtain ⟨BB, Fg1, Fg3, FGg3, Fg3s⟩ := hT
  replace Fg1 : (X3.heap[g1]? = some (.cells (lkC nw ev sp rm tgv) 28)) := Fg1
  clear Fg3
  replace FGg3 : (V.heap.size ≤ g3) := FGg3 (hall 8 (by decide))
  replace Fg3s : (X3.heap[g3]? = some (.cells (wC nw ev) 25)) := Fg3s (hall 9 (by decide))
  clear hall
  have t3 : a.eval (.tmp 3) = .pointer (some ⟨g3, 0, none⟩) := h4 (8, 3) (by decide)
  have t4 : a.eval (.tmp 4) = .int .i64 sp := h4 (10, 4) (by decide)
  have t5 : a.eval (.tmp 5) = .int .i64 rm := h4 (11, 5) (by decide)
  have t6 : a.eval (.tmp 6) = tgv := h4 (12, 6) (by decide)
  replace A := (⟨h1, h2.trans A.2⟩ : a.tmps.size = 53 ∧ a.defers = [])
  clear h1 h2 h3 h4
  clear t1
  clear Fg1 FGg3
  replace hW := (hW.on BB)
  replace hT := (hT.on BB)
  replace BW := BW.trans (BB.mono BW.size)
  clear BB
  have BB : Below X3.heap.size X3 X3 := Below.refl _ _
  refine wp_seq ?_
  refine wp_seq ?_
  refine wj_ [0, 1, 2, 4, 5, 6, 3, 7, 8, 9, 10, 12, 11, 13, 14, 15] [3, 7, 11, 13] [0, 4, 10, 12] [] A (h4_ t3 t4 t5 t6) (fun X4_0 bD => ?_)
  refine dv_ 0 (.agg (wC nw ev)) (fun a X ee hb => execLdWn rfl (ee _) (on9 Fg3s (BB.trans (hb.mono BB.size)))) (dv_ 4 (.agg (wC nw ev)) (fun a X ee hb => execLdWn rfl (ee _) (on9 Fg3s (BB.trans (hb.mono BB.size)))) (dc_ 3 (I.check nw sp rm ev n nu tw ln t X4_0 (hW.on (BB.trans (bD.mono BB.size))) hsp hrm) (cb_ fun X4_1 bQ => ?_)))
  replace bD := bD.trans (bQ.mono bD.size)
  clear bQ
  refine ⟨Or.inr bD, ?_⟩
  refine dc_ 7 (rcheckW nw sp rm ev n nu tw ln t X4_1 (hW.on (BB.trans (bD.mono BB.size))) hsp hrm) (cb_ fun X4_2 bQ => ?_)
  replace bD := bD.trans (bQ.mono bD.size)
  clear bQ
  refine ⟨Or.inr bD, ?_⟩
  refine dw_ 8 (.bool false) (fun a X ee => execDec (execNeN (p := wChk (nw, esL n nu ln t) sp rm) (q := wChk (nw, esL n nu ln t) sp rm) rfl (ee _) (ee _)) (decide_eq_false (fun h_ => h_ rfl))) (dv_ 10 (.agg (wC nw ev)) (fun a X ee hb => execLdWn rfl (ee _) (on9 Fg3s (BB.trans (hb.mono BB.size)))) (dv_ 12 (.agg (wC nw ev)) (fun a X ee hb => execLdWn rfl (ee _) (on9 Fg3s (BB.trans (hb.mono BB.size)))) (dc_ 11 (I.len nw ev n nu tw ln t X4_2 (hW.on (BB.trans (bD.mono BB.size)))) (cb_ fun X4_3 bQ => ?_))))
  replace bD := bD.trans (bQ.mono bD.size)
  clear bQ
  refine ⟨Or.inr bD, ?_⟩
  refine dc_ 13 (rlen16 nw ev n nu tw ln t X4_3 (hW.eps.on (BB.trans (bD.mono BB.size))) hW.n63) (cb_ fun X4 bQ => ?_)
  replace bD := bD.trans (bQ.mono bD.size)
  clear bQ
  refine ⟨Or.inr bD, ?_⟩
  refine dw_ 14 (.bool false) (fun a X ee => execDec (exIneq3 (p := sW ln n) (q := sW ln n) rfl (ee _) (ee _)) (decide_eq_false (fun h_ => h_ rfl))) (dz_ [(33, .bool false)] (h2_ t3 t6) ?_)
  rintro a A ⟨t33, -⟩ ⟨t3, t6, -⟩
  replace BB := BB.trans (bD.mono BB.size)
  clear bD
  refine wp_cond_false t33 ?_
  refine wp_skip ?_
  clear t33
  refine wp_seq ?_
  refine wp_seq ?_
  refine wi_ A (h2_ t3 t6) (rf_ [(7, .int .i64 ((0 : Nat) : Int))] (h2_ t3 t6) ?_)
  rintro a A ⟨t7, -⟩ ⟨t3, t6, -⟩
  refine wp_block ?_
  refine wp_loop (fun a W => ∃ (i : Nat), i ≤ m ∧ (a.tmps.size = 53 ∧ a.defers = []) ∧ a.eval (.tmp 3) = .pointer (some ⟨g3, 0, none⟩) ∧ a.eval (.tmp 6) = tgv ∧ a.eval (.tmp 7) = .int .i64 ((i : Nat) : Int) ∧ Below X3.heap.size X3 W) (fun a _ => m - (intOf (a.eval (.tmp 7))).toNat) ⟨0, Nat.zero_le _, A, t3, t6, t7, BB⟩ ?_
  clear A t3 t6 t7 BB a
  rintro a XL7 ⟨i, hi, A, t3, t6, t7, BB⟩
  have esi := t7
  refine wp_seq ?_
  refine wp_seq ?_
  refine wi_ A (h3_ t3 t6 t7) (rv_ 2 (.int .i64 ((m : Nat) : Int)) (fun a ee => execLenTs (len := m) rfl (ee _) hT.shp) (rv_ 3 (.bool (decide (i < m))) (fun a ee => execLtW (p := i) (q := m) rfl (ee _) (ee _)) (rf_ [(37, .bool (decide (i < m)))] (h3_ t3 t6 t7) ?_)))
  rintro a A ⟨t37, -⟩ ⟨t3, t6, t7, -⟩
  by_cases lti : i < m
  · rw [decide_eq_true lti] at t37
    refine wp_cond_true t37 ?_
    refine wp_skip ?_
    clear t37
    refine wp_seq ?_
    refine wp_block ?_
    obtain ⟨tb, to_, tc, et_, htb, htc⟩ := hT.at (show 0 < m by omega)
    have cT : ∀ X, Below X3.heap.size X3 X → ∀ j, j < 16 → X.cell? ⟨tb, to_ + i * 16 + j, none⟩ = some (.int .u8 ((tg i j : Nat) : Int)) := fun X hX j hj => by rw [cell_below hX htb]; exact htc i lti j hj
    refine wp_seq ?_
    refine wj_ [0, 1, 2, 3, 4, 6, 7, 8, 9, 10, 5, 11, 12] [5, 11] [0, 4, 6, 10] [] A (h3_ t3 t6 t7) (fun X9_0 bD => ?_)
    refine dv_ 0 (.agg (wC nw ev)) (fun a X ee hb => execLdWn rfl (ee _) (on9 Fg3s (BB.trans (hb.mono BB.size)))) (dw_ 3 (.pointer (some ⟨tb, to_ + i * 16, none⟩)) (fun a X ee => execIdxTs (k := i) rfl ((ee _).trans et_) (ee _) lti) (dv_ 4 (.agg (bA 16 (tg i))) (fun a X ee hb => execLdT rfl (ee _) (fun j_ hj_ => cT X (BB.trans (hb.mono BB.size)) j_ hj_)) (dv_ 6 (.agg (wC nw ev)) (fun a X ee hb => execLdWn rfl (ee _) (on9 Fg3s (BB.trans (hb.mono BB.size)))) (dw_ 9 (.pointer (some ⟨tb, to_ + i * 16, none⟩)) (fun a X ee => execIdxTs (k := i) rfl ((ee _).trans et_) (ee _) lti) (dv_ 10 (.agg (bA 16 (tg i))) (fun a X ee hb => execLdT rfl (ee _) (fun j_ hj_ => cT X (BB.trans (hb.mono BB.size)) j_ hj_)) (dc_ 5 (I.has nw ev n nu tw ln t (tg i) X9_0 (hT.byt i lti) (hW.on (BB.trans (bD.mono BB.size)))) (cb_ fun X9_1 bQ => ?_)))))))
    replace bD := bD.trans (bQ.mono bD.size)
    clear bQ
    refine ⟨Or.inr bD, ?_⟩
    refine dc_ 11 (rhas16 nw ev n nu tw ln t (tg i) X9_1 (hT.byt i lti) (hW.eps.on (BB.trans (bD.mono BB.size))) hW.n63) (cb_ fun X9 bQ => ?_)
    replace bD := bD.trans (bQ.mono bD.size)
    clear bQ
    refine ⟨Or.inr bD, ?_⟩
    refine dw_ 12 (.bool false) (fun a X ee => execNeBo rfl (ee _) (ee _)) (dz_ [(52, .bool false)] (h3_ t3 t6 t7) ?_)
    rintro a A ⟨t52, -⟩ ⟨t3, t6, t7, -⟩
    replace BB := BB.trans (bD.mono BB.size)
    clear bD
    refine wp_cond_false t52 ?_
    refine wp_skip ?_
    clear t52
    refine wi_ A (h3_ t3 t6 t7) (rv_ 1 (.int .i64 ((i + 1 : Nat) : Int)) (fun a ee => execAd8 (p := i) (q := 1) rfl (ee _) rfl (by omega)) (rf_ [(7, .int .i64 ((i + 1 : Nat) : Int))] (h2_ t3 t6) ?_))
    rintro a A ⟨t7, -⟩ ⟨t3, t6, -⟩
    exact ⟨⟨i + 1, lti, A, t3, t6, t7, BB⟩, by show m - (intOf (a.eval (.tmp 7))).toNat < m - (intOf (Act.eval _ (.tmp 7))).toNat; rw [t7, esi]; show m - (i + 1) < m - i; omega⟩
  · rw [decide_eq_false lti] at t37
    refine wp_cond_false t37 ?_
    refine wp_exit ?_
    first | with_reducible refine exit_in ?_ | with_reducible refine exit_then (exit_in ?_) | with_reducible refine exit_then (exit_then (exit_in ?_)) | refine exit_in ?_ | refine exit_then (exit_in ?_) | refine exit_then (exit_then (exit_in ?_))
    clear t37 esi
    have BW2 := BW.trans (BB.mono BW.size)
    refine wp_seq ?_
    refine wi_ A (h3_ t3 t6 t7) (rg_ [(2, .bool true)] ?_)
    rintro a A ⟨t2, -⟩
    refine wp_ret ?_
    refine bodyPost_ret (results_tmp rfl _ _ _) A.2 ⟨?_, BW2⟩
    show Ending.returned (a.eval (.tmp 2)) = _
    rw [t2]
end Go.Proofs.Ytijibdapooalcaa.Win
