import Derived.Test.YtcgkelgncehekaaE8o
namespace Go.Proofs.Ytcgkelgncehekaa.Loo
open Go.RowKit Gf8 Aes By8 Cel Cf Win Drw Prm
/- LoomPipes. Written by tools/mkE8p.py. -/

theorem SliceI.at {W : World} {v : Value} {f : Nat → Int} {n b off c j : Nat} (h : SliceI W v n f) (e : v = .slice (some ⟨b, off, none⟩) n c) (hj : j < n) : W.cell? ⟨b, off + j, none⟩ = some (.int .i64 (f j)) := by
  obtain ⟨a, cap, e1, _, _, h1⟩ := h.shape
  rw [e] at e1
  obtain ⟨b2, off2, e2, _, h3⟩ := h1 (by omega)
  rw [e2] at e1
  injection e1 with e3
  injection e3 with e3
  injection e3 with e4 e5 _
  rw [e4, e5]
  exact h3 j hj
theorem SliceV.sub {W : World} {v : Value} {x : Nat → Value} {n b off c lo hi c2 : Nat} (h : SliceV W v n x) (e : v = .slice (some ⟨b, off, none⟩) n c) (h1 : lo < hi) (h2 : hi ≤ n) : SliceV W (.slice (some ⟨b, off + lo, none⟩) (hi - lo) c2) (hi - lo) (fun t => x (lo + t)) := by
  have hb : b < W.heap.size := by
    obtain ⟨a, cap, e1, h3⟩ := h
    rw [e] at e1
    obtain ⟨b2, off2, e2, h4, _⟩ := h3 (by omega)
    rw [e2] at e1
    injection e1 with e3
    injection e3 with e3
    injection e3 with e4 e5 _
    rw [e4]
    exact h4
  refine ⟨_, _, rfl, fun _ => ⟨b, off + lo, rfl, hb, fun t ht => ?_⟩⟩
  rw [Nat.add_assoc]
  exact h.at e (by omega)
theorem His.openT {B N n : Nat} {W : World} {pk tk : Value} {tv : Nat → Value} {pf : Nat → Int} {tl : Nat → List Int} (h : His B W pk tk tv N n pf tl) (h0 : 0 < n) : ∃ b c, tk = .slice (some ⟨b, 0, none⟩) n c ∧ n ≤ c := by
  rcases h.tk.2 with ⟨_, e⟩ | ⟨g, cap, cur, e, _, _, h1, _⟩
  · omega
  · exact ⟨g, cap, e, h1⟩
section
variable {o : Oper} {a : Act} {w : World}
theorem execSlLLa {x l h : Operand} {v vl vh r : Value} (ho : o.op = .slice 24 x (some l) (some h) none) (hx : a.eval x = v) (hl : a.eval l = vl) (hh : a.eval h = vh) (hr : (Instr.sliceAt 24 v (some vl) (some vh) none).run Try.prog w = .ok r w) : (execOp a.eval o).run Try.prog w = .ok (.value r) w := by
  unfold execOp
  simp only [ho, hx, hl, hh, Option.map_some, Option.map_none, Sem.run_bind, hr, Result.andThen_ok, Sem.run_pure]
theorem execSlLLb {x l : Operand} {v vl r : Value} (ho : o.op = .slice 24 x (some l) none none) (hx : a.eval x = v) (hl : a.eval l = vl) (hr : (Instr.sliceAt 24 v (some vl) none none).run Try.prog w = .ok r w) : (execOp a.eval o).run Try.prog w = .ok (.value r) w := by
  unfold execOp
  simp only [ho, hx, hl, Option.map_some, Option.map_none, Sem.run_bind, hr, Result.andThen_ok, Sem.run_pure]
theorem slLLa (b n c lo hi : Nat) (h1 : lo < hi) (h2 : hi ≤ c) (W : World) : (Instr.sliceAt 24 (.slice (some ⟨b, 0, none⟩) n c) (some (.int .i64 ((lo : Nat) : Int))) (some (.int .i64 ((hi : Nat) : Int))) none).run Try.prog W = .ok (.slice (some ⟨b, 0 + lo, none⟩) (hi - lo) (c - lo)) W := by
  have e1 : (lo : Int) ≤ hi := by omega
  have e2 : (hi : Int) ≤ c := by omega
  have e3 : lo ≤ hi := by omega
  have e : c ≠ lo := by omega
  obtain ⟨i, i1, _, i3, _⟩ := infoLI
  simp [Instr.sliceAt, Instr.slice, run_underlying Try.underlying24, Instr.sliceBounds, run_sliceBound, e3, h2, e, sizeOf, typeInfo, i1, i3, Addr.add_mid]
theorem slLLb (b n c lo : Nat) (h1 : lo < n) (h2 : n ≤ c) (W : World) : (Instr.sliceAt 24 (.slice (some ⟨b, 0, none⟩) n c) (some (.int .i64 ((lo : Nat) : Int))) none none).run Try.prog W = .ok (.slice (some ⟨b, 0 + lo, none⟩) (n - lo) (c - lo)) W := by
  have e1 : (lo : Int) ≤ n := by omega
  have e2 : (n : Int) ≤ c := by omega
  have e3 : lo ≤ n := by omega
  have e : c ≠ lo := by omega
  obtain ⟨i, i1, _, i3, _⟩ := infoLI
  simp [Instr.sliceAt, Instr.slice, run_underlying Try.underlying24, Instr.sliceBounds, run_sliceBound, e3, e, sizeOf, typeInfo, i1, i3, Addr.add_mid]
end
/-- What LoomPipes asks of Play. -/
theorem pipe_play (I : LImpl) (pv sv : Value) (J C K c0 c1 k : Nat) (sc : Nat → Int) (V : World) (hI : J ≤ 100) (hcr : 0 < C ∧ C ≤ 40) (hK : 0 < K ∧ K ≤ 40) (h0 : c0 ≤ 1024) (h1 : c1 ≤ 1024) (hp : PlA V pv (pipP J C K c0 c1)) (hs : SliceI V sv k sc) : Calls Try.prog 10 #[pv, sv] V fun e w' => ∃ pk tk tv M N, e = .returned (.tuple #[.agg (hC pk M true false 0 tk), .int .i64 ((0 : Nat) : Int)]) ∧ M ≤ c0 + c1 ∧ PipE J C K c0 c1 (scr k sc) N ∧ His V.heap.size w' pk tk tv N (C + 2 + K) (fun i => (Loo.pk (pipP J C K c0 c1) (scr k sc) i : Int)) (rk (pipP J C K c0 c1) (scr k sc) N).tk ∧ Below V.heap.size V w' := by
  refine Calls.mono (I.play (pipP J C K c0 c1) pv sv k sc V hp hs) fun e w' ⟨⟨_, h⟩, hb⟩ => ?_
  obtain ⟨pk, tk, tv, N, hr, he, hh⟩ := h (pip_chk hI hcr.2 hK.2 h0 h1)
  have hE := pip_run hI hcr hK hr
  rw [hE.live, hE.lt] at he
  exact ⟨pk, tk, tv, _, N, he, hE.mx, hE, hh, hb⟩
theorem rising {l : List Int} (h : l.Pairwise (· < ·)) {j : Nat} (hj : 1 + j < l.length) : ¬ l.getD (1 + j) 0 ≤ l.getD j 0 := by
  rw [List.getD_eq_getElem?_getD, List.getD_eq_getElem?_getD, List.getElem?_eq_getElem hj, List.getElem?_eq_getElem (show j < l.length by omega)]
  have := List.pairwise_iff_getElem.1 h j (1 + j) (by omega) hj (by omega)
  show ¬ l[1 + j] ≤ l[j]
  omega
theorem len0 {W : World} {v : Value} {l : List Int} {f : Nat → Int} (h : SliceI W v l.length f) (e : l = []) : ∃ a c, v = .slice a 0 c := by
  have h1 := h.shp
  rw [e] at h1
  exact h1
set_option maxRecDepth 100000 in
set_option maxHeartbeats 4000000 in
/-- LoomPipes. -/
theorem pipes19 (I : LImpl) (p0 p1 p2 p3 p4 : Int) (su : Value) (k : Nat) (sc : Nat → Int) (V : World) (hs : SliceI V su k sc) :
    Calls Try.prog 7 #[.agg (piC p0 p1 p2 p3 p4 su)] V fun e w' => e = .returned (.bool true) ∧ Below V.heap.size V w' := by
  have hsl : ∃ a n c, su = .slice a n c := sl3 hs.shp
  obtain ⟨J, e0⟩ : ∃ n : Nat, abt p0 0 100 = ((n : Nat) : Int) := ⟨(abt p0 0 100).toNat, by have := abt_in (n := p0) (lo := 0) (hi := 100) (by omega); omega⟩
  obtain ⟨C, e1⟩ : ∃ n : Nat, abt p1 1 40 = ((n : Nat) : Int) := ⟨(abt p1 1 40).toNat, by have := abt_in (n := p1) (lo := 1) (hi := 40) (by omega); omega⟩
  obtain ⟨K, e2⟩ : ∃ n : Nat, abt p2 1 40 = ((n : Nat) : Int) := ⟨(abt p2 1 40).toNat, by have := abt_in (n := p2) (lo := 1) (hi := 40) (by omega); omega⟩
  obtain ⟨c0, e3⟩ : ∃ n : Nat, abt p3 0 1024 = ((n : Nat) : Int) := ⟨(abt p3 0 1024).toNat, by have := abt_in (n := p3) (lo := 0) (hi := 1024) (by omega); omega⟩
  obtain ⟨c1, e4⟩ : ∃ n : Nat, abt p4 0 1024 = ((n : Nat) : Int) := ⟨(abt p4 0 1024).toNat, by have := abt_in (n := p4) (lo := 0) (hi := 1024) (by omega); omega⟩
  have hI : J ≤ 100 := by have := abt_in (n := p0) (lo := 0) (hi := 100) (by omega); omega
  have hcr : 0 < C ∧ C ≤ 40 := by have := abt_in (n := p1) (lo := 1) (hi := 40) (by omega); omega
  have hK : 0 < K ∧ K ≤ 40 := by have := abt_in (n := p2) (lo := 1) (hi := 40) (by omega); omega
  have h0 : c0 ≤ 1024 := by have := abt_in (n := p3) (lo := 0) (hi := 1024) (by omega); omega
  have h1 : c1 ≤ 1024 := by have := abt_in (n := p4) (lo := 0) (hi := 1024) (by omega); omega
  have fitN : ∀ X : World, Calls Try.prog 23 #[.agg (piC p0 p1 p2 p3 p4 su)] X fun e w' => e = .returned (.agg (piC ((J : Nat) : Int) ((C : Nat) : Int) ((K : Nat) : Int) ((c0 : Nat) : Int) ((c1 : Nat) : Int) su)) ∧ Below X.heap.size X w' := fun X => by
    have h := fit19 p0 p1 p2 p3 p4 su X hsl
    rw [e0, e1, e2, e3, e4] at h
    exact h
  go_enter Try.func7, Try.ntmps7
  refine wo_ 152 [(0, .agg (piC p0 p1 p2 p3 p4 su))] ?_
  rintro a A ⟨t0, -⟩
  have BW : Below V.heap.size V V := Below.refl _ _
  have BB : Below V.heap.size V V := Below.refl _ _
  refine wp_seq ?_
  obtain ⟨g1, egg1⟩ : ∃ z_ : Nat, V.heap.size = z_ := ⟨_, rfl⟩
  refine wi_ A (h1_ t0) (rs_ 0 (fun a ee => ?_))
  refine stepV rfl rfl (execBxPi rfl (ee _) hsl) ⟨.pointer (some ⟨g1, 0, none⟩), ⟨_, rfl, by subst egg1; rfl⟩, fun X0 hX => ?_⟩
  have bQ : Below V.heap.size V X0 := by subst hX egg1; exact (belNew V _)
  have Fg1 : (X0.heap[g1]? = some (.cells (piC p0 p1 p2 p3 p4 su) 61)) := by subst hX egg1; exact heapNew V _
  have Fgeg1 : (V.heap.size ≤ g1) := by subst hX egg1; exact (BB).size
  replace BB := BB.trans (bQ.mono BB.size)
  clear bQ hX egg1 ee a
  refine rg_ [(1, .pointer (some ⟨g1, 0, none⟩))] ?_
  rintro a A ⟨t1, -⟩
  refine wp_seq ?_
  refine wp_seq ?_
  refine wi_ A (h1_ t1) (rc_ 0 (alive19 I X0) (cb_ fun X1 bQ => ?_))
  replace Fg1 := (on9 Fg1 bQ)
  replace BB := BB.trans (bQ.mono BB.size)
  clear bQ
  refine rv_ 1 (.bool false) (fun a ee => execNot8 (b := true) rfl (ee _)) (rf_ [(10, .bool false)] (h1_ t1) ?_)
  rintro a A ⟨t10, -⟩ ⟨t1, -⟩
  refine wp_cond_false t10 ?_
  refine wp_skip ?_
  clear t10
  refine wp_seq ?_
  refine wi_ A (h1_ t1) (rv_ 0 (.agg (piC p0 p1 p2 p3 p4 su)) (fun a ee => execLdPi rfl (ee _) Fg1) (rc_ 1 (fitN X1) (cb_ fun X3_1 bQ => ?_)))
  replace Fg1 := (on9 Fg1 bQ)
  replace BB := BB.trans (bQ.mono BB.size)
  clear bQ
  obtain ⟨g3, egg3⟩ : ∃ z_ : Nat, X3_1.heap.size = z_ := ⟨_, rfl⟩
  refine rs_ 2 (fun a ee => ?_)
  refine stepV rfl rfl (execAlPi rfl) ⟨.pointer (some ⟨g3, 0, none⟩), ⟨_, rfl, by subst egg3; rfl⟩, fun X3_2 hX => ?_⟩
  have bQ : Below X3_1.heap.size X3_1 X3_2 := by subst hX egg3; exact (belNew X3_1 _)
  have Fg3 : (X3_2.heap[g3]? = some (.cells (piC 0 0 0 0 0 (.slice none 0 0)) 61)) := by subst hX egg3; exact heapNew X3_1 _
  have Fgeg3 : (V.heap.size ≤ g3) := by subst hX egg3; exact (BB).size
  have Fneg3 : (g1 ≠ g3) := by subst hX egg3; exact Nat.ne_of_lt (Array.getElem?_eq_some_iff.1 Fg1).1
  replace Fg1 := (on9 Fg1 bQ)
  replace BB := BB.trans (bQ.mono BB.size)
  clear bQ hX egg3 ee a
  refine rs_ 3 (fun a ee => ?_)
  refine stepS rfl rfl (execStPi rfl (ee _) (ee _) Fg3 hsl) ⟨_, ⟨_, rfl, rfl⟩, fun X3 hX => ?_⟩
  obtain ⟨BB, Fg3_1⟩ : Below V.heap.size V X3 ∧ (X3.heap[g3]? = some (.cells (piC ((J : Nat) : Int) ((C : Nat) : Int) ((K : Nat) : Int) ((c0 : Nat) : Int) ((c1 : Nat) : Int) su) 61)) := by subst hX; exact ⟨below4 BB Fgeg3 _, setRow_heap _ _ _ _ _ _ Fg3⟩
  clear Fg1 Fg3 hX ee a
  refine rg_ [(3, .pointer (some ⟨g3, 0, none⟩))] ?_
  rintro a A ⟨t3, -⟩
  refine wp_seq ?_
  refine wp_region_stB (σ := Value × Value × Value × (Nat → Value) × Nat × Nat × Nat) 152 [(0, 14), (1, 15), (2, 16), (3, 17), (4, 18), (5, 13), (6, 19), (7, 20), (8, 4), (10, 5)] (fun l_ s X => Below V.heap.size V X ∧ ((V.heap.size ≤ g1)) ∧ ((V.heap.size ≤ g3)) ∧ ((g1 ≠ g3)) ∧ ((X.heap[g3]? = some (.cells (piC ((J : Nat) : Int) ((C : Nat) : Int) ((K : Nat) : Int) ((c0 : Nat) : Int) ((c1 : Nat) : Int) su) 61))) ∧ (l_ 1 = true → l_ 4 = false → (PlA X s.1 (pipP J C K c0 c1))) ∧ (l_ 4 = true → (His V.heap.size X s.2.1 s.2.2.1 s.2.2.2.1 s.2.2.2.2.2.1 (C + 2 + K) (fun i => (Loo.pk (pipP J C K c0 c1) (scr k sc) i : Int)) (rk (pipP J C K c0 c1) (scr k sc) s.2.2.2.2.2.1).tk)) ∧ (l_ 4 = true → (s.2.2.2.2.1 ≤ c0 + c1)) ∧ (l_ 4 = true → (PipE J C K c0 c1 (scr k sc) s.2.2.2.2.2.1)) ∧ (l_ 8 = true → l_ 9 = false → (X.heap[s.2.2.2.2.2.2]? = some (.cells (hC (.slice none 0 0) 0 false false 0 (.slice none 0 0)) 26))) ∧ (l_ 8 = true → (V.heap.size ≤ s.2.2.2.2.2.2)) ∧ (l_ 9 = true → (X.heap[s.2.2.2.2.2.2]? = some (.cells (hC s.2.1 s.2.2.2.2.1 true false 0 s.2.2.1) 26)))) (fun s => fun i_ => match i_ with | 0 => .agg (piC ((J : Nat) : Int) ((C : Nat) : Int) ((K : Nat) : Int) ((c0 : Nat) : Int) ((c1 : Nat) : Int) su) | 1 => s.1 | 2 => .pointer (some ⟨g3, 5, none⟩) | 3 => su | 4 => .tuple #[.agg (hC s.2.1 s.2.2.2.2.1 true false 0 s.2.2.1), .int .i64 ((0 : Nat) : Int)] | 5 => .tuple #[.agg (hC s.2.1 s.2.2.2.2.1 true false 0 s.2.2.1), .int .i64 ((0 : Nat) : Int)] | 6 => .agg (hC s.2.1 s.2.2.2.2.1 true false 0 s.2.2.1) | 7 => .int .i64 ((0 : Nat) : Int) | 8 => .pointer (some ⟨s.2.2.2.2.2.2, 0, none⟩) | 9 => undef | 10 => .int .i64 ((0 : Nat) : Int) | _ => undef) (undef, undef, undef, fun _ => undef, 0, 0, 0) (by kernel_rfl) (by kernel_rfl) A.1 (by kernel_rfl) (by decide) (by decide) ⟨(BB.drew), (Fgeg1), (Fgeg3), (Fneg3), ((on9 Fg3_1 (Below.refl _ _).drew)), (fun q0_ q1_ => by cases q0_), (fun q0_ => by cases q0_), (fun q0_ => by cases q0_), (fun q0_ => by cases q0_), (fun q0_ q1_ => by cases q0_), (fun q0_ => by cases q0_), (fun q0_ => by cases q0_)⟩ ?_ ?_
  · intro i_ hi_ l_ s a X hl_ hf hdep hl2 hcl hno hT
    have up : ∀ j x, x ≠ j → updB l_ j x = l_ x := fun j x hj => by unfold updB; simp [hj]
    match i_, hi_ with
    | 0, _ => exact stepV rfl rfl (execLdPi rfl ((hf 3 (by decide)).trans t3) hT.2.2.2.2.1) ⟨s, ⟨_, rfl, rfl⟩, ⟨hT.1, (hT.2.1), (hT.2.2.1), (hT.2.2.2.1), (hT.2.2.2.2.1), (fun q0_ q1_ => absurd (hl_.symm.trans (hcl 1 _ rfl ((up 0 1 (by decide)).symm.trans q0_) 0 rfl)) (by decide)), (fun q0_ => absurd (hl_.symm.trans (hcl 1 _ rfl (hcl 4 _ rfl ((up 0 4 (by decide)).symm.trans q0_) 1 rfl) 0 rfl)) (by decide)), (fun q0_ => absurd (hl_.symm.trans (hcl 1 _ rfl (hcl 4 _ rfl ((up 0 4 (by decide)).symm.trans q0_) 1 rfl) 0 rfl)) (by decide)), (fun q0_ => absurd (hl_.symm.trans (hcl 1 _ rfl (hcl 4 _ rfl ((up 0 4 (by decide)).symm.trans q0_) 1 rfl) 0 rfl)) (by decide)), (fun q0_ q1_ => (hT.2.2.2.2.2.2.2.2.2.1 (by rw [up 0 8 (by decide)] at q0_; exact q0_) (by rw [up 0 9 (by decide)] at q1_; exact q1_))), (fun q0_ => (hT.2.2.2.2.2.2.2.2.2.2.1 (by rw [up 0 8 (by decide)] at q0_; exact q0_))), (fun q0_ => absurd (hl_.symm.trans (hcl 9 _ rfl ((up 0 9 (by decide)).symm.trans q0_) 0 rfl)) (by decide))⟩, fun _ _ _ => rfl⟩
    | 1, _ =>
      refine stepC rfl rfl (execCall1 Try.func24 (by kernel_rfl) (by kernel_rfl) rfl (hdep _ rfl 0 rfl _ rfl _ rfl)) (plan19 J C K c0 c1 su X hsl hI hcr hK h0 h1) fun e w' hh => ?_
      obtain ⟨⟨v_, he, hP⟩, hb⟩ := hh
      refine ⟨_, he, (v_, s.2.1, s.2.2.1, s.2.2.2.1, s.2.2.2.2.1, s.2.2.2.2.2.1, s.2.2.2.2.2.2), ⟨_, rfl, rfl⟩, ⟨hT.1.trans ((hb).mono hT.1.size), (hT.2.1), (hT.2.2.1), (hT.2.2.2.1), ((on9 hT.2.2.2.2.1 hb)), (fun _q0_ _q1_ => hP), (fun q0_ => absurd (hl_.symm.trans (hcl 4 _ rfl ((up 1 4 (by decide)).symm.trans q0_) 1 rfl)) (by decide)), (fun q0_ => absurd (hl_.symm.trans (hcl 4 _ rfl ((up 1 4 (by decide)).symm.trans q0_) 1 rfl)) (by decide)), (fun q0_ => absurd (hl_.symm.trans (hcl 4 _ rfl ((up 1 4 (by decide)).symm.trans q0_) 1 rfl)) (by decide)), (fun q0_ q1_ => (on9 (hT.2.2.2.2.2.2.2.2.2.1 (by rw [up 1 8 (by decide)] at q0_; exact q0_) (by rw [up 1 9 (by decide)] at q1_; exact q1_)) hb)), (fun q0_ => (hT.2.2.2.2.2.2.2.2.2.2.1 (by rw [up 1 8 (by decide)] at q0_; exact q0_))), (fun q0_ => absurd (hl_.symm.trans (hcl 9 _ rfl ((up 1 9 (by decide)).symm.trans q0_) 1 rfl)) (by decide))⟩, fun i hi hli => ?_⟩
      match i, hi with
      | 0, _ => rfl
      | 1, _ => exact absurd (hl_.symm.trans hli) (by decide)
      | 2, _ => rfl
      | 3, _ => rfl
      | 4, _ => rfl
      | 5, _ => rfl
      | 6, _ => rfl
      | 7, _ => rfl
      | 8, _ => rfl
      | 9, _ => rfl
      | 10, _ => rfl
      | k_ + 11, h_ => exact absurd h_ (by simp)
    | 2, _ => exact stepV rfl rfl (execPi5 rfl ((hf 3 (by decide)).trans t3)) ⟨s, ⟨_, rfl, rfl⟩, ⟨hT.1, (hT.2.1), (hT.2.2.1), (hT.2.2.2.1), (hT.2.2.2.2.1), (fun q0_ q1_ => (hT.2.2.2.2.2.1 (by rw [up 2 1 (by decide)] at q0_; exact q0_) (by rw [up 2 4 (by decide)] at q1_; exact q1_))), (fun q0_ => absurd (hl_.symm.trans (hcl 3 _ rfl (hcl 4 _ rfl ((up 2 4 (by decide)).symm.trans q0_) 3 rfl) 2 rfl)) (by decide)), (fun q0_ => absurd (hl_.symm.trans (hcl 3 _ rfl (hcl 4 _ rfl ((up 2 4 (by decide)).symm.trans q0_) 3 rfl) 2 rfl)) (by decide)), (fun q0_ => absurd (hl_.symm.trans (hcl 3 _ rfl (hcl 4 _ rfl ((up 2 4 (by decide)).symm.trans q0_) 3 rfl) 2 rfl)) (by decide)), (fun q0_ q1_ => (hT.2.2.2.2.2.2.2.2.2.1 (by rw [up 2 8 (by decide)] at q0_; exact q0_) (by rw [up 2 9 (by decide)] at q1_; exact q1_))), (fun q0_ => (hT.2.2.2.2.2.2.2.2.2.2.1 (by rw [up 2 8 (by decide)] at q0_; exact q0_))), (fun q0_ => absurd (hl_.symm.trans (hcl 9 _ rfl ((up 2 9 (by decide)).symm.trans q0_) 2 rfl)) (by decide))⟩, fun _ _ _ => rfl⟩
    | 3, _ => exact stepV rfl rfl (execLdG rfl (Or.inl rfl) (hdep _ rfl 2 rfl _ rfl _ rfl) (piC_at hT.2.2.2.2.1).2.2.2.2.2) ⟨s, ⟨_, rfl, rfl⟩, ⟨hT.1, (hT.2.1), (hT.2.2.1), (hT.2.2.2.1), (hT.2.2.2.2.1), (fun q0_ q1_ => (hT.2.2.2.2.2.1 (by rw [up 3 1 (by decide)] at q0_; exact q0_) (by rw [up 3 4 (by decide)] at q1_; exact q1_))), (fun q0_ => absurd (hl_.symm.trans (hcl 4 _ rfl ((up 3 4 (by decide)).symm.trans q0_) 3 rfl)) (by decide)), (fun q0_ => absurd (hl_.symm.trans (hcl 4 _ rfl ((up 3 4 (by decide)).symm.trans q0_) 3 rfl)) (by decide)), (fun q0_ => absurd (hl_.symm.trans (hcl 4 _ rfl ((up 3 4 (by decide)).symm.trans q0_) 3 rfl)) (by decide)), (fun q0_ q1_ => (hT.2.2.2.2.2.2.2.2.2.1 (by rw [up 3 8 (by decide)] at q0_; exact q0_) (by rw [up 3 9 (by decide)] at q1_; exact q1_))), (fun q0_ => (hT.2.2.2.2.2.2.2.2.2.2.1 (by rw [up 3 8 (by decide)] at q0_; exact q0_))), (fun q0_ => absurd (hl_.symm.trans (hcl 9 _ rfl ((up 3 9 (by decide)).symm.trans q0_) 3 rfl)) (by decide))⟩, fun _ _ _ => rfl⟩
    | 4, _ =>
      refine stepC rfl rfl (execCall2 Try.func10 (by kernel_rfl) (by kernel_rfl) rfl (hdep _ rfl 1 rfl _ rfl _ rfl) (hdep _ rfl 3 rfl _ rfl _ rfl)) (pipe_play I _ _ J C K c0 c1 k sc X hI hcr hK h0 h1 (hT.2.2.2.2.2.1 (hl2 _ rfl 1 rfl) hl_) (hs.on hT.1)) fun e w' hh => ?_
      obtain ⟨pk_, tk_, tv_, M_, N_, he, hM, hE, hH, hb⟩ := hh
      refine ⟨_, he, (s.1, pk_, tk_, tv_, M_, N_, s.2.2.2.2.2.2), ⟨_, rfl, rfl⟩, ⟨hT.1.trans ((hb).mono hT.1.size), (hT.2.1), (hT.2.2.1), (hT.2.2.2.1), ((on9 hT.2.2.2.2.1 hb)), (fun q0_ q1_ => absurd q1_ (by unfold updB; simp)), (fun _q0_ => hH.base (hT.1).size), (fun _q0_ => hM), (fun _q0_ => hE), (fun q0_ q1_ => (on9 (hT.2.2.2.2.2.2.2.2.2.1 (by rw [up 4 8 (by decide)] at q0_; exact q0_) (by rw [up 4 9 (by decide)] at q1_; exact q1_)) hb)), (fun q0_ => (hT.2.2.2.2.2.2.2.2.2.2.1 (by rw [up 4 8 (by decide)] at q0_; exact q0_))), (fun q0_ => absurd (hl_.symm.trans (hcl 9 _ rfl ((up 4 9 (by decide)).symm.trans q0_) 4 rfl)) (by decide))⟩, fun i hi hli => ?_⟩
      match i, hi with
      | 0, _ => rfl
      | 1, _ => rfl
      | 2, _ => rfl
      | 3, _ => rfl
      | 4, _ => exact absurd (hl_.symm.trans hli) (by decide)
      | 5, _ => exact absurd (hl_.symm.trans (hcl 5 _ rfl hli 4 rfl)) (by decide)
      | 6, _ => exact absurd (hl_.symm.trans (hcl 5 _ rfl (hcl 6 _ rfl hli 5 rfl) 4 rfl)) (by decide)
      | 7, _ => rfl
      | 8, _ => rfl
      | 9, _ => rfl
      | 10, _ => rfl
      | k_ + 11, h_ => exact absurd h_ (by simp)
    | 5, _ => exact stepV rfl rfl (execMvB rfl (hdep _ rfl 4 rfl _ rfl _ rfl)) ⟨s, ⟨_, rfl, rfl⟩, ⟨hT.1, (hT.2.1), (hT.2.2.1), (hT.2.2.2.1), (hT.2.2.2.2.1), (fun q0_ q1_ => absurd (q1_.symm.trans ((up 5 4 (by decide)).trans (hl2 _ rfl 4 rfl))) (by decide)), (fun q0_ => (hT.2.2.2.2.2.2.1 (by rw [up 5 4 (by decide)] at q0_; exact q0_))), (fun q0_ => (hT.2.2.2.2.2.2.2.1 (by rw [up 5 4 (by decide)] at q0_; exact q0_))), (fun q0_ => (hT.2.2.2.2.2.2.2.2.1 (by rw [up 5 4 (by decide)] at q0_; exact q0_))), (fun q0_ q1_ => (hT.2.2.2.2.2.2.2.2.2.1 (by rw [up 5 8 (by decide)] at q0_; exact q0_) (by rw [up 5 9 (by decide)] at q1_; exact q1_))), (fun q0_ => (hT.2.2.2.2.2.2.2.2.2.2.1 (by rw [up 5 8 (by decide)] at q0_; exact q0_))), (fun q0_ => absurd (hl_.symm.trans (hcl 9 _ rfl ((up 5 9 (by decide)).symm.trans q0_) 5 rfl)) (by decide))⟩, fun _ _ _ => rfl⟩
    | 6, _ => exact stepV rfl rfl (execExtT rfl (hdep _ rfl 5 rfl _ rfl _ rfl) rfl) ⟨s, ⟨_, rfl, rfl⟩, ⟨hT.1, (hT.2.1), (hT.2.2.1), (hT.2.2.2.1), (hT.2.2.2.2.1), (fun q0_ q1_ => absurd (q1_.symm.trans ((up 6 4 (by decide)).trans (hcl 5 _ rfl (hl2 _ rfl 5 rfl) 4 rfl))) (by decide)), (fun q0_ => (hT.2.2.2.2.2.2.1 (by rw [up 6 4 (by decide)] at q0_; exact q0_))), (fun q0_ => (hT.2.2.2.2.2.2.2.1 (by rw [up 6 4 (by decide)] at q0_; exact q0_))), (fun q0_ => (hT.2.2.2.2.2.2.2.2.1 (by rw [up 6 4 (by decide)] at q0_; exact q0_))), (fun q0_ q1_ => (hT.2.2.2.2.2.2.2.2.2.1 (by rw [up 6 8 (by decide)] at q0_; exact q0_) (by rw [up 6 9 (by decide)] at q1_; exact q1_))), (fun q0_ => (hT.2.2.2.2.2.2.2.2.2.2.1 (by rw [up 6 8 (by decide)] at q0_; exact q0_))), (fun q0_ => absurd (hl_.symm.trans (hcl 9 _ rfl ((up 6 9 (by decide)).symm.trans q0_) 6 rfl)) (by decide))⟩, fun _ _ _ => rfl⟩
    | 7, _ => exact stepV rfl rfl (execExtT rfl (hdep _ rfl 5 rfl _ rfl _ rfl) rfl) ⟨s, ⟨_, rfl, rfl⟩, ⟨hT.1, (hT.2.1), (hT.2.2.1), (hT.2.2.2.1), (hT.2.2.2.2.1), (fun q0_ q1_ => absurd (q1_.symm.trans ((up 7 4 (by decide)).trans (hcl 5 _ rfl (hl2 _ rfl 5 rfl) 4 rfl))) (by decide)), (fun q0_ => (hT.2.2.2.2.2.2.1 (by rw [up 7 4 (by decide)] at q0_; exact q0_))), (fun q0_ => (hT.2.2.2.2.2.2.2.1 (by rw [up 7 4 (by decide)] at q0_; exact q0_))), (fun q0_ => (hT.2.2.2.2.2.2.2.2.1 (by rw [up 7 4 (by decide)] at q0_; exact q0_))), (fun q0_ q1_ => (hT.2.2.2.2.2.2.2.2.2.1 (by rw [up 7 8 (by decide)] at q0_; exact q0_) (by rw [up 7 9 (by decide)] at q1_; exact q1_))), (fun q0_ => (hT.2.2.2.2.2.2.2.2.2.2.1 (by rw [up 7 8 (by decide)] at q0_; exact q0_))), (fun q0_ => (hT.2.2.2.2.2.2.2.2.2.2.2 (by rw [up 7 9 (by decide)] at q0_; exact q0_)))⟩, fun _ _ _ => rfl⟩
    | 8, _ =>
      refine stepV rfl rfl (execAlH rfl) ⟨(s.1, s.2.1, s.2.2.1, s.2.2.2.1, s.2.2.2.2.1, s.2.2.2.2.2.1, X.heap.size), ⟨_, rfl, rfl⟩, ⟨hT.1.trans (((belNew X _)).mono hT.1.size), (hT.2.1), (hT.2.2.1), (hT.2.2.2.1), ((on9 hT.2.2.2.2.1 (belNew X _))), (fun q0_ q1_ => ((hT.2.2.2.2.2.1 (by rw [up 8 1 (by decide)] at q0_; exact q0_) (by rw [up 8 4 (by decide)] at q1_; exact q1_)).on (belNew X _))), (fun q0_ => ((hT.2.2.2.2.2.2.1 (by rw [up 8 4 (by decide)] at q0_; exact q0_)).on (belNew X _))), (fun q0_ => (hT.2.2.2.2.2.2.2.1 (by rw [up 8 4 (by decide)] at q0_; exact q0_))), (fun q0_ => (hT.2.2.2.2.2.2.2.2.1 (by rw [up 8 4 (by decide)] at q0_; exact q0_))), (fun _q0_ _q1_ => heapNew X _), (fun _q0_ => (hT.1).size), (fun q0_ => absurd (hl_.symm.trans (hcl 9 _ rfl ((up 8 9 (by decide)).symm.trans q0_) 8 rfl)) (by decide))⟩, fun i hi hli => ?_⟩
      match i, hi with
      | 0, _ => rfl
      | 1, _ => rfl
      | 2, _ => rfl
      | 3, _ => rfl
      | 4, _ => rfl
      | 5, _ => rfl
      | 6, _ => rfl
      | 7, _ => rfl
      | 8, _ => exact absurd (hl_.symm.trans hli) (by decide)
      | 9, _ => rfl
      | 10, _ => rfl
      | k_ + 11, h_ => exact absurd h_ (by simp)
    | 9, _ =>
      refine stepS rfl rfl (execStH rfl (hdep _ rfl 8 rfl _ rfl _ rfl) (hdep _ rfl 6 rfl _ rfl _ rfl) (hT.2.2.2.2.2.2.2.2.2.1 (hl2 _ rfl 8 rfl) hl_) (sl3 (hT.2.2.2.2.2.2.1 (hl2 _ rfl 4 rfl)).picks.shp) (sl3 (hT.2.2.2.2.2.2.1 (hl2 _ rfl 4 rfl)).lists.shp)) ⟨s, ⟨_, rfl, rfl⟩, ⟨below4 hT.1 (hT.2.2.2.2.2.2.2.2.2.2.1 (hl2 _ rfl 8 rfl)) _, (hT.2.1), (hT.2.2.1), (hT.2.2.2.1), ((keepT hT.2.2.2.2.1 (hT.2.2.2.2.2.2.2.2.2.1 (hl2 _ rfl 8 rfl) hl_) (by decide) grR18)), (fun q0_ q1_ => absurd (q1_.symm.trans ((up 9 4 (by decide)).trans (hl2 _ rfl 4 rfl))) (by decide)), (fun q0_ => ((hT.2.2.2.2.2.2.1 (by rw [up 9 4 (by decide)] at q0_; exact q0_)).keepT (hT.2.2.2.2.2.2.2.2.2.1 (hl2 _ rfl 8 rfl) hl_) (by decide) (by decide) grR18)), (fun q0_ => (hT.2.2.2.2.2.2.2.1 (by rw [up 9 4 (by decide)] at q0_; exact q0_))), (fun q0_ => (hT.2.2.2.2.2.2.2.2.1 (by rw [up 9 4 (by decide)] at q0_; exact q0_))), (fun q0_ q1_ => absurd q1_ (by unfold updB; simp)), (fun q0_ => (hT.2.2.2.2.2.2.2.2.2.2.1 (by rw [up 9 8 (by decide)] at q0_; exact q0_))), (fun _q0_ => setRow_heap _ _ _ _ _ _ (hT.2.2.2.2.2.2.2.2.2.1 (hl2 _ rfl 8 rfl) hl_))⟩, fun i hi hli => ?_⟩
      match i, hi with
      | 0, _ => rfl
      | 1, _ => rfl
      | 2, _ => rfl
      | 3, _ => rfl
      | 4, _ => rfl
      | 5, _ => rfl
      | 6, _ => rfl
      | 7, _ => rfl
      | 8, _ => rfl
      | 9, _ => exact absurd (hl_.symm.trans hli) (by decide)
      | 10, _ => rfl
      | k_ + 11, h_ => exact absurd h_ (by simp)
    | 10, _ => exact stepV rfl rfl (Cf.execAsgB rfl (hdep _ rfl 7 rfl _ rfl _ rfl)) ⟨s, ⟨_, rfl, rfl⟩, ⟨hT.1, (hT.2.1), (hT.2.2.1), (hT.2.2.2.1), (hT.2.2.2.2.1), (fun q0_ q1_ => absurd (q1_.symm.trans ((up 10 4 (by decide)).trans (hl2 _ rfl 4 rfl))) (by decide)), (fun q0_ => (hT.2.2.2.2.2.2.1 (by rw [up 10 4 (by decide)] at q0_; exact q0_))), (fun q0_ => (hT.2.2.2.2.2.2.2.1 (by rw [up 10 4 (by decide)] at q0_; exact q0_))), (fun q0_ => (hT.2.2.2.2.2.2.2.2.1 (by rw [up 10 4 (by decide)] at q0_; exact q0_))), (fun q0_ q1_ => absurd (q1_.symm.trans ((up 10 9 (by decide)).trans (hl2 _ rfl 9 rfl))) (by decide)), (fun q0_ => (hT.2.2.2.2.2.2.2.2.2.2.1 (by rw [up 10 8 (by decide)] at q0_; exact q0_))), (fun q0_ => (hT.2.2.2.2.2.2.2.2.2.2.2 (by rw [up 10 9 (by decide)] at q0_; exact q0_)))⟩, fun _ _ _ => rfl⟩
    | k_ + 11, h_ => exact absurd h_ (by simp)
  rintro l_ ⟨v15, pk, tk, tv, M, NN, g4⟩ a X4 h1 h2 h3 h4 hall hT
  clear BB
  clear Fgeg1
  clear Fgeg3
  clear Fneg3
  clear Fg3_1
  obtain ⟨BB, Fgeg1, Fgeg3, Fneg3, Fg3_1, FP, FH, FM, FE, Fg4, Fgeg4, Fg4s⟩ := hT
  replace Fgeg1 : (V.heap.size ≤ g1) := Fgeg1
  replace Fgeg3 : (V.heap.size ≤ g3) := Fgeg3
  replace Fneg3 : (g1 ≠ g3) := Fneg3
  replace Fg3_1 : (X4.heap[g3]? = some (.cells (piC ((J : Nat) : Int) ((C : Nat) : Int) ((K : Nat) : Int) ((c0 : Nat) : Int) ((c1 : Nat) : Int) su) 61)) := Fg3_1
  clear FP
  replace FH : (His V.heap.size X4 pk tk tv NN (C + 2 + K) (fun i => (Loo.pk (pipP J C K c0 c1) (scr k sc) i : Int)) (rk (pipP J C K c0 c1) (scr k sc) NN).tk) := FH (hall 4 (by decide))
  replace FM : (M ≤ c0 + c1) := FM (hall 4 (by decide))
  replace FE : (PipE J C K c0 c1 (scr k sc) NN) := FE (hall 4 (by decide))
  clear Fg4
  replace Fgeg4 : (V.heap.size ≤ g4) := Fgeg4 (hall 8 (by decide))
  replace Fg4s : (X4.heap[g4]? = some (.cells (hC pk M true false 0 tk) 26)) := Fg4s (hall 9 (by decide))
  clear hall
  replace t3 := (h3 3 (by decide)).trans t3
  have t4 : a.eval (.tmp 4) = .pointer (some ⟨g4, 0, none⟩) := h4 (8, 4) (by decide)
  have t5 : a.eval (.tmp 5) = .int .i64 ((0 : Nat) : Int) := h4 (10, 5) (by decide)
  replace A := (⟨h1, h2.trans A.2⟩ : a.tmps.size = 152 ∧ a.defers = [])
  clear h1 h2 h3 h4
  obtain ⟨tb, tc, etk, htc⟩ := FH.openT (by omega)
  have hN := FE.le
  refine wp_seq ?_
  refine wi_ A (h3_ t3 t4 t5) (rv_ 0 (.pointer (some ⟨g3, 1, none⟩)) (fun a ee => execPi1 rfl (ee _)) (rv_ 1 (.int .i64 ((C : Nat) : Int)) (fun a ee => execLdG rfl (Or.inr (Or.inl rfl)) (ee _) (piC_at Fg3_1).2.1) (rv_ 2 (.int .i64 ((2 + C : Nat) : Int)) (fun a ee => execAd8 (p := 2) (q := C) rfl rfl (ee _) (by omega)) (rv_ 3 (.pointer (some ⟨g3, 2, none⟩)) (fun a ee => execPi2 rfl (ee _)) (rv_ 4 (.int .i64 ((K : Nat) : Int)) (fun a ee => execLdG rfl (Or.inr (Or.inl rfl)) (ee _) (piC_at Fg3_1).2.2.1) (rv_ 5 (.int .i64 ((2 + C + K : Nat) : Int)) (fun a ee => execAd8 (p := 2 + C) (q := K) rfl (ee _) (ee _) (by omega)) (rf_ [(6, .int .i64 ((2 + C + K : Nat) : Int))] (h3_ t3 t4 t5) ?_)))))))
  rintro a A ⟨t6, -⟩ ⟨t3, t4, t5, -⟩
  refine wp_seq ?_
  refine wp_seq ?_
  refine wi_ A (h4_ t3 t4 t5 t6) (rv_ 1 (.bool false) (fun a ee => execDec (execErneq (p := 0) (q := 0) rfl (ee _)) (by decide)) (rv_ 3 (.pointer (some ⟨g4, 2, none⟩)) (fun a ee => execFh2 rfl (ee _)) (rv_ 4 (.bool true) (fun a ee => execLdG rfl (Or.inr (Or.inr (Or.inl rfl))) (ee _) (hC_at Fg4s).2.2.1) (rv_ 5 (.bool false) (fun a ee => execNot8 (b := true) rfl (ee _)) (rv_ 8 (.pointer (some ⟨g4, 3, none⟩)) (fun a ee => execFh3 rfl (ee _)) (rv_ 9 (.bool false) (fun a ee => execLdG rfl (Or.inr (Or.inr (Or.inl rfl))) (ee _) (hC_at Fg4s).2.2.2.1) (rv_ 12 (.pointer (some ⟨g4, 4, none⟩)) (fun a ee => execFh4 rfl (ee _)) (rv_ 13 (.int .i64 ((0 : Nat) : Int)) (fun a ee => execLdG rfl (Or.inr (Or.inl rfl)) (ee _) (hC_at Fg4s).2.2.2.2.1) (rv_ 14 (.bool false) (fun a ee => execDec (execNeN (p := 0) (q := 0) rfl (ee _) rfl) (decide_eq_false (by omega))) (rv_ 17 (.pointer (some ⟨g4, 5, none⟩)) (fun a ee => execFh5 rfl (ee _)) (rv_ 18 (tk) (fun a ee => execLdG rfl (Or.inr (Or.inr (Or.inr (Or.inl rfl)))) (ee _) (hC_at Fg4s).2.2.2.2.2) (rv_ 19 (.int .i64 ((C + 2 + K : Nat) : Int)) (fun a ee => execLnLL (len := C + 2 + K) rfl (ee _) (FH).lists.shp) (rv_ 21 (.bool false) (fun a ee => execDec (execNeN (p := C + 2 + K) (q := 2 + C + K) rfl (ee _) (ee _)) (decide_eq_false (by omega))) (rv_ 24 (.pointer (some ⟨g4, 1, none⟩)) (fun a ee => execFh1 rfl (ee _)) (rv_ 25 (.int .i64 ((M : Nat) : Int)) (fun a ee => execLdG rfl (Or.inr (Or.inl rfl)) (ee _) (hC_at Fg4s).2.1) (rv_ 26 (.pointer (some ⟨g3, 3, none⟩)) (fun a ee => execPi3 rfl (ee _)) (rv_ 27 (.int .i64 ((c0 : Nat) : Int)) (fun a ee => execLdG rfl (Or.inr (Or.inl rfl)) (ee _) (piC_at Fg3_1).2.2.2.1) (rv_ 28 (.pointer (some ⟨g3, 4, none⟩)) (fun a ee => execPi4 rfl (ee _)) (rv_ 29 (.int .i64 ((c1 : Nat) : Int)) (fun a ee => execLdG rfl (Or.inr (Or.inl rfl)) (ee _) (piC_at Fg3_1).2.2.2.2.1) (rv_ 30 (.int .i64 ((c0 + c1 : Nat) : Int)) (fun a ee => execAd8 (p := c0) (q := c1) rfl (ee _) (ee _) (by omega)) (rv_ 31 (.bool false) (fun a ee => execDec (execGtN (p := M) (q := c0 + c1) rfl (ee _) (ee _)) (decide_eq_false (by omega))) (rv_ 34 (.pointer (some ⟨g4, 1, none⟩)) (fun a ee => execFh1 rfl (ee _)) (rv_ 35 (.int .i64 ((M : Nat) : Int)) (fun a ee => execLdG rfl (Or.inr (Or.inl rfl)) (ee _) (hC_at Fg4s).2.1) (rv_ 36 (.bool false) (fun a ee => execDec (execLtW (p := M) (q := 0) rfl (ee _) rfl) (decide_eq_false (by omega))) (rf_ [(64, .bool false)] (h2_ t3 t4) ?_)))))))))))))))))))))))))
  rintro a A ⟨t64, -⟩ ⟨t3, t4, -⟩
  refine wp_cond_false t64 ?_
  refine wp_skip ?_
  clear t64
  refine wp_seq ?_
  refine wp_seq ?_
  refine wi_ A (h2_ t3 t4) (rv_ 0 (.pointer (some ⟨g4, 0, none⟩)) (fun a ee => execFh0 rfl (ee _)) (rv_ 1 (pk) (fun a ee => execLdG rfl (Or.inl rfl) (ee _) (hC_at Fg4s).1) (rv_ 2 (.int .i64 ((NN : Nat) : Int)) (fun a ee => execLenI (len := NN) rfl (ee _) (FH).picks.shp) (rv_ 3 (.pointer (some ⟨g3, 0, none⟩)) (fun a ee => execPi0 rfl (ee _)) (rv_ 4 (.int .i64 ((J : Nat) : Int)) (fun a ee => execLdG rfl (Or.inr (Or.inl rfl)) (ee _) (piC_at Fg3_1).1) (rv_ 5 (.int .i64 ((8 * J : Nat) : Int)) (fun a ee => execMulI (p := 8) (q := J) rfl rfl (ee _) (by omega)) (rv_ 6 (.pointer (some ⟨g3, 1, none⟩)) (fun a ee => execPi1 rfl (ee _)) (rv_ 7 (.int .i64 ((C : Nat) : Int)) (fun a ee => execLdG rfl (Or.inr (Or.inl rfl)) (ee _) (piC_at Fg3_1).2.1) (rv_ 8 (.int .i64 ((3 * C : Nat) : Int)) (fun a ee => execMulI (p := 3) (q := C) rfl rfl (ee _) (by omega)) (rv_ 9 (.int .i64 ((8 * J + 3 * C : Nat) : Int)) (fun a ee => execAd8 (p := 8 * J) (q := 3 * C) rfl (ee _) (ee _) (by omega)) (rv_ 10 (.pointer (some ⟨g3, 2, none⟩)) (fun a ee => execPi2 rfl (ee _)) (rv_ 11 (.int .i64 ((K : Nat) : Int)) (fun a ee => execLdG rfl (Or.inr (Or.inl rfl)) (ee _) (piC_at Fg3_1).2.2.1) (rv_ 12 (.int .i64 ((2 * K : Nat) : Int)) (fun a ee => execMulI (p := 2) (q := K) rfl rfl (ee _) (by omega)) (rv_ 13 (.int .i64 ((8 * J + 3 * C + 2 * K : Nat) : Int)) (fun a ee => execAd8 (p := 8 * J + 3 * C) (q := 2 * K) rfl (ee _) (ee _) (by omega)) (rv_ 14 (.int .i64 ((8 * J + 3 * C + 2 * K + 2 : Nat) : Int)) (fun a ee => execAd8 (p := 8 * J + 3 * C + 2 * K) (q := 2) rfl (ee _) rfl (by omega)) (rv_ 15 (.bool false) (fun a ee => execDec (execGtN (p := NN) (q := 8 * J + 3 * C + 2 * K + 2) rfl (ee _) (ee _)) (decide_eq_false (by omega))) (rf_ [(80, .bool false)] (h2_ t3 t4) ?_)))))))))))))))))
  rintro a A ⟨t80, -⟩ ⟨t3, t4, -⟩
  refine wp_cond_false t80 ?_
  refine wp_skip ?_
  clear t80
  refine wp_seq ?_
  refine wp_seq ?_
  refine wi_ A (h2_ t3 t4) (rv_ 0 (.pointer (some ⟨g4, 5, none⟩)) (fun a ee => execFh5 rfl (ee _)) (rv_ 1 (tk) (fun a ee => execLdG rfl (Or.inr (Or.inr (Or.inr (Or.inl rfl)))) (ee _) (hC_at Fg4s).2.2.2.2.2) (rv_ 2 (.pointer (some ⟨tb, 0 + 0, none⟩)) (fun a ee => execIxLL (k := 0) rfl ((ee _).trans etk) rfl (by omega)) (rv_ 3 (tv 0) (fun a ee => execLdG rfl (Or.inl rfl) (ee _) (SliceV.at (FH).lists etk (by omega))) (rv_ 4 (.int .i64 ((0 : Nat) : Int)) (fun a ee => execLenI (len := 0) rfl (ee _) (len0 ((FH).taken (t := 0) (by omega)) FE.t0)) (rv_ 5 (.bool false) (fun a ee => execDec (execNeN (p := 0) (q := 0) rfl (ee _) rfl) (decide_eq_false (by omega))) (rv_ 7 (.pointer (some ⟨g4, 5, none⟩)) (fun a ee => execFh5 rfl (ee _)) (rv_ 8 (tk) (fun a ee => execLdG rfl (Or.inr (Or.inr (Or.inr (Or.inl rfl)))) (ee _) (hC_at Fg4s).2.2.2.2.2) (rv_ 9 (.pointer (some ⟨g3, 1, none⟩)) (fun a ee => execPi1 rfl (ee _)) (rv_ 10 (.int .i64 ((C : Nat) : Int)) (fun a ee => execLdG rfl (Or.inr (Or.inl rfl)) (ee _) (piC_at Fg3_1).2.1) (rv_ 11 (.int .i64 ((1 + C : Nat) : Int)) (fun a ee => execAd8 (p := 1) (q := C) rfl rfl (ee _) (by omega)) (rv_ 12 (.pointer (some ⟨tb, 0 + (1 + C), none⟩)) (fun a ee => execIxLL (k := 1 + C) rfl ((ee _).trans etk) (ee _) (by omega)) (rv_ 13 (tv (1 + C)) (fun a ee => execLdG rfl (Or.inl rfl) (ee _) (SliceV.at (FH).lists etk (by omega))) (rv_ 14 (.int .i64 ((0 : Nat) : Int)) (fun a ee => execLenI (len := 0) rfl (ee _) (len0 ((FH).taken (t := 1 + C) (by omega)) (by rw [Nat.add_comm]; exact FE.tw))) (rv_ 15 (.bool false) (fun a ee => execDec (execNeN (p := 0) (q := 0) rfl (ee _) rfl) (decide_eq_false (by omega))) (rf_ [(97, .bool false)] (h2_ t3 t4) ?_))))))))))))))))
  rintro a A ⟨t97, -⟩ ⟨t3, t4, -⟩
  refine wp_cond_false t97 ?_
  refine wp_skip ?_
  clear t97
  refine wp_seq ?_
  refine wp_seq ?_
  refine wi_ A (h2_ t3 t4) (rf_ [(7, .int .i64 ((1 : Nat) : Int))] (h2_ t3 t4) ?_)
  rintro a A ⟨t7, -⟩ ⟨t3, t4, -⟩
  replace t7 : a.eval (.tmp 7) = .int .i64 ((1 + 0 : Nat) : Int) := t7
  refine wp_block ?_
  refine wp_loop (fun a W => ∃ (i : Nat), i ≤ C ∧ (a.tmps.size = 152 ∧ a.defers = []) ∧ a.eval (.tmp 3) = .pointer (some ⟨g3, 0, none⟩) ∧ a.eval (.tmp 4) = .pointer (some ⟨g4, 0, none⟩) ∧ a.eval (.tmp 7) = .int .i64 ((1 + i : Nat) : Int) ∧ Below V.heap.size V W ∧ (W.heap[g3]? = some (.cells (piC ((J : Nat) : Int) ((C : Nat) : Int) ((K : Nat) : Int) ((c0 : Nat) : Int) ((c1 : Nat) : Int) su) 61)) ∧ (His V.heap.size W pk tk tv NN (C + 2 + K) (fun i => (Loo.pk (pipP J C K c0 c1) (scr k sc) i : Int)) (rk (pipP J C K c0 c1) (scr k sc) NN).tk) ∧ (W.heap[g4]? = some (.cells (hC pk M true false 0 tk) 26))) (fun a _ => C + 1 - (intOf (a.eval (.tmp 7))).toNat) ⟨0, Nat.zero_le _, A, t3, t4, t7, BB, Fg3_1, FH, Fg4s⟩ ?_
  clear A t3 t4 t7 BB Fg3_1 FH Fg4s a
  rintro a XL13 ⟨i, hii, A, t3, t4, t7, BB, Fg3_1, FH, Fg4s⟩
  have esi := t7
  by_cases lti : i < C
  · refine wp_seq ?_
    refine wp_seq ?_
    refine wi_ A (h3_ t3 t4 t7) (rv_ 1 (.pointer (some ⟨g3, 1, none⟩)) (fun a ee => execPi1 rfl (ee _)) (rv_ 2 (.int .i64 ((C : Nat) : Int)) (fun a ee => execLdG rfl (Or.inr (Or.inl rfl)) (ee _) (piC_at Fg3_1).2.1) (rv_ 3 (.bool true) (fun a ee => execDec (execLeN (p := 1 + i) (q := C) rfl (ee _) (ee _)) (decide_eq_true (by omega))) (rf_ [(101, .bool true)] (h3_ t3 t4 t7) ?_))))
    rintro a A ⟨t101, -⟩ ⟨t3, t4, t7, -⟩
    refine wp_cond_true t101 ?_
    refine wp_skip ?_
    clear t101
    refine wp_seq ?_
    refine wp_block ?_
    have hti : 1 + i < C + 2 + K := by omega
    have hle : ((rk (pipP J C K c0 c1) (scr k sc) NN).tk (1 + i)).length ≤ J := by have := sm_ge (f := fun c => ((rk (pipP J C K c0 c1) (scr k sc) NN).tk (1 + c)).length) lti; rw [FE.cs] at this; exact this
    refine wp_seq ?_
    refine wi_ A (h3_ t3 t4 t7) (rf_ [(8, .int .i64 ((1 : Nat) : Int))] (h3_ t3 t4 t7) ?_)
    rintro a A ⟨t8, -⟩ ⟨t3, t4, t7, -⟩
    replace t8 : a.eval (.tmp 8) = .int .i64 ((1 + 0 : Nat) : Int) := t8
    refine wp_block ?_
    refine wp_loop (fun a W => ∃ (j : Nat), j ≤ ((rk (pipP J C K c0 c1) (scr k sc) NN).tk (1 + i)).length ∧ (a.tmps.size = 152 ∧ a.defers = []) ∧ a.eval (.tmp 3) = .pointer (some ⟨g3, 0, none⟩) ∧ a.eval (.tmp 4) = .pointer (some ⟨g4, 0, none⟩) ∧ a.eval (.tmp 7) = .int .i64 ((1 + i : Nat) : Int) ∧ a.eval (.tmp 8) = .int .i64 ((1 + j : Nat) : Int) ∧ Below V.heap.size V W ∧ (W.heap[g3]? = some (.cells (piC ((J : Nat) : Int) ((C : Nat) : Int) ((K : Nat) : Int) ((c0 : Nat) : Int) ((c1 : Nat) : Int) su) 61)) ∧ (His V.heap.size W pk tk tv NN (C + 2 + K) (fun i => (Loo.pk (pipP J C K c0 c1) (scr k sc) i : Int)) (rk (pipP J C K c0 c1) (scr k sc) NN).tk) ∧ (W.heap[g4]? = some (.cells (hC pk M true false 0 tk) 26))) (fun a _ => ((rk (pipP J C K c0 c1) (scr k sc) NN).tk (1 + i)).length + 1 - (intOf (a.eval (.tmp 8))).toNat) ⟨0, Nat.zero_le _, A, t3, t4, t7, t8, BB, Fg3_1, FH, Fg4s⟩ ?_
    clear A t3 t4 t7 t8 BB Fg3_1 FH Fg4s a
    rintro a XL16 ⟨j, hij, A, t3, t4, t7, t8, BB, Fg3_1, FH, Fg4s⟩
    have esj := t8
    by_cases ltj : 1 + j < ((rk (pipP J C K c0 c1) (scr k sc) NN).tk (1 + i)).length
    · refine wp_seq ?_
      refine wp_seq ?_
      refine wi_ A (h4_ t3 t4 t7 t8) (rv_ 1 (.pointer (some ⟨g4, 5, none⟩)) (fun a ee => execFh5 rfl (ee _)) (rv_ 2 (tk) (fun a ee => execLdG rfl (Or.inr (Or.inr (Or.inr (Or.inl rfl)))) (ee _) (hC_at Fg4s).2.2.2.2.2) (rv_ 4 (.pointer (some ⟨tb, 0 + (1 + i), none⟩)) (fun a ee => execIxLL (k := 1 + i) rfl ((ee _).trans etk) (ee _) (by omega)) (rv_ 5 (tv (1 + i)) (fun a ee => execLdG rfl (Or.inl rfl) (ee _) (SliceV.at (FH).lists etk (by omega))) (rv_ 6 (.int .i64 ((((rk (pipP J C K c0 c1) (scr k sc) NN).tk (1 + i)).length : Nat) : Int)) (fun a ee => execLenI (len := ((rk (pipP J C K c0 c1) (scr k sc) NN).tk (1 + i)).length) rfl (ee _) (((FH).taken hti).shp)) (rv_ 7 (.bool true) (fun a ee => execDec (execLtW (p := 1 + j) (q := ((rk (pipP J C K c0 c1) (scr k sc) NN).tk (1 + i)).length) rfl (ee _) (ee _)) (decide_eq_true (by omega))) (rf_ [(111, .bool true)] (h4_ t3 t4 t7 t8) ?_)))))))
      rintro a A ⟨t111, -⟩ ⟨t3, t4, t7, t8, -⟩
      refine wp_cond_true t111 ?_
      refine wp_skip ?_
      clear t111
      refine wp_seq ?_
      refine wp_block ?_
      obtain ⟨xb, xo, xc, ex, -, -⟩ := ints_open (FH.taken hti) (by omega)
      refine wp_seq ?_
      refine wj_ [0, 1, 2, 3, 4, 5, 6, 7, 8, 9, 10, 11, 12, 13, 14, 15, 16, 17] [] [1, 4, 7, 9, 12, 16] [] A (h4_ t3 t4 t7 t8) (fun X18 bD => ?_)
      refine dw_ 0 (.pointer (some ⟨g4, 5, none⟩)) (fun a X ee => execFh5 rfl (ee _)) (dv_ 1 (tk) (fun a X ee hb => execLdG rfl (Or.inr (Or.inr (Or.inr (Or.inl rfl)))) (ee _) (hC_at (on9 Fg4s hb)).2.2.2.2.2) (dw_ 3 (.pointer (some ⟨tb, 0 + (1 + i), none⟩)) (fun a X ee => execIxLL (k := 1 + i) rfl ((ee _).trans etk) (ee _) (by omega)) (dv_ 4 (tv (1 + i)) (fun a X ee hb => execLdG rfl (Or.inl rfl) (ee _) (SliceV.at ((FH.on hb)).lists etk (by omega))) (dw_ 6 (.pointer (some ⟨xb, xo + (1 + j), none⟩)) (fun a X ee => execIdxN (k := 1 + j) rfl ((ee _).trans ex) (ee _) (by omega)) (dv_ 7 (.int .i64 (((rk (pipP J C K c0 c1) (scr k sc) NN).tk (1 + i)).getD (1 + j) 0)) (fun a X ee hb => execLdG rfl (Or.inr (Or.inl rfl)) (ee _) (SliceI.at (((FH.on hb)).taken hti) ex (by omega))) (dw_ 8 (.pointer (some ⟨g4, 5, none⟩)) (fun a X ee => execFh5 rfl (ee _)) (dv_ 9 (tk) (fun a X ee hb => execLdG rfl (Or.inr (Or.inr (Or.inr (Or.inl rfl)))) (ee _) (hC_at (on9 Fg4s hb)).2.2.2.2.2) (dw_ 11 (.pointer (some ⟨tb, 0 + (1 + i), none⟩)) (fun a X ee => execIxLL (k := 1 + i) rfl ((ee _).trans etk) (ee _) (by omega)) (dv_ 12 (tv (1 + i)) (fun a X ee hb => execLdG rfl (Or.inl rfl) (ee _) (SliceV.at ((FH.on hb)).lists etk (by omega))) (dw_ 14 (.int .i64 ((j : Nat) : Int)) (fun a X ee => (show _ = _ from by rw [show ((j : Nat) : Int) = ((1 + j - 1 : Nat) : Int) by omega]; exact By8.execSubI (p := 1 + j) (q := 1) rfl (ee _) rfl (by omega) (by omega))) (dw_ 15 (.pointer (some ⟨xb, xo + j, none⟩)) (fun a X ee => execIdxN (k := j) rfl ((ee _).trans ex) (ee _) (by omega)) (dv_ 16 (.int .i64 (((rk (pipP J C K c0 c1) (scr k sc) NN).tk (1 + i)).getD j 0)) (fun a X ee hb => execLdG rfl (Or.inr (Or.inl rfl)) (ee _) (SliceI.at (((FH.on hb)).taken hti) ex (by omega))) (dw_ 17 (.bool false) (fun a X ee => execDec (exIleq3 (p := (((rk (pipP J C K c0 c1) (scr k sc) NN).tk (1 + i)).getD (1 + j) 0)) (q := (((rk (pipP J C K c0 c1) (scr k sc) NN).tk (1 + i)).getD j 0)) rfl (ee _) (ee _)) (decide_eq_false (rising (FE.up i lti) ltj))) (dz_ [(131, .bool false)] (h4_ t3 t4 t7 t8) ?_))))))))))))))
      rintro a A ⟨t131, -⟩ ⟨t3, t4, t7, t8, -⟩
      replace Fg3_1 := (on9 Fg3_1 bD)
      replace FH := (FH.on bD)
      replace Fg4s := (on9 Fg4s bD)
      replace BB := BB.trans (bD.mono BB.size)
      clear bD
      refine wp_cond_false t131 ?_
      refine wp_skip ?_
      clear t131
      refine wi_ A (h4_ t3 t4 t7 t8) (rv_ 1 (.int .i64 ((1 + j + 1 : Nat) : Int)) (fun a ee => execAd8 (p := 1 + j) (q := 1) rfl (ee _) rfl (by omega)) (rf_ [(8, .int .i64 ((1 + j + 1 : Nat) : Int))] (h3_ t3 t4 t7) ?_))
      rintro a A ⟨t8, -⟩ ⟨t3, t4, t7, -⟩
      replace t8 : a.eval (.tmp 8) = .int .i64 ((1 + (j + 1) : Nat) : Int) := t8
      exact ⟨⟨j + 1, by omega, A, t3, t4, t7, t8, BB, Fg3_1, FH, Fg4s⟩, by show ((rk (pipP J C K c0 c1) (scr k sc) NN).tk (1 + i)).length + 1 - (intOf (a.eval (.tmp 8))).toNat < ((rk (pipP J C K c0 c1) (scr k sc) NN).tk (1 + i)).length + 1 - (intOf (Act.eval _ (.tmp 8))).toNat; rw [t8, esj]; show ((rk (pipP J C K c0 c1) (scr k sc) NN).tk (1 + i)).length + 1 - (1 + (j + 1)) < ((rk (pipP J C K c0 c1) (scr k sc) NN).tk (1 + i)).length + 1 - (1 + j); omega⟩
    · refine wp_seq ?_
      refine wp_seq ?_
      refine wi_ A (h4_ t3 t4 t7 t8) (rv_ 1 (.pointer (some ⟨g4, 5, none⟩)) (fun a ee => execFh5 rfl (ee _)) (rv_ 2 (tk) (fun a ee => execLdG rfl (Or.inr (Or.inr (Or.inr (Or.inl rfl)))) (ee _) (hC_at Fg4s).2.2.2.2.2) (rv_ 4 (.pointer (some ⟨tb, 0 + (1 + i), none⟩)) (fun a ee => execIxLL (k := 1 + i) rfl ((ee _).trans etk) (ee _) (by omega)) (rv_ 5 (tv (1 + i)) (fun a ee => execLdG rfl (Or.inl rfl) (ee _) (SliceV.at (FH).lists etk (by omega))) (rv_ 6 (.int .i64 ((((rk (pipP J C K c0 c1) (scr k sc) NN).tk (1 + i)).length : Nat) : Int)) (fun a ee => execLenI (len := ((rk (pipP J C K c0 c1) (scr k sc) NN).tk (1 + i)).length) rfl (ee _) (((FH).taken hti).shp)) (rv_ 7 (.bool false) (fun a ee => execDec (execLtW (p := 1 + j) (q := ((rk (pipP J C K c0 c1) (scr k sc) NN).tk (1 + i)).length) rfl (ee _) (ee _)) (decide_eq_false (by omega))) (rf_ [(111, .bool false)] (h4_ t3 t4 t7 t8) ?_)))))))
      rintro a A ⟨t111, -⟩ ⟨t3, t4, t7, t8, -⟩
      refine wp_cond_false t111 ?_
      refine wp_exit ?_
      first | with_reducible refine exit_in ?_ | with_reducible refine exit_then (exit_in ?_) | with_reducible refine exit_then (exit_then (exit_in ?_)) | refine exit_in ?_ | refine exit_then (exit_in ?_) | refine exit_then (exit_then (exit_in ?_))
      clear t111 esj
      refine wi_ A (h3_ t3 t4 t7) (rv_ 1 (.int .i64 ((1 + i + 1 : Nat) : Int)) (fun a ee => execAd8 (p := 1 + i) (q := 1) rfl (ee _) rfl (by omega)) (rf_ [(7, .int .i64 ((1 + i + 1 : Nat) : Int))] (h2_ t3 t4) ?_))
      rintro a A ⟨t7, -⟩ ⟨t3, t4, -⟩
      replace t7 : a.eval (.tmp 7) = .int .i64 ((1 + (i + 1) : Nat) : Int) := t7
      exact ⟨⟨i + 1, by omega, A, t3, t4, t7, BB, Fg3_1, FH, Fg4s⟩, by show C + 1 - (intOf (a.eval (.tmp 7))).toNat < C + 1 - (intOf (Act.eval _ (.tmp 7))).toNat; rw [t7, esi]; show C + 1 - (1 + (i + 1)) < C + 1 - (1 + i); omega⟩
  · refine wp_seq ?_
    refine wp_seq ?_
    refine wi_ A (h3_ t3 t4 t7) (rv_ 1 (.pointer (some ⟨g3, 1, none⟩)) (fun a ee => execPi1 rfl (ee _)) (rv_ 2 (.int .i64 ((C : Nat) : Int)) (fun a ee => execLdG rfl (Or.inr (Or.inl rfl)) (ee _) (piC_at Fg3_1).2.1) (rv_ 3 (.bool false) (fun a ee => execDec (execLeN (p := 1 + i) (q := C) rfl (ee _) (ee _)) (decide_eq_false (by omega))) (rf_ [(101, .bool false)] (h3_ t3 t4 t7) ?_))))
    rintro a A ⟨t101, -⟩ ⟨t3, t4, t7, -⟩
    refine wp_cond_false t101 ?_
    refine wp_exit ?_
    first | with_reducible refine exit_in ?_ | with_reducible refine exit_then (exit_in ?_) | with_reducible refine exit_then (exit_then (exit_in ?_)) | refine exit_in ?_ | refine exit_then (exit_in ?_) | refine exit_then (exit_then (exit_in ?_))
    clear t101 esi
    refine wp_seq ?_
    refine wj_ [0, 1, 2, 3, 4, 5, 6, 7, 8, 9, 10, 11, 12, 13, 14, 15, 16, 17, 18, 19, 20] [8, 18] [1, 3, 7, 11, 13, 17] [] A (h3_ t3 t4 t7) (fun X20_0 bD => ?_)
    refine dw_ 0 (.pointer (some ⟨g4, 5, none⟩)) (fun a X ee => execFh5 rfl (ee _)) (dv_ 1 (tk) (fun a X ee hb => execLdG rfl (Or.inr (Or.inr (Or.inr (Or.inl rfl)))) (ee _) (hC_at (on9 Fg4s hb)).2.2.2.2.2) (dw_ 2 (.pointer (some ⟨g3, 1, none⟩)) (fun a X ee => execPi1 rfl (ee _)) (dv_ 3 (.int .i64 ((C : Nat) : Int)) (fun a X ee hb => execLdG rfl (Or.inr (Or.inl rfl)) (ee _) (piC_at (on9 Fg3_1 hb)).2.1) (dw_ 4 (.int .i64 ((1 + C : Nat) : Int)) (fun a X ee => execAd8 (p := 1) (q := C) rfl rfl (ee _) (by omega)) (dw_ 5 (.slice (some ⟨tb, 0 + 1, none⟩) (1 + C - 1) (tc - 1)) (fun a X ee => execSlLLa rfl ((ee _).trans etk) rfl (ee _) (slLLa tb _ tc 1 (1 + C) (by omega) (by omega) X)) (dw_ 6 (.pointer (some ⟨g3, 0, none⟩)) (fun a X ee => execPi0 rfl (ee _)) (dv_ 7 (.int .i64 ((J : Nat) : Int)) (fun a X ee hb => execLdG rfl (Or.inr (Or.inl rfl)) (ee _) (piC_at (on9 Fg3_1 hb)).1) (dc_ 8 (once19 (1 + C - 1) J _ (fun t => (rk (pipP J C K c0 c1) (scr k sc) NN).tk (1 + t)) _ X20_0 (((FH.on bD)).lists.sub etk (by omega) (by omega)) (fun t ht => (((FH.on bD)).taken (t := 1 + t) (by omega))) (by rw [Nat.add_sub_cancel_left]; exact FE.cs) (fun z => by rw [Nat.add_sub_cancel_left]; exact FE.cx z) (by omega) (by omega)) (cb_ fun X20_1 bQ => ?_)))))))))
    replace bD := bD.trans (bQ.mono bD.size)
    clear bQ
    refine ⟨Or.inr bD, ?_⟩
    refine dw_ 10 (.pointer (some ⟨g4, 5, none⟩)) (fun a X ee => execFh5 rfl (ee _)) (dv_ 11 (tk) (fun a X ee hb => execLdG rfl (Or.inr (Or.inr (Or.inr (Or.inl rfl)))) (ee _) (hC_at (on9 Fg4s hb)).2.2.2.2.2) (dw_ 12 (.pointer (some ⟨g3, 1, none⟩)) (fun a X ee => execPi1 rfl (ee _)) (dv_ 13 (.int .i64 ((C : Nat) : Int)) (fun a X ee hb => execLdG rfl (Or.inr (Or.inl rfl)) (ee _) (piC_at (on9 Fg3_1 hb)).2.1) (dw_ 14 (.int .i64 ((2 + C : Nat) : Int)) (fun a X ee => execAd8 (p := 2) (q := C) rfl rfl (ee _) (by omega)) (dw_ 15 (.slice (some ⟨tb, 0 + (2 + C), none⟩) (C + 2 + K - (2 + C)) (tc - (2 + C))) (fun a X ee => execSlLLb rfl ((ee _).trans etk) (ee _) (slLLb tb _ tc (2 + C) (by omega) (by omega) X)) (dw_ 16 (.pointer (some ⟨g3, 0, none⟩)) (fun a X ee => execPi0 rfl (ee _)) (dv_ 17 (.int .i64 ((J : Nat) : Int)) (fun a X ee hb => execLdG rfl (Or.inr (Or.inl rfl)) (ee _) (piC_at (on9 Fg3_1 hb)).1) (dc_ 18 (once19 (C + 2 + K - (2 + C)) J _ (fun t => (rk (pipP J C K c0 c1) (scr k sc) NN).tk (2 + C + t)) _ X20_1 (((FH.on bD)).lists.sub etk (by omega) (by omega)) (fun t ht => (((FH.on bD)).taken (t := 2 + C + t) (by omega))) (by rw [show C + 2 + K - (2 + C) = K by omega, Nat.add_comm 2 C]; exact FE.ks) (fun z => by rw [show C + 2 + K - (2 + C) = K by omega, Nat.add_comm 2 C]; exact FE.kx z) (by omega) (by omega)) (cb_ fun X20 bQ => ?_)))))))))
    replace bD := bD.trans (bQ.mono bD.size)
    clear bQ
    refine ⟨Or.inr bD, ?_⟩
    refine dy_ [(2, .bool true)] ?_
    rintro a A ⟨t2, -⟩
    replace Fg3_1 := (on9 Fg3_1 bD)
    replace FH := (FH.on bD)
    replace Fg4s := (on9 Fg4s bD)
    replace BB := BB.trans (bD.mono BB.size)
    clear bD
    refine wp_ret ?_
    refine bodyPost_ret (results_tmp rfl _ _ _) A.2 ⟨?_, BB⟩
    show Ending.returned (a.eval (.tmp 2)) = _
    rw [t2]
end Go.Proofs.Ytcgkelgncehekaa.Loo
