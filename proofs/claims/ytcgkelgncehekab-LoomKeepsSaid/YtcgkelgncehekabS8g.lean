import Derived.Test.YtcgkelgncehekabS8f
namespace Go.Proofs.Ytcgkelgncehekab.Loo
open Go.RowKit Gf8 Aes By8 Cel Cf Win Drw Prm
/- LoomKeeps, the rest. Written by tools/mkS8g.py. -/

def gF (m : Nat) (sc : Nat → Int) : Nat → Int := catI m sc (fun j => if j = 0 then 73 else 74)
theorem execOfz {o : Oper} {a : Act} {w : World} {x : Operand} {b k : Nat} (ho : o.op = .fieldAddr 38 x 0) (hx : a.eval x = .pointer (some ⟨b, k, none⟩)) : (execOp a.eval o).run Try.prog w = .ok (.value (.pointer (some ⟨b, k, none⟩))) w := by
  unfold execOp
  simp only [ho, hx]
  simp [go_sem]
theorem own_saved {W X : World} {F : Nat → Prop} {B n s : Nat} {t : TypeId} {v : Value} {xs : List Value} (h : W.ownsRow B t s v n xs) (sv : Saved F W X) (hF : ∀ b, F b → b < B) : X.ownsRow B t s v n xs := by
  refine ⟨h.1, ?_⟩
  rcases h.2 with h2 | ⟨g, cap, cur, e, hB, hg, h3⟩
  · exact Or.inl h2
  · exact Or.inr ⟨g, cap, cur, e, hB, by rw [sv.block g (Array.getElem?_eq_some_iff.1 hg).1 (fun q => by have := hF g q; omega)]; exact hg, h3⟩
theorem His.saved {W X : World} {F : Nat → Prop} {B N n : Nat} {pk tk : Value} {tv : Nat → Value} {pf : Nat → Int} {tl : Nat → List Int} (h : His B W pk tk tv N n pf tl) (sv : Saved F W X) (hF : ∀ b, F b → b < B) : His B X pk tk tv N n pf tl :=
  ⟨⟨fun t ht => own_saved (h.fm.rows t ht) sv hF, h.fm.dis⟩, own_saved h.tk sv hF, h.pfit, h.tfit⟩
theorem own_at {W : World} {B n : Nat} {t : TypeId} {v : Value} {xs : List Value} (h : W.ownsRow B t 1 v n xs) (h0 : 0 < n) : ∃ g c cur, v = .slice (some ⟨g, 0, none⟩) n c ∧ W.heap[g]? = some (.cells cur t) ∧ ∀ j, j < n → cur[j]? = xs[j]? := by
  rcases h.2 with ⟨_, e⟩ | ⟨g, cap, cur, e, _, hg, h1, _, _, h4⟩
  · omega
  · exact ⟨g, cap, cur, e, hg, fun j hj => by rw [← h4, List.getElem?_take, if_pos (by omega), Array.getElem?_toList]⟩
set_option maxRecDepth 100000 in
set_option maxHeartbeats 4000000 in
/-- LoomKeeps, from region 12 on. -/
theorem keepsB (I : LImpl) (p : Pl) (cv tz v1 : Value) (xz : Nat → Value) (m1 : Nat) (sc : Nat → Int) (V : World) (hp : PlA V (.agg #[cv, tz]) p) (hcv : SliceI V cv p.d p.cap) (htv : SliceV V tz p.n xz) (hxz : ∀ t, t < p.n → SliceO V (xz t) (p.ln t) (p.op t)) (hv1 : SliceI V v1 m1 sc) (hz1 : Nz v1) (hm1 : m1 ≤ 17592186043904) (hk : chk p = 0) : ∀ (a : Act) (S : World) (g2 g6 gc cc : Nat) (tl : Value) (x : Nat → Nat × Nat), (a.tmps.size = 260 ∧ a.defers = []) → a.eval (.tmp 1) = v1 → a.eval (.tmp 2) = .pointer (some ⟨g2, 0, none⟩) → a.eval (.tmp 5) = .slice (some ⟨gc, 0, none⟩) (p.d + 2) cc → a.eval (.tmp 6) = .pointer (some ⟨g6, 0, none⟩) → Below V.heap.size V S → p.d + 2 ≤ cc → (S.heap[g2]? = some (.cells (#[cv, tz]) 25)) → (S.heap[g6]? = some (.cells (#[.slice (some ⟨gc, 0, none⟩) p.d cc, tl]) 25)) → (S.ownsRow V.heap.size 3 1 (.slice (some ⟨gc, 0, none⟩) (p.d + 2) cc) (p.d + 2) (intsL (p.d + 2) (kF p))) → (S.ownsRow V.heap.size 36 1 tl (p.n) (lL (yv p x) (p.n))) → (∀ t, t < p.n → S.ownsRow V.heap.size 38 3 (xv p x t) (p.ln t + 2) (opL (p.ln t + 2) (oF p t))) → (findR 12 (Try.f4.body.getD .skip)).wp Try.prog (bodyPost Try.prog Try.f4 fun e w' => e = .returned (.bool true) ∧ Below V.heap.size V w') a S := by
  intro a S g2 g6 gc cc tl x A t1 t2 t5 t6 BV hcc Fg2 Fg6 FC FT FR
  replace hv1 := hv1.on BV
  replace hp := hp.on BV
  replace hcv := hcv.on BV
  replace htv := htv.on BV
  replace hxz : ∀ t, t < p.n → SliceO S (xz t) (p.ln t) (p.op t) := fun t ht => (hxz t ht).on BV
  have hok := chk_okp hk
  have hd := hok.d
  have hn := hok.n
  have hcf : ∀ j, j < p.d + 2 → I64 (kF p j) := fun j hj => by
    show I64 (if j < p.d then p.cap j else if j - p.d = 0 then 71 else 72)
    split
    · rename_i q; exact hcv.2 j q
    · split <;> exact ⟨by omega, by omega⟩
  have hR38 : SliceI S (.slice (some ⟨gc, 0, none⟩) p.d cc) p.d p.cap := (SliceI.pre (own_ints FC hcf) (by omega)).cg fun j hj => by unfold kF catI; exact if_pos hj
  have hof : ∀ t, t < p.n → ∀ j, j < p.ln t + 2 → I64 (oF p t j).k ∧ I64 (oF p t j).a ∧ I64 (oF p t j).b := fun t ht j hj => by
    unfold oF
    split
    · rename_i q; exact (hxz t ht).2 j q
    · split <;> decide
  have hin : PlA S (.agg #[.slice (some ⟨gc, 0, none⟩) p.d cc, tl]) p := ⟨_, _, yv p x, rfl, hR38, own_vals FT, fun t ht => ((own_ops (FR t ht) (hof t ht)).pre (by omega)).cg fun j hj => if_pos hj⟩
  have hgf : ∀ j, j < m1 + 2 → I64 (gF m1 sc j) := fun j hj => by
    show I64 (if j < m1 then sc j else if j - m1 = 0 then 73 else 74)
    split
    · rename_i q; exact hv1.2 j q
    · split <;> exact ⟨by omega, by omega⟩
  obtain ⟨N, hR⟩ := run_ex p (scr m1 sc)
  have hle := hR.le
  have hBd := rk_bnd hok hR.go N (Nat.le_refl _)
  obtain ⟨M, eM⟩ : ∃ M, mx p (scr m1 sc) N = M := ⟨_, rfl⟩
  obtain ⟨l, el⟩ : ∃ l, (rk p (scr m1 sc) N).lt = l := ⟨_, rfl⟩
  obtain ⟨tq, et⟩ : ∃ tq, (rk p (scr m1 sc) N).tk = tq := ⟨_, rfl⟩
  obtain ⟨en, eE⟩ : ∃ en, (!live p (rk p (scr m1 sc) N)) = en := ⟨_, rfl⟩
  obtain ⟨st, eS⟩ : ∃ st, (live p (rk p (scr m1 sc) N) && decide (mayL p (rk p (scr m1 sc) N) = [])) = st := ⟨_, rfl⟩
  have htl : ∀ t, (tq t).length ≤ 65536 := fun t => by have := hBd.ln t; rw [et] at this; omega
  have k0 : kF p p.d = 71 := by unfold kF catI; rw [if_neg (by omega), Nat.sub_self]; rfl
  have k1 : kF p (p.d + 1) = 72 := by unfold kF catI; rw [if_neg (by omega), Nat.add_sub_cancel_left]; rfl
  have f0 : gF m1 sc m1 = 73 := by unfold gF catI; rw [if_neg (by omega), Nat.sub_self]; rfl
  have f1 : gF m1 sc (m1 + 1) = 74 := by unfold gF catI; rw [if_neg (by omega), Nat.add_sub_cancel_left]; rfl
  have BB : Below S.heap.size S S := Below.refl _ _
  refine wp_seq ?_
  obtain ⟨g71, egg71⟩ : ∃ z_ : Nat, S.heap.size = z_ := ⟨_, rfl⟩
  refine wi_ A (h4_ t1 t2 t5 t6) (rs_ 0 (fun a ee => ?_))
  refine stepV rfl rfl (execBs0I rfl) ⟨.slice (some ⟨g71, 0, none⟩) 0 0, ⟨_, rfl, by subst egg71; rfl⟩, fun X12_1 hX => ?_⟩
  have bQ : Below S.heap.size S X12_1 := by subst hX egg71; exact (belNew S _)
  have Fg71 : (X12_1.heap[g71]? = some (.cells (#[]) 3)) := by subst hX egg71; exact heapNew S _
  have Fgeg71 : (S.heap.size ≤ g71) := by subst hX egg71; exact (BB).size
  replace BB := BB.trans (bQ.mono BB.size)
  clear bQ hX egg71 ee a
  refine rs_ 2 (fun a ee => ?_)
  refine stepApp0 rfl rfl rfl (ee _) (ee _) Fg71 Fgeg71 (hv1.on BB) hz1 hm1 fun v73 X12_2 own' hb => ⟨_, ⟨_, rfl, rfl⟩, eqw ?_⟩
  have bQ : Below X12_1.heap.size X12_1 X12_2 := hb
  have FXs : (X12_2.ownsRow S.heap.size 3 1 v73 m1 (intsL m1 sc)) := own'
  replace BB := BB.trans (bQ.mono BB.size)
  clear Fg71 bQ ee a
  obtain ⟨g74, egg74⟩ : ∃ z_ : Nat, X12_2.heap.size = z_ := ⟨_, rfl⟩
  refine rs_ 3 (fun a ee => ?_)
  refine stepV rfl rfl (execBs2I (fun j => if j = 0 then 73 else 74) rfl rfl rfl) ⟨.slice (some ⟨g74, 0, none⟩) 2 2, ⟨_, rfl, by subst egg74; rfl⟩, fun X12_3 hX => ?_⟩
  have bQ : Below X12_2.heap.size X12_2 X12_3 := by subst hX egg74; exact (belNew X12_2 _)
  have Fg74 : (X12_3.heap[g74]? = some (.cells (iR 2 (fun j => if j = 0 then 73 else 74)) 3)) := by subst hX egg74; exact heapNew X12_2 _
  have Fgeg74 : (S.heap.size ≤ g74) := by subst hX egg74; exact (BB).size
  replace FXs := (ownD_below FXs bQ)
  replace BB := BB.trans (bQ.mono BB.size)
  clear bQ hX egg74 ee a
  refine rs_ 4 (fun a ee => ?_)
  refine stepApp2 rfl rfl rfl (ee _) (ee _) FXs (iR_slice Fg74 (by omega) (fun j_ _ => by split <;> exact ⟨by omega, by omega⟩)) ⟨_, _, rfl⟩ (by omega) (by omega) (BB).size fun v75 X12 own' gr => ⟨_, ⟨_, rfl, rfl⟩, eqw ?_⟩
  obtain ⟨BB, FF⟩ : Below S.heap.size S X12 ∧ (X12.ownsRow S.heap.size 3 1 v75 (m1 + 2) (intsL (m1 + 2) (gF m1 sc))) := ⟨(BB).grown gr (BB).size (fun k hk => (FXs.lt k hk).1), own'⟩
  clear FXs Fg74 ee a
  refine rf_ [(9, v75)] (h4_ t1 t2 t5 t6) ?_
  rintro a A ⟨t9, -⟩ ⟨t1, t2, t5, t6, -⟩
  obtain ⟨gf, cf, e75, hcf2⟩ := own_openz FF (by omega)
  subst e75
  have Bz := BB
  clear BB
  have BB : Below X12.heap.size X12 X12 := Below.refl _ _
  replace Fg2 := (on9 Fg2 Bz)
  replace Fg6 := (on9 Fg6 Bz)
  replace FC := (ownD_below FC Bz)
  replace FT := (ownD_below FT Bz)
  replace FR := (fun t ht => ownD_below (FR t ht) Bz)
  replace hv1 := hv1.on Bz
  replace hp := hp.on Bz
  replace hcv := hcv.on Bz
  replace hin := hin.on Bz
  replace htv := htv.on Bz
  replace hR38 := hR38.on Bz
  replace hxz : ∀ t, t < p.n → SliceO X12 (xz t) (p.ln t) (p.op t) := fun t ht => (hxz t ht).on Bz
  replace BV := BV.trans (Bz.mono BV.size)
  clear Bz
  have hfs : SliceI X12 (.slice (some ⟨gf, 0, none⟩) m1 cf) m1 sc := (SliceI.pre (own_ints FF hgf) (by omega)).cg fun j hj => by unfold gF catI; exact if_pos hj
  have Fg6P := Fg6
  have hinP := hin
  have hfsP := hfs
  have BU : Below X12.heap.size X12 X12 := Below.refl _ _
  have BVP := BV
  refine wp_seq ?_
  refine wp_region_stB (σ := Value × Value × (Nat → Value) × Nat) 260 [(0, 77), (1, 78), (2, 79), (3, 80), (4, 81), (5, 82), (6, 76), (7, 83), (8, 84), (9, 10), (11, 11)] (fun l_ s X => Below X12.heap.size X12 X ∧ (l_ 5 = true → (His X12.heap.size X s.1 s.2.1 s.2.2.1 N p.n (fun i => (Loo.pk p (scr m1 sc) i : Int)) tq)) ∧ (l_ 9 = true → l_ 10 = false → (X.heap[s.2.2.2]? = some (.cells (hC (.slice none 0 0) 0 false false 0 (.slice none 0 0)) 29))) ∧ (l_ 9 = true → (X12.heap.size ≤ s.2.2.2)) ∧ (l_ 10 = true → (X.heap[s.2.2.2]? = some (.cells (hC s.1 M en st l s.2.1) 29)))) (fun s => fun i_ => match i_ with | 0 => .agg #[.slice (some ⟨gc, 0, none⟩) p.d cc, tl] | 1 => .slice (some ⟨gf, 0, none⟩) (m1 + 2) cf | 2 => v1 | 3 => .int .i64 ((m1 : Nat) : Int) | 4 => .slice (some ⟨gf, 0, none⟩) m1 cf | 5 => .tuple #[.agg (hC s.1 M en st l s.2.1), .int .i64 ((0 : Nat) : Int)] | 6 => .tuple #[.agg (hC s.1 M en st l s.2.1), .int .i64 ((0 : Nat) : Int)] | 7 => .agg (hC s.1 M en st l s.2.1) | 8 => .int .i64 ((0 : Nat) : Int) | 9 => .pointer (some ⟨s.2.2.2, 0, none⟩) | 10 => undef | 11 => .int .i64 ((0 : Nat) : Int) | _ => undef) (undef, undef, fun _ => undef, 0) (by kernel_rfl) (by kernel_rfl) A.1 (by kernel_rfl) (by decide) (by decide) ⟨(BB.drew), (fun q0_ => by cases q0_), (fun q0_ q1_ => by cases q0_), (fun q0_ => by cases q0_), (fun q0_ => by cases q0_)⟩ ?_ ?_
  · intro i_ hi_ l_ s a X hl_ hf hdep hl2 hcl hno hT
    have up : ∀ j x, x ≠ j → updB l_ j x = l_ x := fun j x hj => by unfold updB; simp [hj]
    match i_, hi_ with
    | 0, _ => exact stepV rfl rfl (execLdPz rfl ((hf 6 (by decide)).trans t6) (on9 Fg6 hT.1)) ⟨s, ⟨_, rfl, rfl⟩, ⟨hT.1, (fun q0_ => absurd (hl_.symm.trans (hcl 5 _ rfl ((up 0 5 (by decide)).symm.trans q0_) 0 rfl)) (by decide)), (fun q0_ q1_ => (hT.2.2.1 (by rw [up 0 9 (by decide)] at q0_; exact q0_) (by rw [up 0 10 (by decide)] at q1_; exact q1_))), (fun q0_ => (hT.2.2.2.1 (by rw [up 0 9 (by decide)] at q0_; exact q0_))), (fun q0_ => absurd (hl_.symm.trans (hcl 10 _ rfl ((up 0 10 (by decide)).symm.trans q0_) 0 rfl)) (by decide))⟩, fun _ _ _ => rfl⟩
    | 1, _ => exact stepV rfl rfl (execMvB rfl ((hf 9 (by decide)).trans t9)) ⟨s, ⟨_, rfl, rfl⟩, ⟨hT.1, (fun q0_ => absurd (hl_.symm.trans (hcl 4 _ rfl (hcl 5 _ rfl ((up 1 5 (by decide)).symm.trans q0_) 4 rfl) 1 rfl)) (by decide)), (fun q0_ q1_ => (hT.2.2.1 (by rw [up 1 9 (by decide)] at q0_; exact q0_) (by rw [up 1 10 (by decide)] at q1_; exact q1_))), (fun q0_ => (hT.2.2.2.1 (by rw [up 1 9 (by decide)] at q0_; exact q0_))), (fun q0_ => absurd (hl_.symm.trans (hcl 10 _ rfl ((up 1 10 (by decide)).symm.trans q0_) 1 rfl)) (by decide))⟩, fun _ _ _ => rfl⟩
    | 2, _ => exact stepV rfl rfl (execMvB rfl ((hf 1 (by decide)).trans t1)) ⟨s, ⟨_, rfl, rfl⟩, ⟨hT.1, (fun q0_ => absurd (hl_.symm.trans (hcl 3 _ rfl (hcl 4 _ rfl (hcl 5 _ rfl ((up 2 5 (by decide)).symm.trans q0_) 4 rfl) 3 rfl) 2 rfl)) (by decide)), (fun q0_ q1_ => (hT.2.2.1 (by rw [up 2 9 (by decide)] at q0_; exact q0_) (by rw [up 2 10 (by decide)] at q1_; exact q1_))), (fun q0_ => (hT.2.2.2.1 (by rw [up 2 9 (by decide)] at q0_; exact q0_))), (fun q0_ => absurd (hl_.symm.trans (hcl 10 _ rfl ((up 2 10 (by decide)).symm.trans q0_) 2 rfl)) (by decide))⟩, fun _ _ _ => rfl⟩
    | 3, _ => exact stepV rfl rfl (execLenI (len := m1) rfl (hdep _ rfl 2 rfl _ rfl _ rfl) hv1.shp) ⟨s, ⟨_, rfl, rfl⟩, ⟨hT.1, (fun q0_ => absurd (hl_.symm.trans (hcl 4 _ rfl (hcl 5 _ rfl ((up 3 5 (by decide)).symm.trans q0_) 4 rfl) 3 rfl)) (by decide)), (fun q0_ q1_ => (hT.2.2.1 (by rw [up 3 9 (by decide)] at q0_; exact q0_) (by rw [up 3 10 (by decide)] at q1_; exact q1_))), (fun q0_ => (hT.2.2.2.1 (by rw [up 3 9 (by decide)] at q0_; exact q0_))), (fun q0_ => absurd (hl_.symm.trans (hcl 10 _ rfl ((up 3 10 (by decide)).symm.trans q0_) 3 rfl)) (by decide))⟩, fun _ _ _ => rfl⟩
    | 4, _ => exact stepV rfl rfl (execSlz rfl (hdep _ rfl 1 rfl _ rfl _ rfl) (hdep _ rfl 3 rfl _ rfl _ rfl) (slzI gf _ cf m1 (by omega) X)) ⟨s, ⟨_, rfl, rfl⟩, ⟨hT.1, (fun q0_ => absurd (hl_.symm.trans (hcl 5 _ rfl ((up 4 5 (by decide)).symm.trans q0_) 4 rfl)) (by decide)), (fun q0_ q1_ => (hT.2.2.1 (by rw [up 4 9 (by decide)] at q0_; exact q0_) (by rw [up 4 10 (by decide)] at q1_; exact q1_))), (fun q0_ => (hT.2.2.2.1 (by rw [up 4 9 (by decide)] at q0_; exact q0_))), (fun q0_ => absurd (hl_.symm.trans (hcl 10 _ rfl ((up 4 10 (by decide)).symm.trans q0_) 4 rfl)) (by decide))⟩, fun _ _ _ => rfl⟩
    | 5, _ =>
      refine stepC rfl rfl (execCall2 Try.func6 (by kernel_rfl) (by kernel_rfl) rfl (hdep _ rfl 0 rfl _ rfl _ rfl) (hdep _ rfl 4 rfl _ rfl _ rfl)) (play_ok I p _ _ m1 sc X (hin.on hT.1) (hfs.on hT.1) hk hR eM rfl eE eS el et) fun e w' hh => ?_
      obtain ⟨pk_, tk_, tv_, he, hH, hb⟩ := hh
      refine ⟨_, he, (pk_, tk_, tv_, s.2.2.2), ⟨_, rfl, rfl⟩, ⟨hT.1.trans ((hb).mono hT.1.size), (fun _q0_ => hH.base (hT.1).size), (fun q0_ q1_ => (on9 (hT.2.2.1 (by rw [up 5 9 (by decide)] at q0_; exact q0_) (by rw [up 5 10 (by decide)] at q1_; exact q1_)) hb)), (fun q0_ => (hT.2.2.2.1 (by rw [up 5 9 (by decide)] at q0_; exact q0_))), (fun q0_ => absurd (hl_.symm.trans (hcl 10 _ rfl ((up 5 10 (by decide)).symm.trans q0_) 5 rfl)) (by decide))⟩, fun i hi hli => ?_⟩
      match i, hi with
      | 0, _ => rfl
      | 1, _ => rfl
      | 2, _ => rfl
      | 3, _ => rfl
      | 4, _ => rfl
      | 5, _ => exact absurd (hl_.symm.trans hli) (by decide)
      | 6, _ => exact absurd (hl_.symm.trans (hcl 6 _ rfl hli 5 rfl)) (by decide)
      | 7, _ => exact absurd (hl_.symm.trans (hcl 6 _ rfl (hcl 7 _ rfl hli 6 rfl) 5 rfl)) (by decide)
      | 8, _ => rfl
      | 9, _ => rfl
      | 10, _ => rfl
      | 11, _ => rfl
      | k_ + 12, h_ => exact absurd h_ (by simp)
    | 6, _ => exact stepV rfl rfl (execMvB rfl (hdep _ rfl 5 rfl _ rfl _ rfl)) ⟨s, ⟨_, rfl, rfl⟩, ⟨hT.1, (fun q0_ => (hT.2.1 (by rw [up 6 5 (by decide)] at q0_; exact q0_))), (fun q0_ q1_ => (hT.2.2.1 (by rw [up 6 9 (by decide)] at q0_; exact q0_) (by rw [up 6 10 (by decide)] at q1_; exact q1_))), (fun q0_ => (hT.2.2.2.1 (by rw [up 6 9 (by decide)] at q0_; exact q0_))), (fun q0_ => absurd (hl_.symm.trans (hcl 10 _ rfl ((up 6 10 (by decide)).symm.trans q0_) 6 rfl)) (by decide))⟩, fun _ _ _ => rfl⟩
    | 7, _ => exact stepV rfl rfl (execExtT rfl (hdep _ rfl 6 rfl _ rfl _ rfl) rfl) ⟨s, ⟨_, rfl, rfl⟩, ⟨hT.1, (fun q0_ => (hT.2.1 (by rw [up 7 5 (by decide)] at q0_; exact q0_))), (fun q0_ q1_ => (hT.2.2.1 (by rw [up 7 9 (by decide)] at q0_; exact q0_) (by rw [up 7 10 (by decide)] at q1_; exact q1_))), (fun q0_ => (hT.2.2.2.1 (by rw [up 7 9 (by decide)] at q0_; exact q0_))), (fun q0_ => absurd (hl_.symm.trans (hcl 10 _ rfl ((up 7 10 (by decide)).symm.trans q0_) 7 rfl)) (by decide))⟩, fun _ _ _ => rfl⟩
    | 8, _ => exact stepV rfl rfl (execExtT rfl (hdep _ rfl 6 rfl _ rfl _ rfl) rfl) ⟨s, ⟨_, rfl, rfl⟩, ⟨hT.1, (fun q0_ => (hT.2.1 (by rw [up 8 5 (by decide)] at q0_; exact q0_))), (fun q0_ q1_ => (hT.2.2.1 (by rw [up 8 9 (by decide)] at q0_; exact q0_) (by rw [up 8 10 (by decide)] at q1_; exact q1_))), (fun q0_ => (hT.2.2.2.1 (by rw [up 8 9 (by decide)] at q0_; exact q0_))), (fun q0_ => (hT.2.2.2.2 (by rw [up 8 10 (by decide)] at q0_; exact q0_)))⟩, fun _ _ _ => rfl⟩
    | 9, _ =>
      refine stepV rfl rfl (execAlH rfl) ⟨(s.1, s.2.1, s.2.2.1, X.heap.size), ⟨_, rfl, rfl⟩, ⟨hT.1.trans (((belNew X _)).mono hT.1.size), (fun q0_ => ((hT.2.1 (by rw [up 9 5 (by decide)] at q0_; exact q0_)).on (belNew X _))), (fun _q0_ _q1_ => heapNew X _), (fun _q0_ => (hT.1).size), (fun q0_ => absurd (hl_.symm.trans (hcl 10 _ rfl ((up 9 10 (by decide)).symm.trans q0_) 9 rfl)) (by decide))⟩, fun i hi hli => ?_⟩
      match i, hi with
      | 0, _ => rfl
      | 1, _ => rfl
      | 2, _ => rfl
      | 3, _ => rfl
      | 4, _ => rfl
      | 5, _ => rfl
      | 6, _ => rfl
      | 7, _ => rfl
      | 8, _ => rfl
      | 9, _ => exact absurd (hl_.symm.trans hli) (by decide)
      | 10, _ => rfl
      | 11, _ => rfl
      | k_ + 12, h_ => exact absurd h_ (by simp)
    | 10, _ =>
      refine stepS rfl rfl (execStH rfl (hdep _ rfl 9 rfl _ rfl _ rfl) (hdep _ rfl 7 rfl _ rfl _ rfl) (hT.2.2.1 (hl2 _ rfl 9 rfl) hl_) (sl3 (hT.2.1 (hl2 _ rfl 5 rfl)).picks.shp) (sl3 (hT.2.1 (hl2 _ rfl 5 rfl)).lists.shp)) ⟨s, ⟨_, rfl, rfl⟩, ⟨below4 hT.1 (hT.2.2.2.1 (hl2 _ rfl 9 rfl)) _, (fun q0_ => ((hT.2.1 (by rw [up 10 5 (by decide)] at q0_; exact q0_)).keepT (hT.2.2.1 (hl2 _ rfl 9 rfl) hl_) (by decide) (by decide) grR18)), (fun q0_ q1_ => absurd q1_ (by unfold updB; simp)), (fun q0_ => (hT.2.2.2.1 (by rw [up 10 9 (by decide)] at q0_; exact q0_))), (fun _q0_ => setRow_heap _ _ _ _ _ _ (hT.2.2.1 (hl2 _ rfl 9 rfl) hl_))⟩, fun i hi hli => ?_⟩
      match i, hi with
      | 0, _ => rfl
      | 1, _ => rfl
      | 2, _ => rfl
      | 3, _ => rfl
      | 4, _ => rfl
      | 5, _ => rfl
      | 6, _ => rfl
      | 7, _ => rfl
      | 8, _ => rfl
      | 9, _ => rfl
      | 10, _ => exact absurd (hl_.symm.trans hli) (by decide)
      | 11, _ => rfl
      | k_ + 12, h_ => exact absurd h_ (by simp)
    | 11, _ => exact stepV rfl rfl (Cf.execAsgB rfl (hdep _ rfl 8 rfl _ rfl _ rfl)) ⟨s, ⟨_, rfl, rfl⟩, ⟨hT.1, (fun q0_ => (hT.2.1 (by rw [up 11 5 (by decide)] at q0_; exact q0_))), (fun q0_ q1_ => absurd (q1_.symm.trans ((up 11 10 (by decide)).trans (hl2 _ rfl 10 rfl))) (by decide)), (fun q0_ => (hT.2.2.2.1 (by rw [up 11 9 (by decide)] at q0_; exact q0_))), (fun q0_ => (hT.2.2.2.2 (by rw [up 11 10 (by decide)] at q0_; exact q0_)))⟩, fun _ _ _ => rfl⟩
    | k_ + 12, h_ => exact absurd h_ (by simp)
  rintro l_ ⟨pka, tka, tva, g10⟩ a X13 h1 h2 h3 h4 hall hT
  clear BB
  obtain ⟨BB, FHa, Fg10, Fgeg10, Fg10s⟩ := hT
  replace FHa : (His X12.heap.size X13 pka tka tva N p.n (fun i => (Loo.pk p (scr m1 sc) i : Int)) tq) := FHa (hall 5 (by decide))
  clear Fg10
  replace Fgeg10 : (X12.heap.size ≤ g10) := Fgeg10 (hall 9 (by decide))
  replace Fg10s : (X13.heap[g10]? = some (.cells (hC pka M en st l tka) 29)) := Fg10s (hall 10 (by decide))
  clear hall
  replace t1 := (h3 1 (by decide)).trans t1
  replace t2 := (h3 2 (by decide)).trans t2
  replace t5 := (h3 5 (by decide)).trans t5
  replace t6 := (h3 6 (by decide)).trans t6
  replace t9 := (h3 9 (by decide)).trans t9
  have t10 : a.eval (.tmp 10) = .pointer (some ⟨g10, 0, none⟩) := h4 (9, 10) (by decide)
  have t11 : a.eval (.tmp 11) = .int .i64 ((0 : Nat) : Int) := h4 (11, 11) (by decide)
  replace A := (⟨h1, h2.trans A.2⟩ : a.tmps.size = 260 ∧ a.defers = [])
  clear h1 h2 h3 h4
  have Bz := BB
  clear BB
  have BB : Below X13.heap.size X13 X13 := Below.refl _ _
  replace Fg2 := (on9 Fg2 Bz)
  replace Fg6 := (on9 Fg6 Bz)
  replace FC := (ownD_below FC Bz)
  replace FT := (ownD_below FT Bz)
  replace FR := (fun t ht => ownD_below (FR t ht) Bz)
  replace FF := (ownD_below FF Bz)
  replace hv1 := hv1.on Bz
  replace hp := hp.on Bz
  replace hcv := hcv.on Bz
  replace hin := hin.on Bz
  replace htv := htv.on Bz
  replace hR38 := hR38.on Bz
  replace hfs := hfs.on Bz
  replace hxz : ∀ t, t < p.n → SliceO X13 (xz t) (p.ln t) (p.op t) := fun t ht => (hxz t ht).on Bz
  replace BV := BV.trans (Bz.mono BV.size)
  replace BU := BU.trans (Bz.mono BU.size)
  clear Bz
  have FHaQ := FHa
  have BPQ : X12.heap.size ≤ X13.heap.size := BU.size
  refine wp_seq ?_
  refine wp_region_stB (σ := Value × Value × (Nat → Value) × Nat) 260 [(0, 86), (1, 87), (2, 88), (3, 89), (4, 90), (5, 91), (6, 85), (7, 92), (8, 93), (9, 12), (11, 13)] (fun l_ s X => Below X13.heap.size X13 X ∧ (l_ 5 = true → (His X13.heap.size X s.1 s.2.1 s.2.2.1 N p.n (fun i => (Loo.pk p (scr m1 sc) i : Int)) tq)) ∧ (l_ 9 = true → l_ 10 = false → (X.heap[s.2.2.2]? = some (.cells (hC (.slice none 0 0) 0 false false 0 (.slice none 0 0)) 29))) ∧ (l_ 9 = true → (X13.heap.size ≤ s.2.2.2)) ∧ (l_ 10 = true → (X.heap[s.2.2.2]? = some (.cells (hC s.1 M en st l s.2.1) 29)))) (fun s => fun i_ => match i_ with | 0 => .agg #[.slice (some ⟨gc, 0, none⟩) p.d cc, tl] | 1 => .slice (some ⟨gf, 0, none⟩) (m1 + 2) cf | 2 => v1 | 3 => .int .i64 ((m1 : Nat) : Int) | 4 => .slice (some ⟨gf, 0, none⟩) m1 cf | 5 => .tuple #[.agg (hC s.1 M en st l s.2.1), .int .i64 ((0 : Nat) : Int)] | 6 => .tuple #[.agg (hC s.1 M en st l s.2.1), .int .i64 ((0 : Nat) : Int)] | 7 => .agg (hC s.1 M en st l s.2.1) | 8 => .int .i64 ((0 : Nat) : Int) | 9 => .pointer (some ⟨s.2.2.2, 0, none⟩) | 10 => undef | 11 => .int .i64 ((0 : Nat) : Int) | _ => undef) (undef, undef, fun _ => undef, 0) (by kernel_rfl) (by kernel_rfl) A.1 (by kernel_rfl) (by decide) (by decide) ⟨(BB.drew), (fun q0_ => by cases q0_), (fun q0_ q1_ => by cases q0_), (fun q0_ => by cases q0_), (fun q0_ => by cases q0_)⟩ ?_ ?_
  · intro i_ hi_ l_ s a X hl_ hf hdep hl2 hcl hno hT
    have up : ∀ j x, x ≠ j → updB l_ j x = l_ x := fun j x hj => by unfold updB; simp [hj]
    match i_, hi_ with
    | 0, _ => exact stepV rfl rfl (execLdPz rfl ((hf 6 (by decide)).trans t6) (on9 Fg6 hT.1)) ⟨s, ⟨_, rfl, rfl⟩, ⟨hT.1, (fun q0_ => absurd (hl_.symm.trans (hcl 5 _ rfl ((up 0 5 (by decide)).symm.trans q0_) 0 rfl)) (by decide)), (fun q0_ q1_ => (hT.2.2.1 (by rw [up 0 9 (by decide)] at q0_; exact q0_) (by rw [up 0 10 (by decide)] at q1_; exact q1_))), (fun q0_ => (hT.2.2.2.1 (by rw [up 0 9 (by decide)] at q0_; exact q0_))), (fun q0_ => absurd (hl_.symm.trans (hcl 10 _ rfl ((up 0 10 (by decide)).symm.trans q0_) 0 rfl)) (by decide))⟩, fun _ _ _ => rfl⟩
    | 1, _ => exact stepV rfl rfl (execMvB rfl ((hf 9 (by decide)).trans t9)) ⟨s, ⟨_, rfl, rfl⟩, ⟨hT.1, (fun q0_ => absurd (hl_.symm.trans (hcl 4 _ rfl (hcl 5 _ rfl ((up 1 5 (by decide)).symm.trans q0_) 4 rfl) 1 rfl)) (by decide)), (fun q0_ q1_ => (hT.2.2.1 (by rw [up 1 9 (by decide)] at q0_; exact q0_) (by rw [up 1 10 (by decide)] at q1_; exact q1_))), (fun q0_ => (hT.2.2.2.1 (by rw [up 1 9 (by decide)] at q0_; exact q0_))), (fun q0_ => absurd (hl_.symm.trans (hcl 10 _ rfl ((up 1 10 (by decide)).symm.trans q0_) 1 rfl)) (by decide))⟩, fun _ _ _ => rfl⟩
    | 2, _ => exact stepV rfl rfl (execMvB rfl ((hf 1 (by decide)).trans t1)) ⟨s, ⟨_, rfl, rfl⟩, ⟨hT.1, (fun q0_ => absurd (hl_.symm.trans (hcl 3 _ rfl (hcl 4 _ rfl (hcl 5 _ rfl ((up 2 5 (by decide)).symm.trans q0_) 4 rfl) 3 rfl) 2 rfl)) (by decide)), (fun q0_ q1_ => (hT.2.2.1 (by rw [up 2 9 (by decide)] at q0_; exact q0_) (by rw [up 2 10 (by decide)] at q1_; exact q1_))), (fun q0_ => (hT.2.2.2.1 (by rw [up 2 9 (by decide)] at q0_; exact q0_))), (fun q0_ => absurd (hl_.symm.trans (hcl 10 _ rfl ((up 2 10 (by decide)).symm.trans q0_) 2 rfl)) (by decide))⟩, fun _ _ _ => rfl⟩
    | 3, _ => exact stepV rfl rfl (execLenI (len := m1) rfl (hdep _ rfl 2 rfl _ rfl _ rfl) hv1.shp) ⟨s, ⟨_, rfl, rfl⟩, ⟨hT.1, (fun q0_ => absurd (hl_.symm.trans (hcl 4 _ rfl (hcl 5 _ rfl ((up 3 5 (by decide)).symm.trans q0_) 4 rfl) 3 rfl)) (by decide)), (fun q0_ q1_ => (hT.2.2.1 (by rw [up 3 9 (by decide)] at q0_; exact q0_) (by rw [up 3 10 (by decide)] at q1_; exact q1_))), (fun q0_ => (hT.2.2.2.1 (by rw [up 3 9 (by decide)] at q0_; exact q0_))), (fun q0_ => absurd (hl_.symm.trans (hcl 10 _ rfl ((up 3 10 (by decide)).symm.trans q0_) 3 rfl)) (by decide))⟩, fun _ _ _ => rfl⟩
    | 4, _ => exact stepV rfl rfl (execSlz rfl (hdep _ rfl 1 rfl _ rfl _ rfl) (hdep _ rfl 3 rfl _ rfl _ rfl) (slzI gf _ cf m1 (by omega) X)) ⟨s, ⟨_, rfl, rfl⟩, ⟨hT.1, (fun q0_ => absurd (hl_.symm.trans (hcl 5 _ rfl ((up 4 5 (by decide)).symm.trans q0_) 4 rfl)) (by decide)), (fun q0_ q1_ => (hT.2.2.1 (by rw [up 4 9 (by decide)] at q0_; exact q0_) (by rw [up 4 10 (by decide)] at q1_; exact q1_))), (fun q0_ => (hT.2.2.2.1 (by rw [up 4 9 (by decide)] at q0_; exact q0_))), (fun q0_ => absurd (hl_.symm.trans (hcl 10 _ rfl ((up 4 10 (by decide)).symm.trans q0_) 4 rfl)) (by decide))⟩, fun _ _ _ => rfl⟩
    | 5, _ =>
      refine stepC rfl rfl (execCall2 Try.func6 (by kernel_rfl) (by kernel_rfl) rfl (hdep _ rfl 0 rfl _ rfl _ rfl) (hdep _ rfl 4 rfl _ rfl _ rfl)) (play_ok I p _ _ m1 sc X (hin.on hT.1) (hfs.on hT.1) hk hR eM rfl eE eS el et) fun e w' hh => ?_
      obtain ⟨pk_, tk_, tv_, he, hH, hb⟩ := hh
      refine ⟨_, he, (pk_, tk_, tv_, s.2.2.2), ⟨_, rfl, rfl⟩, ⟨hT.1.trans ((hb).mono hT.1.size), (fun _q0_ => hH.base (hT.1).size), (fun q0_ q1_ => (on9 (hT.2.2.1 (by rw [up 5 9 (by decide)] at q0_; exact q0_) (by rw [up 5 10 (by decide)] at q1_; exact q1_)) hb)), (fun q0_ => (hT.2.2.2.1 (by rw [up 5 9 (by decide)] at q0_; exact q0_))), (fun q0_ => absurd (hl_.symm.trans (hcl 10 _ rfl ((up 5 10 (by decide)).symm.trans q0_) 5 rfl)) (by decide))⟩, fun i hi hli => ?_⟩
      match i, hi with
      | 0, _ => rfl
      | 1, _ => rfl
      | 2, _ => rfl
      | 3, _ => rfl
      | 4, _ => rfl
      | 5, _ => exact absurd (hl_.symm.trans hli) (by decide)
      | 6, _ => exact absurd (hl_.symm.trans (hcl 6 _ rfl hli 5 rfl)) (by decide)
      | 7, _ => exact absurd (hl_.symm.trans (hcl 6 _ rfl (hcl 7 _ rfl hli 6 rfl) 5 rfl)) (by decide)
      | 8, _ => rfl
      | 9, _ => rfl
      | 10, _ => rfl
      | 11, _ => rfl
      | k_ + 12, h_ => exact absurd h_ (by simp)
    | 6, _ => exact stepV rfl rfl (execMvB rfl (hdep _ rfl 5 rfl _ rfl _ rfl)) ⟨s, ⟨_, rfl, rfl⟩, ⟨hT.1, (fun q0_ => (hT.2.1 (by rw [up 6 5 (by decide)] at q0_; exact q0_))), (fun q0_ q1_ => (hT.2.2.1 (by rw [up 6 9 (by decide)] at q0_; exact q0_) (by rw [up 6 10 (by decide)] at q1_; exact q1_))), (fun q0_ => (hT.2.2.2.1 (by rw [up 6 9 (by decide)] at q0_; exact q0_))), (fun q0_ => absurd (hl_.symm.trans (hcl 10 _ rfl ((up 6 10 (by decide)).symm.trans q0_) 6 rfl)) (by decide))⟩, fun _ _ _ => rfl⟩
    | 7, _ => exact stepV rfl rfl (execExtT rfl (hdep _ rfl 6 rfl _ rfl _ rfl) rfl) ⟨s, ⟨_, rfl, rfl⟩, ⟨hT.1, (fun q0_ => (hT.2.1 (by rw [up 7 5 (by decide)] at q0_; exact q0_))), (fun q0_ q1_ => (hT.2.2.1 (by rw [up 7 9 (by decide)] at q0_; exact q0_) (by rw [up 7 10 (by decide)] at q1_; exact q1_))), (fun q0_ => (hT.2.2.2.1 (by rw [up 7 9 (by decide)] at q0_; exact q0_))), (fun q0_ => absurd (hl_.symm.trans (hcl 10 _ rfl ((up 7 10 (by decide)).symm.trans q0_) 7 rfl)) (by decide))⟩, fun _ _ _ => rfl⟩
    | 8, _ => exact stepV rfl rfl (execExtT rfl (hdep _ rfl 6 rfl _ rfl _ rfl) rfl) ⟨s, ⟨_, rfl, rfl⟩, ⟨hT.1, (fun q0_ => (hT.2.1 (by rw [up 8 5 (by decide)] at q0_; exact q0_))), (fun q0_ q1_ => (hT.2.2.1 (by rw [up 8 9 (by decide)] at q0_; exact q0_) (by rw [up 8 10 (by decide)] at q1_; exact q1_))), (fun q0_ => (hT.2.2.2.1 (by rw [up 8 9 (by decide)] at q0_; exact q0_))), (fun q0_ => (hT.2.2.2.2 (by rw [up 8 10 (by decide)] at q0_; exact q0_)))⟩, fun _ _ _ => rfl⟩
    | 9, _ =>
      refine stepV rfl rfl (execAlH rfl) ⟨(s.1, s.2.1, s.2.2.1, X.heap.size), ⟨_, rfl, rfl⟩, ⟨hT.1.trans (((belNew X _)).mono hT.1.size), (fun q0_ => ((hT.2.1 (by rw [up 9 5 (by decide)] at q0_; exact q0_)).on (belNew X _))), (fun _q0_ _q1_ => heapNew X _), (fun _q0_ => (hT.1).size), (fun q0_ => absurd (hl_.symm.trans (hcl 10 _ rfl ((up 9 10 (by decide)).symm.trans q0_) 9 rfl)) (by decide))⟩, fun i hi hli => ?_⟩
      match i, hi with
      | 0, _ => rfl
      | 1, _ => rfl
      | 2, _ => rfl
      | 3, _ => rfl
      | 4, _ => rfl
      | 5, _ => rfl
      | 6, _ => rfl
      | 7, _ => rfl
      | 8, _ => rfl
      | 9, _ => exact absurd (hl_.symm.trans hli) (by decide)
      | 10, _ => rfl
      | 11, _ => rfl
      | k_ + 12, h_ => exact absurd h_ (by simp)
    | 10, _ =>
      refine stepS rfl rfl (execStH rfl (hdep _ rfl 9 rfl _ rfl _ rfl) (hdep _ rfl 7 rfl _ rfl _ rfl) (hT.2.2.1 (hl2 _ rfl 9 rfl) hl_) (sl3 (hT.2.1 (hl2 _ rfl 5 rfl)).picks.shp) (sl3 (hT.2.1 (hl2 _ rfl 5 rfl)).lists.shp)) ⟨s, ⟨_, rfl, rfl⟩, ⟨below4 hT.1 (hT.2.2.2.1 (hl2 _ rfl 9 rfl)) _, (fun q0_ => ((hT.2.1 (by rw [up 10 5 (by decide)] at q0_; exact q0_)).keepT (hT.2.2.1 (hl2 _ rfl 9 rfl) hl_) (by decide) (by decide) grR18)), (fun q0_ q1_ => absurd q1_ (by unfold updB; simp)), (fun q0_ => (hT.2.2.2.1 (by rw [up 10 9 (by decide)] at q0_; exact q0_))), (fun _q0_ => setRow_heap _ _ _ _ _ _ (hT.2.2.1 (hl2 _ rfl 9 rfl) hl_))⟩, fun i hi hli => ?_⟩
      match i, hi with
      | 0, _ => rfl
      | 1, _ => rfl
      | 2, _ => rfl
      | 3, _ => rfl
      | 4, _ => rfl
      | 5, _ => rfl
      | 6, _ => rfl
      | 7, _ => rfl
      | 8, _ => rfl
      | 9, _ => rfl
      | 10, _ => exact absurd (hl_.symm.trans hli) (by decide)
      | 11, _ => rfl
      | k_ + 12, h_ => exact absurd h_ (by simp)
    | 11, _ => exact stepV rfl rfl (Cf.execAsgB rfl (hdep _ rfl 8 rfl _ rfl _ rfl)) ⟨s, ⟨_, rfl, rfl⟩, ⟨hT.1, (fun q0_ => (hT.2.1 (by rw [up 11 5 (by decide)] at q0_; exact q0_))), (fun q0_ q1_ => absurd (q1_.symm.trans ((up 11 10 (by decide)).trans (hl2 _ rfl 10 rfl))) (by decide)), (fun q0_ => (hT.2.2.2.1 (by rw [up 11 9 (by decide)] at q0_; exact q0_))), (fun q0_ => (hT.2.2.2.2 (by rw [up 11 10 (by decide)] at q0_; exact q0_)))⟩, fun _ _ _ => rfl⟩
    | k_ + 12, h_ => exact absurd h_ (by simp)
  rintro l_ ⟨pkb, tkb, tvb, g12⟩ a X14 h1 h2 h3 h4 hall hT
  clear BB
  obtain ⟨BB, FHb, Fg12, Fgeg12, Fg12s⟩ := hT
  replace FHb : (His X13.heap.size X14 pkb tkb tvb N p.n (fun i => (Loo.pk p (scr m1 sc) i : Int)) tq) := FHb (hall 5 (by decide))
  clear Fg12
  replace Fgeg12 : (X13.heap.size ≤ g12) := Fgeg12 (hall 9 (by decide))
  replace Fg12s : (X14.heap[g12]? = some (.cells (hC pkb M en st l tkb) 29)) := Fg12s (hall 10 (by decide))
  clear hall
  replace t1 := (h3 1 (by decide)).trans t1
  replace t2 := (h3 2 (by decide)).trans t2
  replace t5 := (h3 5 (by decide)).trans t5
  replace t6 := (h3 6 (by decide)).trans t6
  replace t9 := (h3 9 (by decide)).trans t9
  replace t10 := (h3 10 (by decide)).trans t10
  replace t11 := (h3 11 (by decide)).trans t11
  have t12 : a.eval (.tmp 12) = .pointer (some ⟨g12, 0, none⟩) := h4 (9, 12) (by decide)
  have t13 : a.eval (.tmp 13) = .int .i64 ((0 : Nat) : Int) := h4 (11, 13) (by decide)
  replace A := (⟨h1, h2.trans A.2⟩ : a.tmps.size = 260 ∧ a.defers = [])
  clear h1 h2 h3 h4
  have Bz := BB
  clear BB
  have BB : Below X14.heap.size X14 X14 := Below.refl _ _
  replace Fg2 := (on9 Fg2 Bz)
  replace Fg6 := (on9 Fg6 Bz)
  replace FC := (ownD_below FC Bz)
  replace FT := (ownD_below FT Bz)
  replace FR := (fun t ht => ownD_below (FR t ht) Bz)
  replace FF := (ownD_below FF Bz)
  replace FHa := (FHa.on Bz)
  replace Fg10s := (on9 Fg10s Bz)
  replace hv1 := hv1.on Bz
  replace hp := hp.on Bz
  replace hcv := hcv.on Bz
  replace hin := hin.on Bz
  replace htv := htv.on Bz
  replace hR38 := hR38.on Bz
  replace hfs := hfs.on Bz
  replace hxz : ∀ t, t < p.n → SliceO X14 (xz t) (p.ln t) (p.op t) := fun t ht => (hxz t ht).on Bz
  replace BV := BV.trans (Bz.mono BV.size)
  replace BU := BU.trans (Bz.mono BU.size)
  clear Bz
  have h2 := two_his FHa FHb BPQ (fun t ht b hb => ((FHaQ.fm.rows t ht).lt b hb).2)
  refine wp_seq ?_
  refine wi_ A (h9_ t1 t2 t5 t6 t9 t10 t11 t12 t13) (rv_ 0 (.agg #[cv, tz]) (fun a ee => execLdPz rfl (ee _) (on9 Fg2 BB)) (rc_ 2 (play_ok I p _ _ m1 sc X14 (hp.on BB) (hv1.on BB) hk hR eM rfl eE eS el et) fun e X15_1 hh => ?_))
  obtain ⟨pkw, tkw, tvw, he, hH, hb⟩ := hh
  refine ⟨_, he, ?_⟩
  have bQ : Below X14.heap.size X14 X15_1 := hb
  have FHw : (His X14.heap.size X15_1 pkw tkw tvw N p.n (fun i => (Loo.pk p (scr m1 sc) i : Int)) tq) := hH.base (BB).size
  replace BB := BB.trans (bQ.mono BB.size)
  clear bQ
  obtain ⟨g14, egg14⟩ : ∃ z_ : Nat, X15_1.heap.size = z_ := ⟨_, rfl⟩
  refine rs_ 6 (fun a ee => ?_)
  refine stepV rfl rfl (execAlH rfl) ⟨.pointer (some ⟨g14, 0, none⟩), ⟨_, rfl, by subst egg14; rfl⟩, fun X15_2 hX => ?_⟩
  have bQ : Below X15_1.heap.size X15_1 X15_2 := by subst hX egg14; exact (belNew X15_1 _)
  have Fg14 : (X15_2.heap[g14]? = some (.cells (hC (.slice none 0 0) 0 false false 0 (.slice none 0 0)) 29)) := by subst hX egg14; exact heapNew X15_1 _
  have Fgeg14 : (X14.heap.size ≤ g14) := by subst hX egg14; exact (BB).size
  replace FHw := (FHw.on bQ)
  replace BB := BB.trans (bQ.mono BB.size)
  clear bQ hX egg14 ee a
  refine rs_ 7 (fun a ee => ?_)
  refine stepS rfl rfl (execStH rfl (ee _) (ee _) Fg14 (sl3 FHw.picks.shp) (sl3 FHw.lists.shp)) ⟨_, ⟨_, rfl, rfl⟩, fun X15 hX => ?_⟩
  obtain ⟨BB, FHw, Fg14s⟩ : Below X14.heap.size X14 X15 ∧ (His X14.heap.size X15 pkw tkw tvw N p.n (fun i => (Loo.pk p (scr m1 sc) i : Int)) tq) ∧ (X15.heap[g14]? = some (.cells (hC pkw M en st l tkw) 29)) := by subst hX; exact ⟨below4 BB Fgeg14 _, (FHw.keepT Fg14 (by decide) (by decide) grR18), setRow_heap _ _ _ _ _ _ Fg14⟩
  clear Fg14 hX ee a
  refine rf_ [(14, .pointer (some ⟨g14, 0, none⟩)), (15, .int .i64 ((0 : Nat) : Int))] (h9_ t1 t2 t5 t6 t9 t10 t11 t12 t13) ?_
  rintro a A ⟨t14, t15, -⟩ ⟨t1, t2, t5, t6, t9, t10, t11, t12, t13, -⟩
  have h2R := h2
  have BRT := BB
  have Bz := BB
  clear BB
  have BB : Below X15.heap.size X15 X15 := Below.refl _ _
  replace Fg2 := (on9 Fg2 Bz)
  replace Fg6 := (on9 Fg6 Bz)
  replace FC := (ownD_below FC Bz)
  replace FT := (ownD_below FT Bz)
  replace FR := (fun t ht => ownD_below (FR t ht) Bz)
  replace FF := (ownD_below FF Bz)
  replace FHa := (FHa.on Bz)
  replace Fg10s := (on9 Fg10s Bz)
  replace FHb := (FHb.on Bz)
  replace Fg12s := (on9 Fg12s Bz)
  replace hv1 := hv1.on Bz
  replace hp := hp.on Bz
  replace hcv := hcv.on Bz
  replace hin := hin.on Bz
  replace htv := htv.on Bz
  replace hR38 := hR38.on Bz
  replace hfs := hfs.on Bz
  replace hxz : ∀ t, t < p.n → SliceO X15 (xz t) (p.ln t) (p.op t) := fun t ht => (hxz t ht).on Bz
  replace BV := BV.trans (Bz.mono BV.size)
  replace BU := BU.trans (Bz.mono BU.size)
  clear Bz
  refine wp_seq ?_
  refine wp_seq ?_
  refine wi_ A (h11_ t1 t2 t5 t6 t9 t10 t11 t12 t13 t14 t15) (rv_ 1 (.bool false) (fun a ee => execDec (execErneq (p := 0) (q := 0) rfl (ee _)) (by decide)) (rv_ 4 (.bool false) (fun a ee => execDec (execErneq (p := 0) (q := 0) rfl (ee _)) (by decide)) (rv_ 8 (.bool false) (fun a ee => execDec (execErneq (p := 0) (q := 0) rfl (ee _)) (by decide)) (rv_ 11 (.agg (hC pka M en st l tka)) (fun a ee => execLdHw rfl (ee _) (on9 Fg10s BB)) (rv_ 12 (.agg (hC pkw M en st l tkw)) (fun a ee => execLdHw rfl (ee _) (on9 Fg14s BB)) (rc_ 13 (sameHistory19 _ _ _ _ M l N p.n en st _ _ tva tvw (fun t => (tq t).length) (fun t j => (tq t).getD j 0) (fun t j => (tq t).getD j 0) X15 (FHa.on BB).picks (FHw.on BB).picks (fun _ _ => rfl) (by omega) (FHa.on BB).lists (FHw.on BB).lists (fun t ht => (FHa.on BB).taken ht) (fun t ht => (FHw.on BB).taken ht) (fun _ _ _ _ => rfl) (fun t _ => Nat.le_trans (htl t) (by omega)) (by omega)) (cb_ fun X16_1 bQ => ?_)))))))
  replace BB := BB.trans (bQ.mono BB.size)
  clear bQ
  refine rv_ 14 (.bool false) (fun a ee => execNot8 (b := true) rfl (ee _)) (rv_ 17 (.agg (hC pkb M en st l tkb)) (fun a ee => execLdHw rfl (ee _) (on9 Fg12s BB)) (rv_ 18 (.agg (hC pkw M en st l tkw)) (fun a ee => execLdHw rfl (ee _) (on9 Fg14s BB)) (rc_ 19 (sameHistory19 _ _ _ _ M l N p.n en st _ _ tvb tvw (fun t => (tq t).length) (fun t j => (tq t).getD j 0) (fun t j => (tq t).getD j 0) X16_1 (FHb.on BB).picks (FHw.on BB).picks (fun _ _ => rfl) (by omega) (FHb.on BB).lists (FHw.on BB).lists (fun t ht => (FHb.on BB).taken ht) (fun t ht => (FHw.on BB).taken ht) (fun _ _ _ _ => rfl) (fun t _ => Nat.le_trans (htl t) (by omega)) (by omega)) (cb_ fun X16_2 bQ => ?_))))
  replace BB := BB.trans (bQ.mono BB.size)
  clear bQ
  refine rv_ 20 (.bool false) (fun a ee => execNot8 (b := true) rfl (ee _)) (rv_ 24 (.pointer (some ⟨g2, 0, none⟩)) (fun a ee => execPf0 rfl (ee _)) (rv_ 25 (cv) (fun a ee => execLdG rfl (Or.inl rfl) (ee _) (plB_at (on9 Fg2 BB)).1) (rv_ 26 (.int .i64 ((p.d : Nat) : Int)) (fun a ee => execLenI (len := p.d) rfl (ee _) hcv.shp) (rv_ 27 (.pointer (some ⟨gc, 0 + p.d, none⟩)) (fun a ee => execIdxN (k := p.d) rfl (ee _) (ee _) (by omega)) (rv_ 28 (.int .i64 71) (fun a ee => execLdG rfl (Or.inr (Or.inl rfl)) (ee _) (by rw [← k0]; exact (own_cellI (ownD_below FC BB) (by omega)).1)) (rv_ 29 (.bool false) (fun a ee => execDec (exIneq3 (p := 71) (q := 71) rfl (ee _) rfl) (decide_eq_false (fun h => h rfl))) (rv_ 33 (.pointer (some ⟨g2, 0, none⟩)) (fun a ee => execPf0 rfl (ee _)) (rv_ 34 (cv) (fun a ee => execLdG rfl (Or.inl rfl) (ee _) (plB_at (on9 Fg2 BB)).1) (rv_ 35 (.int .i64 ((p.d : Nat) : Int)) (fun a ee => execLenI (len := p.d) rfl (ee _) hcv.shp) (rv_ 36 (.int .i64 ((p.d + 1 : Nat) : Int)) (fun a ee => execAd8 (p := p.d) (q := 1) rfl (ee _) rfl (by omega)) (rv_ 37 (.pointer (some ⟨gc, 0 + (p.d + 1), none⟩)) (fun a ee => execIdxN (k := p.d + 1) rfl (ee _) (ee _) (by omega)) (rv_ 38 (.int .i64 72) (fun a ee => execLdG rfl (Or.inr (Or.inl rfl)) (ee _) (by rw [← k1]; exact (own_cellI (ownD_below FC BB) (by omega)).1)) (rv_ 39 (.bool false) (fun a ee => execDec (exIneq3 (p := 72) (q := 72) rfl (ee _) rfl) (decide_eq_false (fun h => h rfl))) (rv_ 44 (.int .i64 ((m1 : Nat) : Int)) (fun a ee => execLenI (len := m1) rfl (ee _) hv1.shp) (rv_ 45 (.pointer (some ⟨gf, 0 + m1, none⟩)) (fun a ee => execIdxN (k := m1) rfl (ee _) (ee _) (by omega)) (rv_ 46 (.int .i64 73) (fun a ee => execLdG rfl (Or.inr (Or.inl rfl)) (ee _) (by rw [← f0]; exact (own_cellI (ownD_below FF BB) (by omega)).1)) (rv_ 47 (.bool false) (fun a ee => execDec (exIneq3 (p := 73) (q := 73) rfl (ee _) rfl) (decide_eq_false (fun h => h rfl))) (rv_ 52 (.int .i64 ((m1 : Nat) : Int)) (fun a ee => execLenI (len := m1) rfl (ee _) hv1.shp) (rv_ 53 (.int .i64 ((m1 + 1 : Nat) : Int)) (fun a ee => execAd8 (p := m1) (q := 1) rfl (ee _) rfl (by omega)) (rv_ 54 (.pointer (some ⟨gf, 0 + (m1 + 1), none⟩)) (fun a ee => execIdxN (k := m1 + 1) rfl (ee _) (ee _) (by omega)) (rv_ 55 (.int .i64 74) (fun a ee => execLdG rfl (Or.inr (Or.inl rfl)) (ee _) (by rw [← f1]; exact (own_cellI (ownD_below FF BB) (by omega)).1)) (rv_ 56 (.bool false) (fun a ee => execDec (exIneq3 (p := 74) (q := 74) rfl (ee _) rfl) (decide_eq_false (fun h => h rfl))) (rv_ 61 (.int .i64 ((m1 : Nat) : Int)) (fun a ee => execLenI (len := m1) rfl (ee _) hv1.shp) (rv_ 62 (.slice (some ⟨gf, 0, none⟩) m1 cf) (fun a ee => execSlz rfl (ee _) (ee _) (slzI gf _ cf m1 (by omega) X16_2)) (rc_ 64 (same19 _ _ m1 _ _ X16_2 (hfs.on BB) (hv1.on BB) (fun _ _ => rfl) (by omega)) (cb_ fun X16_3 bQ => ?_))))))))))))))))))))))))))
  replace BB := BB.trans (bQ.mono BB.size)
  clear bQ
  refine rv_ 65 (.bool false) (fun a ee => execNot8 (b := true) rfl (ee _)) (rv_ 68 (.pointer (some ⟨g6, 0, none⟩)) (fun a ee => execPf0 rfl (ee _)) (rv_ 69 (.slice (some ⟨gc, 0, none⟩) p.d cc) (fun a ee => execLdG rfl (Or.inl rfl) (ee _) (plB_at (on9 Fg6 BB)).1) (rv_ 70 (.pointer (some ⟨g2, 0, none⟩)) (fun a ee => execPf0 rfl (ee _)) (rv_ 71 (cv) (fun a ee => execLdG rfl (Or.inl rfl) (ee _) (plB_at (on9 Fg2 BB)).1) (rc_ 72 (same19 _ _ p.d _ _ X16_3 (hR38.on BB) (hcv.on BB) (fun _ _ => rfl) (by omega)) (cb_ fun X16 bQ => ?_))))))
  replace BB := BB.trans (bQ.mono BB.size)
  clear bQ
  refine rv_ 73 (.bool false) (fun a ee => execNot8 (b := true) rfl (ee _)) (rf_ [(174, .bool false)] (h7_ t1 t2 t6 t9 t10 t12 t14) ?_)
  rintro a A ⟨t174, -⟩ ⟨t1, t2, t6, t9, t10, t12, t14, -⟩
  refine wp_cond_false t174 ?_
  refine wp_skip ?_
  clear t174
  refine wp_seq ?_
  refine wp_seq ?_
  refine wi_ A (h7_ t1 t2 t6 t9 t10 t12 t14) (rf_ [(16, .int .i64 ((0 : Nat) : Int))] (h7_ t1 t2 t6 t9 t10 t12 t14) ?_)
  rintro a A ⟨t16, -⟩ ⟨t1, t2, t6, t9, t10, t12, t14, -⟩
  refine wp_block ?_
  refine wp_loop (fun a W => ∃ (i : Nat), i ≤ p.n ∧ (a.tmps.size = 260 ∧ a.defers = []) ∧ a.eval (.tmp 1) = v1 ∧ a.eval (.tmp 2) = .pointer (some ⟨g2, 0, none⟩) ∧ a.eval (.tmp 6) = .pointer (some ⟨g6, 0, none⟩) ∧ a.eval (.tmp 9) = .slice (some ⟨gf, 0, none⟩) (m1 + 2) cf ∧ a.eval (.tmp 10) = .pointer (some ⟨g10, 0, none⟩) ∧ a.eval (.tmp 12) = .pointer (some ⟨g12, 0, none⟩) ∧ a.eval (.tmp 14) = .pointer (some ⟨g14, 0, none⟩) ∧ a.eval (.tmp 16) = .int .i64 ((i : Nat) : Int) ∧ Below X15.heap.size X15 W) (fun a _ => p.n - (intOf (a.eval (.tmp 16))).toNat) ⟨0, Nat.zero_le _, A, t1, t2, t6, t9, t10, t12, t14, t16, BB⟩ ?_
  clear A t1 t2 t6 t9 t10 t12 t14 t16 BB a
  rintro a XL19 ⟨i, hi, A, t1, t2, t6, t9, t10, t12, t14, t16, BB⟩
  have esi := t16
  refine wp_seq ?_
  refine wp_seq ?_
  refine wi_ A (h8_ t1 t2 t6 t9 t10 t12 t14 t16) (rv_ 1 (.pointer (some ⟨g2, 1, none⟩)) (fun a ee => execPf1 rfl (ee _)) (rv_ 2 (tz) (fun a ee => execLdG rfl (Or.inr (Or.inr (Or.inr (Or.inr (Or.inl rfl))))) (ee _) (plB_at (on9 Fg2 BB)).2) (rv_ 3 (.int .i64 ((p.n : Nat) : Int)) (fun a ee => execLnOO (len := p.n) rfl (ee _) htv.shp) (rv_ 4 (.bool (decide (i < p.n))) (fun a ee => execLtW (p := i) (q := p.n) rfl (ee _) (ee _)) (rf_ [(179, .bool (decide (i < p.n)))] (h8_ t1 t2 t6 t9 t10 t12 t14 t16) ?_)))))
  rintro a A ⟨t179, -⟩ ⟨t1, t2, t6, t9, t10, t12, t14, t16, -⟩
  by_cases lti : i < p.n
  · rw [decide_eq_true lti] at t179
    refine wp_cond_true t179 ?_
    refine wp_skip ?_
    clear t179
    refine wp_seq ?_
    refine wp_block ?_
    have hln := hok.ln i lti
    obtain ⟨tb, to_, tc, etz⟩ := htv.open (by omega)
    obtain ⟨lb, lc, etl, -⟩ := own_openz FT (by omega)
    obtain ⟨gb, cb, exi⟩ : ∃ gb cb, x i = (gb, cb) := ⟨_, _, rfl⟩
    have FRi := FR i lti
    unfold xv at FRi
    rw [exi] at FRi
    obtain ⟨_, _, er_, hcb⟩ := own_openz FRi (by omega)
    injection er_ with _ _ er_
    subst er_
    have hO := own_ops FRi (hof i lti)
    have o0 : oF p i (p.ln i) = ⟨77, 0, 0⟩ := by unfold oF; rw [if_neg (by omega), if_pos rfl]
    have o1 : oF p i (p.ln i + 1) = ⟨78, 0, 0⟩ := by unfold oF; rw [if_neg (by omega), if_neg (by omega)]
    refine wp_seq ?_
    refine wi_ A (h8_ t1 t2 t6 t9 t10 t12 t14 t16) (rv_ 0 (.pointer (some ⟨g2, 1, none⟩)) (fun a ee => execPf1 rfl (ee _)) (rv_ 1 (tz) (fun a ee => execLdG rfl (Or.inr (Or.inr (Or.inr (Or.inr (Or.inl rfl))))) (ee _) (plB_at (on9 Fg2 BB)).2) (rv_ 3 (.pointer (some ⟨tb, to_ + i, none⟩)) (fun a ee => execIxOO (k := i) rfl ((ee _).trans etz) (ee _) lti) (rv_ 4 (xz i) (fun a ee => execLdG rfl (Or.inr (Or.inr (Or.inr (Or.inr (Or.inr rfl))))) (ee _) (SliceV.at (htv.on BB) etz lti)) (rv_ 5 (.int .i64 ((p.ln i : Nat) : Int)) (fun a ee => execLnOs (len := p.ln i) rfl (ee _) (hxz i lti).shp) (rf_ [(17, .int .i64 ((p.ln i : Nat) : Int))] (h8_ t1 t2 t6 t9 t10 t12 t14 t16) ?_))))))
    rintro a A ⟨t17, -⟩ ⟨t1, t2, t6, t9, t10, t12, t14, t16, -⟩
    refine wp_seq ?_
    refine wi_ A (h9_ t1 t2 t6 t9 t10 t12 t14 t16 t17) (rv_ 0 (.pointer (some ⟨g6, 1, none⟩)) (fun a ee => execPf1 rfl (ee _)) (rv_ 1 (tl) (fun a ee => execLdG rfl (Or.inr (Or.inr (Or.inr (Or.inr (Or.inl rfl))))) (ee _) (plB_at (on9 Fg6 BB)).2) (rv_ 3 (.pointer (some ⟨lb, 0 + i, none⟩)) (fun a ee => execIxOO (k := i) rfl ((ee _).trans etl) (ee _) lti) (rv_ 4 (.slice (some ⟨gb, 0, none⟩) (p.ln i) cb) (fun a ee => execLdG rfl (Or.inr (Or.inr (Or.inr (Or.inr (Or.inr rfl))))) (ee _) (by have z_ := SliceV.at ((own_vals FT).on BB) etl lti; unfold yv at z_; rw [exi] at z_; exact z_)) (rv_ 6 (.int .i64 ((p.ln i + 2 : Nat) : Int)) (fun a ee => execAd8 (p := p.ln i) (q := 2) rfl (ee _) rfl (by omega)) (rv_ 7 (.slice (some ⟨gb, 0, none⟩) (p.ln i + 2) cb) (fun a ee => execSlz rfl (ee _) (ee _) (slzO gb _ cb (p.ln i + 2) (by omega) XL19)) (rf_ [(18, .slice (some ⟨gb, 0, none⟩) (p.ln i + 2) cb)] (h9_ t1 t2 t6 t9 t10 t12 t14 t16 t17) ?_)))))))
    rintro a A ⟨t18, -⟩ ⟨t1, t2, t6, t9, t10, t12, t14, t16, t17, -⟩
    refine wp_seq ?_
    refine wp_seq ?_
    refine wi_ A (h10_ t1 t2 t6 t9 t10 t12 t14 t16 t17 t18) (rv_ 2 (.pointer (some ⟨gb, 0 + (p.ln i) * 3, none⟩)) (fun a ee => execIxOs (k := p.ln i) rfl ((ee _).trans rfl) (ee _) (by omega)) (rv_ 3 (.pointer (some ⟨gb, 0 + (p.ln i) * 3, none⟩)) (fun a ee => execOfz rfl (ee _)) (rv_ 4 (.int .i64 77) (fun a ee => execLdG rfl (Or.inr (Or.inl rfl)) (ee _) (by have z_ := (SliceO.at (hO.on BB) rfl (show p.ln i < p.ln i + 2 by omega)).1; rw [o0] at z_; exact z_)) (rv_ 5 (.bool false) (fun a ee => execDec (exIneq3 (p := 77) (q := 77) rfl (ee _) rfl) (decide_eq_false (fun h => h rfl))) (rv_ 9 (.int .i64 ((p.ln i + 1 : Nat) : Int)) (fun a ee => execAd8 (p := p.ln i) (q := 1) rfl (ee _) rfl (by omega)) (rv_ 10 (.pointer (some ⟨gb, 0 + (p.ln i + 1) * 3, none⟩)) (fun a ee => execIxOs (k := p.ln i + 1) rfl ((ee _).trans rfl) (ee _) (by omega)) (rv_ 11 (.pointer (some ⟨gb, 0 + (p.ln i + 1) * 3, none⟩)) (fun a ee => execOfz rfl (ee _)) (rv_ 12 (.int .i64 78) (fun a ee => execLdG rfl (Or.inr (Or.inl rfl)) (ee _) (by have z_ := (SliceO.at (hO.on BB) rfl (show p.ln i + 1 < p.ln i + 2 by omega)).1; rw [o1] at z_; exact z_)) (rv_ 13 (.bool false) (fun a ee => execDec (exIneq3 (p := 78) (q := 78) rfl (ee _) rfl) (decide_eq_false (fun h => h rfl))) (rf_ [(210, .bool false)] (h10_ t1 t2 t6 t9 t10 t12 t14 t16 t17 t18) ?_))))))))))
    rintro a A ⟨t210, -⟩ ⟨t1, t2, t6, t9, t10, t12, t14, t16, t17, t18, -⟩
    refine wp_cond_false t210 ?_
    refine wp_skip ?_
    clear t210
    refine wp_seq ?_
    refine wi_ A (h10_ t1 t2 t6 t9 t10 t12 t14 t16 t17 t18) (rf_ [(19, .int .i64 ((0 : Nat) : Int))] (h10_ t1 t2 t6 t9 t10 t12 t14 t16 t17 t18) ?_)
    rintro a A ⟨t19, -⟩ ⟨t1, t2, t6, t9, t10, t12, t14, t16, t17, t18, -⟩
    refine wp_block ?_
    refine wp_loop (fun a W => ∃ (j : Nat), j ≤ p.ln i ∧ (a.tmps.size = 260 ∧ a.defers = []) ∧ a.eval (.tmp 1) = v1 ∧ a.eval (.tmp 2) = .pointer (some ⟨g2, 0, none⟩) ∧ a.eval (.tmp 6) = .pointer (some ⟨g6, 0, none⟩) ∧ a.eval (.tmp 9) = .slice (some ⟨gf, 0, none⟩) (m1 + 2) cf ∧ a.eval (.tmp 10) = .pointer (some ⟨g10, 0, none⟩) ∧ a.eval (.tmp 12) = .pointer (some ⟨g12, 0, none⟩) ∧ a.eval (.tmp 14) = .pointer (some ⟨g14, 0, none⟩) ∧ a.eval (.tmp 16) = .int .i64 ((i : Nat) : Int) ∧ a.eval (.tmp 17) = .int .i64 ((p.ln i : Nat) : Int) ∧ a.eval (.tmp 18) = .slice (some ⟨gb, 0, none⟩) (p.ln i + 2) cb ∧ a.eval (.tmp 19) = .int .i64 ((j : Nat) : Int) ∧ Below X15.heap.size X15 W) (fun a _ => p.ln i - (intOf (a.eval (.tmp 19))).toNat) ⟨0, Nat.zero_le _, A, t1, t2, t6, t9, t10, t12, t14, t16, t17, t18, t19, BB⟩ ?_
    clear A t1 t2 t6 t9 t10 t12 t14 t16 t17 t18 t19 BB a
    rintro a XL26 ⟨j, hj, A, t1, t2, t6, t9, t10, t12, t14, t16, t17, t18, t19, BB⟩
    have esj := t19
    refine wp_seq ?_
    refine wp_seq ?_
    refine wi_ A (h11_ t1 t2 t6 t9 t10 t12 t14 t16 t17 t18 t19) (rv_ 2 (.bool (decide (j < p.ln i))) (fun a ee => execLtW (p := j) (q := p.ln i) rfl (ee _) (ee _)) (rf_ [(213, .bool (decide (j < p.ln i)))] (h11_ t1 t2 t6 t9 t10 t12 t14 t16 t17 t18 t19) ?_))
    rintro a A ⟨t213, -⟩ ⟨t1, t2, t6, t9, t10, t12, t14, t16, t17, t18, t19, -⟩
    by_cases ltj : j < p.ln i
    · rw [decide_eq_true ltj] at t213
      refine wp_cond_true t213 ?_
      refine wp_skip ?_
      clear t213
      refine wp_seq ?_
      refine wp_block ?_
      obtain ⟨zb, zo, zc, ezi⟩ := (hxz i lti).open (by omega)
      have oj : oF p i j = p.op i j := if_pos ltj
      refine wp_seq ?_
      refine wj_ [0, 1, 2, 3, 4, 5, 6, 7, 8, 9, 10, 11, 12] [] [3, 5, 8, 11] [] A (h11_ t1 t2 t6 t9 t10 t12 t14 t16 t17 t18 t19) (fun X28 bD => ?_)
      refine dw_ 2 (.pointer (some ⟨gb, 0 + j * 3, none⟩)) (fun a X ee => execIxOs (k := j) rfl ((ee _).trans rfl) (ee _) (by omega)) (dv_ 3 (.agg (oC (p.op i j).k (p.op i j).a (p.op i j).b)) (fun a X ee hb => execLdO rfl (ee _) (by have z_ := SliceO.at (hO.on (BB.trans (hb.mono BB.size))) rfl (show j < p.ln i + 2 by omega); rw [oj] at z_; exact z_)) (dw_ 4 (.pointer (some ⟨g2, 1, none⟩)) (fun a X ee => execPf1 rfl (ee _)) (dv_ 5 (tz) (fun a X ee hb => execLdG rfl (Or.inr (Or.inr (Or.inr (Or.inr (Or.inl rfl))))) (ee _) (plB_at (on9 Fg2 (BB.trans (hb.mono BB.size)))).2) (dw_ 7 (.pointer (some ⟨tb, to_ + i, none⟩)) (fun a X ee => execIxOO (k := i) rfl ((ee _).trans etz) (ee _) lti) (dv_ 8 (xz i) (fun a X ee hb => execLdG rfl (Or.inr (Or.inr (Or.inr (Or.inr (Or.inr rfl))))) (ee _) (SliceV.at (htv.on (BB.trans (hb.mono BB.size))) etz lti)) (dw_ 10 (.pointer (some ⟨zb, zo + j * 3, none⟩)) (fun a X ee => execIxOs (k := j) rfl ((ee _).trans ezi) (ee _) ltj) (dv_ 11 (.agg (oC (p.op i j).k (p.op i j).a (p.op i j).b)) (fun a X ee hb => execLdO rfl (ee _) (SliceO.at ((hxz i lti).on (BB.trans (hb.mono BB.size))) ezi ltj)) (dw_ 12 (.bool false) (fun a X ee => execNeOp rfl (ee _) (ee _)) (dz_ [(228, .bool false)] (h11_ t1 t2 t6 t9 t10 t12 t14 t16 t17 t18 t19) ?_)))))))))
      rintro a A ⟨t228, -⟩ ⟨t1, t2, t6, t9, t10, t12, t14, t16, t17, t18, t19, -⟩
      replace BB := BB.trans (bD.mono BB.size)
      clear bD
      refine wp_cond_false t228 ?_
      refine wp_skip ?_
      clear t228
      refine wi_ A (h11_ t1 t2 t6 t9 t10 t12 t14 t16 t17 t18 t19) (rv_ 1 (.int .i64 ((j + 1 : Nat) : Int)) (fun a ee => execAd8 (p := j) (q := 1) rfl (ee _) rfl (by omega)) (rf_ [(19, .int .i64 ((j + 1 : Nat) : Int))] (h10_ t1 t2 t6 t9 t10 t12 t14 t16 t17 t18) ?_))
      rintro a A ⟨t19, -⟩ ⟨t1, t2, t6, t9, t10, t12, t14, t16, t17, t18, -⟩
      exact ⟨⟨j + 1, ltj, A, t1, t2, t6, t9, t10, t12, t14, t16, t17, t18, t19, BB⟩, by show p.ln i - (intOf (a.eval (.tmp 19))).toNat < p.ln i - (intOf (Act.eval _ (.tmp 19))).toNat; rw [t19, esj]; show p.ln i - (j + 1) < p.ln i - j; omega⟩
    · rw [decide_eq_false ltj] at t213
      refine wp_cond_false t213 ?_
      refine wp_exit ?_
      first | with_reducible refine exit_in ?_ | with_reducible refine exit_then (exit_in ?_) | with_reducible refine exit_then (exit_then (exit_in ?_)) | refine exit_in ?_ | refine exit_then (exit_in ?_) | refine exit_then (exit_then (exit_in ?_))
      clear t213 esj
      refine wi_ A (h8_ t1 t2 t6 t9 t10 t12 t14 t16) (rv_ 1 (.int .i64 ((i + 1 : Nat) : Int)) (fun a ee => execAd8 (p := i) (q := 1) rfl (ee _) rfl (by omega)) (rf_ [(16, .int .i64 ((i + 1 : Nat) : Int))] (h7_ t1 t2 t6 t9 t10 t12 t14) ?_))
      rintro a A ⟨t16, -⟩ ⟨t1, t2, t6, t9, t10, t12, t14, -⟩
      exact ⟨⟨i + 1, lti, A, t1, t2, t6, t9, t10, t12, t14, t16, BB⟩, by show p.n - (intOf (a.eval (.tmp 16))).toNat < p.n - (intOf (Act.eval _ (.tmp 16))).toNat; rw [t16, esi]; show p.n - (i + 1) < p.n - i; omega⟩
  · rw [decide_eq_false lti] at t179
    refine wp_cond_false t179 ?_
    refine wp_exit ?_
    first | with_reducible refine exit_in ?_ | with_reducible refine exit_then (exit_in ?_) | with_reducible refine exit_then (exit_then (exit_in ?_)) | refine exit_in ?_ | refine exit_then (exit_in ?_) | refine exit_then (exit_then (exit_in ?_))
    clear t179 esi
    refine wp_seq ?_
    obtain ⟨g233, egg233⟩ : ∃ z_ : Nat, XL19.heap.size = z_ := ⟨_, rfl⟩
    refine wi_ A (h7_ t1 t2 t6 t9 t10 t12 t14) (rv_ 0 (.pointer (some ⟨g10, 0, none⟩)) (fun a ee => execFh0 rfl (ee _)) (rv_ 1 (pka) (fun a ee => execLdG rfl (Or.inl rfl) (ee _) (hC_at (on9 Fg10s BB)).1) (rv_ 2 (.pointer (some ⟨g12, 0, none⟩)) (fun a ee => execFh0 rfl (ee _)) (rv_ 3 (pkb) (fun a ee => execLdG rfl (Or.inl rfl) (ee _) (hC_at (on9 Fg12s BB)).1) (rs_ 4 (fun a ee => ?_))))))
    refine stepV rfl rfl (execBs2L rfl (ee _) (ee _) (sl3 FHa.picks.shp) (sl3 FHb.picks.shp)) ⟨.slice (some ⟨g233, 0, none⟩) 2 2, ⟨_, rfl, by subst egg233; rfl⟩, fun X30_1 hX => ?_⟩
    have bQ : Below XL19.heap.size XL19 X30_1 := by subst hX egg233; exact (belNew XL19 _)
    have FL : (X30_1.ownsRow X15.heap.size 22 1 (.slice (some ⟨g233, 0, none⟩) 2 2) 2 [pka, pkb]) := by subst hX egg233; exact ownD_base (own_new2 XL19 _ _) (BB).size
    replace BB := BB.trans (bQ.mono BB.size)
    clear bQ hX egg233 ee a
    refine rv_ 5 (.pointer (some ⟨g10, 5, none⟩)) (fun a ee => execFh5 rfl (ee _)) (rv_ 6 (tka) (fun a ee => execLdG rfl (Or.inr (Or.inr (Or.inr (Or.inl rfl)))) (ee _) (hC_at (on9 Fg10s BB)).2.2.2.2.2) (rs_ 7 (fun a ee => ?_)))
    refine stepAppLL rfl rfl rfl (ee _) (ee _) FL (by omega) (FHa.on BB).tk (fun t ht => sl3 (FHa.taken ht).shp) (by omega) (BB).size fun v236 X30 own' gr => ⟨_, ⟨_, rfl, rfl⟩, eqw ?_⟩
    obtain ⟨BB, FL2⟩ : Below X15.heap.size X15 X30 ∧ (X30.ownsRow X15.heap.size 22 1 v236 (2 + p.n) ([pka, pkb] ++ lL tva p.n)) := ⟨(BB).grown gr (BB).size (fun k hk => (FL.lt k hk).1), own'⟩
    clear FL ee a
    refine rf_ [(20, v236)] (h5_ t1 t6 t9 t12 t14) ?_
    rintro a A ⟨t20, -⟩ ⟨t1, t6, t9, t12, t14, -⟩
    refine wp_seq ?_
    refine wi_ A (h6_ t1 t6 t9 t12 t14 t20) (rv_ 1 (.pointer (some ⟨g12, 5, none⟩)) (fun a ee => execFh5 rfl (ee _)) (rv_ 2 (tkb) (fun a ee => execLdG rfl (Or.inr (Or.inr (Or.inr (Or.inl rfl)))) (ee _) (hC_at (on9 Fg12s BB)).2.2.2.2.2) (rs_ 3 (fun a ee => ?_))))
    refine stepAppLL rfl rfl rfl (ee _) (ee _) FL2 (by omega) (FHb.on BB).tk (fun t ht => sl3 (FHb.taken ht).shp) (by omega) (BB).size fun v240 X31 own' gr => ⟨_, ⟨_, rfl, rfl⟩, eqw ?_⟩
    obtain ⟨BB, FL3⟩ : Below X15.heap.size X15 X31 ∧ (X31.ownsRow X15.heap.size 22 1 v240 (2 + p.n + p.n) ([pka, pkb] ++ lL tva p.n ++ lL tvb p.n)) := ⟨(BB).grown gr (BB).size (fun k hk => (FL2.lt k hk).1), own'⟩
    clear FL2 ee a
    refine rf_ [(20, v240)] (h4_ t1 t6 t9 t14) ?_
    rintro a A ⟨t20, -⟩ ⟨t1, t6, t9, t14, -⟩
    have BY : Below X12.heap.size X12 X31 := BU.trans (BB.mono BU.size)
    have hfm := (h2R.on BRT).on BB
    obtain ⟨gl, cl, cur, e20, hgl, hcur⟩ := own_at FL3 (by omega)
    subst e20
    replace FHw := FHw.on BB
    replace Fg14s := on9 Fg14s BB
    clear BB
    have BB := BY
    have nn_le : ∀ t, t < 2 + p.n + p.n → (fun t => jn (p.n + 1) (hN N tq) (hN N tq) (sg p.n t)) t ≤ 17592186044000 := fun t _ => by
      have hh : ∀ s, hN N tq s ≤ 65536 := fun s => by cases s with | zero => exact hle | succ s => exact htl s
      show jn (p.n + 1) (hN N tq) (hN N tq) (sg p.n t) ≤ _
      unfold jn
      split
      · exact Nat.le_trans (hh _) (by omega)
      · exact Nat.le_trans (hh _) (by omega)
    refine wp_seq ?_
    refine wp_seq ?_
    refine wi_ A (h5_ t1 t6 t9 t14 t20) (rc_ 1 (Brd.apart19 X12 X31 (2 + p.n + p.n) gl cl (fun t => jn (p.n + 1) (cns pka tva) (cns pkb tvb) (sg p.n t)) _ cur (by omega) (fun t ht => (hcur t ht).trans (lists_row ht)) (fun t ht => nn_le t ht) _ BB hfm hgl) fun e X32 hh => ?_)
    obtain ⟨he, hsv, hb⟩ := hh
    refine ⟨_, he, ?_⟩
    obtain ⟨BB, FSv⟩ : Below X12.heap.size X12 X32 ∧ (Saved (Brd.GxI (2 + p.n + p.n) (fun t => jn (p.n + 1) (cns pka tva) (cns pkb tvb) (sg p.n t))) X31 X32) := ⟨hb, hsv⟩
    refine rv_ 2 (.bool false) (fun a ee => execNot8 (b := true) rfl (ee _)) (rf_ [(243, .bool false)] (h4_ t1 t6 t9 t14) ?_)
    rintro a A ⟨t243, -⟩ ⟨t1, t6, t9, t14, -⟩
    refine wp_cond_false t243 ?_
    refine wp_skip ?_
    clear t243
    have hGx : ∀ b, Brd.GxI (2 + p.n + p.n) (fun t => jn (p.n + 1) (cns pka tva) (cns pkb tvb) (sg p.n t)) b → b < X14.heap.size := fun b ⟨t, ht, hb⟩ => ((h2R.rows t ht).lt b hb).2
    replace FHw := FHw.saved FSv hGx
    replace Fg14s : X32.heap[g14]? = some (.cells (hC pkw M en st l tkw) 29) := by
      rw [FSv.block g14 (Array.getElem?_eq_some_iff.1 Fg14s).1 (fun q => absurd (hGx g14 q) (Nat.not_lt.2 Fgeg14))]
      exact Fg14s
    replace Fg6P := on9 Fg6P BB
    replace hinP := hinP.on BB
    replace hfsP := hfsP.on BB
    have BF := BVP.trans (BB.mono BVP.size)
    clear BB
    have BB : Below X32.heap.size X32 X32 := Below.refl _ _
    refine wp_seq ?_
    refine wp_region_stB (σ := Value × Value × (Nat → Value) × Nat) 260 [(0, 245), (1, 246), (2, 247), (3, 248), (4, 249), (5, 250), (6, 244), (7, 251), (8, 252), (9, 21), (11, 22)] (fun l_ s X => Below X32.heap.size X32 X ∧ (l_ 5 = true → (His X32.heap.size X s.1 s.2.1 s.2.2.1 N p.n (fun i => (Loo.pk p (scr m1 sc) i : Int)) tq)) ∧ (l_ 9 = true → l_ 10 = false → (X.heap[s.2.2.2]? = some (.cells (hC (.slice none 0 0) 0 false false 0 (.slice none 0 0)) 29))) ∧ (l_ 9 = true → (X32.heap.size ≤ s.2.2.2)) ∧ (l_ 10 = true → (X.heap[s.2.2.2]? = some (.cells (hC s.1 M en st l s.2.1) 29)))) (fun s => fun i_ => match i_ with | 0 => .agg #[.slice (some ⟨gc, 0, none⟩) p.d cc, tl] | 1 => .slice (some ⟨gf, 0, none⟩) (m1 + 2) cf | 2 => v1 | 3 => .int .i64 ((m1 : Nat) : Int) | 4 => .slice (some ⟨gf, 0, none⟩) m1 cf | 5 => .tuple #[.agg (hC s.1 M en st l s.2.1), .int .i64 ((0 : Nat) : Int)] | 6 => .tuple #[.agg (hC s.1 M en st l s.2.1), .int .i64 ((0 : Nat) : Int)] | 7 => .agg (hC s.1 M en st l s.2.1) | 8 => .int .i64 ((0 : Nat) : Int) | 9 => .pointer (some ⟨s.2.2.2, 0, none⟩) | 10 => undef | 11 => .int .i64 ((0 : Nat) : Int) | _ => undef) (undef, undef, fun _ => undef, 0) (by kernel_rfl) (by kernel_rfl) A.1 (by kernel_rfl) (by decide) (by decide) ⟨(BB.drew), (fun q0_ => by cases q0_), (fun q0_ q1_ => by cases q0_), (fun q0_ => by cases q0_), (fun q0_ => by cases q0_)⟩ ?_ ?_
    · intro i_ hi_ l_ s a X hl_ hf hdep hl2 hcl hno hT
      have up : ∀ j x, x ≠ j → updB l_ j x = l_ x := fun j x hj => by unfold updB; simp [hj]
      match i_, hi_ with
      | 0, _ => exact stepV rfl rfl (execLdPz rfl ((hf 6 (by decide)).trans t6) (on9 Fg6P hT.1)) ⟨s, ⟨_, rfl, rfl⟩, ⟨hT.1, (fun q0_ => absurd (hl_.symm.trans (hcl 5 _ rfl ((up 0 5 (by decide)).symm.trans q0_) 0 rfl)) (by decide)), (fun q0_ q1_ => (hT.2.2.1 (by rw [up 0 9 (by decide)] at q0_; exact q0_) (by rw [up 0 10 (by decide)] at q1_; exact q1_))), (fun q0_ => (hT.2.2.2.1 (by rw [up 0 9 (by decide)] at q0_; exact q0_))), (fun q0_ => absurd (hl_.symm.trans (hcl 10 _ rfl ((up 0 10 (by decide)).symm.trans q0_) 0 rfl)) (by decide))⟩, fun _ _ _ => rfl⟩
      | 1, _ => exact stepV rfl rfl (execMvB rfl ((hf 9 (by decide)).trans t9)) ⟨s, ⟨_, rfl, rfl⟩, ⟨hT.1, (fun q0_ => absurd (hl_.symm.trans (hcl 4 _ rfl (hcl 5 _ rfl ((up 1 5 (by decide)).symm.trans q0_) 4 rfl) 1 rfl)) (by decide)), (fun q0_ q1_ => (hT.2.2.1 (by rw [up 1 9 (by decide)] at q0_; exact q0_) (by rw [up 1 10 (by decide)] at q1_; exact q1_))), (fun q0_ => (hT.2.2.2.1 (by rw [up 1 9 (by decide)] at q0_; exact q0_))), (fun q0_ => absurd (hl_.symm.trans (hcl 10 _ rfl ((up 1 10 (by decide)).symm.trans q0_) 1 rfl)) (by decide))⟩, fun _ _ _ => rfl⟩
      | 2, _ => exact stepV rfl rfl (execMvB rfl ((hf 1 (by decide)).trans t1)) ⟨s, ⟨_, rfl, rfl⟩, ⟨hT.1, (fun q0_ => absurd (hl_.symm.trans (hcl 3 _ rfl (hcl 4 _ rfl (hcl 5 _ rfl ((up 2 5 (by decide)).symm.trans q0_) 4 rfl) 3 rfl) 2 rfl)) (by decide)), (fun q0_ q1_ => (hT.2.2.1 (by rw [up 2 9 (by decide)] at q0_; exact q0_) (by rw [up 2 10 (by decide)] at q1_; exact q1_))), (fun q0_ => (hT.2.2.2.1 (by rw [up 2 9 (by decide)] at q0_; exact q0_))), (fun q0_ => absurd (hl_.symm.trans (hcl 10 _ rfl ((up 2 10 (by decide)).symm.trans q0_) 2 rfl)) (by decide))⟩, fun _ _ _ => rfl⟩
      | 3, _ => exact stepV rfl rfl (execLenI (len := m1) rfl (hdep _ rfl 2 rfl _ rfl _ rfl) hv1.shp) ⟨s, ⟨_, rfl, rfl⟩, ⟨hT.1, (fun q0_ => absurd (hl_.symm.trans (hcl 4 _ rfl (hcl 5 _ rfl ((up 3 5 (by decide)).symm.trans q0_) 4 rfl) 3 rfl)) (by decide)), (fun q0_ q1_ => (hT.2.2.1 (by rw [up 3 9 (by decide)] at q0_; exact q0_) (by rw [up 3 10 (by decide)] at q1_; exact q1_))), (fun q0_ => (hT.2.2.2.1 (by rw [up 3 9 (by decide)] at q0_; exact q0_))), (fun q0_ => absurd (hl_.symm.trans (hcl 10 _ rfl ((up 3 10 (by decide)).symm.trans q0_) 3 rfl)) (by decide))⟩, fun _ _ _ => rfl⟩
      | 4, _ => exact stepV rfl rfl (execSlz rfl (hdep _ rfl 1 rfl _ rfl _ rfl) (hdep _ rfl 3 rfl _ rfl _ rfl) (slzI gf _ cf m1 (by omega) X)) ⟨s, ⟨_, rfl, rfl⟩, ⟨hT.1, (fun q0_ => absurd (hl_.symm.trans (hcl 5 _ rfl ((up 4 5 (by decide)).symm.trans q0_) 4 rfl)) (by decide)), (fun q0_ q1_ => (hT.2.2.1 (by rw [up 4 9 (by decide)] at q0_; exact q0_) (by rw [up 4 10 (by decide)] at q1_; exact q1_))), (fun q0_ => (hT.2.2.2.1 (by rw [up 4 9 (by decide)] at q0_; exact q0_))), (fun q0_ => absurd (hl_.symm.trans (hcl 10 _ rfl ((up 4 10 (by decide)).symm.trans q0_) 4 rfl)) (by decide))⟩, fun _ _ _ => rfl⟩
      | 5, _ =>
        refine stepC rfl rfl (execCall2 Try.func6 (by kernel_rfl) (by kernel_rfl) rfl (hdep _ rfl 0 rfl _ rfl _ rfl) (hdep _ rfl 4 rfl _ rfl _ rfl)) (play_ok I p _ _ m1 sc X (hinP.on hT.1) (hfsP.on hT.1) hk hR eM rfl eE eS el et) fun e w' hh => ?_
        obtain ⟨pk_, tk_, tv_, he, hH, hb⟩ := hh
        refine ⟨_, he, (pk_, tk_, tv_, s.2.2.2), ⟨_, rfl, rfl⟩, ⟨hT.1.trans ((hb).mono hT.1.size), (fun _q0_ => hH.base (hT.1).size), (fun q0_ q1_ => (on9 (hT.2.2.1 (by rw [up 5 9 (by decide)] at q0_; exact q0_) (by rw [up 5 10 (by decide)] at q1_; exact q1_)) hb)), (fun q0_ => (hT.2.2.2.1 (by rw [up 5 9 (by decide)] at q0_; exact q0_))), (fun q0_ => absurd (hl_.symm.trans (hcl 10 _ rfl ((up 5 10 (by decide)).symm.trans q0_) 5 rfl)) (by decide))⟩, fun i hi hli => ?_⟩
        match i, hi with
        | 0, _ => rfl
        | 1, _ => rfl
        | 2, _ => rfl
        | 3, _ => rfl
        | 4, _ => rfl
        | 5, _ => exact absurd (hl_.symm.trans hli) (by decide)
        | 6, _ => exact absurd (hl_.symm.trans (hcl 6 _ rfl hli 5 rfl)) (by decide)
        | 7, _ => exact absurd (hl_.symm.trans (hcl 6 _ rfl (hcl 7 _ rfl hli 6 rfl) 5 rfl)) (by decide)
        | 8, _ => rfl
        | 9, _ => rfl
        | 10, _ => rfl
        | 11, _ => rfl
        | k_ + 12, h_ => exact absurd h_ (by simp)
      | 6, _ => exact stepV rfl rfl (execMvB rfl (hdep _ rfl 5 rfl _ rfl _ rfl)) ⟨s, ⟨_, rfl, rfl⟩, ⟨hT.1, (fun q0_ => (hT.2.1 (by rw [up 6 5 (by decide)] at q0_; exact q0_))), (fun q0_ q1_ => (hT.2.2.1 (by rw [up 6 9 (by decide)] at q0_; exact q0_) (by rw [up 6 10 (by decide)] at q1_; exact q1_))), (fun q0_ => (hT.2.2.2.1 (by rw [up 6 9 (by decide)] at q0_; exact q0_))), (fun q0_ => absurd (hl_.symm.trans (hcl 10 _ rfl ((up 6 10 (by decide)).symm.trans q0_) 6 rfl)) (by decide))⟩, fun _ _ _ => rfl⟩
      | 7, _ => exact stepV rfl rfl (execExtT rfl (hdep _ rfl 6 rfl _ rfl _ rfl) rfl) ⟨s, ⟨_, rfl, rfl⟩, ⟨hT.1, (fun q0_ => (hT.2.1 (by rw [up 7 5 (by decide)] at q0_; exact q0_))), (fun q0_ q1_ => (hT.2.2.1 (by rw [up 7 9 (by decide)] at q0_; exact q0_) (by rw [up 7 10 (by decide)] at q1_; exact q1_))), (fun q0_ => (hT.2.2.2.1 (by rw [up 7 9 (by decide)] at q0_; exact q0_))), (fun q0_ => absurd (hl_.symm.trans (hcl 10 _ rfl ((up 7 10 (by decide)).symm.trans q0_) 7 rfl)) (by decide))⟩, fun _ _ _ => rfl⟩
      | 8, _ => exact stepV rfl rfl (execExtT rfl (hdep _ rfl 6 rfl _ rfl _ rfl) rfl) ⟨s, ⟨_, rfl, rfl⟩, ⟨hT.1, (fun q0_ => (hT.2.1 (by rw [up 8 5 (by decide)] at q0_; exact q0_))), (fun q0_ q1_ => (hT.2.2.1 (by rw [up 8 9 (by decide)] at q0_; exact q0_) (by rw [up 8 10 (by decide)] at q1_; exact q1_))), (fun q0_ => (hT.2.2.2.1 (by rw [up 8 9 (by decide)] at q0_; exact q0_))), (fun q0_ => (hT.2.2.2.2 (by rw [up 8 10 (by decide)] at q0_; exact q0_)))⟩, fun _ _ _ => rfl⟩
      | 9, _ =>
        refine stepV rfl rfl (execAlH rfl) ⟨(s.1, s.2.1, s.2.2.1, X.heap.size), ⟨_, rfl, rfl⟩, ⟨hT.1.trans (((belNew X _)).mono hT.1.size), (fun q0_ => ((hT.2.1 (by rw [up 9 5 (by decide)] at q0_; exact q0_)).on (belNew X _))), (fun _q0_ _q1_ => heapNew X _), (fun _q0_ => (hT.1).size), (fun q0_ => absurd (hl_.symm.trans (hcl 10 _ rfl ((up 9 10 (by decide)).symm.trans q0_) 9 rfl)) (by decide))⟩, fun i hi hli => ?_⟩
        match i, hi with
        | 0, _ => rfl
        | 1, _ => rfl
        | 2, _ => rfl
        | 3, _ => rfl
        | 4, _ => rfl
        | 5, _ => rfl
        | 6, _ => rfl
        | 7, _ => rfl
        | 8, _ => rfl
        | 9, _ => exact absurd (hl_.symm.trans hli) (by decide)
        | 10, _ => rfl
        | 11, _ => rfl
        | k_ + 12, h_ => exact absurd h_ (by simp)
      | 10, _ =>
        refine stepS rfl rfl (execStH rfl (hdep _ rfl 9 rfl _ rfl _ rfl) (hdep _ rfl 7 rfl _ rfl _ rfl) (hT.2.2.1 (hl2 _ rfl 9 rfl) hl_) (sl3 (hT.2.1 (hl2 _ rfl 5 rfl)).picks.shp) (sl3 (hT.2.1 (hl2 _ rfl 5 rfl)).lists.shp)) ⟨s, ⟨_, rfl, rfl⟩, ⟨below4 hT.1 (hT.2.2.2.1 (hl2 _ rfl 9 rfl)) _, (fun q0_ => ((hT.2.1 (by rw [up 10 5 (by decide)] at q0_; exact q0_)).keepT (hT.2.2.1 (hl2 _ rfl 9 rfl) hl_) (by decide) (by decide) grR18)), (fun q0_ q1_ => absurd q1_ (by unfold updB; simp)), (fun q0_ => (hT.2.2.2.1 (by rw [up 10 9 (by decide)] at q0_; exact q0_))), (fun _q0_ => setRow_heap _ _ _ _ _ _ (hT.2.2.1 (hl2 _ rfl 9 rfl) hl_))⟩, fun i hi hli => ?_⟩
        match i, hi with
        | 0, _ => rfl
        | 1, _ => rfl
        | 2, _ => rfl
        | 3, _ => rfl
        | 4, _ => rfl
        | 5, _ => rfl
        | 6, _ => rfl
        | 7, _ => rfl
        | 8, _ => rfl
        | 9, _ => rfl
        | 10, _ => exact absurd (hl_.symm.trans hli) (by decide)
        | 11, _ => rfl
        | k_ + 12, h_ => exact absurd h_ (by simp)
      | 11, _ => exact stepV rfl rfl (Cf.execAsgB rfl (hdep _ rfl 8 rfl _ rfl _ rfl)) ⟨s, ⟨_, rfl, rfl⟩, ⟨hT.1, (fun q0_ => (hT.2.1 (by rw [up 11 5 (by decide)] at q0_; exact q0_))), (fun q0_ q1_ => absurd (q1_.symm.trans ((up 11 10 (by decide)).trans (hl2 _ rfl 10 rfl))) (by decide)), (fun q0_ => (hT.2.2.2.1 (by rw [up 11 9 (by decide)] at q0_; exact q0_))), (fun q0_ => (hT.2.2.2.2 (by rw [up 11 10 (by decide)] at q0_; exact q0_)))⟩, fun _ _ _ => rfl⟩
      | k_ + 12, h_ => exact absurd h_ (by simp)
    rintro l_ ⟨pkc, tkc, tvc, g21⟩ a X34 h1 h2 h3 h4 hall hT
    clear BB
    obtain ⟨BB, FHc, Fg21, Fgeg21, Fg21s⟩ := hT
    replace FHc : (His X32.heap.size X34 pkc tkc tvc N p.n (fun i => (Loo.pk p (scr m1 sc) i : Int)) tq) := FHc (hall 5 (by decide))
    clear Fg21
    replace Fgeg21 : (X32.heap.size ≤ g21) := Fgeg21 (hall 9 (by decide))
    replace Fg21s : (X34.heap[g21]? = some (.cells (hC pkc M en st l tkc) 29)) := Fg21s (hall 10 (by decide))
    clear hall
    replace t14 := (h3 14 (by decide)).trans t14
    have t21 : a.eval (.tmp 21) = .pointer (some ⟨g21, 0, none⟩) := h4 (9, 21) (by decide)
    have t22 : a.eval (.tmp 22) = .int .i64 ((0 : Nat) : Int) := h4 (11, 22) (by decide)
    replace A := (⟨h1, h2.trans A.2⟩ : a.tmps.size = 260 ∧ a.defers = [])
    clear h1 h2 h3 h4
    clear t1 t6 t9
    refine wp_seq ?_
    refine wi_ A (h3_ t14 t21 t22) (rv_ 1 (.bool true) (fun a ee => execDec (execEreql (p := 0) (q := 0) rfl (ee _)) (by decide)) (rv_ 3 (.agg (hC pkc M en st l tkc)) (fun a ee => execLdHw rfl (ee _) Fg21s) (rv_ 4 (.agg (hC pkw M en st l tkw)) (fun a ee => execLdHw rfl (ee _) (on9 Fg14s BB)) (rc_ 5 (sameHistory19 _ _ _ _ M l N p.n en st _ _ tvc tvw (fun t => (tq t).length) (fun t j => (tq t).getD j 0) (fun t j => (tq t).getD j 0) X34 FHc.picks (FHw.on BB).picks (fun _ _ => rfl) (by omega) FHc.lists (FHw.on BB).lists (fun t ht => FHc.taken ht) (fun t ht => (FHw.on BB).taken ht) (fun _ _ _ _ => rfl) (fun t _ => Nat.le_trans (htl t) (by omega)) (by omega)) (cb_ fun X35 bQ => ?_)))))
    replace FHc := (FHc.on bQ)
    replace Fg21s := (on9 Fg21s bQ)
    replace BB := BB.trans (bQ.mono BB.size)
    clear bQ
    refine rg_ [(4, .bool true)] ?_
    rintro a A ⟨t4, -⟩
    refine wp_ret ?_
    refine bodyPost_ret (results_tmp rfl _ _ _) A.2 ⟨?_, BF.trans (BB.mono BF.size)⟩
    show Ending.returned (a.eval (.tmp 4)) = _
    rw [t4]
end Go.Proofs.Ytcgkelgncehekab.Loo
