import Derived.Test.YtcgkelgncehekaaE8e
namespace Go.Proofs.Ytcgkelgncehekaa.Loo
/- A pipe of many hands, whatever the script: what comes of it (LoomPipes). Names nothing of a program. -/

section
variable {I C K c0 c1 : Nat} {r : Rm} {s : Ab}
theorem pip_step (h : Rel I C K r s) (j : PJ I C K s) (hl : s.h0.length ≤ c0 ∧ s.h1.length ≤ c1) {t : Nat} (ht : t < C + 2 + K) (hm : may (pipP I C K c0 c1) r t = true) : Nx I C K c0 c1 r s t := by
  rcases who ht with rfl | ⟨c, hc, rfl⟩ | rfl | ⟨k, hk, rfl⟩
  · exact pip0 h j hl hm
  · exact pipC h j hl hc hm
  · exact pipW h j hl hm
  · exact pipK h j hl hk hm
theorem may_to {p : Pl} {t : Nat} {o : Op3} (ha : at_ p r t = o) (hm : may p r t = false) : (if o.k = 0 then false else if o.k = 1 then r.cl o.a.toNat || decide (((r.hd o.a.toNat).length : Int) < p.cap o.a.toNat) || mts p r o.a.toNat (tak p r o.a.toNat) else if o.k = 2 then rdy p r o.a.toNat || r.cl o.a.toNat else if o.k = 8 then rdy p r o.a.toNat || rdy p r o.b.toNat || spt r o.a.toNat && spt r o.b.toNat else if o.k = 9 then gone p r o.a.toNat else true) = false := by
  subst ha
  exact hm
/-- Where none may be picked all have ended. -/
theorem pip_end (h : Rel I C K r s) (j : PJ I C K s) (hC : 0 < C) (hK : 0 < K) (hn : ∀ t, t < C + 2 + K → may (pipP I C K c0 c1) r t = false) :
    s.q = 2 * I + 1 ∧ (∀ c, c < C → s.P c = 3) ∧ s.w = C + 1 ∧ ∀ k, k < K → s.Q k = 2 := by
  have hq := j.q1
  have hT := j.T1
  -- a taker that hasn't ended stands at its take, and nothing is there
  have hk : ∀ k, k < K → s.Q k = 2 ∨ (s.Q k = 0 ∧ s.h1 = [] ∧ s.w ≠ C + 1) := by
    intro k hk
    have ha := h.atK (c0 := c0) (c1 := c1) j hk
    have hm := hn (C + 2 + k) (by omega)
    by_cases e : s.Q k = 2
    · exact Or.inl e
    rw [if_neg e] at ha
    by_cases e0 : s.Q k = 0
    · rw [if_pos e0] at ha
      have hm' : (rdy (pipP I C K c0 c1) r 1 || r.cl 1) = false := may_to ha hm
      rw [Bool.or_eq_false_iff] at hm'
      refine Or.inr ⟨e0, ?_, fun z => ?_⟩
      · have : ¬ 0 < (r.hd 1).length := fun z => by rw [rdy_iff.2 (Or.inl z)] at hm'; cases hm'.1
        rw [h.h1] at this
        exact List.eq_nil_of_length_eq_zero (by omega)
      · rw [h.c1, decide_eq_true z] at hm'
        cases hm'.2
    · rw [if_neg e0] at ha
      cases may_to ha hm
  -- no carrier holds a number in its hand
  have hc1 : ∀ c, c < C → s.P c = 0 ∨ s.P c = 3 := by
    intro c hc
    have ha := h.atC (c0 := c0) (c1 := c1) j hc
    have hm := hn (1 + c) (by omega)
    have hp := j.P1 c hc
    by_cases e : s.P c = 3
    · exact Or.inr e
    rw [if_neg e] at ha
    by_cases e0 : s.P c = 0
    · exact Or.inl e0
    rw [if_neg e0] at ha
    by_cases e1 : s.P c = 1
    · rw [if_pos e1] at ha
      have hm' : (r.cl 1 || decide (((r.hd 1).length : Int) < (c1 : Int)) || mts (pipP I C K c0 c1) r 1 (tak (pipP I C K c0 c1) r 1)) = false := may_to ha hm
      simp only [Bool.or_eq_false_iff, decide_eq_false_iff_not] at hm'
      obtain ⟨⟨m1, m2⟩, m3⟩ := hm'
      have hw : s.w ≠ C + 1 := fun z => e (j.Pw c hc (by omega))
      exfalso
      rcases hk 0 hK with q | ⟨q, q2, -⟩
      · exact hw (j.Q2 0 hK q).1
      · rw [h.h1, q2] at m2
        have hz : c1 = 0 := by simp at m2; omega
        unfold mts at m3
        rw [m1, h.has1 j hK q, decide_eq_true (show (pipP I C K c0 c1).cap 1 = 0 from by show ((c1 : Nat) : Int) = 0; omega)] at m3
        cases m3
    · rw [if_neg e1] at ha
      cases may_to ha hm
  -- the feeder
  have hf : s.q = 2 * I + 1 := by
    have ha := h.at0 (c0 := c0) (c1 := c1) j
    have hm := hn 0 (by omega)
    by_cases e : s.q = 2 * I + 1
    · exact e
    rw [if_neg e] at ha
    by_cases e2 : s.q = 2 * I
    · rw [if_pos e2] at ha
      cases may_to ha hm
    rw [if_neg e2] at ha
    by_cases e3 : s.q % 2 = 0
    · rw [if_pos e3] at ha
      cases may_to ha hm
    rw [if_neg e3] at ha
    exfalso
    have hm' : (r.cl 0 || decide (((r.hd 0).length : Int) < (c0 : Int)) || mts (pipP I C K c0 c1) r 0 (tak (pipP I C K c0 c1) r 0)) = false := may_to ha hm
    simp only [Bool.or_eq_false_iff, decide_eq_false_iff_not] at hm'
    obtain ⟨⟨m1, m2⟩, m3⟩ := hm'
    rcases hc1 0 hC with q | q
    · have ha0 := h.atC (c0 := c0) (c1 := c1) j hC
      rw [if_neg (by omega), if_pos q] at ha0
      have hm0 : (rdy (pipP I C K c0 c1) r 0 || r.cl 0) = false := may_to ha0 (hn (1 + 0) (by omega))
      rw [Bool.or_eq_false_iff] at hm0
      have h0 : ¬ 0 < (r.hd 0).length := fun z => by rw [rdy_iff.2 (Or.inl z)] at hm0; cases hm0.1
      have hz : c0 = 0 := by omega
      unfold mts at m3
      rw [m1, h.has0 j hC q, decide_eq_true (show (pipP I C K c0 c1).cap 0 = 0 from by show ((c0 : Nat) : Int) = 0; omega)] at m3
      cases m3
    · exact e (j.P3 0 hC q).1
  have hc3 : ∀ c, c < C → s.P c = 3 := by
    intro c hc
    rcases hc1 c hc with q | q
    · have ha0 := h.atC (c0 := c0) (c1 := c1) j hc
      rw [if_neg (by omega), if_pos q] at ha0
      have hm0 : (rdy (pipP I C K c0 c1) r 0 || r.cl 0) = false := may_to ha0 (hn (1 + c) (by omega))
      rw [Bool.or_eq_false_iff, h.c0, decide_eq_true hf] at hm0
      cases hm0.2
    · exact q
  have hw : s.w = C + 1 := by
    have hw1 := j.w1
    have ha := h.atW (c0 := c0) (c1 := c1) j
    have hm := hn (C + 1) (by omega)
    by_cases e : s.w = C + 1
    · exact e
    rw [if_neg e] at ha
    by_cases e2 : s.w = C
    · rw [if_pos e2] at ha
      cases may_to ha hm
    rw [if_neg e2] at ha
    have hm' : gone (pipP I C K c0 c1) r (((1 + s.w : Nat) : Int)).toNat = false := may_to ha hm
    rw [Int.toNat_natCast, h.goneC j (by omega), decide_eq_true (hc3 _ (by omega))] at hm'
    cases hm'
  refine ⟨hf, hc3, hw, fun k hk' => ?_⟩
  rcases hk k hk' with q | ⟨_, _, q⟩
  · exact q
  · exact absurd hw q
def ab0 : Ab := ⟨0, 0, 0, fun _ => 0, fun _ => 0, fun _ => [], fun _ => 0, fun _ => [], [], []⟩
theorem rel0 (I C K : Nat) : Rel I C K r0 ab0 :=
  ⟨rfl, fun _ => rfl, fun _ _ => rfl, fun _ _ => rfl, fun _ _ => rfl, rfl, fun _ _ => rfl, fun _ _ => rfl, rfl, rfl, by show false = _; simp [ab0], by show false = _; simp [ab0], rfl, fun _ => rfl, rfl, rfl⟩
theorem box0 (x : Int) : box x 0 = 0 := by
  unfold box ind
  rw [if_neg (by simp; omega)]
theorem pj0 (I C K : Nat) : PJ I C K ab0 := by
  refine ⟨Nat.zero_le _, Nat.zero_le _, Nat.le_refl _, rfl, fun _ _ => Nat.zero_le _, fun _ _ e => ?_, fun c _ e => absurd e (Nat.not_lt_zero c), fun _ _ => Nat.zero_le _, fun _ _ e => ?_, sm_zero fun _ _ => rfl, fun x => ?_, fun _ _ => ⟨List.Pairwise.nil, fun _ h => ?_⟩, ?_, fun x => ?_⟩
  · cases e
  · cases e
  · rw [show ab0.T = 0 from rfl, box0]
    exact sm_zero fun _ _ => rfl
  · cases h
  · show sm K (fun _ => 0) + 0 + sm C (fun _ => 0) = 0
    rw [sm_zero fun _ _ => rfl, sm_zero fun _ _ => rfl]
  · have h1 : sm K (fun k => (ab0.Y k).count x) = 0 := sm_zero fun _ _ => rfl
    have h2 : sm C (fun c => ind (decide (ab0.P c = 1 ∧ ab0.G c = x))) = 0 := sm_zero fun _ _ => by simp [ind, ab0]
    rw [h1, h2, show ab0.T = 0 from rfl, box0]
    rfl
theorem sm_const (n v : Nat) : sm n (fun _ => v) = n * v := by
  induction n with
  | zero => simp [sm]
  | succ n ih => rw [sm, ih, Nat.succ_mul]
theorem m0 (I C K : Nat) : Ab.M I C K ab0 = 7 * I + 2 * C + K + 2 := by
  show (2 * I + 1 - 0) + 3 * (I - 0) + sm C (fun _ => fP 0) + (C + 1 - 0) + 2 * (I - sm K fun _ => 0) + sm K (fun _ => oneG 0) = _
  rw [sm_const, sm_const, sm_const]
  show _ + _ + C * 1 + _ + _ + K * 1 = _
  omega
/-- What a pipe comes to, whatever the script. -/
structure PipE (I C K c0 c1 : Nat) (sc : Nat → Int) (N : Nat) : Prop where
  nil : mayL (pipP I C K c0 c1) (rk (pipP I C K c0 c1) sc N) = []
  live : live (pipP I C K c0 c1) (rk (pipP I C K c0 c1) sc N) = false
  lt : (rk (pipP I C K c0 c1) sc N).lt = 0
  mx : mx (pipP I C K c0 c1) sc N ≤ c0 + c1
  le : N ≤ 7 * I + 2 * C + K + 2
  t0 : (rk (pipP I C K c0 c1) sc N).tk 0 = []
  tw : (rk (pipP I C K c0 c1) sc N).tk (C + 1) = []
  up : ∀ c, c < C → ((rk (pipP I C K c0 c1) sc N).tk (1 + c)).Pairwise (· < ·)
  cs : sm C (fun c => ((rk (pipP I C K c0 c1) sc N).tk (1 + c)).length) = I
  cx : ∀ x : Int, sm C (fun c => ((rk (pipP I C K c0 c1) sc N).tk (1 + c)).count x) = box x I
  ks : sm K (fun k => ((rk (pipP I C K c0 c1) sc N).tk (C + 2 + k)).length) = I
  kx : ∀ x : Int, sm K (fun k => ((rk (pipP I C K c0 c1) sc N).tk (C + 2 + k)).count x) = box x I
def pipM (I C K : Nat) (r : Rm) : Nat := Ab.M I C K ⟨r.pl 0, sm C (fun c => (r.tk (1 + c)).length), r.pl (C + 1), fun c => r.pl (1 + c), fun c => r.rg (1 + c), fun c => r.tk (1 + c), fun k => r.pl (C + 2 + k), fun k => r.tk (C + 2 + k), r.hd 0, r.hd 1⟩
theorem pipM_is (h : Rel I C K r s) (j : PJ I C K s) : pipM I C K r = Ab.M I C K s := by
  unfold pipM
  simp only [Ab.M]
  rw [h.p0, h.pw, sm_cg (f := fun c => fP (r.pl (1 + c))) (g := fun c => fP (s.P c)) (fun c hc => by rw [h.pc c hc]), sm_cg (f := fun k => oneG (r.pl (C + 2 + k))) (g := fun k => oneG (s.Q k)) (fun k hk => by rw [h.pk k hk]), sm_cg (f := fun k => (r.tk (C + 2 + k)).length) (g := fun k => (s.Y k).length) (fun k hk => by rw [h.yk k hk]), sm_cg (f := fun c => (r.tk (1 + c)).length) (g := fun c => (s.Z c).length) (fun c hc => by rw [h.zc c hc]), j.Zs]
theorem pip_run {sc : Nat → Int} {N : Nat} (hI : I ≤ 100) (hC : 0 < C ∧ C ≤ 40) (hK : 0 < K ∧ K ≤ 40) (h : Run (pipP I C K c0 c1) sc N) : PipE I C K c0 c1 sc N := by
  have hstep : ∀ r t, (∃ s, Rel I C K r s ∧ PJ I C K s ∧ (s.h0.length ≤ c0 ∧ s.h1.length ≤ c1)) → t < (pipP I C K c0 c1).n → may (pipP I C K c0 c1) r t = true → (∃ s, Rel I C K (stp (pipP I C K c0 c1) r t) s ∧ PJ I C K s ∧ (s.h0.length ≤ c0 ∧ s.h1.length ≤ c1)) ∧ pipM I C K (stp (pipP I C K c0 c1) r t) < pipM I C K r := by
    rintro r t ⟨s, hr, hj, hl⟩ ht hm
    obtain ⟨s', r1, r2, r3, r4⟩ := pip_step hr hj hl ht hm
    refine ⟨⟨s', r1, r2, r3⟩, ?_⟩
    rw [pipM_is hr hj, pipM_is r1 r2]
    exact r4
  have hbeg : ∃ s, Rel I C K r0 s ∧ PJ I C K s ∧ (s.h0.length ≤ c0 ∧ s.h1.length ≤ c1) := ⟨ab0, rel0 I C K, pj0 I C K, Nat.zero_le _, Nat.zero_le _⟩
  have h00 : pipM I C K r0 = 7 * I + 2 * C + K + 2 := by rw [pipM_is (rel0 I C K) (pj0 I C K), m0]
  obtain ⟨⟨s, hr, hj, hl⟩, hN, hnil⟩ := run_ends (μ := pipM I C K) hbeg hstep (by omega) h
  obtain ⟨e1, e2, e3, e4⟩ := pip_end hr hj hC.1 hK.1 (mayL_nil.1 hnil)
  have eT : s.T = I := (hj.P3 0 hC.1 (e2 0 hC.1)).2
  have eh : s.h1 = [] := (hj.Q2 0 hK.1 (e4 0 hK.1)).2
  refine ⟨hnil, not_live fun t ht => ?_, hr.lt, mx_le fun j hj' => ?_, by omega, hr.t0, hr.tw, fun c hc => by rw [hr.zc c hc]; exact (hj.Zr c hc).1, ?_, fun x => ?_, ?_, fun x => ?_⟩
  · rcases who ht with rfl | ⟨c, hc, rfl⟩ | rfl | ⟨k, hk, rfl⟩
    · rw [hr.gone0 hj]; exact decide_eq_true e1
    · rw [hr.goneC hj hc]; exact decide_eq_true (e2 c hc)
    · rw [hr.goneW hj]; exact decide_eq_true e3
    · rw [hr.goneK hj hk]; exact decide_eq_true (e4 k hk)
  · obtain ⟨s', r1, r2, r3⟩ := run_inv (p := pipP I C K c0 c1) (s := sc) (J := fun r => ∃ s, Rel I C K r s ∧ PJ I C K s ∧ (s.h0.length ≤ c0 ∧ s.h1.length ≤ c1)) hbeg (fun r t a b d => (hstep r t a b d).1) h.go j hj'
    show (List.map _ [0, 1]).sum ≤ c0 + c1
    simp only [List.map_cons, List.map_nil, List.sum_cons, List.sum_nil, r1.h0, r1.h1]
    omega
  · rw [sm_cg (g := fun c => (s.Z c).length) (fun c hc => by rw [hr.zc c hc]), hj.Zs, eT]
  · rw [sm_cg (g := fun c => (s.Z c).count x) (fun c hc => by rw [hr.zc c hc]), hj.Zx, eT]
  · have h1 := hj.Ys
    rw [eh, sm_zero (f := fun c => ind (decide (s.P c = 1))) (fun c hc => by rw [e2 c hc]; rfl), eT] at h1
    rw [sm_cg (g := fun k => (s.Y k).length) (fun k hk => by rw [hr.yk k hk])]
    exact h1
  · have h1 := hj.Yx x
    rw [eh, sm_zero (f := fun c => ind (decide (s.P c = 1 ∧ s.G c = x))) (fun c hc => by rw [e2 c hc]; simp [ind]), eT] at h1
    rw [sm_cg (g := fun k => (s.Y k).count x) (fun k hk => by rw [hr.yk k hk])]
    simpa using h1
end
end Go.Proofs.Ytcgkelgncehekaa.Loo
