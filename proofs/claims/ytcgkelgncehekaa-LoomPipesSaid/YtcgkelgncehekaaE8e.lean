import Derived.Test.YtcgkelgncehekaaE8d
namespace Go.Proofs.Ytcgkelgncehekaa.Loo
/- A pipe of many hands: every pick, and the end (LoomPipes). Names nothing of a program. -/

section
variable {I C K c0 c1 : Nat} {r : Rm} {s : Ab}
theorem rdy_iff {p : Pl} {d : Nat} : rdy p r d = true ↔ 0 < (r.hd d).length ∨ (p.cap d = 0 ∧ r.cl d = false ∧ (giv p r d).isSome = true) := by
  unfold rdy mts
  simp only [Bool.or_eq_true, Bool.and_eq_true, decide_eq_true_eq, Bool.not_eq_true']
  exact ⟨fun q => q.imp id (fun ⟨⟨a, b⟩, c⟩ => ⟨a, b, c⟩), fun q => q.imp id (fun ⟨a, b, c⟩ => ⟨⟨a, b⟩, c⟩)⟩
theorem Rel.setT (h : Rel I C K r s) (T : Nat) : Rel I C K r { s with T := T } := ⟨h.p0, h.g0, h.pc, h.gc, h.zc, h.pw, h.pk, h.yk, h.h0, h.h1, h.c0, h.c1, h.lt, h.en, h.t0, h.tw⟩
theorem meet0 (h : Rel I C K r s) (j : PJ I C K s) {c : Nat} (hc : c < C) (hP : s.P c = 0) (hq : s.q % 2 = 1) (hI : s.q < 2 * I) (hh : s.h0 = []) :
    ∃ s', Rel I C K (got (on_ r 0) (1 + c) (r.rg 0)) s' ∧ PJ I C K s' ∧ s'.h0 = [] ∧ s'.h1 = s.h1 ∧ Ab.M I C K s' < Ab.M I C K s := by
  have hg := h.g0 (by omega)
  obtain ⟨j1, m1⟩ := j.feedPut (by omega) hq
  obtain ⟨j2, m2, -⟩ := j1.carTake (c0 := c) hc hP (x := ((s.q / 2 + 1 : Nat) : Int)) (l := []) (by show s.h0 ++ _ = _; rw [hh]; rfl)
  have h1 := (h.feed (z := r.rg 0) (b := r.cl 0) (fun q => by rw [hg]; congr 1; omega) (by rw [h.c0]; exact decide_eq_decide.2 (by omega))).carG (i := c) (v := 1) (x := r.rg 0) (l := r.tk (1 + c) ++ [r.rg 0]) hc
  refine ⟨_, ?_, j2, rfl, rfl, Nat.lt_trans m2 m1⟩
  have e1 : got (on_ r 0) (1 + c) (r.rg 0) = { pl := upf (upf r.pl 0 (r.pl 0 + 1)) (1 + c) 1, rg := upf (upf r.rg 0 (r.rg 0)) (1 + c) (r.rg 0), en := r.en, tk := upf r.tk (1 + c) (r.tk (1 + c) ++ [r.rg 0]), hd := r.hd, cl := upf r.cl 0 (r.cl 0), lt := r.lt } := by
    rw [upf_self (f := r.rg), upf_self (f := r.cl)]
    show (⟨upf (upf r.pl 0 (r.pl 0 + 1)) (1 + c) (upf r.pl 0 (r.pl 0 + 1) (1 + c) + 1), _, _, _, _, _, _⟩ : Rm) = _
    rw [upf_ne (k := 0) (j := 1 + c) _ _ (by omega), h.pc c hc, hP]
    rfl
  rw [e1]
  have e2 : r.rg 0 = ((s.q / 2 + 1 : Nat) : Int) := by rw [hg]; congr 1; omega
  have e3 : r.tk (1 + c) = s.Z c := h.zc c hc
  rw [e3, e2] at h1
  rw [e3, e2]
  refine ⟨h1.p0, h1.g0, h1.pc, h1.gc, h1.zc, h1.pw, h1.pk, h1.yk, ?_, h1.h1, h1.c0, h1.c1, h1.lt, h1.en, h1.t0, h1.tw⟩
  show r.hd 0 = []
  rw [h.h0, hh]
theorem meet1 (h : Rel I C K r s) (j : PJ I C K s) {c k : Nat} (hc : c < C) (hP : s.P c = 1) (hk : k < K) (hQ : s.Q k = 0) (hh : s.h1 = []) :
    ∃ s', Rel I C K (got (on_ r (1 + c)) (C + 2 + k) (r.rg (1 + c))) s' ∧ PJ I C K s' ∧ s'.h1 = [] ∧ s'.h0 = s.h0 ∧ Ab.M I C K s' < Ab.M I C K s := by
  obtain ⟨j1, m1⟩ := j.carPut hc hP
  obtain ⟨j2, m2⟩ := j1.takTake (k0 := k) hk hQ (x := s.G c) (l := []) (by show s.h1 ++ _ = _; rw [hh]; rfl)
  have h1 := (h.carP (i := c) (v := 2) hc).takG (i := k) (v := 1) (x := r.rg (1 + c)) (l := r.tk (C + 2 + k) ++ [r.rg (1 + c)])
  refine ⟨_, ?_, j2, rfl, rfl, Nat.lt_trans m2 m1⟩
  have e1 : got (on_ r (1 + c)) (C + 2 + k) (r.rg (1 + c)) = { pl := upf (upf r.pl (1 + c) 2) (C + 2 + k) 1, rg := upf r.rg (C + 2 + k) (r.rg (1 + c)), en := r.en, tk := upf r.tk (C + 2 + k) (r.tk (C + 2 + k) ++ [r.rg (1 + c)]), hd := r.hd, cl := r.cl, lt := r.lt } := by
    show (⟨upf (upf r.pl (1 + c) (r.pl (1 + c) + 1)) (C + 2 + k) (upf r.pl (1 + c) (r.pl (1 + c) + 1) (C + 2 + k) + 1), _, _, _, _, _, _⟩ : Rm) = _
    rw [upf_ne (k := 1 + c) (j := C + 2 + k) _ _ (by omega), h.pk k hk, hQ, h.pc c hc, hP]
    rfl
  rw [e1]
  have e2 : r.rg (1 + c) = s.G c := h.gc c hc
  have e3 : r.tk (C + 2 + k) = s.Y k := h.yk k hk
  rw [e3, e2] at h1
  rw [e3, e2]
  refine ⟨h1.p0, h1.g0, h1.pc, h1.gc, h1.zc, h1.pw, h1.pk, h1.yk, h1.h0, ?_, h1.c0, h1.c1, h1.lt, h1.en, h1.t0, h1.tw⟩
  show r.hd 1 = []
  rw [h.h1, hh]
abbrev Nx (I C K c0 c1 : Nat) (r : Rm) (s : Ab) (t : Nat) : Prop := ∃ s', Rel I C K (stp (pipP I C K c0 c1) r t) s' ∧ PJ I C K s' ∧ (s'.h0.length ≤ c0 ∧ s'.h1.length ≤ c1) ∧ Ab.M I C K s' < Ab.M I C K s
theorem may_of {p : Pl} {t : Nat} {o : Op3} (ha : at_ p r t = o) (hm : may p r t = true) : (if o.k = 0 then false else if o.k = 1 then r.cl o.a.toNat || decide (((r.hd o.a.toNat).length : Int) < p.cap o.a.toNat) || mts p r o.a.toNat (tak p r o.a.toNat) else if o.k = 2 then rdy p r o.a.toNat || r.cl o.a.toNat else if o.k = 8 then rdy p r o.a.toNat || rdy p r o.b.toNat || spt r o.a.toNat && spt r o.b.toNat else if o.k = 9 then gone p r o.a.toNat else true) = true := by
  subst ha
  exact hm
theorem pip0 (h : Rel I C K r s) (j : PJ I C K s) (hl : s.h0.length ≤ c0 ∧ s.h1.length ≤ c1) (hm : may (pipP I C K c0 c1) r 0 = true) : Nx I C K c0 c1 r s 0 := by
  have ha := h.at0 (c0 := c0) (c1 := c1) j
  have hq := j.q1
  by_cases e : s.q = 2 * I + 1
  · rw [if_pos e] at ha
    cases may_of ha hm
  rw [if_neg e] at ha
  have hcf : r.cl 0 = false := by rw [h.c0]; exact decide_eq_false e
  by_cases e2 : s.q = 2 * I
  · rw [if_pos e2] at ha
    obtain ⟨j1, m1⟩ := j.feed (by omega) (by omega)
    refine ⟨_, ?_, j1, hl, m1⟩
    have hs : stp (pipP I C K c0 c1) r 0 = ⟨upf r.pl 0 (r.pl 0 + 1), upf r.rg 0 (r.rg 0), r.en, r.tk, r.hd, upf r.cl 0 true, r.lt⟩ := by
      unfold stp
      rw [ha, upf_self (f := r.rg)]
      show (⟨_, _, _, _, _, _, if r.cl 0 = true then r.lt + 1 else r.lt⟩ : Rm) = _
      rw [hcf]
      rfl
    rw [hs]
    exact h.feed (fun q => by omega) (by rw [decide_eq_true (by omega)])
  rw [if_neg e2] at ha
  have hg := h.g0 (by omega)
  by_cases e3 : s.q % 2 = 0
  · rw [if_pos e3] at ha
    obtain ⟨j1, m1⟩ := j.feed (by omega) (by omega)
    refine ⟨_, ?_, j1, hl, m1⟩
    have hs : stp (pipP I C K c0 c1) r 0 = ⟨upf r.pl 0 (r.pl 0 + 1), upf r.rg 0 (r.rg 0 + 1), r.en, r.tk, r.hd, upf r.cl 0 (r.cl 0), r.lt⟩ := by
      unfold stp
      rw [ha, upf_self (f := r.cl)]
      rfl
    rw [hs]
    exact h.feed (fun q => by rw [hg]; omega) (by rw [hcf, decide_eq_false (by omega)])
  rw [if_neg e3] at ha
  have hs0 : stp (pipP I C K c0 c1) r 0 = pt_ (pipP I C K c0 c1) r 0 0 := by
    unfold stp
    rw [ha]
    rfl
  have hlen : (r.hd 0).length = s.h0.length := by rw [h.h0]
  by_cases e4 : s.h0.length < c0
  · obtain ⟨j1, m1⟩ := j.feedPut (by omega) (by omega)
    refine ⟨_, ?_, j1, ⟨by show (s.h0 ++ [_]).length ≤ c0; simp; omega, hl.2⟩, m1⟩
    have e5 : r.rg 0 = ((s.q / 2 + 1 : Nat) : Int) := by rw [hg]; congr 1; omega
    have hs : pt_ (pipP I C K c0 c1) r 0 0 = ⟨upf r.pl 0 (r.pl 0 + 1), upf r.rg 0 (r.rg 0), r.en, r.tk, upf r.hd 0 (s.h0 ++ [((s.q / 2 + 1 : Nat) : Int)]), upf r.cl 0 (r.cl 0), r.lt⟩ := by
      unfold pt_
      rw [hcf, if_neg (by simp), hlen, if_pos (by show (s.h0.length : Int) < (c0 : Int); omega), ← hcf, upf_self (f := r.cl), upf_self (f := r.rg), ← h.h0, ← e5]
      rfl
    rw [hs0, hs]
    exact (h.feed (z := r.rg 0) (b := r.cl 0) (fun q => by rw [hg]; congr 1; omega) (by rw [hcf, decide_eq_false (by omega)])).hd0 _
  · have hm' : (r.cl 0 || decide (((r.hd 0).length : Int) < (c0 : Int)) || mts (pipP I C K c0 c1) r 0 (tak (pipP I C K c0 c1) r 0)) = true := may_of ha hm
    rw [hcf, hlen, decide_eq_false (by omega)] at hm'
    unfold mts at hm'
    simp only [Bool.false_or, Bool.and_eq_true, decide_eq_true_eq] at hm'
    obtain ⟨⟨q1, -⟩, q2⟩ := hm'
    have hc0 : c0 = 0 := by have : (c0 : Int) = 0 := q1; omega
    obtain ⟨t, ht⟩ := Option.isSome_iff_exists.1 q2
    obtain ⟨c, hc, rfl, hP⟩ := h.tak0 j ht
    have hh : s.h0 = [] := List.eq_nil_of_length_eq_zero (by omega)
    obtain ⟨s', r1, r2, r3, r4, r5⟩ := meet0 h j hc hP (by omega) (by omega) hh
    refine ⟨s', ?_, r2, ⟨by rw [r3]; simp, by rw [r4]; exact hl.2⟩, r5⟩
    have hs : pt_ (pipP I C K c0 c1) r 0 0 = got (on_ r 0) (1 + c) (r.rg 0) := by
      unfold pt_
      rw [hcf, if_neg (by simp), hlen, if_neg (by show ¬ (s.h0.length : Int) < (c0 : Int); omega), ht]
      rfl
    rw [hs0, hs]
    exact r1
theorem pipC (h : Rel I C K r s) (j : PJ I C K s) (hl : s.h0.length ≤ c0 ∧ s.h1.length ≤ c1) {c : Nat} (hc : c < C) (hm : may (pipP I C K c0 c1) r (1 + c) = true) : Nx I C K c0 c1 r s (1 + c) := by
  have ha := h.atC (c0 := c0) (c1 := c1) j hc
  have hp3 := j.P1 c hc
  by_cases e : s.P c = 3
  · rw [if_pos e] at ha
    cases may_of ha hm
  rw [if_neg e] at ha
  by_cases e0 : s.P c = 0
  · rw [if_pos e0] at ha
    have hm' : (rdy (pipP I C K c0 c1) r 0 || r.cl 0) = true := may_of ha hm
    by_cases er : rdy (pipP I C K c0 c1) r 0 = true
    · have hs0 : stp (pipP I C K c0 c1) r (1 + c) = frm (pipP I C K c0 c1) r (1 + c) 0 := by
        unfold stp
        rw [ha]
        exact if_pos er
      cases hh : s.h0 with
      | nil =>
        rcases rdy_iff.1 er with q | ⟨q1, q2, q3⟩
        · rw [h.h0, hh] at q; cases q
        · obtain ⟨t, ht⟩ := Option.isSome_iff_exists.1 q3
          obtain ⟨rfl, p1, p2⟩ := h.giv0 j ht
          obtain ⟨s', r1, r2, r3, r4, r5⟩ := meet0 h j hc e0 p1 p2 hh
          refine ⟨s', ?_, r2, ⟨by rw [r3]; simp, by rw [r4]; exact hl.2⟩, r5⟩
          have hs : frm (pipP I C K c0 c1) r (1 + c) 0 = got (on_ r 0) (1 + c) (r.rg 0) := by
            unfold frm
            rw [h.h0, hh, ht]
            rfl
          rw [hs0, hs]
          exact r1
      | cons x l =>
        obtain ⟨j1, m1, ex⟩ := j.carTake hc e0 hh
        refine ⟨_, ?_, j1, ⟨by have := hl.1; rw [hh] at this; simp at this; show l.length ≤ c0; omega, hl.2⟩, m1⟩
        have hs : frm (pipP I C K c0 c1) r (1 + c) 0 = ⟨upf r.pl (1 + c) 1, upf r.rg (1 + c) x, r.en, upf r.tk (1 + c) (s.Z c ++ [x]), upf r.hd 0 l, r.cl, r.lt⟩ := by
          unfold frm
          rw [h.h0, hh, ← h.zc c hc]
          show (⟨upf r.pl (1 + c) (r.pl (1 + c) + 1), _, _, _, _, _, _⟩ : Rm) = _
          rw [h.pc c hc, e0]
        rw [hs0, hs]
        exact ((h.hd0 l).carG (v := 1) (x := x) (l := s.Z c ++ [x]) hc).setT (s.T + 1)
    · have hcl : s.q = 2 * I + 1 := by
        have hb : (rdy (pipP I C K c0 c1) r 0 || r.cl 0) = true := hm'
        rw [Bool.eq_false_iff.2 er, Bool.false_or, h.c0] at hb
        exact of_decide_eq_true hb
      have hT : s.T = I := by
        have h0 : ¬ 0 < (r.hd 0).length := fun z => er (rdy_iff.2 (Or.inl z))
        rw [h.h0, j.h0, itm_len] at h0
        have := j.T1
        omega
      obtain ⟨j1, m1⟩ := j.carMove (v := 3) hc (by omega) e (by decide) (by omega) (fun _ => ⟨hcl, hT⟩) (by rw [e0]; decide)
      refine ⟨_, ?_, j1, hl, m1⟩
      have hs : stp (pipP I C K c0 c1) r (1 + c) = { r with pl := upf r.pl (1 + c) 3 } := by
        unfold stp
        rw [ha]
        exact if_neg er
      rw [hs]
      exact h.carP hc
  rw [if_neg e0] at ha
  by_cases e1 : s.P c = 1
  · rw [if_pos e1] at ha
    have hw : s.w ≠ C + 1 := fun z => e (j.Pw c hc (by omega))
    have hcf : r.cl 1 = false := by rw [h.c1]; exact decide_eq_false hw
    have hlen : (r.hd 1).length = s.h1.length := by rw [h.h1]
    have hs0 : stp (pipP I C K c0 c1) r (1 + c) = pt_ (pipP I C K c0 c1) r (1 + c) 1 := by
      unfold stp
      rw [ha]
      rfl
    by_cases e4 : s.h1.length < c1
    · obtain ⟨j1, m1⟩ := j.carPut hc e1
      refine ⟨_, ?_, j1, ⟨hl.1, by show (s.h1 ++ [_]).length ≤ c1; simp; omega⟩, m1⟩
      have hs : pt_ (pipP I C K c0 c1) r (1 + c) 1 = { r with pl := upf r.pl (1 + c) 2, hd := upf r.hd 1 (s.h1 ++ [s.G c]) } := by
        unfold pt_
        rw [hcf, if_neg (by simp), hlen, if_pos (by show (s.h1.length : Int) < (c1 : Int); omega), ← h.h1, ← h.gc c hc]
        show (⟨upf r.pl (1 + c) (r.pl (1 + c) + 1), _, _, _, _, _, _⟩ : Rm) = _
        rw [h.pc c hc, e1]
        rfl
      rw [hs0, hs]
      exact (h.carP (v := 2) hc).hd1 _
    · have hm' : (r.cl 1 || decide (((r.hd 1).length : Int) < (c1 : Int)) || mts (pipP I C K c0 c1) r 1 (tak (pipP I C K c0 c1) r 1)) = true := may_of ha hm
      rw [hcf, hlen, decide_eq_false (by omega)] at hm'
      unfold mts at hm'
      simp only [Bool.false_or, Bool.and_eq_true, decide_eq_true_eq] at hm'
      obtain ⟨⟨q1, -⟩, q2⟩ := hm'
      have hc1 : c1 = 0 := by have : (c1 : Int) = 0 := q1; omega
      obtain ⟨t, ht⟩ := Option.isSome_iff_exists.1 q2
      obtain ⟨k, hk, rfl, hQ⟩ := h.tak1 j ht
      have hh : s.h1 = [] := List.eq_nil_of_length_eq_zero (by omega)
      obtain ⟨s', r1, r2, r3, r4, r5⟩ := meet1 h j hc e1 hk hQ hh
      refine ⟨s', ?_, r2, ⟨by rw [r4]; exact hl.1, by rw [r3]; simp⟩, r5⟩
      have hs : pt_ (pipP I C K c0 c1) r (1 + c) 1 = got (on_ r (1 + c)) (C + 2 + k) (r.rg (1 + c)) := by
        unfold pt_
        rw [hcf, if_neg (by simp), hlen, if_neg (by show ¬ (s.h1.length : Int) < (c1 : Int); omega), ht]
        rfl
      rw [hs0, hs]
      exact r1
  rw [if_neg e1] at ha
  obtain ⟨j1, m1⟩ := j.carMove (v := 0) hc e1 e (by decide) (by omega) (fun z => by omega) (by rw [show s.P c = 2 by omega]; decide)
  refine ⟨_, ?_, j1, hl, m1⟩
  have hs : stp (pipP I C K c0 c1) r (1 + c) = { r with pl := upf r.pl (1 + c) 0 } := by
    unfold stp
    rw [ha]
    rfl
  rw [hs]
  exact h.carP hc
theorem pipW (h : Rel I C K r s) (j : PJ I C K s) (hl : s.h0.length ≤ c0 ∧ s.h1.length ≤ c1) (hm : may (pipP I C K c0 c1) r (C + 1) = true) : Nx I C K c0 c1 r s (C + 1) := by
  have ha := h.atW (c0 := c0) (c1 := c1) j
  have hw := j.w1
  by_cases e : s.w = C + 1
  · rw [if_pos e] at ha
    cases may_of ha hm
  rw [if_neg e] at ha
  have hcf : r.cl 1 = false := by rw [h.c1]; exact decide_eq_false e
  by_cases e2 : s.w = C
  · rw [if_pos e2] at ha
    obtain ⟨j1, m1⟩ := j.wait (by omega) (fun c hc z => by omega)
    refine ⟨_, ?_, j1, hl, m1⟩
    have hs : stp (pipP I C K c0 c1) r (C + 1) = { r with pl := upf r.pl (C + 1) (r.pl (C + 1) + 1), cl := upf r.cl 1 true } := by
      unfold stp
      rw [ha]
      show (⟨_, _, _, _, _, _, if r.cl 1 = true then r.lt + 1 else r.lt⟩ : Rm) = _
      rw [hcf]
      rfl
    rw [hs]
    exact h.wait (by rw [decide_eq_true (by omega)])
  rw [if_neg e2] at ha
  have hm' : gone (pipP I C K c0 c1) r (((1 + s.w : Nat) : Int)).toNat = true := may_of ha hm
  rw [Int.toNat_natCast, h.goneC j (by omega)] at hm'
  obtain ⟨j1, m1⟩ := j.wait (by omega) (fun c hc z => by subst z; exact of_decide_eq_true hm')
  refine ⟨_, ?_, j1, hl, m1⟩
  have hs : stp (pipP I C K c0 c1) r (C + 1) = { r with pl := upf r.pl (C + 1) (r.pl (C + 1) + 1), cl := upf r.cl 1 (r.cl 1) } := by
    unfold stp
    rw [ha, upf_self (f := r.cl)]
    rfl
  rw [hs]
  exact h.wait (by rw [hcf, decide_eq_false (by omega)])
theorem pipK (h : Rel I C K r s) (j : PJ I C K s) (hl : s.h0.length ≤ c0 ∧ s.h1.length ≤ c1) {k : Nat} (hk : k < K) (hm : may (pipP I C K c0 c1) r (C + 2 + k) = true) : Nx I C K c0 c1 r s (C + 2 + k) := by
  have ha := h.atK (c0 := c0) (c1 := c1) j hk
  have hq2 := j.Q1 k hk
  by_cases e : s.Q k = 2
  · rw [if_pos e] at ha
    cases may_of ha hm
  rw [if_neg e] at ha
  by_cases e0 : s.Q k = 0
  · rw [if_pos e0] at ha
    have hm' : (rdy (pipP I C K c0 c1) r 1 || r.cl 1) = true := may_of ha hm
    by_cases er : rdy (pipP I C K c0 c1) r 1 = true
    · have hs0 : stp (pipP I C K c0 c1) r (C + 2 + k) = frm (pipP I C K c0 c1) r (C + 2 + k) 1 := by
        unfold stp
        rw [ha]
        exact if_pos er
      cases hh : s.h1 with
      | nil =>
        rcases rdy_iff.1 er with q | ⟨q1, q2, q3⟩
        · rw [h.h1, hh] at q; cases q
        · obtain ⟨t, ht⟩ := Option.isSome_iff_exists.1 q3
          obtain ⟨c, hc, rfl, hP⟩ := h.giv1 j ht
          obtain ⟨s', r1, r2, r3, r4, r5⟩ := meet1 h j hc hP hk e0 hh
          refine ⟨s', ?_, r2, ⟨by rw [r4]; exact hl.1, by rw [r3]; simp⟩, r5⟩
          have hs : frm (pipP I C K c0 c1) r (C + 2 + k) 1 = got (on_ r (1 + c)) (C + 2 + k) (r.rg (1 + c)) := by
            unfold frm
            rw [h.h1, hh, ht]
            rfl
          rw [hs0, hs]
          exact r1
      | cons x l =>
        obtain ⟨j1, m1⟩ := j.takTake hk e0 hh
        refine ⟨_, ?_, j1, ⟨hl.1, by have := hl.2; rw [hh] at this; simp at this; show l.length ≤ c1; omega⟩, m1⟩
        have hs : frm (pipP I C K c0 c1) r (C + 2 + k) 1 = ⟨upf r.pl (C + 2 + k) 1, upf r.rg (C + 2 + k) x, r.en, upf r.tk (C + 2 + k) (s.Y k ++ [x]), upf r.hd 1 l, r.cl, r.lt⟩ := by
          unfold frm
          rw [h.h1, hh, ← h.yk k hk]
          show (⟨upf r.pl (C + 2 + k) (r.pl (C + 2 + k) + 1), _, _, _, _, _, _⟩ : Rm) = _
          rw [h.pk k hk, e0]
        rw [hs0, hs]
        exact (h.hd1 l).takG
    · have hcl : s.w = C + 1 := by
        have hb : (rdy (pipP I C K c0 c1) r 1 || r.cl 1) = true := hm'
        rw [Bool.eq_false_iff.2 er, Bool.false_or, h.c1] at hb
        exact of_decide_eq_true hb
      have hh : s.h1 = [] := by
        have h0 : ¬ 0 < (r.hd 1).length := fun z => er (rdy_iff.2 (Or.inl z))
        rw [h.h1] at h0
        exact List.eq_nil_of_length_eq_zero (by omega)
      obtain ⟨j1, m1⟩ := j.takMove (v := 2) hk (by omega) (fun _ => ⟨hcl, hh⟩) (by rw [e0]; decide)
      refine ⟨_, ?_, j1, hl, m1⟩
      have hs : stp (pipP I C K c0 c1) r (C + 2 + k) = { r with pl := upf r.pl (C + 2 + k) 2 } := by
        unfold stp
        rw [ha]
        exact if_neg er
      rw [hs]
      exact h.takP
  rw [if_neg e0] at ha
  obtain ⟨j1, m1⟩ := j.takMove (v := 0) hk (by omega) (fun z => by omega) (by rw [show s.Q k = 1 by omega]; decide)
  refine ⟨_, ?_, j1, hl, m1⟩
  have hs : stp (pipP I C K c0 c1) r (C + 2 + k) = { r with pl := upf r.pl (C + 2 + k) 0 } := by
    unfold stp
    rw [ha]
    rfl
  rw [hs]
  exact h.takP
end
end Go.Proofs.Ytcgkelgncehekaa.Loo
