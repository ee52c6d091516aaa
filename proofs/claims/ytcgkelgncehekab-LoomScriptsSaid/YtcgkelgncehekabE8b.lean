import Derived.Test.YtcgkelgncehekabE8a
namespace Go.Proofs.Ytcgkelgncehekab.Loo
/- One task that puts, one that takes: whatever the script (LoomOne). Names nothing of a program. -/

def oneP (m : Nat) (v : Nat → Int) (c : Nat) : Pl where
  d := 1
  n := 2
  cap := fun _ => c
  ln := fun t => if t = 0 then 2 * m + 1 else 2
  op := fun t j => if t = 0 then (if j = 2 * m then ⟨3, 0, 0⟩ else if j % 2 = 0 then ⟨4, v (j / 2), 0⟩ else ⟨1, 0, 0⟩) else if j = 0 then ⟨2, 0, 2⟩ else ⟨6, 0, 0⟩
/-- What the run keeps: the putter stands at q, T numbers were taken, the taker stands at w. -/
structure OneJ (m : Nat) (v : Nat → Int) (c q T w : Nat) (r : Rm) : Prop where
  p0 : r.pl 0 = q
  p1 : r.pl 1 = w
  en : r.en 0 = false ∧ r.en 1 = false
  q1 : q ≤ 2 * m + 1
  w1 : w ≤ 2
  T1 : T ≤ q / 2
  rg : q % 2 = 1 → q < 2 * m → r.rg 0 = v (q / 2)
  hd : r.hd 0 = (List.range' T (q / 2 - T)).map v
  tk : r.tk 1 = (List.range T).map v
  t0 : r.tk 0 = []
  cl : r.cl 0 = decide (q = 2 * m + 1)
  lt : r.lt = 0
  hc : q / 2 - T ≤ c
  w2 : w = 2 → q = 2 * m + 1 ∧ T = m
def oneG (w : Nat) : Nat := if w = 0 then 1 else if w = 1 then 2 else 0
section
variable {m c q T w : Nat} {v : Nat → Int} {r : Rm}
theorem OneJ.gone0 (h : OneJ m v c q T w r) : gone (oneP m v c) r 0 = decide (q = 2 * m + 1) := by
  have := h.q1
  unfold gone
  rw [h.en.1, h.p0]
  show (false || decide (2 * m + 1 ≤ q)) = _
  rw [Bool.false_or]
  exact decide_eq_decide.2 (by omega)
theorem OneJ.gone1 (h : OneJ m v c q T w r) : gone (oneP m v c) r 1 = decide (w = 2) := by
  have := h.w1
  unfold gone
  rw [h.en.2, h.p1]
  show (false || decide (2 ≤ w)) = _
  rw [Bool.false_or]
  exact decide_eq_decide.2 (by omega)
theorem OneJ.at0 (h : OneJ m v c q T w r) : at_ (oneP m v c) r 0 = if q = 2 * m + 1 then ⟨0, 0, 0⟩ else if q = 2 * m then ⟨3, 0, 0⟩ else if q % 2 = 0 then ⟨4, v (q / 2), 0⟩ else ⟨1, 0, 0⟩ := by
  unfold at_
  rw [h.gone0, h.p0]
  by_cases e : q = 2 * m + 1
  · rw [if_pos e, if_pos (decide_eq_true e)]
  · rw [if_neg e, if_neg (by simpa using e)]
    rfl
theorem OneJ.at1 (h : OneJ m v c q T w r) : at_ (oneP m v c) r 1 = if w = 2 then ⟨0, 0, 0⟩ else if w = 0 then ⟨2, 0, 2⟩ else ⟨6, 0, 0⟩ := by
  unfold at_
  rw [h.gone1, h.p1]
  by_cases e : w = 2
  · rw [if_pos e, if_pos (decide_eq_true e)]
  · rw [if_neg e, if_neg (by simpa using e)]
    rfl
theorem OneJ.tak (h : OneJ m v c q T w r) : tak (oneP m v c) r 0 = if w = 0 then some 1 else none := by
  unfold Loo.tak
  show List.find? _ [0, 1] = _
  have h0 : isT (oneP m v c) r 0 0 = false := by
    unfold isT
    rw [h.at0]
    split
    · rfl
    · split
      · rfl
      · split <;> rfl
  have h1 : isT (oneP m v c) r 0 1 = decide (w = 0) := by
    unfold isT
    rw [h.at1]
    by_cases e : w = 2
    · subst e; rfl
    · rw [if_neg e]
      by_cases e2 : w = 0
      · subst e2; rfl
      · rw [if_neg e2]; simp [e2]
  rw [List.find?_cons, h0, List.find?_cons, h1]
  by_cases e : w = 0
  · simp [e]
  · simp [e]
theorem OneJ.giv (h : OneJ m v c q T w r) : giv (oneP m v c) r 0 = if q % 2 = 1 ∧ q < 2 * m then some 0 else none := by
  have hq := h.q1
  unfold Loo.giv
  show List.find? _ [0, 1] = _
  have h0 : isG (oneP m v c) r 0 0 = decide (q % 2 = 1 ∧ q < 2 * m) := by
    unfold isG
    rw [h.at0]
    by_cases e : q = 2 * m + 1
    · rw [if_pos e]; symm; simp; omega
    · rw [if_neg e]
      by_cases e2 : q = 2 * m
      · rw [if_pos e2]; symm; simp; omega
      · rw [if_neg e2]
        by_cases e3 : q % 2 = 0
        · rw [if_pos e3]; symm; simp; omega
        · rw [if_neg e3]; symm; simp; omega
  have h1 : isG (oneP m v c) r 0 1 = false := by
    unfold isG
    rw [h.at1]
    split
    · rfl
    · split <;> rfl
  rw [List.find?_cons, h0, List.find?_cons, h1]
  by_cases e : q % 2 = 1 ∧ q < 2 * m
  · simp [e]
  · rw [if_neg e, decide_eq_false e]; rfl
theorem OneJ.lenH (h : OneJ m v c q T w r) : (r.hd 0).length = q / 2 - T := by rw [h.hd]; simp
theorem OneJ.rdy (h : OneJ m v c q T w r) : rdy (oneP m v c) r 0 = true ↔ T < q / 2 ∨ (c = 0 ∧ q % 2 = 1 ∧ q < 2 * m) := by
  unfold Loo.rdy mts
  rw [h.lenH, h.giv, h.cl]
  show (decide (0 < q / 2 - T) || decide ((c : Int) = 0) && !decide (q = 2 * m + 1) && _) = true ↔ _
  simp only [Bool.or_eq_true, Bool.and_eq_true, decide_eq_true_eq, Bool.not_eq_true', decide_eq_false_iff_not]
  constructor
  · rintro (a | ⟨⟨a, b⟩, d⟩)
    · left; omega
    · right
      by_cases e : q % 2 = 1 ∧ q < 2 * m
      · exact ⟨by omega, e⟩
      · rw [if_neg e] at d; cases d
  · rintro (a | ⟨a, b⟩)
    · left; omega
    · right; exact ⟨⟨by omega, by omega⟩, by rw [if_pos b]; rfl⟩
theorem map_next {T n : Nat} {v : Nat → Int} : (List.range' T n).map v ++ [v (T + n)] = (List.range' T (n + 1)).map v := by
  rw [List.range'_concat, List.map_append, Nat.one_mul]; rfl
theorem map_head {T n : Nat} {v : Nat → Int} (h : 0 < n) : (List.range' T n).map v = v T :: (List.range' (T + 1) (n - 1)).map v := by
  obtain ⟨n, rfl⟩ : ∃ k, n = k + 1 := ⟨n - 1, by omega⟩
  rfl
theorem map_range {T : Nat} {v : Nat → Int} : (List.range T).map v ++ [v T] = (List.range (T + 1)).map v := by
  rw [List.range_succ, List.map_append]; rfl
/-- The taker's take of what lies first. -/
theorem OneJ.step (h : OneJ m v c q T w r) (t : Nat) (ht : t < 2) (hm : may (oneP m v c) r t = true) : ∃ q' T' w', OneJ m v c q' T' w' (stp (oneP m v c) r t) ∧ (2 * m + 1 - q') + 2 * (m - T') + oneG w' < (2 * m + 1 - q) + 2 * (m - T) + oneG w := by
  have hq := h.q1
  have hw := h.w1
  have hT := h.T1
  have hc := h.hc
  have hl := h.lenH
  rcases (show t = 0 ∨ t = 1 by omega) with rfl | rfl
  · -- the putter
    have ha := h.at0
    by_cases e : q = 2 * m + 1
    · rw [if_pos e] at ha
      unfold may at hm
      rw [ha] at hm
      cases hm
    rw [if_neg e] at ha
    by_cases e2 : q = 2 * m
    · -- it closes
      rw [if_pos e2] at ha
      have hs : stp (oneP m v c) r 0 = { on_ r 0 with cl := upf r.cl 0 true, lt := if r.cl 0 = true then r.lt + 1 else r.lt } := by
        unfold stp
        rw [ha]
        rfl
      have hcf : r.cl 0 = false := by rw [h.cl]; exact decide_eq_false (by omega)
      refine ⟨2 * m + 1, T, w, ?_, by omega⟩
      rw [hs]
      refine ⟨by show upf r.pl 0 (r.pl 0 + 1) 0 = _; rw [upf_at, h.p0]; omega, by show upf r.pl 0 (r.pl 0 + 1) 1 = _; rw [upf_ne _ _ (by omega)]; exact h.p1, h.en, by omega, hw, by omega, fun _ => by omega, ?_, h.tk, h.t0, ?_, ?_, by omega, fun e3 => absurd (h.w2 e3).1 e⟩
      · show r.hd 0 = _
        rw [h.hd, show q / 2 - T = (2 * m + 1) / 2 - T by omega]
      · show upf r.cl 0 true 0 = _
        rw [upf_at]; simp
      · show (if r.cl 0 = true then r.lt + 1 else r.lt) = 0
        rw [hcf]; exact h.lt
    · rw [if_neg e2] at ha
      by_cases e3 : q % 2 = 0
      · -- it sets
        rw [if_pos e3] at ha
        have hs : stp (oneP m v c) r 0 = { on_ r 0 with rg := upf r.rg 0 (v (q / 2)) } := by
          unfold stp
          rw [ha]
          rfl
        refine ⟨q + 1, T, w, ?_, by omega⟩
        rw [hs]
        refine ⟨by show upf r.pl 0 (r.pl 0 + 1) 0 = _; rw [upf_at, h.p0], by show upf r.pl 0 (r.pl 0 + 1) 1 = _; rw [upf_ne _ _ (by omega)]; exact h.p1, h.en, by omega, hw, by omega, fun _ _ => ?_, ?_, h.tk, h.t0, ?_, h.lt, by omega, fun e3 => absurd (h.w2 e3).1 e⟩
        · show upf r.rg 0 (v (q / 2)) 0 = _
          rw [upf_at, show (q + 1) / 2 = q / 2 by omega]
        · show r.hd 0 = _
          rw [h.hd, show (q + 1) / 2 = q / 2 by omega]
        · show r.cl 0 = _
          rw [h.cl]; exact decide_eq_decide.2 (by omega)
      · -- it puts
        rw [if_neg e3] at ha
        have hcf : r.cl 0 = false := by rw [h.cl]; exact decide_eq_false (by omega)
        have hr := h.rg (by omega) (by omega)
        by_cases e4 : q / 2 - T < c
        · have hs : stp (oneP m v c) r 0 = { on_ r 0 with hd := upf r.hd 0 (r.hd 0 ++ [r.rg 0]) } := by
            unfold stp
            rw [ha]
            show pt_ (oneP m v c) r 0 0 = _
            unfold pt_
            rw [hcf, if_neg (by simp), hl]
            exact if_pos (by show ((q / 2 - T : Nat) : Int) < (c : Int); omega)
          refine ⟨q + 1, T, w, ?_, by omega⟩
          rw [hs]
          refine ⟨by show upf r.pl 0 (r.pl 0 + 1) 0 = _; rw [upf_at, h.p0], by show upf r.pl 0 (r.pl 0 + 1) 1 = _; rw [upf_ne _ _ (by omega)]; exact h.p1, h.en, by omega, hw, by omega, fun _ => by omega, ?_, h.tk, h.t0, ?_, h.lt, by omega, fun e3 => absurd (h.w2 e3).1 e⟩
          · show upf r.hd 0 (r.hd 0 ++ [r.rg 0]) 0 = _
            rw [upf_at, h.hd, hr, show (q + 1) / 2 - T = q / 2 - T + 1 by omega, ← map_next, show T + (q / 2 - T) = q / 2 by omega]
          · show r.cl 0 = _
            rw [h.cl]; exact decide_eq_decide.2 (by omega)
        · -- a meeting
          have hmay : w = 0 ∧ c = 0 := by
            unfold may at hm
            rw [ha] at hm
            have hm' : (r.cl 0 || decide (((r.hd 0).length : Int) < (c : Int)) || mts (oneP m v c) r 0 (Loo.tak (oneP m v c) r 0)) = true := hm
            rw [hcf, hl, decide_eq_false (by omega), h.tak] at hm'
            unfold mts at hm'
            by_cases e5 : w = 0
            · refine ⟨e5, ?_⟩
              simp only [Bool.false_or, Bool.and_eq_true, decide_eq_true_eq] at hm'
              have := hm'.1.1
              have : (c : Int) = 0 := this
              omega
            · rw [if_neg e5] at hm'
              simp at hm'
          obtain ⟨rfl, rfl⟩ := hmay
          have hTq : T = q / 2 := by omega
          have hs : stp (oneP m v 0) r 0 = got (on_ r 0) 1 (r.rg 0) := by
            unfold stp
            rw [ha]
            show pt_ (oneP m v 0) r 0 0 = _
            unfold pt_
            rw [hcf, if_neg (by simp), hl, if_neg (by show ¬ ((q / 2 - T : Nat) : Int) < ((0 : Nat) : Int); omega), h.tak]
            rfl
          refine ⟨q + 1, T + 1, 1, ?_, by unfold oneG; simp; omega⟩
          rw [hs]
          refine ⟨?_, ?_, h.en, by omega, by omega, by omega, fun _ => by omega, ?_, ?_, ?_, ?_, h.lt, by omega, fun e3 => by omega⟩
          · show upf (upf r.pl 0 (r.pl 0 + 1)) 1 (upf r.pl 0 (r.pl 0 + 1) 1 + 1) 0 = _
            rw [upf_ne _ _ (by omega), upf_at, h.p0]
          · show upf (upf r.pl 0 (r.pl 0 + 1)) 1 (upf r.pl 0 (r.pl 0 + 1) 1 + 1) 1 = _
            rw [upf_at, upf_ne _ _ (by omega), h.p1]
          · show r.hd 0 = _
            rw [h.hd, hTq, show (q + 1) / 2 - (q / 2 + 1) = 0 by omega, Nat.sub_self]
            rfl
          · show upf r.tk 1 (r.tk 1 ++ [r.rg 0]) 1 = _
            rw [upf_at, h.tk, hr, ← hTq, map_range]
          · show upf r.tk 1 (r.tk 1 ++ [r.rg 0]) 0 = _
            rw [upf_ne _ _ (by omega)]; exact h.t0
          · show r.cl 0 = _
            rw [h.cl]; exact decide_eq_decide.2 (by omega)
  · -- the taker
    have ha := h.at1
    by_cases e : w = 2
    · rw [if_pos e] at ha
      unfold may at hm
      rw [ha] at hm
      cases hm
    rw [if_neg e] at ha
    by_cases e2 : w = 0
    · rw [if_pos e2] at ha
      have hmay : Loo.rdy (oneP m v c) r 0 = true ∨ r.cl 0 = true := by
        unfold may at hm
        rw [ha] at hm
        have hm' : (Loo.rdy (oneP m v c) r 0 || r.cl 0) = true := hm
        simpa using hm'
      by_cases e3 : Loo.rdy (oneP m v c) r 0 = true
      · have hs : stp (oneP m v c) r 1 = frm (oneP m v c) r 1 0 := by
          unfold stp
          rw [ha]
          show (if Loo.rdy (oneP m v c) r 0 = true then frm (oneP m v c) r 1 0 else _) = _
          exact if_pos e3
        rcases (h.rdy).1 e3 with e4 | ⟨e4, e5, e6⟩
        · -- out of the duct
          have hh := h.hd
          rw [map_head (by omega)] at hh
          have hf : frm (oneP m v c) r 1 0 = got { r with hd := upf r.hd 0 ((List.range' (T + 1) (q / 2 - T - 1)).map v) } 1 (v T) := by
            unfold frm
            rw [hh]
          refine ⟨q, T + 1, 1, ?_, by subst e2; unfold oneG; simp; omega⟩
          rw [hs, hf]
          refine ⟨?_, ?_, h.en, hq, by omega, by omega, h.rg, ?_, ?_, ?_, h.cl, h.lt, by omega, fun e3 => by omega⟩
          · show upf r.pl 1 (r.pl 1 + 1) 0 = _
            rw [upf_ne _ _ (by omega)]; exact h.p0
          · show upf r.pl 1 (r.pl 1 + 1) 1 = _
            rw [upf_at, h.p1, e2]
          · show upf r.hd 0 ((List.range' (T + 1) (q / 2 - T - 1)).map v) 0 = _
            rw [upf_at, show q / 2 - T - 1 = q / 2 - (T + 1) by omega]
          · show upf r.tk 1 (r.tk 1 ++ [v T]) 1 = _
            rw [upf_at, h.tk, map_range]
          · show upf r.tk 1 (r.tk 1 ++ [v T]) 0 = _
            rw [upf_ne _ _ (by omega)]; exact h.t0
        · -- a meeting
          by_cases e7 : T < q / 2
          · omega
          have hTq : T = q / 2 := by omega
          have hr := h.rg e5 e6
          have hh : r.hd 0 = [] := by rw [h.hd, hTq, Nat.sub_self]; rfl
          have hf : frm (oneP m v c) r 1 0 = got (on_ r 0) 1 (r.rg 0) := by
            unfold frm
            rw [hh, h.giv, if_pos ⟨e5, e6⟩]
            rfl
          refine ⟨q + 1, T + 1, 1, ?_, by subst e2; unfold oneG; simp; omega⟩
          rw [hs, hf]
          refine ⟨?_, ?_, h.en, by omega, by omega, by omega, fun _ => by omega, ?_, ?_, ?_, ?_, h.lt, by omega, fun e3 => by omega⟩
          · show upf (upf r.pl 0 (r.pl 0 + 1)) 1 (upf r.pl 0 (r.pl 0 + 1) 1 + 1) 0 = _
            rw [upf_ne _ _ (by omega), upf_at, h.p0]
          · show upf (upf r.pl 0 (r.pl 0 + 1)) 1 (upf r.pl 0 (r.pl 0 + 1) 1 + 1) 1 = _
            rw [upf_at, upf_ne _ _ (by omega), h.p1, e2]
          · show r.hd 0 = _
            rw [hh, show (q + 1) / 2 - (T + 1) = 0 by omega]
            rfl
          · show upf r.tk 1 (r.tk 1 ++ [r.rg 0]) 1 = _
            rw [upf_at, h.tk, hr, ← hTq, map_range]
          · show upf r.tk 1 (r.tk 1 ++ [r.rg 0]) 0 = _
            rw [upf_ne _ _ (by omega)]; exact h.t0
          · show r.cl 0 = _
            rw [h.cl]; exact decide_eq_decide.2 (by omega)
      · -- closed and empty
        have hcl : q = 2 * m + 1 := by
          have := hmay.resolve_left e3
          rw [h.cl] at this
          exact of_decide_eq_true this
        have hTm : ¬ T < q / 2 := fun z => e3 ((h.rdy).2 (Or.inl z))
        have hs : stp (oneP m v c) r 1 = { r with pl := upf r.pl 1 2 } := by
          unfold stp
          rw [ha]
          show (if Loo.rdy (oneP m v c) r 0 = true then _ else ({ r with pl := upf r.pl 1 2 } : Rm)) = _
          exact if_neg e3
        refine ⟨q, T, 2, ?_, by subst e2; unfold oneG; simp⟩
        rw [hs]
        refine ⟨?_, ?_, h.en, hq, by omega, hT, h.rg, h.hd, h.tk, h.t0, h.cl, h.lt, hc, fun _ => ⟨hcl, by omega⟩⟩
        · show upf r.pl 1 2 0 = _
          rw [upf_ne _ _ (by omega)]; exact h.p0
        · show upf r.pl 1 2 1 = _
          rw [upf_at]
    · rw [if_neg e2] at ha
      have hs : stp (oneP m v c) r 1 = { r with pl := upf r.pl 1 0 } := by
        unfold stp
        rw [ha]
        rfl
      refine ⟨q, T, 0, ?_, by
        have : w = 1 := by omega
        subst this; unfold oneG; simp⟩
      rw [hs]
      refine ⟨?_, ?_, h.en, hq, by omega, hT, h.rg, h.hd, h.tk, h.t0, h.cl, h.lt, hc, fun e3 => by omega⟩
      · show upf r.pl 1 0 0 = _
        rw [upf_ne _ _ (by omega)]; exact h.p0
      · show upf r.pl 1 0 1 = _
        rw [upf_at]
theorem OneJ.none (h : OneJ m v c q T w r) (hn : mayL (oneP m v c) r = []) : q = 2 * m + 1 ∧ w = 2 := by
  have hq := h.q1
  have hw := h.w1
  have hT := h.T1
  have hc := h.hc
  have h0 := mayL_nil.1 hn 0 (show 0 < 2 by omega)
  have h1 := mayL_nil.1 hn 1 (show 1 < 2 by omega)
  unfold may at h0 h1
  rw [h.at0] at h0
  rw [h.at1] at h1
  have hw2 : w = 2 ∨ (w = 0 ∧ Loo.rdy (oneP m v c) r 0 = false ∧ r.cl 0 = false) := by
    by_cases e : w = 2
    · exact Or.inl e
    · rw [if_neg e] at h1
      by_cases e2 : w = 0
      · rw [if_pos e2] at h1
        have h1' : (Loo.rdy (oneP m v c) r 0 || r.cl 0) = false := h1
        simp only [Bool.or_eq_false_iff] at h1'
        exact Or.inr ⟨e2, h1'⟩
      · rw [if_neg e2] at h1
        cases h1
  by_cases e : q = 2 * m + 1
  · refine ⟨e, ?_⟩
    rcases hw2 with z | ⟨_, _, z⟩
    · exact z
    · rw [h.cl, decide_eq_true e] at z
      cases z
  · exfalso
    rw [if_neg e] at h0
    by_cases e2 : q = 2 * m
    · rw [if_pos e2] at h0; cases h0
    · rw [if_neg e2] at h0
      by_cases e3 : q % 2 = 0
      · rw [if_pos e3] at h0; cases h0
      · rw [if_neg e3] at h0
        have h0' : (r.cl 0 || decide (((r.hd 0).length : Int) < (c : Int)) || mts (oneP m v c) r 0 (Loo.tak (oneP m v c) r 0)) = false := h0
        simp only [Bool.or_eq_false_iff, decide_eq_false_iff_not, h.lenH] at h0'
        rcases hw2 with z | ⟨z, z2, _⟩
        · exact e (h.w2 z).1
        · have z3 : ¬ (T < q / 2 ∨ (c = 0 ∧ q % 2 = 1 ∧ q < 2 * m)) := fun y => by rw [(h.rdy).2 y] at z2; cases z2
          omega
theorem OneJ.begin (m : Nat) (v : Nat → Int) (c : Nat) : OneJ m v c 0 0 0 r0 :=
  ⟨rfl, rfl, ⟨rfl, rfl⟩, by omega, by omega, by omega, fun h => by omega, rfl, rfl, rfl, by show false = _; simp, rfl, by omega, fun h => by omega⟩
end
end Go.Proofs.Ytcgkelgncehekab.Loo
