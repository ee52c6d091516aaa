import Derived.Test.YtcgkelgncehekaaE8b
namespace Go.Proofs.Ytcgkelgncehekaa.Loo
/- A pipe of many hands, its steps over numbers and lists (LoomPipes). Names nothing of a program. -/

def sm : Nat → (Nat → Nat) → Nat
  | 0, _ => 0
  | n + 1, f => sm n f + f n
theorem sm_cg {n : Nat} {f g : Nat → Nat} (h : ∀ i, i < n → f i = g i) : sm n f = sm n g := by
  induction n with
  | zero => rfl
  | succ n ih => rw [sm, sm, ih fun i hi => h i (by omega), h n (by omega)]
theorem sm_one {n i : Nat} {f g : Nat → Nat} (hi : i < n) (h : ∀ c, c < n → c ≠ i → g c = f c) : sm n g + f i = sm n f + g i := by
  induction n with
  | zero => omega
  | succ n ih =>
    rw [sm, sm]
    by_cases e : i = n
    · subst e
      rw [sm_cg (f := g) (g := f) fun c hc => h c (by omega) (by omega)]
      omega
    · have h1 := ih (by omega) fun c hc => h c (by omega)
      rw [h n (by omega) (Ne.symm e)]
      omega
theorem sm_ge {n i : Nat} {f : Nat → Nat} (hi : i < n) : f i ≤ sm n f := by
  induction n with
  | zero => omega
  | succ n ih =>
    rw [sm]
    by_cases e : i = n
    · subst e; omega
    · have := ih (by omega); omega
theorem sm_zero {n : Nat} {f : Nat → Nat} (h : ∀ i, i < n → f i = 0) : sm n f = 0 := by
  induction n with
  | zero => rfl
  | succ n ih => rw [sm, ih fun i hi => h i (by omega), h n (by omega)]
def fP (x : Nat) : Nat := if x = 0 then 1 else if x = 1 then 3 else if x = 2 then 2 else 0
def ind (b : Bool) : Nat := if b = true then 1 else 0
/-- The pipe's state: where the feeder stands (q), how many numbers the carriers took (T), where the waiter stands (w), carriers' places, registers, lists, takers' places and lists, the ducts. -/
structure Ab where
  q : Nat
  T : Nat
  w : Nat
  P : Nat → Nat
  G : Nat → Int
  Z : Nat → List Int
  Q : Nat → Nat
  Y : Nat → List Int
  h0 : List Int
  h1 : List Int
def Ab.M (I C K : Nat) (s : Ab) : Nat := (2 * I + 1 - s.q) + 3 * (I - s.T) + sm C (fun c => fP (s.P c)) + (C + 1 - s.w) + 2 * (I - sm K fun k => (s.Y k).length) + sm K (fun k => oneG (s.Q k))
def itm (a n : Nat) : List Int := (List.range' a n).map Int.ofNat
def box (x : Int) (T : Nat) : Nat := ind (decide (1 ≤ x ∧ x ≤ T))
structure PJ (I C K : Nat) (s : Ab) : Prop where
  q1 : s.q ≤ 2 * I + 1
  w1 : s.w ≤ C + 1
  T1 : s.T ≤ s.q / 2
  h0 : s.h0 = itm (s.T + 1) (s.q / 2 - s.T)
  P1 : ∀ c, c < C → s.P c ≤ 3
  P3 : ∀ c, c < C → s.P c = 3 → s.q = 2 * I + 1 ∧ s.T = I
  Pw : ∀ c, c < C → c < s.w → s.P c = 3
  Q1 : ∀ k, k < K → s.Q k ≤ 2
  Q2 : ∀ k, k < K → s.Q k = 2 → s.w = C + 1 ∧ s.h1 = []
  Zs : sm C (fun c => (s.Z c).length) = s.T
  Zx : ∀ x : Int, sm C (fun c => (s.Z c).count x) = box x s.T
  Zr : ∀ c, c < C → (s.Z c).Pairwise (· < ·) ∧ ∀ x ∈ s.Z c, x ≤ s.T
  Ys : sm K (fun k => (s.Y k).length) + s.h1.length + sm C (fun c => ind (decide (s.P c = 1))) = s.T
  Yx : ∀ x : Int, sm K (fun k => (s.Y k).count x) + s.h1.count x + sm C (fun c => ind (decide (s.P c = 1 ∧ s.G c = x))) = box x s.T
section
variable {I C K : Nat} {s : Ab}
theorem itm_next (a n : Nat) : itm a n ++ [((a + n : Nat) : Int)] = itm a (n + 1) := map_next
theorem itm_head {a n : Nat} (h : 0 < n) : itm a n = (a : Int) :: itm (a + 1) (n - 1) := map_head h
theorem itm_len (a n : Nat) : (itm a n).length = n := by simp [itm]
theorem PJ.feed (h : PJ I C K s) (hq : s.q ≤ 2 * I) (hp : ¬ (s.q % 2 = 1)) : PJ I C K { s with q := s.q + 1 } ∧ Ab.M I C K { s with q := s.q + 1 } < Ab.M I C K s := by
  have hT := h.T1
  refine ⟨⟨by show s.q + 1 ≤ _; omega, h.w1, by show s.T ≤ (s.q + 1) / 2; omega, ?_, h.P1, fun c hc e => ?_, h.Pw, h.Q1, h.Q2, h.Zs, h.Zx, h.Zr, h.Ys, h.Yx⟩, ?_⟩
  · show s.h0 = itm (s.T + 1) ((s.q + 1) / 2 - s.T)
    rw [h.h0, show (s.q + 1) / 2 = s.q / 2 by omega]
  · have := (h.P3 c hc e).1
    omega
  · simp only [Ab.M]
    omega
theorem PJ.feedPut (h : PJ I C K s) (hq : s.q ≤ 2 * I) (hp : s.q % 2 = 1) : PJ I C K { s with q := s.q + 1, h0 := s.h0 ++ [((s.q / 2 + 1 : Nat) : Int)] } ∧ Ab.M I C K { s with q := s.q + 1, h0 := s.h0 ++ [((s.q / 2 + 1 : Nat) : Int)] } < Ab.M I C K s := by
  have hT := h.T1
  refine ⟨⟨by show s.q + 1 ≤ _; omega, h.w1, by show s.T ≤ (s.q + 1) / 2; omega, ?_, h.P1, fun c hc e => ?_, h.Pw, h.Q1, h.Q2, h.Zs, h.Zx, h.Zr, h.Ys, h.Yx⟩, ?_⟩
  · show s.h0 ++ [_] = itm (s.T + 1) ((s.q + 1) / 2 - s.T)
    rw [h.h0, show (s.q + 1) / 2 - s.T = s.q / 2 - s.T + 1 by omega, ← itm_next, show s.T + 1 + (s.q / 2 - s.T) = s.q / 2 + 1 by omega]
  · have := (h.P3 c hc e).1
    omega
  · simp only [Ab.M]
    omega
theorem box_next {x : Int} {T : Nat} : box x (T + 1) = box x T + ind (decide (x = ((T + 1 : Nat) : Int))) := by
  unfold box ind
  by_cases e : x = ((T + 1 : Nat) : Int)
  · rw [if_pos (by simp; omega), if_neg (by simp; omega), if_pos (by simpa using e)]
  · rw [if_neg (c := decide (x = ((T + 1 : Nat) : Int)) = true) (by simpa using e)]
    by_cases e2 : 1 ≤ x ∧ x ≤ T
    · rw [if_pos (by simp; omega), if_pos (by simpa using e2)]
    · rw [if_neg (by simp; omega), if_neg (by simpa using e2)]
theorem cnt_app {l : List Int} {x y : Int} : (l ++ [y]).count x = l.count x + ind (decide (x = y)) := by
  rw [List.count_append, List.count_singleton]
  unfold ind
  by_cases e : x = y
  · subst e; simp
  · rw [if_neg (by simpa using fun z => e z.symm), if_neg (by simpa using e)]
theorem PJ.carTake (h : PJ I C K s) {c0 : Nat} (hc : c0 < C) (hP : s.P c0 = 0) {x : Int} {l : List Int} (hh : s.h0 = x :: l) :
    PJ I C K { s with T := s.T + 1, h0 := l, P := upf s.P c0 1, G := upf s.G c0 x, Z := upf s.Z c0 (s.Z c0 ++ [x]) } ∧ Ab.M I C K { s with T := s.T + 1, h0 := l, P := upf s.P c0 1, G := upf s.G c0 x, Z := upf s.Z c0 (s.Z c0 ++ [x]) } < Ab.M I C K s ∧ x = ((s.T + 1 : Nat) : Int) := by
  have hT := h.T1
  have hq := h.q1
  have h0 := h.h0
  rw [hh] at h0
  have hn : 0 < s.q / 2 - s.T := by
    by_cases e : 0 < s.q / 2 - s.T
    · exact e
    · rw [show s.q / 2 - s.T = 0 by omega] at h0
      cases h0
  rw [itm_head hn] at h0
  injection h0 with e1 e2
  have hlt : s.T < I := by omega
  refine ⟨⟨hq, h.w1, by show s.T + 1 ≤ s.q / 2; omega, ?_, fun c hc' => ?_, fun c hc' e => ?_, fun c hc' e => ?_, h.Q1, h.Q2, ?_, fun y => ?_, fun c hc' => ?_, ?_, fun y => ?_⟩, ?_, e1⟩
  · show l = itm (s.T + 1 + 1) (s.q / 2 - (s.T + 1))
    rw [e2, show s.q / 2 - (s.T + 1) = s.q / 2 - s.T - 1 by omega]
  · show upf s.P c0 1 c ≤ 3
    unfold upf
    split
    · omega
    · exact h.P1 c hc'
  · by_cases z : c = c0
    · subst z
      replace e := Eq.trans (Eq.symm (show upf s.P c 1 c = 1 from upf_at _ _ _)) e
      omega
    · replace e := Eq.trans (Eq.symm (show upf s.P c0 1 c = s.P c from upf_ne _ _ z)) e
      have := (h.P3 c hc' e).2
      omega
  · by_cases z : c = c0
    · subst z
      have := h.Pw c hc' e
      omega
    · show upf s.P c0 1 c = 3
      rw [upf_ne _ _ z]
      exact h.Pw c hc' e
  · have h1 := sm_one (f := fun c => (s.Z c).length) (g := fun c => (upf s.Z c0 (s.Z c0 ++ [x]) c).length) hc fun c _ e => by simp only [upf_ne _ _ e]
    have h2 := h.Zs
    have h3 : (upf s.Z c0 (s.Z c0 ++ [x]) c0).length = (s.Z c0).length + 1 := by rw [upf_at]; simp
    show sm C (fun c => (upf s.Z c0 (s.Z c0 ++ [x]) c).length) = s.T + 1
    omega
  · have h1 := sm_one (f := fun c => (s.Z c).count y) (g := fun c => (upf s.Z c0 (s.Z c0 ++ [x]) c).count y) hc fun c _ e => by simp only [upf_ne _ _ e]
    have h2 := h.Zx y
    have h3 : (upf s.Z c0 (s.Z c0 ++ [x]) c0).count y = (s.Z c0).count y + ind (decide (y = x)) := by rw [upf_at]; exact cnt_app
    show sm C (fun c => (upf s.Z c0 (s.Z c0 ++ [x]) c).count y) = box y (s.T + 1)
    rw [box_next, ← h2, ← e1]
    omega
  · show (upf s.Z c0 (s.Z c0 ++ [x]) c).Pairwise (· < ·) ∧ ∀ y ∈ upf s.Z c0 (s.Z c0 ++ [x]) c, y ≤ ((s.T + 1 : Nat) : Int)
    obtain ⟨r1, r2⟩ := h.Zr c hc'
    by_cases z : c = c0
    · subst z
      rw [upf_at]
      refine ⟨List.pairwise_append.2 ⟨r1, List.pairwise_singleton _ _, fun a ha b hb => ?_⟩, fun y hy => ?_⟩
      · rw [List.mem_singleton.1 hb, e1]
        have := r2 a ha
        show a < ((s.T + 1 : Nat) : Int)
        omega
      · rcases List.mem_append.1 hy with q | q
        · have := r2 y q; omega
        · rw [List.mem_singleton.1 q, e1]
          exact Int.le_refl _
    · rw [upf_ne _ _ z]
      exact ⟨r1, fun y hy => by have := r2 y hy; omega⟩
  · have h1 := sm_one (f := fun c => ind (decide (s.P c = 1))) (g := fun c => ind (decide (upf s.P c0 1 c = 1))) hc fun c _ e => by simp only [upf_ne _ _ e]
    have h2 := h.Ys
    have h3 : ind (decide (upf s.P c0 1 c0 = 1)) = 1 := by rw [upf_at]; rfl
    have h4 : ind (decide (s.P c0 = 1)) = 0 := by rw [hP]; rfl
    show sm K (fun k => (s.Y k).length) + s.h1.length + sm C (fun c => ind (decide (upf s.P c0 1 c = 1))) = s.T + 1
    omega
  · have h1 := sm_one (f := fun c => ind (decide (s.P c = 1 ∧ s.G c = y))) (g := fun c => ind (decide (upf s.P c0 1 c = 1 ∧ upf s.G c0 x c = y))) hc fun c _ e => by simp only [upf_ne _ _ e]
    have h2 := h.Yx y
    have h3 : ind (decide (upf s.P c0 1 c0 = 1 ∧ upf s.G c0 x c0 = y)) = ind (decide (y = x)) := by
      rw [upf_at, upf_at]
      congr 1
      exact decide_eq_decide.2 ⟨fun q => q.2.symm, fun q => ⟨rfl, q.symm⟩⟩
    have h4 : ind (decide (s.P c0 = 1 ∧ s.G c0 = y)) = 0 := by rw [hP]; simp [ind]
    show sm K (fun k => (s.Y k).count y) + s.h1.count y + sm C (fun c => ind (decide (upf s.P c0 1 c = 1 ∧ upf s.G c0 x c = y))) = box y (s.T + 1)
    rw [box_next, ← h2, ← e1]
    omega
  · have h1 := sm_one (f := fun c => fP (s.P c)) (g := fun c => fP (upf s.P c0 1 c)) hc fun c _ e => by simp only [upf_ne _ _ e]
    have h3 : fP (upf s.P c0 1 c0) = 3 := by rw [upf_at]; rfl
    have h4 : fP (s.P c0) = 1 := by rw [hP]; rfl
    simp only [Ab.M]
    have h1' : sm C (fun c => fP (upf s.P c0 1 c)) + fP (s.P c0) = sm C (fun c => fP (s.P c)) + fP (upf s.P c0 1 c0) := h1
    omega
/-- A carrier's place changes, from a place that is not 1 to one that is not 1. -/
theorem PJ.carMove (h : PJ I C K s) {c0 v : Nat} (hc : c0 < C) (hP : s.P c0 ≠ 1) (hP3 : s.P c0 ≠ 3) (hv : v ≠ 1) (hv3 : v ≤ 3) (h3 : v = 3 → s.q = 2 * I + 1 ∧ s.T = I) (hf : fP v < fP (s.P c0)) :
    PJ I C K { s with P := upf s.P c0 v } ∧ Ab.M I C K { s with P := upf s.P c0 v } < Ab.M I C K s := by
  refine ⟨⟨h.q1, h.w1, h.T1, h.h0, fun c hc' => ?_, fun c hc' e => ?_, fun c hc' e => ?_, h.Q1, h.Q2, h.Zs, h.Zx, h.Zr, ?_, fun y => ?_⟩, ?_⟩
  · show upf s.P c0 v c ≤ 3
    unfold upf
    split
    · exact hv3
    · exact h.P1 c hc'
  · by_cases z : c = c0
    · subst z
      replace e := Eq.trans (Eq.symm (show upf s.P c v c = v from upf_at _ _ _)) e
      exact h3 e
    · replace e := Eq.trans (Eq.symm (show upf s.P c0 v c = s.P c from upf_ne _ _ z)) e
      exact h.P3 c hc' e
  · by_cases z : c = c0
    · subst z
      exact absurd (h.Pw c hc' e) hP3
    · show upf s.P c0 v c = 3
      rw [upf_ne _ _ z]
      exact h.Pw c hc' e
  · rw [← h.Ys]
    congr 1
    refine sm_cg fun c hc' => congrArg ind (decide_eq_decide.2 ?_)
    show upf s.P c0 v c = 1 ↔ _
    by_cases z : c = c0
    · subst z
      rw [upf_at]
      exact ⟨fun q => absurd q hv, fun q => absurd q hP⟩
    · rw [upf_ne _ _ z]
  · rw [← h.Yx y]
    congr 1
    refine sm_cg fun c hc' => congrArg ind (decide_eq_decide.2 ?_)
    show (upf s.P c0 v c = 1 ∧ s.G c = y) ↔ _
    by_cases z : c = c0
    · subst z
      rw [upf_at]
      exact ⟨fun q => absurd q.1 hv, fun q => absurd q.1 hP⟩
    · rw [upf_ne _ _ z]
  · have h1 := sm_one (f := fun c => fP (s.P c)) (g := fun c => fP (upf s.P c0 v c)) hc fun c _ e => by simp only [upf_ne _ _ e]
    have h3 : fP (upf s.P c0 v c0) = fP v := by rw [upf_at]
    simp only [Ab.M]
    have h1' : sm C (fun c => fP (upf s.P c0 v c)) + fP (s.P c0) = sm C (fun c => fP (s.P c)) + fP (upf s.P c0 v c0) := h1
    omega
theorem PJ.carPut (h : PJ I C K s) {c0 : Nat} (hc : c0 < C) (hP : s.P c0 = 1) :
    PJ I C K { s with P := upf s.P c0 2, h1 := s.h1 ++ [s.G c0] } ∧ Ab.M I C K { s with P := upf s.P c0 2, h1 := s.h1 ++ [s.G c0] } < Ab.M I C K s := by
  refine ⟨⟨h.q1, h.w1, h.T1, h.h0, fun c hc' => ?_, fun c hc' e => ?_, fun c hc' e => ?_, h.Q1, fun k hk e => ?_, h.Zs, h.Zx, h.Zr, ?_, fun y => ?_⟩, ?_⟩
  · show upf s.P c0 2 c ≤ 3
    unfold upf
    split
    · omega
    · exact h.P1 c hc'
  · by_cases z : c = c0
    · subst z
      replace e := Eq.trans (Eq.symm (show upf s.P c 2 c = 2 from upf_at _ _ _)) e
      omega
    · replace e := Eq.trans (Eq.symm (show upf s.P c0 2 c = s.P c from upf_ne _ _ z)) e
      exact h.P3 c hc' e
  · by_cases z : c = c0
    · subst z
      have := h.Pw c hc' e
      omega
    · show upf s.P c0 2 c = 3
      rw [upf_ne _ _ z]
      exact h.Pw c hc' e
  · have h1 := (h.Q2 k hk e).1
    have h2 := h.Pw c0 hc (by omega)
    omega
  · have h1 := sm_one (f := fun c => ind (decide (s.P c = 1))) (g := fun c => ind (decide (upf s.P c0 2 c = 1))) hc fun c _ e => by simp only [upf_ne _ _ e]
    have h2 := h.Ys
    have h3 : ind (decide (upf s.P c0 2 c0 = 1)) = 0 := by rw [upf_at]; rfl
    have h4 : ind (decide (s.P c0 = 1)) = 1 := by rw [hP]; rfl
    show sm K (fun k => (s.Y k).length) + (s.h1 ++ [s.G c0]).length + sm C (fun c => ind (decide (upf s.P c0 2 c = 1))) = s.T
    rw [List.length_append, List.length_singleton]
    omega
  · have h1 := sm_one (f := fun c => ind (decide (s.P c = 1 ∧ s.G c = y))) (g := fun c => ind (decide (upf s.P c0 2 c = 1 ∧ s.G c = y))) hc fun c _ e => by simp only [upf_ne _ _ e]
    have h2 := h.Yx y
    have h3 : ind (decide (upf s.P c0 2 c0 = 1 ∧ s.G c0 = y)) = 0 := by rw [upf_at]; simp [ind]
    have h4 : ind (decide (s.P c0 = 1 ∧ s.G c0 = y)) = ind (decide (y = s.G c0)) := by
      congr 1
      exact decide_eq_decide.2 ⟨fun q => q.2.symm, fun q => ⟨hP, q.symm⟩⟩
    show sm K (fun k => (s.Y k).count y) + (s.h1 ++ [s.G c0]).count y + sm C (fun c => ind (decide (upf s.P c0 2 c = 1 ∧ s.G c = y))) = box y s.T
    rw [cnt_app]
    omega
  · have h1 := sm_one (f := fun c => fP (s.P c)) (g := fun c => fP (upf s.P c0 2 c)) hc fun c _ e => by simp only [upf_ne _ _ e]
    have h3 : fP (upf s.P c0 2 c0) = 2 := by rw [upf_at]; rfl
    have h4 : fP (s.P c0) = 3 := by rw [hP]; rfl
    simp only [Ab.M]
    have h1' : sm C (fun c => fP (upf s.P c0 2 c)) + fP (s.P c0) = sm C (fun c => fP (s.P c)) + fP (upf s.P c0 2 c0) := h1
    omega
theorem PJ.wait (h : PJ I C K s) (hw : s.w ≤ C) (hP : ∀ c, c < C → c = s.w → s.P c = 3) : PJ I C K { s with w := s.w + 1 } ∧ Ab.M I C K { s with w := s.w + 1 } < Ab.M I C K s := by
  refine ⟨⟨h.q1, by show s.w + 1 ≤ _; omega, h.T1, h.h0, h.P1, h.P3, fun c hc e => ?_, h.Q1, fun k hk e => ?_, h.Zs, h.Zx, h.Zr, h.Ys, h.Yx⟩, ?_⟩
  · have e' : c < s.w + 1 := e
    by_cases z : c = s.w
    · exact hP c hc z
    · exact h.Pw c hc (by omega)
  · have := (h.Q2 k hk e).1
    omega
  · simp only [Ab.M]
    omega
theorem PJ.takTake (h : PJ I C K s) {k0 : Nat} (hk : k0 < K) (hQ : s.Q k0 = 0) {x : Int} {l : List Int} (hh : s.h1 = x :: l) :
    PJ I C K { s with h1 := l, Q := upf s.Q k0 1, Y := upf s.Y k0 (s.Y k0 ++ [x]) } ∧ Ab.M I C K { s with h1 := l, Q := upf s.Q k0 1, Y := upf s.Y k0 (s.Y k0 ++ [x]) } < Ab.M I C K s := by
  have hT := h.T1
  have hq := h.q1
  have hs := h.Ys
  rw [hh, List.length_cons] at hs
  have g1 := sm_one (f := fun k => (s.Y k).length) (g := fun k => (upf s.Y k0 (s.Y k0 ++ [x]) k).length) hk fun c _ e => by simp only [upf_ne _ _ e]
  have g2 : (upf s.Y k0 (s.Y k0 ++ [x]) k0).length = (s.Y k0).length + 1 := by rw [upf_at]; simp
  have g1' : sm K (fun k => (upf s.Y k0 (s.Y k0 ++ [x]) k).length) + (s.Y k0).length = sm K (fun k => (s.Y k).length) + (upf s.Y k0 (s.Y k0 ++ [x]) k0).length := g1
  refine ⟨⟨h.q1, h.w1, h.T1, h.h0, h.P1, h.P3, h.Pw, fun k hk' => ?_, fun k hk' e => ?_, h.Zs, h.Zx, h.Zr, ?_, fun y => ?_⟩, ?_⟩
  · show upf s.Q k0 1 k ≤ 2
    unfold upf
    split
    · omega
    · exact h.Q1 k hk'
  · by_cases z : k = k0
    · subst z
      replace e := Eq.trans (Eq.symm (show upf s.Q k 1 k = 1 from upf_at _ _ _)) e
      omega
    · replace e := Eq.trans (Eq.symm (show upf s.Q k0 1 k = s.Q k from upf_ne _ _ z)) e
      have := (h.Q2 k hk' e).2
      rw [hh] at this
      cases this
  · show sm K (fun k => (upf s.Y k0 (s.Y k0 ++ [x]) k).length) + l.length + sm C (fun c => ind (decide (s.P c = 1))) = s.T
    omega
  · have h1 := sm_one (f := fun k => (s.Y k).count y) (g := fun k => (upf s.Y k0 (s.Y k0 ++ [x]) k).count y) hk fun c _ e => by simp only [upf_ne _ _ e]
    have h2 := h.Yx y
    have h3 : (upf s.Y k0 (s.Y k0 ++ [x]) k0).count y = (s.Y k0).count y + ind (decide (y = x)) := by rw [upf_at]; exact cnt_app
    have h4 : (x :: l).count y = l.count y + ind (decide (y = x)) := by
      rw [List.count_cons]
      unfold ind
      congr 1
      by_cases e : y = x
      · subst e; simp
      · rw [if_neg (by simpa using fun z => e z.symm), if_neg (by simpa using e)]
    rw [hh, h4] at h2
    show sm K (fun k => (upf s.Y k0 (s.Y k0 ++ [x]) k).count y) + l.count y + sm C (fun c => ind (decide (s.P c = 1 ∧ s.G c = y))) = box y s.T
    omega
  · have h1 := sm_one (f := fun k => oneG (s.Q k)) (g := fun k => oneG (upf s.Q k0 1 k)) hk fun c _ e => by simp only [upf_ne _ _ e]
    have h3 : oneG (upf s.Q k0 1 k0) = 2 := by rw [upf_at]; rfl
    have h4 : oneG (s.Q k0) = 1 := by rw [hQ]; rfl
    simp only [Ab.M]
    have h1' : sm K (fun k => oneG (upf s.Q k0 1 k)) + oneG (s.Q k0) = sm K (fun k => oneG (s.Q k)) + oneG (upf s.Q k0 1 k0) := h1
    omega
theorem PJ.takMove (h : PJ I C K s) {k0 v : Nat} (hk : k0 < K) (hv2 : v ≤ 2) (h2 : v = 2 → s.w = C + 1 ∧ s.h1 = []) (hf : oneG v < oneG (s.Q k0)) :
    PJ I C K { s with Q := upf s.Q k0 v } ∧ Ab.M I C K { s with Q := upf s.Q k0 v } < Ab.M I C K s := by
  refine ⟨⟨h.q1, h.w1, h.T1, h.h0, h.P1, h.P3, h.Pw, fun k hk' => ?_, fun k hk' e => ?_, h.Zs, h.Zx, h.Zr, h.Ys, h.Yx⟩, ?_⟩
  · show upf s.Q k0 v k ≤ 2
    unfold upf
    split
    · exact hv2
    · exact h.Q1 k hk'
  · by_cases z : k = k0
    · subst z
      replace e := Eq.trans (Eq.symm (show upf s.Q k v k = v from upf_at _ _ _)) e
      exact h2 e
    · replace e := Eq.trans (Eq.symm (show upf s.Q k0 v k = s.Q k from upf_ne _ _ z)) e
      exact h.Q2 k hk' e
  · have h1 := sm_one (f := fun k => oneG (s.Q k)) (g := fun k => oneG (upf s.Q k0 v k)) hk fun c _ e => by simp only [upf_ne _ _ e]
    have h3 : oneG (upf s.Q k0 v k0) = oneG v := by rw [upf_at]
    simp only [Ab.M]
    have h1' : sm K (fun k => oneG (upf s.Q k0 v k)) + oneG (s.Q k0) = sm K (fun k => oneG (s.Q k)) + oneG (upf s.Q k0 v k0) := h1
    omega
end
end Go.Proofs.Ytcgkelgncehekaa.Loo
