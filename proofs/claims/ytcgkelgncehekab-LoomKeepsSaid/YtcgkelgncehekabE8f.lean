import Derived.Test.YtcgkelgncehekabE8b
namespace Go.Proofs.Ytcgkelgncehekab.Loo
/- A pipe of many hands, its steps over numbers and lists (LoomPipes). Names nothing of a program. -/

def sm : Nat → (Nat → Nat) → Nat
  | 0, _ => 0
  | n + 1, f => sm n f + f n
def fP (x : Nat) : Nat := if x = 0 then 1 else if x = 1 then 3 else if x = 2 then 2 else 0
def ind (b : Bool) : Nat := if b = true then 1 else 0
/-- The pipe's state: where the feeder stands (q), how many numbers the carriers took (T), where the waiter stands (w), carriers' places, registers, lists, takers' places and lists, the ducts. -/
structure Ab where
  q : Nat
  T : Nat
  w : Nat
  P : Nat → Nat
  G : Nat → Int
  Z : Nat → List Int
  Q : Nat → Nat
  Y : Nat → List Int
  h0 : List Int
  h1 : List Int
def Ab.M (I C K : Nat) (s : Ab) : Nat := (2 * I + 1 - s.q) + 3 * (I - s.T) + sm C (fun c => fP (s.P c)) + (C + 1 - s.w) + 2 * (I - sm K fun k => (s.Y k).length) + sm K (fun k => oneG (s.Q k))
def itm (a n : Nat) : List Int := (List.range' a n).map Int.ofNat
def box (x : Int) (T : Nat) : Nat := ind (decide (1 ≤ x ∧ x ≤ T))
structure PJ (I C K : Nat) (s : Ab) : Prop where
  q1 : s.q ≤ 2 * I + 1
  w1 : s.w ≤ C + 1
  T1 : s.T ≤ s.q / 2
  h0 : s.h0 = itm (s.T + 1) (s.q / 2 - s.T)
  P1 : ∀ c, c < C → s.P c ≤ 3
  P3 : ∀ c, c < C → s.P c = 3 → s.q = 2 * I + 1 ∧ s.T = I
  Pw : ∀ c, c < C → c < s.w → s.P c = 3
  Q1 : ∀ k, k < K → s.Q k ≤ 2
  Q2 : ∀ k, k < K → s.Q k = 2 → s.w = C + 1 ∧ s.h1 = []
  Zs : sm C (fun c => (s.Z c).length) = s.T
  Zx : ∀ x : Int, sm C (fun c => (s.Z c).count x) = box x s.T
  Zr : ∀ c, c < C → (s.Z c).Pairwise (· < ·) ∧ ∀ x ∈ s.Z c, x ≤ s.T
  Ys : sm K (fun k => (s.Y k).length) + s.h1.length + sm C (fun c => ind (decide (s.P c = 1))) = s.T
  Yx : ∀ x : Int, sm K (fun k => (s.Y k).count x) + s.h1.count x + sm C (fun c => ind (decide (s.P c = 1 ∧ s.G c = x))) = box x s.T
section
variable {I C K : Nat} {s : Ab}
theorem PJ.feed (h : PJ I C K s) (hq : s.q ≤ 2 * I) (hp : ¬ (s.q % 2 = 1)) : PJ I C K { s with q := s.q + 1 } ∧ Ab.M I C K { s with q := s.q + 1 } < Ab.M I C K s := by
  have hT := h.T1
  refine ⟨⟨by show s.q + 1 ≤ _; omega, h.w1, by show s.T ≤ (s.q + 1) / 2; omega, ?_, h.P1, fun c hc e => ?_, h.Pw, h.Q1, h.Q2, h.Zs, h.Zx, h.Zr, h.Ys, h.Yx⟩, ?_⟩
  · show s.h0 = itm (s.T + 1) ((s.q + 1) / 2 - s.T)
    rw [h.h0, show (s.q + 1) / 2 = s.q / 2 by omega]
  · have := (h.P3 c hc e).1
    omega
  · simp only [Ab.M]
    omega
theorem PJ.wait (h : PJ I C K s) (hw : s.w ≤ C) (hP : ∀ c, c < C → c = s.w → s.P c = 3) : PJ I C K { s with w := s.w + 1 } ∧ Ab.M I C K { s with w := s.w + 1 } < Ab.M I C K s := by
  refine ⟨⟨h.q1, by show s.w + 1 ≤ _; omega, h.T1, h.h0, h.P1, h.P3, fun c hc e => ?_, h.Q1, fun k hk e => ?_, h.Zs, h.Zx, h.Zr, h.Ys, h.Yx⟩, ?_⟩
  · have e' : c < s.w + 1 := e
    by_cases z : c = s.w
    · exact hP c hc z
    · exact h.Pw c hc (by omega)
  · have := (h.Q2 k hk e).1
    omega
  · simp only [Ab.M]
    omega
end
end Go.Proofs.Ytcgkelgncehekab.Loo

namespace Go.Proofs.Ytcgkelgncehekab.Loo
/- A pipe of many hands: the room is the pipe's state (LoomPipes). Names nothing of a program. -/

def pipP (I C K c0 c1 : Nat) : Pl where
  d := 2
  n := C + 2 + K
  cap := fun i => if i = 0 then c0 else c1
  ln := fun t => if t = 0 then 2 * I + 1 else if t < C + 1 then 3 else if t = C + 1 then C + 1 else 2
  op := fun t j =>
    if t = 0 then (if j = 2 * I then ⟨3, 0, 0⟩ else if j % 2 = 0 then ⟨5, 1, 0⟩ else ⟨1, 0, 0⟩)
    else if t < C + 1 then (if j = 0 then ⟨2, 0, 3⟩ else if j = 1 then ⟨1, 1, 0⟩ else ⟨6, 0, 0⟩)
    else if t = C + 1 then (if j = C then ⟨3, 1, 0⟩ else ⟨9, ((1 + j : Nat) : Int), 0⟩)
    else if j = 0 then ⟨2, 1, 2⟩ else ⟨6, 0, 0⟩
structure Rel (I C K : Nat) (r : Rm) (s : Ab) : Prop where
  p0 : r.pl 0 = s.q
  g0 : s.q ≤ 2 * I → r.rg 0 = (((s.q + 1) / 2 : Nat) : Int)
  pc : ∀ c, c < C → r.pl (1 + c) = s.P c
  gc : ∀ c, c < C → r.rg (1 + c) = s.G c
  zc : ∀ c, c < C → r.tk (1 + c) = s.Z c
  pw : r.pl (C + 1) = s.w
  pk : ∀ k, k < K → r.pl (C + 2 + k) = s.Q k
  yk : ∀ k, k < K → r.tk (C + 2 + k) = s.Y k
  h0 : r.hd 0 = s.h0
  h1 : r.hd 1 = s.h1
  c0 : r.cl 0 = decide (s.q = 2 * I + 1)
  c1 : r.cl 1 = decide (s.w = C + 1)
  lt : r.lt = 0
  en : ∀ t, r.en t = false
  t0 : r.tk 0 = []
  tw : r.tk (C + 1) = []
section
variable {α : Type} {f g : Nat → α} {v : α} {c k C K a : Nat}
theorem upf_self : upf f k (f k) = f := funext fun j => by
  unfold upf
  split
  · rename_i h; rw [h]
  · rfl
end
section
variable {I C K c0 c1 : Nat} {r : Rm} {s : Ab}
theorem Rel.feed (h : Rel I C K r s) {z : Int} {b : Bool} (hz : s.q + 1 ≤ 2 * I → z = (((s.q + 1 + 1) / 2 : Nat) : Int)) (hb : b = decide (s.q + 1 = 2 * I + 1)) : Rel I C K { r with pl := upf r.pl 0 (r.pl 0 + 1), rg := upf r.rg 0 z, cl := upf r.cl 0 b } { s with q := s.q + 1 } :=
  ⟨(by show upf r.pl 0 (r.pl 0 + 1) 0 = s.q + 1; rw [upf_at, h.p0]), (fun q => by show upf r.rg 0 z 0 = _; rw [upf_at]; exact hz q), (fun i hi => by show upf r.pl 0 (r.pl 0 + 1) _ = _; rw [upf_ne _ _ (by omega)]; exact h.pc i hi), (fun i hi => by show upf r.rg 0 z _ = _; rw [upf_ne _ _ (by omega)]; exact h.gc i hi), h.zc, (by show upf r.pl 0 (r.pl 0 + 1) (C + 1) = _; rw [upf_ne _ _ (by omega)]; exact h.pw), (fun i hi => by show upf r.pl 0 (r.pl 0 + 1) _ = _; rw [upf_ne _ _ (by omega)]; exact h.pk i hi), h.yk, h.h0, h.h1, (by show upf r.cl 0 b 0 = _; rw [upf_at]; exact hb), (by show upf r.cl 0 b 1 = _; rw [upf_ne _ _ (by omega)]; exact h.c1), h.lt, h.en, h.t0, h.tw⟩
theorem Rel.wait (h : Rel I C K r s) {b : Bool} (hb : b = decide (s.w + 1 = C + 1)) : Rel I C K { r with pl := upf r.pl (C + 1) (r.pl (C + 1) + 1), cl := upf r.cl 1 b } { s with w := s.w + 1 } :=
  ⟨(by show upf r.pl (C + 1) (r.pl (C + 1) + 1) 0 = _; rw [upf_ne _ _ (by omega)]; exact h.p0), h.g0, (fun i hi => by show upf r.pl (C + 1) (r.pl (C + 1) + 1) _ = _; rw [upf_ne _ _ (by omega)]; exact h.pc i hi), h.gc, h.zc, (by show upf r.pl (C + 1) (r.pl (C + 1) + 1) (C + 1) = s.w + 1; rw [upf_at, h.pw]), (fun i hi => by show upf r.pl (C + 1) (r.pl (C + 1) + 1) _ = _; rw [upf_ne _ _ (by omega)]; exact h.pk i hi), h.yk, h.h0, h.h1, (by show upf r.cl 1 b 0 = _; rw [upf_ne _ _ (by omega)]; exact h.c0), (by show upf r.cl 1 b 1 = _; rw [upf_at]; exact hb), h.lt, h.en, h.t0, h.tw⟩
-- the operations at which the tasks stand
theorem Rel.gone0 (h : Rel I C K r s) (j : PJ I C K s) : gone (pipP I C K c0 c1) r 0 = decide (s.q = 2 * I + 1) := by
  have := j.q1
  unfold gone
  rw [h.en, h.p0]
  show (false || decide (2 * I + 1 ≤ s.q)) = _
  rw [Bool.false_or]
  exact decide_eq_decide.2 (by omega)
theorem Rel.at0 (h : Rel I C K r s) (j : PJ I C K s) : at_ (pipP I C K c0 c1) r 0 = if s.q = 2 * I + 1 then ⟨0, 0, 0⟩ else if s.q = 2 * I then ⟨3, 0, 0⟩ else if s.q % 2 = 0 then ⟨5, 1, 0⟩ else ⟨1, 0, 0⟩ := by
  unfold at_
  rw [h.gone0 j, h.p0]
  by_cases e : s.q = 2 * I + 1
  · rw [if_pos e, if_pos (decide_eq_true e)]
  · rw [if_neg e, if_neg (by simpa using e)]
    rfl
/-- Whose number it is. -/
theorem who {t : Nat} (ht : t < C + 2 + K) : t = 0 ∨ (∃ c, c < C ∧ t = 1 + c) ∨ t = C + 1 ∨ ∃ k, k < K ∧ t = C + 2 + k := by
  by_cases e : t = 0
  · exact Or.inl e
  · by_cases e2 : t < C + 1
    · exact Or.inr (Or.inl ⟨t - 1, by omega, by omega⟩)
    · by_cases e3 : t = C + 1
      · exact Or.inr (Or.inr (Or.inl e3))
      · exact Or.inr (Or.inr (Or.inr ⟨t - (C + 2), by omega, by omega⟩))
end
end Go.Proofs.Ytcgkelgncehekab.Loo

namespace Go.Proofs.Ytcgkelgncehekab.Loo
/- A pipe of many hands: every pick, and the end (LoomPipes). Names nothing of a program. -/

section
variable {I C K c0 c1 : Nat} {r : Rm} {s : Ab}
theorem Rel.setT (h : Rel I C K r s) (T : Nat) : Rel I C K r { s with T := T } := ⟨h.p0, h.g0, h.pc, h.gc, h.zc, h.pw, h.pk, h.yk, h.h0, h.h1, h.c0, h.c1, h.lt, h.en, h.t0, h.tw⟩
end
end Go.Proofs.Ytcgkelgncehekab.Loo

namespace Go.Proofs.Ytcgkelgncehekab.Loo
/- A pipe of many hands, whatever the script: what comes of it (LoomPipes). Names nothing of a program. -/

section
variable {I C K c0 c1 : Nat} {r : Rm} {s : Ab}
def ab0 : Ab := ⟨0, 0, 0, fun _ => 0, fun _ => 0, fun _ => [], fun _ => 0, fun _ => [], [], []⟩
theorem sm_const (n v : Nat) : sm n (fun _ => v) = n * v := by
  induction n with
  | zero => simp [sm]
  | succ n ih => rw [sm, ih, Nat.succ_mul]
theorem m0 (I C K : Nat) : Ab.M I C K ab0 = 7 * I + 2 * C + K + 2 := by
  show (2 * I + 1 - 0) + 3 * (I - 0) + sm C (fun _ => fP 0) + (C + 1 - 0) + 2 * (I - sm K fun _ => 0) + sm K (fun _ => oneG 0) = _
  rw [sm_const, sm_const, sm_const]
  show _ + _ + C * 1 + _ + _ + K * 1 = _
  omega
end
end Go.Proofs.Ytcgkelgncehekab.Loo
