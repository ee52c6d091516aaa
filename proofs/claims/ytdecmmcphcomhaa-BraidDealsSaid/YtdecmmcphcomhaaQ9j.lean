import Derived.Test.YtdecmmcphcomhaaQ9i
namespace Go.Proofs.Ytdecmmcphcomhaa.Brd
open Go.RowKit Gf8 Aes By8 Cel Cf Tap Drw Prm
/- Stage 12: what is refused, and what is answered, over Nat and Int (names nothing of a program). -/

def allB (p : Nat → Bool) : Nat → Bool
  | 0 => true
  | k + 1 => allB p k && p k
theorem allB_iff {p : Nat → Bool} : ∀ {k}, allB p k = true ↔ ∀ j, j < k → p j = true
  | 0 => ⟨fun _ j hj => absurd hj (Nat.not_lt_zero _), fun _ => rfl⟩
  | k + 1 => by
    unfold allB
    rw [Bool.and_eq_true, allB_iff]
    refine ⟨fun h j hj => ?_, fun h => ⟨fun j hj => h j (by omega), h k (by omega)⟩⟩
    by_cases e : j = k
    · subst e; exact h.2
    · exact h.1 j (by omega)
theorem allB_succ {p : Nat → Bool} {i : Nat} (h : allB p i = true) (e : p i = true) : allB p (i + 1) = true := by
  show (allB p i && p i) = true
  rw [h, e]
  rfl
theorem allB_bad {p : Nat → Bool} {i n : Nat} (hi : i < n) (e : ¬ p i = true) : allB p n = false := Bool.eq_false_iff.2 fun q => e (allB_iff.1 q i hi)
/-- From 0 on, below n, n - 1, .. 1. -/
def faB (f : Nat → Int) (n i : Nat) : Bool := decide (0 ≤ f i ∧ f i < (n : Int) - (i : Int))
def faQ (f : Nat → Int) (n : Nat) : Bool := allB (faB f n) n
theorem faQ_iff {f : Nat → Int} {n : Nat} : faQ f n = true ↔ ∀ i, i < n → 0 ≤ f i ∧ f i < (n : Int) - (i : Int) := by
  unfold faQ
  rw [allB_iff]
  exact ⟨fun h i hi => of_decide_eq_true (h i hi), fun h i hi => decide_eq_true (h i hi)⟩
/-- Each number of the list is a place, and stands there as often as is said. -/
def inB (f : Nat → Int) (J i : Nat) : Bool := decide (0 ≤ f i ∧ f i < (J : Int))
def cnB (f : Nat → Int) (n : Nat) (tm : Nat → Int) (j : Nat) : Bool := decide (tm j = (cntC (gN f) j n : Int))
def stQ (f : Nat → Int) (n : Nat) (tm : Nat → Int) (J : Nat) : Bool := allB (inB f J) n && allB (cnB f n tm) J
theorem stQ_iff {f tm : Nat → Int} {n J : Nat} : stQ f n tm J = true ↔ (∀ i, i < n → 0 ≤ f i ∧ f i < (J : Int)) ∧ ∀ j, j < J → tm j = (cntC (gN f) j n : Int) := by
  unfold stQ
  rw [Bool.and_eq_true, allB_iff, allB_iff]
  exact ⟨fun h => ⟨fun i hi => of_decide_eq_true (h.1 i hi), fun j hj => of_decide_eq_true (h.2 j hj)⟩, fun h => ⟨fun i hi => decide_eq_true (h.1 i hi), fun j hj => decide_eq_true (h.2 j hj)⟩⟩
/-- Sizes. -/
def szQ (sf : Nat → Int) (J : Nat) : Bool := decide (1 ≤ J ∧ J ≤ 64) && okS sf J
theorem szQ_iff {sf : Nat → Int} {J : Nat} : szQ sf J = true ↔ (1 ≤ J ∧ J ≤ 64) ∧ okS sf J = true := by
  unfold szQ
  rw [Bool.and_eq_true, decide_eq_true_eq]
theorem okS_sum {sf : Nat → Int} : ∀ {k}, okS sf k = true → sumN (gN sf) k ≤ 256
  | 0, _ => Nat.zero_le _
  | k + 1, h => by
    have h1 := (okS_iff.1 h) k (by omega)
    show sumN (gN sf) k + (sf k).toNat ≤ 256
    omega
theorem okS_nn {sf : Nat → Int} {j m : Nat} (h : okS sf m = true) (hj : j < m) : sf j = (gN sf j : Int) := by
  have h1 := okS_iff.1 h j hj
  show sf j = (((sf j).toNat : Nat) : Int)
  omega
/-- Pattern: whether it is answered, the error. -/
def paQ (sf : Nat → Int) (J : Nat) (df : Nat → Int) (m : Nat) : Bool := szQ sf J && decide (m = sumN (gN sf) J) && faQ df m
def paE (sf : Nat → Int) (J : Nat) (df : Nat → Int) (m : Nat) : Nat := if paQ sf J df m = true then 0 else 2
theorem paQ_iff {sf df : Nat → Int} {J m : Nat} : paQ sf J df m = true ↔ szQ sf J = true ∧ m = sumN (gN sf) J ∧ faQ df m = true := by
  unfold paQ
  rw [Bool.and_eq_true, Bool.and_eq_true, decide_eq_true_eq, and_assoc]
theorem paE_ok {sf df : Nat → Int} {J m : Nat} (h : paQ sf J df m = true) : paE sf J df m = 0 := if_pos h
theorem paE_no {sf df : Nat → Int} {J m : Nat} (h : ¬ paQ sf J df m = true) : paE sf J df m = 2 := if_neg h
/-- All of the list, counted by its numbers. -/
theorem cnt_all {C : Nat → Nat} {J : Nat} : ∀ {n}, (∀ k, k < n → C k < J) → sumN (fun j => cntC C j n) J = n
  | 0, _ => by
    have h : ∀ J, sumN (fun j => cntC C j 0) J = 0 := fun J => by
      induction J with
      | zero => rfl
      | succ J ih => show sumN (fun j => cntC C j 0) J + 0 = 0; omega
    exact h J
  | n + 1, h => by
    have ih := cnt_all (C := C) (J := J) (n := n) fun k hk => h k (by omega)
    have hc := h n (by omega)
    have e : ∀ J, sumN (fun j => cntC C j (n + 1)) J = sumN (fun j => cntC C j n) J + if C n < J then 1 else 0 := fun J => by
      induction J with
      | zero => rfl
      | succ J ih =>
        show sumN (fun j => cntC C j (n + 1)) J + (cntC C J n + if C n = J then 1 else 0) = sumN (fun j => cntC C j n) J + cntC C J n + if C n < J + 1 then 1 else 0
        rw [ih]
        by_cases q : C n = J
        · rw [if_pos q, if_neg (by omega), if_pos (by omega)]; omega
        · rw [if_neg q]
          by_cases q2 : C n < J
          · rw [if_pos q2, if_pos (by omega)]; omega
          · rw [if_neg q2, if_neg (by omega)]; omega
    rw [e J, ih, if_pos hc]
theorem stQ_pat {cf sf : Nat → Int} {n J : Nat} (h : stQ cf n sf J = true) : IsPat (gN sf) J n (gN cf) := by
  obtain ⟨h1, h2⟩ := stQ_iff.1 h
  refine ⟨fun k hk => ?_, fun j hj => ?_⟩
  · have := h1 k hk
    show (cf k).toNat < J
    omega
  · have := h2 j hj
    show _ = (sf j).toNat
    omega
section
variable {sf cf vf : Nat → Int} {J n m : Nat}
end
/-- The offsets by visits while places are filled. -/
def ofv (s C o : Nat → Nat) : Nat → Nat → Nat
  | 0, _ => 0
  | i + 1, x => if x = poC s C i then o i else ofv s C o i x
theorem ofv_end {s C o : Nat → Nat} {J n : Nat} (hn : sumN s J = n) (h : IsPat s J n C) {x : Nat} (hx : x < n) : ofv s C o n x = ovF s J C o n x := by
  obtain ⟨k, hk, rfl⟩ := poC_onto hn h hx
  rw [ovF_at h o hk]
  have h1 : ∀ i, k < i → i ≤ n → ofv s C o i (poC s C k) = o k := fun i => by
    induction i with
    | zero => intro q; omega
    | succ i ih =>
      intro q1 q2
      show (if poC s C k = poC s C i then o i else ofv s C o i (poC s C k)) = o k
      by_cases e : k = i
      · subst e; exact if_pos rfl
      · rw [if_neg fun z => e (poC_inj h hk (by omega) z)]
        exact ih (by omega) (by omega)
  exact h1 n hk (Nat.le_refl _)
/-- What Pattern answers: chunks; offsets by visits. What Draws answers. -/
def pcF (sf : Nat → Int) (J : Nat) (df : Nat → Int) (k : Nat) : Int := (chD (gN sf) J (gN df) k : Int)
def poF (sf : Nat → Int) (J : Nat) (df : Nat → Int) (m x : Nat) : Int := (ovF (gN sf) J (chD (gN sf) J (gN df)) (ofD (gN sf) J (gN df)) m x : Int)
theorem pa_draws {sf df : Nat → Int} {J m : Nat} (h : paQ sf J df m = true) : sumN (gN sf) J = m ∧ ∀ i, i < m → gN df i < m - i := by
  obtain ⟨_, h2, h3⟩ := paQ_iff.1 h
  refine ⟨h2.symm, fun i hi => ?_⟩
  have := faQ_iff.1 h3 i hi
  show (df i).toNat < m - i
  omega
end Go.Proofs.Ytdecmmcphcomhaa.Brd
