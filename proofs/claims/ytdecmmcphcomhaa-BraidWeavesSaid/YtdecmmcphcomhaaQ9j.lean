import Derived.Test.YtdecmmcphcomhaaQ9i
namespace Go.Proofs.Ytdecmmcphcomhaa.Brd
open Go.RowKit Gf8 Aes By8 Cel Cf Tap Drw Prm
/- Stage 12: what is refused, and what is answered, over Nat and Int (names nothing of a program). -/

def allB (p : Nat → Bool) : Nat → Bool
  | 0 => true
  | k + 1 => allB p k && p k
theorem allB_iff {p : Nat → Bool} : ∀ {k}, allB p k = true ↔ ∀ j, j < k → p j = true
  | 0 => ⟨fun _ j hj => absurd hj (Nat.not_lt_zero _), fun _ => rfl⟩
  | k + 1 => by
    unfold allB
    rw [Bool.and_eq_true, allB_iff]
    refine ⟨fun h j hj => ?_, fun h => ⟨fun j hj => h j (by omega), h k (by omega)⟩⟩
    by_cases e : j = k
    · subst e; exact h.2
    · exact h.1 j (by omega)
theorem allB_succ {p : Nat → Bool} {i : Nat} (h : allB p i = true) (e : p i = true) : allB p (i + 1) = true := by
  show (allB p i && p i) = true
  rw [h, e]
  rfl
/-- Each number of the list is a place, and stands there as often as is said. -/
def inB (f : Nat → Int) (J i : Nat) : Bool := decide (0 ≤ f i ∧ f i < (J : Int))
def cnB (f : Nat → Int) (n : Nat) (tm : Nat → Int) (j : Nat) : Bool := decide (tm j = (cntC (gN f) j n : Int))
def stQ (f : Nat → Int) (n : Nat) (tm : Nat → Int) (J : Nat) : Bool := allB (inB f J) n && allB (cnB f n tm) J
theorem stQ_iff {f tm : Nat → Int} {n J : Nat} : stQ f n tm J = true ↔ (∀ i, i < n → 0 ≤ f i ∧ f i < (J : Int)) ∧ ∀ j, j < J → tm j = (cntC (gN f) j n : Int) := by
  unfold stQ
  rw [Bool.and_eq_true, allB_iff, allB_iff]
  exact ⟨fun h => ⟨fun i hi => of_decide_eq_true (h.1 i hi), fun j hj => of_decide_eq_true (h.2 j hj)⟩, fun h => ⟨fun i hi => decide_eq_true (h.1 i hi), fun j hj => decide_eq_true (h.2 j hj)⟩⟩
/-- All of the list, counted by its numbers. -/
theorem cnt_all {C : Nat → Nat} {J : Nat} : ∀ {n}, (∀ k, k < n → C k < J) → sumN (fun j => cntC C j n) J = n
  | 0, _ => by
    have h : ∀ J, sumN (fun j => cntC C j 0) J = 0 := fun J => by
      induction J with
      | zero => rfl
      | succ J ih => show sumN (fun j => cntC C j 0) J + 0 = 0; omega
    exact h J
  | n + 1, h => by
    have ih := cnt_all (C := C) (J := J) (n := n) fun k hk => h k (by omega)
    have hc := h n (by omega)
    have e : ∀ J, sumN (fun j => cntC C j (n + 1)) J = sumN (fun j => cntC C j n) J + if C n < J then 1 else 0 := fun J => by
      induction J with
      | zero => rfl
      | succ J ih =>
        show sumN (fun j => cntC C j (n + 1)) J + (cntC C J n + if C n = J then 1 else 0) = sumN (fun j => cntC C j n) J + cntC C J n + if C n < J + 1 then 1 else 0
        rw [ih]
        by_cases q : C n = J
        · rw [if_pos q, if_neg (by omega), if_pos (by omega)]; omega
        · rw [if_neg q]
          by_cases q2 : C n < J
          · rw [if_pos q2, if_pos (by omega)]; omega
          · rw [if_neg q2, if_neg (by omega)]; omega
    rw [e J, ih, if_pos hc]
theorem stQ_pat {cf sf : Nat → Int} {n J : Nat} (h : stQ cf n sf J = true) : IsPat (gN sf) J n (gN cf) := by
  obtain ⟨h1, h2⟩ := stQ_iff.1 h
  refine ⟨fun k hk => ?_, fun j hj => ?_⟩
  · have := h1 k hk
    show (cf k).toNat < J
    omega
  · have := h2 j hj
    show _ = (sf j).toNat
    omega
theorem stQ_len {cf sf : Nat → Int} {n J : Nat} (h : stQ cf n sf J = true) : n = sumN (gN sf) J := by
  have hp := stQ_pat h
  rw [← cnt_all hp.lt]
  exact sumN_cg hp.cnt
section
variable {sf cf vf : Nat → Int} {J n m : Nat}
end
end Go.Proofs.Ytdecmmcphcomhaa.Brd
