import Derived.Test.YtldhhfkplongiaaP9c
namespace Go.Proofs.Ytldhhfkplongiaa.Prm
open Go.RowKit Gf8 Aes By8 Cel Cf Tap Drw
/- Stage 11's reference: Inverse, Compose, Apply, Fit, From. Written by tools/mkP9d.py. -/

/-- A length beside an error: none. -/
def zl (E L : Nat) : Nat := if E = 0 then L else 0
theorem zl_ok {L : Nat} : zl 0 L = L := rfl
theorem zl_no {E L : Nat} (h : E ≠ 0) : zl E L = 0 := if_neg h
theorem pE_ok {f : Nat → Int} {n : Nat} (h : okQ f n n = true) : pE f n = 0 := if_pos h
theorem pE_no {f : Nat → Int} {n : Nat} (h : ¬ okQ f n n = true) : pE f n = 110 := if_neg h
def coE (f : Nat → Int) (n : Nat) (g : Nat → Int) (m : Nat) : Nat := if pE f n = 0 ∧ pE g m = 0 ∧ n = m then 0 else 110
def apE (f : Nat → Int) (n m : Nat) : Nat := if pE f n = 0 ∧ n = m then 0 else 110
/-- Are the first k draws for N things in their range? -/
def fitQ (d : Nat → Int) (N : Nat) : Nat → Bool
  | 0 => true
  | k + 1 => fitQ d N k && decide (0 ≤ d k ∧ d k < (N : Int) - k)
theorem fitQ_iff {d : Nat → Int} {N : Nat} : ∀ {k}, fitQ d N k = true ↔ ∀ i, i < k → 0 ≤ d i ∧ d i < (N : Int) - i
  | 0 => ⟨(fun _ i h => absurd h (Nat.not_lt_zero _)), (fun _ => rfl)⟩
  | k + 1 => by
    simp only [fitQ, Bool.and_eq_true, decide_eq_true_eq, fitQ_iff (k := k)]
    constructor
    · rintro ⟨h1, h2⟩ i hi
      by_cases q : i = k
      · subst q; exact h2
      · exact h1 i (by omega)
    · exact fun h => ⟨fun i hi => h i (by omega), h k (by omega)⟩
theorem fitQ_succ {d : Nat → Int} {N i : Nat} (h : fitQ d N i = true) (h1 : 0 ≤ d i ∧ d i < (N : Int) - i) : fitQ d N (i + 1) = true := by
  simp only [fitQ, h, Bool.true_and, decide_eq_true_eq]
  exact h1
theorem fitQ_bad {d : Nat → Int} {N m i : Nat} (hi : i < m) (h : ¬ (0 ≤ d i ∧ d i < (N : Int) - i)) : fitQ d N m = false := Bool.eq_false_iff.2 fun q => h (fitQ_iff.1 q i hi)
def frE (n : Int) (d : Nat → Int) (m : Nat) : Nat := if n < 0 then 2 else if m = n.toNat - 1 ∧ fitQ d n.toNat m = true then 0 else 110
theorem frE_ok {N : Nat} {d : Nat → Int} {m : Nat} (h1 : m = N - 1) (h2 : fitQ d N m = true) : frE (N : Int) d m = 0 := by
  unfold frE
  rw [if_neg (by omega), Int.toNat_natCast, if_pos ⟨h1, h2⟩]
theorem frE_no {N : Nat} {d : Nat → Int} {m : Nat} (h : ¬ (m = N - 1 ∧ fitQ d N m = true)) : frE (N : Int) d m = 110 := by
  unfold frE
  rw [if_neg (by omega), Int.toNat_natCast, if_neg h]
theorem shpO {W : World} {B n : Nat} {t : TypeId} {v : Value} {xs : List Value} (h : W.ownsRow B t 1 v n xs) : ∃ g c, v = .slice g n c := by
  rcases h.2 with ⟨rfl, rfl⟩ | ⟨g, cap, cur, rfl, _⟩
  · exact ⟨_, _, rfl⟩
  · exact ⟨_, _, rfl⟩
theorem inv_set {W : World} {B n g cap i w : Nat} {f : Nat → Int} (h : W.ownsRow B 3 1 (.slice (some ⟨g, 0, none⟩) n cap) n (intsL n (fun j => (posN (gN f) j i : Int)))) (e : f i = (w : Int)) : (W.setCell ⟨g, 0 + w, none⟩ (.int .i64 ((i : Nat) : Int))).ownsRow B 3 1 (.slice (some ⟨g, 0, none⟩) n cap) n (intsL n (fun j => (posN (gN f) j (i + 1) : Int))) := by
  have h2 := own_setF (k := w) ((i : Nat) : Int) h
  rw [intsL_congr (g := fun j => (posN (gN f) j (i + 1) : Int)) (fun j _ => ?_)] at h2
  · exact h2
  · have eg : gN f i = w := by show (f i).toNat = w; omega
    show _ = ((if gN f i = j then i else posN (gN f) j i : Nat) : Int)
    by_cases q : j = w
    · subst q
      rw [if_pos rfl, if_pos eg]
    · rw [if_neg q, if_neg (fun x => q (by omega))]
theorem fr_set {W : World} {B N g cap i w I : Nat} {d : Nat → Int} (h : W.ownsRow B 3 1 (.slice (some ⟨g, 0, none⟩) N cap) N (intsL N (fun j => if j = I then ((frA N (gN d) i w : Nat) : Int) else (fun j => (frA N (gN d) i j : Int)) j))) (eI : N - 1 - i = I) (hg : gN d i = w) : (W.setCell ⟨g, 0 + w, none⟩ (.int .i64 ((frA N (gN d) i I : Nat) : Int))).ownsRow B 3 1 (.slice (some ⟨g, 0, none⟩) N cap) N (intsL N (fun j => (frA N (gN d) (i + 1) j : Int))) := by
  have h2 := own_setF (k := w) ((frA N (gN d) i I : Nat) : Int) h
  rw [intsL_congr (g := fun j => (frA N (gN d) (i + 1) j : Int)) (fun j _ => ?_)] at h2
  · exact h2
  · show _ = ((swp (frA N (gN d) i) (N - 1 - i) (gN d i) j : Nat) : Int)
    rw [eI, hg]
    by_cases q : j = w
    · subst q
      rw [if_pos rfl, swp_j]
    · rw [if_neg q]
      by_cases q2 : j = I
      · subst q2
        rw [if_pos rfl, swp_i]
      · rw [if_neg q2, swp_o q2 q]
end Go.Proofs.Ytldhhfkplongiaa.Prm
