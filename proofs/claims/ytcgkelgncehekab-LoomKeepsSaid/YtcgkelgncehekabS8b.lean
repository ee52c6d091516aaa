import Derived.Test.YtcgkelgncehekabS8a
import Derived.Test.YtcgkelgncehekabE8k
namespace Go.Proofs.Ytcgkelgncehekab.Loo
open Go.RowKit Gf8 Aes By8 Cel Cf Win Drw Prm
/- LoomKeeps: the lists of two histories, all apart. -/

/-- A family read through other numbers, none twice. -/
theorem fm_pull {B k m : Nat} {x : Nat → Value} {nn : Nat → Nat} {ff : Nat → Nat → Int} {W : World} (h : FmI B k x nn ff W) (σ : Nat → Nat) (h1 : ∀ t, t < m → σ t < k) (h2 : ∀ s t, s < m → t < m → s ≠ t → σ s ≠ σ t) : FmI B m (fun t => x (σ t)) (fun t => nn (σ t)) (fun t => ff (σ t)) W :=
  ⟨fun t ht => h.rows _ (h1 t ht), fun s t hs ht hst b => h.dis _ _ (h1 s hs) (h1 t ht) (h2 s t hs ht hst) b⟩
def jn {α : Type} (k : Nat) (x y : Nat → α) (t : Nat) : α := if t < k then x t else y (t - k)
theorem jn_lo {α : Type} {k t : Nat} {x y : Nat → α} (h : t < k) : jn k x y t = x t := if_pos h
theorem jn_hi {α : Type} {k t : Nat} {x y : Nat → α} (h : ¬ t < k) : jn k x y t = y (t - k) := if_neg h
/-- Two families, the second made behind the first. -/
theorem fm_join {A B k m : Nat} {x y : Nat → Value} {nn mm : Nat → Nat} {ff gg : Nat → Nat → Int} {W : World} (h : FmI A k x nn ff W) (g : FmI B m y mm gg W) (hA : A ≤ B) (hl : ∀ t, t < k → ∀ b, (x t).ownBlock = some b → b < B) : FmI A (k + m) (jn k x y) (jn k nn mm) (jn k ff gg) W := by
  have hg : ∀ t, t < m → ∀ b, (y t).ownBlock = some b → B ≤ b := fun t ht b hb => ((g.rows t ht).lt b hb).1
  refine ⟨fun t ht => ?_, fun s t hs ht hst b hb => ?_⟩
  · by_cases q : t < k
    · rw [jn_lo q, jn_lo q, jn_lo q]; exact h.rows t q
    · rw [jn_hi q, jn_hi q, jn_hi q]; exact ownD_base (g.rows _ (by omega)) hA
  · by_cases q : s < k
    · rw [jn_lo q] at hb
      by_cases r : t < k
      · rw [jn_lo r]; exact h.dis s t q r hst b hb
      · rw [jn_hi r]
        intro z
        have h1 := hl s q b hb
        have h2 := hg _ (show t - k < m by omega) b z
        omega
    · rw [jn_hi q] at hb
      by_cases r : t < k
      · rw [jn_lo r]
        intro z
        have h1 := hl t r b z
        have h2 := hg _ (show s - k < m by omega) b hb
        omega
      · rw [jn_hi r]; exact g.dis _ _ (by omega) (by omega) (by omega) b hb
/-- Where the lists of two histories (of n tasks each) lie among their rows: the picks of both, what the first took, what the second took. -/
def sg (n t : Nat) : Nat := if t = 0 then 0 else if t = 1 then n + 1 else if t < 2 + n then t - 1 else t
theorem sg_lt {n t : Nat} (h : t < 2 + n + n) : sg n t < n + 1 + (n + 1) := by
  unfold sg
  repeat' split
  all_goals omega
theorem sg_ne {n s t : Nat} (hst : s ≠ t) : sg n s ≠ sg n t := by
  unfold sg
  repeat' split
  all_goals omega
/-- The lists of two histories, the second made in a world where the first lay. -/
theorem two_his {A B N M n : Nat} {W : World} {pa ta pb tb : Value} {va vb : Nat → Value} {pf qf : Nat → Int} {tl ul : Nat → List Int} (ha : His A W pa ta va N n pf tl) (hb : His B W pb tb vb M n qf ul) (hA : A ≤ B) (hl : ∀ t, t < n + 1 → ∀ b, (cns pa va t).ownBlock = some b → b < B) :
    FmI A (2 + n + n) (fun t => jn (n + 1) (cns pa va) (cns pb vb) (sg n t)) (fun t => jn (n + 1) (hN N tl) (hN M ul) (sg n t)) (fun t => jn (n + 1) (hF pf tl) (hF qf ul) (sg n t)) W :=
  fm_pull (fm_join ha.fm hb.fm hA hl) (sg n) (fun _ ht => sg_lt ht) (fun _ _ _ _ hst => sg_ne hst)
/-- What they are. -/
theorem lists_at {n t : Nat} {pa pb : Value} {va vb : Nat → Value} : jn (n + 1) (cns pa va) (cns pb vb) (sg n t) = if t = 0 then pa else if t = 1 then pb else if t < 2 + n then va (t - 2) else vb (t - 2 - n) := by
  unfold sg
  by_cases h0 : t = 0
  · rw [if_pos h0, if_pos h0, jn_lo (by omega)]; rfl
  rw [if_neg h0, if_neg h0]
  by_cases h1 : t = 1
  · rw [if_pos h1, if_pos h1, jn_hi (by omega), Nat.sub_self]; rfl
  rw [if_neg h1, if_neg h1]
  by_cases h2 : t < 2 + n
  · rw [if_pos h2, if_pos h2, jn_lo (by omega), show t - 1 = (t - 2) + 1 by omega]; rfl
  · rw [if_neg h2, if_neg h2, jn_hi (by omega), show t - (n + 1) = (t - 2 - n) + 1 by omega]; rfl
end Go.Proofs.Ytcgkelgncehekab.Loo
