import Derived.Test.YtcibogmghagpoaaV9b
namespace Go.Proofs.Ytcibogmghagpoaa.Tap
open Go.RowKit Gf8 Aes By8 Cel Cf
/- The law's apart: the lists are marked. Written by tools/mkV9c.py. -/

structure AA (U : Value) (a : Act) : Prop where
  sz : a.tmps.size = 137
  df : a.defers = []
  t0 : a.eval (.tmp 0) = U
theorem AA.keep {U : Value} {a a' : Act} {ds : List Nat} (h : AA U a) (hs : a'.tmps.size = 137) (hd : a'.defers = a.defers) (hf : ∀ e, e ∉ ds → a'.eval (.tmp e) = a.eval (.tmp e)) (hk : ([0] : List Nat).all (fun k => !ds.contains k) = true) : AA U a' := by
  have hk2 : ∀ k, k ∈ ([0] : List Nat) → k ∉ ds := fun k hk1 => by
    have := List.all_eq_true.1 hk k hk1
    simpa using this
  exact ⟨hs, hd.trans h.df, (hf 0 (hk2 0 (by simp))).trans h.t0⟩
theorem mkA_set {f : Nat → Nat → Nat} {i k : Nat} (t l : Nat) : (if t = i then (fun l => if l = k then i % 256 else mkA f i k i l) else mkA f i k t) l = mkA f i (k + 1) t l := by
  by_cases e : t = i
  · subst e
    rw [if_pos rfl]
    show (if l = k then t % 256 else mkA f t k t l) = mkA f t (k + 1) t l
    unfold mkA
    by_cases h1 : l = k
    · rw [if_pos h1, if_pos (by omega)]
    · rw [if_neg h1]
      by_cases h2 : l < k
      · rw [if_pos (by omega), if_pos (by omega)]
      · rw [if_neg (by omega), if_neg (by omega)]
  · rw [if_neg e]
    unfold mkA
    by_cases h : t < i
    · rw [if_pos (by omega), if_pos (by omega)]
    · rw [if_neg (by omega), if_neg (by omega)]
theorem mkA_next {f : Nat → Nat → Nat} {nn : Nat → Nat} {i : Nat} (t l : Nat) (hl : l < nn t) : mkA f i (nn i) t l = mkA f (i + 1) 0 t l := by
  unfold mkA
  by_cases e : t = i
  · subst e; rw [if_pos (by omega), if_pos (by omega)]
  · by_cases h : t < i
    · rw [if_pos (by omega), if_pos (by omega)]
    · rw [if_neg (by omega), if_neg (by omega)]
end Go.Proofs.Ytcibogmghagpoaa.Tap
