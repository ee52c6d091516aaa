import Derived.Test.YtcibogmghagpoaaV9b
namespace Go.Proofs.Ytcibogmghagpoaa.Tap
open Go.RowKit Gf8 Aes By8 Cel Cf
/- The law's apart: the lists are marked. Written by tools/mkV9c.py. -/

structure AA (U : Value) (a : Act) : Prop where
  sz : a.tmps.size = 137
  df : a.defers = []
  t0 : a.eval (.tmp 0) = U
theorem AA.keep {U : Value} {a a' : Act} {ds : List Nat} (h : AA U a) (hs : a'.tmps.size = 137) (hd : a'.defers = a.defers) (hf : ∀ e, e ∉ ds → a'.eval (.tmp e) = a.eval (.tmp e)) (hk : ([0] : List Nat).all (fun k => !ds.contains k) = true) : AA U a' := by
  have hk2 : ∀ k, k ∈ ([0] : List Nat) → k ∉ ds := fun k hk1 => by
    have := List.all_eq_true.1 hk k hk1
    simpa using this
  exact ⟨hs, hd.trans h.df, (hf 0 (hk2 0 (by simp))).trans h.t0⟩
end Go.Proofs.Ytcibogmghagpoaa.Tap
