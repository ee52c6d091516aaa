import Derived.Test.YtcibogmghagpoaaG9d
import Derived.Test.YtcibogmghagpoaaV9n
namespace Go.Proofs.Ytcibogmghagpoaa.Drw
open Go.RowKit Gf8 Aes By8 Cel Cf Tap
/- Lists of ints: rows of one's own, what stays, append, make; pieces of code. General: it lies at any seat with []int and []uint8. -/

theorem ownD_below {W W' : World} {B n : Nat} {v : Value} {xs : List Value} {t : TypeId} {s : Nat} (h : W.ownsRow B t s v n xs) (hb : Below W.heap.size W W') : W'.ownsRow B t s v n xs := by
  refine ⟨h.1, ?_⟩
  rcases h.2 with h | ⟨g, cap, cur, e, hB, hg, hr⟩
  · exact Or.inl h
  · exact Or.inr ⟨g, cap, cur, e, hB, on9 hg hb, hr⟩
theorem ownD_base {W : World} {B C t s n : Nat} {v : Value} {xs : List Value} (h : W.ownsRow C t s v n xs) (hB : B ≤ C) : W.ownsRow B t s v n xs := by
  refine ⟨h.1, ?_⟩
  rcases h.2 with h | ⟨g, cap, cur, e, hC, h1⟩
  · exact Or.inl h
  · exact Or.inr ⟨g, cap, cur, e, Nat.le_trans hB hC, h1⟩
theorem results_tmp2 {fn : Func} {t u : Tmp} (h : fn.results = #[.tmp t, .tmp u]) (tmps : Array Value) (P : Program) (w : World) : (results fn tmps).run P w = .ok (.tuple #[tmps.getD t undef, tmps.getD u undef]) w := by
  simp [results, h]
theorem own_nilI {W : World} {B n : Nat} {t : TypeId} {v : Value} {xs : List Value} (h : W.ownsRow B t 1 v n xs) : ∀ l c, v = .slice none l c → c = 0 := by
  intro l c e
  rcases h.2 with ⟨rfl, _⟩ | ⟨g, cap, cur, rfl, _⟩
  · injection e with _ _ e3; exact e3.symm
  · injection e with e1; cases e1
end Go.Proofs.Ytcibogmghagpoaa.Drw
