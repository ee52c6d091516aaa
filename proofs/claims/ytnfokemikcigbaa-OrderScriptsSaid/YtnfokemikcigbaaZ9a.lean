import Derived.Test.YtnfokemikcigbaaG9d
import Derived.Test.YtnfokemikcigbaaV9n
namespace Go.Proofs.Ytnfokemikcigbaa.Drw
open Go.RowKit Gf8 Aes By8 Cel Cf Tap
/- Lists of ints: rows of one's own, what stays, append, make; pieces of code. General: it lies at any seat with []int and []uint8. -/

theorem ownD_below {W W' : World} {B n : Nat} {v : Value} {xs : List Value} {t : TypeId} {s : Nat} (h : W.ownsRow B t s v n xs) (hb : Below W.heap.size W W') : W'.ownsRow B t s v n xs := by
  refine ⟨h.1, ?_⟩
  rcases h.2 with h | ⟨g, cap, cur, e, hB, hg, hr⟩
  · exact Or.inl h
  · exact Or.inr ⟨g, cap, cur, e, hB, on9 hg hb, hr⟩
theorem ownD_base {W : World} {B C t s n : Nat} {v : Value} {xs : List Value} (h : W.ownsRow C t s v n xs) (hB : B ≤ C) : W.ownsRow B t s v n xs := by
  refine ⟨h.1, ?_⟩
  rcases h.2 with h | ⟨g, cap, cur, e, hC, h1⟩
  · exact Or.inl h
  · exact Or.inr ⟨g, cap, cur, e, Nat.le_trans hB hC, h1⟩
theorem results_tmp2 {fn : Func} {t u : Tmp} (h : fn.results = #[.tmp t, .tmp u]) (tmps : Array Value) (P : Program) (w : World) : (results fn tmps).run P w = .ok (.tuple #[tmps.getD t undef, tmps.getD u undef]) w := by
  simp [results, h]
def leadR : Code → Nat → Bool
  | .seq x _, k => leadR x k
  | .region id _ _, k => Nat.beq id k
  | _, _ => false
theorem own_sv {G : Nat → Prop} {S W : World} {B n s : Nat} {t : TypeId} {v : Value} {xs : List Value} (h : S.ownsRow B t s v n xs) (hs : Saved G S W) (hv : ∀ k, v.ownBlock = some k → ¬ G k) : W.ownsRow B t s v n xs := by
  refine ⟨h.1, ?_⟩
  rcases h.2 with h | ⟨g, cap, cur, e, hB, hg, hr⟩
  · exact Or.inl h
  · refine Or.inr ⟨g, cap, cur, e, hB, ?_, hr⟩
    subst e
    rw [hs.block g (Array.getElem?_eq_some_iff.1 hg).1 (hv g rfl)]
    exact hg
theorem own_cap {W : World} {B n g c : Nat} {t : TypeId} {xs : List Value} (h : W.ownsRow B t 1 (.slice (some ⟨g, 0, none⟩) n c) n xs) : n ≤ c := by
  rcases h.2 with ⟨e, _⟩ | ⟨g', cap', cur, e, _, _, h1, _⟩
  · cases e
  · injection e with _ _ e3
    omega
theorem own_overB {W W' : World} {B n s C m s' : Nat} {t u : TypeId} {v v2 : Value} {xs ys : List Value} (h : W.ownsRow B t s v n xs) (hv : ∀ k, v.ownBlock = some k → k < C) (h2 : W.ownsRow C u s' v2 m ys) (gr : W.grownBy W' v2.ownBlock) : W'.ownsRow B t s v n xs :=
  ownW_grown h gr fun k e q => by
    have a1 := hv k e
    have a2 := (h2.lt k q).1
    omega
end Go.Proofs.Ytnfokemikcigbaa.Drw
