import Derived.Test.YtmfaapbhehhlpaaF9c
import Derived.Test.YtmfaapbhehhlpaaF9b
import Derived.Test.YtmfaapbhehhlpaaF9a
import Derived.Test.YtmfaapbhehhlpaaP9e
import Derived.Lib.SliceRun
namespace Go.Proofs.Ytmfaapbhehhlpaa.Prm
open Go.RowKit Gf8 Aes By8 Cel Cf Tap Drw
/- Stage 11's reference: Draws. Written by tools/mkP9g.py. -/

theorem own_offB {W : World} {B n s g k : Nat} {t : TypeId} {v z : Value} {xs : List Value} (h : W.ownsRow B t s v n xs) (hv : v.ownBlock ≠ some g) : (W.setCell ⟨g, k, none⟩ z).ownsRow B t s v n xs := by
  refine ⟨h.1, ?_⟩
  rcases h.2 with h | ⟨g1, cap, cur, e, hB, h1, hr⟩
  · exact Or.inl h
  · refine Or.inr ⟨g1, cap, cur, e, hB, ?_, hr⟩
    subst e
    rw [Below.heap_setCell _ _ _ _ (fun q => hv (by show some g1 = some g; have q2 : g1 = g := q; rw [q2]))]
    exact h1
/-- Three rows of one's own, apart. -/
structure Thr (V W : World) (va vt : Value) (n : Nat) (fa ft : Nat → Int) (u : Value) (nu : Nat) (fu : Nat → Int) : Prop where
  ra : W.ownsRow V.heap.size 3 1 va n (intsL n fa)
  rt : W.ownsRow V.heap.size 3 1 vt n (intsL n ft)
  ru : W.ownsRow V.heap.size 3 1 u nu (intsL nu fu)
  nat : ∀ k, va.ownBlock = some k → vt.ownBlock ≠ some k
  nau : ∀ k, u.ownBlock = some k → va.ownBlock ≠ some k ∧ vt.ownBlock ≠ some k
section
variable {V W W' : World} {va vt u : Value} {n nu g c : Nat} {fa ft fu : Nat → Int}
theorem Thr.on (h : Thr V W va vt n fa ft u nu fu) (b : Below W.heap.size W W') : Thr V W' va vt n fa ft u nu fu := ⟨ownD_below h.ra b, ownD_below h.rt b, ownD_below h.ru b, h.nat, h.nau⟩
theorem Thr.atA {j : Nat} (h : Thr V W va vt n fa ft u nu fu) (e : va = .slice (some ⟨g, 0, none⟩) n c) (hj : j < n) : W.cell? ⟨g, 0 + j, none⟩ = some (.int .i64 (fa j)) ∧ W.frozen? ⟨g, 0 + j, none⟩ = false := by
  have h1 := h.ra
  rw [e] at h1
  exact own_cellI h1 hj
theorem Thr.setT {j : Nat} (h : Thr V W va vt n fa ft u nu fu) (e : vt = .slice (some ⟨g, 0, none⟩) n c) (z : Int) : Thr V (W.setCell ⟨g, 0 + j, none⟩ (.int .i64 z)) va vt n fa (fun i => if i = j then z else ft i) u nu fu := by
  have hb : vt.ownBlock = some g := by rw [e]; rfl
  refine ⟨own_offB h.ra (fun q => h.nat g q hb), ?_, own_offB h.ru (fun q => (h.nau g q).2 hb), h.nat, h.nau⟩
  have h1 := h.rt
  rw [e] at h1 ⊢
  exact own_setF z h1
end
end Go.Proofs.Ytmfaapbhehhlpaa.Prm

namespace Go.Proofs.Ytmfaapbhehhlpaa.Prm
open Go.RowKit Gf8 Aes By8 Cel Cf Tap Drw
/- What the program's package keeps (Impl); the laws' same, awake; PermChecks, PermMakes, PermPairs over any Impl. Written by tools/mkP9h.py. -/

def aw4 : Nat → Int := fun j => if j = 0 then 1 else if j = 1 then 2 else if j = 2 then 3 else 0
end Go.Proofs.Ytmfaapbhehhlpaa.Prm

namespace Go.Proofs.Ytmfaapbhehhlpaa.Prm
open Go.RowKit Gf8 Aes By8 Cel Cf Tap Drw
/- Package perm as it landed: swap, From, Draws. Written by tools/mkM9c.py. -/

/-- Where the program says that a number stands, by then. -/
def atA (n : Nat) (g : Nat → Nat) : Nat → Nat → Nat
  | 0, x => x
  | k + 1, x => if x = drA n g k (n - 1 - k) then drD n g k else atA n g k x
section
variable {V W W' : World} {va vt u : Value} {n nu g c : Nat} {fa ft fu : Nat → Int}
end
end Go.Proofs.Ytmfaapbhehhlpaa.Prm

namespace Go.Proofs.Ytmfaapbhehhlpaa.Prm
open Go.RowKit Gf8 Aes By8 Cel Cf Tap Drw
/- Package perm as it landed: slices.Delete of ints, Unrank. Written by tools/mkM9d.py. -/

section
variable {o : Oper} {a : Act} {w : World}
end
theorem own_takeI {W : World} {B n i g c : Nat} {f : Nat → Int} (h : W.ownsRow B 3 1 (.slice (some ⟨g, 0, none⟩) n c) n (intsL n f)) (hi : i ≤ n) : W.ownsRow B 3 1 (.slice (some ⟨g, 0, none⟩) i c) i (intsL i f) := by
  refine ⟨by rw [intsL_len, Nat.mul_one], ?_⟩
  rcases h.2 with ⟨e, _⟩ | ⟨g', cap', cur, e, hB, hg, h1, h2, h3, h4⟩
  · cases e
  · injection e with e1 e2 e3
    injection e1 with e1
    injection e1 with e1 _ _
    subst e1
    subst e3
    refine Or.inr ⟨g, c, cur, rfl, hB, hg, by omega, h2, h3, ?_⟩
    apply List.ext_getElem?
    intro j
    by_cases hj : j < i
    · have h5 : (cur.toList.take (n * 1))[j]? = (intsL n f)[j]? := by rw [h4]
      rw [List.getElem?_take_of_lt (by omega), intsL_get (by omega)] at h5
      rw [List.getElem?_take_of_lt (by omega), intsL_get hj]
      exact h5
    · rw [List.getElem?_eq_none (by simp; omega), List.getElem?_eq_none (by rw [intsL_len]; omega)]
section
variable {V W W' : World} {lv lw : Value} {nu nl nl' g gu cu : Nat} {fu fu' fl fl' : Nat → Int} {k : Nat} {z : Value}
theorem Two.put (h : Two V W (.slice (some ⟨gu, 0, none⟩) nu cu) nu fu lv nl fl) (own : (W.setCell ⟨gu, k, none⟩ z).ownsRow V.heap.size 3 1 (.slice (some ⟨gu, 0, none⟩) nu cu) nu (intsL nu fu')) : Two V (W.setCell ⟨gu, k, none⟩ z) (.slice (some ⟨gu, 0, none⟩) nu cu) nu fu' lv nl fl :=
  ⟨own, own_offB h.rl (h.ap gu rfl), h.ap⟩
end
end Go.Proofs.Ytmfaapbhehhlpaa.Prm
