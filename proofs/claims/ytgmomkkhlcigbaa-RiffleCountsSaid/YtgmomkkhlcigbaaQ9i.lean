import Derived.Test.YtgmomkkhlcigbaaQ9b
import Derived.Test.YtgmomkkhlcigbaaF9b
import Derived.Test.YtgmomkkhlcigbaaF9a
namespace Go.Proofs.Ytgmomkkhlcigbaa.Brd
open Go.RowKit Gf8 Aes By8 Cel Cf Tap Drw Prm
/- What lies while the law's apart goes on. -/
def GxI (m : Nat) (x : Nat → Value) (b : Nat) : Prop := ∃ t, t < m ∧ (x t).ownBlock = some b
structure A0 (U V W : World) (m : Nat) (x : Nat → Value) (nn : Nat → Nat) (fx : Nat → Nat → Int) (gl : Nat) (C : Array Value) : Prop where
 bel : Below U.heap.size U W
 fam : FmI U.heap.size m x nn fx W
 li : W.heap[gl]? = some (.cells C 25)
 sv : Saved (GxI m x) V W
structure AS (U V W : World) (m : Nat) (x y : Nat → Value) (nn dd : Nat → Nat) (fx fy : Nat → Nat → Int) (gl : Nat) (C : Array Value) : Prop where
 bel : Below U.heap.size U W
 gp : Gp U.heap.size m x y nn dd fx fy W
 li : W.heap[gl]? = some (.cells C 25)
 sv : Saved (GxI m x) V W
 yb : ∀ t, t < m → ∀ b, (y t).ownBlock = some b → (x t).ownBlock = some b ∨ V.heap.size ≤ b
section
variable {U V W W' : World} {m gl : Nat} {x y : Nat → Value} {nn dd : Nat → Nat} {fx fy : Nat → Nat → Int} {C : Array Value}
theorem A0.on (h : A0 U V W m x nn fx gl C) (b : Below W.heap.size W W') : A0 U V W' m x nn fx gl C := ⟨h.bel.trans (b.mono h.bel.size), h.fam.on b, on9 h.li b, h.sv.below b h.sv.size⟩
theorem A0.cell (h : A0 U V W m x nn fx gl C) {t : Nat} {v : Value} (hC : C[t]? = some v) : W.cell? ⟨gl, 0 + t, none⟩ = some v := by
 rw [cell_of_row _ _ _ _ _ _ h.li, Nat.zero_add]
 exact hC
theorem A0.set {t g c j : Nat} (h : A0 U V W m x nn fx gl C) (ht : t < m) (e : x t = .slice (some ⟨g, 0, none⟩) (nn t) c) (z : Int) : A0 U V (W.setCell ⟨g, 0 + j, none⟩ (.int .i64 z)) m x nn (updF fx t j z) gl C := by
 have h1 := h.fam.rows t ht
 rw [e] at h1
 obtain ⟨cur, hg, hB⟩ := own_cur h1
 refine ⟨h.bel.setCell hB _, h.fam.set ht e z, ?_, h.sv.cell _ (Or.inr ⟨t, ht, by rw [e]; rfl⟩)⟩
 rw [Below.heap_setCell _ _ _ _ (fun q => by
  have q2 : gl = g := q
  have h3 := h.li
  rw [q2, hg] at h3
  injection h3 with h3
  injection h3 with _ h3 _
  exact absurd h3 (by decide))]
 exact h.li
theorem AS.on (h : AS U V W m x y nn dd fx fy gl C) (b : Below W.heap.size W W') : AS U V W' m x y nn dd fx fy gl C := ⟨h.bel.trans (b.mono h.bel.size), h.gp.on b, on9 h.li b, h.sv.below b h.sv.size, h.yb⟩
theorem AS.cell (h : AS U V W m x y nn dd fx fy gl C) {t : Nat} {v : Value} (hC : C[t]? = some v) : W.cell? ⟨gl, 0 + t, none⟩ = some v := by
 rw [cell_of_row _ _ _ _ _ _ h.li, Nat.zero_add]
 exact hC
theorem A0.begin (h : A0 U V W m x nn fx gl C) : AS U V W m x x nn (fun _ => 0) fx fx gl C := ⟨h.bel, Gp.begin h.fam, h.li, h.sv, fun _ _ _ e => Or.inl e⟩
theorem AS.setT {g k : Nat} {c : Array Value} {z : Value} (h : AS U V W m x y nn dd fx fy gl C) (hg : W.heap[g]? = some (.cells c 3)) (hne : ∀ t, t < m → ¬ ((x t).ownBlock = some g ∨ (y t).ownBlock = some g)) (hU : U.heap.size ≤ g) (hV : V.heap.size ≤ g) : AS U V (W.setCell ⟨g, k, none⟩ z) m x y nn dd fx fy gl C := by
 refine ⟨h.bel.setCell hU _, ⟨fun t ht => own_offB (h.gp.rx t ht) (fun q => hne t ht (Or.inl q)), fun t ht => own_offB (h.gp.ry t ht) (fun q => hne t ht (Or.inr q)), h.gp.lo, h.gp.pl, h.gp.dis⟩, ?_, h.sv.cell _ (Or.inl hV), h.yb⟩
 rw [Below.heap_setCell _ _ _ _ (fun q => by
  have q2 : gl = g := q
  have h3 := h.li
  rw [q2, hg] at h3
  injection h3 with h3
  injection h3 with _ h3 _
  exact absurd h3 (by decide))]
 exact h.li
theorem AS.more {t k : Nat} {v' : Value} {q : Nat → Int} (h : AS U V W m x y nn dd fx fy gl C) (ht : t < m) (own : W'.ownsRow U.heap.size 3 1 v' (nn t + dd t + k) (intsL (nn t + dd t + k) (catI (nn t + dd t) (fy t) q)))
  (hpl : (∃ b c, y t = .slice (some ⟨b, 0, none⟩) (nn t + dd t) c ∧ v' = .slice (some ⟨b, 0, none⟩) (nn t + dd t + k) c ∧ W.grownBy W' (some b)) ∨ (Below W.heap.size W W' ∧ ∀ k, v'.ownBlock = some k → W.heap.size ≤ k)) :
  AS U V W' m x (updX y t v') nn (updD dd t k) fx (updG fy t (catI (nn t + dd t) (fy t) q)) gl C := by
 have hg := h.gp.more ht own hpl
 rcases hpl with ⟨b, c, e1, e2, gr⟩ | ⟨hb, hk⟩
 ·have hyb : (y t).ownBlock = some b := by rw [e1]; rfl
  have hvb : v'.ownBlock = some b := by rw [e2]; rfl
  have gr2 : W.grownBy W' (y t).ownBlock := by rw [hyb]; exact gr
  refine ⟨h.bel.grown gr h.bel.size (fun z e => by rw [← Option.some.inj e]; exact ((h.gp.ry t ht).lt b hyb).1), hg, heap_overL (h.gp.ry t ht) gr2 h.li (by decide), h.sv.grown gr (fun z e => ?_), fun s hs z e => ?_⟩
  ·rw [← Option.some.inj e]
   exact (h.yb t ht b hyb).elim (fun w => Or.inr ⟨t, ht, w⟩) Or.inl
  ·by_cases es : s = t
   ·subst es
    rw [show updX y s v' s = v' from if_pos rfl, hvb] at e
    rw [← Option.some.inj e]
    exact h.yb s hs b hyb
   ·rw [show updX y t v' s = y s from if_neg es] at e
    exact h.yb s hs z e
 ·have ho := h.on hb
  refine ⟨ho.bel, hg, ho.li, ho.sv, fun s hs z e => ?_⟩
  by_cases es : s = t
  ·subst es
   rw [show updX y s v' s = v' from if_pos rfl] at e
   exact Or.inr (Nat.le_trans h.sv.size (hk z e))
  ·rw [show updX y t v' s = y s from if_neg es] at e
   exact h.yb s hs z e
end
end Go.Proofs.Ytgmomkkhlcigbaa.Brd

namespace Go.Proofs.Ytgmomkkhlcigbaa.Brd
open Go.RowKit Gf8 Aes By8 Cel Cf Tap Drw Prm
/- The law's apart. Written by tools/mkQ9d.py. -/
theorem shp3 {W : World} {B n s : Nat} {t : TypeId} {v : Value} {xs : List Value} (h : W.ownsRow B t s v n xs) : ∃ g n c, v = .slice g n c := by
 rcases h.2 with ⟨rfl, rfl⟩ | ⟨g, cap, cur, rfl, _⟩
 ·exact ⟨_, _, _, rfl⟩
 ·exact ⟨_, _, _, rfl⟩
theorem execStLI {o : Oper} {a : Act} {w : World} {x v : Operand} {b k : Nat} {u old : Value} (ho : o.op = .store 25 x v) (hx : a.eval x = .pointer (some ⟨b, k, none⟩)) (hv : a.eval v = u) (hu : ∃ g n c, u = .slice g n c) (hc : w.cell? ⟨b, k, none⟩ = some old) (hf : w.frozen? ⟨b, k, none⟩ = false) : (execOp a.eval o).run Try.prog w = .ok .skip (w.setCell ⟨b, k, none⟩ u) := by
 obtain ⟨g, n, c, rfl⟩ := hu
 unfold execOp
 simp only [ho, hx, hv]
 simp [go_sem, hc, hf]
theorem ownL_setI {W : World} {B n g cap k : Nat} {y : Nat → Value} {z : Value} (h : W.ownsRow B 25 1 (.slice (some ⟨g, 0, none⟩) n cap) n (lL y n)) : (W.setCell ⟨g, 0 + k, none⟩ z).ownsRow B 25 1 (.slice (some ⟨g, 0, none⟩) n cap) n (lL (updX y k z) n) := by
 rw [Nat.zero_add]
 refine ⟨by rw [lL_len, Nat.mul_one], ?_⟩
 rcases h.2 with ⟨e, _⟩ | ⟨g', cap', cur, e, hB, hg, h1, h2, h3, h4⟩
 ·cases e
 ·injection e with e1 e2 e3
  injection e1 with e1
  injection e1 with e1 _ _
  subst e1
  subst e3
  refine Or.inr ⟨g, cap, cur.setIfInBounds k z, rfl, hB, heap4 _ hg, h1, h2, by simpa using h3, ?_⟩
  apply List.ext_getElem?
  intro j
  have h5 : (cur.toList.take (n * 1))[j]? = (lL y n)[j]? := by rw [h4]
  by_cases hj : j < n
  ·rw [List.getElem?_take_of_lt (by omega), lL_get _ _ _ hj] at h5
   rw [List.getElem?_take_of_lt (by omega), lL_get _ _ _ hj, Array.getElem?_toList, Array.getElem?_setIfInBounds]
   by_cases hk : k = j
   ·subst hk
    rw [if_pos rfl, if_pos (by simp at h3; omega), updX_at]
   ·rw [if_neg hk, show updX y k z j = y j from if_neg (fun q => hk q.symm), ← Array.getElem?_toList]
    exact h5
  ·rw [List.getElem?_eq_none (by simp; omega), List.getElem?_eq_none (by rw [lL_len]; omega)]
end Go.Proofs.Ytgmomkkhlcigbaa.Brd

namespace Go.Proofs.Ytgmomkkhlcigbaa.Brd
open Go.RowKit Gf8 Aes By8 Cel Cf Tap Drw Prm
/- The law's apart, whole. Written by tools/mkQ9e.py. -/
theorem execMkLI {o : Oper} {a : Act} {w : World} {x y : Operand} {n : Nat} (ho : o.op = .makeSlice 44 x y) (hx : a.eval x = .int .i64 (n : Int)) (hy : a.eval y = .int .i64 (n : Int)) (hn : n ≤ 1000000) : (execOp a.eval o).run Try.prog w = .ok (.value (.slice (some ⟨w.heap.size, 0, none⟩) n n)) (w.alloc (.cells (madeCells #[.slice none 0 0] n) 25)) := by
 obtain ⟨i, h1, h2, h3, h4⟩ := infoLI
 have h := run_make (P := Try.prog) w 44 25 i (.slice none 0 0) Try.underlying44 h1 h2 .i64 .i64 (n : Int) (n : Int) (by omega) (by omega) (by rw [h4]; omega) (by omega)
 rw [h3, Int.toNat_natCast, Nat.mul_one] at h
 unfold execOp
 simp only [ho, hx, hy, Sem.run_bind, h, Result.andThen_ok, Sem.run_pure]
 rfl
theorem own_mkLI (W : World) (n : Nat) (hn : n ≤ 1000000) : (W.alloc (.cells (madeCells #[.slice none 0 0] n) 25)).ownsRow W.heap.size 25 1 (.slice (some ⟨W.heap.size, 0, none⟩) n n) n (lL (fun _ => .slice none 0 0) n) := by
 refine ⟨by rw [lL_len, Nat.mul_one], Or.inr ⟨_, _, _, rfl, Nat.le_refl _, heapNew W _, Nat.le_refl _, by unfold maxLen; omega, by simp [madeCells], ?_⟩⟩
 apply List.ext_getElem?
 intro j
 by_cases h : j < n
 ·rw [lL_get _ _ _ h]
  simp [madeCells, h, Nat.mod_one]
 ·rw [List.getElem?_eq_none (by simp; omega), List.getElem?_eq_none (by rw [lL_len]; omega)]
theorem oneI (X : World) {z : Int} (hz : -9223372036854775808 ≤ z ∧ z < 9223372036854775808) : SliceI (X.alloc (.cells #[.int .i64 z] 3)) (.slice (some ⟨X.heap.size, 0, none⟩) 1 1) 1 (fun _ => z) :=
 lit_ints (heapNew X _) (fun j hj => by
  match j, hj with
  | 0, _ => rfl
  | k + 1, h => omega) (fun _ _ => hz) (by omega)
end Go.Proofs.Ytgmomkkhlcigbaa.Brd

namespace Go.Proofs.Ytgmomkkhlcigbaa.Brd
open Go.RowKit Gf8 Aes By8 Cel Cf Tap Drw Prm
/- Stage 12: the law's same, lent, whole. Written by tools/mkQ9f.py. -/
theorem execNeIf {o : Oper} {a : Act} {w : World} {x y : Operand} {p q : Int} (ho : o.op = .binOp .neq 3 x y 3) (hx : a.eval x = .int .i64 p) (hy : a.eval y = .int .i64 q) (h : p = q) : (execOp a.eval o).run Try.prog w = .ok (.value (.bool false)) w := by
 subst h
 exact execNeI ho hx hy
theorem execNeIt {o : Oper} {a : Act} {w : World} {x y : Operand} {p q : Int} (ho : o.op = .binOp .neq 3 x y 3) (hx : a.eval x = .int .i64 p) (hy : a.eval y = .int .i64 q) (h : ¬ p = q) : (execOp a.eval o).run Try.prog w = .ok (.value (.bool true)) w := by
 unfold execOp
 simp only [ho, hx, hy]
 simp [go_sem, h]
end Go.Proofs.Ytgmomkkhlcigbaa.Brd

namespace Go.Proofs.Ytgmomkkhlcigbaa.Brd
open Go.RowKit Gf8 Aes By8 Cel Cf Tap Drw Prm
/- Stage 12's reference: Sizes, total. Written by tools/mkQ9g.py. -/
def szE (k c : Int) : Nat := if 0 ≤ k ∧ k ≤ 256 ∧ 1 ≤ c ∧ c ≤ 64 then 0 else 2
def szF (N D j : Nat) : Nat := N / D + if j < N % D then 1 else 0
def okS (s : Nat → Int) : Nat → Bool
 | 0 => true
 | k + 1 => okS s k && decide (0 ≤ s k ∧ s k ≤ 256 - (sumN (gN s) k : Int))
theorem okS_iff {s : Nat → Int} : ∀ {k}, okS s k = true ↔ ∀ j, j < k → 0 ≤ s j ∧ s j ≤ 256 - (sumN (gN s) j : Int)
 | 0 => ⟨fun _ j hj => absurd hj (Nat.not_lt_zero _), fun _ => rfl⟩
 | k + 1 => by
  unfold okS
  rw [Bool.and_eq_true, decide_eq_true_eq, okS_iff]
  refine ⟨fun h j hj => ?_, fun h => ⟨fun j hj => h j (by omega), h k (by omega)⟩⟩
  by_cases e : j = k
  ·subst e; exact h.2
  ·exact h.1 j (by omega)
theorem okS_succ {s : Nat → Int} {i : Nat} (h : okS s i = true) (e : 0 ≤ s i ∧ s i ≤ 256 - (sumN (gN s) i : Int)) : okS s (i + 1) = true := by
 show (okS s i && decide (0 ≤ s i ∧ s i ≤ 256 - (sumN (gN s) i : Int))) = true
 rw [h, decide_eq_true e]
 rfl
theorem okS_bad {s : Nat → Int} {i n : Nat} (hi : i < n) (e : ¬ (0 ≤ s i ∧ s i ≤ 256 - (sumN (gN s) i : Int))) : ¬ okS s n = true := fun q => e (okS_iff.1 q i hi)
end Go.Proofs.Ytgmomkkhlcigbaa.Brd

namespace Go.Proofs.Ytgmomkkhlcigbaa.Brd
open Go.RowKit Gf8 Aes By8 Cel Cf Tap Drw Prm
/- Stage 12's reference: Bounds. Written by tools/mkQ9h.py. -/
def bdN (k : Int) : Nat := if k ≤ 256 then k.toNat else 0
end Go.Proofs.Ytgmomkkhlcigbaa.Brd

namespace Go.Proofs.Ytgmomkkhlcigbaa.Brd
open Go.RowKit Gf8 Aes By8 Cel Cf Tap Drw Prm
/- Several rows of ints of one's own, each appended to in its turn. -/
section
variable {B k : Nat} {x : Nat → Value} {nn : Nat → Nat} {ff : Nat → Nat → Int} {W W' : World}
theorem FmI.push {t l : Nat} {v' : Value} {q : Nat → Int} (h : FmI B k x nn ff W) (ht : t < k) (own : W'.ownsRow B 3 1 v' (nn t + l) (intsL (nn t + l) (catI (nn t) (ff t) q)))
  (hpl : (∃ b c, x t = .slice (some ⟨b, 0, none⟩) (nn t) c ∧ v' = .slice (some ⟨b, 0, none⟩) (nn t + l) c ∧ W.grownBy W' (some b)) ∨ (Below W.heap.size W W' ∧ ∀ k, v'.ownBlock = some k → W.heap.size ≤ k)) :
  FmI B k (updX x t v') (updD nn t l) (updG ff t (catI (nn t) (ff t) q)) W' := by
 have xo : ∀ s, s ≠ t → updX x t v' s = x s := fun s hs => if_neg hs
 have xt : updX x t v' t = v' := if_pos rfl
 have no : ∀ s, s ≠ t → updD nn t l s = nn s := fun s hs => if_neg hs
 have nt : updD nn t l t = nn t + l := if_pos rfl
 have fo : ∀ s, s ≠ t → updG ff t (catI (nn t) (ff t) q) s = ff s := fun s hs => if_neg hs
 have ft : updG ff t (catI (nn t) (ff t) q) t = catI (nn t) (ff t) q := if_pos rfl
 rcases hpl with ⟨b, c, e1, e2, gr⟩ | ⟨hb, hk⟩
 ·have hxb : (x t).ownBlock = some b := by rw [e1]; rfl
  have hvb : v'.ownBlock = some b := by rw [e2]; rfl
  refine ⟨fun s hs => ?_, fun s u hs hu hsu z e w => ?_⟩
  ·by_cases e : s = t
   ·subst e
    rw [xt, nt, ft]
    exact own
   ·rw [xo s e, no s e, fo s e]
    exact ownW_grown (h.rows s hs) gr (fun z e2 w => h.dis s t hs ht e z e2 (hxb.trans w))
  ·have e' : (x s).ownBlock = some z := by
    by_cases es : s = t
    ·subst es
     rw [xt] at e
     exact hxb.trans (hvb.symm.trans e)
    ·rw [xo s es] at e
     exact e
   have w' : (x u).ownBlock = some z := by
    by_cases eu : u = t
    ·subst eu
     rw [xt] at w
     exact hxb.trans (hvb.symm.trans w)
    ·rw [xo u eu] at w
     exact w
   exact h.dis s u hs hu hsu z e' w'
 ·have ho := h.on hb
  refine ⟨fun s hs => ?_, fun s u hs hu hsu z e w => ?_⟩
  ·by_cases e : s = t
   ·subst e
    rw [xt, nt, ft]
    exact own
   ·rw [xo s e, no s e, fo s e]
    exact ho.rows s hs
  ·by_cases es : s = t
   ·subst es
    rw [xt] at e
    rw [xo u (fun q => hsu q.symm)] at w
    have a1 := hk z e
    have a2 := ((h.rows u hu).lt z w).2
    omega
   ·rw [xo s es] at e
    by_cases eu : u = t
    ·subst eu
     rw [xt] at w
     have a1 := hk z w
     have a2 := ((h.rows s hs).lt z e).2
     omega
    ·rw [xo u eu] at w
     exact h.dis s u hs hu hsu z e w
theorem FmI.cgF {gg : Nat → Nat → Int} (h : FmI B k x nn ff W) (e : ∀ t, t < k → ∀ j, j < nn t → ff t j = gg t j) : FmI B k x nn gg W := ⟨fun t ht => by rw [← intsL_congr (e t ht)]; exact h.rows t ht, h.dis⟩
theorem FmI.cgN {mm : Nat → Nat} (h : FmI B k x nn ff W) (e : ∀ t, t < k → nn t = mm t) : FmI B k x mm ff W := ⟨fun t ht => by rw [← e t ht]; exact h.rows t ht, h.dis⟩
end
theorem FmI.nils (B k : Nat) (ff : Nat → Nat → Int) (W : World) : FmI B k (fun _ => .slice none 0 0) (fun _ => 0) ff W := ⟨fun _ _ => World.ownsRow_nil _ _ _ _, fun _ _ _ _ _ b e => by cases e⟩
end Go.Proofs.Ytgmomkkhlcigbaa.Brd
