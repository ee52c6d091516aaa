import Derived.Test.YtmjpneaccjlpkaaG9d
import Derived.Test.YtmjpneaccjlpkaaP9h
import Derived.Test.YtmjpneaccjlpkaaZ9a
namespace Go.Proofs.Ytmjpneaccjlpkaa.Drw
open Go.RowKit Gf8 Aes By8 Cel Cf Tap
/- The reference's All. Written by tools/mkG9f.py. -/
theorem okA_succ {p : Nat → Nat} {l : Nat} {bs : Nat → Int} {n : Nat} (h : okA p l bs n) (e : dE p l (plA p l bs n) (bs n) = 0) : okA p l bs (n + 1) := fun i hi => by
 by_cases q : i = n
 ·subst q; exact e
 ·exact h i (by omega)
end Go.Proofs.Ytmjpneaccjlpkaa.Drw

namespace Go.Proofs.Ytmjpneaccjlpkaa.Drw
open Go.RowKit Gf8 Aes By8 Cel Cf Tap
/- The reference's Turn. Written by tools/mkG9h.py. -/
def trN (p : Nat → Nat) (l : Nat) (bs : Nat → Int) (n : Nat) (ws : Nat → Int) (m : Nat) : Nat := if trE p l bs n ws m = 0 then l else 0
theorem anyW_yes {bs ws : Nat → Int} : ∀ {n i}, i < n → (ws i < 0 ∨ bs i ≤ ws i) → anyW bs ws n = true
 | 0, i, h, _ => by omega
 | n + 1, i, h, hb => by
  simp only [anyW, Bool.or_eq_true, decide_eq_true_eq]
  by_cases q : i = n
  ·subst q; exact Or.inr hb
  ·exact Or.inl (anyW_yes (by omega) hb)
section
variable {o : Oper} {a : Act} {w : World}
theorem execU8S {x : Operand} {n : Nat} (ho : o.op = .convert 3 5 x) (hx : a.eval x = .int .i64 (n : Int)) (h : n < 256) : (execOp a.eval o).run Try.prog w = .ok (.value (.int .u8 (n : Int))) w := by
 have e := execU8 (w := w) (n := n) ho hx
 rw [Nat.mod_eq_of_lt h] at e
 exact e
theorem execStB9d {x y : Operand} {b k : Nat} {z : Int} {old : Value} (ho : o.op = .store 5 x y) (hx : a.eval x = .pointer (some ⟨b, k, none⟩)) (hy : a.eval y = .int .u8 z) (hc : w.cell? ⟨b, k, none⟩ = some old) (hf : w.frozen? ⟨b, k, none⟩ = false) : (execOp a.eval o).run Try.prog w = .ok .skip (w.setCell ⟨b, k, none⟩ (.int .u8 z)) := by
 unfold execOp
 simp only [ho, hx, hy]
 simp [go_sem, hc, hf]
end
theorem own_cell9 {W : World} {B n g cap j : Nat} {p : Nat → Nat} (h : W.ownsRow B 5 1 (.slice (some ⟨g, 0, none⟩) n cap) n (bytesL n p)) (hj : j < n) : W.cell? ⟨g, 0 + j, none⟩ = some (.int .u8 (p j : Nat)) ∧ W.frozen? ⟨g, 0 + j, none⟩ = false := by
 rw [Nat.zero_add]
 refine ⟨own_at8 h hj, ?_⟩
 rcases h.2 with ⟨e, _⟩ | ⟨g', cap', cur, e, _, hg, _⟩
 ·cases e
 ·injection e with e1 _ _
  injection e1 with e1
  injection e1 with e1 _ _
  subst e1
  exact frozen4 hg
theorem trS {W : World} {B l g cap i S D w0 : Nat} {p : Nat → Nat} {bs ws : Nat → Int} (h : W.ownsRow B 5 1 (.slice (some ⟨g, 0, none⟩) l cap) l (bytesL l (trF p l bs ws i))) (hb : bs i ≠ 1) (hS : plA p l bs (i + 1) = S + 1) (hD : dV p l (plA p l bs i) (bs i) = D) (hw : ws i = (w0 : Int)) : (W.setCell ⟨g, 0 + S, none⟩ (.int .u8 ((p S - D + w0 : Nat) : Int))).ownsRow B 5 1 (.slice (some ⟨g, 0, none⟩) l cap) l (bytesL l (trF p l bs ws (i + 1))) := by
 have h2 := own_set8 (m := S) (p S - D + w0) h
 rw [Nat.zero_add]
 have e : trF p l bs ws (i + 1) = fun j => if j = S then p S - D + w0 else trF p l bs ws i j := by
  funext j
  show (if bs i ≠ 1 ∧ j = plA p l bs (i + 1) - 1 then p j - dA p l bs i + (ws i).toNat else trF p l bs ws i j) = _
  rw [hS, hw, Int.toNat_natCast]
  by_cases q : j = S
  ·subst q
   rw [if_pos ⟨hb, rfl⟩, if_pos rfl]
   show p j - dV p l (plA p l bs i) (bs i) + w0 = _
   rw [hD]
  ·rw [if_neg (fun x => q x.2), if_neg q]
 rw [e]
 exact h2
end Go.Proofs.Ytmjpneaccjlpkaa.Drw

namespace Go.Proofs.Ytmjpneaccjlpkaa.Drw
open Go.RowKit Gf8 Aes By8 Cel Cf Tap
/- What the program's draw answers (Impl); the laws' alive, DrawAlls, DrawTurns over any Impl. Written by tools/mkG9i.py. -/
structure Impl : Prop where
 below : ∀ (p : Nat → Nat) (l at' : Nat) (b : Int) (V : World), at' ≤ l → l ≤ 140737488351232 → (∀ j, j < l → p j < 256) →
  Calls Try.prog 67 #[.agg (tpC p l at'), .int .i64 b] V fun e w' => e = .returned (.tuple #[.int .i64 ((dV p l at' b : Nat) : Int), .agg (tpC p (if dE p l at' b = 0 then l else 0) (dN p l at' b)), .int .i64 ((dE p l at' b : Nat) : Int)]) ∧ Below V.heap.size V w'
 all : ∀ (p : Nat → Nat) (l : Nat) (bs : Nat → Int) (n : Nat) (pv bv : Value) (V : World), SliceN V pv l p → l ≤ 140737488351232 → SliceI V bv n bs → n ≤ 17592186044416 →
  Calls Try.prog 41 #[pv, bv] V fun e w' => ∃ r, e = .returned (.tuple #[r, .int .i64 ((allK p l bs n : Nat) : Int), .int .i64 ((allE p l bs n : Nat) : Int)]) ∧ w'.ownsRow V.heap.size 3 1 r (allN p l bs n) (intsL (allN p l bs n) (fun i => (dA p l bs i : Int))) ∧ Below V.heap.size V w'
 turn : ∀ (p : Nat → Nat) (l : Nat) (bs ws : Nat → Int) (n m : Nat) (pv bv wv : Value) (V : World), SliceN V pv l p → l ≤ 140737488351232 → (∀ l c, pv = .slice none l c → c = 0) → SliceI V bv n bs → n ≤ 17592186044416 → SliceI V wv m ws → m ≤ 17592186044416 →
  Calls Try.prog 62 #[pv, bv, wv] V fun e w' => ∃ r, e = .returned (.tuple #[r, .int .i64 ((trE p l bs n ws m : Nat) : Int)]) ∧ TkA w' V.heap.size r (trN p l bs n ws m) (trF p l bs ws n) ∧ Below V.heap.size V w'
theorem dV_le (p : Nat → Nat) (l at' : Nat) (b : Int) : dV p l at' b ≤ 256 := by
 unfold dV
 by_cases h : dE p l at' b = 0 ∧ b ≠ 1
 ·rw [if_pos h]
  have hb := (dE_ok h.1).1
  unfold bad at hb
  have : p (dS p l at' b) % b.toNat < b.toNat := Nat.mod_lt _ (by omega)
  omega
 ·rw [if_neg h]; omega
theorem dA_fits (p : Nat → Nat) (l : Nat) (bs : Nat → Int) (n : Nat) : ∀ j, j < n → -9223372036854775808 ≤ ((dA p l bs j : Nat) : Int) ∧ ((dA p l bs j : Nat) : Int) < 9223372036854775808 := fun j _ => by
 have := dV_le p l (plA p l bs j) (bs j)
 unfold dA
 omega
def b1 : Nat → Int := fun j => if j = 0 then 3 else if j = 1 then 1 else 256
end Go.Proofs.Ytmjpneaccjlpkaa.Drw

namespace Go.Proofs.Ytmjpneaccjlpkaa.Drw
open Go.RowKit Gf8 Aes By8 Cel Cf Tap
/- DrawEven over any Impl. Written by tools/mkG9k.py. -/
theorem tk_nil {W : World} {B n : Nat} {v : Value} {q : Nat → Nat} (h : TkA W B v n q) : ∀ l c, v = .slice none l c → c = 0 := by
 intro l c e
 rcases h with ⟨rfl, _⟩ | h
 ·injection e with _ _ e
  exact e.symm
 ·exact absurd e (h.some l c)
end Go.Proofs.Ytmjpneaccjlpkaa.Drw
