import Derived.Test.YtmjpneaccjlpkaaV9s
namespace Go.Proofs.Ytmjpneaccjlpkaa.Tap
open Go.RowKit Gf8 Aes By8 Cel Cf
/- The program's Split, with its errors. -/
set_option maxRecDepth 20000 in
theorem split_any (f : Nat → Nat) (len : Nat) (ch : Int) (v : Value) (V : World) (hv : SliceN V v len f) (hl : len ≤ 140737488351232) :
  Calls Try.prog 20 #[v, .int .i64 ch] V fun e w' => ∃ nv bv cv x, e = .returned (.tuple #[.agg (ptC nv bv cv), .int .i64 (spE len ch : Nat)]) ∧ PtS w' V.heap.size (spC len ch) nv bv cv x (spA len ch) (spB len ch) (spQ len ch) f ∧ Below V.heap.size V w' := by
 have no : spE len ch ≠ 0 → spC len ch = 0 ∧ spA len ch = 0 ∧ spB len ch = 0 ∧ spQ len ch = 0 := fun h => by
  unfold spC spA spB spQ
  simp [h]
 obtain ⟨ao, cap, rfl, _⟩ := id hv.shape
 by_cases h1 : ch < 1
 ·have E : spE len ch = 2 := if_pos (Or.inl h1)
  obtain ⟨e1, e2, e3, e4⟩ := no (by rw [E]; decide)
  rw [E, e1, e2, e3, e4]
  clear no E e1 e2 e3 e4 hv hl
  go_enter Try.func20, Try.ntmps20
  go_wp2
  refine bodyPost_ret (results_ct9 (cs := ptC (.slice none 0 0) (.slice none 0 0) (.slice none 0 0)) rfl _ _ V.heap.size 55 (0, 0) _ rfl (heapNew V _) Try.underlying55 rfl (size_pt _ _ _)) rfl (by first | exact ⟨_, _, _, fun _ => undef, rfl, pts_none _ _ _ _, belNew V _⟩ | exact ⟨_, _, _, rfl, ⟨fun _ => undef, pts_none _ _ _ _⟩, belNew V _⟩)
 ·by_cases h2 : 64 < ch
  ·have E : spE len ch = 2 := if_pos (Or.inr h2)
   obtain ⟨e1, e2, e3, e4⟩ := no (by rw [E]; decide)
   rw [E, e1, e2, e3, e4]
   have i2 : ch > 64 := h2
   clear no E e1 e2 e3 e4 hv hl h2
   go_enter Try.func20, Try.ntmps20
   go_wp2
   refine bodyPost_ret (results_ct9 (cs := ptC (.slice none 0 0) (.slice none 0 0) (.slice none 0 0)) rfl _ _ V.heap.size 55 (0, 0) _ rfl (heapNew V _) Try.underlying55 rfl (size_pt _ _ _)) rfl (by first | exact ⟨_, _, _, fun _ => undef, rfl, pts_none _ _ _ _, belNew V _⟩ | exact ⟨_, _, _, rfl, ⟨fun _ => undef, pts_none _ _ _ _⟩, belNew V _⟩)
  ·by_cases h3 : len < 18
   ·have E : spE len ch = 3 := by unfold spE; rw [if_neg (by omega), if_pos h3]
    obtain ⟨e1, e2, e3, e4⟩ := no (by rw [E]; decide)
    rw [E, e1, e2, e3, e4]
    have i2 : ¬ ch > 64 := h2
    have i3 : (len : Int) < 18 := by omega
    clear no E e1 e2 e3 e4 hv hl h2 h3
    go_enter Try.func20, Try.ntmps20
    go_wp2
    refine bodyPost_ret (results_ct9 (cs := ptC (.slice none 0 0) (.slice none 0 0) (.slice none 0 0)) rfl _ _ V.heap.size 55 (0, 0) _ rfl (heapNew V _) Try.underlying55 rfl (size_pt _ _ _)) rfl (by first | exact ⟨_, _, _, fun _ => undef, rfl, pts_none _ _ _ _, belNew V _⟩ | exact ⟨_, _, _, rfl, ⟨fun _ => undef, pts_none _ _ _ _⟩, belNew V _⟩)
   ·have E : spE len ch = 0 := by unfold spE; rw [if_neg (by omega), if_neg h3]
    obtain ⟨n, rfl⟩ : ∃ n : Nat, ch = n := ⟨ch.toNat, by omega⟩
    unfold spC spA spB spQ
    simp only [E, if_true, Int.toNat_natCast]
    exact split_ok f len n _ V hv hl (by omega) (by omega) (by omega) _ _ rfl rfl
end Go.Proofs.Ytmjpneaccjlpkaa.Tap

namespace Go.Proofs.Ytmjpneaccjlpkaa.Tap
open Go.RowKit Gf8 Aes By8 Cel Cf
/- What is known of parts: the law's lists and alike of them. -/
theorem ownL_cell {W : World} {B m lg lc : Nat} {x : Nat → Value} (h : W.ownsRow B 23 1 (.slice (some ⟨lg, 0, none⟩) m lc) m (lL x m)) {t : Nat} (ht : t < m) : W.cell? ⟨lg, 0 + t, none⟩ = some (x t) := by
 rcases h.2 with ⟨e, _⟩ | ⟨g, cap, cur, e, _, hg, h1, h2, h3, h4⟩
 ·cases e
 ·injection e with e1 _ _
  injection e1 with e1
  injection e1 with e1 _ _
  subst e1
  rw [cell_of_row _ _ _ _ _ _ hg, Nat.zero_add, ← Array.getElem?_toList]
  have := lL_get x m t ht
  rw [← h4, List.getElem?_take, if_pos (by omega)] at this
  exact this
theorem one_of {v : Value} (h : ∃ g l k, v = .slice g l k) : v.oneCell' = true := by
 obtain ⟨_, _, _, rfl⟩ := h
 rfl
section
variable {W : World} {B n : Nat} {nv bv cv : Value} {x : Nat → Value} {ln lb lq : Nat} {f : Nat → Nat}
theorem PtS.nil (h : PtS W B n nv bv cv x ln lb lq f) : ∃ aa ka, cv = .slice aa n ka ∧ (aa = none → n = 0 ∧ ka = 0) ∧ (0 < n → ∃ ca oa, aa = some ⟨ca, oa, none⟩ ∧ ca < W.heap.size ∧ ∀ i, i < n → W.cell? ⟨ca, oa + i, none⟩ = some (x i)) := by
 rcases h.own.2 with ⟨rfl, rfl⟩ | ⟨g, cap, cur, rfl, hB, hg, _⟩
 ·exact ⟨_, _, rfl, (fun _ => ⟨rfl, rfl⟩), fun h => by omega⟩
 ·exact ⟨_, _, rfl, (fun h => by cases h), fun h0 => ⟨g, 0, rfl, (Array.getElem?_eq_some_iff.1 hg).1, fun i hi => ownL_cell h.own hi⟩⟩
end
end Go.Proofs.Ytmjpneaccjlpkaa.Tap

namespace Go.Proofs.Ytmjpneaccjlpkaa.Tap
open Go.RowKit Gf8 Aes By8 Cel Cf
/- TapeParts. Written by tools/mkV9v.py. -/
section
variable {o : Oper} {a : Act} {w : World}
theorem execLdPt {x : Operand} {g : Nat} {n b c : Value} {t : TypeId} {fr : Nat × Nat} (ho : o.op = .load 55 x) (hx : a.eval x = .pointer (some ⟨g, 0, none⟩)) (hg : w.heap[g]? = some (.cells (ptC n b c) t fr)) :
  (execOp a.eval o).run Try.prog w = .ok (.value (.agg (ptC n b c))) w := by
 have h := execLoadMid (P := Try.prog) (w := w) (cs := (ptC n b c).toList) ho hx (fun j v hj => by rw [cell_of_row _ _ _ _ _ _ hg, Nat.zero_add, ← Array.getElem?_toList]; exact hj) Try.underlying55 rfl (size_pt _ _ _)
 exact h
theorem execLenLs {x : Operand} {v : Value} {len : Nat} (ho : o.op = .call { callee := .builtin .len, args := #[x], argTypes := #[53] }) (hx : a.eval x = v) (hv : ∃ ao c, v = .slice ao len c) : (execOp a.eval o).run Try.prog w = .ok (.value (.int .i64 (len : Int))) w := by
 obtain ⟨ao, c, rfl⟩ := hv
 exact execLenL ho hx
end
end Go.Proofs.Ytmjpneaccjlpkaa.Tap
