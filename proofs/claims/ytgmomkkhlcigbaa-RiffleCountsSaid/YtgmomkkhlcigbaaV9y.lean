import Derived.Test.YtgmomkkhlcigbaaV9s
import Derived.Test.YtgmomkkhlcigbaaF9c
import Derived.Test.YtgmomkkhlcigbaaF9b
namespace Go.Proofs.Ytgmomkkhlcigbaa.Tap
open Go.RowKit Gf8 Aes By8 Cel Cf
/- The program's Split, with its errors. -/
set_option maxRecDepth 20000 in
theorem split_any (f : Nat → Nat) (len : Nat) (ch : Int) (v : Value) (V : World) (hv : SliceN V v len f) (hl : len ≤ 140737488351232) :
  Calls Try.prog 10 #[v, .int .i64 ch] V fun e w' => ∃ nv bv cv x, e = .returned (.tuple #[.agg (ptC nv bv cv), .int .i64 (spE len ch : Nat)]) ∧ PtS w' V.heap.size (spC len ch) nv bv cv x (spA len ch) (spB len ch) (spQ len ch) f ∧ Below V.heap.size V w' := by
 have no : spE len ch ≠ 0 → spC len ch = 0 ∧ spA len ch = 0 ∧ spB len ch = 0 ∧ spQ len ch = 0 := fun h => by
  unfold spC spA spB spQ
  simp [h]
 obtain ⟨ao, cap, rfl, _⟩ := id hv.shape
 by_cases h1 : ch < 1
 ·have E : spE len ch = 2 := if_pos (Or.inl h1)
  obtain ⟨e1, e2, e3, e4⟩ := no (by rw [E]; decide)
  rw [E, e1, e2, e3, e4]
  clear no E e1 e2 e3 e4 hv hl
  go_enter Try.func10, Try.ntmps10
  go_wp2
  refine bodyPost_ret (results_ct9 (cs := ptC (.slice none 0 0) (.slice none 0 0) (.slice none 0 0)) rfl _ _ V.heap.size 39 (0, 0) _ rfl (heapNew V _) Try.underlying39 rfl (size_pt _ _ _)) rfl (by first | exact ⟨_, _, _, fun _ => undef, rfl, pts_none _ _ _ _, belNew V _⟩ | exact ⟨_, _, _, rfl, ⟨fun _ => undef, pts_none _ _ _ _⟩, belNew V _⟩)
 ·by_cases h2 : 64 < ch
  ·have E : spE len ch = 2 := if_pos (Or.inr h2)
   obtain ⟨e1, e2, e3, e4⟩ := no (by rw [E]; decide)
   rw [E, e1, e2, e3, e4]
   have i2 : ch > 64 := h2
   clear no E e1 e2 e3 e4 hv hl h2
   go_enter Try.func10, Try.ntmps10
   go_wp2
   refine bodyPost_ret (results_ct9 (cs := ptC (.slice none 0 0) (.slice none 0 0) (.slice none 0 0)) rfl _ _ V.heap.size 39 (0, 0) _ rfl (heapNew V _) Try.underlying39 rfl (size_pt _ _ _)) rfl (by first | exact ⟨_, _, _, fun _ => undef, rfl, pts_none _ _ _ _, belNew V _⟩ | exact ⟨_, _, _, rfl, ⟨fun _ => undef, pts_none _ _ _ _⟩, belNew V _⟩)
  ·by_cases h3 : len < 18
   ·have E : spE len ch = 3 := by unfold spE; rw [if_neg (by omega), if_pos h3]
    obtain ⟨e1, e2, e3, e4⟩ := no (by rw [E]; decide)
    rw [E, e1, e2, e3, e4]
    have i2 : ¬ ch > 64 := h2
    have i3 : (len : Int) < 18 := by omega
    clear no E e1 e2 e3 e4 hv hl h2 h3
    go_enter Try.func10, Try.ntmps10
    go_wp2
    refine bodyPost_ret (results_ct9 (cs := ptC (.slice none 0 0) (.slice none 0 0) (.slice none 0 0)) rfl _ _ V.heap.size 39 (0, 0) _ rfl (heapNew V _) Try.underlying39 rfl (size_pt _ _ _)) rfl (by first | exact ⟨_, _, _, fun _ => undef, rfl, pts_none _ _ _ _, belNew V _⟩ | exact ⟨_, _, _, rfl, ⟨fun _ => undef, pts_none _ _ _ _⟩, belNew V _⟩)
   ·have E : spE len ch = 0 := by unfold spE; rw [if_neg (by omega), if_neg h3]
    obtain ⟨n, rfl⟩ : ∃ n : Nat, ch = n := ⟨ch.toNat, by omega⟩
    unfold spC spA spB spQ
    simp only [E, if_true, Int.toNat_natCast]
    exact split_ok f len n _ V hv hl (by omega) (by omega) (by omega) _ _ rfl rfl
end Go.Proofs.Ytgmomkkhlcigbaa.Tap

namespace Go.Proofs.Ytgmomkkhlcigbaa.Tap
open Go.RowKit Gf8 Aes By8 Cel Cf
/- What is known of parts: the law's lists and alike of them. -/
theorem ownL_cell {W : World} {B m lg lc : Nat} {x : Nat → Value} (h : W.ownsRow B 24 1 (.slice (some ⟨lg, 0, none⟩) m lc) m (lL x m)) {t : Nat} (ht : t < m) : W.cell? ⟨lg, 0 + t, none⟩ = some (x t) := by
 rcases h.2 with ⟨e, _⟩ | ⟨g, cap, cur, e, _, hg, h1, h2, h3, h4⟩
 ·cases e
 ·injection e with e1 _ _
  injection e1 with e1
  injection e1 with e1 _ _
  subst e1
  rw [cell_of_row _ _ _ _ _ _ hg, Nat.zero_add, ← Array.getElem?_toList]
  have := lL_get x m t ht
  rw [← h4, List.getElem?_take, if_pos (by omega)] at this
  exact this
theorem one_of {v : Value} (h : ∃ g l k, v = .slice g l k) : v.oneCell' = true := by
 obtain ⟨_, _, _, rfl⟩ := h
 rfl
section
variable {W : World} {B n : Nat} {nv bv cv : Value} {x : Nat → Value} {ln lb lq : Nat} {f : Nat → Nat}
theorem PtS.nil (h : PtS W B n nv bv cv x ln lb lq f) : ∃ aa ka, cv = .slice aa n ka ∧ (aa = none → n = 0 ∧ ka = 0) ∧ (0 < n → ∃ ca oa, aa = some ⟨ca, oa, none⟩ ∧ ca < W.heap.size ∧ ∀ i, i < n → W.cell? ⟨ca, oa + i, none⟩ = some (x i)) := by
 rcases h.own.2 with ⟨rfl, rfl⟩ | ⟨g, cap, cur, rfl, hB, hg, _⟩
 ·exact ⟨_, _, rfl, (fun _ => ⟨rfl, rfl⟩), fun h => by omega⟩
 ·exact ⟨_, _, rfl, (fun h => by cases h), fun h0 => ⟨g, 0, rfl, (Array.getElem?_eq_some_iff.1 hg).1, fun i hi => ownL_cell h.own hi⟩⟩
end
end Go.Proofs.Ytgmomkkhlcigbaa.Tap

namespace Go.Proofs.Ytgmomkkhlcigbaa.Tap
open Go.RowKit Gf8 Aes By8 Cel Cf
/- TapeParts. Written by tools/mkV9v.py. -/
section
variable {o : Oper} {a : Act} {w : World}
theorem execLenLs {x : Operand} {v : Value} {len : Nat} (ho : o.op = .call { callee := .builtin .len, args := #[x], argTypes := #[37] }) (hx : a.eval x = v) (hv : ∃ ao c, v = .slice ao len c) : (execOp a.eval o).run Try.prog w = .ok (.value (.int .i64 (len : Int))) w := by
 obtain ⟨ao, c, rfl⟩ := hv
 exact execLenL ho hx
end
end Go.Proofs.Ytgmomkkhlcigbaa.Tap

namespace Go.Proofs.Ytgmomkkhlcigbaa.Tap
open Go.RowKit Gf8 Aes By8 Cel Cf
/- The reference's Split. Written by tools/mkV9x.py. -/
section
variable {o : Oper} {a : Act} {w : World}
end
theorem heap_overL {W W' : World} {B n s : Nat} {v : Value} {xs : List Value} {g : Nat} {c : Array Value} {t u : TypeId} {fr : Nat × Nat} (h : W.ownsRow B u s v n xs) (hg : W.grownBy W' v.ownBlock) (hh : W.heap[g]? = some (.cells c t fr)) (ht : t ≠ u) : W'.heap[g]? = some (.cells c t fr) := by
 rw [hg.block g (Array.getElem?_eq_some_iff.1 hh).1 (fun q => ?_)]
 ·exact hh
 ·rcases h.2 with ⟨rfl, _⟩ | ⟨k, cap, cur, rfl, _, h1, _⟩
  ·cases q
  ·obtain rfl : g = k := by simpa [Value.ownBlock] using q
   rw [h1] at hh
   injection hh with hh
   injection hh with _ hh _
   exact ht hh.symm
theorem sliced_some {a b : Option Addr} {l h m n c : Nat} (ha : a ≠ none) (e : sliced a l h m 1 = .slice b n c) : b ≠ none := by
 unfold sliced at e
 injection e with e _ _
 rw [← e]
 cases a with
 | none => exact absurd rfl ha
 | some x =>
  by_cases q : m = l
  ·rw [if_pos q]; intro h; cases h
  ·rw [if_neg q]; intro h; cases h
end Go.Proofs.Ytgmomkkhlcigbaa.Tap

namespace Go.Proofs.Ytgmomkkhlcigbaa.Tap
open Go.RowKit Gf8 Aes By8 Cel Cf
/- The reference's Split with its errors; rows of bytes that are written over. -/
def ByR (W : World) (g cap N : Nat) : Prop := ∃ cur fz, W.heap[g]? = some (.cells cur 5 fz) ∧ cur.size = cap ∧ N ≤ cap ∧ (∀ j, j < N → ∃ z : Nat, z < 256 ∧ cur[j]? = some (.int .u8 (z : Int))) ∧ (cap ≤ fz.1 ∨ fz.2 = 0)
theorem ByR.on {W W' : World} {g cap N : Nat} (h : ByR W g cap N) (hb : Below W.heap.size W W') : ByR W' g cap N := by
 obtain ⟨cur, fz, h1, h2⟩ := h
 exact ⟨cur, fz, on9 h1 hb, h2⟩
theorem ByR.cell {W : World} {g cap N : Nat} (h : ByR W g cap N) {k : Nat} (hk : k < N) : ∃ z : Nat, z < 256 ∧ W.cell? ⟨g, k, none⟩ = some (.int .u8 (z : Int)) ∧ W.frozen? ⟨g, k, none⟩ = false := by
 obtain ⟨cur, fz, h1, h2, h3, h4, h5⟩ := h
 obtain ⟨z, hz, hc⟩ := h4 k hk
 refine ⟨z, hz, by rw [cell_of_row _ _ _ _ _ _ h1]; exact hc, ?_⟩
 simp [World.frozen?, h1]
 omega
theorem ByR.set {W : World} {g cap N : Nat} (h : ByR W g cap N) (k : Nat) {z : Nat} (hz : z < 256) : ByR (W.setCell ⟨g, k, none⟩ (.int .u8 (z : Int))) g cap N := by
 obtain ⟨cur, fz, h1, h2, h3, h4, h5⟩ := h
 rw [setCell_eq_setRow W g k _ _ _ _ h1]
 refine ⟨_, fz, setRow_heap _ _ _ _ _ _ h1, by rw [Array.size_setIfInBounds]; exact h2, h3, fun j hj => ?_, h5⟩
 rw [Array.getElem?_setIfInBounds]
 by_cases e : k = j
 ·rw [if_pos e, if_pos (by omega)]
  exact ⟨z, hz, rfl⟩
 ·rw [if_neg e]
  exact h4 j hj
end Go.Proofs.Ytgmomkkhlcigbaa.Tap
