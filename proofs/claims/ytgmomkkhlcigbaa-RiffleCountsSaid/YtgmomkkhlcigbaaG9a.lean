import Derived.Test.YtgmomkkhlcigbaaV9l
import Derived.Lib.Bytes
namespace Go.Proofs.Ytgmomkkhlcigbaa.Tap
open Go.RowKit Gf8 Aes By8 Cel Cf
/- The program's Take with its errors, bytes.Clone, the law's awake. -/
theorem own_none9 (V : World) (p : Nat → Nat) : (V.alloc (.cells #[] 5)).ownsRow V.heap.size 5 1 (.slice (some ⟨V.heap.size, 0, none⟩) 0 0) 0 (bytesL 0 p) :=
 ⟨rfl, .inr ⟨V.heap.size, 0, #[], rfl, Nat.le_refl _, heapNew V _, Nat.le_refl _, by unfold maxLen; omega, rfl, rfl⟩⟩
set_option maxRecDepth 20000 in
theorem clone9 (p : Nat → Nat) (len : Nat) (v : Value) (V : World) (hv : SliceN V v len p) (hl : len ≤ 140737488351232) :
  Calls Try.prog 20 #[v] V fun e w' => ∃ r, e = .returned r ∧ w'.ownsRow V.heap.size 5 1 r len (bytesL len p) ∧ Below V.heap.size V w' := by
 obtain ⟨ao, cap, rfl, _, _, hs⟩ := id hv.shape
 cases ao with
 | none =>
  obtain rfl : len = 0 := by
   by_cases h : 0 < len
   ·obtain ⟨b, off, e, _⟩ := hs h
    cases e
   ·omega
  have en := fun w => Go.Lib.run_eql_slice_nil (P := Try.prog) w 24 5 none 0 cap 0 0 Try.underlying24
  clear hs hv hl
  go_enter Try.func20, Try.ntmps20
  go_wp2
  go_ret
  exact ⟨_, rfl, World.ownsRow_nil _ _ _ _, Below.refl _ _⟩
 | some ad =>
  have HV : Hid (SliceN V (.slice (some ad) len cap) len p) := hv
  have HL : Hid (len ≤ 140737488351232) := hl
  have en := fun w => Go.Lib.run_eql_slice_nil (P := Try.prog) w 24 5 (some ad) len cap 0 0 Try.underlying24
  clear hs hv hl
  go_enter Try.func20, Try.ntmps20
  go_wp2_with (first
   | (refine atAppB (.tmp 5) (.tmp 6) rfl ?_; go_must (refine wpList_appS (B := V.heap.size) (n := 0) (m := len) (p := p) rfl (.tmp 5) (.tmp 6) rfl rfl rfl (own_none9 V p) (sliceN_cg (HV.out.on (belNew V _)) fun j _ => by rw [Nat.zero_add]) (fun l c e => by cases e) (by have := HL.out; omega) (belNew V _).size ?_; intro u1 W1 own1 gr1; have b1 : Below V.heap.size V W1 := below_grown (belNew V _) (belNew V _).size (own_none9 V p) gr1; rw [Nat.zero_add] at own1; clear gr1)))
  go_ret
  exact ⟨_, rfl, own1, b1⟩
end Go.Proofs.Ytgmomkkhlcigbaa.Tap

namespace Go.Proofs.Ytgmomkkhlcigbaa.Tap
open Go.RowKit Gf8 Aes By8 Cel Cf
/- append to a row that may bear a mark behind its cells. -/
theorem bytesL_len (n : Nat) (p : Nat → Nat) : (bytesL n p).length = n := by simp [bytesL]
theorem bytesL_one (n : Nat) (p : Nat → Nat) : ∀ u ∈ bytesL n p, u.oneCell' = true := by
 intro z hz
 unfold bytesL at hz
 obtain ⟨k, _, rfl⟩ := List.mem_map.1 hz
 rfl
theorem OwnM.some {W : World} {B n : Nat} {v : Value} {p : Nat → Nat} (h : OwnM W B v n p) : ∀ l c, v ≠ .slice none l c := by
 obtain ⟨g, cap, cur, fz, rfl, _⟩ := h
 intro l c e
 cases e
theorem OwnM.over {W W' : World} {B b n : Nat} {v : Value} {p : Nat → Nat} {row : Option Nat} (h : OwnM W B v n p) (hg : W.grownBy W' row) (hr : ∀ k, row = Option.some k → k < b) (hb : b ≤ B) : OwnM W' B v n p := by
 obtain ⟨g, cap, cur, fz, e, hB, h1, hrest⟩ := h
 refine ⟨g, cap, cur, fz, e, hB, ?_, hrest⟩
 rw [hg.block g (Array.getElem?_eq_some_iff.1 h1).1 (fun q => ?_)]
 ·exact h1
 ·have := hr g q.symm
  omega
theorem OwnM.row {W : World} {B n : Nat} {v : Value} {p : Nat → Nat} (h : OwnM W B v n p) : ∀ k, v.ownBlock = Option.some k → B ≤ k ∧ k < W.heap.size := by
 obtain ⟨g, cap, cur, fz, rfl, hB, h1, _⟩ := h
 intro k hk
 obtain rfl : g = k := by simpa [Value.ownBlock] using hk
 exact ⟨hB, (Array.getElem?_eq_some_iff.1 h1).1⟩
theorem shp9 {W : World} {v : Value} {n : Nat} {p : Nat → Nat} (h : SliceN W v n p) : ∃ a c, v = .slice a n c := by
 obtain ⟨a, c, e, _⟩ := h.shape
 exact ⟨a, c, e⟩
section
variable {o : Oper} {a : Act} {w : World}
theorem execLeN {x y : Operand} {p q : Nat} (ho : o.op = .binOp .leq 3 x y 3) (hx : a.eval x = .int .i64 (p : Int)) (hy : a.eval y = .int .i64 (q : Int)) : (execOp a.eval o).run Try.prog w = .ok (.value (.bool (decide (p ≤ q)))) w := by
 unfold execOp
 simp only [ho, hx, hy]
 by_cases h : p ≤ q
 ·simp [go_sem, h]
 ·simp [go_sem, h]
end
end Go.Proofs.Ytgmomkkhlcigbaa.Tap

namespace Go.Proofs.Ytgmomkkhlcigbaa.Drw
/- Draws over Nat. -/
def scan (p : Nat → Nat) (b : Nat) : Nat → Nat → Nat
 | 0, at' => at'
 | k + 1, at' => if p at' / b < 256 / b then at' else scan p b k (at' + 1)
theorem scan_in (p : Nat → Nat) (b : Nat) : ∀ k at', at' ≤ scan p b k at' ∧ scan p b k at' ≤ at' + k
 | 0, at' => ⟨Nat.le_refl _, Nat.le_refl _⟩
 | k + 1, at' => by
  unfold scan
  by_cases h : p at' / b < 256 / b
  ·rw [if_pos h]; omega
  ·rw [if_neg h]
   have := scan_in p b k (at' + 1)
   omega
theorem scan_hit (p : Nat → Nat) (b : Nat) : ∀ k at', scan p b k at' < at' + k → p (scan p b k at') / b < 256 / b
 | 0, at', h => by unfold scan at h; omega
 | k + 1, at', h => by
  unfold scan at h ⊢
  by_cases e : p at' / b < 256 / b
  ·rw [if_pos e]; exact e
  ·rw [if_neg e] at h ⊢
   exact scan_hit p b k (at' + 1) (by omega)
theorem scan_pass (p : Nat → Nat) (b : Nat) : ∀ k at' j, at' ≤ j → j < scan p b k at' → ¬ p j / b < 256 / b
 | 0, at', j, h1, h2 => by unfold scan at h2; omega
 | k + 1, at', j, h1, h2 => by
  unfold scan at h2
  by_cases e : p at' / b < 256 / b
  ·rw [if_pos e] at h2; omega
  ·rw [if_neg e] at h2
   by_cases q : j = at'
   ·subst q; exact e
   ·exact scan_pass p b k (at' + 1) j (by omega) h2
theorem scan_is (p : Nat → Nat) (b : Nat) : ∀ k at' s, at' ≤ s → s < at' + k → p s / b < 256 / b → (∀ j, at' ≤ j → j < s → ¬ p j / b < 256 / b) → scan p b k at' = s
 | 0, at', s, h1, h2, _, _ => by omega
 | k + 1, at', s, h1, h2, h3, h4 => by
  unfold scan
  by_cases q : s = at'
  ·subst q; rw [if_pos h3]
  ·rw [if_neg (h4 at' (Nat.le_refl _) (by omega))]
   exact scan_is p b k (at' + 1) s (by omega) (by omega) h3 (fun j hj => h4 j (by omega))
def dS (p : Nat → Nat) (l at' : Nat) (b : Int) : Nat := scan p b.toNat (l - at') at'
def dE (p : Nat → Nat) (l at' : Nat) (b : Int) : Nat := if b < 1 ∨ 256 < b then 2 else if b = 1 then 0 else if dS p l at' b < l then 0 else 3
def dV (p : Nat → Nat) (l at' : Nat) (b : Int) : Nat := if dE p l at' b = 0 ∧ b ≠ 1 then p (dS p l at' b) % b.toNat else 0
def dN (p : Nat → Nat) (l at' : Nat) (b : Int) : Nat := if dE p l at' b = 0 then (if b = 1 then at' else dS p l at' b + 1) else 0
abbrev bad (b : Int) : Prop := b < 1 ∨ 256 < b
theorem dE_ok {p : Nat → Nat} {l at' : Nat} {b : Int} (h : dE p l at' b = 0) : ¬ bad b ∧ (b = 1 ∨ dS p l at' b < l) := by
 unfold dE at h
 by_cases h1 : b < 1 ∨ 256 < b
 ·rw [if_pos h1] at h; omega
 ·rw [if_neg h1] at h
  refine ⟨h1, ?_⟩
  by_cases h2 : b = 1
  ·exact Or.inl h2
  ·rw [if_neg h2] at h
   by_cases h3 : dS p l at' b < l
   ·exact Or.inr h3
   ·rw [if_neg h3] at h; omega
theorem dE_val (p : Nat → Nat) (l at' : Nat) (b : Int) : dE p l at' b = 0 ∨ dE p l at' b = 2 ∨ dE p l at' b = 3 := by
 unfold dE
 by_cases h1 : b < 1 ∨ 256 < b
 ·rw [if_pos h1]; omega
 ·rw [if_neg h1]
  by_cases h2 : b = 1
  ·rw [if_pos h2]; omega
  ·rw [if_neg h2]
   by_cases h3 : dS p l at' b < l
   ·rw [if_pos h3]; omega
   ·rw [if_neg h3]; omega
theorem dE_good {p : Nat → Nat} {l at' : Nat} {b : Int} (h : ¬ bad b) : dE p l at' b = 0 ∨ dE p l at' b = 3 := by
 rcases dE_val p l at' b with e | e | e
 ·exact Or.inl e
 ·unfold dE at e
  have h' : ¬ (b < 1 ∨ 256 < b) := h
  rw [if_neg h'] at e
  by_cases h2 : b = 1
  ·rw [if_pos h2] at e; omega
  ·rw [if_neg h2] at e
   by_cases h3 : dS p l at' b < l
   ·rw [if_pos h3] at e; omega
   ·rw [if_neg h3] at e; omega
 ·exact Or.inr e
theorem dN_le {p : Nat → Nat} {l at' : Nat} {b : Int} (h : at' ≤ l) : dN p l at' b ≤ l := by
 unfold dN
 by_cases e : dE p l at' b = 0
 ·rw [if_pos e]
  rcases (dE_ok e).2 with h1 | h1
  ·rw [if_pos h1]; exact h
  ·by_cases h2 : b = 1
   ·rw [if_pos h2]; exact h
   ·rw [if_neg h2]; omega
 ·rw [if_neg e]; omega
theorem dN_ge {p : Nat → Nat} {l at' : Nat} {b : Int} (e : dE p l at' b = 0) : at' ≤ dN p l at' b := by
 unfold dN
 rw [if_pos e]
 by_cases h2 : b = 1
 ·rw [if_pos h2]; omega
 ·rw [if_neg h2]
  have := (scan_in p b.toNat (l - at') at').1
  unfold dS
  omega
theorem dV_lt {p : Nat → Nat} {l at' : Nat} {b : Int} (e : dE p l at' b = 0) : (dV p l at' b : Int) < b := by
 have h := (dE_ok e).1
 unfold bad at h
 unfold dV
 by_cases h2 : b = 1
 ·rw [if_neg (fun q => q.2 h2)]; omega
 ·rw [if_pos ⟨e, h2⟩]
  have : p (dS p l at' b) % b.toNat < b.toNat := Nat.mod_lt _ (by omega)
  omega
def plA (p : Nat → Nat) (l : Nat) (bs : Nat → Int) : Nat → Nat
 | 0 => 0
 | i + 1 => dN p l (plA p l bs i) (bs i)
def dA (p : Nat → Nat) (l : Nat) (bs : Nat → Int) (i : Nat) : Nat := dV p l (plA p l bs i) (bs i)
theorem plA_le (p : Nat → Nat) (l : Nat) (bs : Nat → Int) : ∀ i, plA p l bs i ≤ l
 | 0 => Nat.zero_le _
 | i + 1 => dN_le (plA_le p l bs i)
def okA (p : Nat → Nat) (l : Nat) (bs : Nat → Int) (n : Nat) : Prop := ∀ i, i < n → dE p l (plA p l bs i) (bs i) = 0
def anyB (bs : Nat → Int) : Nat → Bool
 | 0 => false
 | i + 1 => anyB bs i || decide (bad (bs i))
theorem anyB_no {bs : Nat → Int} : ∀ {n}, anyB bs n = false → ∀ i, i < n → ¬ bad (bs i)
 | 0, _, i, h => by omega
 | n + 1, e, i, h => by
  simp only [anyB, Bool.or_eq_false_iff, decide_eq_false_iff_not] at e
  by_cases q : i = n
  ·subst q; exact e.2
  ·exact anyB_no e.1 i (by omega)
theorem anyB_yes {bs : Nat → Int} : ∀ {n i}, i < n → bad (bs i) → anyB bs n = true
 | 0, i, h, _ => by omega
 | n + 1, i, h, hb => by
  simp only [anyB, Bool.or_eq_true, decide_eq_true_eq]
  by_cases q : i = n
  ·subst q; exact Or.inr hb
  ·exact Or.inl (anyB_yes (by omega) hb)
def okB (p : Nat → Nat) (l : Nat) (bs : Nat → Int) : Nat → Bool
 | 0 => true
 | i + 1 => okB p l bs i && decide (dE p l (plA p l bs i) (bs i) = 0)
theorem okB_iff {p : Nat → Nat} {l : Nat} {bs : Nat → Int} : ∀ {n}, okB p l bs n = true ↔ okA p l bs n
 | 0 => ⟨fun _ i h => by omega, fun _ => rfl⟩
 | n + 1 => by
  simp only [okB, Bool.and_eq_true, decide_eq_true_eq]
  rw [okB_iff]
  refine ⟨fun h i hi => ?_, fun h => ⟨fun i hi => h i (by omega), h n (by omega)⟩⟩
  by_cases q : i = n
  ·subst q; exact h.2
  ·exact h.1 i (by omega)
def allE (p : Nat → Nat) (l : Nat) (bs : Nat → Int) (n : Nat) : Nat := if anyB bs n then 2 else if okB p l bs n then 0 else 3
def allN (p : Nat → Nat) (l : Nat) (bs : Nat → Int) (n : Nat) : Nat := if allE p l bs n = 0 then n else 0
def allK (p : Nat → Nat) (l : Nat) (bs : Nat → Int) (n : Nat) : Nat := if allE p l bs n = 0 then plA p l bs n else 0
def trF (p : Nat → Nat) (l : Nat) (bs ws : Nat → Int) : Nat → Nat → Nat
 | 0 => p
 | i + 1 => fun j => if bs i ≠ 1 ∧ j = plA p l bs (i + 1) - 1 then p j - dA p l bs i + (ws i).toNat else trF p l bs ws i j
def anyW (bs ws : Nat → Int) : Nat → Bool
 | 0 => false
 | i + 1 => anyW bs ws i || decide (ws i < 0 ∨ bs i ≤ ws i)
def trE (p : Nat → Nat) (l : Nat) (bs : Nat → Int) (n : Nat) (ws : Nat → Int) (m : Nat) : Nat := if anyB bs n = true ∨ m ≠ n ∨ anyW bs ws m = true then 2 else if okB p l bs n then 0 else 3
end Go.Proofs.Ytgmomkkhlcigbaa.Drw
