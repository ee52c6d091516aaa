import Derived.Test.YtialghojibjknaaP8b
import Derived.WalkKit
namespace Go.Proofs.Ytialghojibjknaa.Duc
open Go.RowKit Gf8 Aes By8 Cel Cf Win Drw Prm
/- What the law asks of a duct, by its contract. Written by tools/mkP8c.py. -/

section
variable {El : Value → Prop} {zv : Value} {fN fP fT fC fL fK fD fU fE : FuncId} (I : DImpl El zv fN fP fT fC fL fK fD fU fE) {V W X : World} {F : Nat → Prop} {v u : Value} {x : Nat → Value} {n k : Nat} {c : Bool}
theorem DImpl.on (h : I.R V F v x n k c) (hb : Below V.heap.size V X) : I.R X F v x n k c := I.frame h (fun b hF => hb.block b (I.lt h b hF)) hb.size
theorem DImpl.put_t (h : I.R V F v x n k c) (hu : El u) (hq : c = false ∧ n < k) : Calls Try.prog fP #[v, u] V fun e w' => ∃ F', e = .returned (.tuple #[.bool true, .int .i64 ((0 : Nat) : Int)]) ∧ I.R w' F' v (up x n u) (n + 1) k c ∧ Saved F V w' ∧ ∀ q, F' q → F q ∨ V.heap.size ≤ q := by
  have h1 := I.put h hu
  rw [decide_eq_true hq, if_pos hq, hq.1] at h1
  rw [hq.1]
  exact h1
theorem DImpl.put_f (h : I.R V F v x n k false) (hu : El u) (hq : ¬ n < k) : Calls Try.prog fP #[v, u] V fun e w' => ∃ F', e = .returned (.tuple #[.bool false, .int .i64 ((0 : Nat) : Int)]) ∧ I.R w' F' v x n k false ∧ Saved F V w' ∧ ∀ q, F' q → F q ∨ V.heap.size ≤ q := by
  have h1 := I.put h hu
  rw [decide_eq_false (fun w => hq w.2), if_neg (c := false = false ∧ n < k) (fun w => hq w.2)] at h1
  exact Calls.mono h1 fun e w' ⟨F', he, hR, hs, hf⟩ => ⟨F', he, I.cg hR (fun j hj => up_ne _ _ (Nat.ne_of_lt hj)), hs, hf⟩
theorem DImpl.put_c (h : I.R V F v x n k true) (hu : El u) : Calls Try.prog fP #[v, u] V fun e w' => ∃ F', e = .returned (.tuple #[.bool false, .int .i64 ((180 : Nat) : Int)]) ∧ I.R w' F' v x n k true ∧ Saved F V w' ∧ ∀ q, F' q → F q ∨ V.heap.size ≤ q := by
  have h1 := I.put h hu
  rw [decide_eq_false (fun w => by cases w.1), if_neg (c := true = false ∧ n < k) (fun w => by cases w.1)] at h1
  exact Calls.mono h1 fun e w' ⟨F', he, hR, hs, hf⟩ => ⟨F', he, I.cg hR (fun j hj => up_ne _ _ (Nat.ne_of_lt hj)), hs, hf⟩
theorem DImpl.take_o (h : I.R V F v x n k c) (hn : 0 < n) : Calls Try.prog fT #[v] V fun e w' => ∃ F', e = .returned (.tuple #[x 0, .bool true, .int .i64 ((0 : Nat) : Int)]) ∧ I.R w' F' v (fun j => x (j + 1)) (n - 1) k c ∧ Saved F V w' ∧ ∀ q, F' q → F q ∨ V.heap.size ≤ q := by
  have h1 := I.take h
  rw [decide_eq_true hn, if_pos hn, if_neg (fun w => by omega)] at h1
  exact h1
theorem DImpl.take_e (h : I.R V F v x n k false) (hn : n = 0) : Calls Try.prog fT #[v] V fun e w' => ∃ F', e = .returned (.tuple #[zv, .bool false, .int .i64 ((0 : Nat) : Int)]) ∧ I.R w' F' v x n k false ∧ Saved F V w' ∧ ∀ q, F' q → F q ∨ V.heap.size ≤ q := by
  have h1 := I.take h
  rw [decide_eq_false (by omega), if_neg (by omega), if_neg (fun w => by cases w.2), show n - 1 = n by omega] at h1
  exact Calls.mono h1 fun e w' ⟨F', he, hR, hs, hf⟩ => ⟨F', he, I.cg hR (fun j hj => by omega), hs, hf⟩
theorem DImpl.take_c (h : I.R V F v x n k true) (hn : n = 0) : Calls Try.prog fT #[v] V fun e w' => ∃ F', e = .returned (.tuple #[zv, .bool false, .int .i64 ((180 : Nat) : Int)]) ∧ I.R w' F' v x n k true ∧ Saved F V w' ∧ ∀ q, F' q → F q ∨ V.heap.size ≤ q := by
  have h1 := I.take h
  rw [decide_eq_false (by omega), if_neg (by omega), if_pos ⟨hn, rfl⟩, show n - 1 = n by omega] at h1
  exact Calls.mono h1 fun e w' ⟨F', he, hR, hs, hf⟩ => ⟨F', he, I.cg hR (fun j hj => by omega), hs, hf⟩
theorem DImpl.canPut_b (h : I.R V F v x n k c) {b : Bool} (hq : decide (c = false ∧ n < k) = b) : Calls Try.prog fU #[v] V fun e w' => e = .returned (.bool b) ∧ Below V.heap.size V w' := hq ▸ I.canPut h
theorem DImpl.canTake_b (h : I.R V F v x n k c) {b : Bool} (hq : decide (0 < n) = b) : Calls Try.prog fE #[v] V fun e w' => e = .returned (.bool b) ∧ Below V.heap.size V w' := hq ▸ I.canTake h
end
end Go.Proofs.Ytialghojibjknaa.Duc
