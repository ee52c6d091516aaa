import Derived.Test.YtjoffdaknacbpaaC9a
namespace Go.Proofs.Ytjoffdaknacbpaa.Sha
open Win
/- Offers, the lowest index of each tag, shards: over lists and numbers. Names nothing of a program. -/

abbrev Off := (Nat → Nat) × Int
/-- What a map of one shard holds of a tag. -/
def fnd : List Off → Nat → Option Int
  | [], _ => none
  | p :: S, x => if tv p.1 16 = x then some p.2 else fnd S x
/-- A tag put into a map. -/
def putM : List Off → (Nat → Nat) → Int → List Off
  | [], f, z => [(f, z)]
  | p :: S, f, z => if tv p.1 16 = tv f 16 then (f, z) :: S else p :: putM S f z
theorem fnd_put (f : Nat → Nat) (z : Int) (x : Nat) : ∀ S, fnd (putM S f z) x = if x = tv f 16 then some z else fnd S x
  | [] => by
    simp only [putM, fnd]
    by_cases h : tv f 16 = x
    · rw [if_pos h, if_pos h.symm]
    · rw [if_neg h, if_neg (fun e => h e.symm)]
  | p :: S => by
    unfold putM
    by_cases h : tv p.1 16 = tv f 16
    · rw [if_pos h]
      simp only [fnd]
      by_cases q : tv f 16 = x
      · rw [if_pos q, if_pos q.symm]
      · rw [if_neg q, if_neg (fun e => q e.symm), if_neg (by rw [h]; exact q)]
    · rw [if_neg h]
      simp only [fnd]
      by_cases q : tv p.1 16 = x
      · rw [if_pos q, if_pos q, if_neg (by rw [← q]; exact h)]
      · rw [if_neg q, if_neg q, fnd_put f z x S]
theorem len_put (f : Nat → Nat) (z : Int) : ∀ S, (putM S f z).length = S.length + (if (fnd S (tv f 16)).isSome then 0 else 1)
  | [] => rfl
  | p :: S => by
    unfold putM fnd
    by_cases h : tv p.1 16 = tv f 16
    · rw [if_pos h, if_pos h]
      rfl
    · rw [if_neg h, if_neg h, List.length_cons, len_put f z S, List.length_cons]
      omega
/-- The lowest index of a tag among the first k offers. -/
def lwO (o : Nat → Off) : Nat → Nat → Option Int
  | 0, _ => none
  | k + 1, x => if tv (o k).1 16 = x then some (match lwO o k x with | none => (o k).2 | some z => if (o k).2 < z then (o k).2 else z) else lwO o k x
/-- How many tags there are among the first k offers. -/
def cnO (o : Nat → Off) : Nat → Nat
  | 0 => 0
  | k + 1 => cnO o k + (if (lwO o k (tv (o k).1 16)).isSome then 0 else 1)
theorem cn_le (o : Nat → Off) : ∀ k, cnO o k ≤ k
  | 0 => Nat.le_refl _
  | k + 1 => by
    have := cn_le o k
    unfold cnO
    split <;> omega
theorem lw_cg {o p : Nat → Off} : ∀ {k : Nat}, (∀ j, j < k → o j = p j) → ∀ x, lwO o k x = lwO p k x
  | 0, _, _ => rfl
  | k + 1, h, x => by
    unfold lwO
    rw [h k (by omega), lw_cg (k := k) (fun j hj => h j (by omega)) x]
theorem cn_cg {o p : Nat → Off} : ∀ {k : Nat}, (∀ j, j < k → o j = p j) → cnO o k = cnO p k
  | 0, _ => rfl
  | k + 1, h => by
    unfold cnO
    rw [h k (by omega), cn_cg (k := k) (fun j hj => h j (by omega)), lw_cg (k := k) (fun j hj => h j (by omega))]
/-- The shard of a tag. -/
def shd (n x : Nat) : Nat := (x / 18446744073709551616) % n
theorem tv_8 {f : Nat → Nat} (hf : ∀ i, i < 16 → f i < 256) : tv f 16 / 18446744073709551616 = tv f 8 := by
  have h : ∀ i, i < 16 → f i < 256 := hf
  have := h 8 (by omega)
  have := h 9 (by omega)
  have := h 10 (by omega)
  have := h 11 (by omega)
  have := h 12 (by omega)
  have := h 13 (by omega)
  have := h 14 (by omega)
  have := h 15 (by omega)
  have e : tv f 16 = (((((((tv f 8 * 256 + f 8) * 256 + f 9) * 256 + f 10) * 256 + f 11) * 256 + f 12) * 256 + f 13) * 256 + f 14) * 256 + f 15 := rfl
  generalize tv f 8 = y at e ⊢
  omega
theorem shd_lt {n : Nat} (h : 0 < n) (x : Nat) : shd n x < n := Nat.mod_lt _ h
/-- All that the shards hold. -/
def smL (S : Nat → List Off) : Nat → Nat
  | 0 => 0
  | n + 1 => smL S n + (S n).length
def upS (S : Nat → List Off) (i : Nat) (l : List Off) : Nat → List Off := fun j => if j = i then l else S j
theorem upS_at (S : Nat → List Off) (i : Nat) (l : List Off) : upS S i l i = l := if_pos rfl
theorem upS_ne (S : Nat → List Off) {i j : Nat} (l : List Off) (h : j ≠ i) : upS S i l j = S j := if_neg h
theorem sm_up (S : Nat → List Off) (i : Nat) (l : List Off) : ∀ n, smL (upS S i l) n + (if i < n then (S i).length else 0) = smL S n + (if i < n then l.length else 0)
  | 0 => rfl
  | n + 1 => by
    have ih := sm_up S i l n
    unfold smL
    by_cases h : n = i
    · subst h
      rw [upS_at]
      rw [if_neg (by omega), if_neg (by omega)] at ih
      rw [if_pos (by omega), if_pos (by omega)]
      omega
    · rw [upS_ne S l h]
      by_cases q : i < n
      · rw [if_pos q, if_pos q] at ih
        rw [if_pos (by omega), if_pos (by omega)]
        omega
      · rw [if_neg q, if_neg q] at ih
        rw [if_neg (by omega), if_neg (by omega)]
        omega
theorem sm_mono (S : Nat → List Off) : ∀ {n i : Nat}, i ≤ n → smL S i ≤ smL S n
  | 0, i, h => by rw [Nat.le_zero.1 h]; exact Nat.le_refl _
  | n + 1, i, h => by
    by_cases q : i = n + 1
    · subst q; exact Nat.le_refl _
    · have := sm_mono S (n := n) (i := i) (by omega)
      have e : smL S (n + 1) = smL S n + (S n).length := rfl
      omega
/-- The shards hold the offers. -/
structure FI (n : Nat) (S : Nat → List Off) (o : Nat → Off) (k : Nat) : Prop where
  fn : ∀ i, i < n → ∀ x, fnd (S i) x = if shd n x = i then lwO o k x else none
  ln : smL S n = cnO o k
theorem FI.zero (n : Nat) (o : Nat → Off) : FI n (fun _ => []) o 0 := ⟨fun i _ x => by simp [fnd, lwO], by
  show smL (fun _ => []) n = 0
  induction n with
  | zero => rfl
  | succ n ih => show smL _ n + 0 = 0; rw [ih]⟩
theorem FI.cg {n k : Nat} {S : Nat → List Off} {o p : Nat → Off} (h : FI n S o k) (e : ∀ j, j < k → o j = p j) : FI n S p k :=
  ⟨fun i hi x => by rw [h.fn i hi x, lw_cg e x], by rw [h.ln, cn_cg e]⟩
theorem FI.at {n k : Nat} {S : Nat → List Off} {o : Nat → Off} (h : FI n S o k) (h0 : 0 < n) (x : Nat) : fnd (S (shd n x)) x = lwO o k x := by rw [h.fn _ (shd_lt h0 x) x, if_pos rfl]
/-- The offer is no lower: nothing changes. -/
theorem FI.same {n k : Nat} {S : Nat → List Off} {o : Nat → Off} {z : Int} (h : FI n S o k) (hz : lwO o k (tv (o k).1 16) = some z) (hl : ¬ (o k).2 < z) : FI n S o (k + 1) := by
  refine ⟨fun i hi x => ?_, ?_⟩
  · rw [h.fn i hi x]
    have e : lwO o (k + 1) x = lwO o k x := by
      show (if tv (o k).1 16 = x then _ else _) = _
      by_cases q : tv (o k).1 16 = x
      · subst q
        rw [if_pos rfl, hz]
        simp only [if_neg hl]
      · rw [if_neg q]
    rw [e]
  · rw [h.ln]
    show _ = cnO o k + _
    rw [hz]
    rfl
/-- The offer is new, or lower. -/
theorem FI.put {n k : Nat} {S : Nat → List Off} {o : Nat → Off} (h : FI n S o k) (h0 : 0 < n) (hl : ∀ z, lwO o k (tv (o k).1 16) = some z → (o k).2 < z) :
    FI n (upS S (shd n (tv (o k).1 16)) (putM (S (shd n (tv (o k).1 16))) (o k).1 (o k).2)) o (k + 1) := by
  have hi0 := shd_lt h0 (tv (o k).1 16)
  have hat := h.at h0 (tv (o k).1 16)
  refine ⟨fun i hi x => ?_, ?_⟩
  · have e : lwO o (k + 1) x = if x = tv (o k).1 16 then some (o k).2 else lwO o k x := by
      show (if tv (o k).1 16 = x then _ else _) = _
      by_cases q : tv (o k).1 16 = x
      · subst q
        rw [if_pos rfl, if_pos rfl]
        cases hc : lwO o k (tv (o k).1 16) with
        | none => rfl
        | some z => simp only [if_pos (hl z hc)]
      · rw [if_neg q, if_neg (fun w => q w.symm)]
    rw [e]
    by_cases q : i = shd n (tv (o k).1 16)
    · subst q
      rw [upS_at, fnd_put]
      by_cases q2 : x = tv (o k).1 16
      · subst q2
        rw [if_pos rfl, if_pos rfl, if_pos rfl]
      · rw [if_neg q2, if_neg q2]
        exact h.fn _ hi x
    · rw [upS_ne _ _ q, h.fn i hi x]
      by_cases q2 : x = tv (o k).1 16
      · subst q2
        rw [if_neg (fun w => q w.symm), if_neg (fun w => q w.symm)]
      · rw [if_neg q2]
  · have e := sm_up S (shd n (tv (o k).1 16)) (putM (S (shd n (tv (o k).1 16))) (o k).1 (o k).2) n
    rw [if_pos hi0, if_pos hi0, len_put, hat, h.ln] at e
    show _ = cnO o k + _
    omega
end Go.Proofs.Ytjoffdaknacbpaa.Sha
