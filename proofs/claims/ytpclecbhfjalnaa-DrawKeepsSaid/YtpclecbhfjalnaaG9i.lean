import Derived.Test.YtpclecbhfjalnaaG9h
namespace Go.Proofs.Ytpclecbhfjalnaa.Drw
open Go.RowKit Gf8 Aes By8 Cel Cf Tap
/- What the program's draw answers (Impl); the laws' alive, DrawAlls, DrawTurns over any Impl. Written by tools/mkG9i.py. -/

/-- What the program's Below, All and Turn answer. -/
structure Impl : Prop where
  below : ∀ (p : Nat → Nat) (l at' : Nat) (b : Int) (V : World), at' ≤ l → l ≤ 140737488351232 → (∀ j, j < l → p j < 256) →
    Calls Try.prog 13 #[.agg (tpC p l at'), .int .i64 b] V fun e w' => e = .returned (.tuple #[.int .i64 ((dV p l at' b : Nat) : Int), .agg (tpC p (if dE p l at' b = 0 then l else 0) (dN p l at' b)), .int .i64 ((dE p l at' b : Nat) : Int)]) ∧ Below V.heap.size V w'
  all : ∀ (p : Nat → Nat) (l : Nat) (bs : Nat → Int) (n : Nat) (pv bv : Value) (V : World), SliceN V pv l p → l ≤ 140737488351232 → SliceI V bv n bs → n ≤ 17592186044416 →
    Calls Try.prog 17 #[pv, bv] V fun e w' => ∃ r, e = .returned (.tuple #[r, .int .i64 ((allK p l bs n : Nat) : Int), .int .i64 ((allE p l bs n : Nat) : Int)]) ∧ w'.ownsRow V.heap.size 3 1 r (allN p l bs n) (intsL (allN p l bs n) (fun i => (dA p l bs i : Int))) ∧ Below V.heap.size V w'
  turn : ∀ (p : Nat → Nat) (l : Nat) (bs ws : Nat → Int) (n m : Nat) (pv bv wv : Value) (V : World), SliceN V pv l p → l ≤ 140737488351232 → (∀ l c, pv = .slice none l c → c = 0) → SliceI V bv n bs → n ≤ 17592186044416 → SliceI V wv m ws → m ≤ 17592186044416 →
    Calls Try.prog 20 #[pv, bv, wv] V fun e w' => ∃ r, e = .returned (.tuple #[r, .int .i64 ((trE p l bs n ws m : Nat) : Int)]) ∧ TkA w' V.heap.size r (trN p l bs n ws m) (trF p l bs ws n) ∧ Below V.heap.size V w'
theorem dV_le (p : Nat → Nat) (l at' : Nat) (b : Int) : dV p l at' b ≤ 256 := by
  unfold dV
  by_cases h : dE p l at' b = 0 ∧ b ≠ 1
  · rw [if_pos h]
    have hb := (dE_ok h.1).1
    unfold bad at hb
    have : p (dS p l at' b) % b.toNat < b.toNat := Nat.mod_lt _ (by omega)
    omega
  · rw [if_neg h]; omega
theorem dA_fits (p : Nat → Nat) (l : Nat) (bs : Nat → Int) (n : Nat) : ∀ j, j < n → -9223372036854775808 ≤ ((dA p l bs j : Nat) : Int) ∧ ((dA p l bs j : Nat) : Int) < 9223372036854775808 := fun j _ => by
  have := dV_le p l (plA p l bs j) (bs j)
  unfold dA
  omega
theorem trE_ok {p : Nat → Nat} {l : Nat} {bs ws : Nat → Int} {n m : Nat} (h : trE p l bs n ws m = 0) : anyB bs n = false ∧ m = n ∧ wOk bs ws n ∧ okA p l bs n := by
  unfold trE at h
  by_cases h1 : anyB bs n = true ∨ m ≠ n ∨ anyW bs ws m = true
  · rw [if_pos h1] at h; omega
  · rw [if_neg h1] at h
    have e1 : anyB bs n = false := Bool.eq_false_iff.2 fun q => h1 (Or.inl q)
    have e2 : m = n := Decidable.byContradiction fun q => h1 (Or.inr (Or.inl q))
    have e3 : anyW bs ws m = false := Bool.eq_false_iff.2 fun q => h1 (Or.inr (Or.inr q))
    subst e2
    refine ⟨e1, rfl, anyW_no.1 e3, ?_⟩
    by_cases h2 : okB p l bs m = true
    · exact okB_iff.1 h2
    · rw [if_neg h2] at h; omega
theorem tr_fits {p : Nat → Nat} {l : Nat} {bs ws : Nat → Int} {n m : Nat} (hp : ∀ j, j < l → p j < 256) : ∀ j, j < trN p l bs n ws m → trF p l bs ws n j < 256 := fun j hj => by
  unfold trN at hj
  by_cases h : trE p l bs n ws m = 0
  · rw [if_pos h] at hj
    obtain ⟨_, _, h3, h4⟩ := trE_ok h
    exact turn_byte h4 h3 hp hj
  · rw [if_neg h] at hj; omega
/-- The lists of the fixed facts. -/
def l1 : Nat → Nat := fun j => if j = 0 then 255 else if j = 1 then 254 else 7
def b1 : Nat → Int := fun j => if j = 0 then 3 else if j = 1 then 1 else 256
theorem execLitB {o : Oper} {a : Act} {w : World} (ho : o.op = .buildSlice 22 3 #[(0, .const (.int .u8 255)), (1, .const (.int .u8 254)), (2, .const (.int .u8 7))]) : (execOp a.eval o).run Try.prog w = .ok (.value (.slice (some ⟨w.heap.size, 0, none⟩) 3 3)) (w.alloc (.cells #[.int .u8 255, .int .u8 254, .int .u8 7] 5)) := by
  unfold execOp
  simp only [ho]
  simp [go_sem]
theorem execLitI {o : Oper} {a : Act} {w : World} (ho : o.op = .buildSlice 23 3 #[(0, .const (.int .i64 3)), (1, .const (.int .i64 1)), (2, .const (.int .i64 256))]) : (execOp a.eval o).run Try.prog w = .ok (.value (.slice (some ⟨w.heap.size, 0, none⟩) 3 3)) (w.alloc (.cells #[.int .i64 3, .int .i64 1, .int .i64 256] 3)) := by
  unfold execOp
  simp only [ho]
  simp [go_sem]
theorem sliceB1 (V : World) : SliceN (V.alloc (.cells #[.int .u8 255, .int .u8 254, .int .u8 7] 5)) (.slice (some ⟨V.heap.size, 0, none⟩) 3 3) 3 l1 :=
  lit_slice (heapNew V _) (fun j hj => by
    match j, hj with
    | 0, _ => rfl
    | 1, _ => rfl
    | 2, _ => rfl
    | k + 3, h => omega) (fun j hj => by
    match j, hj with
    | 0, _ => decide
    | 1, _ => decide
    | 2, _ => decide
    | k + 3, h => omega) (by omega)
theorem lit_ints {W : World} {b N : Nat} {C : Array Value} {f : Nat → Int} {t : TypeId} {fr : Nat × Nat} (hg : W.heap[b]? = some (.cells C t fr)) (hC : ∀ j, j < N → C[j]? = some (.int .i64 (f j))) (hf : ∀ j, j < N → -9223372036854775808 ≤ f j ∧ f j < 9223372036854775808) (hN : N ≤ 1000) : SliceI W (.slice (some ⟨b, 0, none⟩) N N) N f :=
  ⟨⟨_, _, rfl, Nat.le_refl _, by unfold maxLen; omega, fun _ => ⟨b, 0, rfl, (Array.getElem?_eq_some_iff.1 hg).1, fun j hj => by rw [cell_of_row _ _ _ _ _ _ hg, Nat.zero_add]; exact hC j hj⟩⟩, hf⟩
theorem sliceI1 (V : World) : SliceI (V.alloc (.cells #[.int .i64 3, .int .i64 1, .int .i64 256] 3)) (.slice (some ⟨V.heap.size, 0, none⟩) 3 3) 3 b1 :=
  lit_ints (heapNew V _) (fun j hj => by
    match j, hj with
    | 0, _ => rfl
    | 1, _ => rfl
    | 2, _ => rfl
    | k + 3, h => omega) (fun j hj => by
    match j, hj with
    | 0, _ => decide
    | 1, _ => decide
    | 2, _ => decide
    | k + 3, h => omega) (by omega)
end Go.Proofs.Ytpclecbhfjalnaa.Drw
