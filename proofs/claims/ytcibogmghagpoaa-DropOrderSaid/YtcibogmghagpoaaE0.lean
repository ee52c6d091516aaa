import Derived.Test.YtcibogmghagpoaaRows
import Derived.WalkKit
import Derived.WalkSpells
import Derived.Deep.WholeRow
import Derived.BigQuiet
import Derived.BigRegion
import Derived.Deep.QuietTactic
import Derived.Deep.RegionWith
namespace Go.Proofs.Ytcibogmghagpoaa
open Go.RowKit

/-- Nobody waits for a later one. -/
def frontB (md : Region.Mode) (ops : Array Oper) : Bool :=
  (List.range ops.size).all fun j => match ops[j]? with | some o => o.after.all fun e => !Region.binds md e || decide (e.on < j) | none => false
/-- How many of the first k have not come up. -/
def cnt (listed : Array Bool) : Nat → Nat
  | 0 => 0
  | k + 1 => cnt listed k + (if listed.getD k true = false then 1 else 0)
theorem cnt_le (listed : Array Bool) (j : Nat) : ∀ k, cnt (listed.setIfInBounds j true) k ≤ cnt listed k
  | 0 => Nat.le_refl _
  | k + 1 => by
    have ih := cnt_le listed j k
    simp only [cnt]
    by_cases e : j = k
    · subst e
      have : ¬ (listed.setIfInBounds j true).getD j true = false := by
        by_cases h : j < listed.size <;> simp [h]
      rw [if_neg this]
      omega
    · rw [getD_set_ne true e]
      omega
theorem cnt_lt (listed : Array Bool) (j : Nat) (hj : listed.getD j true = false) : ∀ k, j < k → cnt (listed.setIfInBounds j true) k + 1 ≤ cnt listed k
  | 0, h => by omega
  | k + 1, h => by
    simp only [cnt]
    by_cases e : j = k
    · subst e
      have : ¬ (listed.setIfInBounds j true).getD j true = false := by
        by_cases h : j < listed.size <;> simp [h]
      rw [if_neg this, if_pos hj]
      have := cnt_le listed j j
      omega
    · rw [getD_set_ne true e]
      have := cnt_lt listed j hj k (by omega)
      omega
theorem cnt_zero (listed : Array Bool) : ∀ k, cnt listed k = 0 → ∀ j, j < k → listed.getD j true = true
  | 0, _, j, hj => by omega
  | k + 1, h, j, hj => by
    simp only [cnt] at h
    by_cases e : j = k
    · subst e
      cases hb : listed.getD j true with
      | true => rfl
      | false => rw [if_pos hb] at h; omega
    · exact cnt_zero listed k (by omega) j (by omega)
theorem cnt_bound (listed : Array Bool) : ∀ k, cnt listed k ≤ k
  | 0 => Nat.le_refl _
  | k + 1 => by
    have := cnt_bound listed k
    simp only [cnt]
    split <;> omega

section
variable {P : Program} {md : Region.Mode} {ops : Array Oper} {Q : Exit → Act → World → Prop}

theorem frontB_spec (h : frontB md ops = true) (j : Nat) (o : Oper) (hj : ops[j]? = some o) (e : _) (he : e ∈ o.after) (hb : Region.binds md e = true) : e.on < j := by
  have hlt : j < ops.size := (Array.getElem?_eq_some_iff.1 hj).1
  have h4 := (List.all_eq_true.1 h) j (List.mem_range.2 hlt)
  rw [hj] at h4
  simp only at h4
  have h5 := (Array.all_eq_true_iff_forall_mem.1 h4) e he
  simpa [hb] using h5
theorem all_of_ready (hf : frontB md ops = true) {listed : Array Bool} (hs : listed.size = ops.size) (hnil : Region.ready md ops listed = []) : ∀ j, j < ops.size → listed.getD j true = true := by
  intro j
  induction j using Nat.strongRecOn with
  | ind j ih =>
    intro hj
    cases hb : listed.getD j true with
    | true => rfl
    | false =>
      have : j ∈ Region.ready md ops listed := mem_ready.2 ⟨hb, ops[j], by simp [hj], fun e he hbd => by
        have hlt := frontB_spec hf j _ (by simp [hj]) e he hbd
        have h1 := ih e.on hlt (by omega)
        have hl : e.on < listed.size := by omega
        simp [hl] at h1 ⊢
        exact h1⟩
      rw [hnil] at this
      cases this

/-- A REGION IN WHATEVER ORDER, BY AN INVARIANT. -/
theorem wpAny_inv (I : Array Bool → Act → World → Prop) (hf : frontB md ops = true) (hsize : ∀ listed a w, I listed a w → listed.size = ops.size)
    (hstep : ∀ listed a w, I listed a w → ∀ j o, ops[j]? = some o → listed.getD j true = false → (∀ e ∈ o.after, Region.binds md e = true → listed.getD e.on false = true) → wpOp P ops Q j (fun a' w' => I (listed.setIfInBounds j true) a' w') a w)
    (hend : ∀ listed a w, I listed a w → (∀ j, j < ops.size → listed.getD j true = true) → Q .normal a w) :
    ∀ (fuel : Nat) (listed : Array Bool) (a : Act) (w : World), cnt listed ops.size ≤ fuel → I listed a w → wpAny P md ops Q fuel listed a w := by
  intro fuel
  induction fuel with
  | zero =>
    intro listed a w hc hI
    have hall := cnt_zero listed ops.size (by omega)
    refine ⟨?_, hend _ _ _ hI hall⟩
    apply List.eq_nil_iff_forall_not_mem.2
    intro j hj
    obtain ⟨h1, o, ho, _⟩ := mem_ready.1 hj
    rw [hall j (Array.getElem?_eq_some_iff.1 ho).1] at h1
    cases h1
  | succ fuel ih =>
    intro listed a w hc hI
    refine ⟨fun hnil => hend _ _ _ hI (all_of_ready hf (hsize _ _ _ hI) hnil), fun j hj => ?_⟩
    obtain ⟨h1, o, ho, hw⟩ := mem_ready.1 hj
    refine wpOp_mono (fun a' w' hI' => ih _ a' w' ?_ hI') (hstep listed a w hI j o ho h1 hw)
    have := cnt_lt listed j h1 ops.size (Array.getElem?_eq_some_iff.1 ho).1
    omega
theorem wp_region_inv {id : Nat} {a : Act} {w : World} (I : Array Bool → Act → World → Prop) (hm : P.follows .mixedOrders = true) (hf : frontB .any ops = true) (h0 : I (Array.replicate ops.size false) a w.drew)
    (hsize : ∀ listed a w, I listed a w → listed.size = ops.size)
    (hstep : ∀ listed a w, I listed a w → ∀ j o, ops[j]? = some o → listed.getD j true = false → (∀ e ∈ o.after, Region.binds .any e = true → listed.getD e.on false = true) → wpOp P ops Q j (fun a' w' => I (listed.setIfInBounds j true) a' w') a w)
    (hend : ∀ listed a w, I listed a w → (∀ j, j < ops.size → listed.getD j true = true) → Q .normal a w) : (Code.region id ops true).wp P Q a w :=
  wp_region_any hm (wpAny_inv I hf hsize hstep hend _ _ _ _ (cnt_bound _ _) h0)
end
end Go.Proofs.Ytcibogmghagpoaa
