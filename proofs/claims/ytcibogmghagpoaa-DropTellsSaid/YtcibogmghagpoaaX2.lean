import Derived.Test.YtcibogmghagpoaaRows
import Derived.ProofKit
import Derived.OpenShut
import Derived.WideKeyPair
namespace Go.Proofs.Ytcibogmghagpoaa
open Go.ChangeShapes Go.WideShapes Go.ChangeAt Go.RowKit
/- An array of n bytes as an argument: opened, and shut again. -/

theorem wfB {z : Int} : (Lit.int .u8 z).wf = true ↔ 0 ≤ z ∧ z < 256 := by
  have a : IntKind.u8.min = 0 := rfl
  have b : IntKind.u8.max = 255 := rfl
  simp [Lit.wf]
  omega
def bytesL (n : Nat) (f : Nat → Nat) : List Value := (List.range n).map fun i => .int .u8 (f i)
theorem bytesL_len (n : Nat) (f : Nat → Nat) : (bytesL n f).length = n := by simp [bytesL]
theorem bytesL_at (n : Nat) (f : Nat → Nat) {i : Nat} (h : i < n) : (bytesL n f)[i]? = some (.int .u8 (f i)) := by
  simp [bytesL, h]
theorem mapM_back {α β : Type} {g : α → Option β} {h : α → β} : ∀ (L : List α) (ys : List β), L.mapM g = some ys → (∀ i, i ∈ L → ∀ y, g i = some y → y = h i) → ys = L.map h ∧ ∀ i, i ∈ L → g i = some (h i)
  | [], ys, e, _ => by
    simp at e
    subst e
    exact ⟨rfl, fun i hi => by simp at hi⟩
  | x :: L, ys, e, H => by
    rw [List.mapM_cons] at e
    simp only [bind, Option.bind_eq_some_iff, pure, Option.some.injEq] at e
    obtain ⟨y, hy, zs, hz, rfl⟩ := e
    obtain ⟨r1, r2⟩ := mapM_back L zs hz fun i hi => H i (List.mem_cons_of_mem _ hi)
    have hx := H x List.mem_cons_self y hy
    subst hx
    refine ⟨by rw [r1]; rfl, fun i hi => ?_⟩
    rcases List.mem_cons.1 hi with rfl | hi
    · exact hy
    · exact r2 i hi
theorem mapM_forth {α β : Type} {g : α → Option β} {h : α → β} : ∀ (L : List α), (∀ i, i ∈ L → g i = some (h i)) → L.mapM g = some (L.map h)
  | [], _ => rfl
  | x :: L, H => by
    rw [List.mapM_cons, H x List.mem_cons_self, mapM_forth L fun i hi => H i (List.mem_cons_of_mem _ hi)]
    rfl

section
variable {H : Type} {enc : TypeId × Value → H} {P : Program} {k e : TypeId} {n : Nat} {W : World} {base : Nat} {sp : Nat → Bool} {held : Bool}
theorem one_at (cs : List Value) {i : Nat} {v : Value} (h : (cs.drop (i * 1)).take 1 = [v]) : cs[i]? = some v := by
  rw [Nat.mul_one] at h
  have h2 : ((cs.drop i).take 1)[0]? = some v := by rw [h]; rfl
  simpa using h2
theorem one_of (cs : List Value) {i : Nat} {v : Value} (h : cs[i]? = some v) : (cs.drop (i * 1)).take 1 = [v] := by
  rw [Nat.mul_one]
  obtain ⟨hl, hv⟩ := List.getElem?_eq_some_iff.1 h
  rw [List.drop_eq_getElem_cons hl, hv]
  rfl
/-- An array of bytes that was handed in. -/
theorem open_bytes (hu : P.underlying k = some (.array n e)) (he : P.underlying e = some (.int .u8)) (one : P.cellsOf e = 1) (size : P.cellsOf k = n) {r : Reach} {b0 : Nat} {v : Value} {d : DataW H} {ps : List MemPlace}
    (hval : Value.okWide P W r b0 k v) (hd : DataW.Trod enc P W base sp held k v d ps) :
    ∃ f : Nat → Nat, (∀ i, i < n → f i < 256) ∧ v = .agg (bytesL n f).toArray ∧ d = .agg ((List.range n).map fun i => .lit (.int .u8 (f i))) ∧ ps = [] := by
  simp only [Value.okWide, hu] at hval
  obtain ⟨xs, rfl, hs, _⟩ := hval
  rw [size] at hs
  obtain ⟨fuel, hf⟩ := hd
  cases fuel with
  | zero => simp [DataW.trod] at hf
  | succ m =>
    rw [DataW.trod_step] at hf
    unfold DataW.trodStep at hf
    simp only [hu, Value.cells] at hf
    rw [if_pos (by rw [size]; simpa using hs)] at hf
    simp only [Option.map_eq_some_iff, one] at hf
    obtain ⟨ys, hy, e1⟩ := hf
    obtain ⟨f, hfd⟩ : ∃ f : Nat → Nat, ∀ i a, xs.toList[i]? = some (.int .u8 a) → f i = a.toNat :=
      ⟨fun i => match xs.toList[i]? with | some (.int .u8 a) => a.toNat | _ => 0, fun i a h => by simp only [h]⟩
    have key : ∀ i, i ∈ List.range n → ∀ y, DataW.trod enc P W base sp held m e ((xs.toList.drop (i * 1)).take 1) = some y → y = (.lit (.int .u8 (f i)), []) ∧ xs.toList[i]? = some (.int .u8 (f i)) ∧ f i < 256 := by
      intro i _ y hy
      obtain ⟨a, ea, rfl, wa⟩ := DataW.trod_int he hy
      have h1 := one_at _ ea
      have h2 := hfd i a h1
      have h3 := wfB.1 wa
      have h4 : (f i : Int) = a := by rw [h2]; omega
      rw [h4]
      exact ⟨rfl, h1, by omega⟩
    obtain ⟨r1, r2⟩ := mapM_back (h := fun i => ((.lit (.int .u8 (f i)), []) : DataW H × List MemPlace)) _ ys hy fun i hi y h => (key i hi y h).1
    have r3 : ∀ i, i < n → xs.toList[i]? = some (.int .u8 (f i)) ∧ f i < 256 := fun i hi => (key i (List.mem_range.2 hi) _ (r2 i (List.mem_range.2 hi))).2
    simp only [Prod.mk.injEq] at e1
    refine ⟨f, fun i hi => (r3 i hi).2, ?_, ?_, ?_⟩
    · congr 1
      apply Array.ext_getElem?
      intro i
      by_cases hi : i < n
      · have := (r3 i hi).1
        rw [Array.getElem?_toList] at this
        rw [this, List.getElem?_toArray, bytesL_at n f hi]
      · rw [Array.getElem?_eq_none (by omega), List.getElem?_toArray, List.getElem?_eq_none (by rw [bytesL_len]; omega)]
    · rw [← e1.1, r1]; simp [Function.comp_def]
    · rw [← e1.2, r1]; simp [List.flatMap_eq_nil_iff]
theorem shut_bytes (hu : P.underlying k = some (.array n e)) (he : P.underlying e = some (.int .u8)) (one : P.cellsOf e = 1) (size : P.cellsOf k = n) {f : Nat → Nat} (hf : ∀ i, i < n → f i < 256) :
    DataW.Trod enc P W base sp held k (.agg (bytesL n f).toArray) (.agg ((List.range n).map fun i => .lit (.int .u8 (f i)))) [] :=
  ⟨2, by
    show DataW.trod enc P W base sp held (1 + 1) k (bytesL n f) = _
    rw [DataW.trod_step]
    unfold DataW.trodStep
    simp only [hu]
    rw [if_pos (by rw [size, bytesL_len])]
    simp only [one]
    rw [mapM_forth (h := fun i => ((.lit (.int .u8 (f i)), []) : DataW H × List MemPlace)) (List.range n) fun i hi => by
      have hi' := List.mem_range.1 hi
      have hw := wfB.2 (show 0 ≤ (f i : Int) ∧ (f i : Int) < 256 by have := hf i hi'; omega)
      rw [one_of _ (bytesL_at n f hi')]
      simp [DataW.trod, he, hw]]
    simp [Function.comp_def, List.flatMap_eq_nil_iff]⟩
end
end Go.Proofs.Ytcibogmghagpoaa
