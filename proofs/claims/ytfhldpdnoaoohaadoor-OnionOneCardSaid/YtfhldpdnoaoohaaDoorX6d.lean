import Derived.Test.YtfhldpdnoaoohaaDoorX6c
import Derived.Test.YtfhldpdnoaoohaaDoorY2
import Derived.Test.YtfhldpdnoaoohaaDoorL1
import Derived.Test.YtfhldpdnoaoohaaDoorD1
import Derived.Lib.SmallJoins
namespace Go.Proofs.YtfhldpdnoaoohaaDoor.Oni
open Go.ChangeShapes Go.WideShapes Go.ChangeAt Go.RowKit Gf8 Aes By8 Cel
/- A Job as an argument. -/

section
variable {H : Type} {enc : TypeId × Value → H} {P : Program} {k e : TypeId} {n : Nat} {W : World} {base : Nat} {sp : Nat → Bool} {held : Bool}
/-- The cells of an array of bytes that reads. -/
theorem cells_bytes (hu : P.underlying k = some (.array n e)) (he : P.underlying e = some (.int .u8)) (one : P.cellsOf e = 1) (size : P.cellsOf k = n) {fuel : Nat} {cs : List Value} {x : DataW H × List MemPlace}
    (hl : cs.length = n) (hf : DataW.trod enc P W base sp held fuel k cs = some x) : ∃ f : Nat → Nat, (∀ i, i < n → f i < 256) ∧ ∀ i, i < n → cs[i]? = some (.int .u8 (f i)) := by
  cases fuel with
  | zero => simp [DataW.trod] at hf
  | succ m =>
    rw [DataW.trod_step] at hf
    unfold DataW.trodStep at hf
    simp only [hu] at hf
    rw [if_pos (by rw [size]; exact hl)] at hf
    simp only [Option.map_eq_some_iff, one] at hf
    obtain ⟨ys, hy, e1⟩ := hf
    obtain ⟨f, hfd⟩ : ∃ f : Nat → Nat, ∀ i a, cs[i]? = some (.int .u8 a) → f i = a.toNat :=
      ⟨fun i => match cs[i]? with | some (.int .u8 a) => a.toNat | _ => 0, fun i a h => by simp only [h]⟩
    have key : ∀ i, i ∈ List.range n → ∀ y, DataW.trod enc P W base sp held m e ((cs.drop (i * 1)).take 1) = some y → y = (.lit (.int .u8 (f i)), []) ∧ cs[i]? = some (.int .u8 (f i)) ∧ f i < 256 := by
      intro i _ y hy
      obtain ⟨a, ea, rfl, wa⟩ := DataW.trod_int he hy
      have h1 := one_at _ ea
      have h2 := hfd i a h1
      have h3 := wfB.1 wa
      have h4 : (f i : Int) = a := by rw [h2]; omega
      rw [h4]
      exact ⟨rfl, h1, by omega⟩
    obtain ⟨r1, r2⟩ := mapM_back (h := fun i => ((.lit (.int .u8 (f i)), []) : DataW H × List MemPlace)) _ ys hy fun i hi y h => (key i hi y h).1
    have r3 : ∀ i, i < n → cs[i]? = some (.int .u8 (f i)) ∧ f i < 256 := fun i hi => (key i (List.mem_range.2 hi) _ (r2 i (List.mem_range.2 hi))).2
    exact ⟨f, fun i hi => (r3 i hi).2, fun i hi => (r3 i hi).1⟩
end

theorem take_at {cs : List Value} {o n i : Nat} (h : i < n) : ((cs.drop o).take n)[i]? = cs[o + i]? := by
  rw [List.getElem?_take, if_pos h, List.getElem?_drop]
theorem jobCells : Tryd.prog.cellsOf 36 = 19 := by kernel_rfl
set_option maxRecDepth 20000 in
/-- A Job that reads is one. -/
theorem job_read {H : Type} {enc : TypeId × Value → H} {W : World} {v : Value} {d : DataW H} {p : List MemPlace} (h : ∃ fuel, DataW.trod enc Tryd.prog W 0 (fun _ => true) true fuel 36 v.cells.toList = some (d, p))
    (hw : ∀ n ∈ d.weights Tryd.prog 36, n ≤ reachBytes) (hs : ∃ xs, v = .agg xs) :
    ∃ (vk vi : Value) (lk n : Nat) (key nonce inner : Nat → Nat) (left : Int), v = .agg (jC vk nonce left vi) ∧ SliceN W vk lk key ∧ By nonce ∧ SliceN W vi n inner ∧ lk ≤ 140737488351232 ∧ n ≤ 140737488351232 ∧ (∀ l c, vk = .slice none l c → c = 0) ∧ (∀ l c, vi = .slice none l c → c = 0) ∧ -9223372036854775808 ≤ left ∧ left < 9223372036854775808 := by
  obtain ⟨xs, rfl⟩ := hs
  obtain ⟨fuel, hf⟩ := h
  obtain ⟨y0, y1, y2, y3, k, hy, hl, t0, t1, t2, t3⟩ := Go.Joins.trod_struct4 Tryd.underlying36 hf
  rw [jobCells] at hl
  have hl2 : xs.toList.length = 19 := hl
  have hsz : xs.size = 19 := by simpa using hl2
  have c16 : Tryd.prog.cellsOf 25 = 16 := by kernel_rfl
  have c3 : Tryd.prog.cellsOf 3 = 1 := by kernel_rfl
  have c25 : Tryd.prog.cellsOf 24 = 1 := by kernel_rfl
  obtain ⟨v0, e0⟩ : ∃ v0, xs.toList[0]? = some v0 := ⟨_, List.getElem?_eq_getElem (by omega)⟩
  obtain ⟨v17, e17⟩ : ∃ v17, xs.toList[17]? = some v17 := ⟨_, List.getElem?_eq_getElem (by omega)⟩
  obtain ⟨v18, e18⟩ : ∃ v18, xs.toList[18]? = some v18 := ⟨_, List.getElem?_eq_getElem (by omega)⟩
  have o0 : (xs.toList.drop 0).take 1 = [v0] := one_of (i := 0) _ e0
  have o17 : (xs.toList.drop 17).take 1 = [v17] := one_of (i := 17) _ e17
  have o18 : (xs.toList.drop 18).take 1 = [v18] := one_of (i := 18) _ e18
  have t0' : DataW.trod enc Tryd.prog W 0 (fun _ => true) true k 24 [v0] = some y0 := by
    rw [← o0]
    have h := t0
    rw [show Tryd.prog.cellsOf (_ : TypeId) = 1 from c25] at h
    exact h
  have t1' : DataW.trod enc Tryd.prog W 0 (fun _ => true) true k 25 ((xs.toList.drop 1).take 16) = some y1 := by
    have h := t1
    rw [show Tryd.prog.cellsOf (_ : TypeId) = 16 from c16] at h
    exact h
  have t2' : DataW.trod enc Tryd.prog W 0 (fun _ => true) true k 3 [v17] = some y2 := by
    rw [← o17]
    have h := t2
    rw [show Tryd.prog.cellsOf (_ : TypeId) = 1 from c3] at h
    exact h
  have t3' : DataW.trod enc Tryd.prog W 0 (fun _ => true) true k 24 [v18] = some y3 := by
    rw [← o18]
    have h := t3
    rw [show Tryd.prog.cellsOf (_ : TypeId) = 1 from c25] at h
    exact h
  obtain ⟨st, hst, cst⟩ := cells_bytes Tryd.underlying25 Tryd.underlying5 (by kernel_rfl) (by kernel_rfl) (n := 16) (by simp; omega) t1'
  obtain ⟨z, hz, _, wz⟩ := DataW.trod_int Tryd.underlying3 t2'
  simp at hz
  subst hz
  have hD : d = .agg [y0.1, y1.1, y2.1, y3.1] := by simpa using (Prod.mk.inj hy).1
  obtain ⟨l0, q0, s0, b0, z0⟩ := By8.bytes_readJ t0' (fun n hn => hw n (by
    rw [hD]
    simp only [DataW.weights, Tryd.underlying36]
    simp [DataW.weightsEach, hn]))
  obtain ⟨l3, q3, s3, b3, z3⟩ := By8.bytes_readJ t3' (fun n hn => hw n (by
    rw [hD]
    simp only [DataW.weights, Tryd.underlying36]
    simp [DataW.weightsEach, hn]))
  refine ⟨v0, v18, l0, l3, q0, st, q3, z, ?_, s0, hst, s3, b0, b3, z0, z3, (wf_i64 wz).1, (wf_i64 wz).2⟩
  congr 1
  apply Array.ext_getElem?
  intro i
  rw [← Array.getElem?_toList]
  unfold jC
  rw [List.getElem?_toArray]
  by_cases h0 : i = 0
  · subst h0; rw [e0]; rfl
  · obtain ⟨m, rfl⟩ : ∃ m, i = m + 1 := ⟨i - 1, by omega⟩
    rw [List.getElem?_cons_succ]
    by_cases h1 : m < 16
    · have := cst m h1
      rw [take_at h1, Nat.add_comm] at this
      rw [this, List.getElem?_append_left (by rw [bytesL_len]; omega)]
      exact (bytesL_at 16 st h1).symm
    · rw [List.getElem?_append_right (by rw [bytesL_len]; omega), bytesL_len]
      by_cases h3 : m = 16
      · subst h3; rw [e17]; rfl
      · by_cases h4 : m = 17
        · subst h4; rw [e18]; rfl
        · rw [List.getElem?_eq_none (by omega), List.getElem?_eq_none (by simp; omega)]
set_option maxRecDepth 20000 in
theorem job_agg {W : World} {base : Nat} {v : Value} (h : Value.okWide Tryd.prog W .any base 36 v) : ∃ xs, v = .agg xs := by
  simp only [Value.okWide, Tryd.underlying36] at h
  obtain ⟨xs, e, _⟩ := h
  exact ⟨xs, e⟩
end Go.Proofs.YtfhldpdnoaoohaaDoor.Oni
