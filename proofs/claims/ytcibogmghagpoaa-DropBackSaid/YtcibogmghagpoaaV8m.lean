import Derived.Test.YtcibogmghagpoaaV8i
import Derived.Test.YtcibogmghagpoaaV8l
import Derived.Lib.SmallJoins
namespace Go.Proofs.Ytcibogmghagpoaa.Dro
open Go.ChangeShapes Go.WideShapes Go.ChangeAt Go.RowKit Gf8 Aes By8 Cel
/- A Pair as an argument. -/

section
variable {H : Type} {enc : TypeId × Value → H} {P : Program} {k e : TypeId} {n : Nat} {W : World} {base : Nat} {sp : Nat → Bool} {held : Bool}
/-- The cells of an array of bytes that reads. -/
theorem cells_bytes (hu : P.underlying k = some (.array n e)) (he : P.underlying e = some (.int .u8)) (one : P.cellsOf e = 1) (size : P.cellsOf k = n) {fuel : Nat} {cs : List Value} {x : DataW H × List MemPlace}
    (hl : cs.length = n) (hf : DataW.trod enc P W base sp held fuel k cs = some x) : ∃ f : Nat → Nat, (∀ i, i < n → f i < 256) ∧ ∀ i, i < n → cs[i]? = some (.int .u8 (f i)) := by
  cases fuel with
  | zero => simp [DataW.trod] at hf
  | succ m =>
    rw [DataW.trod_step] at hf
    unfold DataW.trodStep at hf
    simp only [hu] at hf
    rw [if_pos (by rw [size]; exact hl)] at hf
    simp only [Option.map_eq_some_iff, one] at hf
    obtain ⟨ys, hy, e1⟩ := hf
    obtain ⟨f, hfd⟩ : ∃ f : Nat → Nat, ∀ i a, cs[i]? = some (.int .u8 a) → f i = a.toNat :=
      ⟨fun i => match cs[i]? with | some (.int .u8 a) => a.toNat | _ => 0, fun i a h => by simp only [h]⟩
    have key : ∀ i, i ∈ List.range n → ∀ y, DataW.trod enc P W base sp held m e ((cs.drop (i * 1)).take 1) = some y → y = (.lit (.int .u8 (f i)), []) ∧ cs[i]? = some (.int .u8 (f i)) ∧ f i < 256 := by
      intro i _ y hy
      obtain ⟨a, ea, rfl, wa⟩ := DataW.trod_int he hy
      have h1 := one_at _ ea
      have h2 := hfd i a h1
      have h3 := wfB.1 wa
      have h4 : (f i : Int) = a := by rw [h2]; omega
      rw [h4]
      exact ⟨rfl, h1, by omega⟩
    obtain ⟨r1, r2⟩ := mapM_back (h := fun i => ((.lit (.int .u8 (f i)), []) : DataW H × List MemPlace)) _ ys hy fun i hi y h => (key i hi y h).1
    have r3 : ∀ i, i < n → cs[i]? = some (.int .u8 (f i)) ∧ f i < 256 := fun i hi => (key i (List.mem_range.2 hi) _ (r2 i (List.mem_range.2 hi))).2
    exact ⟨f, fun i hi => (r3 i hi).2, fun i hi => (r3 i hi).1⟩
end
theorem agg_of {W : World} {base : Nat} {v : Value} {k : TypeId} {fs : Array Field} (hk : Try.prog.underlying k = some (.struct fs)) (h : Value.okWide Try.prog W .any base k v) : ∃ xs, v = .agg xs := by
  simp only [Value.okWide, hk] at h
  obtain ⟨xs, e, _⟩ := h
  exact ⟨xs, e⟩
theorem pr_one {α : Type} {i : Nat} {l : List α} {x : α} (h : l[i]? = some x) : (l.drop i).take 1 = [x] := by
  obtain ⟨hl, rfl⟩ := List.getElem?_eq_some_iff.1 h
  rw [List.drop_eq_getElem_cons hl]
  rfl
theorem pairCells : Try.prog.cellsOf 41 = 11 := by kernel_rfl
set_option maxRecDepth 20000 in
theorem pair_read {H : Type} {enc : TypeId × Value → H} {W : World} {v : Value} {d : DataW H} {p : List MemPlace} (h : ∃ fuel, DataW.trod enc Try.prog W 0 (fun _ => true) true fuel 41 v.cells.toList = some (d, p))
    (hw : ∀ n ∈ d.weights Try.prog 41, n ≤ reachBytes) (hs : ∃ xs, v = .agg xs) :
    ∃ (nm f g : Nat → Nat) (m s n : Nat) (fv sv ov : Value) (xv : Nat → Value) (ln : Nat → Nat) (c : Nat → Nat → Nat), v = .agg (prC nm fv sv ov) ∧ (∀ j, j < 8 → nm j < 256) ∧ (SliceN W fv m f ∧ m ≤ 140737488351232 ∧ ∀ l c, fv = .slice none l c → c = 0) ∧ (SliceN W sv s g ∧ s ≤ 140737488351232 ∧ ∀ l c, sv = .slice none l c → c = 0) ∧ Ls W ov n xv ln c := by
  obtain ⟨xs, rfl⟩ := hs
  obtain ⟨fuel, hf⟩ := h
  obtain ⟨y0, y1, y2, y3, k, hy, hl, t0, t1, t2, t3⟩ := Go.Joins.trod_struct4 Try.underlying41 hf
  rw [pairCells] at hl
  have hl2 : xs.toList.length = 11 := hl
  have c8 : Try.prog.cellsOf 22 = 8 := by kernel_rfl
  have c25 : Try.prog.cellsOf 23 = 1 := by kernel_rfl
  have cLL : Try.prog.cellsOf 29 = 1 := by kernel_rfl
  obtain ⟨v8, e8⟩ : ∃ v8, xs.toList[8]? = some v8 := ⟨_, List.getElem?_eq_getElem (by omega)⟩
  obtain ⟨v9, e9⟩ : ∃ v9, xs.toList[9]? = some v9 := ⟨_, List.getElem?_eq_getElem (by omega)⟩
  obtain ⟨v10, e10⟩ : ∃ v10, xs.toList[10]? = some v10 := ⟨_, List.getElem?_eq_getElem (by omega)⟩
  have t0' : DataW.trod enc Try.prog W 0 (fun _ => true) true k 22 ((xs.toList.drop 0).take 8) = some y0 := by
    have h := t0
    rw [show Try.prog.cellsOf (_ : TypeId) = 8 from c8] at h
    exact h
  have t1' : DataW.trod enc Try.prog W 0 (fun _ => true) true k 23 [v8] = some y1 := by
    rw [← pr_one e8]
    have h := t1
    rw [show Try.prog.cellsOf (_ : TypeId) = 1 from c25] at h
    exact h
  have t2' : DataW.trod enc Try.prog W 0 (fun _ => true) true k 23 [v9] = some y2 := by
    rw [← pr_one e9]
    have h := t2
    rw [show Try.prog.cellsOf (_ : TypeId) = 1 from c25] at h
    exact h
  have t3' : DataW.trod enc Try.prog W 0 (fun _ => true) true k 29 [v10] = some y3 := by
    rw [← pr_one e10]
    have h := t3
    rw [show Try.prog.cellsOf (_ : TypeId) = 1 from cLL] at h
    exact h
  obtain ⟨st, hst, cst⟩ := cells_bytes Try.underlying22 Try.underlying5 (by kernel_rfl) (by kernel_rfl) (n := 8) (by rw [List.length_take, List.length_drop]; omega) t0'
  have hD : d = .agg [y0.1, y1.1, y2.1, y3.1] := by simpa using (Prod.mk.inj hy).1
  obtain ⟨l1, q1, s1, b1, z1⟩ := By8.bytes_readJ t1' (fun n hn => hw n (by
    rw [hD]
    simp only [DataW.weights, Try.underlying41]
    simp [DataW.weightsEach, hn]))
  obtain ⟨l2, q2, s2, b2, z2⟩ := By8.bytes_readJ t2' (fun n hn => hw n (by
    rw [hD]
    simp only [DataW.weights, Try.underlying41]
    simp [DataW.weightsEach, hn]))
  obtain ⟨n3, xv3, ln3, c3, s3, _⟩ := cells_read (d := y3.1) (p := y3.2) t3' (fun n hn => hw n (by
    rw [hD]
    simp only [DataW.weights, Try.underlying41]
    simp [DataW.weightsEach, hn]))
  refine ⟨st, q1, q2, l1, l2, n3, v8, v9, v10, xv3, ln3, c3, ?_, hst, ⟨s1, b1, z1⟩, ⟨s2, b2, z2⟩, s3⟩
  congr 1
  apply Array.ext_getElem?
  intro i
  rw [← Array.getElem?_toList]
  unfold prC
  rw [List.getElem?_toArray]
  by_cases h0 : i < 8
  · have q := cst i h0
    rw [List.drop_zero, List.getElem?_take_of_lt h0] at q
    rw [q, List.getElem?_append_left (by rw [bytesL_len]; exact h0), bytesL_at 8 _ h0]
  · obtain ⟨m, rfl⟩ : ∃ m, i = 8 + m := ⟨i - 8, by omega⟩
    rw [List.getElem?_append_right (by rw [bytesL_len]; omega), bytesL_len, Nat.add_sub_cancel_left]
    match m with
    | 0 => exact e8
    | 1 => exact e9
    | 2 => exact e10
    | m + 3 => rw [List.getElem?_eq_none (by omega)]; rfl
end Go.Proofs.Ytcibogmghagpoaa.Dro
