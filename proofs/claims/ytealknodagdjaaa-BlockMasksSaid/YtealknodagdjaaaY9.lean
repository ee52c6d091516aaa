import Derived.Test.YtealknodagdjaaaY8
import Derived.Test.YtealknodagdjaaaY4
import Derived.Lib.SmallJoins
namespace Go.Proofs.Ytealknodagdjaaa.Aes
open Go.ChangeShapes Go.WideShapes Go.ChangeAt Go.RowKit Gf8 By8
/- A Job as an argument. -/

/-- A []byte in a field that reads is one. -/
theorem bytes_readJ {H : Type} {enc : TypeId × Value → H} {W : World} {v : Value} {y : DataW H × List MemPlace} {fuel : Nat} (h : DataW.trod enc Try.prog W 0 (fun _ => true) true fuel 25 [v] = some y)
    (hw : ∀ n ∈ y.1.weights Try.prog 25, n ≤ reachBytes) : ∃ (len : Nat) (f : Nat → Nat), SliceN W v len f ∧ len ≤ 140737488351232 ∧ ∀ l c, v = .slice none l c → c = 0 := by
  have hs : ∃ a l c, v = .slice a l c ∧ (a = none → c = 0) := by
    rcases open_ints Try.underlying25 Try.underlying5 (by kernel_rfl) h with ⟨hcs, _⟩ | ⟨x, l, c, zs, hcs, _⟩
    · simp at hcs
      exact ⟨_, _, _, hcs, fun _ => rfl⟩
    · simp at hcs
      exact ⟨_, _, _, hcs, fun h => by cases h⟩
  obtain ⟨a, l, c, rfl, hz⟩ := hs
  obtain ⟨len, f, h1, h2⟩ := By8.bytes_read (d := y.1) (p := y.2) ⟨fuel, h⟩ hw ⟨a, l, c, rfl⟩
  refine ⟨len, f, h1, h2, fun l' c' e => ?_⟩
  injection e with e1 _ e3
  rw [← e3]
  exact hz e1
theorem jobCells : Try.prog.cellsOf 41 = 34 := by kernel_rfl
theorem take_at {cs : List Value} {o n i : Nat} (h : i < n) : ((cs.drop o).take n)[i]? = cs[o + i]? := by
  rw [List.getElem?_take, if_pos h, List.getElem?_drop]
theorem bytesL_eq {n : Nat} {f g : Nat → Nat} (h : ∀ j, j < n → f j = g j) : bytesL n f = bytesL n g := by
  unfold bytesL
  refine List.map_congr_left fun j hj => ?_
  rw [h j (List.mem_range.1 hj)]
/-- A Job that reads is one. -/
theorem job_read {H : Type} {enc : TypeId × Value → H} {W : World} {v : Value} {d : DataW H} {p : List MemPlace} (h : ∃ fuel, DataW.trod enc Try.prog W 0 (fun _ => true) true fuel 41 v.cells.toList = some (d, p))
    (hw : ∀ n ∈ d.weights Try.prog 41, n ≤ reachBytes) (hs : ∃ xs, v = .agg xs) :
    ∃ (key : Nat → Nat) (s0 : Nat) (n : Int) (u : Value) (len : Nat) (q : Nat → Nat), By key ∧ v = .agg (jobL key (be s0) n u).toArray ∧ SliceN W u len q ∧ len ≤ 140737488351232 ∧ (∀ l c, u = .slice none l c → c = 0) ∧ -9223372036854775808 ≤ n ∧ n < 9223372036854775808 := by
  obtain ⟨xs, rfl⟩ := hs
  obtain ⟨fuel, hf⟩ := h
  obtain ⟨y0, y1, y2, y3, k, hy, hl, t0, t1, t2, t3⟩ := Go.Joins.trod_struct4 Try.underlying41 hf
  rw [jobCells] at hl
  have hl2 : xs.toList.length = 34 := hl
  have hsz : xs.size = 34 := by simpa using hl2
  have c16 : Try.prog.cellsOf 23 = 16 := by kernel_rfl
  have c3 : Try.prog.cellsOf 3 = 1 := by kernel_rfl
  have c25 : Try.prog.cellsOf 25 = 1 := by kernel_rfl
  have t0' : DataW.trod enc Try.prog W 0 (fun _ => true) true k 23 ((xs.toList.drop 0).take 16) = some y0 := by rw [← c16]; exact t0
  have t1' : DataW.trod enc Try.prog W 0 (fun _ => true) true k 23 ((xs.toList.drop 16).take 16) = some y1 := by
    have h := t1
    rw [show Try.prog.cellsOf (_ : TypeId) = 16 from c16] at h
    exact h
  have e32 : ∃ v32, xs.toList[32]? = some v32 := ⟨_, List.getElem?_eq_getElem (by omega)⟩
  have e33 : ∃ v33, xs.toList[33]? = some v33 := ⟨_, List.getElem?_eq_getElem (by omega)⟩
  obtain ⟨v32, e32⟩ := e32
  obtain ⟨v33, e33⟩ := e33
  have o32 : (xs.toList.drop 32).take 1 = [v32] := one_of (i := 32) _ e32
  have o33 : (xs.toList.drop 33).take 1 = [v33] := one_of (i := 33) _ e33
  have t2' : DataW.trod enc Try.prog W 0 (fun _ => true) true k 3 [v32] = some y2 := by
    rw [← o32]
    have h := t2
    rw [show Try.prog.cellsOf (_ : TypeId) = 1 from c3] at h
    exact h
  have t3' : DataW.trod enc Try.prog W 0 (fun _ => true) true k 25 [v33] = some y3 := by
    rw [← o33]
    have h := t3
    rw [show Try.prog.cellsOf (_ : TypeId) = 1 from c25] at h
    exact h
  obtain ⟨key, hk, ck⟩ := cells_bytes Try.underlying23 Try.underlying5 (by kernel_rfl) (by kernel_rfl) (n := 16) (by simp; omega) t0'
  obtain ⟨st, hst, cst⟩ := cells_bytes Try.underlying23 Try.underlying5 (by kernel_rfl) (by kernel_rfl) (n := 16) (by simp; omega) t1'
  obtain ⟨z, hz, _, wz⟩ := DataW.trod_int Try.underlying3 t2'
  simp at hz
  subst hz
  have hD : d = .agg [y0.1, y1.1, y2.1, y3.1] := by simpa using (Prod.mk.inj hy).1
  obtain ⟨len, q, s1, s2, s3⟩ := bytes_readJ t3' (fun n hn => hw n (by
    rw [hD]
    simp only [DataW.weights, Try.underlying41]
    simp [DataW.weightsEach, hn]))
  refine ⟨key, num st, z, v33, len, q, hk, ?_, s1, s2, s3, (wf_i64 wz).1, (wf_i64 wz).2⟩
  congr 1
  apply Array.ext_getElem?
  intro i
  rw [← Array.getElem?_toList, List.getElem?_toArray]
  unfold jobL
  rw [bytesL_eq (be_num hst)]
  by_cases h1 : i < 16
  · have := ck i h1
    rw [take_at h1, Nat.zero_add] at this
    rw [this, List.getElem?_append_left (by rw [bytesL_len]; omega)]
    exact (bytesL_at 16 key h1).symm
  · rw [List.getElem?_append_right (by rw [bytesL_len]; omega), bytesL_len]
    by_cases h2 : i < 32
    · have := cst (i - 16) (by omega)
      rw [take_at (by omega), show 16 + (i - 16) = i by omega] at this
      rw [this, List.getElem?_append_left (by rw [bytesL_len]; omega)]
      exact (bytesL_at 16 st (by omega)).symm
    · rw [List.getElem?_append_right (by rw [bytesL_len]; omega), bytesL_len]
      by_cases h3 : i = 32
      · subst h3; rw [e32]; rfl
      · by_cases h4 : i = 33
        · subst h4; rw [e33]; rfl
        · rw [List.getElem?_eq_none (by omega), List.getElem?_eq_none (by simp; omega)]
end Go.Proofs.Ytealknodagdjaaa.Aes
