import Derived.Test.YtealknodagdjaaaY8
import Derived.Test.YtealknodagdjaaaY4
import Derived.Lib.SmallJoins
import Derived.ProofKit
import Derived.OpenShut
import Derived.Test.YtealknodagdjaaaZ2
namespace Go.Proofs.Ytealknodagdjaaa.Aes
open Go.ChangeShapes Go.WideShapes Go.ChangeAt Go.RowKit Gf8 By8
/- A Job as an argument. -/

/-- A []byte in a field that reads is one. -/
theorem bytes_readJ {H : Type} {enc : TypeId × Value → H} {W : World} {v : Value} {y : DataW H × List MemPlace} {fuel : Nat} (h : DataW.trod enc Try.prog W 0 (fun _ => true) true fuel 25 [v] = some y)
    (hw : ∀ n ∈ y.1.weights Try.prog 25, n ≤ reachBytes) : ∃ (len : Nat) (f : Nat → Nat), SliceN W v len f ∧ len ≤ 140737488351232 ∧ ∀ l c, v = .slice none l c → c = 0 := by
  have hs : ∃ a l c, v = .slice a l c ∧ (a = none → c = 0) := by
    rcases open_ints Try.underlying25 Try.underlying5 (by kernel_rfl) h with ⟨hcs, _⟩ | ⟨x, l, c, zs, hcs, _⟩
    · simp at hcs
      exact ⟨_, _, _, hcs, fun _ => rfl⟩
    · simp at hcs
      exact ⟨_, _, _, hcs, fun h => by cases h⟩
  obtain ⟨a, l, c, rfl, hz⟩ := hs
  obtain ⟨len, f, h1, h2⟩ := By8.bytes_read (d := y.1) (p := y.2) ⟨fuel, h⟩ hw ⟨a, l, c, rfl⟩
  refine ⟨len, f, h1, h2, fun l' c' e => ?_⟩
  injection e with e1 _ e3
  rw [← e3]
  exact hz e1
theorem jobCells : Try.prog.cellsOf 41 = 34 := by kernel_rfl
theorem take_at {cs : List Value} {o n i : Nat} (h : i < n) : ((cs.drop o).take n)[i]? = cs[o + i]? := by
  rw [List.getElem?_take, if_pos h, List.getElem?_drop]
theorem bytesL_eq {n : Nat} {f g : Nat → Nat} (h : ∀ j, j < n → f j = g j) : bytesL n f = bytesL n g := by
  unfold bytesL
  refine List.map_congr_left fun j hj => ?_
  rw [h j (List.mem_range.1 hj)]
/-- A Job that reads is one. -/
theorem job_read {H : Type} {enc : TypeId × Value → H} {W : World} {v : Value} {d : DataW H} {p : List MemPlace} (h : ∃ fuel, DataW.trod enc Try.prog W 0 (fun _ => true) true fuel 41 v.cells.toList = some (d, p))
    (hw : ∀ n ∈ d.weights Try.prog 41, n ≤ reachBytes) (hs : ∃ xs, v = .agg xs) :
    ∃ (key : Nat → Nat) (s0 : Nat) (n : Int) (u : Value) (len : Nat) (q : Nat → Nat), By key ∧ v = .agg (jobL key (be s0) n u).toArray ∧ SliceN W u len q ∧ len ≤ 140737488351232 ∧ (∀ l c, u = .slice none l c → c = 0) ∧ -9223372036854775808 ≤ n ∧ n < 9223372036854775808 := by
  obtain ⟨xs, rfl⟩ := hs
  obtain ⟨fuel, hf⟩ := h
  obtain ⟨y0, y1, y2, y3, k, hy, hl, t0, t1, t2, t3⟩ := Go.Joins.trod_struct4 Try.underlying41 hf
  rw [jobCells] at hl
  have hl2 : xs.toList.length = 34 := hl
  have hsz : xs.size = 34 := by simpa using hl2
  have c16 : Try.prog.cellsOf 23 = 16 := by kernel_rfl
  have c3 : Try.prog.cellsOf 3 = 1 := by kernel_rfl
  have c25 : Try.prog.cellsOf 25 = 1 := by kernel_rfl
  have t0' : DataW.trod enc Try.prog W 0 (fun _ => true) true k 23 ((xs.toList.drop 0).take 16) = some y0 := by rw [← c16]; exact t0
  have t1' : DataW.trod enc Try.prog W 0 (fun _ => true) true k 23 ((xs.toList.drop 16).take 16) = some y1 := by
    have h := t1
    rw [show Try.prog.cellsOf (_ : TypeId) = 16 from c16] at h
    exact h
  have e32 : ∃ v32, xs.toList[32]? = some v32 := ⟨_, List.getElem?_eq_getElem (by omega)⟩
  have e33 : ∃ v33, xs.toList[33]? = some v33 := ⟨_, List.getElem?_eq_getElem (by omega)⟩
  obtain ⟨v32, e32⟩ := e32
  obtain ⟨v33, e33⟩ := e33
  have o32 : (xs.toList.drop 32).take 1 = [v32] := one_of (i := 32) _ e32
  have o33 : (xs.toList.drop 33).take 1 = [v33] := one_of (i := 33) _ e33
  have t2' : DataW.trod enc Try.prog W 0 (fun _ => true) true k 3 [v32] = some y2 := by
    rw [← o32]
    have h := t2
    rw [show Try.prog.cellsOf (_ : TypeId) = 1 from c3] at h
    exact h
  have t3' : DataW.trod enc Try.prog W 0 (fun _ => true) true k 25 [v33] = some y3 := by
    rw [← o33]
    have h := t3
    rw [show Try.prog.cellsOf (_ : TypeId) = 1 from c25] at h
    exact h
  obtain ⟨key, hk, ck⟩ := cells_bytes Try.underlying23 Try.underlying5 (by kernel_rfl) (by kernel_rfl) (n := 16) (by simp; omega) t0'
  obtain ⟨st, hst, cst⟩ := cells_bytes Try.underlying23 Try.underlying5 (by kernel_rfl) (by kernel_rfl) (n := 16) (by simp; omega) t1'
  obtain ⟨z, hz, _, wz⟩ := DataW.trod_int Try.underlying3 t2'
  simp at hz
  subst hz
  have hD : d = .agg [y0.1, y1.1, y2.1, y3.1] := by simpa using (Prod.mk.inj hy).1
  obtain ⟨len, q, s1, s2, s3⟩ := bytes_readJ t3' (fun n hn => hw n (by
    rw [hD]
    simp only [DataW.weights, Try.underlying41]
    simp [DataW.weightsEach, hn]))
  refine ⟨key, num st, z, v33, len, q, hk, ?_, s1, s2, s3, (wf_i64 wz).1, (wf_i64 wz).2⟩
  congr 1
  apply Array.ext_getElem?
  intro i
  rw [← Array.getElem?_toList, List.getElem?_toArray]
  unfold jobL
  rw [bytesL_eq (be_num hst)]
  by_cases h1 : i < 16
  · have := ck i h1
    rw [take_at h1, Nat.zero_add] at this
    rw [this, List.getElem?_append_left (by rw [bytesL_len]; omega)]
    exact (bytesL_at 16 key h1).symm
  · rw [List.getElem?_append_right (by rw [bytesL_len]; omega), bytesL_len]
    by_cases h2 : i < 32
    · have := cst (i - 16) (by omega)
      rw [take_at (by omega), show 16 + (i - 16) = i by omega] at this
      rw [this, List.getElem?_append_left (by rw [bytesL_len]; omega)]
      exact (bytesL_at 16 st (by omega)).symm
    · rw [List.getElem?_append_right (by rw [bytesL_len]; omega), bytesL_len]
      by_cases h3 : i = 32
      · subst h3; rw [e32]; rfl
      · by_cases h4 : i = 33
        · subst h4; rw [e33]; rfl
        · rw [List.getElem?_eq_none (by omega), List.getElem?_eq_none (by simp; omega)]
end Go.Proofs.Ytealknodagdjaaa.Aes

namespace Go.Proofs.Ytealknodagdjaaa
open Go.ChangeShapes Go.WideShapes Go.ChangeAt Go.RowKit Gf8 Aes By8

theorem bMasks_own : ownKnob Try.prog.godebug = none := by kernel_rfl
set_option maxRecDepth 100000 in
theorem bMasks_lifted {sc : (Nat → Nat) → Array Value} (I : Impl sc) (os : Os) (started : os.Started) (H : Type) (enc : TypeId × Value → H) :
    ReturnsInHanded {} Try.checked os 6 .any (Rows.blockMasksSpec.pre6 enc Try.prog Try.f6 Rows.blockMasksRow.domain false) (Rows.blockMasksSpec.post enc Try.prog Try.f6 false true false false) := by
  refine returnsInHanded_of_change_sized (C := Try.checked) bMasks_own started (by kernel_rfl) Try.func6
    (ChangeSpec.witness6 (enc := enc) (C := Try.checked) false ⟨#[], #[.agg #[.int .u8 0, .int .u8 0, .int .u8 0, .int .u8 0, .int .u8 0, .int .u8 0, .int .u8 0, .int .u8 0, .int .u8 0, .int .u8 0, .int .u8 0, .int .u8 0, .int .u8 0, .int .u8 0, .int .u8 0, .int .u8 0, .int .u8 0, .int .u8 0, .int .u8 0, .int .u8 0, .int .u8 0, .int .u8 0, .int .u8 0, .int .u8 0, .int .u8 0, .int .u8 0, .int .u8 0, .int .u8 0, .int .u8 0, .int .u8 0, .int .u8 0, .int .u8 0, .int .i64 0, .slice none 0 0]], []⟩ 8 (by kernel_rfl) (by kernel_rfl) (by kernel_rfl) (by kernel_rfl)) ?_
  intro W base args ds gs before hval0 hW hcnd hsz _
  have hval : ∀ (j : Nat) t v, Try.f6.params[j]? = some t → args[j]? = some v → Value.okWide Try.prog W .any base t v := hval0
  have hW' := hW
  obtain ⟨p, q, hA0, hV, rfl, hfz, hnd⟩ := hW
  have hA : DataW.TrodAll enc Try.prog W 0 (fun _ => true) true Try.f6.params.toList args.toList ds p := hA0
  rw [Try.params6] at hA hval hsz
  obtain ⟨v0, vs0, d0, ds0, p0, q0, hargs, rfl, rfl, h0, r0⟩ := trodAll_cons hA
  obtain ⟨rfl, rfl, rfl⟩ := trodAll_nil r0
  obtain rfl : args = #[v0] := by cases args; simp_all
  obtain ⟨rfl, rfl⟩ := trodVars_none hV
  have k0 := h0
  have lt0 : ∀ x ∈ p0, x.block < W.heap.size := by obtain ⟨m, hm⟩ := k0; exact DataW.trod_lt m _ _ _ hm
  have ag : ∃ xs, v0 = .agg xs := by
    have h := hval 0 41 v0 rfl rfl
    simp only [Value.okWide, Try.underlying41] at h
    obtain ⟨xs, e, _⟩ := h
    exact ⟨xs, e⟩
  obtain ⟨key, s0, n, u, len, f, hk, rfl, sl, hl, hz, n0, n1⟩ := job_read h0 (fun n hn => by
    have := List.all_eq_true.1 hsz n (DataW.weights_mem_each (j := 0) (t := 41) (d := d0) rfl rfl n hn)
    simpa using this) ag
  clear hA0 hval0
  simp only [List.append_nil] at hW'
  refine (masks_at I key f s0 len n u W hk sl hl hz ⟨n0, n1⟩).mono fun e W' ⟨he, bel⟩ => ?_
  subst he
  exact ⟨_, rfl, _, _, _, [], _, [], hW', trodAll_mk1 (shut_bool Try.underlying4 _), (trodAll_cons_mk (Below.trod By8.laidOut (by kernel_rfl) (of_decide_eq_true (by kernel_rfl)) k0 bel lt0) trodAll_mk0), rfl, bel.frame _, fun h => by cases h⟩

theorem bMasks_proved {sc : (Nat → Nat) → Array Value} (I : Impl sc) : Rows.BlockMasksSaid :=
  OpenClaim.holds_of_wide 6 Try.f6 rfl rfl rfl rfl rfl rfl rfl ⟨rfl, rfl, rfl, rfl, rfl⟩ rfl rfl rfl rfl rfl (by kernel_rfl) Try.func6 (by kernel_rfl)
    (of_decide_eq_true (by kernel_rfl)) (by unfold Func.isWrapper; first | (rw [if_pos (by decide +kernel)]; kernel_rfl) | (rw [if_neg (by decide +kernel)]; exact ⟨rfl, rfl⟩))
    (fun os started H enc _ => bMasks_lifted I os started H enc)
#print axioms bMasks_proved
end Go.Proofs.Ytealknodagdjaaa

namespace Go.Proofs.Ytealknodagdjaaa

theorem bMasks_all : Rows.BlockMasksSaid := bMasks_proved Aes.impl
#print axioms bMasks_all
end Go.Proofs.Ytealknodagdjaaa
