import Derived.Test.YtmjpneaccjlpkaaG9d
import Derived.Test.YtmjpneaccjlpkaaY2
import Derived.Test.YtmjpneaccjlpkaaX2
import Derived.Test.YtmjpneaccjlpkaaQ9x
import Derived.Lib.SmallJoins
import Derived.Deep.SlicePairs
import Derived.Test.YtmjpneaccjlpkaaX9m
import Derived.Test.YtmjpneaccjlpkaaF9b
import Derived.Test.YtmjpneaccjlpkaaF9a
import Derived.Test.YtmjpneaccjlpkaaX9h
namespace Go.Proofs.Ytmjpneaccjlpkaa.Drw
open Go.ChangeShapes Go.WideShapes Go.ChangeAt Go.RowKit Gf8 Aes By8 Cel Cf Tap
/- A []int as an argument. -/
theorem bytesI : Try.prog.bytesOf 3 = 8 := by kernel_rfl
end Go.Proofs.Ytmjpneaccjlpkaa.Drw

namespace Go.Proofs.Ytmjpneaccjlpkaa.Drw
open Go.ChangeShapes Go.WideShapes Go.ChangeAt Go.RowKit Gf8 Aes By8 Cel Cf Tap
/- A []int as an argument; nil has no room. -/
theorem ints_readZ {H : Type} {enc : TypeId × Value → H} {W : World} {v : Value} {d : DataW H} {p : List MemPlace} (h : ∃ fuel, DataW.trod enc Try.prog W 0 (fun _ => true) true fuel 24 v.cells.toList = some (d, p))
  (hw : ∀ n ∈ d.weights Try.prog 24, n ≤ reachBytes) (hs : ∃ a l c, v = .slice a l c) : ∃ (len : Nat) (f : Nat → Int), SliceI W v len f ∧ len ≤ 17592186043904 ∧ ∀ l c, v = .slice none l c → c = 0 := by
 obtain ⟨a0, len0, cap0, rfl⟩ := hs
 obtain ⟨fuel, hf⟩ := h
 have hr : reachBytes = 140737488351232 := rfl
 rcases open_ints Try.underlying24 Try.underlying3 (by kernel_rfl) hf with ⟨hcs, _⟩ | ⟨x, l, c, zs, hcs, _, hl, hm, hz, hx, hcell, hwz⟩
 ·simp [Value.cells] at hcs
  obtain ⟨rfl, rfl, rfl⟩ := hcs
  exact ⟨0, fun _ => 0, slice_nilI, by omega, fun l c e => by injection e with _ _ e; exact e.symm⟩
 ·simp [Value.cells] at hcs
  obtain ⟨rfl, rfl, rfl⟩ := hcs
  simp only [Prod.mk.injEq] at hx
  obtain ⟨rfl, rfl⟩ := hx
  have hzl : zs.length = cap0 := by simpa using hz
  have hb : 8 * cap0 ≤ 140737488351232 := by
   have := hw _ (by simp only [DataW.weights, Try.underlying24]; exact List.mem_cons_self)
   rw [bytesI] at this
   simp only [lits, List.length_map, List.length_take, List.length_drop] at this
   omega
  have key : ∀ j, j < len0 → -9223372036854775808 ≤ zs.getD j 0 ∧ zs.getD j 0 < 9223372036854775808 := fun j hj => wf_i64 (hwz _ (by rw [List.getD_eq_getElem?_getD, List.getElem?_eq_getElem (by omega)]; exact List.getElem_mem _))
  refine ⟨len0, fun j => zs.getD j 0, ⟨⟨_, _, rfl, hl, by unfold maxLen; omega, fun h => ?_⟩, fun j hj => key j hj⟩, by omega, fun l c e => by cases e⟩
  obtain ⟨b, off, rfl, hc⟩ := ints_at hcell (by omega)
  exact ⟨b, off, rfl, World.block_lt_of_cell? W _ (hc 0 (by omega)), fun j hj => hc j (by omega)⟩
end Go.Proofs.Ytmjpneaccjlpkaa.Drw

namespace Go.Proofs.Ytmjpneaccjlpkaa.Brd
open Go.ChangeShapes Go.WideShapes Go.ChangeAt Go.RowKit Gf8 Aes By8 Cel Cf Tap Drw Prm
/- An Ask, and a []Ask, as an argument. -/
theorem ints_readJ {H : Type} {enc : TypeId × Value → H} {W : World} {v : Value} {y : DataW H × List MemPlace} {fuel : Nat} (hf : DataW.trod enc Try.prog W 0 (fun _ => true) true fuel 24 [v] = some y)
  (hw : ∀ n ∈ y.1.weights Try.prog 24, n ≤ reachBytes) : ∃ (len : Nat) (f : Nat → Int), SliceI W v len f ∧ len ≤ 17592186043904 ∧ ∀ l c, v = .slice none l c → c = 0 := by
 have hs : ∃ a l c, v = .slice a l c := by
  rcases open_ints Try.underlying24 Try.underlying3 (by kernel_rfl) hf with ⟨hcs, _⟩ | ⟨x, l, c, zs, hcs, _⟩
  ·exact ⟨_, _, _, by simpa using hcs⟩
  ·exact ⟨_, _, _, by simpa using hcs⟩
 obtain ⟨a, l, c, rfl⟩ := hs
 exact ints_readZ (d := y.1) (p := y.2) ⟨fuel, hf⟩ hw ⟨_, _, _, rfl⟩
end Go.Proofs.Ytmjpneaccjlpkaa.Brd

namespace Go.Proofs.Ytmjpneaccjlpkaa.Rif
open Go.ChangeShapes Go.WideShapes Go.ChangeAt Go.RowKit Gf8 Aes By8 Cel Cf Tap Drw Prm Brd
/- An Other of churnlaw13 as an argument. -/
set_option maxRecDepth 100000
section
variable {H : Type} {enc : TypeId × Value → H} {P : Program} {k e : TypeId} {n : Nat} {W : World} {base : Nat} {sp : Nat → Bool} {held : Bool}
theorem cells_bytes (hu : P.underlying k = some (.array n e)) (he : P.underlying e = some (.int .u8)) (one : P.cellsOf e = 1) (size : P.cellsOf k = n) {fuel : Nat} {cs : List Value} {x : DataW H × List MemPlace}
  (hl : cs.length = n) (hf : DataW.trod enc P W base sp held fuel k cs = some x) : ∃ f : Nat → Nat, (∀ i, i < n → f i < 256) ∧ ∀ i, i < n → cs[i]? = some (.int .u8 (f i)) := by
 cases fuel with
 | zero => simp [DataW.trod] at hf
 | succ m =>
  rw [DataW.trod_step] at hf
  unfold DataW.trodStep at hf
  simp only [hu] at hf
  rw [if_pos (by rw [size]; exact hl)] at hf
  simp only [Option.map_eq_some_iff, one] at hf
  obtain ⟨ys, hy, e1⟩ := hf
  obtain ⟨f, hfd⟩ : ∃ f : Nat → Nat, ∀ i a, cs[i]? = some (.int .u8 a) → f i = a.toNat :=
   ⟨fun i => match cs[i]? with | some (.int .u8 a) => a.toNat | _ => 0, fun i a h => by simp only [h]⟩
  have key : ∀ i, i ∈ List.range n → ∀ y, DataW.trod enc P W base sp held m e ((cs.drop (i * 1)).take 1) = some y → y = (.lit (.int .u8 (f i)), []) ∧ cs[i]? = some (.int .u8 (f i)) ∧ f i < 256 := by
   intro i _ y hy
   obtain ⟨a, ea, rfl, wa⟩ := DataW.trod_int he hy
   have h1 := one_at _ ea
   have h2 := hfd i a h1
   have h3 := wfB.1 wa
   have h4 : (f i : Int) = a := by rw [h2]; omega
   rw [h4]
   exact ⟨rfl, h1, by omega⟩
  obtain ⟨r1, r2⟩ := mapM_back (h := fun i => ((.lit (.int .u8 (f i)), []) : DataW H × List MemPlace)) _ ys hy fun i hi y h => (key i hi y h).1
  have r3 : ∀ i, i < n → cs[i]? = some (.int .u8 (f i)) ∧ f i < 256 := fun i hi => (key i (List.mem_range.2 hi) _ (r2 i (List.mem_range.2 hi))).2
  exact ⟨f, fun i hi => (r3 i hi).2, fun i hi => (r3 i hi).1⟩
end
theorem take_at {cs : List Value} {o n i : Nat} (h : i < n) : ((cs.drop o).take n)[i]? = cs[o + i]? := by
 rw [List.getElem?_take, if_pos h, List.getElem?_drop]
theorem otherCells : Try.prog.cellsOf 48 = 21 := by kernel_rfl
set_option maxHeartbeats 2000000 in
theorem other_read {H : Type} {enc : TypeId × Value → H} {W : World} {v : Value} {d : DataW H} {p : List MemPlace} (h : ∃ fuel, DataW.trod enc Try.prog W 0 (fun _ => true) true fuel 48 v.cells.toList = some (d, p))
  (hw : ∀ n ∈ d.weights Try.prog 48, n ≤ reachBytes) (hs : ∃ xs, v = .agg xs) :
  ∃ (pv lv : Value) (ch : Int) (l m : Nat) (f nz : Nat → Nat) (g : Nat → Int), v = .agg (otC pv nz lv ch) ∧ SliceN W pv l f ∧ l ≤ 140737488351232 ∧ (∀ l c, pv = .slice none l c → c = 0) ∧ (∀ j, j < 18 → nz j < 256) ∧ SliceI W lv m g ∧ m ≤ 17592186043904 := by
 obtain ⟨xs, rfl⟩ := hs
 obtain ⟨fuel, hf⟩ := h
 obtain ⟨y0, y1, y2, y3, k, hy, hl, t0, t1, t2, t3⟩ := Go.Joins.trod_struct4 Try.underlying48 hf
 rw [otherCells] at hl
 have hl2 : xs.toList.length = 21 := hl
 have hsz : xs.size = 21 := by simpa using hl2
 have c18 : Try.prog.cellsOf 46 = 18 := by kernel_rfl
 have c3 : Try.prog.cellsOf 3 = 1 := by kernel_rfl
 have cB : Try.prog.cellsOf 23 = 1 := by kernel_rfl
 have cI : Try.prog.cellsOf 24 = 1 := by kernel_rfl
 obtain ⟨v0, e0⟩ : ∃ v0, xs.toList[0]? = some v0 := ⟨_, List.getElem?_eq_getElem (by omega)⟩
 obtain ⟨v19, e19⟩ : ∃ v19, xs.toList[19]? = some v19 := ⟨_, List.getElem?_eq_getElem (by omega)⟩
 obtain ⟨v20, e20⟩ : ∃ v20, xs.toList[20]? = some v20 := ⟨_, List.getElem?_eq_getElem (by omega)⟩
 have o0 : (xs.toList.drop 0).take 1 = [v0] := one_of (i := 0) _ e0
 have o19 : (xs.toList.drop 19).take 1 = [v19] := one_of (i := 19) _ e19
 have o20 : (xs.toList.drop 20).take 1 = [v20] := one_of (i := 20) _ e20
 have t0' : DataW.trod enc Try.prog W 0 (fun _ => true) true k 23 [v0] = some y0 := by
  rw [← o0]
  have h := t0
  rw [show Try.prog.cellsOf (_ : TypeId) = 1 from cB] at h
  exact h
 have t1' : DataW.trod enc Try.prog W 0 (fun _ => true) true k 46 ((xs.toList.drop 1).take 18) = some y1 := by
  have h := t1
  rw [show Try.prog.cellsOf (_ : TypeId) = 18 from c18] at h
  exact h
 have t2' : DataW.trod enc Try.prog W 0 (fun _ => true) true k 24 [v19] = some y2 := by
  rw [← o19]
  have h := t2
  rw [show Try.prog.cellsOf (_ : TypeId) = 1 from cI] at h
  exact h
 have t3' : DataW.trod enc Try.prog W 0 (fun _ => true) true k 3 [v20] = some y3 := by
  rw [← o20]
  have h := t3
  rw [show Try.prog.cellsOf (_ : TypeId) = 1 from c3] at h
  exact h
 have hD : d = .agg [y0.1, y1.1, y2.1, y3.1] := by simpa using (Prod.mk.inj hy).1
 have h0 : ∀ n ∈ y0.1.weights Try.prog 23, n ≤ reachBytes := fun n hn => hw n (by
  rw [hD]
  simp only [DataW.weights, Try.underlying48]
  simp [DataW.weightsEach, hn])
 have h2 : ∀ n ∈ y2.1.weights Try.prog 24, n ≤ reachBytes := fun n hn => hw n (by
  rw [hD]
  simp only [DataW.weights, Try.underlying48]
  simp [DataW.weightsEach, hn])
 obtain ⟨a3, e3, _, _⟩ := DataW.trod_int Try.underlying3 t3'
 obtain ⟨l0, f0, s0, b0, z0⟩ := bytes_readJ t0' h0
 obtain ⟨l2, f2, s2, b2, _⟩ := ints_readJ t2' h2
 obtain ⟨nz, hn1, hn2⟩ := cells_bytes Try.underlying46 Try.underlying5 (by kernel_rfl) c18 (by rw [List.length_take, List.length_drop]; omega) t1'
 have e3' : v20 = .int .i64 a3 := by simpa using e3
 refine ⟨v0, v19, a3, l0, l2, f0, nz, f2, ?_, s0, b0, z0, hn1, s2, b2⟩
 congr 1
 apply Array.ext'
 apply List.ext_getElem?
 intro i
 show xs.toList[i]? = (otC v0 nz v19 a3).toList[i]?
 have hc : (otC v0 nz v19 a3).toList = v0 :: (bytesL 18 nz ++ [v19, .int .i64 a3]) := by simp [otC]
 rw [hc]
 match i with
 | 0 => rw [e0]; rfl
 | i + 1 =>
  rw [List.getElem?_cons_succ]
  by_cases h1 : i < 18
  ·rw [List.getElem?_append_left (by rw [bytesL_len]; exact h1), bytesL_at 18 nz h1, ← hn2 i h1, take_at h1, Nat.add_comm]
  ·rw [List.getElem?_append_right (by rw [bytesL_len]; omega), bytesL_len]
   by_cases h2 : i = 18
   ·subst h2
    rw [e19]; rfl
   ·by_cases h3 : i = 19
    ·subst h3
     rw [e20, e3']; rfl
    ·rw [List.getElem?_eq_none (by omega), List.getElem?_eq_none (by simp only [List.length_cons, List.length_nil]; omega)]
theorem other_agg {W : World} {base : Nat} {v : Value} (h : Value.okWide Try.prog W .any base 48 v) : ∃ xs, v = .agg xs := by
 simp only [Value.okWide, Try.underlying48] at h
 obtain ⟨xs, e, _⟩ := h
 exact ⟨xs, e⟩
end Go.Proofs.Ytmjpneaccjlpkaa.Rif
