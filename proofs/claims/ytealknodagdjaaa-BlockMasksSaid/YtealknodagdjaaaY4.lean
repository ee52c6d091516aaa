import Derived.Test.YtealknodagdjaaaY0
import Derived.ProofKit
import Derived.OpenShut
import Derived.ChangeOld
import Derived.SizedLaws
import Derived.Deep.DeepHandedRow
import Derived.Test.YtealknodagdjaaaT5
import Derived.Test.YtealknodagdjaaaX2
import Derived.Deep.Slices
namespace Go.Proofs.Ytealknodagdjaaa.By8
open Go.ChangeShapes Go.WideShapes Go.ChangeAt Go.RowKit
/- A []byte as an argument. -/

theorem laidOut : laidOutB Try.prog = true := by kernel_rfl
theorem bytesB : Try.prog.bytesOf 5 = 1 := by kernel_rfl
/-- A []byte that reads is one. -/
theorem bytes_read {H : Type} {enc : TypeId × Value → H} {W : World} {v : Value} {d : DataW H} {p : List MemPlace} (h : ∃ fuel, DataW.trod enc Try.prog W 0 (fun _ => true) true fuel 25 v.cells.toList = some (d, p))
    (hw : ∀ n ∈ d.weights Try.prog 25, n ≤ reachBytes) (hs : ∃ a l c, v = .slice a l c) : ∃ (len : Nat) (f : Nat → Nat), SliceN W v len f ∧ len ≤ 140737488351232 := by
  obtain ⟨a0, len0, cap0, rfl⟩ := hs
  obtain ⟨fuel, hf⟩ := h
  have hr : reachBytes = 140737488351232 := rfl
  rcases open_ints Try.underlying25 Try.underlying5 (by kernel_rfl) hf with ⟨hcs, _⟩ | ⟨x, l, c, zs, hcs, _, hl, hm, hz, hx, hcell, hwz⟩
  · simp [Value.cells] at hcs
    obtain ⟨rfl, rfl, rfl⟩ := hcs
    exact ⟨0, fun _ => 0, ⟨⟨_, _, rfl, Nat.le_refl _, by omega, fun h => by omega⟩, fun j hj => by omega⟩, by omega⟩
  · simp [Value.cells] at hcs
    obtain ⟨rfl, rfl, rfl⟩ := hcs
    simp only [Prod.mk.injEq] at hx
    obtain ⟨rfl, rfl⟩ := hx
    have hzl : zs.length = cap0 := by simpa using hz
    have hb : cap0 ≤ 140737488351232 := by
      have := hw _ (by simp only [DataW.weights, Try.underlying25]; exact List.mem_cons_self)
      rw [bytesB] at this
      simp only [lits, List.length_map, List.length_take, List.length_drop] at this
      omega
    have key : ∀ j, j < len0 → 0 ≤ zs.getD j 0 ∧ zs.getD j 0 < 256 := fun j hj => wfB.1 (hwz _ (by rw [List.getD_eq_getElem?_getD, List.getElem?_eq_getElem (by omega)]; exact List.getElem_mem _))
    refine ⟨len0, fun j => (zs.getD j 0).toNat, ⟨⟨_, _, rfl, hl, by omega, fun h => ?_⟩, fun j hj => ?_⟩, by omega⟩
    · obtain ⟨b, off, rfl, hc⟩ := ints_at hcell (by omega)
      refine ⟨b, off, rfl, World.block_lt_of_cell? W _ (hc 0 (by omega)), fun j hj => ?_⟩
      rw [hc j (by omega)]
      have := key j hj
      rw [Int.toNat_of_nonneg this.1]
    · have := key j hj
      omega
end Go.Proofs.Ytealknodagdjaaa.By8

namespace Go.Proofs.Ytealknodagdjaaa.Aes
open Go.ChangeShapes Go.WideShapes Go.ChangeAt Go.RowKit Gf8 By8
/- A [][16]byte as an argument. -/

section
variable {H : Type} {enc : TypeId × Value → H} {P : Program} {k e : TypeId} {n : Nat} {W : World} {base : Nat} {sp : Nat → Bool} {held : Bool}
/-- The cells of an array of bytes that reads. -/
theorem cells_bytes (hu : P.underlying k = some (.array n e)) (he : P.underlying e = some (.int .u8)) (one : P.cellsOf e = 1) (size : P.cellsOf k = n) {fuel : Nat} {cs : List Value} {x : DataW H × List MemPlace}
    (hl : cs.length = n) (hf : DataW.trod enc P W base sp held fuel k cs = some x) : ∃ f : Nat → Nat, (∀ i, i < n → f i < 256) ∧ ∀ i, i < n → cs[i]? = some (.int .u8 (f i)) := by
  cases fuel with
  | zero => simp [DataW.trod] at hf
  | succ m =>
    rw [DataW.trod_step] at hf
    unfold DataW.trodStep at hf
    simp only [hu] at hf
    rw [if_pos (by rw [size]; exact hl)] at hf
    simp only [Option.map_eq_some_iff, one] at hf
    obtain ⟨ys, hy, e1⟩ := hf
    obtain ⟨f, hfd⟩ : ∃ f : Nat → Nat, ∀ i a, cs[i]? = some (.int .u8 a) → f i = a.toNat :=
      ⟨fun i => match cs[i]? with | some (.int .u8 a) => a.toNat | _ => 0, fun i a h => by simp only [h]⟩
    have key : ∀ i, i ∈ List.range n → ∀ y, DataW.trod enc P W base sp held m e ((cs.drop (i * 1)).take 1) = some y → y = (.lit (.int .u8 (f i)), []) ∧ cs[i]? = some (.int .u8 (f i)) ∧ f i < 256 := by
      intro i _ y hy
      obtain ⟨a, ea, rfl, wa⟩ := DataW.trod_int he hy
      have h1 := one_at _ ea
      have h2 := hfd i a h1
      have h3 := wfB.1 wa
      have h4 : (f i : Int) = a := by rw [h2]; omega
      rw [h4]
      exact ⟨rfl, h1, by omega⟩
    obtain ⟨r1, r2⟩ := mapM_back (h := fun i => ((.lit (.int .u8 (f i)), []) : DataW H × List MemPlace)) _ ys hy fun i hi y h => (key i hi y h).1
    have r3 : ∀ i, i < n → cs[i]? = some (.int .u8 (f i)) ∧ f i < 256 := fun i hi => (key i (List.mem_range.2 hi) _ (r2 i (List.mem_range.2 hi))).2
    exact ⟨f, fun i hi => (r3 i hi).2, fun i hi => (r3 i hi).1⟩
end
theorem blkCells : Try.prog.cellsOf 23 = 16 := by kernel_rfl
/-- A [][16]byte that reads is a list of blocks. -/
theorem blks_read {H : Type} {enc : TypeId × Value → H} {W : World} {v : Value} {d : DataW H} {p : List MemPlace} (h : ∃ fuel, DataW.trod enc Try.prog W 0 (fun _ => true) true fuel 35 v.cells.toList = some (d, p))
    (hs : ∃ a l c, v = .slice a l c) : ∃ (n : Nat) (B : Nat → Nat → Nat), Blks W v n B := by
  obtain ⟨a0, len0, cap0, rfl⟩ := hs
  obtain ⟨fuel, h⟩ := h
  rcases Deep.open_slice Try.underlying35 h with ⟨hcs, _⟩ | ⟨a, len, cap, m, fu, D, Pl, hcs, _, hl, hm, hmm, hx, hel⟩
  · simp [Value.cells] at hcs
    obtain ⟨rfl, rfl, rfl⟩ := hcs
    exact ⟨0, fun _ _ => 0, ⟨⟨_, _, rfl, by omega, fun h => by omega⟩, fun i hi => by omega⟩⟩
  · simp [Value.cells] at hcs
    obtain ⟨rfl, rfl, rfl⟩ := hcs
    simp only [if_true] at hmm
    have each : ∀ i, i < len0 → ∃ f : Nat → Nat, By f ∧ ∀ j, j < 16 → W.cell? (a.add (i * 16 + j)) = some (.int .u8 (f j)) := by
      intro i hi
      obtain ⟨cs', h1, h2⟩ := hel i (by omega)
      rw [blkCells] at h1
      obtain ⟨_, hlen, hcell⟩ := World.cells?_some h1
      obtain ⟨f, hf, hc⟩ := cells_bytes Try.underlying23 Try.underlying5 (by kernel_rfl) (by kernel_rfl) (n := 16) hlen h2
      refine ⟨f, hf, fun j hj => ?_⟩
      have e0 := hcell j (by omega)
      rw [Deep.add_add] at e0
      rw [e0, hc j hj]
    obtain ⟨q, hq⟩ := Deep.choose_lt each
    have hmax : maxLen < 9223372036854775808 := by decide
    refine ⟨len0, q, ⟨⟨_, _, rfl, by omega, fun hp => ?_⟩, fun i hi => (hq i hi).1⟩⟩
    obtain ⟨b, off, spot⟩ := a
    have hc0 := (hq 0 hp).2 0 (by omega)
    have hspot : spot = none := by simpa [Addr.add] using World.cell?_spot hc0
    subst hspot
    refine ⟨b, off, rfl, World.block_lt_of_cell? W _ hc0, fun i hi j hj => ?_⟩
    have h1 := (hq i hi).2 j hj
    rw [Go.WideShapes.add_plain, ← Nat.add_assoc] at h1
    exact h1
end Go.Proofs.Ytealknodagdjaaa.Aes
