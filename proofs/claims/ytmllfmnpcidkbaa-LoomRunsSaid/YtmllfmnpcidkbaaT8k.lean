import Derived.Test.YtmllfmnpcidkbaaZ9a
import Derived.Test.YtmllfmnpcidkbaaY2
import Derived.Test.YtmllfmnpcidkbaaX2
import Derived.Test.YtmllfmnpcidkbaaE8p
import Derived.Test.YtmllfmnpcidkbaaE8u
import Derived.Deep.Slices
import Derived.ChangeSame
import Derived.Lib.SmallJoins
import Derived.Test.YtmllfmnpcidkbaaT8j
import Derived.ProofKit
import Derived.OpenShut
namespace Go.Proofs.Ytmllfmnpcidkbaa.Drw
open Go.ChangeShapes Go.WideShapes Go.ChangeAt Go.RowKit Gf8 Aes By8 Cel Cf Tap
/- A []int as an argument. -/

theorem bytesI : Try.prog.bytesOf 3 = 8 := by kernel_rfl
/-- A []int that reads is one. -/
theorem ints_read {H : Type} {enc : TypeId × Value → H} {W : World} {v : Value} {d : DataW H} {p : List MemPlace} (h : ∃ fuel, DataW.trod enc Try.prog W 0 (fun _ => true) true fuel 22 v.cells.toList = some (d, p))
    (hw : ∀ n ∈ d.weights Try.prog 22, n ≤ reachBytes) (hs : ∃ a l c, v = .slice a l c) : ∃ (len : Nat) (f : Nat → Int), SliceI W v len f ∧ len ≤ 17592186043904 := by
  obtain ⟨a0, len0, cap0, rfl⟩ := hs
  obtain ⟨fuel, hf⟩ := h
  have hr : reachBytes = 140737488351232 := rfl
  rcases open_ints Try.underlying22 Try.underlying3 (by kernel_rfl) hf with ⟨hcs, _⟩ | ⟨x, l, c, zs, hcs, _, hl, hm, hz, hx, hcell, hwz⟩
  · simp [Value.cells] at hcs
    obtain ⟨rfl, rfl, rfl⟩ := hcs
    exact ⟨0, fun _ => 0, slice_nilI, by omega⟩
  · simp [Value.cells] at hcs
    obtain ⟨rfl, rfl, rfl⟩ := hcs
    simp only [Prod.mk.injEq] at hx
    obtain ⟨rfl, rfl⟩ := hx
    have hzl : zs.length = cap0 := by simpa using hz
    have hb : 8 * cap0 ≤ 140737488351232 := by
      have := hw _ (by simp only [DataW.weights, Try.underlying22]; exact List.mem_cons_self)
      rw [bytesI] at this
      simp only [lits, List.length_map, List.length_take, List.length_drop] at this
      omega
    have key : ∀ j, j < len0 → -9223372036854775808 ≤ zs.getD j 0 ∧ zs.getD j 0 < 9223372036854775808 := fun j hj => wf_i64 (hwz _ (by rw [List.getD_eq_getElem?_getD, List.getElem?_eq_getElem (by omega)]; exact List.getElem_mem _))
    refine ⟨len0, fun j => zs.getD j 0, ⟨⟨_, _, rfl, hl, by unfold maxLen; omega, fun h => ?_⟩, fun j hj => key j hj⟩, by omega⟩
    obtain ⟨b, off, rfl, hc⟩ := ints_at hcell (by omega)
    exact ⟨b, off, rfl, World.block_lt_of_cell? W _ (hc 0 (by omega)), fun j hj => hc j (by omega)⟩
end Go.Proofs.Ytmllfmnpcidkbaa.Drw

namespace Go.Proofs.Ytmllfmnpcidkbaa.Loo
open Go.ChangeShapes Go.WideShapes Go.ChangeAt Go.RowKit Gf8 Aes By8 Cel Cf Win Drw Prm
/- A plan, and a []api.Plan, as an argument. -/

set_option maxRecDepth 100000

theorem cs19 : Try.prog.cellsOf 3 = 1 := by kernel_rfl
end Go.Proofs.Ytmllfmnpcidkbaa.Loo

namespace Go.Proofs.Ytmllfmnpcidkbaa.Loo
open Go.ChangeShapes Go.WideShapes Go.ChangeAt Go.RowKit Gf8 Aes By8 Cel Cf Win Drw Prm
/- A []Sham as an argument. -/

set_option maxRecDepth 100000

theorem csSm : Try.prog.cellsOf 45 = 4 := by kernel_rfl
theorem csBl : Try.prog.cellsOf 4 = 1 := by kernel_rfl
theorem csBs : Try.prog.cellsOf 43 = 1 := by kernel_rfl
theorem trod_4 {H : Type} {enc : TypeId × Value → H} {P : Program} {w : World} {base : Nat} {spare : Nat → Bool} {held : Bool} {t : TypeId} {f0 f1 f2 f3 : Field} {fuel : Nat} {cs : List Value} {x : DataW H × List MemPlace} (ht : P.underlying t = some (.struct #[f0, f1, f2, f3])) (h : DataW.trod enc P w base spare held fuel t cs = some x) :
    ∃ y0 y1 y2 y3 n, cs.length = P.cellsOf t ∧ DataW.trod enc P w base spare held n f0.type ((cs.drop f0.offset).take (P.cellsOf f0.type)) = some y0 ∧ DataW.trod enc P w base spare held n f1.type ((cs.drop f1.offset).take (P.cellsOf f1.type)) = some y1 ∧ DataW.trod enc P w base spare held n f2.type ((cs.drop f2.offset).take (P.cellsOf f2.type)) = some y2 ∧ DataW.trod enc P w base spare held n f3.type ((cs.drop f3.offset).take (P.cellsOf f3.type)) = some y3 := by
  obtain ⟨xs, n, _, rfl, hl, hlen, hf⟩ := DataW.trod_struct ht h
  match xs, hlen with
  | [y0, y1, y2, y3], _ => exact ⟨y0, y1, y2, y3, n, hl, by simpa using hf 0 f0 rfl, by simpa using hf 1 f1 rfl, by simpa using hf 2 f2 rfl, by simpa using hf 3 f3 rfl⟩
theorem bools_read19 {H : Type} {enc : TypeId × Value → H} {W : World} {v : Value} {y : DataW H × List MemPlace} {fuel : Nat} (hf : DataW.trod enc Try.prog W 0 (fun _ => true) true fuel 43 [v] = some y) : ∃ n x, SliceBl W v n x := by
  rcases Deep.open_slice1 Try.underlying43 (by kernel_rfl) hf with ⟨hcs, _⟩ | ⟨a, len, cap, m, fu, U, D, Pl, hcs, _, hl, hm, hmm, hx, hel⟩
  · obtain rfl : v = .slice none 0 0 := by simpa using hcs
    exact ⟨0, fun _ => false, _, _, rfl, fun h => absurd h (Nat.lt_irrefl _)⟩
  · obtain rfl : v = .slice (some a) len cap := by simpa using hcs
    simp only [if_true] at hmm
    have each : ∀ i, i < len → ∃ q : Bool, U i = .bool q := fun i hi => by
      obtain ⟨b, e, _⟩ := DataW.trod_bool Try.underlying4 (hel i (by omega)).2
      exact ⟨b, by simpa using e⟩
    haveI : Inhabited Op3 := ⟨⟨0, 0, 0⟩⟩
    haveI : Inhabited Loo.Pl := ⟨⟨0, 0, fun _ => 0, fun _ => 0, fun _ _ => ⟨0, 0, 0⟩⟩⟩
    obtain ⟨q, hq⟩ := Deep.choose_lt each
    refine ⟨len, q, _, _, rfl, fun hp => ?_⟩
    obtain ⟨b, off, spot⟩ := a
    have hc0 := (hel 0 (by omega)).1
    have hspot : spot = none := by simpa [Addr.add] using World.cell?_spot hc0
    subst hspot
    refine ⟨b, off, rfl, World.block_lt_of_cell? W _ hc0, fun i hi => ?_⟩
    have h1 := (hel i (by omega)).1
    rw [Go.WideShapes.add_plain] at h1
    rw [h1, hq i hi]
theorem shams_read {H : Type} {enc : TypeId × Value → H} {W : World} {v : Value} {d : DataW H} {p : List MemPlace} (h : ∃ fuel, DataW.trod enc Try.prog W 0 (fun _ => true) true fuel 37 v.cells.toList = some (d, p)) (hsl : ∃ a l c, v = .slice a l c) : ∃ D : Sd, ShL W v D ∧ ∀ a n c, v = .slice a n c → n ≤ c := by
  obtain ⟨a0, len0, cap0, rfl⟩ := hsl
  obtain ⟨fuel, hf⟩ := h
  rcases Deep.open_slice Try.underlying37 hf with ⟨hcs, _⟩ | ⟨a, len, cap, m, fu, D, Pl, hcs, _, hl, hm, hmm, hx, hel⟩
  · simp [Value.cells] at hcs
    obtain ⟨rfl, rfl, rfl⟩ := hcs
    exact ⟨⟨0, fun _ => 0, fun _ _ => false, fun _ => false, fun _ => 0, fun _ => false⟩, ⟨_, _, rfl, fun _ => .nilFunc, fun t ht => absurd ht (Nat.not_lt_zero t), fun h => absurd h (Nat.lt_irrefl _)⟩, fun a n c e => by injection e with _ e1 e2; omega⟩
  · simp [Value.cells] at hcs
    obtain ⟨rfl, rfl, rfl⟩ := hcs
    simp only [if_true] at hmm
    have each : ∀ i, i < len0 → ∃ q : Value × Nat × (Nat → Bool) × Bool × Int × Bool, SliceBl W q.1 q.2.1 q.2.2.1 ∧ W.cell? (a.add (i * 4)) = some q.1 ∧ W.cell? (a.add (i * 4 + 1)) = some (.bool q.2.2.2.1) ∧ W.cell? (a.add (i * 4 + 2)) = some (.int .i64 q.2.2.2.2.1) ∧ W.cell? (a.add (i * 4 + 3)) = some (.bool q.2.2.2.2.2) := by
      intro i hi
      obtain ⟨cs', h1, h2⟩ := hel i (by omega)
      rw [csSm] at h1
      obtain ⟨_, hlen, hcell⟩ := World.cells?_some h1
      obtain ⟨y0, y1, y2, y3, k, _, t0, t1, t2, t3⟩ := trod_4 Try.underlying45 h2
      simp only [cs19, csBl, csBs] at t0 t1 t2 t3
      match cs', hlen with
      | [v0, v1, v2, v3], _ =>
        simp at t0 t1 t2 t3
        obtain ⟨n, x, hb⟩ := bools_read19 t0
        obtain ⟨z1, e1, _⟩ := DataW.trod_bool Try.underlying4 t1
        obtain ⟨z2, e2, _⟩ := DataW.trod_int Try.underlying3 t2
        obtain ⟨z3, e3, _⟩ := DataW.trod_bool Try.underlying4 t3
        have c0 := hcell 0 (by omega)
        have c1 := hcell 1 (by omega)
        have c2 := hcell 2 (by omega)
        have c3 := hcell 3 (by omega)
        rw [Deep.add_add] at c0 c1 c2 c3
        simp at e1 e2 e3 c0 c1 c2 c3
        subst e1 e2 e3
        exact ⟨(v0, n, x, z1, z2, z3), hb, c0, c1, c2, c3⟩
    haveI : Inhabited Op3 := ⟨⟨0, 0, 0⟩⟩
    haveI : Inhabited Loo.Pl := ⟨⟨0, 0, fun _ => 0, fun _ => 0, fun _ _ => ⟨0, 0, 0⟩⟩⟩
    haveI : Inhabited (Value × Nat × (Nat → Bool) × Bool × Int × Bool) := ⟨(.nilFunc, 0, fun _ => false, false, 0, false)⟩
    obtain ⟨q, hq⟩ := Deep.choose_lt each
    refine ⟨⟨len0, fun i => (q i).2.1, fun i => (q i).2.2.1, fun i => (q i).2.2.2.1, fun i => (q i).2.2.2.2.1, fun i => (q i).2.2.2.2.2⟩, ⟨_, _, rfl, fun i => (q i).1, fun t ht => (hq t ht).1, fun hp => ?_⟩, fun a n c e => by injection e with _ e1 e2; omega⟩
    obtain ⟨b, off, spot⟩ := a
    have hc0 := (hq 0 hp).2.1
    have hspot : spot = none := by simpa [Addr.add] using World.cell?_spot hc0
    subst hspot
    refine ⟨b, off, rfl, World.block_lt_of_cell? W _ hc0, fun i hi => ?_⟩
    have h1 := (hq i hi).2
    simp only [Go.WideShapes.add_plain, ← Nat.add_assoc] at h1
    exact h1
end Go.Proofs.Ytmllfmnpcidkbaa.Loo
