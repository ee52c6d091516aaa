import Derived.Test.YtcgkelgncehekabZ9a
import Derived.Test.YtcgkelgncehekabY2
import Derived.Test.YtcgkelgncehekabX2
import Derived.Test.YtcgkelgncehekabE8t
import Derived.Lib.SmallJoins
import Derived.Test.YtcgkelgncehekabE8u
import Derived.Deep.Slices
import Derived.ChangeSame
namespace Go.Proofs.Ytcgkelgncehekab.Drw
open Go.ChangeShapes Go.WideShapes Go.ChangeAt Go.RowKit Gf8 Aes By8 Cel Cf Tap
/- A []int as an argument. -/

theorem bytesI : Try.prog.bytesOf 3 = 8 := by kernel_rfl
/-- A []int that reads is one. -/
theorem ints_read {H : Type} {enc : TypeId × Value → H} {W : World} {v : Value} {d : DataW H} {p : List MemPlace} (h : ∃ fuel, DataW.trod enc Try.prog W 0 (fun _ => true) true fuel 22 v.cells.toList = some (d, p))
    (hw : ∀ n ∈ d.weights Try.prog 22, n ≤ reachBytes) (hs : ∃ a l c, v = .slice a l c) : ∃ (len : Nat) (f : Nat → Int), SliceI W v len f ∧ len ≤ 17592186043904 := by
  obtain ⟨a0, len0, cap0, rfl⟩ := hs
  obtain ⟨fuel, hf⟩ := h
  have hr : reachBytes = 140737488351232 := rfl
  rcases open_ints Try.underlying22 Try.underlying3 (by kernel_rfl) hf with ⟨hcs, _⟩ | ⟨x, l, c, zs, hcs, _, hl, hm, hz, hx, hcell, hwz⟩
  · simp [Value.cells] at hcs
    obtain ⟨rfl, rfl, rfl⟩ := hcs
    exact ⟨0, fun _ => 0, slice_nilI, by omega⟩
  · simp [Value.cells] at hcs
    obtain ⟨rfl, rfl, rfl⟩ := hcs
    simp only [Prod.mk.injEq] at hx
    obtain ⟨rfl, rfl⟩ := hx
    have hzl : zs.length = cap0 := by simpa using hz
    have hb : 8 * cap0 ≤ 140737488351232 := by
      have := hw _ (by simp only [DataW.weights, Try.underlying22]; exact List.mem_cons_self)
      rw [bytesI] at this
      simp only [lits, List.length_map, List.length_take, List.length_drop] at this
      omega
    have key : ∀ j, j < len0 → -9223372036854775808 ≤ zs.getD j 0 ∧ zs.getD j 0 < 9223372036854775808 := fun j hj => wf_i64 (hwz _ (by rw [List.getD_eq_getElem?_getD, List.getElem?_eq_getElem (by omega)]; exact List.getElem_mem _))
    refine ⟨len0, fun j => zs.getD j 0, ⟨⟨_, _, rfl, hl, by unfold maxLen; omega, fun h => ?_⟩, fun j hj => key j hj⟩, by omega⟩
    obtain ⟨b, off, rfl, hc⟩ := ints_at hcell (by omega)
    exact ⟨b, off, rfl, World.block_lt_of_cell? W _ (hc 0 (by omega)), fun j hj => hc j (by omega)⟩
end Go.Proofs.Ytcgkelgncehekab.Drw

namespace Go.Proofs.Ytcgkelgncehekab.Loo
open Go.ChangeShapes Go.WideShapes Go.ChangeAt Go.RowKit Gf8 Aes By8 Cel Cf Drw Prm
/- A Pipe as an argument. -/

set_option maxRecDepth 100000

theorem ints_readJ {H : Type} {enc : TypeId × Value → H} {W : World} {v : Value} {y : DataW H × List MemPlace} {fuel : Nat} (hf : DataW.trod enc Try.prog W 0 (fun _ => true) true fuel 22 [v] = some y)
    (hw : ∀ n ∈ y.1.weights Try.prog 22, n ≤ reachBytes) : ∃ (len : Nat) (f : Nat → Int), SliceI W v len f ∧ len ≤ 17592186043904 := by
  have hs : ∃ a l c, v = .slice a l c := by
    rcases open_ints Try.underlying22 Try.underlying3 (by kernel_rfl) hf with ⟨hcs, _⟩ | ⟨x, l, c, zs, hcs, _⟩
    · exact ⟨_, _, _, by simpa using hcs⟩
    · exact ⟨_, _, _, by simpa using hcs⟩
  obtain ⟨a, l, c, rfl⟩ := hs
  exact ints_read (d := y.1) (p := y.2) ⟨fuel, hf⟩ hw ⟨_, _, _, rfl⟩
end Go.Proofs.Ytcgkelgncehekab.Loo

namespace Go.Proofs.Ytcgkelgncehekab.Loo
open Go.ChangeShapes Go.WideShapes Go.ChangeAt Go.RowKit Gf8 Aes By8 Cel Cf Win Drw Prm
/- A plan, and a []api.Plan, as an argument. -/

set_option maxRecDepth 100000

theorem opCells : Try.prog.cellsOf 38 = 3 := by kernel_rfl
theorem planCells : Try.prog.cellsOf 25 = 2 := by kernel_rfl
theorem cs19 : Try.prog.cellsOf 3 = 1 := by kernel_rfl
theorem trod_3 {H : Type} {enc : TypeId × Value → H} {P : Program} {w : World} {base : Nat} {spare : Nat → Bool} {held : Bool} {t : TypeId} {f0 f1 f2 : Field} {fuel : Nat} {cs : List Value} {x : DataW H × List MemPlace} (ht : P.underlying t = some (.struct #[f0, f1, f2])) (h : DataW.trod enc P w base spare held fuel t cs = some x) :
    ∃ y0 y1 y2 n, cs.length = P.cellsOf t ∧ DataW.trod enc P w base spare held n f0.type ((cs.drop f0.offset).take (P.cellsOf f0.type)) = some y0 ∧ DataW.trod enc P w base spare held n f1.type ((cs.drop f1.offset).take (P.cellsOf f1.type)) = some y1 ∧ DataW.trod enc P w base spare held n f2.type ((cs.drop f2.offset).take (P.cellsOf f2.type)) = some y2 := by
  obtain ⟨xs, n, _, rfl, hl, hlen, hf⟩ := DataW.trod_struct ht h
  match xs, hlen with
  | [y0, y1, y2], _ => exact ⟨y0, y1, y2, n, hl, by simpa using hf 0 f0 rfl, by simpa using hf 1 f1 rfl, by simpa using hf 2 f2 rfl⟩
theorem ops_read {H : Type} {enc : TypeId × Value → H} {W : World} {v : Value} {y : DataW H × List MemPlace} {fuel : Nat} (hf : DataW.trod enc Try.prog W 0 (fun _ => true) true fuel 36 [v] = some y) : ∃ n o, SliceO W v n o := by
  rcases Deep.open_slice Try.underlying36 hf with ⟨hcs, _⟩ | ⟨a, len, cap, m, fu, D, Pl, hcs, _, hl, hm, hmm, hx, hel⟩
  · obtain rfl : v = .slice none 0 0 := by simpa using hcs
    exact ⟨0, fun _ => ⟨0, 0, 0⟩, ⟨_, _, rfl, fun h => absurd h (Nat.lt_irrefl _)⟩, fun j hj => absurd hj (Nat.not_lt_zero j)⟩
  · obtain rfl : v = .slice (some a) len cap := by simpa using hcs
    simp only [if_true] at hmm
    have each : ∀ i, i < len → ∃ q : Op3, (W.cell? (a.add (i * 3)) = some (.int .i64 q.k) ∧ W.cell? (a.add (i * 3 + 1)) = some (.int .i64 q.a) ∧ W.cell? (a.add (i * 3 + 2)) = some (.int .i64 q.b)) ∧ I64 q.k ∧ I64 q.a ∧ I64 q.b := by
      intro i hi
      obtain ⟨cs', h1, h2⟩ := hel i (by omega)
      rw [opCells] at h1
      obtain ⟨_, hlen, hcell⟩ := World.cells?_some h1
      obtain ⟨y0, y1, y2, k, _, t0, t1, t2⟩ := trod_3 Try.underlying38 h2
      simp only [cs19] at t0 t1 t2
      obtain ⟨z0, e0, _, w0⟩ := DataW.trod_int Try.underlying3 t0
      obtain ⟨z1, e1, _, w1⟩ := DataW.trod_int Try.underlying3 t1
      obtain ⟨z2, e2, _, w2⟩ := DataW.trod_int Try.underlying3 t2
      match cs', hlen with
      | [v0, v1, v2], _ =>
        have c0 := hcell 0 (by omega)
        have c1 := hcell 1 (by omega)
        have c2 := hcell 2 (by omega)
        rw [Deep.add_add] at c0 c1 c2
        simp at e0 e1 e2 c0 c1 c2
        subst e0 e1 e2
        exact ⟨⟨z0, z1, z2⟩, ⟨c0, c1, c2⟩, wf_i64 w0, wf_i64 w1, wf_i64 w2⟩
    haveI : Inhabited Op3 := ⟨⟨0, 0, 0⟩⟩
    haveI : Inhabited Loo.Pl := ⟨⟨0, 0, fun _ => 0, fun _ => 0, fun _ _ => ⟨0, 0, 0⟩⟩⟩
    obtain ⟨q, hq⟩ := Deep.choose_lt each
    refine ⟨len, q, ⟨_, _, rfl, fun hp => ?_⟩, fun i hi => (hq i hi).2⟩
    obtain ⟨b, off, spot⟩ := a
    have hc0 := (hq 0 hp).1.1
    have hspot : spot = none := by simpa [Addr.add] using World.cell?_spot hc0
    subst hspot
    refine ⟨b, off, rfl, World.block_lt_of_cell? W _ hc0, fun i hi => ?_⟩
    have h1 := (hq i hi).1
    simp only [Go.WideShapes.add_plain, ← Nat.add_assoc] at h1
    exact h1
theorem tasks_read {H : Type} {enc : TypeId × Value → H} {W : World} {v : Value} {y : DataW H × List MemPlace} {fuel : Nat} (hf : DataW.trod enc Try.prog W 0 (fun _ => true) true fuel 23 [v] = some y) : ∃ (n : Nat) (x : Nat → Value) (ln : Nat → Nat) (op : Nat → Nat → Op3), SliceV W v n x ∧ ∀ t, t < n → SliceO W (x t) (ln t) (op t) := by
  rcases Deep.open_slice1 Try.underlying23 (by kernel_rfl) hf with ⟨hcs, _⟩ | ⟨a, len, cap, m, fu, U, D, Pl, hcs, _, hl, hm, hmm, hx, hel⟩
  · obtain rfl : v = .slice none 0 0 := by simpa using hcs
    exact ⟨0, fun _ => .slice none 0 0, fun _ => 0, fun _ _ => ⟨0, 0, 0⟩, ⟨_, _, rfl, fun h => absurd h (Nat.lt_irrefl _)⟩, fun j hj => absurd hj (Nat.not_lt_zero j)⟩
  · obtain rfl : v = .slice (some a) len cap := by simpa using hcs
    simp only [if_true] at hmm
    have each : ∀ i, i < len → ∃ q : Nat × (Nat → Op3), SliceO W (U i) q.1 q.2 := fun i hi => by
      obtain ⟨n, o, h⟩ := ops_read (hel i (by omega)).2
      exact ⟨(n, o), h⟩
    haveI : Inhabited Op3 := ⟨⟨0, 0, 0⟩⟩
    haveI : Inhabited Loo.Pl := ⟨⟨0, 0, fun _ => 0, fun _ => 0, fun _ _ => ⟨0, 0, 0⟩⟩⟩
    obtain ⟨q, hq⟩ := Deep.choose_lt each
    refine ⟨len, U, fun i => (q i).1, fun i => (q i).2, ⟨_, _, rfl, fun hp => ?_⟩, hq⟩
    obtain ⟨b, off, spot⟩ := a
    have hc0 := (hel 0 (by omega)).1
    have hspot : spot = none := by simpa [Addr.add] using World.cell?_spot hc0
    subst hspot
    refine ⟨b, off, rfl, World.block_lt_of_cell? W _ hc0, fun i hi => ?_⟩
    have h1 := (hel i (by omega)).1
    rw [Go.WideShapes.add_plain] at h1
    exact h1
theorem plan_readJ {H : Type} {enc : TypeId × Value → H} {W : World} {cs : List Value} {y : DataW H × List MemPlace} {fuel : Nat} (hf : DataW.trod enc Try.prog W 0 (fun _ => true) true fuel 25 cs = some y)
    (hw : ∀ n ∈ y.1.weights Try.prog 25, n ≤ reachBytes) : ∃ cv tv p, cs = [cv, tv] ∧ PlA W (.agg #[cv, tv]) p := by
  obtain ⟨y0, y1, k, hy, hl, t0, t1⟩ := trod_struct2 Try.underlying25 hf
  rw [planCells] at hl
  match cs, hl with
  | [cv, tv], _ =>
    have k1 : Try.prog.cellsOf 22 = 1 := by kernel_rfl
    have k2 : Try.prog.cellsOf 23 = 1 := by kernel_rfl
    simp [k1, k2] at t0 t1
    have h0 : ∀ n ∈ y0.1.weights Try.prog 22, n ≤ reachBytes := fun n hn => hw n (by
      rw [hy]
      simp only [DataW.weights, Try.underlying25]
      simp [DataW.weightsEach, hn])
    obtain ⟨l0, f0, s0, _⟩ := ints_readJ t0 h0
    obtain ⟨n, x, ln, op, s1, s2⟩ := tasks_read t1
    exact ⟨cv, tv, ⟨l0, n, f0, ln, op⟩, rfl, cv, tv, x, rfl, s0, s1, s2⟩
/-- A plan that reads is one. -/
theorem plan_read {H : Type} {enc : TypeId × Value → H} {W : World} {v : Value} {d : DataW H} {p : List MemPlace} (h : ∃ fuel, DataW.trod enc Try.prog W 0 (fun _ => true) true fuel 25 v.cells.toList = some (d, p))
    (hw : ∀ n ∈ d.weights Try.prog 25, n ≤ reachBytes) (hs : ∃ xs, v = .agg xs) : ∃ q, PlA W v q := by
  obtain ⟨xs, rfl⟩ := hs
  obtain ⟨fuel, hf⟩ := h
  obtain ⟨cv, tv, q, e, hp⟩ := plan_readJ hf hw
  have e2 : xs.toList = [cv, tv] := e
  obtain ⟨l⟩ := xs
  have e3 : l = [cv, tv] := e2
  subst e3
  exact ⟨q, hp⟩
theorem plan_agg {W : World} {base : Nat} {v : Value} (h : Value.okWide Try.prog W .any base 25 v) : ∃ xs, v = .agg xs := by
  simp only [Value.okWide, Try.underlying25] at h
  obtain ⟨xs, e, _⟩ := h
  exact ⟨xs, e⟩
end Go.Proofs.Ytcgkelgncehekab.Loo

namespace Go.Proofs.Ytcgkelgncehekab.Drw
open Go.ChangeShapes Go.WideShapes Go.ChangeAt Go.RowKit Gf8 Aes By8 Cel Cf Tap
/- A []int as an argument; nil has no room. -/

/-- A []int that reads is one; nil has no room. -/
theorem ints_readZ {H : Type} {enc : TypeId × Value → H} {W : World} {v : Value} {d : DataW H} {p : List MemPlace} (h : ∃ fuel, DataW.trod enc Try.prog W 0 (fun _ => true) true fuel 22 v.cells.toList = some (d, p))
    (hw : ∀ n ∈ d.weights Try.prog 22, n ≤ reachBytes) (hs : ∃ a l c, v = .slice a l c) : ∃ (len : Nat) (f : Nat → Int), SliceI W v len f ∧ len ≤ 17592186043904 ∧ ∀ l c, v = .slice none l c → c = 0 := by
  obtain ⟨a0, len0, cap0, rfl⟩ := hs
  obtain ⟨fuel, hf⟩ := h
  have hr : reachBytes = 140737488351232 := rfl
  rcases open_ints Try.underlying22 Try.underlying3 (by kernel_rfl) hf with ⟨hcs, _⟩ | ⟨x, l, c, zs, hcs, _, hl, hm, hz, hx, hcell, hwz⟩
  · simp [Value.cells] at hcs
    obtain ⟨rfl, rfl, rfl⟩ := hcs
    exact ⟨0, fun _ => 0, slice_nilI, by omega, fun l c e => by injection e with _ _ e; exact e.symm⟩
  · simp [Value.cells] at hcs
    obtain ⟨rfl, rfl, rfl⟩ := hcs
    simp only [Prod.mk.injEq] at hx
    obtain ⟨rfl, rfl⟩ := hx
    have hzl : zs.length = cap0 := by simpa using hz
    have hb : 8 * cap0 ≤ 140737488351232 := by
      have := hw _ (by simp only [DataW.weights, Try.underlying22]; exact List.mem_cons_self)
      rw [bytesI] at this
      simp only [lits, List.length_map, List.length_take, List.length_drop] at this
      omega
    have key : ∀ j, j < len0 → -9223372036854775808 ≤ zs.getD j 0 ∧ zs.getD j 0 < 9223372036854775808 := fun j hj => wf_i64 (hwz _ (by rw [List.getD_eq_getElem?_getD, List.getElem?_eq_getElem (by omega)]; exact List.getElem_mem _))
    refine ⟨len0, fun j => zs.getD j 0, ⟨⟨_, _, rfl, hl, by unfold maxLen; omega, fun h => ?_⟩, fun j hj => key j hj⟩, by omega, fun l c e => by cases e⟩
    obtain ⟨b, off, rfl, hc⟩ := ints_at hcell (by omega)
    exact ⟨b, off, rfl, World.block_lt_of_cell? W _ (hc 0 (by omega)), fun j hj => hc j (by omega)⟩
end Go.Proofs.Ytcgkelgncehekab.Drw
