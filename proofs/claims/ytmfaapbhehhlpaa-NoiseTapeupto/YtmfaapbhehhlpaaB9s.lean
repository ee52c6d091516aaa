import Derived.Test.YtmfaapbhehhlpaaB9h
import Derived.Test.YtmfaapbhehhlpaaY2
import Derived.Lib.SmallJoins
import Derived.Test.YtmfaapbhehhlpaaZ9a
import Derived.Test.YtmfaapbhehhlpaaX2
import Derived.Test.YtmfaapbhehhlpaaRows
namespace Go.Proofs.Ytmfaapbhehhlpaa.Noi
open Go.ChangeShapes Go.WideShapes Go.ChangeAt Go.RowKit Gf8 Aes By8 Cel Cf Tap Drw Prm Brd
/- An Ask of churnlaw15 as an argument. -/

set_option maxRecDepth 100000

theorem ask15Cells : Try.prog.cellsOf 33 = 6 := by kernel_rfl
theorem trod_six {H : Type} {enc : TypeId × Value → H} {P : Program} {w : World} {base : Nat} {spare : Nat → Bool} {held : Bool} {t : TypeId} {f0 f1 f2 f3 f4 f5 : Field} {fuel : Nat} {cs : List Value} {x : DataW H × List MemPlace} (ht : P.underlying t = some (.struct #[f0, f1, f2, f3, f4, f5])) (h : DataW.trod enc P w base spare held fuel t cs = some x) :
    ∃ y0 y1 y2 y3 y4 y5 n, x.1 = .agg [y0.1, y1.1, y2.1, y3.1, y4.1, y5.1] ∧ cs.length = P.cellsOf t ∧ DataW.trod enc P w base spare held n f0.type ((cs.drop f0.offset).take (P.cellsOf f0.type)) = some y0 ∧
      DataW.trod enc P w base spare held n f1.type ((cs.drop f1.offset).take (P.cellsOf f1.type)) = some y1 ∧ DataW.trod enc P w base spare held n f2.type ((cs.drop f2.offset).take (P.cellsOf f2.type)) = some y2 ∧
      DataW.trod enc P w base spare held n f3.type ((cs.drop f3.offset).take (P.cellsOf f3.type)) = some y3 ∧ DataW.trod enc P w base spare held n f4.type ((cs.drop f4.offset).take (P.cellsOf f4.type)) = some y4 ∧
      DataW.trod enc P w base spare held n f5.type ((cs.drop f5.offset).take (P.cellsOf f5.type)) = some y5 := by
  obtain ⟨xs, n, _, rfl, hl, hlen, hf⟩ := DataW.trod_struct ht h
  match xs, hlen with
  | [y0, y1, y2, y3, y4, y5], _ => exact ⟨y0, y1, y2, y3, y4, y5, n, by simp, hl, by simpa using hf 0 f0 rfl, by simpa using hf 1 f1 rfl, by simpa using hf 2 f2 rfl, by simpa using hf 3 f3 rfl, by simpa using hf 4 f4 rfl, by simpa using hf 5 f5 rfl⟩
theorem ask15_agg {W : World} {base : Nat} {v : Value} (h : Value.okWide Try.prog W .any base 33 v) : ∃ xs, v = .agg xs := by
  simp only [Value.okWide, Try.underlying33] at h
  obtain ⟨xs, e, _⟩ := h
  exact ⟨xs, e⟩
end Go.Proofs.Ytmfaapbhehhlpaa.Noi

namespace Go.Proofs.Ytmfaapbhehhlpaa.Drw
open Go.ChangeShapes Go.WideShapes Go.ChangeAt Go.RowKit Gf8 Aes By8 Cel Cf Tap
/- Lists as arguments, whose length is at most their bulk. -/

theorem bulk_lits {H : Type} (k : IntKind) : ∀ (zs : List Int), Rows.uptoBulkAll (lits (H := H) k zs) = zs.length
  | [] => by simp [lits, Rows.uptoBulkAll]
  | z :: r => by
    have ih := bulk_lits (H := H) k r
    simp only [lits, List.map_cons, Rows.uptoBulkAll, Rows.uptoBulk, List.length_cons] at ih ⊢
    omega
/-- A []byte that reads is one, no longer than its bulk. -/
theorem bytes_bulk {H : Type} {enc : TypeId × Value → H} {W : World} {v : Value} {d : DataW H} {p : List MemPlace} (h : ∃ fuel, DataW.trod enc Try.prog W 0 (fun _ => true) true fuel 31 v.cells.toList = some (d, p))
    (hd : Rows.uptoBulk d ≤ 1048576) (hs : ∃ a l c, v = .slice a l c) : ∃ (len : Nat) (f : Nat → Nat), SliceN W v len f ∧ len ≤ Rows.uptoBulk d ∧ ∀ l c, v = .slice none l c → c = 0 := by
  obtain ⟨a0, len0, cap0, rfl⟩ := hs
  obtain ⟨fuel, hf⟩ := h
  rcases open_ints Try.underlying31 Try.underlying5 (by kernel_rfl) hf with ⟨hcs, _⟩ | ⟨x, l, c, zs, hcs, _, hl, hm, hz, hx, hcell, hwz⟩
  · simp [Value.cells] at hcs
    obtain ⟨rfl, rfl, rfl⟩ := hcs
    exact ⟨0, fun _ => 0, ⟨⟨_, _, rfl, Nat.le_refl _, by omega, fun h => by omega⟩, fun j hj => by omega⟩, Nat.zero_le _, fun l c e => by injection e with _ _ e; exact e.symm⟩
  · simp [Value.cells] at hcs
    obtain ⟨rfl, rfl, rfl⟩ := hcs
    simp only [Prod.mk.injEq] at hx
    obtain ⟨rfl, rfl⟩ := hx
    have hzl : zs.length = cap0 := by simpa using hz
    have hb : cap0 ≤ 1048576 := by
      simp only [Rows.uptoBulk, bulk_lits, List.length_take, List.length_drop] at hd
      omega
    have key : ∀ j, j < len0 → 0 ≤ zs.getD j 0 ∧ zs.getD j 0 < 256 := fun j hj => wfB.1 (hwz _ (by rw [List.getD_eq_getElem?_getD, List.getElem?_eq_getElem (by omega)]; exact List.getElem_mem _))
    refine ⟨len0, fun j => (zs.getD j 0).toNat, ⟨⟨_, _, rfl, hl, by omega, fun h => ?_⟩, fun j hj => ?_⟩, ?_, fun l c e => by cases e⟩
    · obtain ⟨b, off, rfl, hc⟩ := ints_at hcell (by omega)
      refine ⟨b, off, rfl, World.block_lt_of_cell? W _ (hc 0 (by omega)), fun j hj => ?_⟩
      rw [hc j (by omega)]
      have := key j hj
      rw [Int.toNat_of_nonneg this.1]
    · have := key j hj
      omega
    · simp only [Rows.uptoBulk, bulk_lits, List.length_take, List.length_drop]
      omega
end Go.Proofs.Ytmfaapbhehhlpaa.Drw

namespace Go.Proofs.Ytmfaapbhehhlpaa.Noi
open Go.ChangeShapes Go.WideShapes Go.ChangeAt Go.RowKit Gf8 Aes By8 Cel Cf Tap Drw Prm Brd
/- An Ask of churnlaw15 as an argument, whose part is no longer than its bulk. -/

set_option maxRecDepth 100000

theorem ask15_bulk {H : Type} {enc : TypeId × Value → H} {W : World} {v : Value} {d : DataW H} {p : List MemPlace} (h : ∃ fuel, DataW.trod enc Try.prog W 0 (fun _ => true) true fuel 33 v.cells.toList = some (d, p))
    (hd : Rows.uptoBulk d ≤ 1048576) (hs : ∃ xs, v = .agg xs) :
    ∃ (v0 : Value) (na nd nm nc nl : Int) (l : Nat) (f : Nat → Nat), v = .agg (anC v0 na nd nm nc nl) ∧ SliceN W v0 l f ∧ l ≤ Rows.uptoBulk d ∧ (∀ l c, v0 = .slice none l c → c = 0) ∧ I64 na ∧ I64 nd ∧ I64 nm ∧ I64 nc ∧ I64 nl := by
  obtain ⟨xs, rfl⟩ := hs
  obtain ⟨fuel, hf⟩ := h
  obtain ⟨y0, y1, y2, y3, y4, y5, k, hD, hl, t0, t1, t2, t3, t4, t5⟩ := trod_six Try.underlying33 hf
  rw [ask15Cells] at hl
  have hl2 : xs.toList.length = 6 := hl
  obtain ⟨l⟩ := xs
  match l, hl2 with
  | [v0, v1, v2, v3, v4, v5], _ =>
    have k2 : Try.prog.cellsOf 31 = 1 := by kernel_rfl
    have k3 : Try.prog.cellsOf 3 = 1 := by kernel_rfl
    have hc : (Value.agg ⟨[v0, v1, v2, v3, v4, v5]⟩).cells.toList = [v0, v1, v2, v3, v4, v5] := rfl
    rw [hc] at t0 t1 t2 t3 t4 t5
    simp [k2, k3] at t0 t1 t2 t3 t4 t5
    have hD2 : d = .agg [y0.1, y1.1, y2.1, y3.1, y4.1, y5.1] := hD
    have hle : Rows.uptoBulk y0.1 ≤ Rows.uptoBulk d := by
      rw [hD2]
      simp only [Rows.uptoBulk, Rows.uptoBulkAll]
      omega
    obtain ⟨a1, e1, _, w1⟩ := DataW.trod_int Try.underlying3 t1
    obtain ⟨a2, e2, _, w2⟩ := DataW.trod_int Try.underlying3 t2
    obtain ⟨a3, e3, _, w3⟩ := DataW.trod_int Try.underlying3 t3
    obtain ⟨a4, e4, _, w4⟩ := DataW.trod_int Try.underlying3 t4
    obtain ⟨a5, e5, _, w5⟩ := DataW.trod_int Try.underlying3 t5
    have hs0 : ∃ a l c, v0 = .slice a l c := by
      rcases open_ints Try.underlying31 Try.underlying5 (by kernel_rfl) t0 with ⟨hcs, _⟩ | ⟨x, l, c, zs, hcs, _⟩
      · exact ⟨_, _, _, by simpa using hcs⟩
      · exact ⟨_, _, _, by simpa using hcs⟩
    obtain ⟨q1, q2, q3, rfl⟩ := hs0
    obtain ⟨l0, f0, s0, b0, z0⟩ := bytes_bulk (d := y0.1) (p := y0.2) ⟨k, t0⟩ (by omega) ⟨_, _, _, rfl⟩
    have e1' : v1 = .int .i64 a1 := by simpa using e1
    have e2' : v2 = .int .i64 a2 := by simpa using e2
    have e3' : v3 = .int .i64 a3 := by simpa using e3
    have e4' : v4 = .int .i64 a4 := by simpa using e4
    have e5' : v5 = .int .i64 a5 := by simpa using e5
    subst e1' e2' e3' e4' e5'
    exact ⟨_, a1, a2, a3, a4, a5, l0, f0, rfl, s0, by omega, z0, wf_i64 w1, wf_i64 w2, wf_i64 w3, wf_i64 w4, wf_i64 w5⟩
end Go.Proofs.Ytmfaapbhehhlpaa.Noi
