import Derived.Test.YtghnhfigihnciaaGreatY8e
import Derived.Test.YtghnhfigihnciaaGreatY2
import Derived.ProofKit
import Derived.OpenShut
import Derived.Deep.Slices
namespace Go.Proofs.YtghnhfigihnciaaGreat.Srv
open Go.ChangeShapes Go.WideShapes Go.ChangeAt Go.RowKit Gf8 Aes By8 Cel Cf Win Rnd
/- A script of steps as an argument. -/

set_option maxRecDepth 100000

theorem c3_4 : Tryz.prog.cellsOf 3 = 1 := by kernel_rfl
theorem cb_4 : Tryz.prog.cellsOf 26 = 1 := by kernel_rfl
theorem ci_4 : Tryz.prog.cellsOf 46 = 1 := by kernel_rfl
theorem cp_4 : Tryz.prog.cellsOf 48 = 5 := by kernel_rfl
theorem bp_4 : Tryz.prog.bytesOf 48 = 88 := by kernel_rfl
theorem take24 {cs : List Value} {k : Nat} {v : Value} (h : (cs.drop k).take 1 = [v]) : cs[k]? = some v := by
  have : ((cs.drop k).take 1)[0]? = some v := by rw [h]; rfl
  rw [List.getElem?_take_of_lt (by omega), List.getElem?_drop] at this
  exact this
theorem sl_of {H : Type} {enc : TypeId × Value → H} {W : World} {t el : TypeId} {cs : List Value} {y : DataW H × List MemPlace} {fuel : Nat} (ht : Tryz.prog.underlying t = some (.slice el)) (h : DataW.trod enc Tryz.prog W 0 (fun _ => true) true fuel t cs = some y) : ∃ g n c, cs = [.slice g n c] := by
  rcases Deep.open_slice ht h with ⟨hcs, _⟩ | ⟨a, len, cap, m, fu, D, Pl, hcs, _⟩
  · exact ⟨_, _, _, hcs⟩
  · exact ⟨_, _, _, hcs⟩
theorem trod_five4 {H : Type} {enc : TypeId × Value → H} {P : Program} {w : World} {base : Nat} {spare : Nat → Bool} {held : Bool} {t : TypeId} {f0 f1 f2 f3 f4 : Field} {fuel : Nat} {cs : List Value} {x : DataW H × List MemPlace} (ht : P.underlying t = some (.struct #[f0, f1, f2, f3, f4])) (h : DataW.trod enc P w base spare held fuel t cs = some x) :
    ∃ y0 y1 y2 y3 y4 n, cs.length = P.cellsOf t ∧ DataW.trod enc P w base spare held n f0.type ((cs.drop f0.offset).take (P.cellsOf f0.type)) = some y0 ∧ DataW.trod enc P w base spare held n f1.type ((cs.drop f1.offset).take (P.cellsOf f1.type)) = some y1 ∧ DataW.trod enc P w base spare held n f2.type ((cs.drop f2.offset).take (P.cellsOf f2.type)) = some y2 ∧ DataW.trod enc P w base spare held n f3.type ((cs.drop f3.offset).take (P.cellsOf f3.type)) = some y3 ∧ DataW.trod enc P w base spare held n f4.type ((cs.drop f4.offset).take (P.cellsOf f4.type)) = some y4 := by
  obtain ⟨xs, n, _, rfl, hl, hlen, hf⟩ := DataW.trod_struct ht h
  match xs, hlen with
  | [y0, y1, y2, y3, y4], _ => exact ⟨y0, y1, y2, y3, y4, n, hl, by simpa using hf 0 f0 rfl, by simpa using hf 1 f1 rfl, by simpa using hf 2 f2 rfl, by simpa using hf 3 f3 rfl, by simpa using hf 4 f4 rfl⟩
theorem steps24_read {H : Type} {enc : TypeId × Value → H} {W : World} {v : Value} {d : DataW H} {p : List MemPlace} (h : ∃ fuel, DataW.trod enc Tryz.prog W 0 (fun _ => true) true fuel 22 v.cells.toList = some (d, p))
    (hw : ∀ n ∈ d.weights Tryz.prog 22, n ≤ reachBytes) (hsl : ∃ a l c, v = .slice a l c) : ∃ n kd en rv tv sv, Sps4 W v n kd en rv tv sv ∧ n < 9223372036854775808 := by
  obtain ⟨a0, len0, cap0, rfl⟩ := hsl
  obtain ⟨fuel, hf⟩ := h
  have hr : reachBytes = 140737488351232 := rfl
  rcases Deep.open_slice Tryz.underlying22 hf with ⟨hcs, _⟩ | ⟨a, len, cap, m, fu, D, Pl, hcs, _, hl, hm, hmm, hx, hel⟩
  · simp [Value.cells] at hcs
    obtain ⟨rfl, rfl, rfl⟩ := hcs
    exact ⟨0, fun _ => 0, fun _ => 0, fun _ => undef, fun _ => undef, fun _ => undef, ⟨⟨_, _, rfl, Nat.le_refl _, by omega, fun h => absurd h (Nat.lt_irrefl _)⟩, fun j hj => absurd hj (Nat.not_lt_zero j)⟩, by omega⟩
  · simp [Value.cells] at hcs
    obtain ⟨rfl, rfl, rfl⟩ := hcs
    simp only [Prod.mk.injEq] at hx
    obtain ⟨rfl, rfl⟩ := hx
    simp only [if_true] at hmm
    have hn : (len0 + (m - len0)) * 88 ≤ reachBytes := by
      refine hw _ ?_
      simp only [DataW.weights, Tryz.underlying22, bp_4]
      exact List.mem_cons.2 (Or.inl (by simp))
    have each : ∀ i, i < len0 → ∃ q : Int × Int × Value × Value × Value, (∀ j u, ([Value.int .i64 q.1, Value.int .i64 q.2.1, q.2.2.1, q.2.2.2.1, q.2.2.2.2] : List Value)[j]? = some u → W.cell? (a.add (i * 5 + j)) = some u) ∧ (∃ g n c, q.2.2.1 = .slice g n c) ∧ (∃ g n c, q.2.2.2.1 = .slice g n c) ∧ ∃ g n c, q.2.2.2.2 = .slice g n c := by
      intro i hi
      obtain ⟨cs', h1, h2⟩ := hel i (by omega)
      rw [cp_4] at h1
      obtain ⟨_, hlen, hcell⟩ := World.cells?_some h1
      obtain ⟨y0, y1, y2, y3, y4, k, _, t0, t1, t2, t3, t4⟩ := trod_five4 Tryz.underlying48 h2
      simp only [c3_4, cb_4, ci_4] at t0 t1 t2 t3 t4
      obtain ⟨z0, e0, _, _⟩ := DataW.trod_int Tryz.underlying3 t0
      obtain ⟨z1, e1, _, _⟩ := DataW.trod_int Tryz.underlying3 t1
      obtain ⟨g2, n2, q2, e2⟩ := sl_of Tryz.underlying26 t2
      obtain ⟨g3, n3, q3, e3⟩ := sl_of Tryz.underlying26 t3
      obtain ⟨g4, n4, q4, e4⟩ := sl_of Tryz.underlying46 t4
      have c0 := take24 e0
      have c1 := take24 e1
      have c2 := take24 e2
      have c3 := take24 e3
      have c4 := take24 e4
      refine ⟨(z0, z1, _, _, _), fun j u hu => ?_, ⟨g2, n2, q2, rfl⟩, ⟨g3, n3, q3, rfl⟩, ⟨g4, n4, q4, rfl⟩⟩
      have hcs : j < 5 ∧ cs'[j]? = some u := by
        match j, hu with
        | 0, hu => exact ⟨by omega, c0.trans hu⟩
        | 1, hu => exact ⟨by omega, c1.trans hu⟩
        | 2, hu => exact ⟨by omega, c2.trans hu⟩
        | 3, hu => exact ⟨by omega, c3.trans hu⟩
        | 4, hu => exact ⟨by omega, c4.trans hu⟩
        | j + 5, hu => cases hu
      have e5 := hcell j (by omega)
      rw [Deep.add_add] at e5
      rw [e5]
      exact hcs.2
    obtain ⟨q, hq⟩ := Classical.axiomOfChoice (r := fun (i : Nat) (q : Int × Int × Value × Value × Value) => i < len0 → (∀ j u, ([Value.int .i64 q.1, Value.int .i64 q.2.1, q.2.2.1, q.2.2.2.1, q.2.2.2.2] : List Value)[j]? = some u → W.cell? (a.add (i * 5 + j)) = some u) ∧ (∃ g n c, q.2.2.1 = .slice g n c) ∧ (∃ g n c, q.2.2.2.1 = .slice g n c) ∧ ∃ g n c, q.2.2.2.2 = .slice g n c) (fun i => by
      by_cases hi : i < len0
      · obtain ⟨q, h⟩ := each i hi
        exact ⟨q, fun _ => h⟩
      · exact ⟨(0, 0, undef, undef, undef), fun h => absurd h hi⟩)
    refine ⟨len0, fun i => (q i).1, fun i => (q i).2.1, fun i => (q i).2.2.1, fun i => (q i).2.2.2.1, fun i => (q i).2.2.2.2, ⟨⟨_, _, rfl, ?_, ?_, fun h0 => ?_⟩, fun i hi => (hq i hi).2⟩, by omega⟩
    · omega
    · omega
    · have hs : ∃ b off, a = ⟨b, off, none⟩ := by
        obtain ⟨b, off, spot⟩ := a
        have hspot : spot = none := by simpa [Addr.add] using World.cell?_spot ((hq 0 h0).1 0 _ rfl)
        exact ⟨b, off, by rw [hspot]⟩
      obtain ⟨b, off, rfl⟩ := hs
      have g : ∀ i, i < len0 → ∀ j u, ([Value.int .i64 (q i).1, Value.int .i64 (q i).2.1, (q i).2.2.1, (q i).2.2.2.1, (q i).2.2.2.2] : List Value)[j]? = some u → W.cell? ⟨b, off + i * 5 + j, none⟩ = some u := fun i hi j u hu => by
        have h1 := (hq i hi).1 j u hu
        rw [Go.WideShapes.add_plain, ← Nat.add_assoc] at h1
        exact h1
      exact ⟨b, off, rfl, World.block_lt_of_cell? W _ ((hq 0 h0).1 0 _ rfl), fun i hi => ⟨g i hi 0 _ rfl, g i hi 1 _ rfl, g i hi 2 _ rfl, g i hi 3 _ rfl, g i hi 4 _ rfl⟩⟩
end Go.Proofs.YtghnhfigihnciaaGreat.Srv
