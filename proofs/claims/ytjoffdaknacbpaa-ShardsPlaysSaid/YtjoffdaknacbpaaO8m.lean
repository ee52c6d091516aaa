import Derived.Test.YtjoffdaknacbpaaO8j
import Derived.Test.YtjoffdaknacbpaaC9y
namespace Go.Proofs.Ytjoffdaknacbpaa.Sha
open Go.ChangeShapes Go.WideShapes Go.ChangeAt Go.RowKit Gf8 Aes By8 Cel Cf Win Drw
/- A script as an argument. -/

set_option maxRecDepth 100000

theorem trod_four {H : Type} {enc : TypeId × Value → H} {P : Program} {w : World} {base : Nat} {spare : Nat → Bool} {held : Bool} {t : TypeId} {f0 f1 f2 f3 : Field} {fuel : Nat} {cs : List Value} {x : DataW H × List MemPlace} (ht : P.underlying t = some (.struct #[f0, f1, f2, f3])) (h : DataW.trod enc P w base spare held fuel t cs = some x) :
    ∃ y0 y1 y2 y3 n, cs.length = P.cellsOf t ∧ DataW.trod enc P w base spare held n f0.type ((cs.drop f0.offset).take (P.cellsOf f0.type)) = some y0 ∧ DataW.trod enc P w base spare held n f1.type ((cs.drop f1.offset).take (P.cellsOf f1.type)) = some y1 ∧ DataW.trod enc P w base spare held n f2.type ((cs.drop f2.offset).take (P.cellsOf f2.type)) = some y2 ∧ DataW.trod enc P w base spare held n f3.type ((cs.drop f3.offset).take (P.cellsOf f3.type)) = some y3 := by
  obtain ⟨xs, n, _, rfl, hl, hlen, hf⟩ := DataW.trod_struct ht h
  match xs, hlen with
  | [y0, y1, y2, y3], _ => exact ⟨y0, y1, y2, y3, n, hl, by simpa using hf 0 f0 rfl, by simpa using hf 1 f1 rfl, by simpa using hf 2 f2 rfl, by simpa using hf 3 f3 rfl⟩
theorem csX : Try.prog.cellsOf 33 = 19 := by kernel_rfl
theorem cs3x : Try.prog.cellsOf 3 = 1 := by kernel_rfl
theorem cs16x : Try.prog.cellsOf 31 = 16 := by kernel_rfl
theorem take1 {cs : List Value} {k : Nat} {v : Value} (h : (cs.drop k).take 1 = [v]) : cs[k]? = some v := by
  have : ((cs.drop k).take 1)[0]? = some v := by rw [h]; rfl
  rw [List.getElem?_take_of_lt (by omega), List.getElem?_drop] at this
  exact this
/-- A script that reads is one. -/
theorem steps17_read {H : Type} {enc : TypeId × Value → H} {W : World} {v : Value} {d : DataW H} {p : List MemPlace} (h : ∃ fuel, DataW.trod enc Try.prog W 0 (fun _ => true) true fuel 22 v.cells.toList = some (d, p))
    (hsl : ∃ a l c, v = .slice a l c) : ∃ n kd wh ix tg, Sps W v n kd wh ix tg := by
  obtain ⟨a0, len0, cap0, rfl⟩ := hsl
  obtain ⟨fuel, hf⟩ := h
  rcases Deep.open_slice Try.underlying22 hf with ⟨hcs, _⟩ | ⟨a, len, cap, m, fu, D, Pl, hcs, _, hl, hm, hmm, hx, hel⟩
  · simp [Value.cells] at hcs
    obtain ⟨rfl, rfl, rfl⟩ := hcs
    exact ⟨0, fun _ => 0, fun _ => 0, fun _ => 0, fun _ _ => 0, ⟨⟨_, _, rfl, fun h => absurd h (Nat.lt_irrefl _)⟩, fun j hj => absurd hj (Nat.not_lt_zero j), fun j hj => absurd hj (Nat.not_lt_zero j)⟩⟩
  · simp [Value.cells] at hcs
    obtain ⟨rfl, rfl, rfl⟩ := hcs
    simp only [Prod.mk.injEq] at hx
    obtain ⟨rfl, rfl⟩ := hx
    simp only [if_true] at hmm
    have each : ∀ i, i < len0 → ∃ q : Int × Int × Int × (Nat → Nat), (∀ j u, (spL q.1 q.2.1 q.2.2.2 q.2.2.1)[j]? = some u → W.cell? (a.add (i * 19 + j)) = some u) ∧ (∀ k, k < 16 → q.2.2.2 k < 256) ∧ I64 q.2.1 := by
      intro i hi
      obtain ⟨cs', h1, h2⟩ := hel i (by omega)
      rw [csX] at h1
      obtain ⟨_, hlen, hcell⟩ := World.cells?_some h1
      obtain ⟨y0, y1, y2, y3, k, _, t0, t1, t2, t3⟩ := trod_four Try.underlying33 h2
      simp only [cs3x, cs16x] at t0 t1 t2 t3
      obtain ⟨z0, e0, _, _⟩ := DataW.trod_int Try.underlying3 t0
      obtain ⟨z1, e1, _, w1⟩ := DataW.trod_int Try.underlying3 t1
      obtain ⟨z3, e3, _, _⟩ := DataW.trod_int Try.underlying3 t3
      obtain ⟨f, hf1, hf2⟩ := cells16 (n := 16) Try.underlying31 Try.underlying5 (by kernel_rfl) cs16x (by rw [List.length_take, List.length_drop, hlen]; rfl) t2
      have c0 := take1 e0
      have c1 := take1 e1
      have c3 := take1 e3
      have c2 : ∀ j, j < 16 → cs'[2 + j]? = some (.int .u8 ((f j : Nat) : Int)) := fun j hj => by
        have := hf2 j hj
        rw [List.getElem?_take_of_lt hj, List.getElem?_drop] at this
        exact this
      obtain ⟨s0, s1, s2, s3⟩ := spL_at z0 z1 f z3
      have hcs : ∀ j u, (spL z0 z1 f z3)[j]? = some u → cs'[j]? = some u := fun j u hu => by
        have hj : j < 19 := by have := (List.getElem?_eq_some_iff.1 hu).1; rw [spL_len] at this; exact this
        by_cases h0 : j = 0
        · subst h0; rw [s0] at hu; rw [← hu]; exact c0
        · by_cases h1 : j = 1
          · subst h1; rw [s1] at hu; rw [← hu]; exact c1
          · by_cases h18 : j = 18
            · subst h18; rw [s3] at hu; rw [← hu]; exact c3
            · obtain ⟨k, rfl⟩ : ∃ k, j = 2 + k := ⟨j - 2, by omega⟩
              rw [s2 k (by omega)] at hu
              rw [← hu]
              exact c2 k (by omega)
      refine ⟨(z0, z1, z3, f), fun j u hu => ?_, hf1, wf_i64 w1⟩
      have hj : j < 19 := by have := (List.getElem?_eq_some_iff.1 hu).1; rw [spL_len] at this; exact this
      have e := hcell j (by omega)
      rw [Deep.add_add] at e
      exact e.trans (hcs j u hu)
    obtain ⟨q, hq⟩ := Deep.choose_lt each
    refine ⟨len0, fun i => (q i).1, fun i => (q i).2.1, fun i => (q i).2.2.1, fun i => (q i).2.2.2, ⟨⟨_, _, rfl, fun hp => ?_⟩, fun i hi => (hq i hi).2.1, fun i hi => (hq i hi).2.2⟩⟩
    obtain ⟨b, off, spot⟩ := a
    have hc0 := (hq 0 hp).1 0 _ (spL_at _ _ _ _).1
    have hspot : spot = none := by simpa [Addr.add] using World.cell?_spot hc0
    subst hspot
    refine ⟨b, off, rfl, World.block_lt_of_cell? W _ hc0, fun i hi j u hu => ?_⟩
    have h1 := (hq i hi).1 j u hu
    rw [Go.WideShapes.add_plain, ← Nat.add_assoc] at h1
    exact h1
end Go.Proofs.Ytjoffdaknacbpaa.Sha
