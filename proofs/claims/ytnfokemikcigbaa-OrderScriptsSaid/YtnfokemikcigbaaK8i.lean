import Derived.Test.YtnfokemikcigbaaK8f
import Derived.Test.YtnfokemikcigbaaY2
import Derived.ProofKit
import Derived.OpenShut
import Derived.Deep.Slices
namespace Go.Proofs.Ytnfokemikcigbaa.Ord
open Go.ChangeShapes Go.WideShapes Go.ChangeAt Go.RowKit Gf8 Aes By8 Cel Cf Win Drw Prm
/- A script of steps, a list of notes as arguments. Written by tools/mkK8i.py. -/

set_option maxRecDepth 100000

theorem cs3 : Try.prog.cellsOf 3 = 1 := by kernel_rfl
theorem csX : Try.prog.cellsOf 29 = 4 := by kernel_rfl
theorem byX : Try.prog.bytesOf 29 = 32 := by kernel_rfl
theorem take20 {cs : List Value} {k : Nat} {v : Value} (h : (cs.drop k).take 1 = [v]) : cs[k]? = some v := by
  have : ((cs.drop k).take 1)[0]? = some v := by rw [h]; rfl
  rw [List.getElem?_take_of_lt (by omega), List.getElem?_drop] at this
  exact this
def xL (k b i x : Int) : List Value := [.int .i64 k, .int .i64 b, .int .i64 i, .int .i64 x]
/-- The cells of a step. -/
def xC (k b i x : Int) : Array Value := #[.int .i64 k, .int .i64 b, .int .i64 i, .int .i64 x]
/-- A script. -/
structure Sp4 (W : World) (v : Value) (n : Nat) (kd wh ix xx : Nat → Int) : Prop where
  shape : ∃ a c, v = .slice a n c ∧ (0 < n → ∃ b q, a = some ⟨b, q, none⟩ ∧ b < W.heap.size ∧ ∀ j, j < n → W.rangeAt b (q + j * 4) (xL (kd j) (wh j) (ix j) (xx j)))
  num : ∀ j, j < n → I64 (wh j) ∧ I64 (ix j) ∧ I64 (xx j)
section
variable {W W' : World} {v : Value} {n : Nat} {kd wh ix xx : Nat → Int}
theorem range20 {b q : Nat} {l : List Value} (h : W.rangeAt b q l) (hb : Below W.heap.size W W') (hl : b < W.heap.size) : W'.rangeAt b q l := fun j x hx => by
  rw [cell_below hb hl]
  exact h j x hx
theorem Sp4.on (h : Sp4 W v n kd wh ix xx) (hb : Below W.heap.size W W') : Sp4 W' v n kd wh ix xx := by
  obtain ⟨⟨a, c, e, h3⟩, h1⟩ := h
  refine ⟨⟨a, c, e, fun h0 => ?_⟩, h1⟩
  obtain ⟨b, q, e1, e2, e3⟩ := h3 h0
  exact ⟨b, q, e1, Nat.lt_of_lt_of_le e2 hb.size, fun j hj => range20 (e3 j hj) hb e2⟩
theorem Sp4.shp (h : Sp4 W v n kd wh ix xx) : ∃ a c, v = .slice a n c := by
  obtain ⟨a, c, e, _⟩ := h.shape
  exact ⟨a, c, e⟩
theorem Sp4.at (h : Sp4 W v n kd wh ix xx) (h0 : 0 < n) : ∃ b q c, v = .slice (some ⟨b, q, none⟩) n c ∧ b < W.heap.size ∧ ∀ j, j < n → W.rangeAt b (q + j * 4) (xL (kd j) (wh j) (ix j) (xx j)) := by
  obtain ⟨a, c, e, h3⟩ := h.shape
  obtain ⟨b, q, e1, e2, e3⟩ := h3 h0
  exact ⟨b, q, c, by rw [e, e1], e2, e3⟩
end
theorem trod_four {H : Type} {enc : TypeId × Value → H} {P : Program} {w : World} {base : Nat} {spare : Nat → Bool} {held : Bool} {t : TypeId} {f0 f1 f2 f3 : Field} {fuel : Nat} {cs : List Value} {x : DataW H × List MemPlace} (ht : P.underlying t = some (.struct #[f0, f1, f2, f3])) (h : DataW.trod enc P w base spare held fuel t cs = some x) :
    ∃ y0 y1 y2 y3 n, cs.length = P.cellsOf t ∧ DataW.trod enc P w base spare held n f0.type ((cs.drop f0.offset).take (P.cellsOf f0.type)) = some y0 ∧ DataW.trod enc P w base spare held n f1.type ((cs.drop f1.offset).take (P.cellsOf f1.type)) = some y1 ∧ DataW.trod enc P w base spare held n f2.type ((cs.drop f2.offset).take (P.cellsOf f2.type)) = some y2 ∧ DataW.trod enc P w base spare held n f3.type ((cs.drop f3.offset).take (P.cellsOf f3.type)) = some y3 := by
  obtain ⟨xs, n, _, rfl, hl, hlen, hf⟩ := DataW.trod_struct ht h
  match xs, hlen with
  | [y0, y1, y2, y3], _ => exact ⟨y0, y1, y2, y3, n, hl, by simpa using hf 0 f0 rfl, by simpa using hf 1 f1 rfl, by simpa using hf 2 f2 rfl, by simpa using hf 3 f3 rfl⟩
theorem steps20_read {H : Type} {enc : TypeId × Value → H} {W : World} {v : Value} {d : DataW H} {p : List MemPlace} (h : ∃ fuel, DataW.trod enc Try.prog W 0 (fun _ => true) true fuel 22 v.cells.toList = some (d, p))
    (hw : ∀ n ∈ d.weights Try.prog 22, n ≤ reachBytes) (hsl : ∃ a l c, v = .slice a l c) : ∃ n kd wh ix xx, Sp4 W v n kd wh ix xx ∧ n ≤ 4398046510976 := by
  obtain ⟨a0, len0, cap0, rfl⟩ := hsl
  obtain ⟨fuel, hf⟩ := h
  have hr : reachBytes = 140737488351232 := rfl
  rcases Deep.open_slice Try.underlying22 hf with ⟨hcs, _⟩ | ⟨a, len, cap, m, fu, D, Pl, hcs, _, hl, hm, hmm, hx, hel⟩
  · simp [Value.cells] at hcs
    obtain ⟨rfl, rfl, rfl⟩ := hcs
    exact ⟨0, fun _ => 0, fun _ => 0, fun _ => 0, fun _ => 0, ⟨⟨_, _, rfl, fun h => absurd h (Nat.lt_irrefl _)⟩, fun j hj => absurd hj (Nat.not_lt_zero j)⟩, by omega⟩
  · simp [Value.cells] at hcs
    obtain ⟨rfl, rfl, rfl⟩ := hcs
    simp only [Prod.mk.injEq] at hx
    obtain ⟨rfl, rfl⟩ := hx
    simp only [if_true] at hmm
    have hn : (len0 + (m - len0)) * 32 ≤ reachBytes := by
      refine hw _ ?_
      simp only [DataW.weights, Try.underlying22, byX]
      exact List.mem_cons.2 (Or.inl (by simp))
    have each : ∀ i, i < len0 → ∃ q : Int × Int × Int × Int, (∀ j u, ([Value.int .i64 q.1, Value.int .i64 q.2.1, Value.int .i64 q.2.2.1, Value.int .i64 q.2.2.2] : List Value)[j]? = some u → W.cell? (a.add (i * 4 + j)) = some u) ∧ I64 q.1 ∧ I64 q.2.1 ∧ I64 q.2.2.1 ∧ I64 q.2.2.2 := by
      intro i hi
      obtain ⟨cs', h1, h2⟩ := hel i (by omega)
      rw [csX] at h1
      obtain ⟨_, hlen, hcell⟩ := World.cells?_some h1
      obtain ⟨y0, y1, y2, y3, k, _, t0, t1, t2, t3⟩ := trod_four Try.underlying29 h2
      simp only [cs3] at t0 t1 t2 t3
      obtain ⟨z0, e0, _, w0⟩ := DataW.trod_int Try.underlying3 t0
      obtain ⟨z1, e1, _, w1⟩ := DataW.trod_int Try.underlying3 t1
      obtain ⟨z2, e2, _, w2⟩ := DataW.trod_int Try.underlying3 t2
      obtain ⟨z3, e3, _, w3⟩ := DataW.trod_int Try.underlying3 t3
      have c0 := take20 e0
      have c1 := take20 e1
      have c2 := take20 e2
      have c3 := take20 e3
      refine ⟨(z0, z1, z2, z3), fun j u hu => ?_, wf_i64 w0, wf_i64 w1, wf_i64 w2, wf_i64 w3⟩
      have hcs : j < 4 ∧ cs'[j]? = some u := by
        match j, hu with
        | 0, hu => exact ⟨by omega, c0.trans hu⟩
        | 1, hu => exact ⟨by omega, c1.trans hu⟩
        | 2, hu => exact ⟨by omega, c2.trans hu⟩
        | 3, hu => exact ⟨by omega, c3.trans hu⟩
        | j + 4, hu => cases hu
      have e := hcell j (by omega)
      rw [Deep.add_add] at e
      exact e.trans hcs.2
    obtain ⟨q, hq⟩ := Deep.choose_lt each
    have hs : 0 < len0 → ∃ b off, a = ⟨b, off, none⟩ := fun hp => by
      obtain ⟨b, off, spot⟩ := a
      have hspot : spot = none := by simpa [Addr.add] using World.cell?_spot ((hq 0 hp).1 0 _ rfl)
      exact ⟨b, off, by rw [hspot]⟩
    refine ⟨len0, fun i => (q i).1, fun i => (q i).2.1, fun i => (q i).2.2.1, fun i => (q i).2.2.2, ⟨⟨_, _, rfl, fun hp => ?_⟩, fun i hi => (hq i hi).2.2⟩, by omega⟩
    obtain ⟨b, off, rfl⟩ := hs hp
    refine ⟨b, off, rfl, World.block_lt_of_cell? W _ ((hq 0 hp).1 0 _ rfl), fun i hi j u hu => ?_⟩
    have h1 := (hq i hi).1 j u hu
    rw [Go.WideShapes.add_plain, ← Nat.add_assoc] at h1
    exact h1
end Go.Proofs.Ytnfokemikcigbaa.Ord
