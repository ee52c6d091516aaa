import Derived.Test.YtejhbfbnljioeaaGreatDoorA7
import Derived.Lib.LaidTab
import Derived.ProofKit
import Derived.Test.YtejhbfbnljioeaaGreatDoorX6m
import Derived.Test.YtejhbfbnljioeaaGreatDoorX6l
import Derived.Test.YtejhbfbnljioeaaGreatDoorY2
import Derived.Test.YtejhbfbnljioeaaGreatDoorX2
import Derived.Deep.SlicePairs
import Derived.OpenShut
import Derived.ChangeOld
import Derived.SizedLaws
import Derived.Deep.DeepHandedRow
import Derived.Lib.SmallJoins
import Derived.Test.YtejhbfbnljioeaaGreatDoorX5n
import Derived.Test.YtejhbfbnljioeaaGreatDoorX7f
import Derived.Test.YtejhbfbnljioeaaGreatDoorC6
import Derived.Test.YtejhbfbnljioeaaGreatDoorI1
import Derived.Test.YtejhbfbnljioeaaGreatDoorI2
import Derived.Test.YtejhbfbnljioeaaGreatDoorI3
import Derived.Test.YtejhbfbnljioeaaGreatDoorY3
namespace Go.Proofs.YtejhbfbnljioeaaGreatDoor
open Go.RowKit
theorem gH : Tryz.prog.globalNamed "churn/hash.startWords" = some 0 := by kernel_rfl
theorem gK : Tryz.prog.globalNamed "churn/hash.stepWords" = some 1 := by kernel_rfl
theorem gHt : (Tryz.prog.globals[0]?).map (·.type) = some 100 := by kernel_rfl
theorem gKt : (Tryz.prog.globals[1]?).map (·.type) = some 135 := by kernel_rfl
theorem cells23 : Tryz.prog.cellsOf 100 = 8 := by kernel_rfl
theorem cells47 : Tryz.prog.cellsOf 135 = 64 := by kernel_rfl
theorem cells22 : Tryz.prog.cellsOf 99 = 1 := by kernel_rfl
/-- The two tables, as every row of this seat lists them. -/
def laidList : List (String × DataW Unit) := [("churn/hash.startWords", Rows.laid_churn_hash_startWords), ("churn/hash.stepWords", Rows.laid_churn_hash_stepWords)]
theorem laidMet_rest {P : Program} {x : String × DataW Unit} {rest : List (String × DataW Unit)} {W : World} (h : laidMet P (x :: rest) W) : laidMet P rest W := by
  obtain ⟨ps, hl, hnd, hall⟩ := h
  obtain ⟨g, t, cs, fuel, p, q, _, _, _, _, h1, h2⟩ := hl
  first
    | (subst h2
       exact ⟨q, h1, (List.nodup_append.1 hnd).2.1, fun b off hm => hall b off (List.mem_append_right _ hm)⟩)
    | (subst h1
       exact ⟨q, h2, (List.nodup_append.1 hnd).2.1, fun b off hm => hall b off (List.mem_append_right _ hm)⟩)
theorem glob_of {W : World} (h : laidMetH Tryz.prog laidList W) : Glob W := by
  have h' : laidMet Tryz.prog laidList W := h
  have t1 : Lib.TabIs Tryz.prog W "churn/hash.startWords" .u32 hList :=
    Lib.tabIs_of_head (rest := [("churn/hash.stepWords", Rows.laid_churn_hash_stepWords)]) gH gHt Tryz.underlying100 Tryz.underlying99 cells22 cells23 h'
  have t2 : Lib.TabIs Tryz.prog W "churn/hash.stepWords" .u32 kList :=
    Lib.tabIs_of_head (rest := []) gK gKt Tryz.underlying135 Tryz.underlying99 cells22 cells47 (laidMet_rest h')
  have c0 := t1.cell gH
  have c1 := t2.cell gK
  have e0 := c1 63 (by decide)
  have hb := World.block_lt_of_cell? W _ e0
  exact ⟨hb, fun i hi => c0 i hi, fun i hi => c1 i hi⟩

/-- A block of words, holding these. -/
def holdWords (zs : List Int) : Obj → Obj
  | .cells _ t frozen => .cells (zs.map fun z => Value.int .u32 z).toArray t frozen
  | o => o
/-- A WORLD FOR THE WITNESS: the settled one, the two tables holding what their initialisers lay. -/
def layW (w : World) : World := { w with heap := (w.heap.modify 0 (holdWords hList)).modify 1 (holdWords kList) }
theorem own : ownKnob Tryz.prog.godebug = none := by kernel_rfl
theorem laidOut : laidOutB Tryz.prog = true := by kernel_rfl
end Go.Proofs.YtejhbfbnljioeaaGreatDoor

namespace Go.Proofs.YtejhbfbnljioeaaGreatDoor.Oni
open Go.ChangeShapes Go.WideShapes Go.ChangeAt Go.RowKit Gf8 Aes By8 Cel
/- OnionPeels. -/

structure Cells (W : World) (cv : Value) (n : Nat) (xv : Nat → Value) (ln : Nat → Nat) (c : Nat → Nat → Nat) : Prop where
  shape : ∃ a cap, cv = .slice a n cap ∧ n ≤ cap ∧ cap < 9223372036854775808 ∧ (0 < n → ∃ b off, a = some ⟨b, off, none⟩ ∧ b < W.heap.size ∧ ∀ i, i < n → W.cell? ⟨b, off + i, none⟩ = some (xv i))
  cell : ∀ i, i < n → SliceN W (xv i) (ln i) (c i)
  nil : ∀ i, i < n → ∀ l cc, xv i = .slice none l cc → cc = 0
  lens : ∀ i, i < n → ln i ≤ 140737488351232
theorem Cells.on {W W' : World} {cv : Value} {n : Nat} {xv : Nat → Value} {ln : Nat → Nat} {c : Nat → Nat → Nat} (h : Cells W cv n xv ln c) (hb : Below W.heap.size W W') : Cells W' cv n xv ln c := by
  obtain ⟨a, cap, e, h1, h2, h3⟩ := h.shape
  refine ⟨⟨a, cap, e, h1, h2, fun h0 => ?_⟩, fun i hi => (h.cell i hi).on hb, h.nil, h.lens⟩
  obtain ⟨b, off, e2, hl, hc⟩ := h3 h0
  exact ⟨b, off, e2, Nat.lt_of_lt_of_le hl hb.size, fun i hi => by rw [cell_below hb hl]; exact hc i hi⟩
theorem Cells.one {W : World} {cv : Value} {n : Nat} {xv : Nat → Value} {ln : Nat → Nat} {c : Nat → Nat → Nat} (h : Cells W cv n xv ln c) : cv.oneCell' = true := by
  obtain ⟨a, cap, rfl, _⟩ := h.shape
  rfl
theorem bytesLL : Tryz.prog.bytesOf 22 = 24 := by kernel_rfl
theorem kL : Tryz.prog.cellsOf 22 = 1 := by kernel_rfl
theorem weightsAll_in {H : Type} {P : Program} {e : TypeId} : ∀ {ds : List (DataW H)} {d : DataW H}, d ∈ ds → ∀ n ∈ d.weights P e, n ∈ DataW.weightsAll P e ds
  | d0 :: ds, d, hd, n, hn => by
    simp only [DataW.weightsAll, List.mem_append]
    rcases List.mem_cons.1 hd with rfl | h
    · exact Or.inl hn
    · exact Or.inr (weightsAll_in h n hn)
  | [], _, hd, _, _ => by cases hd
set_option maxRecDepth 20000 in
/-- A [][]byte that reads is one. -/
theorem cells_read {H : Type} {enc : TypeId × Value → H} {W : World} {fuel : Nat} {v : Value} {d : DataW H} {p : List MemPlace} (h : DataW.trod enc Tryz.prog W 0 (fun _ => true) true fuel 30 [v] = some (d, p))
    (hw : ∀ n ∈ d.weights Tryz.prog 30, n ≤ reachBytes) : ∃ n xv ln c, Cells W v n xv ln c ∧ n ≤ 140737488351232 := by
  have hr : reachBytes = 140737488351232 := rfl
  rcases Deep.open_slice Tryz.underlying30 h with ⟨hcs, _⟩ | ⟨a, len, cap, m, fu, D, Pl, hcs, _, hl, hm, hmm, hx, hel⟩
  · simp at hcs
    subst hcs
    exact ⟨0, fun _ => undef, fun _ => 0, fun _ _ => 0, ⟨⟨none, 0, rfl, Nat.le_refl _, by omega, fun h => by omega⟩, fun i h => by omega, fun i h => by omega, fun i h => by omega⟩, by omega⟩
  · simp at hcs
    subst hcs
    simp only [Prod.mk.injEq] at hx
    obtain ⟨rfl, rfl⟩ := hx
    simp only [if_true] at hmm
    have hn : (len + (m - len)) * 24 ≤ reachBytes := by
      refine hw _ ?_
      simp only [DataW.weights, Tryz.underlying30, bytesLL]
      exact List.mem_cons.2 (Or.inl (by simp))
    have each : ∀ i, i < len → ∃ q : Value × Nat × (Nat → Nat), W.cell? (a.add i) = some q.1 ∧ SliceN W q.1 q.2.1 q.2.2 ∧ q.2.1 ≤ 140737488351232 ∧ ∀ l c, q.1 = .slice none l c → c = 0 := by
      intro i hi
      obtain ⟨cs', h1, h2⟩ := hel i (by omega)
      rw [kL, Nat.mul_one] at h1
      obtain ⟨_, hlen, hcell⟩ := World.cells?_some h1
      match cs', hlen with
      | [v0], _ =>
        have e0 := hcell 0 (by omega)
        rw [Deep.add_add] at e0
        simp at e0
        obtain ⟨pl, pp, s1, s2, s3⟩ := bytes_readJ h2 (fun n hn => hw n (by
          simp only [DataW.weights, Tryz.underlying30]
          exact List.mem_cons_of_mem _ (List.mem_append_left _ (weightsAll_in (d := D i) (List.mem_map.2 ⟨i, List.mem_range.2 hi, rfl⟩) n hn))))
        exact ⟨(v0, pl, pp), e0, s1, s2, s3⟩
    obtain ⟨q, hq⟩ := Deep.choose_lt each
    refine ⟨len, fun i => (q i).1, fun i => (q i).2.1, fun i => (q i).2.2, ⟨⟨some a, cap, rfl, hl, by have h9 : cap ≤ maxLen := hm; unfold maxLen at h9; omega, fun hp => ?_⟩, fun i hi => (hq i hi).2.1, fun i hi => (hq i hi).2.2.2, fun i hi => (hq i hi).2.2.1⟩, by omega⟩
    obtain ⟨b, off, spot⟩ := a
    have hc0 := (hq 0 hp).1
    have hspot : spot = none := by simpa [Addr.add] using World.cell?_spot hc0
    subst hspot
    refine ⟨b, off, rfl, World.block_lt_of_cell? W _ hc0, fun i hi => ?_⟩
    have h1 := (hq i hi).1
    rw [Go.WideShapes.add_plain] at h1
    exact h1
theorem peC_lt {left : Int} {key c : Nat → Nat} {len lk : Nat} (h : peE lk left len key c = 0) (hb : ∀ j, j < len → c j < 256) : ∀ j, peC left key c j < 256 := by
  obtain ⟨_, g1, g2, hl, _, _, hok⟩ := pe_parts h
  obtain ⟨L, rfl⟩ : ∃ L : Nat, left = L := ⟨left.toNat, by omega⟩
  have s := szL (L := L) (by omega)
  unfold inOk at hok
  rw [Bool.and_eq_true] at hok
  have hn := of_decide_eq_true hok.1
  unfold peC
  exact nxF_lt (fun q => by omega) fun j hj => peP_lt (hb _ (by omega))
end Go.Proofs.YtejhbfbnljioeaaGreatDoor.Oni

namespace Go.Proofs.YtejhbfbnljioeaaGreatDoor.Rou
open Go.RowKit Gf8 Aes By8 Cel Oni
/- A chain in the heap; isChain, areKeys. -/

/-- A [][16]byte: n arrays, the i-th of the bytes q i. -/
structure Nons (W : World) (v : Value) (n : Nat) (q : Nat → Nat → Nat) : Prop where
  shape : ∃ a cap, v = .slice a n cap ∧ n ≤ cap ∧ cap < 9223372036854775808 ∧ (0 < n → ∃ b off, a = some ⟨b, off, none⟩ ∧ b < W.heap.size ∧ ∀ i, i < n → ∀ j, j < 16 → W.cell? ⟨b, off + i * 16 + j, none⟩ = some (.int .u8 (q i j)))
  by_ : ∀ i, i < n → By (q i)
theorem Nons.on {W W' : World} {v : Value} {n : Nat} {q : Nat → Nat → Nat} (h : Nons W v n q) (hb : Below W.heap.size W W') : Nons W' v n q := by
  obtain ⟨a, cap, e, h1, h2, h3⟩ := h.shape
  refine ⟨⟨a, cap, e, h1, h2, fun h0 => ?_⟩, h.by_⟩
  obtain ⟨b, off, e2, hl, hc⟩ := h3 h0
  exact ⟨b, off, e2, Nat.lt_of_lt_of_le hl hb.size, fun i hi j hj => by rw [cell_below hb hl]; exact hc i hi j hj⟩
section
variable {o : Oper} {a : Act} {w : World}
end
end Go.Proofs.YtejhbfbnljioeaaGreatDoor.Rou

namespace Go.Proofs.YtejhbfbnljioeaaGreatDoor.Rou
open Go.RowKit Gf8 Aes By8 Cel Oni
/- A []Peeled in the heap; Walk. -/

theorem infoP : ∃ i, Tryz.prog.info? 46 = some i ∧ i.zero = some (.agg (pC (.slice none 0 0) fun _ => 0)) ∧ i.size = 17 ∧ i.bytes = 40 := by
  have h : (Tryz.prog.info? 46).map (fun i => (i.zero, i.size, i.bytes)) = some (some (.agg (pC (.slice none 0 0) fun _ => 0)), 17, 40) := by kernel_rfl
  cases hq : Tryz.prog.info? 46 with
  | none => rw [hq] at h; cases h
  | some i =>
    rw [hq] at h
    simp only [Option.map_some, Option.some.injEq, Prod.mk.injEq] at h
    exact ⟨i, rfl, h.1, h.2.1, h.2.2⟩
/-- The cells of n Peeled. -/
def yL (P : Nat → List Value) : Nat → List Value
  | 0 => []
  | n + 1 => yL P n ++ P n
theorem yL_len {P : Nat → List Value} (hP : ∀ k, (P k).length = 17) : ∀ n, (yL P n).length = n * 17
  | 0 => rfl
  | n + 1 => by simp only [yL, List.length_append, yL_len hP n, hP]; omega
theorem yL_get {P : Nat → List Value} (hP : ∀ k, (P k).length = 17) : ∀ (n k j : Nat), k < n → j < 17 → (yL P n)[k * 17 + j]? = (P k)[j]?
  | 0, k, j, hk, _ => by omega
  | n + 1, k, j, hk, hj => by
    simp only [yL]
    by_cases h : k < n
    · rw [List.getElem?_append_left (by rw [yL_len hP]; omega)]
      exact yL_get hP n k j h hj
    · obtain rfl : k = n := by omega
      rw [List.getElem?_append_right (by rw [yL_len hP]; omega), yL_len hP, Nat.add_sub_cancel_left]
theorem yL_congr {P Q : Nat → List Value} : ∀ n, (∀ i, i < n → P i = Q i) → yL P n = yL Q n
  | 0, _ => rfl
  | n + 1, h => by simp only [yL]; rw [yL_congr n (fun i hi => h i (by omega)), h n (by omega)]
theorem pC_len (cv : Value) (r : Nat → Nat) : (pC cv r).toList.length = 17 := by rw [Array.length_toList, pC_size]
section
variable {o : Oper} {a : Act} {w : World}
theorem execIdxP {x i : Operand} {g n cap k : Nat} (ho : o.op = .indexAddr 35 x i) (hx : a.eval x = .slice (some ⟨g, 0, none⟩) n cap) (hi : a.eval i = .int .i64 (k : Int)) (hk : k < n) : (execOp a.eval o).run Tryz.prog w = .ok (.value (.pointer (some ⟨g, k * 17, none⟩))) w := by
  have h1 : (k : Int) < n := by omega
  unfold execOp
  simp only [ho, hx, hi]
  simp [go_sem, h1]
theorem execFP0 {x : Operand} {b f : Nat} (ho : o.op = .fieldAddr 46 x 0) (hx : a.eval x = .pointer (some ⟨b, f, none⟩)) : (execOp a.eval o).run Tryz.prog w = .ok (.value (.pointer (some ⟨b, f, none⟩))) w := by
  unfold execOp
  simp only [ho, hx]
  simp [go_sem, Addr.add_mid]
end
/-- What a Walk leaves: a row of n Peeled of its own, each with a cell of its own. -/
structure Way (W : World) (B : Nat) (v : Value) (n : Nat) (cv : Nat → Value) (r c : Nat → Nat → Nat) : Prop where
  row : ∃ a cap, v = .slice a n cap ∧ (0 < n → ∃ g, a = some ⟨g, 0, none⟩ ∧ B ≤ g ∧ g < W.heap.size ∧ ∀ k, k < n → W.rangeAt g (k * 17) (pC (cv k) (r k)).toList)
  own : ∀ k, k < n → W.ownsRow B 5 1 (cv k) 320 (bytesL 320 (c k))
  two : ∀ i k, i < k → k < n → (cv i).ownBlock ≠ (cv k).ownBlock
theorem Way.on {W W' : World} {B : Nat} {v : Value} {n : Nat} {cv : Nat → Value} {r c : Nat → Nat → Nat} (h : Way W B v n cv r c) (hb : Below W.heap.size W W') : Way W' B v n cv r c := by
  obtain ⟨a, cap, e, hr⟩ := h.row
  refine ⟨⟨a, cap, e, fun h0 => ?_⟩, fun k hk => ownsRow_below (h.own k hk) hb, h.two⟩
  obtain ⟨g, e2, h1, h2, h3⟩ := hr h0
  exact ⟨g, e2, h1, Nat.lt_of_lt_of_le h2 hb.size, fun k hk j u hu => by rw [cell_below hb h2]; exact h3 k hk j u hu⟩
end Go.Proofs.YtejhbfbnljioeaaGreatDoor.Rou

namespace Go.Proofs.YtejhbfbnljioeaaGreatDoor.Rou
open Go.RowKit Gf8 Aes By8 Cel Oni
/- sameAll; append of a Peeled. Written by tools/mkB7v.py. -/

/-- A []Peeled to read. -/
def WayN (W : World) (v : Value) (n : Nat) (r c : Nat → Nat → Nat) : Prop :=
  ∃ a cap, v = .slice a n cap ∧ (0 < n → ∃ g, a = some ⟨g, 0, none⟩ ∧ g < W.heap.size ∧ ∀ k, k < n → ∃ u, W.rangeAt g (k * 17) (pC u (r k)).toList ∧ SliceN W u 320 (c k))
theorem WayN.on {W W' : World} {v : Value} {n : Nat} {r c : Nat → Nat → Nat} (h : WayN W v n r c) (hb : Below W.heap.size W W') : WayN W' v n r c := by
  obtain ⟨a, cap, e, h1⟩ := h
  refine ⟨a, cap, e, fun h0 => ?_⟩
  obtain ⟨g, e2, hg, h2⟩ := h1 h0
  refine ⟨g, e2, Nat.lt_of_lt_of_le hg hb.size, fun k hk => ?_⟩
  obtain ⟨u, h3, h4⟩ := h2 k hk
  exact ⟨u, fun j x hx => by rw [cell_below hb hg]; exact h3 j x hx, h4.on hb⟩
theorem Way.read {W : World} {B : Nat} {v : Value} {n : Nat} {cv : Nat → Value} {r c : Nat → Nat → Nat} (h : Way W B v n cv r c) (hl : ∀ k, k < n → ∀ j, j < 320 → c k j < 256) : WayN W v n r c := by
  obtain ⟨a, cap, e, h1⟩ := h.row
  refine ⟨a, cap, e, fun h0 => ?_⟩
  obtain ⟨g, e2, _, hg, h2⟩ := h1 h0
  exact ⟨g, e2, hg, fun k hk => ⟨cv k, h2 k hk, own_slice (h.own k hk) (hl k hk)⟩⟩
/-- A row of one's own of another type stays where another is grown. -/
theorem own5_grown {W W' : World} {B B2 n m s : Nat} {v u : Value} {xs ys : List Value} {t : TypeId} (h : W.ownsRow B 5 1 v n xs) (ho : W.ownsRow B2 t s u m ys) (ht : t ≠ 5) (hg : W.grownBy W' u.ownBlock) : W'.ownsRow B 5 1 v n xs := by
  refine ⟨h.1, ?_⟩
  rcases h.2 with h | ⟨g, cap, cur, e, hB, hgr, h1, h2, h3, h4⟩
  · exact Or.inl h
  · refine Or.inr ⟨g, cap, cur, e, hB, ?_, h1, h2, h3, h4⟩
    rw [hg.block g (Array.getElem?_eq_some_iff.1 hgr).1 ?_]
    · exact hgr
    · intro q
      rcases ho.2 with ⟨rfl, _⟩ | ⟨g2, cap2, cur2, rfl, _, hg2, _⟩
      · cases q
      · have : g = g2 := by simpa [Value.ownBlock] using q
        subst this
        rw [hgr] at hg2
        injection hg2 with hg2
        injection hg2 with _ e5
        exact ht e5.symm
theorem ownW_below {W W' : World} {B n s : Nat} {t : TypeId} {v : Value} {xs : List Value} (h : W.ownsRow B t s v n xs) (hb : Below W.heap.size W W') : W'.ownsRow B t s v n xs := by
  refine ⟨h.1, ?_⟩
  rcases h.2 with h | ⟨g, cap, cur, e, hB, hgr, h1, h2, h3, h4⟩
  · exact Or.inl h
  · exact Or.inr ⟨g, cap, cur, e, hB, by rw [hb.block _ (Array.getElem?_eq_some_iff.1 hgr).1]; exact hgr, h1, h2, h3, h4⟩
theorem ownW_base {W : World} {B C n s : Nat} {t : TypeId} {v : Value} {xs : List Value} (h : W.ownsRow C t s v n xs) (hB : B ≤ C) : W.ownsRow B t s v n xs := by
  refine ⟨h.1, ?_⟩
  rcases h.2 with h | ⟨g, cap, cur, e, hC, h2⟩
  · exact Or.inl h
  · exact Or.inr ⟨g, cap, cur, e, Nat.le_trans hB hC, h2⟩
theorem fillP (v : Value) (r : Nat → Nat) : Instr.fill (fun i => some (i * 17, 17)) ((Array.range (1 * 17)).map ((pC (.slice none 0 0) fun _ => 0)[· % (pC (.slice none 0 0) fun _ => 0).size]!)) [(0, .agg (pC v r))] = some (pC v r) := by
  kernel_rfl
section
variable {ops : Array Oper} {rest : List Oper} {o : Oper} {a : Act} {w W : World} {Q : Exit → Act → World → Prop}
theorem execBsP {x : Operand} {v : Value} {r : Nat → Nat} (ho : o.op = .buildSlice 35 1 #[(0, x)]) (hx : a.eval x = .agg (pC v r)) : (execOp a.eval o).run Tryz.prog w = .ok (.value (.slice (some ⟨w.heap.size, 0, none⟩) 1 1)) (w.alloc (.cells (pC v r) 46)) := by
  have hz : (zeroValue 46).run Tryz.prog w = .ok (.agg (pC (.slice none 0 0) fun _ => 0)) w := zeroP w
  have hs : (sizeOf 46).run Tryz.prog w = .ok 17 w := by simp [go_sem]
  have hf := fillP v r
  have e : (#[((0 : Nat), x)] : Array (Nat × Operand)).map (fun (i, y) => (i, a.eval y)) = #[(0, .agg (pC v r))] := by simp [hx]
  have hr : (Instr.buildSlice 35 1 #[(0, .agg (pC v r))]).run Tryz.prog w = .ok (.slice (some ⟨w.heap.size, 0, none⟩) 1 1) (w.alloc (.cells (pC v r) 46)) := by
    simp only [Instr.buildSlice, Sem.run_bind, run_underlying Tryz.underlying35, Result.andThen_ok, hs]
    rw [if_neg (by decide), if_neg (by decide)]
    simp only [Sem.run_bind, Sem.run_pure, Result.andThen_ok, hz, Value.cells, hf]
    simp [newRow]
  unfold execOp
  simp only [ho, e, Sem.run_bind, hr, Result.andThen_ok, Sem.run_pure]
end
end Go.Proofs.YtejhbfbnljioeaaGreatDoor.Rou
