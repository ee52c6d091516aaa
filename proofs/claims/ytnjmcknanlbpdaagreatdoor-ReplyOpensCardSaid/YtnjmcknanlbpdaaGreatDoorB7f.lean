import Derived.Test.YtnjmcknanlbpdaaGreatDoorX6l
import Derived.Test.YtnjmcknanlbpdaaGreatDoorY2
import Derived.Test.YtnjmcknanlbpdaaGreatDoorX2
import Derived.Lib.SmallJoins
import Derived.Test.YtnjmcknanlbpdaaGreatDoorX6m
import Derived.Deep.SlicePairs
import Derived.OpenShut
import Derived.ChangeOld
import Derived.SizedLaws
import Derived.Deep.DeepHandedRow
import Derived.Test.YtnjmcknanlbpdaaGreatDoorB7b
import Derived.Test.YtnjmcknanlbpdaaGreatDoorX7f
import Derived.Test.YtnjmcknanlbpdaaGreatDoorC6
namespace Go.Proofs.YtnjmcknanlbpdaaGreatDoor.Oni
open Go.ChangeShapes Go.WideShapes Go.ChangeAt Go.RowKit Gf8 Aes By8 Cel
/- A Job as an argument. -/

section
variable {H : Type} {enc : TypeId × Value → H} {P : Program} {k e : TypeId} {n : Nat} {W : World} {base : Nat} {sp : Nat → Bool} {held : Bool}
/-- The cells of an array of bytes that reads. -/
theorem cells_bytes (hu : P.underlying k = some (.array n e)) (he : P.underlying e = some (.int .u8)) (one : P.cellsOf e = 1) (size : P.cellsOf k = n) {fuel : Nat} {cs : List Value} {x : DataW H × List MemPlace}
    (hl : cs.length = n) (hf : DataW.trod enc P W base sp held fuel k cs = some x) : ∃ f : Nat → Nat, (∀ i, i < n → f i < 256) ∧ ∀ i, i < n → cs[i]? = some (.int .u8 (f i)) := by
  cases fuel with
  | zero => simp [DataW.trod] at hf
  | succ m =>
    rw [DataW.trod_step] at hf
    unfold DataW.trodStep at hf
    simp only [hu] at hf
    rw [if_pos (by rw [size]; exact hl)] at hf
    simp only [Option.map_eq_some_iff, one] at hf
    obtain ⟨ys, hy, e1⟩ := hf
    obtain ⟨f, hfd⟩ : ∃ f : Nat → Nat, ∀ i a, cs[i]? = some (.int .u8 a) → f i = a.toNat :=
      ⟨fun i => match cs[i]? with | some (.int .u8 a) => a.toNat | _ => 0, fun i a h => by simp only [h]⟩
    have key : ∀ i, i ∈ List.range n → ∀ y, DataW.trod enc P W base sp held m e ((cs.drop (i * 1)).take 1) = some y → y = (.lit (.int .u8 (f i)), []) ∧ cs[i]? = some (.int .u8 (f i)) ∧ f i < 256 := by
      intro i _ y hy
      obtain ⟨a, ea, rfl, wa⟩ := DataW.trod_int he hy
      have h1 := one_at _ ea
      have h2 := hfd i a h1
      have h3 := wfB.1 wa
      have h4 : (f i : Int) = a := by rw [h2]; omega
      rw [h4]
      exact ⟨rfl, h1, by omega⟩
    obtain ⟨r1, r2⟩ := mapM_back (h := fun i => ((.lit (.int .u8 (f i)), []) : DataW H × List MemPlace)) _ ys hy fun i hi y h => (key i hi y h).1
    have r3 : ∀ i, i < n → cs[i]? = some (.int .u8 (f i)) ∧ f i < 256 := fun i hi => (key i (List.mem_range.2 hi) _ (r2 i (List.mem_range.2 hi))).2
    exact ⟨f, fun i hi => (r3 i hi).2, fun i hi => (r3 i hi).1⟩
end

end Go.Proofs.YtnjmcknanlbpdaaGreatDoor.Oni

namespace Go.Proofs.YtnjmcknanlbpdaaGreatDoor.Oni
open Go.ChangeShapes Go.WideShapes Go.ChangeAt Go.RowKit Gf8 Aes By8 Cel
/- OnionPeels. -/

structure Cells (W : World) (cv : Value) (n : Nat) (xv : Nat → Value) (ln : Nat → Nat) (c : Nat → Nat → Nat) : Prop where
  shape : ∃ a cap, cv = .slice a n cap ∧ n ≤ cap ∧ cap < 9223372036854775808 ∧ (0 < n → ∃ b off, a = some ⟨b, off, none⟩ ∧ b < W.heap.size ∧ ∀ i, i < n → W.cell? ⟨b, off + i, none⟩ = some (xv i))
  cell : ∀ i, i < n → SliceN W (xv i) (ln i) (c i)
  nil : ∀ i, i < n → ∀ l cc, xv i = .slice none l cc → cc = 0
  lens : ∀ i, i < n → ln i ≤ 140737488351232
theorem Cells.on {W W' : World} {cv : Value} {n : Nat} {xv : Nat → Value} {ln : Nat → Nat} {c : Nat → Nat → Nat} (h : Cells W cv n xv ln c) (hb : Below W.heap.size W W') : Cells W' cv n xv ln c := by
  obtain ⟨a, cap, e, h1, h2, h3⟩ := h.shape
  refine ⟨⟨a, cap, e, h1, h2, fun h0 => ?_⟩, fun i hi => (h.cell i hi).on hb, h.nil, h.lens⟩
  obtain ⟨b, off, e2, hl, hc⟩ := h3 h0
  exact ⟨b, off, e2, Nat.lt_of_lt_of_le hl hb.size, fun i hi => by rw [cell_below hb hl]; exact hc i hi⟩
theorem Cells.one {W : World} {cv : Value} {n : Nat} {xv : Nat → Value} {ln : Nat → Nat} {c : Nat → Nat → Nat} (h : Cells W cv n xv ln c) : cv.oneCell' = true := by
  obtain ⟨a, cap, rfl, _⟩ := h.shape
  rfl
theorem peC_lt {left : Int} {key c : Nat → Nat} {len lk : Nat} (h : peE lk left len key c = 0) (hb : ∀ j, j < len → c j < 256) : ∀ j, peC left key c j < 256 := by
  obtain ⟨_, g1, g2, hl, _, _, hok⟩ := pe_parts h
  obtain ⟨L, rfl⟩ : ∃ L : Nat, left = L := ⟨left.toNat, by omega⟩
  have s := szL (L := L) (by omega)
  unfold inOk at hok
  rw [Bool.and_eq_true] at hok
  have hn := of_decide_eq_true hok.1
  unfold peC
  exact nxF_lt (fun q => by omega) fun j hj => peP_lt (hb _ (by omega))
end Go.Proofs.YtnjmcknanlbpdaaGreatDoor.Oni

namespace Go.Proofs.YtnjmcknanlbpdaaGreatDoor.Rou
open Go.RowKit Gf8 Aes By8 Cel Oni
/- A chain in the heap; isChain, areKeys. -/

/-- A [][16]byte: n arrays, the i-th of the bytes q i. -/
structure Nons (W : World) (v : Value) (n : Nat) (q : Nat → Nat → Nat) : Prop where
  shape : ∃ a cap, v = .slice a n cap ∧ n ≤ cap ∧ cap < 9223372036854775808 ∧ (0 < n → ∃ b off, a = some ⟨b, off, none⟩ ∧ b < W.heap.size ∧ ∀ i, i < n → ∀ j, j < 16 → W.cell? ⟨b, off + i * 16 + j, none⟩ = some (.int .u8 (q i j)))
  by_ : ∀ i, i < n → By (q i)
theorem Nons.on {W W' : World} {v : Value} {n : Nat} {q : Nat → Nat → Nat} (h : Nons W v n q) (hb : Below W.heap.size W W') : Nons W' v n q := by
  obtain ⟨a, cap, e, h1, h2, h3⟩ := h.shape
  refine ⟨⟨a, cap, e, h1, h2, fun h0 => ?_⟩, h.by_⟩
  obtain ⟨b, off, e2, hl, hc⟩ := h3 h0
  exact ⟨b, off, e2, Nat.lt_of_lt_of_le hl hb.size, fun i hi j hj => by rw [cell_below hb hl]; exact hc i hi j hj⟩
theorem loF_lt {h : Nat} {key q : Nat → Nat → Nat} {n : Nat} {p : Nat → Nat} (hq : ∀ i, i < h → By (q i)) (hn : n ≤ 48) (hp : ∀ j, j < n → p j < 256) : ∀ m, m ≤ h → m ≤ 8 → ∀ j, j < loN n m → loF h key q n p m j < 256
  | 0, _, _, j, hj => hp j hj
  | m + 1, hm, h8, j, _ => by
    have hl := loN_le (n := n) (m := m) hn (by omega)
    exact wrF_lt (hq _ (by omega)) (by omega) (fun j hj => loF_lt hq hn hp m (by omega) (by omega) j hj) j
section
variable {o : Oper} {a : Act} {w : World}
theorem execIdxA {x i : Operand} {b off n cap k : Nat} (ho : o.op = .indexAddr 36 x i) (hx : a.eval x = .slice (some ⟨b, off, none⟩) n cap) (hi : a.eval i = .int .i64 (k : Int)) (hk : k < n) : (execOp a.eval o).run Tryz.prog w = .ok (.value (.pointer (some ⟨b, off + k * 16, none⟩))) w := by
  have h1 : (k : Int) < n := by omega
  unfold execOp
  simp only [ho, hx, hi]
  simp [go_sem, h1, Addr.add_mid]
theorem execSubJ {x y : Operand} {p q r : Nat} (ho : o.op = .binOp .sub 3 x y 3) (hx : a.eval x = .int .i64 p) (hy : a.eval y = .int .i64 q) (h : p = q + r) (hp : p < 9223372036854775808) : (execOp a.eval o).run Tryz.prog w = .ok (.value (.int .i64 (r : Nat))) w := by
  have := execSubI (w := w) ho hx hy (by omega) hp
  rw [show p - q = r by omega] at this
  exact this
end
end Go.Proofs.YtnjmcknanlbpdaaGreatDoor.Rou
