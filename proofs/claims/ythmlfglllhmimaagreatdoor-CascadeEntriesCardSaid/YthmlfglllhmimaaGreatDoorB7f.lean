import Derived.Test.YthmlfglllhmimaaGreatDoorA6
import Derived.Lib.LaidTab
import Derived.ProofKit
import Derived.Test.YthmlfglllhmimaaGreatDoorX5c
import Derived.Test.YthmlfglllhmimaaGreatDoorC6
import Derived.Test.YthmlfglllhmimaaGreatDoorZ1
import Derived.Test.YthmlfglllhmimaaGreatDoorI3
import Derived.Test.YthmlfglllhmimaaGreatDoorI2
import Derived.Test.YthmlfglllhmimaaGreatDoorY3
import Derived.Test.YthmlfglllhmimaaGreatDoorX7f
import Derived.Test.YthmlfglllhmimaaGreatDoorY2
import Derived.Test.YthmlfglllhmimaaGreatDoorX2
import Derived.Deep.SlicePairs
import Derived.OpenShut
import Derived.ChangeOld
import Derived.SizedLaws
import Derived.Deep.DeepHandedRow
import Derived.Lib.Bytes
import Derived.Deep.RegionWith
import Derived.Lib.SmallJoins
import Derived.Test.YthmlfglllhmimaaGreatDoorB7b
namespace Go.Proofs.YthmlfglllhmimaaGreatDoor
open Go.RowKit
theorem gH : Tryz.prog.globalNamed "churn/hash.startWords" = some 1 := by kernel_rfl
theorem gK : Tryz.prog.globalNamed "churn/hash.stepWords" = some 2 := by kernel_rfl
theorem gHt : (Tryz.prog.globals[1]?).map (·.type) = some 158 := by kernel_rfl
theorem gKt : (Tryz.prog.globals[2]?).map (·.type) = some 203 := by kernel_rfl
theorem cells23 : Tryz.prog.cellsOf 158 = 8 := by kernel_rfl
theorem cells47 : Tryz.prog.cellsOf 203 = 64 := by kernel_rfl
theorem cells22 : Tryz.prog.cellsOf 94 = 1 := by kernel_rfl
/-- The two tables, as every row of this seat lists them. -/
def laidList : List (String × DataW Unit) := [("churn/hash.startWords", Rows.laid_churn_hash_startWords), ("churn/hash.stepWords", Rows.laid_churn_hash_stepWords)]
theorem laidMet_rest {P : Program} {x : String × DataW Unit} {rest : List (String × DataW Unit)} {W : World} (h : laidMet P (x :: rest) W) : laidMet P rest W := by
  obtain ⟨ps, hl, hnd, hall⟩ := h
  obtain ⟨g, t, cs, fuel, p, q, _, _, _, _, h1, h2⟩ := hl
  first
    | (subst h2
       exact ⟨q, h1, (List.nodup_append.1 hnd).2.1, fun b off hm => hall b off (List.mem_append_right _ hm)⟩)
    | (subst h1
       exact ⟨q, h2, (List.nodup_append.1 hnd).2.1, fun b off hm => hall b off (List.mem_append_right _ hm)⟩)
/-- A block of words, holding these. -/
def holdWords (zs : List Int) : Obj → Obj
  | .cells _ t frozen => .cells (zs.map fun z => Value.int .u32 z).toArray t frozen
  | o => o
/-- A WORLD FOR THE WITNESS: the settled one, the two tables holding what their initialisers lay. -/
def layW (w : World) : World := { w with heap := (w.heap.modify 1 (holdWords hList)).modify 2 (holdWords kList) }
theorem own : ownKnob Tryz.prog.godebug = none := by kernel_rfl
theorem laidOut : laidOutB Tryz.prog = true := by kernel_rfl
end Go.Proofs.YthmlfglllhmimaaGreatDoor

namespace Go.Proofs.YthmlfglllhmimaaGreatDoor.Oni
open Go.ChangeShapes Go.WideShapes Go.ChangeAt Go.RowKit Gf8 Aes By8 Cel
/- OnionPeels. -/

structure Cells (W : World) (cv : Value) (n : Nat) (xv : Nat → Value) (ln : Nat → Nat) (c : Nat → Nat → Nat) : Prop where
  shape : ∃ a cap, cv = .slice a n cap ∧ n ≤ cap ∧ cap < 9223372036854775808 ∧ (0 < n → ∃ b off, a = some ⟨b, off, none⟩ ∧ b < W.heap.size ∧ ∀ i, i < n → W.cell? ⟨b, off + i, none⟩ = some (xv i))
  cell : ∀ i, i < n → SliceN W (xv i) (ln i) (c i)
  nil : ∀ i, i < n → ∀ l cc, xv i = .slice none l cc → cc = 0
  lens : ∀ i, i < n → ln i ≤ 140737488351232
theorem Cells.on {W W' : World} {cv : Value} {n : Nat} {xv : Nat → Value} {ln : Nat → Nat} {c : Nat → Nat → Nat} (h : Cells W cv n xv ln c) (hb : Below W.heap.size W W') : Cells W' cv n xv ln c := by
  obtain ⟨a, cap, e, h1, h2, h3⟩ := h.shape
  refine ⟨⟨a, cap, e, h1, h2, fun h0 => ?_⟩, fun i hi => (h.cell i hi).on hb, h.nil, h.lens⟩
  obtain ⟨b, off, e2, hl, hc⟩ := h3 h0
  exact ⟨b, off, e2, Nat.lt_of_lt_of_le hl hb.size, fun i hi => by rw [cell_below hb hl]; exact hc i hi⟩
theorem Cells.one {W : World} {cv : Value} {n : Nat} {xv : Nat → Value} {ln : Nat → Nat} {c : Nat → Nat → Nat} (h : Cells W cv n xv ln c) : cv.oneCell' = true := by
  obtain ⟨a, cap, rfl, _⟩ := h.shape
  rfl
end Go.Proofs.YthmlfglllhmimaaGreatDoor.Oni

namespace Go.Proofs.YthmlfglllhmimaaGreatDoor.Rou
open Go.RowKit Gf8 Aes By8 Cel Oni
/- A chain in the heap; isChain, areKeys. -/

/-- A [][16]byte: n arrays, the i-th of the bytes q i. -/
structure Nons (W : World) (v : Value) (n : Nat) (q : Nat → Nat → Nat) : Prop where
  shape : ∃ a cap, v = .slice a n cap ∧ n ≤ cap ∧ cap < 9223372036854775808 ∧ (0 < n → ∃ b off, a = some ⟨b, off, none⟩ ∧ b < W.heap.size ∧ ∀ i, i < n → ∀ j, j < 16 → W.cell? ⟨b, off + i * 16 + j, none⟩ = some (.int .u8 (q i j)))
  by_ : ∀ i, i < n → By (q i)
theorem Nons.on {W W' : World} {v : Value} {n : Nat} {q : Nat → Nat → Nat} (h : Nons W v n q) (hb : Below W.heap.size W W') : Nons W' v n q := by
  obtain ⟨a, cap, e, h1, h2, h3⟩ := h.shape
  refine ⟨⟨a, cap, e, h1, h2, fun h0 => ?_⟩, h.by_⟩
  obtain ⟨b, off, e2, hl, hc⟩ := h3 h0
  exact ⟨b, off, e2, Nat.lt_of_lt_of_le hl hb.size, fun i hi j hj => by rw [cell_below hb hl]; exact hc i hi j hj⟩
section
variable {o : Oper} {a : Act} {w : World}
end
theorem ischain_any (v : Value) (h : Nat) (V : World) (hv : ∃ a cap, v = .slice a h cap) (hb : h ≤ 140737488351232) :
    Calls Tryz.prog 36 #[v] V fun e w' => e = .returned (.bool (decide (1 ≤ h ∧ h ≤ 8))) ∧ w' = V := by
  obtain ⟨a, cap, rfl⟩ := hv
  by_cases h1 : 1 ≤ h
  · have i1 : (h : Int) ≥ 1 := by omega
    by_cases h2 : h ≤ 8
    · have i2 : (h : Int) ≤ 8 := by omega
      rw [decide_eq_true (⟨h1, h2⟩ : 1 ≤ h ∧ h ≤ 8)]
      clear h1 h2
      go_enter Tryz.func36, Tryz.ntmps36
      go_wp2_with fail
      go_ret
      exact ⟨rfl, rfl⟩
    · have i2 : ¬ (h : Int) ≤ 8 := by omega
      rw [decide_eq_false (fun q : 1 ≤ h ∧ h ≤ 8 => h2 q.2)]
      clear h1 h2
      go_enter Tryz.func36, Tryz.ntmps36
      go_wp2_with fail
      go_ret
      exact ⟨rfl, rfl⟩
  · have i1 : ¬ (h : Int) ≥ 1 := by omega
    rw [decide_eq_false (fun q : 1 ≤ h ∧ h ≤ 8 => h1 q.1)]
    clear h1
    go_enter Tryz.func36, Tryz.ntmps36
    go_wp2_with fail
    go_ret
    exact ⟨rfl, rfl⟩
end Go.Proofs.YthmlfglllhmimaaGreatDoor.Rou
