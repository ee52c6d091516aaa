import Derived.Test.YtigkmgoidbamnaaV9g
namespace Go.Proofs.Ytigkmgoidbamnaa.Tap
open Go.RowKit Gf8 Aes By8 Cel Cf
/- The law's alike, whole. -/

theorem execBoxP {o : Oper} {a : Act} {w w' : World} {x : Operand} {n b c : Value} (ho : o.op = .box 49 x) (hx : a.eval x = .agg (ptC n b c)) (hw : w' = w.alloc (.cells (ptC n b c) 49)) : (execOp a.eval o).run Try.prog w = .ok (.value (.pointer (some ⟨w.heap.size, 0, none⟩))) w' := by
  subst hw
  unfold execOp
  simp only [ho, hx]
  simp [go_sem, ptC]
set_option maxRecDepth 100000 in
set_option maxHeartbeats 4000000 in
/-- Parts that hold the same are alike. -/
theorem alike_any (na ba nb bb : Value) (n : Nat) (aa ab : Option Addr) (ka kb : Nat) (ln lb : Nat) (xa xb : Nat → Value) (lc : Nat → Nat) (fn gn fb gb : Nat → Nat) (fc gc : Nat → Nat → Nat) (V : World)
    (sN : SliceN V na ln fn ∧ SliceN V nb ln gn) (eN : ∀ j, j < ln → fn j = gn j) (sB : SliceN V ba lb fb ∧ SliceN V bb lb gb) (eB : ∀ j, j < lb → fb j = gb j)
    (sC : ∀ i, i < n → SliceN V (xa i) (lc i) (fc i) ∧ SliceN V (xb i) (lc i) (gc i)) (eC : ∀ i, i < n → ∀ j, j < lc i → fc i j = gc i j)
    (rA : 0 < n → ∃ ca oa, aa = some ⟨ca, oa, none⟩ ∧ ca < V.heap.size ∧ ∀ i, i < n → V.cell? ⟨ca, oa + i, none⟩ = some (xa i)) (rB : 0 < n → ∃ cb ob, ab = some ⟨cb, ob, none⟩ ∧ cb < V.heap.size ∧ ∀ i, i < n → V.cell? ⟨cb, ob + i, none⟩ = some (xb i)) (hn : n ≤ 1000000) :
    Calls Try.prog 19 #[.agg (ptC na ba (.slice aa n ka)), .agg (ptC nb bb (.slice ab n kb))] V fun e w' => e = .returned (.bool true) ∧ Below V.heap.size V w' := by
  obtain ⟨V1, hV1⟩ : ∃ V1, V1 = V.alloc (.cells (ptC na ba (.slice aa n ka)) 49) := ⟨_, rfl⟩
  obtain ⟨V2, hV2⟩ : ∃ V2, V2 = V1.alloc (.cells (ptC nb bb (.slice ab n kb)) 49) := ⟨_, rfl⟩
  have r1 : V1.heap[V.heap.size]? = some (.cells (ptC na ba (.slice aa n ka)) 49) := by rw [hV1]; exact heapNew V _
  have b1 : Below V.heap.size V V1 := by rw [hV1]; exact belNew V _
  have r2 : V2.heap[V1.heap.size]? = some (.cells (ptC nb bb (.slice ab n kb)) 49) := by rw [hV2]; exact heapNew V1 _
  have b2 : Below V1.heap.size V1 V2 := by rw [hV2]; exact belNew V1 _
  have r1' : V2.heap[V.heap.size]? = some (.cells (ptC na ba (.slice aa n ka)) 49) := by rw [b2.block _ (Array.getElem?_eq_some_iff.1 r1).1]; exact r1
  have bV : Below V.heap.size V V2 := b1.trans (b2.mono b1.size)
  have bX : ∀ X, Below V2.heap.size V2 X → Below V.heap.size V X := fun X hX => bV.trans (hX.mono bV.size)
  go_enter Try.func19, Try.ntmps19
  refine wp_seq ?_
  refine wp_region_sqW 48 [(0, 2), (1, 3), (2, 4)] (fun i_ => match i_ with | 0 => .pointer (some ⟨V.heap.size, 0, none⟩) | 1 => .pointer (some ⟨V1.heap.size, 0, none⟩) | 2 => .bool false | _ => undef) (fun i_ => match i_ with | 0 => V | 1 => V1 | _ => V2) rfl (by kernel_rfl) (by decide) (by decide) ?_ ?_
  · intro i_ hi_ a hf hv hn
    match i_, hi_ with
    | 0, _ => exact stepV rfl rfl (execBoxP rfl ((hf 0 (by decide)).trans rfl) hV1) ⟨⟨_, rfl, rfl⟩, rfl⟩
    | 1, _ => exact stepV rfl rfl (execBoxP rfl ((hf 1 (by decide)).trans rfl) hV2) ⟨⟨_, rfl, rfl⟩, rfl⟩
    | 2, _ => exact stepV rfl rfl (execAsgB rfl rfl) ⟨⟨_, rfl, rfl⟩, rfl⟩
    | k_ + 3, h_ => exact absurd h_ (by simp)
  intro a h1 h2 h3 h4
  exact alike1 na ba nb bb V.heap.size V1.heap.size n aa ab ka kb ln lb xa xb lc fn gn fb gb fc gc V V2 bV
    (fun X hX => ptC_at (by rw [hX.block _ (Array.getElem?_eq_some_iff.1 r1').1]; exact r1')) (fun X hX => ptC_at (by rw [hX.block _ (Array.getElem?_eq_some_iff.1 r2).1]; exact r2))
    (fun X hX => ⟨sN.1.on (bX X hX), sN.2.on (bX X hX)⟩) eN (fun X hX => ⟨sB.1.on (bX X hX), sB.2.on (bX X hX)⟩) eB (fun X hX i hi => ⟨(sC i hi).1.on (bX X hX), (sC i hi).2.on (bX X hX)⟩) eC
    (fun h0 => by
      obtain ⟨ca, oa, e, hl, hc⟩ := rA h0
      exact ⟨ca, oa, e, fun X hX i hi => by rw [cell_below (bX X hX) hl]; exact hc i hi⟩)
    (fun h0 => by
      obtain ⟨cb, ob, e, hl, hc⟩ := rB h0
      exact ⟨cb, ob, e, fun X hX i hi => by rw [cell_below (bX X hX) hl]; exact hc i hi⟩) hn a V2 ⟨h1, h2, h4 0 _ rfl _ rfl, h4 1 _ rfl _ rfl⟩ (Below.refl _ _)
end Go.Proofs.Ytigkmgoidbamnaa.Tap
