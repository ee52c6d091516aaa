import Derived.Test.YtcolcbpoenlfaaaDoorD3l
namespace Go.Proofs.YtcolcbpoenlfaaaDoor.Frm
open Go.RowKit Gf8 Aes By8 Cel
/- FrameNil. -/

theorem range_h3 {W : World} {A : Nat} {rd ep lf : Int} {t : TypeId} (h : W.heap[A]? = some (.cells (hC rd ep lf) t)) : W.rangeAt A 0 (hC rd ep lf).toList := by
  intro j u hu
  rw [cell_of_row _ _ _ _ _ _ h, Nat.zero_add, ← Array.getElem?_toList]
  exact hu
set_option maxRecDepth 20000 in
set_option maxHeartbeats 1000000 in
theorem nil_any (v : Value) (V : World) (g : Rules V) :
    Calls Tryd.prog 4 #[v] V fun e w' => e = .returned (.bool true) ∧ Below V.heap.size V w' := by
  have HG : Hid (Rules V) := g
  have z := zeroH
  have eqh := eqlH
  clear g
  go_enter Tryd.func4, Tryd.ntmps4
  go_wp2_with (first
    | (go_at_call 5; refine (awake_any V HG.out).mono ?_; rintro e w1 ⟨rfl, b1⟩; have B1 : Hid (_) := b1; clear b1)
    | (go_at_call 11; refine (put_nil _ w1).mono ?_; rintro e w2 ⟨rfl, b2⟩; have B2 : Hid (Below V.heap.size V w2) := B1.out.trans (b2.mono B1.out.size); clear b2)
    | (go_at_call 12; refine (header_nil w2).mono ?_; rintro e w3 ⟨rfl, b3⟩; have B3 : Hid (Below V.heap.size V w3) := B2.out.trans (b3.mono B2.out.size); clear b3)
    | (refine atStore 26 (.tmp 6) (.tmp 21) rfl ?_; go_must (refine wpList_exS rfl (execStHd (r0 := 0) (e0 := 0) (l0 := 0) (rd := 0) (ep := 0) (lf := 0) rfl rfl rfl (heapNew w3 _)) ?_; obtain ⟨W4, hW4⟩ : ∃ W4, (w3.alloc (.cells (hC 0 0 0) 26)).setRow w3.heap.size (hC 0 0 0) = W4 := ⟨_, rfl⟩; have r4 : W4.heap[w3.heap.size]? = some (.cells (hC 0 0 0) 26) := (by rw [← hW4]; exact setRow_heap _ _ _ _ _ _ (heapNew w3 _)); have b4 : Below w3.heap.size w3 W4 := (by rw [← hW4]; exact below4 (belNew w3 _) (Nat.le_refl _) _); rw [hW4]; have R4 : Hid (W4.heap[w3.heap.size]? = some (.cells (hC 0 0 0) 26) ∧ w3.heap.size < W4.heap.size) := ⟨r4, (Array.getElem?_eq_some_iff.1 r4).1⟩; have B4 : Hid (Below V.heap.size V W4) := B3.out.trans (b4.mono B3.out.size); clear r4 b4 hW4))
    | (go_at_call 13; refine (end_nil W4).mono ?_; rintro e w5 ⟨rfl, b5⟩; have R5 : Hid (w5.heap[w3.heap.size]? = some (.cells (hC 0 0 0) 26)) := (by show w5.heap[w3.heap.size]? = some (.cells (hC 0 0 0) 26); rw [b5.block _ R4.out.2]; exact R4.out.1); have B5 : Hid (Below V.heap.size V w5) := B4.out.trans (b5.mono B4.out.size); clear b5)
    | (refine atLoad 26 (.tmp 6) rfl ?_; go_must (refine wpList_ex rfl (execLoadMid (cs := (hC 0 0 0).toList) rfl rfl (range_h3 R5.out) Tryd.underlying26 rfl (by kernel_rfl)) ?_))
    | (refine wpList_ex rfl (execH0 rfl) ?_))
  go_ret
  exact ⟨rfl, B5.out⟩
end Go.Proofs.YtcolcbpoenlfaaaDoor.Frm
