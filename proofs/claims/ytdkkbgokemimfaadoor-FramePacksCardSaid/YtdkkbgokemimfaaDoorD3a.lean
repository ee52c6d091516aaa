import Derived.Test.YtdkkbgokemimfaaDoorD2n
namespace Go.Proofs.YtdkkbgokemimfaaDoor.Frm
open Go.RowKit Gf8 Aes By8 Cel
/- awake, great. -/

theorem cells0 (V : World) : Cells V (.slice none 0 0) 0 (fun _ => undef) (fun _ => 0) (fun _ _ => 0) :=
  ⟨⟨none, 0, rfl, Nat.le_refl _, by omega, fun h => by omega⟩, fun i h => by omega, fun i h => by omega, fun i h => by omega⟩
def wakeF : Nat → Nat := packF 7 1 2 0 fun _ _ => 0
theorem wake24 : wakeF 24 = 26 := by decide +kernel
theorem wake_good : Good 7 1 2 0 := ⟨by omega, by omega, by omega, by omega⟩
theorem own_old {W : World} {B n t : Nat} {v : Value} {xs : List Value} (h : W.ownsRow B t 1 v n xs) : ∀ ad l c, v = .slice (some ad) l c → ad.block < W.heap.size := by
  intro ad l c e
  rcases h.2 with ⟨rfl, _⟩ | ⟨g, cap, cur, rfl, _, hg, _⟩
  · cases e
  · injection e with e1
    injection e1 with e1
    rw [← e1]
    exact (Array.getElem?_eq_some_iff.1 hg).1
theorem execHd3 {o : Oper} {a : Act} {w : World} {x y z : Int} (ho : o.op = .build 23 #[(0, .const (.int .i64 x)), (1, .const (.int .i64 y)), (2, .const (.int .i64 z))]) : (execOp a.eval o).run Tryd.prog w = .ok (.value (.agg (hC x y z))) w := execHdr ho rfl rfl rfl
theorem execBt1 {o : Oper} {a : Act} {w : World} {x : Operand} {rd ep lf : Int} (ho : o.op = .build 26 #[(0, x)]) (hx : a.eval x = .agg (hC rd ep lf)) : (execOp a.eval o).run Tryd.prog w = .ok (.value (.agg (bC rd ep lf (.slice none 0 0)))) w := by
  unfold execOp
  simp only [ho, List.map_toArray, List.map_cons, List.map_nil, hx]
  simp [go_sem, bC, hC]
set_option maxRecDepth 20000 in
set_option maxHeartbeats 1000000 in
theorem awake_any (V : World) (g : Rules V) : Calls Tryd.prog 9 #[] V fun e w' => e = .returned (.bool true) ∧ Below V.heap.size V w' := by
  have HG : Hid (Rules V) := g
  have pa := ppack_any 7 1 2 0 _ _ _ _ V g (cells0 V) (by omega)
  have e0 : packE 7 1 2 0 (fun _ => 0) = 0 := by decide
  have eN : packN 7 1 2 0 (fun _ => 0) = 28 := by decide
  have eF : packI 7 1 2 0 (fun _ _ => 0) = wakeF := rfl
  rw [e0, eN, eF] at pa
  obtain ⟨p1, p2, p3, p4, p5, p6, p7⟩ := pack_ok (fun _ _ => 0) wake_good
  have hb : ∀ j, j < 28 → wakeF j < 256 := by decide +kernel
  have j0 : jE wakeF 28 = (0, 0) := p4
  have ok : okR wakeF 28 = true := by unfold okR; rw [j0]; rfl
  have r1 : rRound wakeF 28 = 7 := by unfold rRound jRound; rw [if_pos ok, if_pos (show headOk wakeF 28 = true from p1)]; exact p5
  have r3 : rLeft wakeF 28 = 2 := by unfold rLeft jLeft; rw [if_pos ok, if_pos (show headOk wakeF 28 = true from p1), show wakeF 5 = 2 from p7]; rfl
  have PA : Hid (_) := pa
  have RR : Hid (jE wakeF 28 = (0, 0) ∧ rRound wakeF 28 = 7 ∧ rLeft wakeF 28 = 2 ∧ ∀ j, j < 28 → wakeF j < 256) := ⟨j0, r1, r3, hb⟩
  have W24 : Hid (wakeF 24 = 26) := wake24
  have z := zeroB
  clear g pa e0 eN eF p1 p2 p3 p4 p5 p6 p7 hb j0 ok r1 r3
  go_enter Tryd.func9, Tryd.ntmps9
  go_wp2_with (first
    | (refine wpList_ex rfl (execHd3 rfl) ?_)
    | (refine wpList_ex rfl (execBt1 (rd := 7) (ep := 1) (lf := 2) rfl rfl) ?_)
    | (go_at_call 13; refine Calls.mono PA.out ?_; rintro e w1 ⟨r, rfl, own, b1⟩; obtain ⟨⟨ao, cap, rfl, _, _, h3⟩, _⟩ := own_slice own RR.out.2.2.2; obtain ⟨b, off, rfl, hbl, hc⟩ := h3 (by omega); have c24 := hc 24 (by omega); rw [W24.out] at c24; have O1 : Hid (w1.ownsRow V.heap.size 5 1 (.slice (some ⟨b, off, none⟩) 28 cap) 28 (bytesL 28 wakeF) ∧ Below V.heap.size V w1 ∧ b < w1.heap.size ∧ w1.cell? ⟨b, off + 24, none⟩ = some (.int .u8 26)) := ⟨own, b1, hbl, c24⟩; clear own b1 h3 hbl hc c24)
    | (go_at_call 17; refine (pread_any wakeF 28 _ w1 (HG.out.on O1.out.2.1 HG.out.sz) (own_slice O1.out.1 RR.out.2.2.2) (by omega)).mono ?_; rw [RR.out.1, RR.out.2.1, RR.out.2.2.1]; rintro e w2 ⟨cv, x, rfl, cl, b2⟩; have O2 : Hid (Below w1.heap.size w1 w2 ∧ cv.oneCell' = true) := ⟨b2, cl.one⟩; clear cl b2)
    | (refine atStore 26 (.tmp 3) (.tmp 15) rfl ?_; go_must (refine wpList_exS rfl (execStBt (rd := 7) (ep := rEpoch wakeF 28) (lf := 2) (cv := cv) rfl rfl rfl (heapNew w2 _) O2.out.2) ?_; have hr : ((w2.alloc (.cells (bC 0 0 0 (.slice none 0 0)) 26)).setRow w2.heap.size (bC 7 (rEpoch wakeF 28) 2 cv)).heap[w2.heap.size]? = some (.cells (bC 7 (rEpoch wakeF 28) 2 cv) 26) := setRow_heap _ _ _ _ _ _ (heapNew w2 _); obtain ⟨k0, _, k2, _⟩ := bC_at _ _ _ _ hr; have b3 : Below w1.heap.size w1 ((w2.alloc (.cells (bC 0 0 0 (.slice none 0 0)) 26)).setRow w2.heap.size (bC 7 (rEpoch wakeF 28) 2 cv)) := below4 (O2.out.1.trans ((belNew w2 _).mono O2.out.1.size)) O2.out.1.size _; have k24 := (cell_below b3 O1.out.2.2.1).trans O1.out.2.2.2; have B3 : Hid (_) := b3; clear hr b3)))
  go_ret
  exact ⟨rfl, O1.out.2.1.trans (B3.out.mono O1.out.2.1.size)⟩
end Go.Proofs.YtdkkbgokemimfaaDoor.Frm
