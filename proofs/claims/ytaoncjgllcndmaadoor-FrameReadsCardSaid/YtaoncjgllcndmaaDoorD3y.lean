import Derived.Test.YtaoncjgllcndmaaDoorD3x
import Derived.Test.YtaoncjgllcndmaaDoorD3s
import Derived.Test.YtaoncjgllcndmaaDoorD3n
namespace Go.Proofs.YtaoncjgllcndmaaDoor.Frm
open Go.RowKit Gf8 Aes By8 Cel
/- FrameReads. -/

/-- raw and three bytes behind it. -/
def inF (len : Nat) (p : Nat → Nat) : Nat → Nat := fun j => if j < len then p j else j - len + 1
theorem inF_lt {len : Nat} {p : Nat → Nat} (hp : ∀ j, j < len → p j < 256) : ∀ j, j < len + 3 → inF len p j < 256 := by
  intro j hj
  unfold inF
  split
  · exact hp _ (by assumption)
  · omega
theorem three_slice (W : World) (len : Nat) (p : Nat → Nat) : SliceN (W.alloc (.cells #[.int .u8 1, .int .u8 2, .int .u8 3] 5)) (.slice (some ⟨W.heap.size, 0, none⟩) 3 3) 3 (fun j => inF len p (len + j)) := by
  refine ⟨⟨_, _, rfl, Nat.le_refl _, by omega, fun _ => ⟨W.heap.size, 0, rfl, (Array.getElem?_eq_some_iff.1 (heapNew W _)).1, fun j hj => ?_⟩⟩, fun j hj => ?_⟩
  · rw [cell_of_row _ _ _ _ _ _ (heapNew W _), Nat.zero_add]
    unfold inF
    rw [if_neg (by omega)]
    match j, hj with
    | 0, _ => rw [show len + 0 - len + 1 = 1 by omega]; rfl
    | 1, _ => rw [show len + 1 - len + 1 = 2 by omega]; rfl
    | 2, _ => rw [show len + 2 - len + 1 = 3 by omega]; rfl
  · show inF len p (len + j) < 256
    unfold inF
    rw [if_neg (by omega)]
    omega
set_option maxRecDepth 20000 in
set_option maxHeartbeats 4000000 in
theorem reads_any (cv : Value) (m : Nat) (xv : Nat → Value) (ln : Nat → Nat) (c : Nat → Nat → Nat) (V : World) (g : Rules V) (hc : Cells V cv m xv ln c) (hm : m ≤ 140737488351232) :
    Calls Tryd.prog 4 #[cv] V fun e w' => e = .returned (.bool true) ∧ Below V.heap.size V w' := by
  have A := awake_any V g
  obtain ⟨ca, ccap, rfl, hs1, hs2, hs⟩ := id hc.shape
  have HV : Hid (Rules V ∧ Cells V (.slice ca m ccap) m xv ln c) := ⟨g, hc⟩
  have HS : Hid (0 < m → ∃ b off, ca = some ⟨b, off, none⟩ ∧ b < V.heap.size ∧ ∀ i, i < m → V.cell? ⟨b, off + i, none⟩ = some (xv i)) := hs
  have lm : (m : Int) ≤ 140737488351232 := by omega
  have z := zeroB
  clear g hc hs hs1 hs2 hm
  go_enter Tryd.func4, Tryd.ntmps4
  go_wp2_with (go_at_call 9; refine A.mono ?_; rintro e w1 ⟨rfl, hb1⟩; have B1 : Hid (Below V.heap.size V w1) := hb1; clear hb1)
  go_loopw [23] (fun z W => ∃ i : Nat, i ≤ m ∧ z = .int .i64 (i : Int) ∧ Below V.heap.size V W) (fun z _ => m - (intOf z).toNat)
  case atStart => exact ⟨0, Nat.zero_le _, rfl, B1.out⟩
  case round =>
    obtain ⟨i, hi, rfl, bel⟩ := hrel
    by_cases hlt : i < m
    · obtain ⟨w0, rfl⟩ : ∃ w0, w0 = wr := ⟨wr, rfl⟩
      have i1 : (i : Int) < m := by omega
      obtain ⟨b, off, rfl, hb, hcell⟩ := HS.out (by omega)
      have c1 : w0.cell? ⟨b, off + i, none⟩ = some (xv i) := by rw [cell_below bel hb]; exact hcell i hlt
      obtain ⟨raw, hraw⟩ : ∃ raw, xv i = raw := ⟨_, rfl⟩
      obtain ⟨len, hlen⟩ : ∃ len, ln i = len := ⟨_, rfl⟩
      obtain ⟨p, hp⟩ : ∃ p, c i = p := ⟨_, rfl⟩
      have sr := HV.out.2.cell i hlt
      have nr := HV.out.2.nil i hlt
      have lr := HV.out.2.lens i hlt
      rw [hraw, hlen, hp] at sr
      rw [hraw] at nr c1
      rw [hlen] at lr
      obtain ⟨ra, rcap, rfl, _⟩ := id sr.shape
      obtain ⟨q, hq⟩ : ∃ q, inF len p = q := ⟨_, rfl⟩
      have ql := inF_lt sr.bytes
      have q0 : ∀ j, j < len → p j = q (0 + j) := fun j hj => by rw [← hq, Nat.zero_add]; unfold inF; rw [if_pos hj]
      obtain ⟨kf1, kf2⟩ := rk_facts sr.bytes
      obtain ⟨rd, hrd⟩ : ∃ rd, rRound p len = rd := ⟨_, rfl⟩
      obtain ⟨ep, hep⟩ : ∃ ep, rEpoch p len = ep := ⟨_, rfl⟩
      obtain ⟨lf, hlf⟩ : ∃ lf, rLeft p len = lf := ⟨_, rfl⟩
      obtain ⟨k, hk⟩ : ∃ k, rK p len = k := ⟨_, rfl⟩
      obtain ⟨J, hJ⟩ : ∃ J, jE p len = J := ⟨_, rfl⟩
      rw [hk] at kf1 kf2
      rw [hq] at ql
      have HR : Hid (SliceN V (.slice ra len rcap) len p ∧ (∀ l c, Value.slice ra len rcap = .slice none l c → c = 0) ∧ len ≤ 140737488351232 ∧ (∀ j, j < len + 3 → q j < 256) ∧ (∀ j, j < len → p j = q (0 + j)) ∧ k ≤ 256 ∧ (∀ i j, i < k → j < 320 → cellB p i j < 256) ∧ inF len p = q) := ⟨sr, nr, lr, ql, q0, kf1, kf2, hq⟩
      have RR : Hid (∀ W v, SliceN W v len p → Calls Tryd.prog 16 #[v] W fun e w' => ∃ cv x, e = .returned (.tuple #[.agg (bC rd ep lf cv), .int .i64 J.1, .int .i64 J.2]) ∧ CL W.heap.size k x p cv w' ∧ Below W.heap.size W w') := fun W v hv => by
        have h := rread_any p len v W hv lr
        rw [hrd, hep, hlf, hk, hJ] at h
        exact h
      have PR : Hid (∀ W v, Below V.heap.size V W → SliceN W v len p → Calls Tryd.prog 17 #[v] W fun e w' => ∃ cv x, e = .returned (.tuple #[.agg (bC rd ep lf cv), .int .i64 J.1, .int .i64 J.2]) ∧ CL W.heap.size k x p cv w' ∧ Below W.heap.size W w') := fun W v hW hv => by
        have h := pread_any p len v W (HV.out.1.on hW HV.out.1.sz) hv lr
        rw [hrd, hep, hlf, hk, hJ] at h
        exact h
      have HI : Hid (i < m ∧ Below V.heap.size V w0) := ⟨hlt, bel⟩
      have ll : (len : Int) ≤ 140737488351232 := by omega
      clear sr nr lr ql q0 kf1 kf2 hrd hep hlf hk hJ hq hraw hlen hp hlt hi bel hb hcell
      go_wp2_with (first
        | (refine atAppB (.tmp 27) (.tmp 28) rfl ?_; go_must (refine By8.wpList_appS (B := w0.heap.size) (n := 0) (m := len) (p := q) rfl (.tmp 27) (.tmp 28) rfl rfl rfl (own_none w0 q) (sliceN_cg ((HR.out.1.on HI.out.2).on (belNew w0 _)) HR.out.2.2.2.2.1) HR.out.2.1 (by have := HR.out.2.2.1; omega) (belNew w0 _).size ?_; intro u1 W1 own1 gr1; have b1 : Below w0.heap.size w0 W1 := below_grown (belNew w0 _) (belNew w0 _).size (own_none w0 q) gr1; rw [Nat.zero_add] at own1; have O1 : Hid (W1.ownsRow w0.heap.size 5 1 u1 len (bytesL len q) ∧ Below w0.heap.size w0 W1) := ⟨own1, b1⟩; clear own1 gr1 b1))
        | (refine atAppB (.tmp 29) (.tmp 30) rfl ?_; go_must (refine By8.wpList_appS (B := w0.heap.size) (n := len) (m := 3) (p := q) rfl (.tmp 29) (.tmp 30) rfl rfl rfl (ownsRow_below O1.out.1 (belNew W1 _)) (by rw [← HR.out.2.2.2.2.2.2.2]; exact three_slice W1 len p) (fun l c e => by cases e) (by have := HR.out.2.2.1; omega) (Nat.le_trans O1.out.2.size (belNew W1 _).size) ?_; intro u2 W2 own2 gr2; have b2 : Below w0.heap.size w0 W2 := below_grown (O1.out.2.trans ((belNew W1 _).mono O1.out.2.size)) (Nat.le_trans O1.out.2.size (belNew W1 _).size) (ownsRow_below O1.out.1 (belNew W1 _)) gr2; obtain ⟨gi, ci, rfl, gB, gl, _, _⟩ := own_byte own2 (by omega); have gI : ∀ W, (Instr.sliceAt 30 (.slice (some ⟨gi, 0, none⟩) (len + 3) ci) none (some (.int .i64 (len : Int))) none).run Tryd.prog W = .ok (.slice (some ⟨gi, 0, none⟩) len ci) W := (fun W => by have h := By8.slice_h (some ⟨gi, 0, none⟩) (len + 3) ci len (by obtain ⟨_, _, e, e1, _⟩ := (own_slice own2 HR.out.2.2.2.1).shape; injection e with _ _ e3; omega) W; rw [sliced_0] at h; exact h); have O2 : Hid (W2.ownsRow w0.heap.size 5 1 (.slice (some ⟨gi, 0, none⟩) (len + 3) ci) (len + 3) (bytesL (len + 3) q) ∧ Below V.heap.size V W2 ∧ w0.heap.size ≤ gi ∧ gi < W2.heap.size ∧ SliceN W2 (.slice (some ⟨gi, 0, none⟩) len ci) len p ∧ V.heap.size ≤ w0.heap.size) := ⟨own2, HI.out.2.trans (b2.mono HI.out.2.size), gB, gl, sliceN_cg (SliceN.take (own_slice own2 HR.out.2.2.2.1) (by omega)) (fun j hj => by rw [HR.out.2.2.2.2.1 j hj, Nat.zero_add]), HI.out.2.size⟩; clear own2 gr2 b2 gB gl))
        | (go_at_call 16; refine (RR.out W2 _ (HR.out.1.on O2.out.2.1)).mono ?_; rintro e w3 ⟨cvw, xw, rfl, clw, b3⟩; obtain ⟨aw, cw, rfl⟩ := ownL_shape clw.own; have C3 : Hid (CL W2.heap.size k xw p (.slice aw k cw) w3 ∧ Below W2.heap.size W2 w3) := ⟨clw, b3⟩; clear clw b3)
        | (refine atStore 26 (.tmp 6) (.tmp 35) rfl ?_; go_must (refine wpList_exS rfl (execStBt (rd := rd) (ep := ep) (lf := lf) (cv := .slice aw k cw) rfl rfl rfl (heapNew w3 _) rfl) ?_; obtain ⟨W4, hW4⟩ : ∃ W4, (w3.alloc (.cells (bC 0 0 0 (.slice none 0 0)) 26)).setRow w3.heap.size (bC rd ep lf (.slice aw k cw)) = W4 := ⟨_, rfl⟩; have rr : W4.heap[w3.heap.size]? = some (.cells (bC rd ep lf (.slice aw k cw)) 26) := (by rw [← hW4]; exact setRow_heap _ _ _ _ _ _ (heapNew w3 _)); have bb : Below w3.heap.size w3 W4 := (by rw [← hW4]; exact below4 (belNew w3 _) (Nat.le_refl _) _); have b24 := C3.out.2.trans (bb.mono C3.out.2.size); have S4 : Hid (W4.heap[w3.heap.size]? = some (.cells (bC rd ep lf (.slice aw k cw)) 26) ∧ CL W2.heap.size k xw p (.slice aw k cw) W4 ∧ Below W2.heap.size W2 W4 ∧ Below V.heap.size V W4 ∧ W2.heap.size ≤ w3.heap.size ∧ LtB W4.heap.size k xw (.slice aw k cw)) := ⟨rr, C3.out.1.on bb, b24, O2.out.2.1.trans (b24.mono O2.out.2.1.size), C3.out.2.size, (C3.out.1.on bb).ltB⟩; clear b24; rw [hW4]; clear rr bb hW4))
        | (go_at_call 17; refine (PR.out W4 _ S4.out.2.2.2.1 (O2.out.2.2.2.2.1.on S4.out.2.2.1)).mono ?_; rintro e w5 ⟨cvb, xb, rfl, clb, b5⟩; obtain ⟨ab, cb, rfl⟩ := ownL_shape clb.own; have C5 : Hid (CL W4.heap.size k xb p (.slice ab k cb) w5 ∧ Below W4.heap.size W4 w5) := ⟨clb, b5⟩; clear clb b5)
        | (refine atStore 26 (.tmp 9) (.tmp 44) rfl ?_; go_must (refine wpList_exS rfl (execStBt (rd := rd) (ep := ep) (lf := lf) (cv := .slice ab k cb) rfl rfl rfl (heapNew w5 _) rfl) ?_; obtain ⟨W6, hW6⟩ : ∃ W6, (w5.alloc (.cells (bC 0 0 0 (.slice none 0 0)) 26)).setRow w5.heap.size (bC rd ep lf (.slice ab k cb)) = W6 := ⟨_, rfl⟩; have rr : W6.heap[w5.heap.size]? = some (.cells (bC rd ep lf (.slice ab k cb)) 26) := (by rw [← hW6]; exact setRow_heap _ _ _ _ _ _ (heapNew w5 _)); have bb : Below w5.heap.size w5 W6 := (by rw [← hW6]; exact below4 (belNew w5 _) (Nat.le_refl _) _); have b46 := C5.out.2.trans (bb.mono C5.out.2.size); have b26 := S4.out.2.2.1.trans (b46.mono S4.out.2.2.1.size); have S6 : Hid (W6.heap[w5.heap.size]? = some (.cells (bC rd ep lf (.slice ab k cb)) 26) ∧ CL W4.heap.size k xb p (.slice ab k cb) W6 ∧ Below W4.heap.size W4 W6 ∧ Below V.heap.size V W6 ∧ Below W2.heap.size W2 W6 ∧ W4.heap.size ≤ w5.heap.size ∧ LtB W6.heap.size k xb (.slice ab k cb)) := ⟨rr, C5.out.1.on bb, b46, O2.out.2.1.trans (b26.mono O2.out.2.1.size), b26, C5.out.2.size, (C5.out.1.on bb).ltB⟩; clear b46 b26; rw [hW6]; clear rr bb hW6))
        | (go_at_call 17; refine (PR.out W6 _ S6.out.2.2.2.1 (O2.out.2.2.2.2.1.on S6.out.2.2.2.2.1)).mono ?_; rintro e w7 ⟨cvc, xc, rfl, clc, b7⟩; obtain ⟨ac, cc, rfl⟩ := ownL_shape clc.own; have C7 : Hid (CL W6.heap.size k xc p (.slice ac k cc) w7 ∧ Below W6.heap.size W6 w7) := ⟨clc, b7⟩; clear clc b7)
        | (refine atStore 26 (.tmp 12) (.tmp 53) rfl ?_; go_must (refine wpList_exS rfl (execStBt (rd := rd) (ep := ep) (lf := lf) (cv := .slice ac k cc) rfl rfl rfl (heapNew w7 _) rfl) ?_; obtain ⟨W8, hW8⟩ : ∃ W8, (w7.alloc (.cells (bC 0 0 0 (.slice none 0 0)) 26)).setRow w7.heap.size (bC rd ep lf (.slice ac k cc)) = W8 := ⟨_, rfl⟩; have rr : W8.heap[w7.heap.size]? = some (.cells (bC rd ep lf (.slice ac k cc)) 26) := (by rw [← hW8]; exact setRow_heap _ _ _ _ _ _ (heapNew w7 _)); have bb : Below w7.heap.size w7 W8 := (by rw [← hW8]; exact below4 (belNew w7 _) (Nat.le_refl _) _); have b68 := C7.out.2.trans (bb.mono C7.out.2.size); have b48 := S6.out.2.2.1.trans (b68.mono S6.out.2.2.1.size); have b28 := S6.out.2.2.2.2.1.trans (b68.mono S6.out.2.2.2.2.1.size); have ROW : Hid (W8.heap[w7.heap.size]? = some (.cells (bC rd ep lf (.slice ac k cc)) 26) ∧ W8.heap[w5.heap.size]? = some (.cells (bC rd ep lf (.slice ab k cb)) 26) ∧ W8.heap[w3.heap.size]? = some (.cells (bC rd ep lf (.slice aw k cw)) 26)) := ⟨rr, (by rw [b68.block _ (Array.getElem?_eq_some_iff.1 S6.out.1).1]; exact S6.out.1), (by rw [b48.block _ (Array.getElem?_eq_some_iff.1 S4.out.1).1]; exact S4.out.1)⟩; have CLS : Hid (CL W2.heap.size k xw p (.slice aw k cw) W8 ∧ CL W4.heap.size k xb p (.slice ab k cb) W8 ∧ CL W6.heap.size k xc p (.slice ac k cc) W8) := ⟨S4.out.2.1.on b48, S6.out.2.1.on b68, C7.out.1.on bb⟩; have B8 : Hid (Below V.heap.size V W8 ∧ Below W2.heap.size W2 W8) := ⟨O2.out.2.1.trans (b28.mono O2.out.2.1.size), b28⟩; clear b68 b48 b28; rw [hW8]; clear rr bb hW8))
        | (refine atLoad 26 (.tmp 9) rfl ?_; refine wpList_ex rfl (execLdBt rfl rfl (by first | exact ROW.out.2.1 | (rw [B9.out.block _ (Array.getElem?_eq_some_iff.1 ROW.out.2.1).1]; exact ROW.out.2.1))) ?_)
        | (refine atLoad 26 (.tmp 6) rfl ?_; refine wpList_ex rfl (execLdBt rfl rfl (by first | exact ROW.out.2.2 | (rw [B9.out.block _ (Array.getElem?_eq_some_iff.1 ROW.out.2.2).1]; exact ROW.out.2.2))) ?_)
        | (refine atLoad 26 (.tmp 12) rfl ?_; refine wpList_ex rfl (execLdBt rfl rfl (by first | exact ROW.out.1 | (rw [B9.out.block _ (Array.getElem?_eq_some_iff.1 ROW.out.1).1]; exact ROW.out.1))) ?_)
        | (go_at_call_of 15 cb; refine (alike_true rd ep lf k _ _ xb xw (fun _ => 320) (fun _ => 320) (cellB p) (cellB p) W8 (CLS.out.2.1.cells HR.out.2.2.2.2.2.2.1 (by have := HR.out.2.2.2.2.2.1; omega)) (CLS.out.1.cells HR.out.2.2.2.2.2.2.1 (by have := HR.out.2.2.2.2.2.1; omega)) ⟨fun _ _ => rfl, fun _ _ _ _ => rfl⟩ (by have := HR.out.2.2.2.2.2.1; omega)).mono ?_; rintro e w9 ⟨rfl, hb9⟩; have B9 : Hid (Below W8.heap.size W8 w9) := hb9; clear hb9)
        | (go_at_call_of 15 cc; refine (alike_true rd ep lf k _ _ xc xw (fun _ => 320) (fun _ => 320) (cellB p) (cellB p) w9 ((CLS.out.2.2.on B9.out).cells HR.out.2.2.2.2.2.2.1 (by have := HR.out.2.2.2.2.2.1; omega)) ((CLS.out.1.on B9.out).cells HR.out.2.2.2.2.2.2.1 (by have := HR.out.2.2.2.2.2.1; omega)) ⟨fun _ _ => rfl, fun _ _ _ _ => rfl⟩ (by have := HR.out.2.2.2.2.2.1; omega)).mono ?_; rintro e w10 ⟨rfl, hb10⟩; have B10 : Hid (Below W8.heap.size W8 w10 ∧ Below V.heap.size V w10) := (by have q := B9.out.trans (hb10.mono B9.out.size); exact ⟨q, B8.out.1.trans (q.mono B8.out.1.size)⟩); clear hb10)
        | (refine atAppB (.tmp 78) (.tmp 79) rfl ?_; go_must (refine wpList_appSW (B := w10.heap.size) (n := 0) (m := len) (p := q) rfl (.tmp 78) (.tmp 79) rfl rfl rfl (own_none w10 q) (sliceN_cg ((HR.out.1.on B10.out.2).on (belNew w10 _)) HR.out.2.2.2.2.1) HR.out.2.1 (by have := HR.out.2.2.1; omega) (belNew w10 _).size ?_; intro u3 W11 own3 gr3; have b3 : Below w10.heap.size w10 W11 := below_grown (belNew w10 _) (belNew w10 _).size (own_none w10 q) gr3; rw [Nat.zero_add] at own3; have O3 : Hid (W11.ownsRow w10.heap.size 5 1 u3 len (bytesL len q) ∧ Below w10.heap.size w10 W11) := ⟨own3, b3⟩; clear own3 gr3 b3))
        | (refine atAppB (.tmp 80) (.tmp 81) rfl ?_; go_must (refine wpList_appSW (B := w10.heap.size) (n := len) (m := 3) (p := q) rfl (.tmp 80) (.tmp 81) rfl rfl rfl (ownsRow_below O3.out.1 (belNew W11 _)) (by rw [← HR.out.2.2.2.2.2.2.2]; exact three_slice W11 len p) (fun l c e => by cases e) (by have := HR.out.2.2.1; omega) (Nat.le_trans O3.out.2.size (belNew W11 _).size) ?_; intro u4 W12 own4 gr4; have b4 : Below w10.heap.size w10 W12 := below_grown (O3.out.2.trans ((belNew W11 _).mono O3.out.2.size)) (Nat.le_trans O3.out.2.size (belNew W11 _).size) (ownsRow_below O3.out.1 (belNew W11 _)) gr4; have b812 := B10.out.1.trans (b4.mono B10.out.1.size); have b212 := B8.out.2.trans (b812.mono B8.out.2.size); have S12 : Hid (SliceN W12 u4 (len + 3) q ∧ W12.ownsRow w0.heap.size 5 1 (.slice (some ⟨gi, 0, none⟩) (len + 3) ci) (len + 3) (bytesL (len + 3) q) ∧ Below W8.heap.size W8 W12 ∧ Below V.heap.size V W12 ∧ Below W2.heap.size W2 W12) := ⟨own_slice own4 HR.out.2.2.2.1, ownsRow_below O2.out.1 b212, b812, B8.out.1.trans (b812.mono B8.out.1.size), b212⟩; clear own4 gr4 b4 b812 b212))
        | (go_at_call 14; refine (same_true q q (len + 3) _ _ W12 (own_slice S12.out.2.1 HR.out.2.2.2.1) S12.out.1 (fun _ _ => rfl)).mono ?_; rintro e w13 ⟨rfl, hw13⟩; rw [hw13]; clear hw13))
      have l3 : (len : Int) + 3 ≤ 140737488351235 := by omega
      go_loopw [88] (fun z W => ∃ j : Nat, j ≤ len + 3 ∧ z = .int .i64 (j : Int) ∧ (∃ f, W.ownsRow w0.heap.size 5 1 (.slice (some ⟨gi, 0, none⟩) (len + 3) ci) (len + 3) (bytesL (len + 3) f)) ∧ Saved (fun k => k = gi) W12 W) (fun z _ => len + 3 - (intOf z).toNat)
      case atStart => exact ⟨0, Nat.zero_le _, rfl, ⟨q, S12.out.2.1⟩, Saved.refl _ _⟩
      case round =>
        obtain ⟨j, hj, rfl, ⟨f, own⟩, sv⟩ := hrel
        by_cases hlt : j < len + 3
        · have i2 : (j : Int) < (len : Int) + 3 := by omega
          obtain ⟨gb, cap, e, gB, gl, ⟨cur, hcur⟩, hcell⟩ := own_byte own (by omega)
          injection e with e1 e2 e3
          injection e1 with e1
          injection e1 with e1
          subst e1
          have HK : Hid (j < len + 3 ∧ wr.heap[gi]? = some (.cells cur 5) ∧ wr.cell? ⟨gi, j, none⟩ = some (.int .u8 (f j : Nat)) ∧ wr.ownsRow w0.heap.size 5 1 (.slice (some ⟨gi, 0, none⟩) (len + 3) ci) (len + 3) (bytesL (len + 3) f) ∧ Saved (fun k => k = gi) W12 wr) := ⟨hlt, hcur, hcell j hlt, own, sv⟩
          clear hlt hj own sv gB gl hcur hcell e2 e3
          go_wp2_with (first
            | (refine wpList_ex rfl (execIdxS (x := .tmp 91) (k := j) rfl rfl rfl HK.out.1) ?_; rw [Nat.zero_add])
            | (refine atStore 5 (.tmp 93) (.const (.int .u8 119)) rfl ?_; go_must (refine wpList_exS rfl (execStB rfl rfl rfl HK.out.2.2.1 (frozen4 HK.out.2.1)) ?_)))
          go_roundw
          case rel => exact ⟨j + 1, HK.out.1, by go_num, ⟨_, own_set (m := j) 119 HK.out.2.2.2.1⟩, HK.out.2.2.2.2.cell _ (Or.inr rfl)⟩
          case measure => have := HK.out.1; simp [intOf]; omega
        · have i2 : ¬ (j : Int) < (len : Int) + 3 := by omega
          have gW2 := O2.out.2.2.2.1
          have rowK : ∀ {A : Nat} {d : Array Value}, W2.heap.size ≤ A → W8.heap[A]? = some (.cells d 26) → wr.heap[A]? = some (.cells d 26) := fun {A d} hA h => by
            have h12 : W12.heap[A]? = some (.cells d 26) := by rw [S12.out.2.2.1.block _ (Array.getElem?_eq_some_iff.1 h).1]; exact h
            rw [sv.block A (Array.getElem?_eq_some_iff.1 h12).1 (by omega)]
            exact h12
          have x2 := S4.out.2.2.1.size
          have x3 := S4.out.2.2.2.2.1
          have x4 := S6.out.2.2.2.2.2.1
          have x5 := C7.out.2.size
          have x6 := S6.out.2.2.1.size
          have bV : Below V.heap.size V wr := S12.out.2.2.2.1.trans (saved_below sv (by have := O2.out.2.2.1; have := O2.out.2.2.2.2.2; omega) S12.out.2.2.2.1.size)
          have ROX : Hid (wr.heap[w7.heap.size]? = some (.cells (bC rd ep lf (.slice ac k cc)) 26) ∧ wr.heap[w5.heap.size]? = some (.cells (bC rd ep lf (.slice ab k cb)) 26) ∧ wr.heap[w3.heap.size]? = some (.cells (bC rd ep lf (.slice aw k cw)) 26)) := ⟨rowK (by omega) ROW.out.1, rowK (by omega) ROW.out.2.1, rowK (by omega) ROW.out.2.2⟩
          have CX : Hid (CL W2.heap.size k xw p (.slice aw k cw) wr ∧ CL W4.heap.size k xb p (.slice ab k cb) wr ∧ CL W6.heap.size k xc p (.slice ac k cc) wr ∧ Below V.heap.size V wr) := ⟨(CLS.out.1.on S12.out.2.2.1).svF sv gW2, (CLS.out.2.1.on S12.out.2.2.1).svF sv (by omega), (CLS.out.2.2.on S12.out.2.2.1).svF sv (by omega), bV⟩
          have SZ : Hid (W4.heap.size ≤ W6.heap.size ∧ W6.heap.size ≤ wr.heap.size ∧ w3.heap.size < W4.heap.size ∧ V.heap.size ≤ W4.heap.size ∧ W6.heap.size ≤ w7.heap.size) := ⟨x6, by have := C7.out.2.size; have := (Array.getElem?_eq_some_iff.1 ROX.out.1).1; omega, (Array.getElem?_eq_some_iff.1 S4.out.1).1, S4.out.2.2.2.1.size, x5⟩
          obtain ⟨_, _, _, kb⟩ := bC_at _ _ _ _ ROX.out.2.1
          obtain ⟨_, _, _, kc⟩ := bC_at _ _ _ _ ROX.out.1
          clear hlt hj own sv gW2 rowK x2 x3 x4 x5 x6 bV
          go_wp2_with (first
            | (refine atLoad 26 (.tmp 9) rfl ?_; refine wpList_ex rfl (execLdBt rfl rfl ROX.out.2.1) ?_)
            | (refine atLoad 26 (.tmp 6) rfl ?_; refine wpList_ex rfl (execLdBt rfl rfl ROX.out.2.2) ?_)
            | (go_at_call_of 15 cb; refine (alike_true rd ep lf k _ _ xb xw (fun _ => 320) (fun _ => 320) (cellB p) (cellB p) wr (CX.out.2.1.cells HR.out.2.2.2.2.2.2.1 (by have := HR.out.2.2.2.2.2.1; omega)) (CX.out.1.cells HR.out.2.2.2.2.2.2.1 (by have := HR.out.2.2.2.2.2.1; omega)) ⟨fun _ _ => rfl, fun _ _ _ _ => rfl⟩ (by have := HR.out.2.2.2.2.2.1; omega)).mono ?_; rintro e w14 ⟨rfl, hb14⟩; have k9 : w14.cell? ⟨w5.heap.size, 3, none⟩ = some (.slice ab k cb) := (by rw [cell_below hb14 (Array.getElem?_eq_some_iff.1 ROX.out.2.1).1]; exact kb); have k12 : w14.cell? ⟨w7.heap.size, 3, none⟩ = some (.slice ac k cc) := (by rw [cell_below hb14 (Array.getElem?_eq_some_iff.1 ROX.out.1).1]; exact kc); have B14 : Hid (Below wr.heap.size wr w14 ∧ CL W4.heap.size k xb p (.slice ab k cb) w14 ∧ CL W6.heap.size k xc p (.slice ac k cc) w14) := ⟨hb14, CX.out.2.1.on hb14, CX.out.2.2.1.on hb14⟩; clear hb14)
            | (refine atAppLL (.tmp 101) (.tmp 103) rfl ?_; go_must (refine wpList_appLLW (B := W4.heap.size) (C := W6.heap.size) (n := k) (m := k) (x := xb) (y := xc) rfl (.tmp 101) (.tmp 103) rfl rfl rfl B14.out.2.1.own B14.out.2.2.own (fun t ht => own_oneCell (B14.out.2.2.fam.rows t ht)) (by have := HR.out.2.2.2.2.2.1; omega) (by have := SZ.out; have := B14.out.1.size; omega) ?_; intro v15 W15 own15 gr15; have fj := fam_join (C := W4.heap.size) B14.out.2.1.fam B14.out.2.2.fam (Nat.le_refl _) SZ.out.1 S6.out.2.2.2.2.2.2.rows; have O15 : Hid (W15.ownsRow W4.heap.size 30 1 v15 (k + k) (xsL (fun t => if t < k then xb t else xc (t - k)) 0 (k + k)) ∧ Fam W4.heap.size (k + k) (fun t => if t < k then xb t else xc (t - k)) (fun _ => 320) (fun t => if t < k then cellB p t else cellB p (t - k)) W15 ∧ Below W4.heap.size wr W15) := ⟨own15, fj.grown B14.out.2.1.own (grown_row gr15), (B14.out.1.mono (by have := SZ.out; omega)).grown (grown_row gr15) (by have := SZ.out; have := B14.out.1.size; omega) (fun g hg => (B14.out.2.1.own.lt g hg).1)⟩; clear own15 gr15 fj))
            | (go_at_call 18; refine (apart_any v15 (k + k) 320 W4.heap.size W4.heap.size _ _ W15 O15.out.1 O15.out.2.1 (by have := SZ.out; have := O15.out.2.2.size; omega) (by omega) (by omega) (by have := HR.out.2.2.2.2.2.1; omega)).mono ?_; rintro e w16 ⟨rfl, sv16⟩; have b16 : Below W4.heap.size W15 w16 := savedG_below sv16 (fun g hg => by obtain ⟨t, ht, e⟩ := hg; exact ((O15.out.2.1.rows t ht).lt g e).1) (by have := SZ.out; have := O15.out.2.2.size; omega); have bX16 := O15.out.2.2.trans b16; have S16 : Hid (CL W2.heap.size k xw p (.slice aw k cw) w16 ∧ w16.heap[w3.heap.size]? = some (.cells (bC rd ep lf (.slice aw k cw)) 26) ∧ Below V.heap.size V w16) := ⟨CX.out.1.onB S4.out.2.2.2.2.2 bX16, (by rw [bX16.block _ SZ.out.2.2.1]; exact ROX.out.2.2), CX.out.2.2.2.trans (bX16.mono SZ.out.2.2.2.1)⟩; clear sv16 b16 bX16)
            | (go_at_call 17; refine (PR.out w16 _ S16.out.2.2 (HR.out.1.on S16.out.2.2)).mono ?_; rintro e w17 ⟨cvd, xd, rfl, cld, b17⟩; obtain ⟨ad, cd, rfl⟩ := ownL_shape cld.own; have C17 : Hid (CL w16.heap.size k xd p (.slice ad k cd) w17 ∧ Below w16.heap.size w16 w17) := ⟨cld, b17⟩; clear cld b17)
            | (refine atStore 26 (.tmp 16) (.tmp 111) rfl ?_; go_must (refine wpList_exS rfl (execStBt (rd := rd) (ep := ep) (lf := lf) (cv := .slice ad k cd) rfl rfl rfl (heapNew w17 _) rfl) ?_; obtain ⟨W18, hW18⟩ : ∃ W18, (w17.alloc (.cells (bC 0 0 0 (.slice none 0 0)) 26)).setRow w17.heap.size (bC rd ep lf (.slice ad k cd)) = W18 := ⟨_, rfl⟩; have rr : W18.heap[w17.heap.size]? = some (.cells (bC rd ep lf (.slice ad k cd)) 26) := (by rw [← hW18]; exact setRow_heap _ _ _ _ _ _ (heapNew w17 _)); have bb : Below w17.heap.size w17 W18 := (by rw [← hW18]; exact below4 (belNew w17 _) (Nat.le_refl _) _); have b18 := C17.out.2.trans (bb.mono C17.out.2.size); have S18 : Hid (W18.heap[w17.heap.size]? = some (.cells (bC rd ep lf (.slice ad k cd)) 26) ∧ W18.heap[w3.heap.size]? = some (.cells (bC rd ep lf (.slice aw k cw)) 26) ∧ CL w16.heap.size k xd p (.slice ad k cd) W18 ∧ CL W2.heap.size k xw p (.slice aw k cw) W18 ∧ Below V.heap.size V W18) := ⟨rr, (by rw [b18.block _ (Array.getElem?_eq_some_iff.1 S16.out.2.1).1]; exact S16.out.2.1), C17.out.1.on bb, S16.out.1.on b18, S16.out.2.2.trans (b18.mono S16.out.2.2.size)⟩; clear b18; rw [hW18]; clear rr bb hW18))
            | (refine atLoad 26 (.tmp 16) rfl ?_; refine wpList_ex rfl (execLdBt rfl rfl S18.out.1) ?_)
            | (refine atLoad 26 (.tmp 6) rfl ?_; refine wpList_ex rfl (execLdBt rfl rfl S18.out.2.1) ?_)
            | (go_at_call_of 15 cd; refine (alike_true rd ep lf k _ _ xd xw (fun _ => 320) (fun _ => 320) (cellB p) (cellB p) W18 (S18.out.2.2.1.cells HR.out.2.2.2.2.2.2.1 (by have := HR.out.2.2.2.2.2.1; omega)) (S18.out.2.2.2.1.cells HR.out.2.2.2.2.2.2.1 (by have := HR.out.2.2.2.2.2.1; omega)) ⟨fun _ _ => rfl, fun _ _ _ _ => rfl⟩ (by have := HR.out.2.2.2.2.2.1; omega)).mono ?_; rintro e w21 ⟨rfl, hb21⟩; have F21 : Hid (Below V.heap.size V w21) := S18.out.2.2.2.2.trans (hb21.mono S18.out.2.2.2.2.size); clear hb21))
          go_roundw
          case rel => exact ⟨i + 1, HI.out.1, by go_num, F21.out⟩
          case measure => have := HI.out.1; simp [intOf]; omega
    · have ei : ¬ (i : Int) < m := by omega
      have BT : Hid (Below V.heap.size V wr) := bel
      clear bel hi hlt
      go_wp2
      go_ret
      exact ⟨rfl, BT.out⟩
end Go.Proofs.YtaoncjgllcndmaaDoor.Frm
