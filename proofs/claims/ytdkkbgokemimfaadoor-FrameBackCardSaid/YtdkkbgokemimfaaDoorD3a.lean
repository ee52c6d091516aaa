import Derived.Test.YtdkkbgokemimfaaDoorD2n
namespace Go.Proofs.YtdkkbgokemimfaaDoor.Frm
open Go.RowKit Gf8 Aes By8 Cel
/- awake, great. -/

theorem cells0 (V : World) : Cells V (.slice none 0 0) 0 (fun _ => undef) (fun _ => 0) (fun _ _ => 0) :=
  ⟨⟨none, 0, rfl, Nat.le_refl _, by omega, fun h => by omega⟩, fun i h => by omega, fun i h => by omega, fun i h => by omega⟩
def wakeF : Nat → Nat := packF 7 1 2 0 fun _ _ => 0
theorem wake24 : wakeF 24 = 26 := by decide +kernel
theorem wake_good : Good 7 1 2 0 := ⟨by omega, by omega, by omega, by omega⟩
theorem own_old {W : World} {B n t : Nat} {v : Value} {xs : List Value} (h : W.ownsRow B t 1 v n xs) : ∀ ad l c, v = .slice (some ad) l c → ad.block < W.heap.size := by
  intro ad l c e
  rcases h.2 with ⟨rfl, _⟩ | ⟨g, cap, cur, rfl, _, hg, _⟩
  · cases e
  · injection e with e1
    injection e1 with e1
    rw [← e1]
    exact (Array.getElem?_eq_some_iff.1 hg).1
theorem execHd3 {o : Oper} {a : Act} {w : World} {x y z : Int} (ho : o.op = .build 23 #[(0, .const (.int .i64 x)), (1, .const (.int .i64 y)), (2, .const (.int .i64 z))]) : (execOp a.eval o).run Tryd.prog w = .ok (.value (.agg (hC x y z))) w := execHdr ho rfl rfl rfl
theorem execBt1 {o : Oper} {a : Act} {w : World} {x : Operand} {rd ep lf : Int} (ho : o.op = .build 26 #[(0, x)]) (hx : a.eval x = .agg (hC rd ep lf)) : (execOp a.eval o).run Tryd.prog w = .ok (.value (.agg (bC rd ep lf (.slice none 0 0)))) w := by
  unfold execOp
  simp only [ho, List.map_toArray, List.map_cons, List.map_nil, hx]
  simp [go_sem, bC, hC]
set_option maxRecDepth 20000 in
set_option maxHeartbeats 1000000 in
theorem awake_any (V : World) (g : Rules V) : Calls Tryd.prog 9 #[] V fun e w' => e = .returned (.bool true) ∧ Below V.heap.size V w' := by
  have HG : Hid (Rules V) := g
  have pa := ppack_any 7 1 2 0 _ _ _ _ V g (cells0 V) (by omega)
  have e0 : packE 7 1 2 0 (fun _ => 0) = 0 := by decide
  have eN : packN 7 1 2 0 (fun _ => 0) = 28 := by decide
  have eF : packI 7 1 2 0 (fun _ _ => 0) = wakeF := rfl
  rw [e0, eN, eF] at pa
  obtain ⟨p1, p2, p3, p4, p5, p6, p7⟩ := pack_ok (fun _ _ => 0) wake_good
  have hb : ∀ j, j < 28 → wakeF j < 256 := by decide +kernel
  have j0 : jE wakeF 28 = (0, 0) := p4
  have ok : okR wakeF 28 = true := by unfold okR; rw [j0]; rfl
  have r1 : rRound wakeF 28 = 7 := by unfold rRound jRound; rw [if_pos ok, if_pos (show headOk wakeF 28 = true from p1)]; exact p5
  have r3 : rLeft wakeF 28 = 2 := by unfold rLeft jLeft; rw [if_pos ok, if_pos (show headOk wakeF 28 = true from p1), show wakeF 5 = 2 from p7]; rfl
  have PA : Hid (_) := pa
  have RR : Hid (jE wakeF 28 = (0, 0) ∧ rRound wakeF 28 = 7 ∧ rLeft wakeF 28 = 2 ∧ ∀ j, j < 28 → wakeF j < 256) := ⟨j0, r1, r3, hb⟩
  have W24 : Hid (wakeF 24 = 26) := wake24
  have z := zeroB
  clear g pa e0 eN eF p1 p2 p3 p4 p5 p6 p7 hb j0 ok r1 r3
  go_enter Tryd.func9, Tryd.ntmps9
  go_wp2_with (first
    | (refine wpList_ex rfl (execHd3 rfl) ?_)
    | (refine wpList_ex rfl (execBt1 (rd := 7) (ep := 1) (lf := 2) rfl rfl) ?_)
    | (go_at_call 13; refine Calls.mono PA.out ?_; rintro e w1 ⟨r, rfl, own, b1⟩; obtain ⟨⟨ao, cap, rfl, _, _, h3⟩, _⟩ := own_slice own RR.out.2.2.2; obtain ⟨b, off, rfl, hbl, hc⟩ := h3 (by omega); have c24 := hc 24 (by omega); rw [W24.out] at c24; have O1 : Hid (w1.ownsRow V.heap.size 5 1 (.slice (some ⟨b, off, none⟩) 28 cap) 28 (bytesL 28 wakeF) ∧ Below V.heap.size V w1 ∧ b < w1.heap.size ∧ w1.cell? ⟨b, off + 24, none⟩ = some (.int .u8 26)) := ⟨own, b1, hbl, c24⟩; clear own b1 h3 hbl hc c24)
    | (go_at_call 17; refine (pread_any wakeF 28 _ w1 (HG.out.on O1.out.2.1 HG.out.sz) (own_slice O1.out.1 RR.out.2.2.2) (by omega)).mono ?_; rw [RR.out.1, RR.out.2.1, RR.out.2.2.1]; rintro e w2 ⟨cv, x, rfl, cl, b2⟩; have O2 : Hid (Below w1.heap.size w1 w2 ∧ cv.oneCell' = true) := ⟨b2, cl.one⟩; clear cl b2)
    | (refine atStore 26 (.tmp 3) (.tmp 15) rfl ?_; go_must (refine wpList_exS rfl (execStBt (rd := 7) (ep := rEpoch wakeF 28) (lf := 2) (cv := cv) rfl rfl rfl (heapNew w2 _) O2.out.2) ?_; have hr : ((w2.alloc (.cells (bC 0 0 0 (.slice none 0 0)) 26)).setRow w2.heap.size (bC 7 (rEpoch wakeF 28) 2 cv)).heap[w2.heap.size]? = some (.cells (bC 7 (rEpoch wakeF 28) 2 cv) 26) := setRow_heap _ _ _ _ _ _ (heapNew w2 _); obtain ⟨k0, _, k2, _⟩ := bC_at _ _ _ _ hr; have b3 : Below w1.heap.size w1 ((w2.alloc (.cells (bC 0 0 0 (.slice none 0 0)) 26)).setRow w2.heap.size (bC 7 (rEpoch wakeF 28) 2 cv)) := below4 (O2.out.1.trans ((belNew w2 _).mono O2.out.1.size)) O2.out.1.size _; have k24 := (cell_below b3 O1.out.2.2.1).trans O1.out.2.2.2; have B3 : Hid (_) := b3; clear hr b3)))
  go_ret
  exact ⟨rfl, O1.out.2.1.trans (B3.out.mono O1.out.2.1.size)⟩
/-- Is it more than a law copies? -/
def greatN (n : Nat) (ln : Nat → Nat) : Nat := match n with | 0 => 0 | k + 1 => greatN k ln + (ln k + 1)
theorem greatN_mono (ln : Nat → Nat) {i n : Nat} (h : i ≤ n) : greatN i ln ≤ greatN n ln := by
  induction n with
  | zero => rw [show i = 0 by omega]; exact Nat.le_refl _
  | succ n ih =>
    by_cases e : i = n + 1
    · rw [e]; exact Nat.le_refl _
    · have := ih (by omega)
      show greatN i ln ≤ greatN n ln + (ln n + 1)
      omega
theorem greatN_ge (ln : Nat → Nat) (n : Nat) : n ≤ greatN n ln := by
  induction n with
  | zero => exact Nat.zero_le _
  | succ n ih => show n + 1 ≤ greatN n ln + (ln n + 1); omega
theorem greatN_ln (ln : Nat → Nat) {i n : Nat} (h : i < n) : ln i ≤ greatN n ln := by
  have := greatN_mono ln (show i + 1 ≤ n from h)
  have e : greatN (i + 1) ln = greatN i ln + (ln i + 1) := rfl
  omega
set_option maxRecDepth 20000 in
set_option maxHeartbeats 400000 in
theorem great_any (cv : Value) (n : Nat) (xv : Nat → Value) (ln : Nat → Nat) (c : Nat → Nat → Nat) (V : World) (hc : Cells V cv n xv ln c) (hn : n ≤ 140737488351232) :
    Calls Tryd.prog 10 #[cv] V fun e w' => e = .returned (.bool (decide (2097152 < greatN n ln))) ∧ w' = V := by
  obtain ⟨ca, ccap, rfl, _, _, hs⟩ := id hc.shape
  have HB : Hid (Cells V (.slice ca n ccap) n xv ln c) := hc
  have HS : Hid (0 < n → ∃ b off, ca = some ⟨b, off, none⟩ ∧ b < V.heap.size ∧ ∀ i, i < n → V.cell? ⟨b, off + i, none⟩ = some (xv i)) := hs
  have nn : (n : Int) ≤ 140737488351232 := by omega
  clear hc hs
  go_enter Tryd.func10, Tryd.ntmps10
  go_wp2_with fail
  go_loopw [3, 8] (fun x z W => ∃ (i : Nat), i ≤ n ∧ x = .int .i64 (greatN i ln : Nat) ∧ z = .int .i64 (i : Int) ∧ greatN i ln ≤ 2097152 ∧ W = V) (fun _ z _ => n - (intOf z).toNat)
  case atStart => exact ⟨0, Nat.zero_le _, rfl, rfl, Nat.zero_le _, rfl⟩
  case round =>
    obtain ⟨i, hi, rfl, rfl, hg, rfl⟩ := hrel
    by_cases hlt : i < n
    · have i1 : (i : Int) < n := by omega
      obtain ⟨b, off, rfl, hb, hcell⟩ := HS.out (by omega)
      have c1 := hcell i hlt
      obtain ⟨ua, uc, eu, _⟩ := (HB.out.cell i hlt).shape
      rw [eu] at c1
      have ul := HB.out.lens i hlt
      have u1 : (ln i : Int) ≤ 140737488351232 := by omega
      obtain ⟨G, hG⟩ : ∃ G, greatN i ln = G := ⟨_, rfl⟩
      rw [hG] at hg ⊢
      have g1 : (G : Int) ≤ 2097152 := by omega
      have HK : Hid (i < n ∧ greatN (i + 1) ln = G + (ln i + 1)) := ⟨hlt, by rw [← hG]; rfl⟩
      by_cases h3 : 2097152 < G + (ln i + 1)
      · have i3 : (G : Int) + ((ln i : Int) + 1) > 2097152 := by omega
        have H3 : Hid (2097152 < G + (ln i + 1)) := h3
        clear hlt hi hg hb hcell eu ul h3 hG
        go_wp2
        go_ret
        refine ⟨?_, rfl⟩
        rw [decide_eq_true (by have := greatN_mono ln (show i + 1 ≤ n from HK.out.1); rw [HK.out.2] at this; have := H3.out; omega)]
        rfl
      · have i3 : ¬ (G : Int) + ((ln i : Int) + 1) > 2097152 := by omega
        have H3 : Hid (¬ 2097152 < G + (ln i + 1)) := h3
        clear hlt hi hg hb hcell eu ul h3 hG
        go_wp2
        go_roundw
        case rel => exact ⟨i + 1, HK.out.1, by rw [HK.out.2]; go_num, by go_num, by rw [HK.out.2]; have := H3.out; omega, by first | rfl | trivial⟩
        case measure => have := HK.out.1; simp [intOf]; omega
    · have ei : i = n := by omega
      subst ei
      have i1 : ¬ (i : Int) < i := by omega
      have HK : Hid (greatN i ln ≤ 2097152) := hg
      clear hg hi hlt
      go_wp2
      go_ret
      refine ⟨?_, rfl⟩
      rw [decide_eq_false (by have := HK.out; omega)]
      rfl
end Go.Proofs.YtdkkbgokemimfaaDoor.Frm
