import Derived.Test.YtaoncjgllcndmaaDoorD2m
namespace Go.Proofs.YtaoncjgllcndmaaDoor.Frm
open Go.RowKit Gf8 Aes By8 Cel
/- Pack. -/

theorem good_of {rd ep lf : Int} {n : Nat} (h : hdOk rd ep lf = true) (hn : n ≤ 256) : ∃ r e l : Nat, rd = r ∧ ep = e ∧ lf = l ∧ Good r e l n := by
  unfold hdOk at h
  simp at h
  exact ⟨rd.toNat, ep.toNat, lf.toNat, by omega, by omega, by omega, ⟨by omega, by omega, by omega, hn⟩⟩
set_option maxRecDepth 20000 in
set_option maxHeartbeats 1000000 in
theorem ppack_any (rd ep lf : Int) (n : Nat) (cv : Value) (xv : Nat → Value) (ln : Nat → Nat) (c : Nat → Nat → Nat) (V : World) (g : Rules V) (hc : Cells V cv n xv ln c) (hn : n ≤ 140737488351232) :
    Calls Tryd.prog 13 #[.agg (bC rd ep lf cv)] V fun e w' => ∃ r, e = .returned (.tuple #[r, .int .i64 (packE rd ep lf n ln : Nat)]) ∧ w'.ownsRow V.heap.size 5 1 r (packN rd ep lf n ln) (bytesL (packN rd ep lf n ln) (packI rd ep lf n c)) ∧ Below V.heap.size V w' := by
  obtain ⟨ca, ccap, rfl, _, _, hs⟩ := id hc.shape
  obtain ⟨A, hA⟩ : ∃ A, V.heap.size = A := ⟨_, rfl⟩
  have h1 := heapNew V (.cells (bC rd ep lf (.slice ca n ccap)) 26)
  have b1 := belNew V (.cells (bC rd ep lf (.slice ca n ccap)) 26)
  obtain ⟨V1, hV1⟩ : ∃ V1, V.alloc (.cells (bC rd ep lf (.slice ca n ccap)) 26) = V1 := ⟨_, rfl⟩
  rw [hV1, hA] at h1 b1
  have HB : Hid (Rules V ∧ Cells V (.slice ca n ccap) n xv ln c ∧ V.heap.size = A ∧ n ≤ 140737488351232) := ⟨g, hc, hA, hn⟩
  have s1 : V1.heap.size = A + 1 := by rw [← hV1, ← hA]; simp
  have H1 : Hid (V1.heap[A]? = some (.cells (bC rd ep lf (.slice ca n ccap)) 26) ∧ Below A V V1 ∧ V1.heap.size = A + 1) := ⟨h1, b1, s1⟩
  have HS : Hid (0 < n → ∃ b off, ca = some ⟨b, off, none⟩ ∧ b < V.heap.size ∧ ∀ i, i < n → V.cell? ⟨b, off + i, none⟩ = some (xv i)) := hs
  have nn : (n : Int) ≤ 140737488351232 := by omega
  clear g hc hs h1 b1 s1 hn
  by_cases hh : hdOk rd ep lf = true
  · by_cases h256 : n ≤ 256
    · have i2 : ¬ (n : Int) > 256 := by omega
      have HH : Hid (hdOk rd ep lf = true ∧ n ≤ 256) := ⟨hh, h256⟩
      go_enter Tryd.func13, Tryd.ntmps13
      go_wp2_with (first
        | (refine atLoad 23 (.tmp 6) rfl ?_; go_must (refine wpList_ex rfl (execLoadMid (cs := [.int .i64 rd, .int .i64 ep, .int .i64 lf]) rfl rfl (range_bh H1.out.1) Tryd.underlying23 rfl (by kernel_rfl)) ?_))
        | (go_at_call 29; refine (sound_any rd ep lf _).mono ?_; rintro e w1 ⟨rfl, b1⟩; rw [HH.out.1]; have hb : w1.heap[A]? = some (.cells (bC rd ep lf (.slice ca n ccap)) 26) := (by rw [b1.block _ (by have := H1.out.2.2; omega)]; exact H1.out.1); obtain ⟨_, _, _, k3⟩ := bC_at _ _ _ _ hb; have W1 : Hid (w1.heap[A]? = some (.cells (bC rd ep lf (.slice ca n ccap)) 26) ∧ Below A V w1 ∧ A < w1.heap.size) := ⟨hb, H1.out.2.1.trans (b1.mono (by have := H1.out.2.2; omega)), (Array.getElem?_eq_some_iff.1 hb).1⟩; clear hb b1))
      clear hh h256
      go_loopw [17] (fun z W => ∃ (i : Nat), i ≤ n ∧ z = .int .i64 (i : Int) ∧ (∀ j, j < i → ln j = 320) ∧ W = w1) (fun z _ => n - (intOf z).toNat)
      case atStart => exact ⟨0, Nat.zero_le _, rfl, fun j h => by omega, rfl⟩
      case round =>
        obtain ⟨i, hi, rfl, hal, rfl⟩ := hrel
        by_cases hlt : i < n
        · have i1 : (i : Int) < n := by omega
          obtain ⟨b, off, rfl, hb, hcell⟩ := HS.out (by omega)
          have c1 : wr.cell? ⟨b, off + i, none⟩ = some (xv i) := by rw [cell_below W1.out.2.1 (by have := HB.out.2.2.1; omega)]; exact hcell i hlt
          have sl := HB.out.2.1.cell i hlt
          obtain ⟨ua, uc, eu, _⟩ := sl.shape
          rw [eu] at c1
          have ul := HB.out.2.1.lens i hlt
          have u1 : (ln i : Int) ≤ 140737488351232 := by omega
          have HK : Hid (i < n ∧ ∀ j, j < i → ln j = 320) := ⟨hlt, hal⟩
          by_cases h3 : ln i = 320
          · have i3 : ((ln i : Int) != 320) = false := by simp; omega
            have H3 : Hid (ln i = 320) := h3
            clear hlt hi hal hb hcell sl eu ul h3
            go_wp2
            go_roundw
            case rel => exact ⟨i + 1, HK.out.1, by go_num, fun j hj => by
              by_cases e : j = i
              · rw [e]; exact H3.out
              · exact HK.out.2 j (by omega), by first | rfl | trivial⟩
            case measure => have := HK.out.1; simp [intOf]; omega
          · have i3 : ((ln i : Int) != 320) = true := by simp; omega
            have H3 : Hid (ln i ≠ 320) := h3
            clear hlt hi hal hb hcell sl eu ul h3
            go_wp2
            go_ret2
            have eE : packE rd ep lf n ln = 64 := by
              unfold packE
              rw [if_pos HH.out.1, if_pos HH.out.2, if_neg]
              intro q
              exact H3.out ((allC_iff n ln).1 q i HK.out.1)
            have eN : packN rd ep lf n ln = 0 := by unfold packN; rw [eE]; rfl
            rw [eE, eN, HB.out.2.2.1]
            exact ⟨_, rfl, World.ownsRow_nil _ _ _ _, W1.out.2.1⟩
        · have ei : i = n := by omega
          subst ei
          have i1 : ¬ (i : Int) < i := by omega
          obtain ⟨r, e, l, rfl, rfl, rfl, gd⟩ := good_of HH.out.1 HH.out.2
          have HG : Hid (Good r e l i ∧ ∀ j, j < i → ln j = 320) := ⟨gd, hal⟩
          clear hi hlt hal gd
          go_wp2_with (first
            | (refine atLoad 26 (.tmp 1) rfl ?_; go_must (refine wpList_load_row rfl 26 (.tmp 1) rfl A rfl 26 _ (0, 0) _ W1.out.1 Tryd.underlying26 rfl (sizeB _ _ _ _) ?_; simp only [Act.put, List.setIfInBounds_toArray, List.set_cons_succ, List.set_cons_zero]))
            | (go_at_call 30; refine (packed_any r e l i _ xv ln c wr (HB.out.1.on W1.out.2.1 (by have := HB.out.1.sz; have := HB.out.2.2.1; omega)) HG.out.1 (HB.out.2.1.on (by rw [HB.out.2.2.1]; exact W1.out.2.1)) HG.out.2).mono ?_; rintro e' w2 ⟨u, rfl, own, b2⟩))
          go_ret2
          have eE : packE r e l i ln = 0 := by
            unfold packE
            rw [if_pos HH.out.1, if_pos HH.out.2, if_pos ((allC_iff i ln).2 HG.out.2)]
          have eN : packN r e l i ln = cellAt i + 4 := by unfold packN; rw [eE]; rfl
          rw [eE, eN, HB.out.2.2.1]
          have lA := W1.out.2.2
          exact ⟨_, rfl, own_base own (by omega), W1.out.2.1.trans (b2.mono (by omega))⟩
    · have i2 : (n : Int) > 256 := by omega
      have eE : packE rd ep lf n ln = 63 := by unfold packE; rw [if_pos hh, if_neg h256]
      have eN : packN rd ep lf n ln = 0 := by unfold packN; rw [eE]; rfl
      rw [eE, eN]
      clear eE eN h256 HS
      have HH : Hid (hdOk rd ep lf = true) := hh
      clear hh
      go_enter Tryd.func13, Tryd.ntmps13
      go_wp2_with (first
        | (refine atLoad 23 (.tmp 6) rfl ?_; go_must (refine wpList_ex rfl (execLoadMid (cs := [.int .i64 rd, .int .i64 ep, .int .i64 lf]) rfl rfl (range_bh H1.out.1) Tryd.underlying23 rfl (by kernel_rfl)) ?_))
        | (go_at_call 29; refine (sound_any rd ep lf _).mono ?_; rintro e w1 ⟨rfl, b1⟩; rw [HH.out]; have hb : w1.heap[A]? = some (.cells (bC rd ep lf (.slice ca n ccap)) 26) := (by rw [b1.block _ (by have := H1.out.2.2; omega)]; exact H1.out.1); obtain ⟨_, _, _, k3⟩ := bC_at _ _ _ _ hb; have W1 : Hid (Below A V w1) := H1.out.2.1.trans (b1.mono (by have := H1.out.2.2; omega)); clear hb b1))
      go_ret2
      rw [HB.out.2.2.1]
      exact ⟨_, rfl, World.ownsRow_nil _ _ _ _, W1.out⟩
  · have hf : hdOk rd ep lf = false := by simpa using hh
    have eE : packE rd ep lf n ln = 62 := by unfold packE; rw [if_neg hh]
    have eN : packN rd ep lf n ln = 0 := by unfold packN; rw [eE]; rfl
    rw [eE, eN]
    have HH : Hid (hdOk rd ep lf = false) := hf
    clear eE eN HS hh hf
    go_enter Tryd.func13, Tryd.ntmps13
    go_wp2_with (first
      | (refine atLoad 23 (.tmp 6) rfl ?_; go_must (refine wpList_ex rfl (execLoadMid (cs := [.int .i64 rd, .int .i64 ep, .int .i64 lf]) rfl rfl (range_bh H1.out.1) Tryd.underlying23 rfl (by kernel_rfl)) ?_))
      | (go_at_call 29; refine (sound_any rd ep lf _).mono ?_; rintro e w1 ⟨rfl, b1⟩; rw [HH.out]; have W1 : Hid (Below A V w1) := H1.out.2.1.trans (b1.mono (by have := H1.out.2.2; omega)); clear b1))
    go_ret2
    rw [HB.out.2.2.1]
    exact ⟨_, rfl, World.ownsRow_nil _ _ _ _, W1.out⟩
end Go.Proofs.YtaoncjgllcndmaaDoor.Frm

namespace Go.Proofs.YtaoncjgllcndmaaDoor.Frm
open Go.RowKit Gf8 Aes By8 Cel
/- awake, great. -/

theorem cells0 (V : World) : Cells V (.slice none 0 0) 0 (fun _ => undef) (fun _ => 0) (fun _ _ => 0) :=
  ⟨⟨none, 0, rfl, Nat.le_refl _, by omega, fun h => by omega⟩, fun i h => by omega, fun i h => by omega, fun i h => by omega⟩
def wakeF : Nat → Nat := packF 7 1 2 0 fun _ _ => 0
theorem wake24 : wakeF 24 = 26 := by decide +kernel
theorem wake_good : Good 7 1 2 0 := ⟨by omega, by omega, by omega, by omega⟩
theorem own_old {W : World} {B n t : Nat} {v : Value} {xs : List Value} (h : W.ownsRow B t 1 v n xs) : ∀ ad l c, v = .slice (some ad) l c → ad.block < W.heap.size := by
  intro ad l c e
  rcases h.2 with ⟨rfl, _⟩ | ⟨g, cap, cur, rfl, _, hg, _⟩
  · cases e
  · injection e with e1
    injection e1 with e1
    rw [← e1]
    exact (Array.getElem?_eq_some_iff.1 hg).1
theorem execHd3 {o : Oper} {a : Act} {w : World} {x y z : Int} (ho : o.op = .build 23 #[(0, .const (.int .i64 x)), (1, .const (.int .i64 y)), (2, .const (.int .i64 z))]) : (execOp a.eval o).run Tryd.prog w = .ok (.value (.agg (hC x y z))) w := execHdr ho rfl rfl rfl
theorem execBt1 {o : Oper} {a : Act} {w : World} {x : Operand} {rd ep lf : Int} (ho : o.op = .build 26 #[(0, x)]) (hx : a.eval x = .agg (hC rd ep lf)) : (execOp a.eval o).run Tryd.prog w = .ok (.value (.agg (bC rd ep lf (.slice none 0 0)))) w := by
  unfold execOp
  simp only [ho, List.map_toArray, List.map_cons, List.map_nil, hx]
  simp [go_sem, bC, hC]
set_option maxRecDepth 20000 in
set_option maxHeartbeats 1000000 in
theorem awake_any (V : World) (g : Rules V) : Calls Tryd.prog 9 #[] V fun e w' => e = .returned (.bool true) ∧ Below V.heap.size V w' := by
  have HG : Hid (Rules V) := g
  have pa := ppack_any 7 1 2 0 _ _ _ _ V g (cells0 V) (by omega)
  have e0 : packE 7 1 2 0 (fun _ => 0) = 0 := by decide
  have eN : packN 7 1 2 0 (fun _ => 0) = 28 := by decide
  have eF : packI 7 1 2 0 (fun _ _ => 0) = wakeF := rfl
  rw [e0, eN, eF] at pa
  obtain ⟨p1, p2, p3, p4, p5, p6, p7⟩ := pack_ok (fun _ _ => 0) wake_good
  have hb : ∀ j, j < 28 → wakeF j < 256 := by decide +kernel
  have j0 : jE wakeF 28 = (0, 0) := p4
  have ok : okR wakeF 28 = true := by unfold okR; rw [j0]; rfl
  have r1 : rRound wakeF 28 = 7 := by unfold rRound jRound; rw [if_pos ok, if_pos (show headOk wakeF 28 = true from p1)]; exact p5
  have r3 : rLeft wakeF 28 = 2 := by unfold rLeft jLeft; rw [if_pos ok, if_pos (show headOk wakeF 28 = true from p1), show wakeF 5 = 2 from p7]; rfl
  have PA : Hid (_) := pa
  have RR : Hid (jE wakeF 28 = (0, 0) ∧ rRound wakeF 28 = 7 ∧ rLeft wakeF 28 = 2 ∧ ∀ j, j < 28 → wakeF j < 256) := ⟨j0, r1, r3, hb⟩
  have W24 : Hid (wakeF 24 = 26) := wake24
  have z := zeroB
  clear g pa e0 eN eF p1 p2 p3 p4 p5 p6 p7 hb j0 ok r1 r3
  go_enter Tryd.func9, Tryd.ntmps9
  go_wp2_with (first
    | (refine wpList_ex rfl (execHd3 rfl) ?_)
    | (refine wpList_ex rfl (execBt1 (rd := 7) (ep := 1) (lf := 2) rfl rfl) ?_)
    | (go_at_call 13; refine Calls.mono PA.out ?_; rintro e w1 ⟨r, rfl, own, b1⟩; obtain ⟨⟨ao, cap, rfl, _, _, h3⟩, _⟩ := own_slice own RR.out.2.2.2; obtain ⟨b, off, rfl, hbl, hc⟩ := h3 (by omega); have c24 := hc 24 (by omega); rw [W24.out] at c24; have O1 : Hid (w1.ownsRow V.heap.size 5 1 (.slice (some ⟨b, off, none⟩) 28 cap) 28 (bytesL 28 wakeF) ∧ Below V.heap.size V w1 ∧ b < w1.heap.size ∧ w1.cell? ⟨b, off + 24, none⟩ = some (.int .u8 26)) := ⟨own, b1, hbl, c24⟩; clear own b1 h3 hbl hc c24)
    | (go_at_call 17; refine (pread_any wakeF 28 _ w1 (HG.out.on O1.out.2.1 HG.out.sz) (own_slice O1.out.1 RR.out.2.2.2) (by omega)).mono ?_; rw [RR.out.1, RR.out.2.1, RR.out.2.2.1]; rintro e w2 ⟨cv, x, rfl, cl, b2⟩; have O2 : Hid (Below w1.heap.size w1 w2 ∧ cv.oneCell' = true) := ⟨b2, cl.one⟩; clear cl b2)
    | (refine atStore 26 (.tmp 3) (.tmp 15) rfl ?_; go_must (refine wpList_exS rfl (execStBt (rd := 7) (ep := rEpoch wakeF 28) (lf := 2) (cv := cv) rfl rfl rfl (heapNew w2 _) O2.out.2) ?_; have hr : ((w2.alloc (.cells (bC 0 0 0 (.slice none 0 0)) 26)).setRow w2.heap.size (bC 7 (rEpoch wakeF 28) 2 cv)).heap[w2.heap.size]? = some (.cells (bC 7 (rEpoch wakeF 28) 2 cv) 26) := setRow_heap _ _ _ _ _ _ (heapNew w2 _); obtain ⟨k0, _, k2, _⟩ := bC_at _ _ _ _ hr; have b3 : Below w1.heap.size w1 ((w2.alloc (.cells (bC 0 0 0 (.slice none 0 0)) 26)).setRow w2.heap.size (bC 7 (rEpoch wakeF 28) 2 cv)) := below4 (O2.out.1.trans ((belNew w2 _).mono O2.out.1.size)) O2.out.1.size _; have k24 := (cell_below b3 O1.out.2.2.1).trans O1.out.2.2.2; have B3 : Hid (_) := b3; clear hr b3)))
  go_ret
  exact ⟨rfl, O1.out.2.1.trans (B3.out.mono O1.out.2.1.size)⟩
end Go.Proofs.YtaoncjgllcndmaaDoor.Frm

namespace Go.Proofs.YtaoncjgllcndmaaDoor.Frm
open Go.RowKit Gf8 Aes By8 Cel
/- General things for the laws. -/

theorem eqlH (a b c a' b' c' : Int) : ∀ w, (binOp .eql 23 (.agg (hC a b c)) (.agg (hC a' b' c'))).run Tryd.prog w = .ok (.bool (a == a' && b == b' && c == c')) w := by
  intro w
  simp [go_sem, hC]
  by_cases h1 : a = a' <;> by_cases h2 : b = b' <;> by_cases h3 : c = c' <;> simp [h1, h2, h3]
/-- What lies behind an own list of bytes. -/
theorem own_byte {W : World} {B n : Nat} {v : Value} {p : Nat → Nat} (h : W.ownsRow B 5 1 v n (bytesL n p)) (hn : 0 < n) : ∃ g cap, v = .slice (some ⟨g, 0, none⟩) n cap ∧ B ≤ g ∧ g < W.heap.size ∧ (∃ cur, W.heap[g]? = some (.cells cur 5)) ∧ ∀ j, j < n → W.cell? ⟨g, j, none⟩ = some (.int .u8 (p j)) := by
  rcases h.2 with ⟨_, e⟩ | ⟨g, cap, cur, rfl, hB, hg, h1, h2, h3, ht⟩
  · omega
  · refine ⟨g, cap, rfl, hB, (Array.getElem?_eq_some_iff.1 hg).1, ⟨cur, hg⟩, fun j hj => ?_⟩
    rw [cell_of_row _ _ _ _ _ _ hg]
    have : (List.take (n * 1) cur.toList)[j]? = some (.int .u8 (p j)) := by rw [ht]; exact bytesL_at n p hj
    rw [List.getElem?_take, if_pos (by omega), Array.getElem?_toList] at this
    exact this
theorem packE_le (rd ep lf : Int) (n : Nat) (ln : Nat → Nat) : packE rd ep lf n ln ≤ 64 := by
  unfold packE
  split
  · split
    · split <;> omega
    · omega
  · omega
/-- What is packed without an error. -/
theorem packE_ok {rd ep lf : Int} {n : Nat} {ln : Nat → Nat} (h : packE rd ep lf n ln = 0) : ∃ r e l : Nat, rd = r ∧ ep = e ∧ lf = l ∧ Good r e l n ∧ (∀ i, i < n → ln i = 320) ∧ packN rd ep lf n ln = cellAt n + 4 := by
  have h' := h
  unfold packE at h
  by_cases h1 : hdOk rd ep lf = true
  · rw [if_pos h1] at h
    by_cases h2 : n ≤ 256
    · rw [if_pos h2] at h
      by_cases h3 : allC n ln = true
      · obtain ⟨r, e, l, a, b, c, d⟩ := good_of h1 h2
        exact ⟨r, e, l, a, b, c, d, (allC_iff n ln).1 h3, by unfold packN; rw [if_pos h']⟩
      · rw [if_neg h3] at h; cases h
    · rw [if_neg h2] at h; cases h
  · rw [if_neg h1] at h; cases h
theorem xor_ne {a b : Nat} (h : b ≠ 0) : a ^^^ b ≠ a := by
  intro e
  apply h
  have : a ^^^ (a ^^^ b) = a ^^^ a := by rw [e]
  rw [← Nat.xor_assoc, Nat.xor_self, Nat.zero_xor] at this
  exact this
/-- Read of what is no batch. -/
theorem bad_read {p : Nat → Nat} {len : Nat} (h : (jE p len).2 ≠ 0) : okR p len = false ∧ rRound p len = 0 ∧ rEpoch p len = 0 ∧ rLeft p len = 0 ∧ rK p len = 0 := by
  have o1 : okR p len = false := by unfold okR; simpa using h
  refine ⟨o1, ?_, ?_, ?_, ?_⟩
  · unfold rRound; rw [o1]; rfl
  · unfold rEpoch; rw [o1]; rfl
  · unfold rLeft; rw [o1]; rfl
  · unfold rK; rw [o1]; rfl
theorem range_b3 {W : World} {A : Nat} {rd ep lf : Int} {cv : Value} {t : TypeId} (h : W.heap[A]? = some (.cells (bC rd ep lf cv) t)) : W.rangeAt A 0 (hC rd ep lf).toList := range_bh h
theorem range_h3 {W : World} {A : Nat} {rd ep lf : Int} {t : TypeId} (h : W.heap[A]? = some (.cells (hC rd ep lf) t)) : W.rangeAt A 0 (hC rd ep lf).toList := by
  intro j u hu
  rw [cell_of_row _ _ _ _ _ _ h, Nat.zero_add, ← Array.getElem?_toList]
  exact hu
theorem range_b4 {W : World} {A : Nat} {rd ep lf : Int} {cv : Value} {t : TypeId} (h : W.heap[A]? = some (.cells (bC rd ep lf cv) t)) : W.rangeAt A 0 (bC rd ep lf cv).toList := by
  intro j u hu
  rw [cell_of_row _ _ _ _ _ _ h, Nat.zero_add, ← Array.getElem?_toList]
  exact hu
theorem execLdBt {o : Oper} {a : Act} {w : World} {x : Operand} {A : Nat} {rd ep lf : Int} {cv : Value} {t : TypeId} (ho : o.op = .load 26 x) (hx : a.eval x = .pointer (some ⟨A, 0, none⟩)) (h : w.heap[A]? = some (.cells (bC rd ep lf cv) t)) : (execOp a.eval o).run Tryd.prog w = .ok (.value (.agg (bC rd ep lf cv))) w :=
  execLoadMid ho hx (range_b4 h) Tryd.underlying26 rfl (by kernel_rfl)
end Go.Proofs.YtaoncjgllcndmaaDoor.Frm
