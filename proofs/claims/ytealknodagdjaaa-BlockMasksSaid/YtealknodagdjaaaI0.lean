import Derived.Test.YtealknodagdjaaaJ9
namespace Go.Proofs.Ytealknodagdjaaa.Aes
open Go.RowKit Gf8

/-- The rows turned back, of the first k places. -/
def utF (st : Nat → Nat) (k : Nat) : Nat → Nat := fun p => if (p + 12 * (p % 4)) % 16 < k then unsS st p else 0
theorem utF_set (st : Nat → Nat) {k p : Nat} (hk : k < 16) (hp : (k + 4 * (k % 4)) % 16 = p) : bA 16 (updN (utF st k) p (guns (st k))) = bA 16 (utF st (k + 1)) := bA_congr fun q hq => by
  unfold updN utF
  by_cases h : q = p
  · have e : (q + 12 * (q % 4)) % 16 = k := by omega
    rw [if_pos h, e, if_pos (by omega)]
    unfold unsS
    rw [e]
  · have e : (q + 12 * (q % 4)) % 16 ≠ k := by omega
    rw [if_neg h]
    by_cases h2 : (q + 12 * (q % 4)) % 16 < k
    · rw [if_pos h2, if_pos (by omega)]
    · rw [if_neg h2, if_neg (by omega)]
theorem utF_all (st : Nat → Nat) : bA 16 (utF st 16) = bA 16 (unsS st) := bA_congr fun q _ => by
  unfold utF
  rw [if_pos (Nat.mod_lt _ (by omega))]

/-- The rows of Decrypt. -/
structure DcT (A B C : Nat) (w st : Nat → Nat) (V W : World) : Prop where
  bb : W.heap[A + 1]? = some (.cells (bA 16 st) 23)
  rr : W.heap[A + 2]? = some (.cells (bA 16 fun _ => 0) 23)
  ww : W.heap[B]? = some (.cells (bA 176 w) 38)
  tt : W.heap[C]? = some (.cells (bA 256 guns) 54)
  ab : A + 2 < B
  bc : B < C
  bel : Below A V W
theorem DcT.lt {A B C : Nat} {w st : Nat → Nat} {V W : World} (h : DcT A B C w st V W) : C < W.heap.size := (Array.getElem?_eq_some_iff.1 h.tt).1
theorem DcT.on {A B C : Nat} {w st : Nat → Nat} {V W W' : World} (h : DcT A B C w st V W) (hb : Below W.heap.size W W') : DcT A B C w st V W' := by
  have l := h.lt
  have l1 := h.ab
  have l2 := h.bc
  exact ⟨by rw [hb.block _ (by omega)]; exact h.bb, by rw [hb.block _ (by omega)]; exact h.rr, by rw [hb.block _ (by omega)]; exact h.ww, by rw [hb.block _ (by omega)]; exact h.tt, l1, l2, h.bel.trans (hb.mono (by omega))⟩
theorem DcT.setB {A B C : Nat} {w st : Nat → Nat} {V W : World} (h : DcT A B C w st V W) (g : Nat → Nat) : DcT A B C w g V (W.setRow (A + 1) (bA 16 g)) := by
  have l1 := h.ab
  have l2 := h.bc
  refine ⟨setRow_heap _ _ _ _ _ _ h.bb, ?_, ?_, ?_, l1, l2, below4 h.bel (by omega) _⟩
  · rw [setRow_other _ _ _ _ (by omega)]; exact h.rr
  · rw [setRow_other _ _ _ _ (by omega)]; exact h.ww
  · rw [setRow_other _ _ _ _ (by omega)]; exact h.tt
theorem DcT.cell {A B C T : Nat} {w st : Nat → Nat} {V W : World} (h : DcT A B C w st V W) (hT : C < T) {f : Nat → Nat} {t : TypeId} (g : W.heap[T]? = some (.cells (bA 16 f) t)) (k : Nat) (v : Value) : DcT A B C w st V (W.setCell ⟨T, k, none⟩ v) := by
  have l1 := h.ab
  have l2 := h.bc
  refine ⟨?_, ?_, ?_, ?_, l1, l2, h.bel.setCell (by simp; omega) _⟩
  · rw [heap4o _ g (by omega)]; exact h.bb
  · rw [heap4o _ g (by omega)]; exact h.rr
  · rw [heap4o _ g (by omega)]; exact h.ww
  · rw [heap4o _ g (by omega)]; exact h.tt

set_option maxRecDepth 20000 in
set_option maxHeartbeats 2000000 in
theorem rdecrypt_any (key b : Nat → Nat) (V : World) (hk : ∀ i, i < 16 → key i < 256) (hb : By b) :
    Calls Try.prog 18 #[.agg (bA 16 key), .agg (bA 16 b)] V fun e w' => e = .returned (.agg (bA 16 (dec (kw key) b))) ∧ Below V.heap.size V w' := by
  have HB : Hid (By b) := hb
  have HK : Hid (∀ i, i < 16 → key i < 256) := hk
  have HW' : Hid (∀ i, kw key i < 256) := kw_lt hk
  obtain ⟨w, hw⟩ : ∃ w, kw key = w := ⟨_, rfl⟩
  have HWK : Hid (kw key = w) := hw
  have HW : Hid (∀ i, i < 176 → w i < 256) := by intro i _; rw [← hw]; exact HW'.out i
  have HE : Hid (∀ n, n ≤ 10 → By (decN w b n)) := fun n hn => decN_by HW.out hb n hn
  have RK : Hid (∀ W : World, Calls Try.prog 29 #[.agg (bA 16 key)] W fun e w' => e = .returned (.agg (bA 176 w)) ∧ Below W.heap.size W w') := by
    intro W
    have h := keys_any key W hk
    rw [hw] at h
    exact h
  rw [hw]
  clear hb hk hw
  have z := zero16
  have z2 := zero176
  have z3 := zero256
  have kt := R3.mk3 V (.cells (bA 16 key) 23) (.cells (bA 16 b) 23) (.cells (bA 16 fun _ => 0) 23)
  obtain ⟨A, hA⟩ : ∃ A, A = V.heap.size := ⟨_, rfl⟩
  have VA : Hid (V.heap.size = A) := hA.symm
  rw [VA.out] at kt
  clear hA
  go_enter Try.func18, Try.ntmps18
  go_wp2_with (first
    | (refine atLoad 23 (.tmp 2) rfl ?_; go_must (rw [VA.out]; refine wpList_load_row rfl 23 (.tmp 2) rfl A rfl 23 _ (0, 0) _ kt.x Try.underlying23 rfl (size16 _) ?_; simp only [Act.put, List.setIfInBounds_toArray, List.set_cons_succ, List.set_cons_zero]))
    | (go_at_call 29; refine Calls.mono (RK.out _) ?_; rintro e w1 ⟨rfl, hb1⟩; have k1 := kt.on hb1; have kt := k1.on (belNew w1 (.cells (bA 176 fun _ => 0) 38)); have gT := heapNew w1 (.cells (bA 176 fun _ => 0) 38); have lT := k1.lt; clear k1 hb1)
    | (refine atStore 38 (.tmp 5) (.tmp 11) rfl ?_; go_must (refine wpList_store_row rfl 38 (.tmp 5) (.tmp 11) rfl w1.heap.size _ rfl rfl 38 _ gT (size176 _) rfl (bA_one _ _) ?_; have kt := kt.row lT (bA 176 w); have gT2 : ((w1.alloc (.cells (bA 176 fun _ => 0) 38)).setRow w1.heap.size (bA 176 w)).heap[w1.heap.size]? = some (.cells (bA 176 w) 38) := setRow_heap _ _ _ _ _ _ gT))
    | (go_at_call 36; refine (back_any _).mono ?_; rintro e w2 ⟨rfl, hb2⟩; have lB := (Array.getElem?_eq_some_iff.1 gT2).1; have k2 := kt.on hb2; have gB : w2.heap[w1.heap.size]? = some (.cells (bA 176 w) 38) := (by rw [hb2.block _ lB]; exact gT2); have lB2 := Nat.lt_of_lt_of_le lB hb2.size; have kt := k2.on (belNew w2 (.cells (bA 256 fun _ => 0) 54)); have gB := (heapOld w2 (.cells (bA 256 fun _ => 0) 54) lB2).trans gB; have gC := heapNew w2 (.cells (bA 256 fun _ => 0) 54); clear k2 hb2)
    | (refine atStore 54 (.tmp 6) (.tmp 12) rfl ?_; go_must (refine wpList_store_row rfl 54 (.tmp 6) (.tmp 12) rfl w2.heap.size _ rfl rfl 54 _ gC (size256 _) rfl (bA_one _ _) ?_; have kt := kt.row (Nat.lt_trans lT lB2) (bA 256 guns); have dc : DcT A w1.heap.size w2.heap.size w b V _ := ⟨kt.y, kt.z, (setRow_other _ _ _ _ (Nat.ne_of_lt lB2)).trans gB, setRow_heap _ _ _ _ _ _ gC, lT, lB2, kt.bel⟩))
    | (refine atLoad 23 (.tmp 3) rfl ?_; go_must (refine wpList_load_row rfl 23 (.tmp 3) rfl (A + 1) rfl 23 _ (0, 0) _ dc.bb Try.underlying23 rfl (size16 _) ?_; simp only [Act.put, List.setIfInBounds_toArray, List.set_cons_succ, List.set_cons_zero]))
    | (refine atLoad 38 (.tmp 5) rfl ?_; go_must (refine wpList_load_row rfl 38 (.tmp 5) rfl w1.heap.size rfl 38 _ (0, 0) _ dc.ww Try.underlying38 rfl (size176 _) ?_; simp only [Act.put, List.setIfInBounds_toArray, List.set_cons_succ, List.set_cons_zero]))
    | (go_at_call 37; refine (added_any b w 10 _ HB.out HW.out (by omega)).mono ?_; rintro e w3 ⟨rfl, hb3⟩; have dc := dc.on hb3)
    | (refine atStore 23 (.tmp 3) (.tmp 15) rfl ?_; go_must (refine wpList_store_row rfl 23 (.tmp 3) (.tmp 15) rfl (A + 1) _ rfl rfl 23 _ dc.bb (size16 _) rfl (bA_one _ _) ?_; have dc := dc.setB (addR w b 10))))
  obtain ⟨B, hB⟩ : ∃ B, B = w1.heap.size := ⟨_, rfl⟩
  obtain ⟨C, hC⟩ : ∃ C, C = w2.heap.size := ⟨_, rfl⟩
  rw [← hB, ← hC] at dc ⊢
  have DC0 : Hid (DcT A B C w (decN w b 0) V _) := dc
  clear dc hB hC gT gT2 gB gC lT lB lB2 hb3 z z2 z3
  go_loopw [7] (fun x W => ∃ n : Nat, n ≤ 10 ∧ x = .int .i64 ((10 - n : Nat) : Int) ∧ DcT A B C w (decN w b n) V W) (fun x _ => (intOf x).toNat)
  case atStart => exact ⟨0, by omega, rfl, DC0.out⟩
  case round =>
    obtain ⟨n, hn, rfl, dc⟩ := hrel
    clear DC0
    obtain ⟨i, hi⟩ : ∃ i, 10 - n = i := ⟨_, rfl⟩
    rw [hi]
    by_cases hlt : n < 10
    · have i0 : (i : Int) ≥ 1 := by omega
      obtain ⟨i1, hi1⟩ : ∃ x, i - 1 = x := ⟨_, rfl⟩
      have ei : (i : Int) - 1 = i1 := by omega
      have HN : Hid (10 - n = i ∧ n < 10 ∧ i - 1 = i1) := ⟨hi, hlt, hi1⟩
      have li : (i : Int) ≤ 10 := by omega
      clear hi hlt hn hi1
      obtain ⟨st, hst⟩ : ∃ st, decN w b n = st := ⟨_, rfl⟩
      rw [hst] at dc
      have hS : Hid (By st) := by have := HE.out n (by have := HN.out; omega); rw [hst] at this; exact this
      have HST : Hid (decN w b n = st) := hst
      clear hst
      have KT : Hid (_) := dc
      clear dc
      have z := zero16
      go_wp2_with fail
      clear z
      have dc := KT.out.on (belNew wr (.cells (bA 16 fun _ => 0) 23))
      obtain ⟨T, hT⟩ : ∃ T, T = wr.heap.size := ⟨_, rfl⟩
      have lT : C < T := by rw [hT]; exact KT.out.lt
      have gT : (wr.alloc (.cells (bA 16 fun _ => 0) 23)).heap[T]? = some (.cells (bA 16 (utF st 0)) 23) := by
        rw [hT, heapNew, bA_congr (f := utF st 0) (g := fun _ => 0) (fun q _ => by unfold utF; rw [if_neg (by omega)])]
      rw [← hT]
      have KT2 : Hid (_) := dc
      have GT : Hid (_) := gT
      have LT : Hid (C < T) := lT
      clear dc gT lT hT KT
      go_loopw [9] (fun x W => ∃ k : Nat, k ≤ 16 ∧ x = .int .i64 k ∧ DcT A B C w st V W ∧ W.heap[T]? = some (.cells (bA 16 (utF st k)) 23)) (fun x _ => 16 - (intOf x).toNat)
      case atStart => exact ⟨0, by omega, rfl, KT2.out, GT.out⟩
      case round =>
        obtain ⟨k, hk, rfl, dc, gt⟩ := hrel
        clear KT2 GT
        by_cases hkl : k < 16
        · have k1 : (k : Int) < 16 := by omega
          obtain ⟨p4, h4⟩ : ∃ x, k % 4 = x := ⟨_, rfl⟩
          obtain ⟨p5, h5⟩ : ∃ x, 4 * p4 = x := ⟨_, rfl⟩
          obtain ⟨p6, h6⟩ : ∃ x, k + p5 = x := ⟨_, rfl⟩
          obtain ⟨p, hp⟩ : ∃ x, p6 % 16 = x := ⟨_, rfl⟩
          have e4 : (k : Int).tmod 4 = p4 := by rw [Int.tmod_eq_emod_of_nonneg (by omega)]; omega
          have e5 : 4 * (p4 : Int) = p5 := by omega
          have e6 : (k : Int) + p5 = p6 := by omega
          have e7 : (p6 : Int).tmod 16 = p := by rw [Int.tmod_eq_emod_of_nonneg (by omega)]; omega
          have l4 : (p4 : Int) < 4 := by omega
          have l5 : (p5 : Int) < 16 := by omega
          have l6 : (p6 : Int) < 32 := by omega
          have l7 : (p : Int) < 16 := by omega
          obtain ⟨y, hy⟩ : ∃ y, st k = y := ⟨_, rfl⟩
          have vy : y < 256 := by rw [← hy]; exact hS.out k hkl
          have vy2 : (y : Int) < 256 := by omega
          obtain ⟨x, hx⟩ : ∃ x, guns y = x := ⟨_, rfl⟩
          have c1 : wr.cell? ⟨A + 1, k, none⟩ = some (.int .u8 y) := by rw [cellN dc.bb hkl, hy]
          have c0 : wr.cell? ⟨C, y, none⟩ = some (.int .u8 x) := by rw [cellN dc.tt vy, hx]
          have c2 : wr.cell? ⟨T, p, none⟩ = some (.int .u8 (utF st k p)) := cellN gt (by omega)
          have c3 : wr.frozen? ⟨T, p, none⟩ = false := frozen4 gt
          have K1 : Hid (DcT A B C w st V (wr.setCell ⟨T, p, none⟩ (.int .u8 x))) := dc.cell LT.out gt p _
          have G1 : Hid ((wr.setCell ⟨T, p, none⟩ (.int .u8 x)).heap[T]? = some (.cells (bA 16 (utF st (k + 1))) 23)) := by
            show (wr.setCell ⟨T, p, none⟩ (.int .u8 x)).heap[T]? = _
            rw [heap4 _ gt, bA_set, ← hx, ← hy, utF_set st hkl (show (k + 4 * (k % 4)) % 16 = p by omega)]
          clear h4 h5 h6 hp hy hx dc gt
          go_wp2
          go_roundw
          case rel => exact ⟨k + 1, by omega, by go_num, K1.out, G1.out⟩
          case measure => simp [intOf]; omega
        · have ek : k = 16 := by omega
          subst ek
          rw [show ((16 : Nat) : Int) = 16 from rfl]
          clear hkl hk
          have gt2 : wr.heap[T]? = some (.cells (bA 16 (unsS st)) 23) := by rw [utF_all] at gt; exact gt
          clear gt
          by_cases h9 : n + 1 < 10
          · have i9 : (i : Int) > 1 := by have := HN.out; omega
            have b0 : By (addR w (unsS st) i1) := addR_by HW.out (unsS_by hS.out) (by have := HN.out; omega)
            obtain ⟨m0, hm0⟩ : ∃ x, addR w (unsS st) i1 = x := ⟨_, rfl⟩
            have HF : Hid (bA 16 (mixB fwd (mixB fwd (mixB fwd m0))) = bA 16 (decN w b (n + 1))) := by
              rw [hm0] at b0
              show bA 16 (mixB fwd (mixB fwd (mixB fwd m0))) = bA 16 (decN w b (n + 1))
              have h := HN.out
              rw [decN_mid w b h9, HST.out, show 9 - n = i1 by omega, hm0]
              exact bA_congr (three_backB b0)
            rw [hm0] at b0
            have b1 : By (mixB fwd m0) := mixF_by _
            have b2 : By (mixB fwd (mixB fwd m0)) := mixF_by _
            have R0 : Hid (∀ W : World, Calls Try.prog 37 #[.agg (bA 16 (unsS st)), .agg (bA 176 w), .int .i64 i1] W fun e w' => e = .returned (.agg (bA 16 m0)) ∧ Below W.heap.size W w') := by
              intro W
              have h := added_any (unsS st) w i1 W (unsS_by hS.out) HW.out (by have := HN.out; omega)
              rw [hm0] at h
              exact h
            clear hm0
            go_wp2_with (first
                | (refine atLoad 23 (.tmp 8) rfl ?_; go_must (refine wpList_load_row rfl 23 (.tmp 8) rfl T rfl 23 _ (0, 0) _ gt2 Try.underlying23 rfl (size16 _) ?_; simp only [Act.put, List.setIfInBounds_toArray, List.set_cons_succ, List.set_cons_zero]))
                | (refine atLoad 38 (.tmp 5) rfl ?_; go_must (refine wpList_load_row rfl 38 (.tmp 5) rfl B rfl 38 _ (0, 0) _ dc.ww Try.underlying38 rfl (size176 _) ?_; simp only [Act.put, List.setIfInBounds_toArray, List.set_cons_succ, List.set_cons_zero]))
                | (go_at_call 37; refine Calls.mono (R0.out _) ?_; rintro e w2 ⟨rfl, hb2⟩; have dc := dc.on hb2)
                | (refine atStore 23 (.tmp 3) (.tmp 40) rfl ?_; go_must (refine wpList_store_row rfl 23 (.tmp 3) (.tmp 40) rfl (A + 1) _ rfl rfl 23 _ dc.bb (size16 _) rfl (bA_one _ _) ?_; have dc := dc.setB m0))
                | (refine atLoad 23 (.tmp 3) rfl ?_; go_must (refine wpList_load_row rfl 23 (.tmp 3) rfl (A + 1) rfl 23 _ (0, 0) _ dc.bb Try.underlying23 rfl (size16 _) ?_; simp only [Act.put, List.setIfInBounds_toArray, List.set_cons_succ, List.set_cons_zero]))
                | (go_at_call 38; refine (mixed_any _ _ (by assumption)).mono ?_; rintro e w4 ⟨rfl, hb4⟩; have dc := dc.on hb4)
                | (refine atStore 23 (.tmp 3) (.tmp 44) rfl ?_; go_must (refine wpList_store_row rfl 23 (.tmp 3) (.tmp 44) rfl (A + 1) _ rfl rfl 23 _ dc.bb (size16 _) rfl (bA_one _ _) ?_; have dc := dc.setB (mixB fwd m0)))
                | (refine atStore 23 (.tmp 3) (.tmp 46) rfl ?_; go_must (refine wpList_store_row rfl 23 (.tmp 3) (.tmp 46) rfl (A + 1) _ rfl rfl 23 _ dc.bb (size16 _) rfl (bA_one _ _) ?_; have dc := dc.setB (mixB fwd (mixB fwd m0))))
                | (refine atStore 23 (.tmp 3) (.tmp 48) rfl ?_; go_must (refine wpList_store_row rfl 23 (.tmp 3) (.tmp 48) rfl (A + 1) _ rfl rfl 23 _ dc.bb (size16 _) rfl (bA_one _ _) ?_; have dc := dc.setB (mixB fwd (mixB fwd (mixB fwd m0))))))
            go_roundw
            case rel => exact ⟨n + 1, by omega, by have := HN.out; go_num, ⟨by rw [← HF.out]; exact dc.bb, dc.rr, dc.ww, dc.tt, dc.ab, dc.bc, dc.bel⟩⟩
            case measure => have := HN.out; simp [intOf]; omega
          · have i9 : ¬ (i : Int) > 1 := by have := HN.out; omega
            have HF : Hid (addR w (unsS st) i1 = decN w b (n + 1)) := by
              show addR w (unsS st) i1 = decN w b (n + 1)
              have h := HN.out
              have e : n = 9 := by omega
              subst e
              rw [decN_last, HST.out, show i1 = 0 by omega]
            go_wp2_with (first
                | (refine atLoad 23 (.tmp 8) rfl ?_; go_must (refine wpList_load_row rfl 23 (.tmp 8) rfl T rfl 23 _ (0, 0) _ gt2 Try.underlying23 rfl (size16 _) ?_; simp only [Act.put, List.setIfInBounds_toArray, List.set_cons_succ, List.set_cons_zero]))
                | (refine atLoad 38 (.tmp 5) rfl ?_; go_must (refine wpList_load_row rfl 38 (.tmp 5) rfl B rfl 38 _ (0, 0) _ dc.ww Try.underlying38 rfl (size176 _) ?_; simp only [Act.put, List.setIfInBounds_toArray, List.set_cons_succ, List.set_cons_zero]))
                | (go_at_call 37; refine (added_any (unsS st) w i1 _ (unsS_by hS.out) HW.out (by have := HN.out; omega)).mono ?_; rintro e w2 ⟨rfl, hb2⟩; have dc := dc.on hb2)
                | (refine atStore 23 (.tmp 3) (.tmp 40) rfl ?_; go_must (refine wpList_store_row rfl 23 (.tmp 3) (.tmp 40) rfl (A + 1) _ rfl rfl 23 _ dc.bb (size16 _) rfl (bA_one _ _) ?_; have dc := dc.setB (addR w (unsS st) i1))))
            go_roundw
            case rel => exact ⟨n + 1, by have := HN.out; omega, by have := HN.out; go_num, by rw [← HF.out]; exact dc⟩
            case measure => have := HN.out; simp [intOf]; omega
    · have en : n = 10 := by omega
      subst en
      have i0 : ¬ (i : Int) ≥ 1 := by omega
      go_wp2_with (first
        | (refine atLoad 23 (.tmp 3) rfl ?_; go_must (refine wpList_load_row rfl 23 (.tmp 3) rfl (A + 1) rfl 23 _ (0, 0) _ dc.bb Try.underlying23 rfl (size16 _) ?_; simp only [Act.put, List.setIfInBounds_toArray, List.set_cons_succ, List.set_cons_zero]))
        | (refine atStore 23 (.tmp 4) (.tmp 49) rfl ?_; go_must (refine wpList_store_row rfl 23 (.tmp 4) (.tmp 49) rfl (A + 2) _ rfl rfl 23 _ dc.rr (size16 _) rfl (bA_one _ _) ?_)))
      refine bodyPost_ret (v := .agg (bA 16 (dec w b))) (results_cell_row Try.results18 _ _ (A + 2) 23 _ (0, 0) _ rfl (setRow_heap _ _ _ _ _ _ dc.rr) Try.underlying23 rfl (size16 _)) rfl ⟨rfl, ?_⟩
      rw [VA.out]
      exact below4 dc.bel (by omega) _
end Go.Proofs.Ytealknodagdjaaa.Aes
