import Derived.Test.YtaoncjgllcndmaaDoorD4b
namespace Go.Proofs.YtaoncjgllcndmaaDoor.Frm
open Go.RowKit Gf8 Aes By8 Cel
/- FrameFeeds. -/

set_option maxRecDepth 20000 in
set_option maxHeartbeats 4000000 in
theorem feeds_any (cv : Value) (m : Nat) (xv : Nat → Value) (ln : Nat → Nat) (c : Nat → Nat → Nat) (V : World) (g : Rules V) (hc : Cells V cv m xv ln c) (hm : m ≤ 140737488351232) :
    Calls Tryd.prog 5 #[cv] V fun e w' => e = .returned (.bool true) ∧ Below V.heap.size V w' := by
  obtain ⟨ca, ccap, rfl, hs1, hs2, hs⟩ := id hc.shape
  have HV : Hid (Rules V ∧ Cells V (.slice ca m ccap) m xv ln c ∧ m ≤ 140737488351232) := ⟨g, hc, hm⟩
  have HS : Hid (0 < m → ∃ b off, ca = some ⟨b, off, none⟩ ∧ b < V.heap.size ∧ ∀ i, i < m → V.cell? ⟨b, off + i, none⟩ = some (xv i)) := hs
  have lm : (m : Int) ≤ 140737488351232 := by omega
  clear g hc hs hs1 hs2 hm
  by_cases big : 2097152 < greatN m ln
  · have GD : Hid (decide (2097152 < greatN m ln) = true) := decide_eq_true big
    clear big
    go_enter Tryd.func5, Tryd.ntmps5
    go_wp2_with (first
      | (go_at_call 19; have n1 := N1; refine (new_any w1).mono ?_; rintro e w2 ⟨F2, rfl, hF, fa, b2⟩; have N2 : Hid (w1.heap.size ≤ F2 ∧ FAt F2 newS w2 ∧ FAt F1 newS w2 ∧ Below V.heap.size V w2) := ⟨hF, fa, n1.out.2.1.on b2, n1.out.2.2.trans (b2.mono n1.out.2.2.size)⟩; clear hF fa b2 n1)
      | (go_at_call 19; refine (new_any V).mono ?_; rintro e w1 ⟨F1, rfl, hF, fa, b1⟩; have N1 : Hid (V.heap.size ≤ F1 ∧ FAt F1 newS w1 ∧ Below V.heap.size V w1) := ⟨hF, fa, b1⟩; clear hF fa b1)
      | (go_at_call 9; refine (awake_any w2 (HV.out.1.on N2.out.2.2.2 HV.out.1.sz)).mono ?_; rintro e w3 ⟨rfl, b3⟩; have N3 : Hid (FAt F2 newS w3 ∧ FAt F1 newS w3 ∧ Below V.heap.size V w3) := ⟨N2.out.2.1.on b3, N2.out.2.2.1.on b3, N2.out.2.2.2.trans (b3.mono N2.out.2.2.2.size)⟩; clear b3)
      | (go_at_call 10; refine (great_any _ m xv ln c w3 (HV.out.2.1.on N3.out.2.2) HV.out.2.2).mono ?_; rw [GD.out]; rintro e w4 ⟨rfl, hw4⟩; rw [hw4]; clear hw4))
    go_ret
    exact ⟨rfl, N3.out.2.2⟩
  · have GD : Hid (decide (2097152 < greatN m ln) = false) := decide_eq_false big
    by_cases b2 : m > 4096
    · have i2 : (m : Int) > 4096 := by omega
      clear big b2
      go_enter Tryd.func5, Tryd.ntmps5
      go_wp2_with (first
        | (go_at_call 19; have n1 := N1; refine (new_any w1).mono ?_; rintro e w2 ⟨F2, rfl, hF, fa, b2⟩; have N2 : Hid (w1.heap.size ≤ F2 ∧ FAt F2 newS w2 ∧ FAt F1 newS w2 ∧ Below V.heap.size V w2) := ⟨hF, fa, n1.out.2.1.on b2, n1.out.2.2.trans (b2.mono n1.out.2.2.size)⟩; clear hF fa b2 n1)
        | (go_at_call 19; refine (new_any V).mono ?_; rintro e w1 ⟨F1, rfl, hF, fa, b1⟩; have N1 : Hid (V.heap.size ≤ F1 ∧ FAt F1 newS w1 ∧ Below V.heap.size V w1) := ⟨hF, fa, b1⟩; clear hF fa b1)
        | (go_at_call 9; refine (awake_any w2 (HV.out.1.on N2.out.2.2.2 HV.out.1.sz)).mono ?_; rintro e w3 ⟨rfl, b3⟩; have N3 : Hid (FAt F2 newS w3 ∧ FAt F1 newS w3 ∧ Below V.heap.size V w3) := ⟨N2.out.2.1.on b3, N2.out.2.2.1.on b3, N2.out.2.2.2.trans (b3.mono N2.out.2.2.2.size)⟩; clear b3)
        | (go_at_call 10; refine (great_any _ m xv ln c w3 (HV.out.2.1.on N3.out.2.2) HV.out.2.2).mono ?_; rw [GD.out]; rintro e w4 ⟨rfl, hw4⟩; rw [hw4]; clear hw4))
      go_ret
      exact ⟨rfl, N3.out.2.2⟩
    · have i2 : ¬ (m : Int) > 4096 := by omega
      obtain ⟨q, hq⟩ : ∃ q, catF ln c m = q := ⟨_, rfl⟩
      have QB : Hid ((∀ j, j < offL ln m → q j < 256) ∧ (∀ i j, i < m → j < ln i → c i j = q (offL ln i + j)) ∧ offL ln m ≤ 2097152) := ⟨fun j hj => by rw [← hq]; exact cat_lt ln c m (fun i j hi hj => (HV.out.2.1.cell i hi).bytes j hj) j hj, fun i j hi hj => by rw [← hq]; exact (cat_at ln c hi hj).symm, by have := offL_great ln m; omega⟩
      clear big b2 hq
      go_enter Tryd.func5, Tryd.ntmps5
      go_wp2_with (first
        | (go_at_call 19; have n1 := N1; refine (new_any w1).mono ?_; rintro e w2 ⟨F2, rfl, hF, fa, b2⟩; have N2 : Hid (w1.heap.size ≤ F2 ∧ FAt F2 newS w2 ∧ FAt F1 newS w2 ∧ Below V.heap.size V w2) := ⟨hF, fa, n1.out.2.1.on b2, n1.out.2.2.trans (b2.mono n1.out.2.2.size)⟩; clear hF fa b2 n1)
        | (go_at_call 19; refine (new_any V).mono ?_; rintro e w1 ⟨F1, rfl, hF, fa, b1⟩; have N1 : Hid (V.heap.size ≤ F1 ∧ FAt F1 newS w1 ∧ Below V.heap.size V w1) := ⟨hF, fa, b1⟩; clear hF fa b1)
        | (go_at_call 9; refine (awake_any w2 (HV.out.1.on N2.out.2.2.2 HV.out.1.sz)).mono ?_; rintro e w3 ⟨rfl, b3⟩; have N3 : Hid (FAt F2 newS w3 ∧ FAt F1 newS w3 ∧ Below V.heap.size V w3) := ⟨N2.out.2.1.on b3, N2.out.2.2.1.on b3, N2.out.2.2.2.trans (b3.mono N2.out.2.2.2.size)⟩; clear b3)
        | (go_at_call 10; refine (great_any _ m xv ln c w3 (HV.out.2.1.on N3.out.2.2) HV.out.2.2).mono ?_; rw [GD.out]; rintro e w4 ⟨rfl, hw4⟩; rw [hw4]; clear hw4))
      have S0 : Hid (FdS F1 F2 newS newS 0 q (.slice none 0 0) V w3) := ⟨N3.out.2.1, N3.out.1, World.ownsRow_nil _ _ _ _, N3.out.2.2, N1.out.1, (by have := N2.out.1; have := N1.out.2.2.size; omega), (by have := N2.out.1; have := N1.out.2.1.lt; omega)⟩
      clear N1 N2 N3
      go_loopw [5, 6, 7, 37] (fun rv kv wv z W => ∃ (i wk k k2 : Nat) (s1 s2 : FSt), i ≤ m ∧ z = .int .i64 (i : Int) ∧ kv = .int .i64 (k : Int) ∧ wv = .int .i64 (wk : Int) ∧ wk ≤ 16777216 ∧ Took q (offL ln i) k s1 ∧ Took (fun t => t % 256) i k2 s2 ∧ FdS F1 F2 s1 s2 (offL ln i) q rv V W) (fun _ _ _ z _ => m - (intOf z).toNat)
      case atStart => exact ⟨0, 0, 0, 0, newS, newS, Nat.zero_le _, rfl, rfl, rfl, Nat.zero_le _, Took.begin q, Took.begin _, S0.out⟩
      case round =>
        obtain ⟨i, wk, k, k2, s1, s2, hi, rfl, rfl, rfl, hwk, t1, t2, st⟩ := hrel
        obtain ⟨w0, rfl⟩ : ∃ w0, w0 = wr := ⟨wr, rfl⟩
        by_cases hlt : i < m
        · have i1 : (i : Int) < m := by omega
          obtain ⟨b, off, rfl, hb, hcell⟩ := HS.out (by omega)
          have c1 : w0.cell? ⟨b, off + i, none⟩ = some (xv i) := by rw [cell_below st.bel hb]; exact hcell i hlt
          have on1 := offL_mono ln (i := i) (n := m) hi
          have on2 := offL_mono ln (i := i + 1) (n := m) hlt
          have oe : offL ln (i + 1) = offL ln i + ln i := rfl
          have sr := HV.out.2.1.cell i hlt
          have nr := HV.out.2.1.nil i hlt
          have qr := fun j hj => QB.out.2.1 i j hlt hj
          have ql := QB.out.1
          have qm := QB.out.2.2
          obtain ⟨raw, hraw⟩ : ∃ raw, xv i = raw := ⟨_, rfl⟩
          obtain ⟨len, hlen⟩ : ∃ len, ln i = len := ⟨_, rfl⟩
          obtain ⟨p, hp⟩ : ∃ p, c i = p := ⟨_, rfl⟩
          obtain ⟨n, hn⟩ : ∃ n, offL ln i = n := ⟨_, rfl⟩
          rw [hraw, hlen, hp] at sr
          rw [hraw] at nr c1
          rw [hn, hlen] at oe
          rw [hn] at on1 st t1
          simp only [hp, hlen, hn] at qr
          rw [oe] at on2
          obtain ⟨pa, pcap, rfl, _⟩ := id sr.shape
          obtain ⟨ra, rcap, rfl, _⟩ := id (own_slice st.raw (fun j hj => ql j (by omega))).shape
          have ll : (len : Int) ≤ 2097152 := by omega
          have nn : (n : Int) ≤ 2097152 := by omega
          have wkI : (wk : Int) ≤ 16777216 := by omega
          have HR : Hid (SliceN V (.slice pa len pcap) len p ∧ (∀ l c, Value.slice pa len pcap = .slice none l c → c = 0) ∧ (∀ j, j < n + len → q j < 256) ∧ (∀ j, j < len → p j = q (n + j)) ∧ n + len ≤ 2097152 ∧ offL ln (i + 1) = n + len) := ⟨sr, nr, fun j hj => ql j (by omega), qr, by omega, oe⟩
          have HI : Hid (i < m ∧ FdS F1 F2 s1 s2 n q (.slice ra n rcap) V w0 ∧ Took q n k s1 ∧ Took (fun t => t % 256) i k2 s2 ∧ (∀ j, j < i + 1 → (fun t => t % 256) j < 256) ∧ i ≤ 4096) := ⟨hlt, st, t1, t2, fun j _ => by show j % 256 < 256; omega, by omega⟩
          have BT : Hid (Below V.heap.size V w0) := st.bel
          clear hraw hlen hp hn on1 on2 oe sr nr qr ql qm hi hlt hb hcell t1 t2 st hwk
          by_cases h3 : wk + (n + len) > 16777216
          · have i3 : (wk : Int) + ((n : Int) + (len : Int)) > 16777216 := by omega
            clear h3
            go_wp2
            go_ret
            exact ⟨rfl, BT.out⟩
          · have i3 : ¬ (wk : Int) + ((n : Int) + (len : Int)) > 16777216 := by omega
            have HW : Hid (wk + (n + len) ≤ 16777216) := by show _ ≤ _; omega
            clear h3
            go_wp2_with (first
              | (refine atAppB (.tmp 51) (.tmp 52) rfl ?_; go_must (refine By8.wpList_appS (B := V.heap.size) (n := n) (m := len) (p := q) rfl (.tmp 51) (.tmp 52) rfl rfl rfl HI.out.2.1.raw (sliceN_cg (HR.out.1.on HI.out.2.1.bel) HR.out.2.2.2.1) HR.out.2.1 (by have := HR.out.2.2.2.2.1; omega) HI.out.2.1.bel.size ?_; intro u1 W1 own1 gr1; have st1 := HI.out.2.1.grow own1 gr1; obtain ⟨r1, rc1, rfl, _⟩ := id (own_slice own1 HR.out.2.2.1).shape; have S1 : Hid (FdS F1 F2 s1 s2 (n + len) q (.slice r1 (n + len) rc1) V W1) := st1; have LO : Hid (LoB F1 F2 (.slice r1 (n + len) rc1) W1.heap.size) := st1.lo; clear own1 gr1 st1))
              | (refine atAppB (.tmp 54) (.tmp 55) rfl ?_; go_must (refine By8.wpList_appS (B := W1.heap.size) (n := 0) (m := len) (p := p) rfl (.tmp 54) (.tmp 55) rfl rfl rfl (own_none W1 p) (sliceN_cg ((HR.out.1.on S1.out.bel).on (belNew W1 _)) (fun j _ => by rw [Nat.zero_add])) HR.out.2.1 (by have := HR.out.2.2.2.2.1; omega) (belNew W1 _).size ?_; intro u2 W2 own2 gr2; have b2 : Below W1.heap.size W1 W2 := below_grown (belNew W1 _) (belNew W1 _).size (own_none W1 p) gr2; rw [Nat.zero_add] at own2; obtain ⟨ia, ic, rfl, _⟩ := id (own_slice own2 HR.out.1.bytes).shape; have S2 : Hid (FdS F1 F2 s1 s2 (n + len) q (.slice r1 (n + len) rc1) V W2 ∧ W2.ownsRow W1.heap.size 5 1 (.slice ia len ic) len (bytesL len p) ∧ W1.heap.size ≤ W2.heap.size ∧ (∀ g, (Value.slice ia len ic).ownBlock = some g → g < W2.heap.size)) := ⟨S1.out.on b2, own2, b2.size, fun g hg => (own2.lt g hg).2⟩; clear own2 gr2 b2))
              | (go_at_call 20; refine (put_any F1 s1 q n (n + len) k _ W2 S2.out.1.f1 (HV.out.1.on S2.out.1.bel HV.out.1.sz) (by have := S2.out.1.l1; have := HV.out.1.sz; omega) HI.out.2.2.1 (Nat.le_add_right _ _) (by rw [Nat.add_sub_cancel_left]; exact sliceN_cg (own_slice S2.out.2.1 HR.out.1.bytes) HR.out.2.2.2.1) (off_own S2.out.2.1 LO.out.f1) HR.out.2.2.1 (by have := HR.out.2.2.2.2.1; omega)).mono ?_; rintro e w3 ⟨cv3, x3, s3, c3, rfl, cg3, ft3, tk3⟩; obtain ⟨la, lc, rfl⟩ := ownL_shape cg3.own; have S3 : Hid (FdS F1 F2 s3 s2 (n + len) q (.slice r1 (n + len) rc1) V w3 ∧ CG W2.heap.size c3 x3 (fun i => cellB q (k + i)) (.slice la c3 lc) w3 ∧ Took q (n + len) (k + c3) s3 ∧ w3.ownsRow W1.heap.size 5 1 (.slice ia len ic) len (bytesL len p)) := ⟨S2.out.1.put1 ft3, cg3, tk3, ownsRow_svT S2.out.2.1 ft3.sv S2.out.1.f1.row (by decide)⟩; have Z3 : Hid (W2.heap.size ≤ w3.heap.size) := ft3.sv.size; clear cg3 ft3 tk3)
              | (go_at_call 14; refine (same_true p p len _ _ w3 (own_slice S3.out.2.2.2 HR.out.1.bytes) (HR.out.1.on S3.out.1.bel) (fun _ _ => rfl)).mono ?_; rintro e w4 ⟨rfl, hw4⟩; rw [hw4]; clear hw4))
            go_loopw [69] (fun z W => ∃ j : Nat, j ≤ len ∧ z = .int .i64 (j : Int) ∧ (∃ f, W.ownsRow W1.heap.size 5 1 (.slice ia len ic) len (bytesL len f)) ∧ Saved (fun k => W1.heap.size ≤ k ∧ k < W2.heap.size) w3 W) (fun z _ => len - (intOf z).toNat)
            case atStart => exact ⟨0, Nat.zero_le _, rfl, ⟨p, S3.out.2.2.2⟩, Saved.refl _ _⟩
            case round =>
              obtain ⟨j, hj, rfl, ⟨f, own⟩, sv⟩ := hrel
              by_cases hlt : j < len
              · have j1 : (j : Int) < (len : Int) := by omega
                obtain ⟨gb, cap, e, gB, gl, ⟨cur, hcur⟩, hcell⟩ := own_byte own (by omega)
                have g2 := S2.out.2.2.2 gb (by rw [e]; rfl)
                injection e with e1 e2 e3
                subst e1
                have HK : Hid (j < len ∧ wr.heap[gb]? = some (.cells cur 5) ∧ wr.cell? ⟨gb, j, none⟩ = some (.int .u8 (f j : Nat)) ∧ wr.ownsRow W1.heap.size 5 1 (.slice (some ⟨gb, 0, none⟩) len ic) len (bytesL len f) ∧ Saved (fun k => W1.heap.size ≤ k ∧ k < W2.heap.size) w3 wr ∧ W1.heap.size ≤ gb ∧ gb < W2.heap.size) := ⟨hlt, hcur, hcell j hlt, own, sv, gB, g2⟩
                clear hlt hj own sv gB gl g2 hcur hcell e2 e3
                go_wp2_with (first
                  | (refine wpList_ex rfl (execIdxS (x := .tmp 72) (k := j) rfl rfl rfl HK.out.1) ?_; rw [Nat.zero_add])
                  | (refine atStore 5 (.tmp 74) (.const (.int .u8 153)) rfl ?_; go_must (refine wpList_exS rfl (execStB rfl rfl rfl HK.out.2.2.1 (frozen4 HK.out.2.1)) ?_)))
                go_roundw
                case rel => exact ⟨j + 1, HK.out.1, by go_num, ⟨_, own_set (m := j) 153 HK.out.2.2.2.1⟩, HK.out.2.2.2.2.1.cell _ (Or.inr HK.out.2.2.2.2.2)⟩
                case measure => have := HK.out.1; simp [intOf]; omega
              · have j1 : ¬ (j : Int) < (len : Int) := by omega
                have bI : Below W1.heap.size w3 wr := savedG_below sv (fun k hk => hk.1) (Nat.le_trans S2.out.2.2.1 Z3.out)
                have Z4 : Hid (W2.heap.size ≤ wr.heap.size) := Nat.le_trans Z3.out sv.size
                have S4 : Hid (FdS F1 F2 s3 s2 (n + len) q (.slice r1 (n + len) rc1) V wr ∧ CG W2.heap.size c3 x3 (fun i => cellB q (k + i)) (.slice la c3 lc) wr) := ⟨S3.out.1.low LO.out bI S1.out.bel.size, S3.out.2.1.svI sv (Nat.le_refl _)⟩
                have tl := S3.out.2.2.1.tells HR.out.2.2.1
                have kb := S3.out.2.2.1.cellB HR.out.2.2.1
                have kl := S3.out.2.2.1.k_le
                have TL : Hid (jK q (n + len) = k + c3 ∧ feedE q (n + len) = s3.ft ∧ (∀ i j, i < k + c3 → j < 320 → cellB q i j < 256) ∧ k + c3 ≤ 256) := ⟨tl.1, tl.2.2.2.2.1, kb, kl⟩
                have kI : (k : Int) + (c3 : Int) ≤ 256 := by omega
                clear hlt hj own sv bI tl kb kl
                go_wp2_with (first
                  | (refine wpList_ex rfl (execU8F (n := i) rfl rfl) ?_)
                  | (refine wpList_ex rfl (execOne rfl rfl) ?_; have S5 : Hid (FdS F1 F2 s3 s2 (n + len) q (.slice r1 (n + len) rc1) V (wr.alloc (.cells #[.int .u8 ((i % 256 : Nat) : Int)] 5)) ∧ CG W2.heap.size c3 x3 (fun i => cellB q (k + i)) (.slice la c3 lc) (wr.alloc (.cells #[.int .u8 ((i % 256 : Nat) : Int)] 5)) ∧ SliceN (wr.alloc (.cells #[.int .u8 ((i % 256 : Nat) : Int)] 5)) (.slice (some ⟨wr.heap.size, 0, none⟩) 1 1) (i + 1 - i) (fun j => (i + j) % 256) ∧ F2 < wr.heap.size) := ⟨S4.out.1.on (belNew wr _), S4.out.2.on (belNew wr _), one_byte wr i, S4.out.1.f2.lt⟩; obtain ⟨W5, hW5⟩ : ∃ W5, wr.alloc (.cells #[.int .u8 ((i % 256 : Nat) : Int)] 5) = W5 := ⟨_, rfl⟩; have Z5 : Hid (W2.heap.size ≤ W5.heap.size) := (by rw [← hW5]; exact Nat.le_trans Z4.out (belNew wr _).size); rw [hW5] at S5 ⊢; clear hW5)
                  | (go_at_call 20; refine (put_any F2 s2 (fun t => t % 256) i (i + 1) k2 _ W5 S5.out.1.f2 (HV.out.1.on S5.out.1.bel HV.out.1.sz) (by have := S5.out.1.l2; have := HV.out.1.sz; omega) HI.out.2.2.2.1 (Nat.le_succ _) S5.out.2.2.1 (fun ad l c e _ h => by injection e with e1 _ _; injection e1 with e1; subst e1; have : wr.heap.size = F2 := h; have := S5.out.2.2.2; omega) HI.out.2.2.2.2.1 (by have := HI.out.2.2.2.2.2; omega)).mono ?_; rintro e w6 ⟨cv6, x6, s6, c6, rfl, cg6, ft6, tk6⟩; have S6 : Hid (FdS F1 F2 s3 s6 (n + len) q (.slice r1 (n + len) rc1) V w6 ∧ CG W2.heap.size c3 x3 (fun i => cellB q (k + i)) (.slice la c3 lc) w6 ∧ Took (fun t => t % 256) (i + 1) (k2 + c6) s6) := ⟨S5.out.1.put2 ft6, S5.out.2.1.svT S5.out.1.f2 ft6, tk6⟩; have Z6 : Hid (W2.heap.size ≤ w6.heap.size) := Nat.le_trans Z5.out ft6.sv.size; clear cg6 ft6 tk6)
                  | (go_at_call 21; refine (feed_any q (n + len) _ w6 (own_slice S6.out.1.raw HR.out.2.2.1) (by have := HR.out.2.2.2.2.1; omega)).mono ?_; rw [TL.out.1, TL.out.2.1]; rintro e w7 ⟨cv7, x7, rfl, cl7, b7⟩; obtain ⟨fa, fc, rfl⟩ := ownL_shape cl7.own; have sl7 := slice_lL fa (k + c3) fc k (Nat.le_add_right _ _); have S7 : Hid (FdS F1 F2 s3 s6 (n + len) q (.slice r1 (n + len) rc1) V w7 ∧ CG W2.heap.size c3 x3 (fun i => cellB q (k + i)) (.slice la c3 lc) w7 ∧ CL w6.heap.size (k + c3) x7 q (.slice fa (k + c3) fc) w7) := ⟨S6.out.1.on b7, S6.out.2.1.on b7, cl7⟩; obtain ⟨u7, hu7⟩ : ∃ u7, sliced fa k (k + c3) fc 1 = u7 := ⟨_, rfl⟩; have ce7 := (cl7.cells TL.out.2.2.1 (by have := TL.out.2.2.2; omega)).sub k c3 rfl; rw [hu7] at sl7 ce7; have CE7 : Hid (Cells w7 u7 c3 (fun i => x7 (k + i)) (fun _ => 320) (fun i => cellB q (k + i))) := ce7; have Z7 : Hid (W2.heap.size ≤ w7.heap.size) := Nat.le_trans Z6.out b7.size; clear cl7 b7 hu7 ce7)
                  | (go_at_call 22; refine (sameCells_true c3 _ _ x3 (fun i => x7 (k + i)) (fun _ => 320) (fun _ => 320) (fun i => cellB q (k + i)) (fun i => cellB q (k + i)) w7 (cg_cells S7.out.2.1 (fun i j hi hj => TL.out.2.2.1 (k + i) j (by omega) hj)) CE7.out ⟨fun _ _ => rfl, fun _ _ _ _ => rfl⟩ (by have := TL.out.2.2.2; omega)).mono ?_; rintro e w8 ⟨rfl, b8⟩; have S8 : Hid (FdS F1 F2 s3 s6 (n + len) q (.slice r1 (n + len) rc1) V w8 ∧ CG W2.heap.size c3 x3 (fun i => cellB q (k + i)) (.slice la c3 lc) w8 ∧ W2.heap.size ≤ w8.heap.size) := ⟨S7.out.1.on b8, S7.out.2.1.on b8, Nat.le_trans Z7.out b8.size⟩; clear b8)
                  | (go_at_call 18; refine (apart_any _ c3 320 W2.heap.size W2.heap.size x3 _ w8 S8.out.2.1.own S8.out.2.1.fam S8.out.2.2 (by omega) (by omega) (by have := TL.out.2.2.2; omega)).mono ?_; rintro e w9 ⟨rfl, sv9⟩; have S9 : Hid (FdS F1 F2 s3 s6 (n + len) q (.slice r1 (n + len) rc1) V w9) := S8.out.1.low (LO.out.mono S2.out.2.2.1) (savedG_below sv9 (fun g hg => by obtain ⟨t, ht, e⟩ := hg; exact ((S8.out.2.1.fam.rows t ht).lt g e).1) S8.out.2.2) (Nat.le_trans S1.out.bel.size S2.out.2.2.1); clear sv9)
                  | (go_at_call 23; refine (told_any F1 s3 q (n + len) (k + c3) _ w9 S9.out.f1 S3.out.2.2.1 (own_slice S9.out.raw HR.out.2.2.1) (by have := HR.out.2.2.2.2.1; omega)).mono ?_; rintro e w10 ⟨rfl, b10⟩; have S10 : Hid (FdS F1 F2 s3 s6 (n + len) q (.slice r1 (n + len) rc1) V w10) := S9.out.on b10; clear b10))
                go_roundw
                case rel => exact ⟨i + 1, wk + (n + len), k + c3, k2 + c6, s3, s6, HI.out.1, by go_num, by go_num, by go_num, HW.out, by rw [HR.out.2.2.2.2.2]; exact S3.out.2.2.1, S6.out.2.2, by rw [HR.out.2.2.2.2.2]; exact S10.out⟩
                case measure => have := HI.out.1; simp [intOf]; omega
        · have ei : ¬ (i : Int) < m := by omega
          have BT : Hid (Below V.heap.size V w0) := st.bel
          clear st hi hlt t1 t2 hwk
          go_wp2
          go_ret
          exact ⟨rfl, BT.out⟩
end Go.Proofs.YtaoncjgllcndmaaDoor.Frm
