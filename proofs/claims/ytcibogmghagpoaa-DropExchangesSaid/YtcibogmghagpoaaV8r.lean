import Derived.Test.YtcibogmghagpoaaV8q
namespace Go.Proofs.Ytcibogmghagpoaa.Dro
open Go.RowKit Gf8 Aes By8 Cel Cf Tap Drw
/- Stage 28: DropExchanges. Written by tools/mkV8r.py. -/

theorem CpI.base {lo hi B n : Nat} {W : World} {v : Value} {g cp ln : Nat → Nat} {c : Nat → Nat → Nat} (h : CpI lo hi W v n g cp ln c) (hB : B ≤ lo) : CpI B hi W v n g cp ln c := ⟨ownD_base h.own hB, fam_base h.fam hB, h.byt, h.len, h.hv, h.hr⟩
theorem exch28 (I : Impl) (n : Nat) (cv : Value) (xv : Nat → Value) (ln : Nat → Nat) (c : Nat → Nat → Nat) (V : World) (h : Ls V cv n xv ln c) (hn : n ≤ 5000) (hl : ∀ i, i < n → ln i ≤ 2097152) :
    Calls Try.prog 20 #[cv] V fun e w' => (∃ r y s, e = .returned r ∧ AnI V.heap.size s w' r n y (xL n ln c) (xF n ln c) ∧ s ≤ w'.heap.size ∧ V.heap.size ≤ s) ∧ Below V.heap.size V w' :=
  (I.exchange n cv xv ln c V h hn hl).mono fun _ w' ⟨⟨r, y, he, hk⟩, hb⟩ => ⟨⟨r, y, w'.heap.size, he, AnI.of hk, Nat.le_refl _, hb.size⟩, hb⟩
theorem rexch28 (n : Nat) (cv : Value) (xv : Nat → Value) (ln : Nat → Nat) (c : Nat → Nat → Nat) (V : World) (h : Ls V cv n xv ln c) (hn : n ≤ 999999) :
    Calls Try.prog 19 #[cv] V fun e w' => (∃ r y s, e = .returned r ∧ AnI V.heap.size s w' r n y (xL n ln c) (xF n ln c) ∧ s ≤ w'.heap.size ∧ V.heap.size ≤ s) ∧ Below V.heap.size V w' :=
  (rexchange n cv xv ln c V h hn).mono fun _ w' ⟨⟨r, y, he, hk⟩, hb⟩ => ⟨⟨r, y, w'.heap.size, he, AnI.of hk, Nat.le_refl _, hb.size⟩, hb⟩
/-- The copies written over, so far. -/
def xoF (c : Nat → Nat → Nat) (i k t j : Nat) : Nat := if t < i ∨ (t = i ∧ j < k) then c t j ^^^ 255 else c t j
section
variable {c : Nat → Nat → Nat} {i k t j l : Nat}
theorem xo_0 : c t j = xoF c 0 0 t j := (if_neg (by omega)).symm
theorem xo_at : xoF c i k i k = c i k := if_neg (by omega)
theorem xo_set : (if t = i then (fun l => if l = k then c i k ^^^ 255 else xoF c i k i l) else xoF c i k t) l = xoF c i (k + 1) t l := by
  by_cases e : t = i
  · subst e
    rw [if_pos rfl]
    show (if l = k then c t k ^^^ 255 else xoF c t k t l) = _
    unfold xoF
    by_cases e2 : l = k
    · subst e2; rw [if_pos rfl, if_pos (by omega)]
    · rw [if_neg e2]
      by_cases e3 : l < k
      · rw [if_pos (by omega), if_pos (by omega)]
      · rw [if_neg (by omega), if_neg (by omega)]
  · rw [if_neg e]
    unfold xoF
    by_cases e3 : t < i
    · rw [if_pos (by omega), if_pos (by omega)]
    · rw [if_neg (by omega), if_neg (by omega)]
theorem xo_next {ln : Nat → Nat} (hj : j < ln t) : xoF c i (ln i) t j = xoF c (i + 1) 0 t j := by
  unfold xoF
  by_cases e : t < i
  · rw [if_pos (by omega), if_pos (by omega)]
  · by_cases e2 : t = i
    · subst e2; rw [if_pos (by omega), if_pos (by omega)]
    · rw [if_neg (by omega), if_neg (by omega)]
theorem xor_lt {x : Nat} (h : x < 256) : x ^^^ 255 < 256 := Nat.xor_lt_two_pow (n := 8) h (by decide)
end
theorem execXor28 {o : Oper} {a : Act} {w : World} {x : Operand} {p : Nat} (ho : o.op = .binOp .xor 5 x (.const (.int .u8 255)) 5) (hx : a.eval x = .int .u8 ((p : Nat) : Int)) (hp : p < 256) : (execOp a.eval o).run Try.prog w = .ok (.value (.int .u8 ((p ^^^ 255 : Nat) : Int))) w := execXor5 ho hx rfl hp (by decide)
theorem cat28 (x y : Nat → Value) (m : Nat) : ∀ k, lL x m ++ lL y k = lL (fun t => if t < m then x t else y (t - m)) (m + k)
  | 0 => by
    simp only [lL, List.append_nil, Nat.add_zero]
    exact lL_congr m fun i hi => by rw [if_pos hi]
  | k + 1 => by
    rw [← Nat.add_assoc]
    simp only [lL]
    rw [← cat28 x y m k, List.append_assoc, if_neg (by omega), Nat.add_sub_cancel_left]
theorem apart_ab {s18 s20 s22 n : Nat} {W : World} {va vb : Value} {ya yb : Nat → Value} {ln : Nat → Nat} {f : Nat → Nat → Nat} (v : Value) (own : W.ownsRow s22 23 1 v (0 + n + n) ([] ++ lL ya n ++ lL yb n)) (hv : v ≠ .slice none 0 0) (A : AnI s18 s20 W va n ya ln f) (B : AnI s20 s22 W vb n yb ln f) (h1 : s18 ≤ s20) (h2 : s22 ≤ W.heap.size) (h3 : s20 ≤ s22) (hl : ∀ t, t < n → ln t ≤ 140737488351232) (hn : n ≤ 2048) :
    Calls Try.prog 17 #[v] W fun e w' => e = .returned (.bool true) ∧ Below s18 W w' := by
  rw [Nat.zero_add, List.nil_append, cat28] at own
  obtain ⟨lg, lc, rfl⟩ : ∃ lg lc, v = .slice (some ⟨lg, 0, none⟩) (n + n) lc := by
    rcases own.2 with ⟨e, _⟩ | ⟨g', c', cur, e, _⟩
    · exact absurd e hv
    · exact ⟨g', c', e⟩
  have F := fam_cat A.an.fam B.an.fam A.hr h1
  refine Calls.mono (apart28 s18 s22 (n + n) lg lc _ _ _ W own F (by omega) (fun t ht => ?_) (by omega)) fun e w' ⟨q1, q2⟩ => ⟨q1, ⟨q2.os, q2.tape, q2.output, q2.size, fun k hk => q2.block k (by omega) fun ⟨t, ht, q⟩ => ?_⟩⟩
  · show (if t < n then ln t else ln (t - n)) ≤ _
    split
    · rename_i q; exact hl t q
    · exact hl (t - n) (by omega)
  · have := ((F.rows t ht).lt k q).1
    omega
set_option maxRecDepth 100000 in
set_option maxHeartbeats 4000000 in
/-- DropExchanges. -/
theorem exchanges28 (I : Impl) (n : Nat) (cv : Value) (xv : Nat → Value) (ln : Nat → Nat) (c : Nat → Nat → Nat) (V : World) (hL : Ls V cv n xv ln c) :
    Calls Try.prog 4 #[cv] V fun e w' => e = .returned (.bool true) ∧ Below V.heap.size V w' := by
  go_enter Try.func4, Try.ntmps4
  refine wo_ 88 [(0, cv)] ?_
  rintro a A ⟨t0, -⟩
  have BW : Below V.heap.size V V := Below.refl _ _
  have BB := BW
  refine wp_seq ?_
  refine wi_ A (h1_ t0) (rf_ [] (h1_ t0) ?_)
  rintro a A - ⟨t0, -⟩
  refine wp_seq ?_
  refine wp_seq ?_
  refine wi_ A (h1_ t0) (rc_ 0 (awake28 I V) (cb_ fun X1 bQ => ?_))
  replace BB := BB.trans (bQ.mono BB.size)
  clear bQ
  refine rv_ 1 (.bool false) (fun a ee => execNot8 (b := true) rfl (ee _)) (rf_ [(12, .bool false)] (h1_ t0) ?_)
  rintro a A ⟨t12, -⟩ ⟨t0, -⟩
  refine wp_cond_false t12 ?_
  refine wp_skip ?_
  clear t12
  refine wp_seq ?_
  refine wp_seq ?_
  refine wi_ A (h1_ t0) (rc_ 1 (great28 n _ xv ln c X1 (hL.on BB)) fun e X3 hh => ?_)
  obtain ⟨⟨b15, he, hk⟩, hb⟩ := hh
  refine ⟨_, he, ?_⟩
  have bQ : Below X1.heap.size X1 X3 := hb
  have FG : (b15 = false → n ≤ 2048 ∧ ∀ i, i < n → ln i ≤ 1048576) := hk
  replace BB := BB.trans (bQ.mono BB.size)
  clear bQ
  refine rf_ [(14, .bool b15)] (h1_ t0) ?_
  rintro a A ⟨t14, -⟩ ⟨t0, -⟩
  cases b15
  · refine wp_cond_false t14 ?_
    refine wp_skip ?_
    clear t14
    obtain ⟨hn, hln⟩ := FG rfl
    clear FG
    have hln2 : ∀ i, i < n → ln i ≤ 2097152 := fun i hi => Nat.le_trans (hln i hi) (by omega)
    have hxl : ∀ t, t < n → xL n ln c t ≤ 140737488351232 := fun t _ => by have := xL_le (n := n) (ln := ln) (c := c) (i := t); omega
    refine wp_seq ?_
    refine wi_ A (h1_ t0) (rc_ 1 (copied28 n cv xv ln c X3 (hL.on BB) (by omega)) fun e X5 hh => ?_)
    obtain ⟨⟨v16, g16, cp16, s16, he, hk, hz, hq⟩, hb⟩ := hh
    refine ⟨_, he, ?_⟩
    have bQ : Below X3.heap.size X3 X5 := hb
    have FI : (CpI V.heap.size s16 X5 v16 n g16 cp16 ln (c)) := hk.base (BB).size
    have Fs16 : (s16 ≤ X5.heap.size) := hz
    have Fp16 : (V.heap.size ≤ s16) := Nat.le_trans (BB).size hq
    replace BB := BB.trans (bQ.mono BB.size)
    clear bQ
    refine rf_ [(3, v16)] (h1_ t0) ?_
    rintro a A ⟨t3, -⟩ ⟨t0, -⟩
    refine wp_seq ?_
    refine wi_ A (h2_ t0 t3) (rc_ 1 (rexch28 n cv xv ln c X5 (hL.on BB) (by omega)) fun e X6 hh => ?_)
    obtain ⟨⟨v18, y18, s18, he, hk, hz, hq⟩, hb⟩ := hh
    refine ⟨_, he, ?_⟩
    have bQ : Below X5.heap.size X5 X6 := hb
    have FW : (AnI (s16) (s18) X6 v18 n y18 (xL n ln c) (xF n ln c)) := hk.base Fs16
    have Fs18 : (s18 ≤ X6.heap.size) := hz
    have Fp18 : (s16 ≤ s18) := Nat.le_trans Fs16 hq
    replace FI := (FI.on bQ)
    replace BB := BB.trans (bQ.mono BB.size)
    clear Fs16 bQ
    refine rf_ [(4, v18)] (h2_ t0 t3) ?_
    rintro a A ⟨t4, -⟩ ⟨t0, t3, -⟩
    refine wp_seq ?_
    refine wi_ A (h3_ t0 t3 t4) (rc_ 1 (exch28 I n v16 (fun t => .slice (some ⟨g16 t, 0, none⟩) (ln t) (cp16 t)) ln c X6 (FI.ls) (by omega) hln2) fun e X7_1 hh => ?_)
    obtain ⟨⟨v20, y20, s20, he, hk, hz, hq⟩, hb⟩ := hh
    refine ⟨_, he, ?_⟩
    have bQ : Below X6.heap.size X6 X7_1 := hb
    have FA : (AnI (s18) (s20) X7_1 v20 n y20 (xL n ln c) (xF n ln c)) := hk.base Fs18
    have Fs20 : (s20 ≤ X7_1.heap.size) := hz
    have Fp20 : (s18 ≤ s20) := Nat.le_trans Fs18 hq
    replace FI := (FI.on bQ)
    replace FW := (FW.on bQ)
    replace BB := BB.trans (bQ.mono BB.size)
    clear Fs18 bQ
    refine rc_ 3 (exch28 I n v16 (fun t => .slice (some ⟨g16 t, 0, none⟩) (ln t) (cp16 t)) ln c X7_1 (FI.ls) (by omega) hln2) fun e X7 hh => ?_
    obtain ⟨⟨v22, y22, s22, he, hk, hz, hq⟩, hb⟩ := hh
    refine ⟨_, he, ?_⟩
    have bQ : Below X7_1.heap.size X7_1 X7 := hb
    have FB : (AnI (s20) (s22) X7 v22 n y22 (xL n ln c) (xF n ln c)) := hk.base Fs20
    have Fs22 : (s22 ≤ X7.heap.size) := hz
    have Fp22 : (s20 ≤ s22) := Nat.le_trans Fs20 hq
    replace FI := (FI.on bQ)
    replace FW := (FW.on bQ)
    replace FA := (FA.on bQ)
    replace BB := BB.trans (bQ.mono BB.size)
    clear Fs20 bQ
    refine rf_ [(5, v20), (6, v22)] (h3_ t0 t3 t4) ?_
    rintro a A ⟨t5, t6, -⟩ ⟨t0, t3, t4, -⟩
    have hp16 := Fp16
    clear Fp16
    have hp18 := Fp18
    clear Fp18
    have hp20 := Fp20
    clear Fp20
    have hp22 := Fp22
    clear Fp22
    refine wp_seq ?_
    refine wp_seq ?_
    refine wi_ A (h5_ t0 t3 t4 t5 t6) (rc_ 2 (alike28 n _ _ _ _ _ _ _ _ X7 (FA.ls hxl) (FW.ls hxl) (fun _ _ => ⟨rfl, fun _ _ => rfl⟩) (by omega)) (cb_ fun X8_1 bQ => ?_))
    replace FI := (FI.on bQ)
    replace FW := (FW.on bQ)
    replace FA := (FA.on bQ)
    replace FB := (FB.on bQ)
    replace Fs22 := (Nat.le_trans Fs22 bQ.size)
    replace BB := BB.trans (bQ.mono BB.size)
    clear bQ
    refine rv_ 3 (.bool false) (fun a ee => execNot8 (b := true) rfl (ee _)) (rc_ 7 (alike28 n _ _ _ _ _ _ _ _ X8_1 (FB.ls hxl) (FW.ls hxl) (fun _ _ => ⟨rfl, fun _ _ => rfl⟩) (by omega)) (cb_ fun X8_2 bQ => ?_))
    replace FI := (FI.on bQ)
    replace FW := (FW.on bQ)
    replace FA := (FA.on bQ)
    replace FB := (FB.on bQ)
    replace Fs22 := (Nat.le_trans Fs22 bQ.size)
    replace BB := BB.trans (bQ.mono BB.size)
    clear bQ
    refine rv_ 8 (.bool false) (fun a ee => execNot8 (b := true) rfl (ee _)) (rc_ 13 (alike28 n _ _ _ _ _ _ _ _ X8_2 (FI.ls) (hL.on BB) (fun _ _ => ⟨rfl, fun _ _ => rfl⟩) (by omega)) (cb_ fun X8_3 bQ => ?_))
    replace FI := (FI.on bQ)
    replace FW := (FW.on bQ)
    replace FA := (FA.on bQ)
    replace FB := (FB.on bQ)
    replace Fs22 := (Nat.le_trans Fs22 bQ.size)
    replace BB := BB.trans (bQ.mono BB.size)
    clear bQ
    refine rv_ 14 (.bool false) (fun a ee => execNot8 (b := true) rfl (ee _)) (rc_ 18 (lent28 _ _ n _ _ _ _ _ X8_3 FI (by omega)) (cb_ fun X8 bQ => ?_))
    replace FI := (FI.on bQ)
    replace FW := (FW.on bQ)
    replace FA := (FA.on bQ)
    replace FB := (FB.on bQ)
    replace Fs22 := (Nat.le_trans Fs22 bQ.size)
    replace BB := BB.trans (bQ.mono BB.size)
    clear bQ
    refine rv_ 19 (.bool false) (fun a ee => execNot8 (b := true) rfl (ee _)) (rf_ [(43, .bool false)] (h5_ t0 t3 t4 t5 t6) ?_)
    rintro a A ⟨t43, -⟩ ⟨t0, t3, t4, t5, t6, -⟩
    refine wp_cond_false t43 ?_
    refine wp_skip ?_
    clear t43
    refine wp_seq ?_
    refine wp_seq ?_
    refine wi_ A (h5_ t0 t3 t4 t5 t6) (rv_ 1 (.int .i64 ((n : Nat) : Int)) (fun a ee => execLenLL rfl (ee _) (FI.ls).shp) (rf_ [(44, v16), (45, .int .i64 ((n : Nat) : Int)), (46, .int .i64 ((0 : Nat) : Int))] (h5_ t0 t3 t4 t5 t6) ?_))
    rintro a A ⟨t44, t45, t46, -⟩ ⟨t0, t3, t4, t5, t6, -⟩
    replace FI : (CpI V.heap.size s16 X8 v16 n g16 cp16 ln (xoF c 0 0)) := FI.cg (fun t _ j _ => xo_0)
    refine wp_block ?_
    refine wp_loop (fun a W => ∃ (i : Nat), i ≤ n ∧ (a.tmps.size = 88 ∧ a.defers = []) ∧ a.eval (.tmp 0) = cv ∧ a.eval (.tmp 3) = v16 ∧ a.eval (.tmp 4) = v18 ∧ a.eval (.tmp 5) = v20 ∧ a.eval (.tmp 6) = v22 ∧ a.eval (.tmp 44) = v16 ∧ a.eval (.tmp 45) = .int .i64 ((n : Nat) : Int) ∧ a.eval (.tmp 46) = .int .i64 ((i : Nat) : Int) ∧ Below V.heap.size V W ∧ (CpI V.heap.size s16 W v16 n g16 cp16 ln (xoF c i 0)) ∧ (AnI (s16) (s18) W v18 n y18 (xL n ln c) (xF n ln c)) ∧ (AnI (s18) (s20) W v20 n y20 (xL n ln c) (xF n ln c)) ∧ (AnI (s20) (s22) W v22 n y22 (xL n ln c) (xF n ln c)) ∧ (s22 ≤ W.heap.size)) (fun a _ => n - (intOf (a.eval (.tmp 46))).toNat) ⟨0, Nat.zero_le _, A, t0, t3, t4, t5, t6, t44, t45, t46, BB, FI, FW, FA, FB, Fs22⟩ ?_
    clear A t0 t3 t4 t5 t6 t44 t45 t46 BB FI FW FA FB Fs22 a
    rintro a XL11 ⟨i, hi, A, t0, t3, t4, t5, t6, t44, t45, t46, BB, FI, FW, FA, FB, Fs22⟩
    have esi := t46
    refine wp_seq ?_
    refine wi_ A (h8_ t0 t3 t4 t5 t6 t44 t45 t46) (rv_ 0 (.bool (decide (i < n))) (fun a ee => execLtW (p := i) (q := n) rfl (ee _) (ee _)) (rf_ [(47, .bool (decide (i < n)))] (h8_ t0 t3 t4 t5 t6 t44 t45 t46) ?_))
    rintro a A ⟨t47, -⟩ ⟨t0, t3, t4, t5, t6, t44, t45, t46, -⟩
    refine wp_seq ?_
    by_cases lti : i < n
    · rw [decide_eq_true lti] at t47
      refine wp_cond_true t47 ?_
      refine wp_skip ?_
      clear t47
      refine wp_seq ?_
      refine wp_block ?_
      refine wp_seq ?_
      refine wi_ A (h8_ t0 t3 t4 t5 t6 t44 t45 t46) (rv_ 0 (.pointer (some ⟨adB v16, adO v16 + i, none⟩)) (fun a ee => execIdxLs (k := i) (FI.ls) rfl (ee _) (ee _) lti) (rv_ 1 (.slice (some ⟨g16 i, 0, none⟩) (ln i) (cp16 i)) (fun a ee => execLdLs (k := i) (FI.ls) rfl (ee _) lti) (rf_ [(8, .slice (some ⟨g16 i, 0, none⟩) (ln i) (cp16 i))] (h8_ t0 t3 t4 t5 t6 t44 t45 t46) ?_)))
      rintro a A ⟨t8, -⟩ ⟨t0, t3, t4, t5, t6, t44, t45, t46, -⟩
      refine wp_seq ?_
      refine wi_ A (h9_ t0 t3 t4 t5 t6 t44 t45 t46 t8) (rv_ 1 (.int .i64 ((ln i : Nat) : Int)) (fun a ee => execLenV (len := ln i) rfl (ee _) ⟨_, _, rfl⟩) (rf_ [(51, .int .i64 ((ln i : Nat) : Int)), (52, .int .i64 ((0 : Nat) : Int))] (h9_ t0 t3 t4 t5 t6 t44 t45 t46 t8) ?_))
      rintro a A ⟨t51, t52, -⟩ ⟨t0, t3, t4, t5, t6, t44, t45, t46, t8, -⟩
      have hgs := FI.hr i lti
      have hgV := FI.lo_ lti
      have hcb := FI.byt i lti
      have hcl := FI.len i lti
      refine wp_block ?_
      refine wp_loop (fun a W => ∃ (k : Nat), k ≤ ln i ∧ (a.tmps.size = 88 ∧ a.defers = []) ∧ a.eval (.tmp 0) = cv ∧ a.eval (.tmp 3) = v16 ∧ a.eval (.tmp 4) = v18 ∧ a.eval (.tmp 5) = v20 ∧ a.eval (.tmp 6) = v22 ∧ a.eval (.tmp 44) = v16 ∧ a.eval (.tmp 45) = .int .i64 ((n : Nat) : Int) ∧ a.eval (.tmp 46) = .int .i64 ((i : Nat) : Int) ∧ a.eval (.tmp 8) = .slice (some ⟨g16 i, 0, none⟩) (ln i) (cp16 i) ∧ a.eval (.tmp 51) = .int .i64 ((ln i : Nat) : Int) ∧ a.eval (.tmp 52) = .int .i64 ((k : Nat) : Int) ∧ Below V.heap.size V W ∧ (CpI V.heap.size s16 W v16 n g16 cp16 ln (xoF c i k)) ∧ (AnI (s16) (s18) W v18 n y18 (xL n ln c) (xF n ln c)) ∧ (AnI (s18) (s20) W v20 n y20 (xL n ln c) (xF n ln c)) ∧ (AnI (s20) (s22) W v22 n y22 (xL n ln c) (xF n ln c)) ∧ (s22 ≤ W.heap.size)) (fun a _ => ln i - (intOf (a.eval (.tmp 52))).toNat) ⟨0, Nat.zero_le _, A, t0, t3, t4, t5, t6, t44, t45, t46, t8, t51, t52, BB, FI, FW, FA, FB, Fs22⟩ ?_
      clear A t0 t3 t4 t5 t6 t44 t45 t46 t8 t51 t52 BB FI FW FA FB Fs22 a
      rintro a XL14 ⟨k, hk, A, t0, t3, t4, t5, t6, t44, t45, t46, t8, t51, t52, BB, FI, FW, FA, FB, Fs22⟩
      have esk := t52
      refine wp_seq ?_
      refine wi_ A (h11_ t0 t3 t4 t5 t6 t44 t45 t46 t8 t51 t52) (rv_ 0 (.bool (decide (k < ln i))) (fun a ee => execLtW (p := k) (q := ln i) rfl (ee _) (ee _)) (rf_ [(53, .bool (decide (k < ln i)))] (h11_ t0 t3 t4 t5 t6 t44 t45 t46 t8 t51 t52) ?_))
      rintro a A ⟨t53, -⟩ ⟨t0, t3, t4, t5, t6, t44, t45, t46, t8, t51, t52, -⟩
      refine wp_seq ?_
      by_cases ltk : k < ln i
      · rw [decide_eq_true ltk] at t53
        refine wp_cond_true t53 ?_
        refine wp_skip ?_
        clear t53
        refine wp_seq ?_
        refine wp_block ?_
        have hck : c i k < 256 := (hL.cell i lti).bytes k ltk
        refine wp_seq ?_
        refine wi_ A (h11_ t0 t3 t4 t5 t6 t44 t45 t46 t8 t51 t52) (rf_ [(9, .int .i64 ((k : Nat) : Int))] (h11_ t0 t3 t4 t5 t6 t44 t45 t46 t8 t51 t52) ?_)
        rintro a A ⟨t9, -⟩ ⟨t0, t3, t4, t5, t6, t44, t45, t46, t8, t51, t52, -⟩
        refine wi_ A (h12_ t0 t3 t4 t5 t6 t44 t45 t46 t8 t51 t52 t9) (rv_ 2 (.pointer (some ⟨g16 i, 0 + k, none⟩)) (fun a ee => execIdxS (k := k) rfl (ee _) (ee _) ltk) (rv_ 3 (.int .u8 ((c i k : Nat) : Int)) (fun a ee => execLdB rfl (ee _) ((own_cell28 (FI.fam.rows i lti) (show k < ln i + 2 by omega)).1.trans (by rw [show rmY (xoF c i k i) (ln i) k = c i k from (if_pos ltk).trans xo_at]))) (rv_ 4 (.int .u8 ((c i k ^^^ 255 : Nat) : Int)) (fun a ee => execXor28 rfl (ee _) hck) (rv_ 5 (.pointer (some ⟨g16 i, 0 + k, none⟩)) (fun a ee => execIdxS (k := k) rfl (ee _) (ee _) ltk) (rs_ 6 (fun a ee => ?_))))))
        obtain ⟨hc_, hf_⟩ := own_cell28 (FI.fam.rows i lti) (show k < ln i + 2 by omega)
        refine stepS rfl rfl (execStB rfl (ee _) (ee _) hc_ hf_) ⟨_, ⟨_, rfl, rfl⟩, fun X16 hX => ?_⟩
        obtain ⟨BB, FW, FA, FB, Fs22, FI2⟩ : Below V.heap.size V X16 ∧ (AnI (s16) (s18) X16 v18 n y18 (xL n ln c) (xF n ln c)) ∧ (AnI (s18) (s20) X16 v20 n y20 (xL n ln c) (xF n ln c)) ∧ (AnI (s20) (s22) X16 v22 n y22 (xL n ln c) (xF n ln c)) ∧ (s22 ≤ X16.heap.size) ∧ (CpI V.heap.size s16 X16 v16 n g16 cp16 ln (xoF c i (k + 1))) := by subst hX; exact ⟨(BB).setCell hgV _, (FW.set (by omega)), (FA.set (by omega)), (FB.set (by omega)), (Nat.le_trans Fs22 (set_sz _ _ _ _)), ((FI.put lti ltk (xor_lt hck)).cg (fun s _ l _ => xo_set))⟩
        clear FI hX ee a
        refine rf_ [] (h11_ t0 t3 t4 t5 t6 t44 t45 t46 t8 t51 t52) ?_
        rintro a A - ⟨t0, t3, t4, t5, t6, t44, t45, t46, t8, t51, t52, -⟩
        refine wi_ A (h11_ t0 t3 t4 t5 t6 t44 t45 t46 t8 t51 t52) (rv_ 0 (.int .i64 ((k + 1 : Nat) : Int)) (fun a ee => execAd8 (p := k) (q := 1) rfl (ee _) rfl (by omega)) (rf_ [(52, .int .i64 ((k + 1 : Nat) : Int))] (h10_ t0 t3 t4 t5 t6 t44 t45 t46 t8 t51) ?_))
        rintro a A ⟨t52, -⟩ ⟨t0, t3, t4, t5, t6, t44, t45, t46, t8, t51, -⟩
        exact ⟨⟨k + 1, ltk, A, t0, t3, t4, t5, t6, t44, t45, t46, t8, t51, t52, BB, FI2, FW, FA, FB, Fs22⟩, by show ln i - (intOf (a.eval (.tmp 52))).toNat < ln i - (intOf (Act.eval _ (.tmp 52))).toNat; rw [t52, esk]; show ln i - (k + 1) < ln i - k; omega⟩
      · rw [decide_eq_false ltk] at t53
        refine wp_cond_false t53 ?_
        refine wp_exit ?_
        first | with_reducible refine exit_in ?_ | with_reducible refine exit_then (exit_in ?_) | with_reducible refine exit_then (exit_then (exit_in ?_)) | refine exit_in ?_ | refine exit_then (exit_in ?_) | refine exit_then (exit_then (exit_in ?_))
        clear t53 esk
        have eki : k = ln i := (by omega)
        rw [eki] at FI
        replace FI : (CpI V.heap.size s16 XL14 v16 n g16 cp16 ln (xoF c (i + 1) 0)) := FI.cg (fun t _ j hj => xo_next hj)
        refine wi_ A (h11_ t0 t3 t4 t5 t6 t44 t45 t46 t8 t51 t52) (rv_ 0 (.int .i64 ((i + 1 : Nat) : Int)) (fun a ee => execAd8 (p := i) (q := 1) rfl (ee _) rfl (by omega)) (rf_ [(46, .int .i64 ((i + 1 : Nat) : Int))] (h7_ t0 t3 t4 t5 t6 t44 t45) ?_))
        rintro a A ⟨t46, -⟩ ⟨t0, t3, t4, t5, t6, t44, t45, -⟩
        exact ⟨⟨i + 1, lti, A, t0, t3, t4, t5, t6, t44, t45, t46, BB, FI, FW, FA, FB, Fs22⟩, by show n - (intOf (a.eval (.tmp 46))).toNat < n - (intOf (Act.eval _ (.tmp 46))).toNat; rw [t46, esi]; show n - (i + 1) < n - i; omega⟩
    · rw [decide_eq_false lti] at t47
      refine wp_cond_false t47 ?_
      refine wp_exit ?_
      first | with_reducible refine exit_in ?_ | with_reducible refine exit_then (exit_in ?_) | with_reducible refine exit_then (exit_then (exit_in ?_)) | refine exit_in ?_ | refine exit_then (exit_in ?_) | refine exit_then (exit_then (exit_in ?_))
      clear t47 esi
      have ein : i = n := (by omega)
      rw [ein] at FI
      clear t44 t45 t46
      have hVs := BB.size
      have hV18 : V.heap.size ≤ s18 := Nat.le_trans hp16 hp18
      have hV22 : V.heap.size ≤ s22 := Nat.le_trans hV18 (Nat.le_trans hp20 hp22)
      refine wp_seq ?_
      refine wp_seq ?_
      refine wi_ A (h5_ t0 t3 t4 t5 t6) (rc_ 2 (alike28 n _ _ _ _ _ _ _ _ XL11 (FA.ls hxl) (FW.ls hxl) (fun _ _ => ⟨rfl, fun _ _ => rfl⟩) (by omega)) (cb_ fun X19_1 bQ => ?_))
      replace FI := (FI.on bQ)
      replace FW := (FW.on bQ)
      replace FA := (FA.on bQ)
      replace FB := (FB.on bQ)
      replace Fs22 := (Nat.le_trans Fs22 bQ.size)
      replace BB := BB.trans (bQ.mono BB.size)
      clear bQ
      obtain ⟨g68, egg68⟩ : ∃ z_ : Nat, X19_1.heap.size = z_ := ⟨_, rfl⟩
      refine rv_ 3 (.bool false) (fun a ee => execNot8 (b := true) rfl (ee _)) (rs_ 5 (fun a ee => ?_))
      refine stepV rfl (wy rfl rfl rfl (ee _)) (execBs0L rfl) ⟨.slice (some ⟨g68, 0, none⟩) 0 0, ⟨_, rfl, by subst egg68; rfl⟩, fun X19_2 hX => ?_⟩
      have bQ : Below X19_1.heap.size X19_1 X19_2 := by subst hX egg68; exact (belNew X19_1 _)
      have FP0 : (X19_2.ownsRow s22 23 1 (.slice (some ⟨g68, 0, none⟩) 0 0) (0) ([])) := by subst hX egg68; exact ownD_base (own_ls0 X19_1) Fs22
      replace FI := (FI.on bQ)
      replace FW := (FW.on bQ)
      replace FA := (FA.on bQ)
      replace FB := (FB.on bQ)
      replace Fs22 := (Nat.le_trans Fs22 bQ.size)
      replace BB := BB.trans (bQ.mono BB.size)
      clear bQ hX egg68 ee a
      refine rs_ 7 (fun a ee => ?_)
      refine stepAppLL rfl (wy rfl rfl rfl (ee _)) rfl (ee _) (ee _) FP0 (fun h_ => by cases h_) FA.an.own (ones_of (FA.ls hxl)) (by omega) Fs22 fun v70 X19_3 own' hv' gr => ⟨_, ⟨_, rfl, rfl⟩, eqw ?_⟩
      obtain ⟨BB, FI, FW, FA, FB, Fs22, FP1, FP1v⟩ : Below V.heap.size V X19_3 ∧ (CpI V.heap.size s16 X19_3 v16 n g16 cp16 ln (xoF c n 0)) ∧ (AnI (s16) (s18) X19_3 v18 n y18 (xL n ln c) (xF n ln c)) ∧ (AnI (s18) (s20) X19_3 v20 n y20 (xL n ln c) (xF n ln c)) ∧ (AnI (s20) (s22) X19_3 v22 n y22 (xL n ln c) (xF n ln c)) ∧ (s22 ≤ X19_3.heap.size) ∧ (X19_3.ownsRow s22 23 1 (v70) (0 + n) ([] ++ lL y20 n)) ∧ (v70 ≠ .slice none 0 0) := ⟨(BB).grown gr (BB).size (fun k hk => Nat.le_trans hV22 (FP0.lt k hk).1), (FI.grown (Nat.le_trans (by omega) Fs22) gr (fun k hk => Nat.le_trans (by omega) (FP0.lt k hk).1)), (FW.grown (Nat.le_trans (by omega) Fs22) gr (fun k hk => Nat.le_trans (by omega) (FP0.lt k hk).1)), (FA.grown (Nat.le_trans (by omega) Fs22) gr (fun k hk => Nat.le_trans (by omega) (FP0.lt k hk).1)), (FB.grown (Nat.le_trans (by omega) Fs22) gr (fun k hk => Nat.le_trans (by omega) (FP0.lt k hk).1)), (Nat.le_trans Fs22 gr.size), own', hv'⟩
      clear FP0 ee a
      refine rs_ 9 (fun a ee => ?_)
      refine stepAppLL rfl (wy rfl rfl rfl (ee _)) rfl (ee _) (ee _) FP1 FP1v FB.an.own (ones_of (FB.ls hxl)) (by omega) Fs22 fun v72 X19_4 own' hv' gr => ⟨_, ⟨_, rfl, rfl⟩, eqw ?_⟩
      obtain ⟨BB, FI, FW, FA, FB, Fs22, FP2, FP2v⟩ : Below V.heap.size V X19_4 ∧ (CpI V.heap.size s16 X19_4 v16 n g16 cp16 ln (xoF c n 0)) ∧ (AnI (s16) (s18) X19_4 v18 n y18 (xL n ln c) (xF n ln c)) ∧ (AnI (s18) (s20) X19_4 v20 n y20 (xL n ln c) (xF n ln c)) ∧ (AnI (s20) (s22) X19_4 v22 n y22 (xL n ln c) (xF n ln c)) ∧ (s22 ≤ X19_4.heap.size) ∧ (X19_4.ownsRow s22 23 1 (v72) (0 + n + n) ([] ++ lL y20 n ++ lL y22 n)) ∧ (v72 ≠ .slice none 0 0) := ⟨(BB).grown gr (BB).size (fun k hk => Nat.le_trans hV22 (FP1.lt k hk).1), (FI.grown (Nat.le_trans (by omega) Fs22) gr (fun k hk => Nat.le_trans (by omega) (FP1.lt k hk).1)), (FW.grown (Nat.le_trans (by omega) Fs22) gr (fun k hk => Nat.le_trans (by omega) (FP1.lt k hk).1)), (FA.grown (Nat.le_trans (by omega) Fs22) gr (fun k hk => Nat.le_trans (by omega) (FP1.lt k hk).1)), (FB.grown (Nat.le_trans (by omega) Fs22) gr (fun k hk => Nat.le_trans (by omega) (FP1.lt k hk).1)), (Nat.le_trans Fs22 gr.size), own', hv'⟩
      clear FP1 ee a
      refine rc_ 10 (apart_ab _ FP2 FP2v FA FB hp20 Fs22 hp22 hxl (by omega)) fun e X19 hh => ?_
      obtain ⟨he, hb⟩ := hh
      refine ⟨_, he, ?_⟩
      obtain ⟨BB, FI, FW, Fs22⟩ : Below V.heap.size V X19 ∧ (CpI V.heap.size s16 X19 v16 n g16 cp16 ln (xoF c n 0)) ∧ (AnI (s16) (s18) X19 v18 n y18 (xL n ln c) (xF n ln c)) ∧ (s22 ≤ X19.heap.size) := ⟨(BB).trans (hb.mono hV18), (FI.keep fun k _ h2 => hb.block k (by omega)), (FW.keep fun k _ h2 => hb.block k (by omega)), (Nat.le_trans Fs22 hb.size)⟩
      clear FA FB FP1v FP2 FP2v
      refine rv_ 11 (.bool false) (fun a ee => execNot8 (b := true) rfl (ee _)) (rf_ [(75, .bool false)] (h3_ t0 t3 t4) ?_)
      rintro a A ⟨t75, -⟩ ⟨t0, t3, t4, -⟩
      refine wp_cond_false t75 ?_
      refine wp_skip ?_
      clear t75
      refine wp_seq ?_
      refine wi_ A (h3_ t0 t3 t4) (rc_ 1 (rexchange n v16 (fun t => .slice (some ⟨g16 t, 0, none⟩) (ln t) (cp16 t)) ln (xoF c n 0) X19 (FI.ls) (by omega)) fun e X21 hh => ?_)
      obtain ⟨⟨v77, y77, he, hk⟩, hb⟩ := hh
      refine ⟨_, he, ?_⟩
      have bQ : Below X19.heap.size X19 X21 := hb
      have FN : (Ls X21 v77 n y77 (xL n ln (xoF c n 0)) (xF n ln (xoF c n 0))) := hk.ls (fun t _ => by have := xL_le (n := n) (ln := ln) (c := xoF c n 0) (i := t); omega)
      replace FI := (FI.on bQ)
      replace FW := (FW.on bQ)
      replace Fs22 := (Nat.le_trans Fs22 bQ.size)
      replace BB := BB.trans (bQ.mono BB.size)
      clear bQ
      refine rf_ [(10, v77)] (h3_ t0 t3 t4) ?_
      rintro a A ⟨t10, -⟩ ⟨t0, t3, t4, -⟩
      refine wp_seq ?_
      refine wi_ A (h4_ t0 t3 t4 t10) (rc_ 1 (I.exchange n v16 (fun t => .slice (some ⟨g16 t, 0, none⟩) (ln t) (cp16 t)) ln (xoF c n 0) X21 (FI.ls) (by omega) hln2) fun e X22_1 hh => ?_)
      obtain ⟨⟨v79, y79, he, hk⟩, hb⟩ := hh
      refine ⟨_, he, ?_⟩
      have bQ : Below X21.heap.size X21 X22_1 := hb
      have FY : (Ls X22_1 v79 n y79 (xL n ln (xoF c n 0)) (xF n ln (xoF c n 0))) := hk.ls (fun t _ => by have := xL_le (n := n) (ln := ln) (c := xoF c n 0) (i := t); omega)
      replace FI := (FI.on bQ)
      replace FW := (FW.on bQ)
      replace Fs22 := (Nat.le_trans Fs22 bQ.size)
      replace FN := (FN.on bQ)
      replace BB := BB.trans (bQ.mono BB.size)
      clear bQ
      refine rc_ 3 (alike28 n _ _ _ _ _ _ _ _ X22_1 (FY) (FN) (fun _ _ => ⟨rfl, fun _ _ => rfl⟩) (by omega)) (cb_ fun X22_2 bQ => ?_)
      replace FI := (FI.on bQ)
      replace FW := (FW.on bQ)
      replace Fs22 := (Nat.le_trans Fs22 bQ.size)
      replace FN := (FN.on bQ)
      replace FY := (FY.on bQ)
      replace BB := BB.trans (bQ.mono BB.size)
      clear bQ
      refine rc_ 6 (I.exchange n cv xv ln c X22_2 (hL.on BB) (by omega) hln2) fun e X22_3 hh => ?_
      obtain ⟨⟨v84, y84, he, hk⟩, hb⟩ := hh
      refine ⟨_, he, ?_⟩
      have bQ : Below X22_2.heap.size X22_2 X22_3 := hb
      have FZ : (Ls X22_3 v84 n y84 (xL n ln c) (xF n ln c)) := hk.ls hxl
      replace FI := (FI.on bQ)
      replace FW := (FW.on bQ)
      replace Fs22 := (Nat.le_trans Fs22 bQ.size)
      replace FN := (FN.on bQ)
      replace FY := (FY.on bQ)
      replace BB := BB.trans (bQ.mono BB.size)
      clear bQ
      refine rc_ 8 (alike28 n _ _ _ _ _ _ _ _ X22_3 (FZ) (FW.ls hxl) (fun _ _ => ⟨rfl, fun _ _ => rfl⟩) (by omega)) (cb_ fun X22 bQ => ?_)
      replace FI := (FI.on bQ)
      replace FW := (FW.on bQ)
      replace Fs22 := (Nat.le_trans Fs22 bQ.size)
      replace FN := (FN.on bQ)
      replace FY := (FY.on bQ)
      replace FZ := (FZ.on bQ)
      replace BB := BB.trans (bQ.mono BB.size)
      clear bQ
      refine rg_ [(2, .bool true)] ?_
      rintro a A ⟨t2, -⟩
      refine wp_ret ?_
      repeat (first | with_reducible refine ret_in ?_ | with_reducible refine ret_then ?_)
      refine bodyPost_ret (results_tmp rfl _ _ _) A.2 ⟨?_, BB⟩
      show Ending.returned (a.eval (.tmp 2)) = _
      rw [t2]
  · refine wp_cond_true t14 ?_
    clear t14
    refine wp_seq ?_
    refine wi_ A (h1_ t0) (rg_ [(2, .bool true)] ?_)
    rintro a A ⟨t2, -⟩
    refine wp_ret ?_
    repeat (first | with_reducible refine ret_in ?_ | with_reducible refine ret_then ?_)
    refine bodyPost_ret (results_tmp rfl _ _ _) A.2 ⟨?_, BB⟩
    show Ending.returned (a.eval (.tmp 2)) = _
    rw [t2]
end Go.Proofs.Ytcibogmghagpoaa.Dro
