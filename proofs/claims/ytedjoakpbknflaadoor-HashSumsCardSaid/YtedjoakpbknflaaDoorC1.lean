import Derived.Test.YtedjoakpbknflaaDoorB6
import Derived.Test.YtedjoakpbknflaaDoorC0
namespace Go.Proofs.YtedjoakpbknflaaDoor
open Go.RowKit

/-- A number from 0 to n - 1. -/
def plc (x n : Int) : Int := (if x < 0 then -(x + 1) else x) % n
theorem plc_bd (x n : Int) (hn : 0 < n) : 0 ≤ plc x n ∧ plc x n < n := ⟨Int.emod_nonneg _ (by omega), Int.emod_lt_of_pos _ hn⟩

set_option maxHeartbeats 400000 in
theorem place_any (x n : Int) (w : World) (hx : IntKind.i64.wrap x = x) (hn : 0 < n) (hn1 : n < 4611686018427387904) :
    Calls Tryd.prog 15 #[.int .i64 x, .int .i64 n] w fun e w' => e = .returned (.int .i64 (plc x n)) ∧ w' = w := by
  have hb : -9223372036854775808 ≤ x ∧ x < 9223372036854775808 := by
    rw [← hx]; simp [IntKind.wrap, IntKind.bits, IntKind.signed]; omega
  have HX : Hid (_) := hb
  have HN : Hid (_) := hn1
  clear hb hn1 hx
  by_cases h : x < 0
  · have e1 : IntKind.i64.wrap (x + 1) = x + 1 := by have := HX.out; simp [IntKind.wrap, IntKind.bits, IntKind.signed]; omega
    have e2 : IntKind.i64.wrap (-(x + 1)) = -(x + 1) := by have := HX.out; simp [IntKind.wrap, IntKind.bits, IntKind.signed]; omega
    go_enter Tryd.func15, Tryd.ntmps15
    go_wp2
    go_ret
    refine ⟨?_, rfl⟩
    have e : -(x + 1).tmod n = plc x n := by
      unfold plc
      rw [if_pos h, ← Int.neg_tmod, Int.tmod_eq_emod_of_nonneg (by omega)]
    rw [e]
    rfl
  · go_enter Tryd.func15, Tryd.ntmps15
    go_wp2
    go_ret
    refine ⟨?_, rfl⟩
    unfold plc
    rw [if_neg (by omega)]
    rfl

/-- A []int of n numbers q. -/
structure SliceI (w : World) (v : Value) (n : Nat) (q : Nat → Int) : Prop where
  shape : ∃ a cap, v = .slice a n cap ∧ n ≤ cap ∧ cap < 1152921504606846976 ∧ (0 < n → ∃ b off, a = some ⟨b, off, none⟩ ∧ b < w.heap.size ∧ ∀ j, j < n → w.cell? ⟨b, off + j, none⟩ = some (.int .i64 (q j)))
  fits : ∀ j, j < n → IntKind.i64.wrap (q j) = q j

set_option maxHeartbeats 400000 in
theorem pieces_any (v0 v1 : Value) (len n1 : Nat) (p q : Nat → Int) (w : World) (hG : Glob w) (hbig : len < 1152921504606846976) (h0 : SliceB w v0 len p) (h1 : SliceI w v1 n1 q) :
    Calls Tryd.prog 6 #[v0, v1] w fun e w' => e = .returned (.bool true) ∧ Below w.heap.size w w' := by
  obtain ⟨⟨a0, cap0, rfl, e01, e02, e03⟩, hp0⟩ := h0
  obtain ⟨⟨a1, cap1, rfl, e11, e12, e13⟩, hq1⟩ := h1
  have HG : Hid (_) := hG
  have H0 : Hid (SliceB w (.slice a0 len cap0) len p) := ⟨⟨a0, cap0, rfl, e01, e02, e03⟩, hp0⟩
  have H1 : Hid (_) := e13
  have H2 : Hid (_) := hq1
  have H3 : Hid (_) := hbig
  have H4 : Hid (_) := e01
  have H5 : Hid (_) := e12
  clear hG e01 e02 e03 hp0 e11 e12 e13 hq1 hbig
  have z27 := zero27
  go_enter Tryd.func6, Tryd.ntmps6
  go_wp2_with fail
  refine (alive_any _ HG.out).mono ?_
  rintro e w1 ⟨rfl, hb1⟩
  have q1 : Hid (Below w.heap.size w w1) := hb1
  clear hb1
  go_wp2_with fail
  refine (new_any _).mono ?_
  rintro e w2 ⟨rfl, hb2⟩
  have q2 : Hid (Below w.heap.size w w2) := q1.out.trans (hb2.mono q1.out.size)
  clear hb2 q1
  go_wp2_with (first
    | (refine isStore 27 (.tmp 5) (.tmp 11) rfl ?_; go_must (refine wpList_store_row rfl 27 (.tmp 5) (.tmp 11) rfl w2.heap.size _ rfl rfl 27 _ (heap_alloc_new _ _) (size27' _ _ _) (by simp only [HS.cells, hc_size]) (hc_one _ _ _) ?_; rw [World.setRow_alloc_new]; simp only [Act.put])))
  clear z27
  obtain ⟨B, hB⟩ : ∃ B, B = w2.heap.size := ⟨_, rfl⟩
  obtain ⟨V, hV⟩ : ∃ V, V = w2.alloc (.cells HS.new.cells 27) := ⟨_, rfl⟩
  rw [← hV, ← hB]
  have v1 : Hid (V.heap[B]? = some (.cells HS.new.cells 27)) := by rw [hV, hB]; exact heap_alloc_new _ _
  have v2 : Hid (Below w.heap.size w V) := by rw [hV]; exact q2.out.alloc q2.out.size _
  have v3 : Hid (w.heap.size ≤ B) := by rw [hB]; exact q2.out.size
  clear hV hB q2
  go_loopw [6, 7] (fun at' i W => ∃ m k : Nat, m ≤ len ∧ k ≤ n1 ∧ at' = .int .i64 m ∧ i = .int .i64 k ∧ W.heap[B]? = some (.cells (addN HS.new p m).cells 27) ∧ Below w.heap.size w W) (fun _ i _ => n1 - (intOf i).toNat)
  case atStart => exact ⟨0, 0, by omega, by omega, rfl, rfl, v1.out, v2.out⟩
  case round =>
    obtain ⟨m, k, hm, hk, rfl, rfl, h1, h2⟩ := hrel
    have D1 : Hid (_) := h1
    have D2 : Hid (_) := h2
    clear h1 h2 v1 v2
    by_cases hin : k < n1 ∧ k < 200
    · obtain ⟨hk1, hk2⟩ := hin
      have i1 : (k : Int) < n1 := by omega
      have i2 : (k : Int) < 200 := by omega
      obtain ⟨b1, o1, rfl, hb1, hc1⟩ := H1.out (by omega)
      have ck : wr.cell? ⟨b1, o1 + k, none⟩ = some (.int .i64 (q k)) := by rw [below_cell D2.out hb1]; exact hc1 k hk1
      have HC1 : Hid (_) := hb1
      clear hb1 hc1
      obtain ⟨c, hc⟩ : ∃ c : Nat, (c : Int) = plc (q k) ((len : Int) - m + 1) := ⟨(plc (q k) ((len : Int) - m + 1)).toNat, Int.toNat_of_nonneg (plc_bd _ _ (by omega)).1⟩
      have hc2 : m + c ≤ len := by have := (plc_bd (q k) ((len : Int) - m + 1) (by omega)).2; omega
      have HC : Hid (_) := hc
      clear hc
      have hw1 : wrap64 ((len : Int) - m) = len - m := by have := H3.out; simp [wrap64]; omega
      have hw2 : wrap64 ((len : Int) - m + 1) = len - m + 1 := by have := H3.out; simp [wrap64]; omega
      have hw3 : wrap64 ((m : Int) + c) = ((m + c : Nat) : Int) := by have := H3.out; simp [wrap64]; omega
      have hw4 : IntKind.i64.wrap ((m : Int) + c) = ((m + c : Nat) : Int) := by have := H3.out; simp [IntKind.wrap, IntKind.bits, IntKind.signed]; omega
      go_wp2_with fail
      have hpl := place_any (q k) ((len : Int) - m + 1) wr (H2.out k hk1) (by omega) (by have := H3.out; omega)
      rw [← HC.out] at hpl
      refine hpl.mono ?_
      rintro e w' ⟨rfl, rfl⟩
      clear hpl
      go_wp2_with fail
      have sl1 := slice_lh a0 len cap0 m (m + c) (by omega) (by have := H4.out; omega)
      obtain ⟨sv, hsv⟩ : ∃ sv, sv = sliced a0 m (m + c) cap0 1 := ⟨_, rfl⟩
      rw [← hsv, Int.natCast_add] at sl1
      have SL1 : Hid (_) := sl1
      have SV : Hid (_) := hsv
      clear sl1
      clear hsv
      obtain ⟨t, ht⟩ : ∃ t, t = addN HS.new p m := ⟨_, rfl⟩
      have HT : Hid (_) := ht
      have D1' : Hid (w'.heap[B]? = some (.cells t.cells 27)) := by rw [ht]; exact D1.out
      clear ht
      have svB : Hid (SliceB w sv c (fun j => p (m + j))) := by
        have := H0.out.sub m (m + c) (by omega) (by omega)
        rw [← SV.out, Nat.add_sub_cancel_left] at this
        exact this
      refine wp_region_tail (V := w') (B := w'.heap.size) 8 (by kernel_rfl) (by kernel_rfl) (by kernel_rfl) (by kernel_rfl) (Below.refl _ _) ?_
      simp only [List.take_succ_cons, List.take_zero, List.drop_succ_cons, List.drop_zero]
      refine wpQuiet_load_mid rfl 27 (.tmp 5) rfl B 0 rfl t.cells _ (fun w1 hC => range_g (by rw [Below.block hC _ (by have := (Array.getElem?_eq_some_iff.1 D1'.out).1; exact this)]; exact D1'.out)) Tryd.underlying27 rfl (size27' _ _ _) ?_
      simp only [Act.put, List.setIfInBounds_toArray, List.set_cons_succ, List.set_cons_zero]
      have hsz : Hid (w.heap.size ≤ w'.heap.size) := D2.out.size
      have okT : Hid (t.ok) := by rw [HT.out]; exact ok_addN ok_new fun i hi => H0.out.bytes i (by omega)
      have tn : Hid (t.n = m) := by show t.n = m; rw [HT.out, addN_n]; simp [HS.new]
      quiet_step ((intro _; rfl))
      quiet_step ((intro _; rfl))
      quiet_step ((intro _; rfl))
      quiet_step ((intro _; rfl))
      quiet_step ((intro _; rfl))
      refine wpQuiet_val rfl sv (fun w1 _ => exec_slice_lh (x := .tmp 33) (l := .tmp 34) (h := .tmp 37) rfl rfl rfl rfl (SL1.out w1)) ?_
      simp only [Act.put, List.setIfInBounds_toArray, List.set_cons_succ, List.set_cons_zero]
      quiet_step ((intro hC; exact cb_call hC (Nat.le_refl _) (add_any t sv c (fun j => p (m + j)) _ (HG.out.below (D2.out.trans (Below.mono hC hsz.out)) HG.out.sz) okT.out (by have := tn.out; have := H3.out; omega) (svB.out.below (D2.out.trans (Below.mono hC hsz.out))))))
      refine wpQuiet_nil ?_
      intro w2 hw2
      have g1 : Hid (w2.heap[B]? = some (.cells t.cells 27)) := by rw [Below.block hw2 _ (Array.getElem?_eq_some_iff.1 D1'.out).1]; exact D1'.out
      have g2 : Hid (Below w.heap.size w w2) := D2.out.trans (Below.mono hw2 hsz.out)
      have eT : addN t (fun j => p (m + j)) c = addN HS.new p (m + c) := by rw [addN_add, HT.out]
      rw [eT]
      refine wpList_store_row rfl 27 (.tmp 5) (.tmp 39) rfl B (addN HS.new p (m + c)).cells rfl rfl 27 _ g1.out (size27' _ _ _) (by simp only [HS.cells, hc_size]) (hc_one _ _ _) ?_
      simp only [Act.put]
      obtain ⟨X, hX⟩ : ∃ X, X = w2.setRow B (addN HS.new p (m + c)).cells := ⟨_, rfl⟩
      rw [← hX]
      have x1 : Hid (X.heap[B]? = some (.cells (addN HS.new p (m + c)).cells 27)) := by rw [hX]; exact setRow_heap _ _ _ _ _ _ g1.out
      have x2 : Hid (Below w.heap.size w X) := by rw [hX]; exact below_setRow g2.out v3.out _
      clear hX g1 g2 eT hw2 D1 D2 D1' HT okT tn hsz svB SL1 SV ck
      go_wp2
      obtain ⟨t2, ht2⟩ : ∃ t2, t2 = addN HS.new p (m + c) := ⟨_, rfl⟩
      have X1 : Hid (X.heap[B]? = some (.cells t2.cells 27)) := by rw [ht2]; exact x1.out
      have ok2 : Hid (t2.ok) := by rw [ht2]; exact ok_addN ok_new fun i hi => H0.out.bytes i (by omega)
      have HT2 : Hid (_) := ht2
      clear ht2
      have hszX : Hid (w.heap.size ≤ X.heap.size) := x2.out.size
      have sl2 := slice_h a0 len cap0 (m + c) (by have := H4.out; omega)
      obtain ⟨sv2, hsv2⟩ : ∃ sv, sv = sliced a0 0 (m + c) cap0 1 := ⟨_, rfl⟩
      rw [← hsv2, Int.natCast_add] at sl2
      have SL2 : Hid (_) := sl2
      have svB2 : Hid (SliceB w sv2 (m + c) p) := by
        have := H0.out.sub 0 (m + c) (by omega) hc2
        rw [← hsv2, Nat.sub_zero] at this
        show SliceB w sv2 (m + c) p
        simpa only [Nat.zero_add] using this
      clear sl2 hsv2
      refine wp_region_cb (V := X) (B := X.heap.size) (by kernel_rfl) (by kernel_rfl) (Below.refl _ _) ?_
      refine wpQuiet_load_mid rfl 27 (.tmp 5) rfl B 0 rfl t2.cells _ (fun w1 hC => range_g (by rw [Below.block hC _ (Array.getElem?_eq_some_iff.1 X1.out).1]; exact X1.out)) Tryd.underlying27 rfl (size27' _ _ _) ?_
      simp only [Act.put, List.setIfInBounds_toArray, List.set_cons_succ, List.set_cons_zero]
      quiet_step ((intro hC; exact cb_call hC (Nat.le_refl _) (hsum_any t2 _ (HG.out.below (x2.out.trans (Below.mono hC hszX.out)) HG.out.sz) ok2.out)))
      quiet_step ((intro _; rfl))
      quiet_step ((intro _; rfl))
      refine wpQuiet_val rfl sv2 (fun w1 _ => exec_slice_h (x := .tmp 45) (h := .tmp 46) rfl rfl rfl (SL2.out w1)) ?_
      simp only [Act.put, List.setIfInBounds_toArray, List.set_cons_succ, List.set_cons_zero]
      quiet_step ((intro hC; exact cb_call hC (Nat.le_refl _) (sum_any sv2 (m + c) p _ (HG.out.below (x2.out.trans (Below.mono hC hszX.out)) HG.out.sz) (by have := H3.out; omega) (svB2.out.below (x2.out.trans (Below.mono hC hszX.out))))))
      rw [← HT2.out]
      refine wpQuiet_val rfl (.bool (!eq32 (sumD t2) (sumD t2))) (fun w1 _ => exec_neq28 (x := .tmp 44) (y := .tmp 48) rfl rfl rfl) ?_
      rw [eq32_self]
      simp only [Act.put, List.setIfInBounds_toArray, List.set_cons_succ, List.set_cons_zero]
      refine wpQuiet_nil ?_
      intro w3 hcb
      have y1 : Hid (w3.heap[B]? = some (.cells (addN HS.new p (m + c)).cells 27)) := by rw [← HT2.out, Below.block hcb _ (Array.getElem?_eq_some_iff.1 X1.out).1]; exact X1.out
      have y2 : Hid (Below w.heap.size w w3) := x2.out.trans (Below.mono hcb hszX.out)
      clear hw1 hw2 hw3 hw4 HC hcb x1 x2 X1 ok2 HT2 hszX SL2 svB2
      simp only [Bool.not_true]
      go_wp2
      go_roundw
      case rel => exact ⟨m + c, k + 1, hc2, by omega, by go_num, by go_num, y1.out, y2.out⟩
      case measure => simp [intOf]; omega
    · obtain ⟨t, ht⟩ : ∃ t, t = addN HS.new p m := ⟨_, rfl⟩
      have X1 : Hid (wr.heap[B]? = some (.cells t.cells 27)) := by rw [ht]; exact D1.out
      have okT : Hid (t.ok) := by rw [ht]; exact ok_addN ok_new fun i hi => H0.out.bytes i (by omega)
      have tn : Hid (t.n = m) := by show t.n = m; rw [ht, addN_n]; simp [HS.new]
      have HT : Hid (_) := ht
      clear ht
      have hsz : Hid (w.heap.size ≤ wr.heap.size) := D2.out.size
      have sl3 := slice_l a0 len cap0 m hm
      obtain ⟨sv3, hsv3⟩ : ∃ sv, sv = sliced a0 m len cap0 1 := ⟨_, rfl⟩
      rw [← hsv3] at sl3
      have SL3 : Hid (_) := sl3
      have svB3 : Hid (SliceB w sv3 (len - m) (fun j => p (m + j))) := by
        have := H0.out.sub m len hm (Nat.le_refl _)
        rw [← hsv3] at this
        exact this
      clear sl3 hsv3
      have HIN : Hid (_) := hin
      by_cases hk1 : k < n1
      · have hk2 : ¬ (k : Int) < 200 := by have := HIN.out; omega
        have i1 : (k : Int) < n1 := by omega
        clear hin
        go_wp2
        refine wp_region_cb (V := wr) (B := wr.heap.size) (by kernel_rfl) (by kernel_rfl) (Below.refl _ _) ?_
        refine wpQuiet_load_mid rfl 27 (.tmp 5) rfl B 0 rfl t.cells _ (fun w1 hC => range_g (by rw [Below.block hC _ (Array.getElem?_eq_some_iff.1 X1.out).1]; exact X1.out)) Tryd.underlying27 rfl (size27' _ _ _) ?_
        simp only [Act.put, List.setIfInBounds_toArray, List.set_cons_succ, List.set_cons_zero]
        quiet_step ((intro _; rfl))
        quiet_step ((intro _; rfl))
        refine wpQuiet_val rfl sv3 (fun w1 _ => exec_slice_l (x := .tmp 51) (l := .tmp 52) rfl rfl rfl (SL3.out w1)) ?_
        simp only [Act.put, List.setIfInBounds_toArray, List.set_cons_succ, List.set_cons_zero]
        quiet_step ((intro hC; exact cb_call hC (Nat.le_refl _) (add_any t sv3 (len - m) (fun j => p (m + j)) _ (HG.out.below (D2.out.trans (Below.mono hC hsz.out)) HG.out.sz) okT.out (by have := tn.out; have := H3.out; omega) (svB3.out.below (D2.out.trans (Below.mono hC hsz.out))))))
        have eT : addN t (fun j => p (m + j)) (len - m) = addN HS.new p len := by rw [HT.out, ← addN_add]; congr 1; omega
        rw [eT]
        quiet_step ((intro hC; exact cb_call hC (Nat.le_refl _) (hsum_any (addN HS.new p len) _ (HG.out.below (D2.out.trans (Below.mono hC hsz.out)) HG.out.sz) (ok_addN ok_new H0.out.bytes))))
        quiet_step ((intro _; rfl))
        quiet_step ((intro hC; exact cb_call hC (Nat.le_refl _) (sum_any _ len p _ (HG.out.below (D2.out.trans (Below.mono hC hsz.out)) HG.out.sz) H3.out (H0.out.below (D2.out.trans (Below.mono hC hsz.out))))))
        refine wpQuiet_val rfl (.bool (eq32 (sumD (addN HS.new p len)) (sumD (addN HS.new p len)))) (fun w1 _ => exec_eql28 (x := .tmp 55) (y := .tmp 57) rfl rfl rfl) ?_
        rw [eq32_self]
        simp only [Act.put, List.setIfInBounds_toArray, List.set_cons_succ, List.set_cons_zero]
        quiet_step ((intro _; rfl))
        refine wpQuiet_nil ?_
        intro w3 hcb
        have y2 : Hid (Below w.heap.size w w3) := D2.out.trans (Below.mono hcb hsz.out)
        clear hcb
        go_wp2
        go_ret
        exact ⟨rfl, y2.out⟩
      · have i1 : ¬ (k : Int) < n1 := by omega
        clear hin
        go_wp2
        refine wp_region_cb (V := wr) (B := wr.heap.size) (by kernel_rfl) (by kernel_rfl) (Below.refl _ _) ?_
        refine wpQuiet_load_mid rfl 27 (.tmp 5) rfl B 0 rfl t.cells _ (fun w1 hC => range_g (by rw [Below.block hC _ (Array.getElem?_eq_some_iff.1 X1.out).1]; exact X1.out)) Tryd.underlying27 rfl (size27' _ _ _) ?_
        simp only [Act.put, List.setIfInBounds_toArray, List.set_cons_succ, List.set_cons_zero]
        quiet_step ((intro _; rfl))
        quiet_step ((intro _; rfl))
        refine wpQuiet_val rfl sv3 (fun w1 _ => exec_slice_l (x := .tmp 51) (l := .tmp 52) rfl rfl rfl (SL3.out w1)) ?_
        simp only [Act.put, List.setIfInBounds_toArray, List.set_cons_succ, List.set_cons_zero]
        quiet_step ((intro hC; exact cb_call hC (Nat.le_refl _) (add_any t sv3 (len - m) (fun j => p (m + j)) _ (HG.out.below (D2.out.trans (Below.mono hC hsz.out)) HG.out.sz) okT.out (by have := tn.out; have := H3.out; omega) (svB3.out.below (D2.out.trans (Below.mono hC hsz.out))))))
        have eT : addN t (fun j => p (m + j)) (len - m) = addN HS.new p len := by rw [HT.out, ← addN_add]; congr 1; omega
        rw [eT]
        quiet_step ((intro hC; exact cb_call hC (Nat.le_refl _) (hsum_any (addN HS.new p len) _ (HG.out.below (D2.out.trans (Below.mono hC hsz.out)) HG.out.sz) (ok_addN ok_new H0.out.bytes))))
        quiet_step ((intro _; rfl))
        quiet_step ((intro hC; exact cb_call hC (Nat.le_refl _) (sum_any _ len p _ (HG.out.below (D2.out.trans (Below.mono hC hsz.out)) HG.out.sz) H3.out (H0.out.below (D2.out.trans (Below.mono hC hsz.out))))))
        refine wpQuiet_val rfl (.bool (eq32 (sumD (addN HS.new p len)) (sumD (addN HS.new p len)))) (fun w1 _ => exec_eql28 (x := .tmp 55) (y := .tmp 57) rfl rfl rfl) ?_
        rw [eq32_self]
        simp only [Act.put, List.setIfInBounds_toArray, List.set_cons_succ, List.set_cons_zero]
        quiet_step ((intro _; rfl))
        refine wpQuiet_nil ?_
        intro w3 hcb
        have y2 : Hid (Below w.heap.size w w3) := D2.out.trans (Below.mono hcb hsz.out)
        clear hcb
        go_wp2
        go_ret
        exact ⟨rfl, y2.out⟩
end Go.Proofs.YtedjoakpbknflaaDoor
