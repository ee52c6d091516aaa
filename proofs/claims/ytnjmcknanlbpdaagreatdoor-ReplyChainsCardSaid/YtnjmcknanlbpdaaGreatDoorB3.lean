import Derived.Test.YtnjmcknanlbpdaaGreatDoorB1
namespace Go.Proofs.YtnjmcknanlbpdaaGreatDoor
open Go.RowKit

theorem isCopy {P : Program} {ops : Array Oper} {rest : List Oper} {o : Oper} {a : Act} {w : World} {Q : Exit → Act → World → Prop} (d s : Operand) (_ : o.op = .call { callee := .builtin .copy, args := #[d, s], argTypes := #[22, 22] }) (h : wpList P ops Q (o :: rest) a w) : wpList P ops Q (o :: rest) a w := h
theorem size5 : (Tryz.prog.info? 5).map (·.size) = some 1 := by kernel_rfl

theorem slice24 (b o n : Nat) (W : World) : (Instr.sliceAt 82 (.pointer (some ⟨b, o, none⟩)) (some (.int .i64 ((n : Int) % 64))) none none).run Tryz.prog W = .ok (.slice (some ⟨b, o + n % 64, none⟩) (64 - n % 64) (64 - n % 64)) W := by
  have h1 : ((n : Int) % 64) ≤ 64 := by omega
  have h0 : 0 ≤ ((n : Int) % 64) := by omega
  have h3 : ((n : Int) % 64).toNat = n % 64 := by omega
  have h4 : ¬ 64 = n % 64 := by omega
  simp [Instr.sliceAt, Instr.sureAddr, run_underlying Tryz.underlying82, Instr.sliceBounds, run_sliceBound, go_sem, h0, h1, h3, h4]

theorem slice33 (b o l k c : Nat) (hc : c ≤ l) (W : World) : (Instr.sliceAt 22 (.slice (some ⟨b, o, none⟩) l k) (some (.int .i64 (c : Int))) none none).run Tryz.prog W = .ok (.slice (some ⟨b, if k = c then o else o + c, none⟩) (l - c) (k - c)) W := by
  have h1 : (c : Int) ≤ l := by omega
  have h0 : 0 ≤ (c : Int) := by omega
  by_cases hk : k = c
  · simp [Instr.sliceAt, Instr.slice, run_underlying Tryz.underlying22, Instr.sliceBounds, run_sliceBound, go_sem, hc, hk]
  · simp [Instr.sliceAt, Instr.slice, run_underlying Tryz.underlying22, Instr.sliceBounds, run_sliceBound, go_sem, hc, hk]

set_option maxHeartbeats 400000 in
theorem add_some (s : HS) (b off len cap : Nat) (p : Nat → Int) (w : World) (hG : Glob w) (hs : s.ok) (hcap : len ≤ cap) (hbig : s.n + len < 1152921504606846976) (hb : b < w.heap.size)
    (hp : ∀ j, j < len → w.cell? ⟨b, off + j, none⟩ = some (.int .u8 (p j))) (hpb : ∀ j, j < len → 0 ≤ p j ∧ p j < 256) :
    Calls Tryz.prog 68 #[.agg s.cells, .slice (some ⟨b, off, none⟩) len cap] w fun e w' => e = .returned (.agg (addN s p len).cells) ∧ Below w.heap.size w w' := by
  have HBIG : Hid (_) := hbig
  clear hbig
  have HG : Hid (_) := hG
  have HO : Hid (_) := hs
  have HP : Hid (_) := hp
  have HPB : Hid (_) := hpb
  clear hG hs hp hpb
  have z27 := zero27
  have hz2 := heap2 w (.cells s.cells 85) (.cells (hcells (fun _ => 0) (fun _ => 0) 0) 85)
  have HZ : Hid (_) := hz2
  clear hz2
  go_enter Tryz.func68, Tryz.ntmps68
  go_wp2
  clear z27
  have hVB : Below w.heap.size w ((w.alloc (.cells s.cells 85)).alloc (.cells (hcells (fun _ => 0) (fun _ => 0) 0) 85)) := ((Below.refl _ _).alloc (Nat.le_refl _) _).alloc (by simp) _
  have HV : Hid (_) := hVB
  clear hVB
  go_loopw [1] (fun v W => ∃ m o : Nat, m ≤ len ∧ (m < len → o = off + m) ∧ v = .slice (some ⟨b, o, none⟩) (len - m) (cap - m) ∧ W.heap[w.heap.size]? = some (.cells (addN s p m).cells 85) ∧ W.heap[w.heap.size + 1]? = some (.cells (hcells (fun _ => 0) (fun _ => 0) 0) 85) ∧ Below w.heap.size w W) (fun v _ => match v with | .slice _ l _ => l | _ => 0)
  case atStart => exact ⟨0, off, by omega, fun _ => rfl, rfl, HZ.out.1, HZ.out.2, HV.out⟩
  case round =>
    obtain ⟨m, o, hm, ho, rfl, h1, h2, h3⟩ := hrel
    have HO' : Hid (_) := ho
    clear ho
    have D1 : Hid (_) := h1
    have D2 : Hid (_) := h2
    have D3 : Hid (_) := h3
    clear h1 h2 h3 HZ HV
    by_cases hlt : m < len
    · obtain ⟨t, ht⟩ : ∃ t, t = addN s p m := ⟨_, rfl⟩
      have hn := addN_n s p m
      rw [← ht] at hn
      have HT : Hid (_) := ht
      have HN : Hid (_) := hn
      have q0 : wr.cell? ⟨w.heap.size, 72, none⟩ = some (.int .u64 (t.n : Int)) := by
        rw [cell_of_row _ _ _ _ _ _ D1.out, ht]; exact hc_n _ _ _
      have D1' : Hid (wr.heap[w.heap.size]? = some (.cells (hcells t.g t.r t.n) 85)) := by rw [ht]; exact D1.out
      have b0 : (0 : Int) < ((len - m : Nat) : Int) := by omega
      have sl1 := slice24 w.heap.size 8 t.n
      obtain ⟨c, hc⟩ : ∃ c, c = Nat.min (len - m) (64 - t.n % 64) := ⟨_, rfl⟩
      have hc1 : c ≤ len - m := by rw [hc]; exact Nat.min_le_left _ _
      have hc3 : t.n % 64 + c ≤ 64 := by
        have : c ≤ 64 - t.n % 64 := by rw [hc]; exact Nat.min_le_right _ _
        omega
      have hc4 : 0 < c := by rw [hc]; exact Nat.lt_min.2 ⟨by omega, by omega⟩
      have sl2 := slice33 b o (len - m) (cap - m) c hc1
      obtain ⟨o2, ho2⟩ : ∃ o2, o2 = if cap - m = c then o else o + c := ⟨_, rfl⟩
      rw [← ho2] at sl2
      have HO2 : Hid (_) := ho2
      have HC : Hid (_) := hc
      clear ht hn hc ho2
      have hsrc : Hid (∀ j v, (chunk c (fun i => p (m + i)))[j]? = some v → wr.cell? ((⟨b, o, none⟩ : Addr).add j) = some v) := by
        intro j v hv
        obtain ⟨hj, rfl⟩ := chunk_get hv
        rw [Addr.add_mid, HO'.out hlt, D3.out.cell (p := ⟨b, off + m + j, none⟩) hb, Nat.add_assoc]
        exact HP.out (m + j) (by omega)
      have wn : IntKind.u64.wrap ((t.n : Int) + (c : Int)) = ((t.n + c : Nat) : Int) := by
        have h1 := HN.out
        have h2 := HBIG.out
        simp [IntKind.wrap, IntKind.bits, IntKind.signed]; omega
      have bc : (c : Int) ≤ 64 := by omega
      by_cases hfull : t.n % 64 + c = 64
      · have t64 : (t.n : Int) % 64 + (c : Int) = 64 := by omega
        go_wp2_with (first
          | (refine isCopy (.tmp 16) (.tmp 17) rfl ?_; go_must (refine wpList_copy_own rfl (.tmp 16) (.tmp 17) 22 22 rfl 5 Tryz.underlying22 size5 w.heap.size (8 + t.n % 64) (64 - t.n % 64) _ ⟨b, o, none⟩ (len - m) (cap - m) rfl rfl (hcells t.g t.r t.n) 85 D1'.out (chunk c (fun i => p (m + i))) (by rw [chunk_len]; exact HC.out) hsrc.out (by rw [chunk_len, hc_size]; omega) (chunk_one _ _) ?_; rw [copied _ _ _ _ _ _ (by omega), chunk_len]; simp only [Act.put, List.setIfInBounds_toArray, List.set_cons_succ, List.set_cons_zero]; obtain ⟨V, hV⟩ : ∃ V, V = wr.setRow w.heap.size (hcells t.g (overlay t.r (t.n % 64) c (fun i => p (m + i))) t.n) := ⟨_, rfl⟩; rw [← hV]; have V1 : Hid (V.heap[w.heap.size]? = some (.cells (hcells t.g (overlay t.r (t.n % 64) c (fun i => p (m + i))) t.n) 85)) := (by rw [hV]; exact setRow_heap _ _ _ _ _ _ D1'.out); have V2 : Hid (V.heap[w.heap.size + 1]? = some (.cells (hcells (fun _ => 0) (fun _ => 0) 0) 85)) := (by rw [hV, setRow_other _ _ _ _ (by omega)]; exact D2.out); have V3 : Hid (Below w.heap.size w V) := (by rw [hV]; exact below_setRow D3.out (Nat.le_refl _) _); have v4 : V.cell? ⟨w.heap.size, 72, none⟩ = some (.int .u64 (t.n : Int)) := (by rw [cell_of_row _ _ _ _ _ _ V1.out]; exact hc_n _ _ _); have v5 : V.frozen? ⟨w.heap.size, 72, none⟩ = false := frozen_of_row V1.out; clear hV))
          | (refine isLoad 85 (.tmp 2) rfl ?_; have U1 : Hid ((V.setCell ⟨w.heap.size, 72, none⟩ (.int .u64 ((t.n : Int) + (c : Int)))).heap[w.heap.size]? = some (.cells (hcells t.g (overlay t.r (t.n % 64) c (fun i => p (m + i))) ((t.n : Int) + (c : Int))) 85)) := (by rw [heap_setCell_row _ V1.out, hc_set_n]; exact rfl); go_must (refine wpList_load_row rfl 85 (.tmp 2) rfl w.heap.size rfl 85 _ (0, 0) _ U1.out Tryz.underlying85 rfl (size27' _ _ _) ?_; simp only [Act.put, List.setIfInBounds_toArray, List.set_cons_succ, List.set_cons_zero])))
        have U2 : Hid ((V.setCell ⟨w.heap.size, 72, none⟩ (.int .u64 ((t.n : Int) + (c : Int)))).heap[w.heap.size + 1]? = some (.cells (hcells (fun _ => 0) (fun _ => 0) 0) 85)) := by
          rw [Below.heap_setCell _ _ _ _ (by simp)]; exact V2.out
        have U3 : Hid (Below w.heap.size w (V.setCell ⟨w.heap.size, 72, none⟩ (.int .u64 ((t.n : Int) + (c : Int))))) := V3.out.setCell (by simp) _
        have okO := ok_overlay (h := t.n % 64) (c := c) (q := fun i => p (m + i)) (r := t.r) (by rw [HT.out]; exact ok_addN HO.out fun i hi => HPB.out i (by omega)) (fun i hi => HPB.out (m + i) (by omega))
        refine (workedIn_any _ _ _ _ (HG.out.below U3.out HG.out.sz) okO.1 okO.2).mono ?_
        rintro e w2 ⟨rfl, hb2⟩
        have HB2 : Hid (_) := hb2
        clear hb2 okO
        have hw2 : w.heap.size + 2 ≤ (V.setCell ⟨w.heap.size, 72, none⟩ (.int .u64 ((t.n : Int) + (c : Int)))).heap.size := by
          have := (Array.getElem?_eq_some_iff.1 U2.out).1; omega
        have W1 : Hid (w2.heap[w.heap.size]? = some (.cells (hcells t.g (overlay t.r (t.n % 64) c (fun i => p (m + i))) ((t.n : Int) + (c : Int))) 85)) := by rw [HB2.out.block _ (by omega), heap_setCell_row _ V1.out, hc_set_n]; exact rfl
        have W2 : Hid (w2.heap[w.heap.size + 1]? = some (.cells (hcells (fun _ => 0) (fun _ => 0) 0) 85)) := by rw [HB2.out.block _ (by omega)]; exact U2.out
        have W3 : Hid (Below w.heap.size w w2) := U3.out.trans (HB2.out.mono (by omega))
        clear hw2 U2 U3 HB2
        go_wp2_with (first
          | (refine isStore 85 (.tmp 2) (.tmp 33) rfl ?_; go_must (refine wpList_store_row rfl 85 (.tmp 2) (.tmp 33) rfl w.heap.size _ rfl rfl 85 _ W1.out (size27' _ _ _) (by simp only [hc_size]) (hc_one _ _ _) ?_; simp only [Act.put])))
        go_roundw
        case rel =>
          refine ⟨m + c, o2, by omega, ?_, by simp [Nat.sub_sub], ?_, ?_, ?_⟩
          · intro h
            rw [HO2.out, HO'.out hlt, if_neg (by omega), Nat.add_assoc]
          · rw [addN_add, ← HT.out, addN_full t _ c hfull hc4]
            exact setRow_heap _ _ _ _ _ _ W1.out
          · rw [setRow_other _ _ _ _ (by omega)]; exact W2.out
          · exact below_setRow W3.out (Nat.le_refl _) _
        case measure => simp; omega
      · have t64 : ((t.n : Int) % 64 + (c : Int) == 64) = false := by simp; omega
        go_wp2_with (first
          | (refine isCopy (.tmp 16) (.tmp 17) rfl ?_; go_must (refine wpList_copy_own rfl (.tmp 16) (.tmp 17) 22 22 rfl 5 Tryz.underlying22 size5 w.heap.size (8 + t.n % 64) (64 - t.n % 64) _ ⟨b, o, none⟩ (len - m) (cap - m) rfl rfl (hcells t.g t.r t.n) 85 D1'.out (chunk c (fun i => p (m + i))) (by rw [chunk_len]; exact HC.out) hsrc.out (by rw [chunk_len, hc_size]; omega) (chunk_one _ _) ?_; rw [copied _ _ _ _ _ _ (by omega), chunk_len]; simp only [Act.put, List.setIfInBounds_toArray, List.set_cons_succ, List.set_cons_zero]; obtain ⟨V, hV⟩ : ∃ V, V = wr.setRow w.heap.size (hcells t.g (overlay t.r (t.n % 64) c (fun i => p (m + i))) t.n) := ⟨_, rfl⟩; rw [← hV]; have V1 : Hid (V.heap[w.heap.size]? = some (.cells (hcells t.g (overlay t.r (t.n % 64) c (fun i => p (m + i))) t.n) 85)) := (by rw [hV]; exact setRow_heap _ _ _ _ _ _ D1'.out); have V2 : Hid (V.heap[w.heap.size + 1]? = some (.cells (hcells (fun _ => 0) (fun _ => 0) 0) 85)) := (by rw [hV, setRow_other _ _ _ _ (by omega)]; exact D2.out); have V3 : Hid (Below w.heap.size w V) := (by rw [hV]; exact below_setRow D3.out (Nat.le_refl _) _); have v4 : V.cell? ⟨w.heap.size, 72, none⟩ = some (.int .u64 (t.n : Int)) := (by rw [cell_of_row _ _ _ _ _ _ V1.out]; exact hc_n _ _ _); have v5 : V.frozen? ⟨w.heap.size, 72, none⟩ = false := frozen_of_row V1.out; clear hV))
          | fail)
        go_roundw
        case rel =>
          refine ⟨m + c, o2, by omega, ?_, by simp [Nat.sub_sub], ?_, ?_, ?_⟩
          · intro h
            rw [HO2.out, HO'.out hlt, if_neg (by omega), Nat.add_assoc]
          · rw [addN_add, ← HT.out, addN_part t _ c (by omega), heap_setCell_row _ V1.out, hc_set_n]
            rfl
          · rw [Below.heap_setCell _ _ _ _ (by simp)]; exact V2.out
          · exact V3.out.setCell (by simp) _
        case measure => simp; omega
    · go_wp2_with (first
        | (refine isLoad 85 (.tmp 2) rfl ?_; refine wpList_load_row rfl 85 (.tmp 2) rfl w.heap.size rfl 85 _ (0, 0) _ D1.out Tryz.underlying85 rfl (size27' _ _ _) ?_; simp only [Act.put, List.setIfInBounds_toArray, List.set_cons_succ, List.set_cons_zero])
        | (refine isStore 85 (.tmp 4) (.tmp 34) rfl ?_; refine wpList_store_row rfl 85 (.tmp 4) (.tmp 34) rfl (w.heap.size + 1) _ rfl rfl 85 _ D2.out (size27' _ _ _) (by simp only [HS.cells, hc_size]) (hc_one _ _ _) ?_))
      refine bodyPost_ret (v := .agg (addN s p m).cells) (results_cell_row Tryz.results68 _ _ (w.heap.size + 1) 85 _ (0, 0) _ rfl (setRow_heap _ _ _ _ _ _ D2.out) Tryz.underlying85 rfl (size27' _ _ _)) rfl ⟨?_, ?_⟩
      · rw [show m = len by omega]
      · exact below_setRow D3.out (by omega) _

set_option maxHeartbeats 400000 in
/-- Nothing is taken in. -/
theorem add_none (s : HS) (a : Option Addr) (cap : Nat) (w : World) :
    Calls Tryz.prog 68 #[.agg s.cells, .slice a 0 cap] w fun e w' => e = .returned (.agg s.cells) ∧ Below w.heap.size w w' := by
  have z27 := zero27
  have hz2 := heap2 w (.cells s.cells 85) (.cells (hcells (fun _ => 0) (fun _ => 0) 0) 85)
  have HZ : Hid (_) := hz2
  clear hz2
  go_enter Tryz.func68, Tryz.ntmps68
  go_wp2
  clear z27
  have hVB : Below w.heap.size w ((w.alloc (.cells s.cells 85)).alloc (.cells (hcells (fun _ => 0) (fun _ => 0) 0) 85)) := ((Below.refl _ _).alloc (Nat.le_refl _) _).alloc (by simp) _
  have HV : Hid (_) := hVB
  clear hVB
  go_loopw [1] (fun v W => v = .slice a 0 cap ∧ W.heap[w.heap.size]? = some (.cells s.cells 85) ∧ W.heap[w.heap.size + 1]? = some (.cells (hcells (fun _ => 0) (fun _ => 0) 0) 85) ∧ Below w.heap.size w W) (fun _ _ => 0)
  case atStart => exact ⟨rfl, HZ.out.1, HZ.out.2, HV.out⟩
  case round =>
    obtain ⟨rfl, h1, h2, h3⟩ := hrel
    have D1 : Hid (_) := h1
    have D2 : Hid (_) := h2
    have D3 : Hid (_) := h3
    clear h1 h2 h3 HZ HV
    go_wp2_with (first
        | (refine isLoad 85 (.tmp 2) rfl ?_; refine wpList_load_row rfl 85 (.tmp 2) rfl w.heap.size rfl 85 _ (0, 0) _ D1.out Tryz.underlying85 rfl (size27' _ _ _) ?_; simp only [Act.put, List.setIfInBounds_toArray, List.set_cons_succ, List.set_cons_zero])
        | (refine isStore 85 (.tmp 4) (.tmp 34) rfl ?_; refine wpList_store_row rfl 85 (.tmp 4) (.tmp 34) rfl (w.heap.size + 1) _ rfl rfl 85 _ D2.out (size27' _ _ _) (by simp only [HS.cells, hc_size]) (hc_one _ _ _) ?_))
    refine bodyPost_ret (v := .agg s.cells) (results_cell_row Tryz.results68 _ _ (w.heap.size + 1) 85 _ (0, 0) _ rfl (setRow_heap _ _ _ _ _ _ D2.out) Tryz.underlying85 rfl (size27' _ _ _)) rfl ⟨rfl, ?_⟩
    exact below_setRow D3.out (by omega) _
end Go.Proofs.YtnjmcknanlbpdaaGreatDoor

namespace Go.Proofs.YtnjmcknanlbpdaaGreatDoor
open Go.RowKit

/-- A []byte of len bytes p. -/
structure SliceB (w : World) (v : Value) (len : Nat) (p : Nat → Int) : Prop where
  shape : ∃ a cap, v = .slice a len cap ∧ len ≤ cap ∧ cap < 9223372036854775808 ∧ (0 < len → ∃ b off, a = some ⟨b, off, none⟩ ∧ b < w.heap.size ∧ ∀ j, j < len → w.cell? ⟨b, off + j, none⟩ = some (.int .u8 (p j)))
  bytes : ∀ j, j < len → 0 ≤ p j ∧ p j < 256
theorem SliceB.below {w w' : World} {v : Value} {len : Nat} {p : Nat → Int} (h : SliceB w v len p) (hb : Below w.heap.size w w') : SliceB w' v len p := by
  obtain ⟨⟨a, cap, e, h1, h2, h3⟩, hp⟩ := h
  refine ⟨⟨a, cap, e, h1, h2, fun h0 => ?_⟩, hp⟩
  obtain ⟨b, off, e1, e2, e3⟩ := h3 h0
  exact ⟨b, off, e1, Nat.lt_of_lt_of_le e2 hb.size, fun j hj => by rw [below_cell hb e2]; exact e3 j hj⟩

theorem add_any (s : HS) (v : Value) (len : Nat) (p : Nat → Int) (w : World) (hG : Glob w) (hs : s.ok) (hbig : s.n + len < 1152921504606846976) (hv : SliceB w v len p) :
    Calls Tryz.prog 68 #[.agg s.cells, v] w fun e w' => e = .returned (.agg (addN s p len).cells) ∧ Below w.heap.size w w' := by
  obtain ⟨⟨a, cap, rfl, h1, h2, h3⟩, hp⟩ := hv
  by_cases h0 : 0 < len
  · obtain ⟨b, off, rfl, e2, e3⟩ := h3 h0
    exact add_some s b off len cap p w hG hs h1 hbig e2 e3 hp
  · obtain rfl : len = 0 := by omega
    exact add_none s a cap w

set_option maxHeartbeats 400000 in
theorem sum_any (v : Value) (len : Nat) (p : Nat → Int) (w : World) (hG : Glob w) (hbig : len < 1152921504606846976) (hv : SliceB w v len p) :
    Calls Tryz.prog 83 #[v] w fun e w' => e = .returned (.agg (tab8 32 (sumD (addN HS.new p len)))) ∧ Below w.heap.size w w' := by
  have HG : Hid (_) := hG
  have HV : Hid (_) := hv
  have HB : Hid (_) := hbig
  clear hG hv hbig
  have z28 := zero28
  go_enter Tryz.func83, Tryz.ntmps83
  go_wp2_with fail
  clear z28
  have b0 : Hid (Below w.heap.size w (w.alloc (.cells (tab8 32 (fun _ => 0)) 57))) := (Below.refl _ _).alloc (Nat.le_refl _) _
  refine (new_any _).mono ?_
  rintro e w1 ⟨rfl, hb1⟩
  have B1 : Hid (Below (w.heap.size + 1) (w.alloc (.cells (tab8 32 (fun _ => 0)) 57)) w1) := by
    have hsz : (w.alloc (.cells (tab8 32 (fun _ => 0)) 57)).heap.size = w.heap.size + 1 := by simp
    rw [← hsz]; exact hb1
  clear hb1
  have s1 : Hid (w.heap.size + 1 ≤ w1.heap.size) := by
    show w.heap.size + 1 ≤ w1.heap.size
    have := B1.out.size
    simpa using this
  have c1 : Hid (Below w.heap.size w w1) := b0.out.trans (B1.out.mono (by omega))
  go_wp2_with fail
  refine (add_any HS.new v len p _ (HG.out.below c1.out HG.out.sz) ok_new (by simpa [HS.new] using HB.out) (HV.out.below c1.out)).mono ?_
  rintro e w2 ⟨rfl, hb2⟩
  have B2 : Hid (Below (w.heap.size + 1) w1 w2) := hb2.mono s1.out
  clear hb2
  go_wp2_with fail
  refine (hsum_any _ _ (HG.out.below (c1.out.trans (B2.out.mono (by omega))) HG.out.sz) (ok_addN ok_new HV.out.bytes)).mono ?_
  rintro e w3 ⟨rfl, hb3⟩
  have B3 : Hid (Below (w.heap.size + 1) w2 w3) := hb3.mono (Nat.le_trans s1.out B2.out.size)
  clear hb3
  have r3 : Hid (w3.heap[w.heap.size]? = some (.cells (tab8 32 (fun _ => 0)) 57)) := by
    rw [B3.out.block _ (by omega), B2.out.block _ (by omega), B1.out.block _ (by omega)]; exact heap_alloc_new _ _
  have c3 : Hid (Below w.heap.size w w3) := (c1.out.trans (B2.out.mono (by omega))).trans (B3.out.mono (by omega))
  clear B1 B2 B3 s1 c1 b0 HG HV HB
  go_wp2_with (first
    | (refine isStore 57 (.tmp 2) (.tmp 6) rfl ?_; refine wpList_store_row rfl 57 (.tmp 2) (.tmp 6) rfl w.heap.size _ rfl rfl 57 _ r3.out (size28' _) (by simp only [tab8_size]) (tab8_one _ _) ?_))
  refine bodyPost_ret (v := .agg (tab8 32 (sumD (addN HS.new p len)))) (results_cell_row Tryz.results83 _ _ w.heap.size 57 _ (0, 0) _ rfl (setRow_heap _ _ _ _ _ _ r3.out) Tryz.underlying57 rfl (size28' _)) rfl ⟨rfl, ?_⟩
  exact below_setRow c3.out (Nat.le_refl _) _
end Go.Proofs.YtnjmcknanlbpdaaGreatDoor
