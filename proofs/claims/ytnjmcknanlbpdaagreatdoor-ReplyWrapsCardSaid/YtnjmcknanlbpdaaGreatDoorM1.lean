import Derived.Test.YtnjmcknanlbpdaaGreatDoorA7
import Derived.Test.YtnjmcknanlbpdaaGreatDoorK0
import Derived.Test.YtnjmcknanlbpdaaGreatDoorK7
namespace Go.Proofs.YtnjmcknanlbpdaaGreatDoor
open Go.RowKit

theorem zero24 : ∀ w, (zeroValue 82).run Tryz.prog w = .ok (.agg (tab8 64 (fun _ => 0))) w :=
  (zero_of_info (n := 64) (by kernel_rfl)).1
theorem slice64 (b : Nat) (W : World) : (Instr.sliceAt 82 (.pointer (some ⟨b, 0, none⟩)) none none none).run Tryz.prog W = .ok (.slice (some ⟨b, 0, none⟩) 64 64) W := by
  simp [Instr.sliceAt, Instr.sureAddr, run_underlying Tryz.underlying82, Instr.sliceBounds, go_sem]
theorem slice32 (b : Nat) (W : World) : (Instr.sliceAt 57 (.pointer (some ⟨b, 0, none⟩)) none none none).run Tryz.prog W = .ok (.slice (some ⟨b, 0, none⟩) 32 32) W := by
  simp [Instr.sliceAt, Instr.sureAddr, run_underlying Tryz.underlying57, Instr.sliceBounds, go_sem]
/-- The key's block. -/
def kB (p : Nat → Int) (l : Nat) : Nat → Int := if l ≤ 64 then upto p l else upto (sumD (addN HS.new p l)) 32
/-- Each byte turned. -/
def xk (f : Nat → Int) (m : Int) : Nat → Int := fun i => bits .xor .u8 (f i) m
theorem bits_bd (x y : Int) : 0 ≤ bits .xor .u8 x y ∧ bits .xor .u8 x y < 256 := by
  have e : ∀ x : Int, 0 ≤ IntKind.u8.wrap x ∧ IntKind.u8.wrap x < 256 := fun x => by simp [IntKind.wrap, IntKind.bits, IntKind.signed]; omega
  exact e _
/-- A row of the call's own is a []byte. -/
theorem sliceB_row {w : World} {g N : Nat} {f : Nat → Int} {t : TypeId} {fr : Nat × Nat} (h : w.heap[g]? = some (.cells (tab8 N f) t fr)) (hN : N < 1000) (hb : ∀ j, j < N → 0 ≤ f j ∧ f j < 256) : SliceB w (.slice (some ⟨g, 0, none⟩) N N) N f := by
  refine ⟨⟨_, _, rfl, Nat.le_refl _, by omega, fun _ => ⟨g, 0, rfl, (Array.getElem?_eq_some_iff.1 h).1, fun j hj => ?_⟩⟩, hb⟩
  rw [cell_of_row _ _ _ _ _ _ h, Nat.zero_add]
  exact tab8_get N f j hj
theorem sumD_bd (s : HS) (j : Nat) : 0 ≤ sumD s j ∧ sumD s j < 256 := by
  unfold sumD digB
  exact ⟨by omega, by omega⟩
theorem tab8_copied (N : Nat) (f : Nat → Int) (off c : Nat) (q : Nat → Int) (h : off + c ≤ N) : ((tab8 N f).toList.take off ++ (chunk c q ++ (tab8 N f).toList.drop (off + (chunk c q).length))).toArray = tab8 N (overlay f off c q) := by
  have hl : (tab8 N f).toList.length = N := by simp [tab8_size]
  have hk := chunk_len c q
  apply Array.ext_getElem?
  intro i
  rw [hk]
  simp only [List.getElem?_toArray]
  by_cases h1 : i < off
  · rw [List.getElem?_append_left (by simp [hl]; omega), List.getElem?_take, if_pos h1, Array.getElem?_toList, tab8_get N f i (by omega), tab8_get N _ i (by omega)]
    simp [overlay, show ¬ off ≤ i by omega]
  · by_cases h2 : i < off + c
    · rw [List.getElem?_append_right (by simp [hl]; omega), List.length_take, hl, Nat.min_eq_left (by omega), List.getElem?_append_left (by rw [hk]; omega), tab8_get N _ i (by omega)]
      simp [chunk, overlay, show i - off < c by omega, show off ≤ i by omega, h2]
    · rw [List.getElem?_append_right (by simp [hl]; omega), List.length_take, hl, Nat.min_eq_left (by omega), List.getElem?_append_right (by rw [hk]; omega), hk, List.getElem?_drop, show off + c + (i - off - c) = i by omega, Array.getElem?_toList]
      by_cases h3 : i < N
      · rw [tab8_get N f i h3, tab8_get N _ i h3]
        simp [overlay, h2]
      · rw [Array.getElem?_eq_none (by rw [tab8_size]; omega), Array.getElem?_eq_none (by rw [tab8_size]; omega)]

/-- copy into a row of bytes that is known whole, from whatever list of bytes. -/
theorem wpList_copyB {w : World} {ops : Array Oper} {rest : List Oper} {o : Oper} {a : Act} {Q : Exit → Act → World → Prop} (hgd : o.guard = none) (d s : Operand)
    (ho : o.op = .call { callee := .builtin .copy, args := #[d, s], argTypes := #[22, 22] }) (g off N c dl dc : Nat) (f : Nat → Int) (t : TypeId) (hd : a.eval d = .slice (some ⟨g, off, none⟩) dl dc)
    {v : Value} {len : Nat} {p : Nat → Int} (hs : a.eval s = v) (hv : SliceB w v len p) (hg : w.heap[g]? = some (.cells (tab8 N f) t)) (hc : c = Nat.min len dl) (hfit : off + c ≤ N)
    (h : ∀ w', w'.heap[g]? = some (.cells (tab8 N (overlay f off c p)) t) → (∀ k, k ≠ g → w'.heap[k]? = w.heap[k]?) → Below g w w' → wpList Tryz.prog ops Q rest (a.put o.dst (.int .i64 (c : Int))) w') : wpList Tryz.prog ops Q (o :: rest) a w := by
  obtain ⟨⟨ao, cap, rfl, h1, h2, h3⟩, hp⟩ := hv
  by_cases h0 : 0 < len ∧ 0 < c
  · obtain ⟨b, so, rfl, hb, hcell⟩ := h3 h0.1
    refine wpList_copy_own hgd d s 22 22 ho 5 Tryz.underlying22 size5 g off dl dc ⟨b, so, none⟩ len cap hd hs (tab8 N f) t hg (chunk c p) (by rw [chunk_len]; exact hc) ?_ (by rw [chunk_len, tab8_size]; exact hfit) (chunk_one _ _) ?_
    · intro j u hu
      obtain ⟨hj, rfl⟩ := chunk_get hu
      rw [Addr.add_mid]
      have : c ≤ len := by rw [hc]; exact Nat.min_le_left _ _
      exact hcell j (by omega)
    · rw [tab8_copied N f off c p hfit, chunk_len]
      exact h _ (setRow_heap _ _ _ _ _ _ hg) (fun k hk => setRow_other _ _ _ _ hk) (below_setRow (Below.refl _ _) (Nat.le_refl _) _)
  · have hc0 : c = 0 := by
      by_cases e : 0 < len
      · have : ¬ 0 < c := fun x => h0 ⟨e, x⟩
        omega
      · have : c ≤ len := by rw [hc]; exact Nat.min_le_left _ _
        omega
    subst hc0
    refine wpList_copy_nothing hgd d s 22 22 ho 5 Tryz.underlying22 size5 _ _ dl dc len cap hd hs hc.symm ?_
    refine h w ?_ (fun _ _ => rfl) (Below.refl _ _)
    rw [overlay_zero]; exact hg

theorem over_upto (p : Nat → Int) (l : Nat) : overlay (fun _ => 0) 0 l p = upto p l := by
  funext i
  simp [overlay, upto]

set_option maxHeartbeats 400000 in
theorem keyBlock_any (v : Value) (len : Nat) (p : Nat → Int) (w : World) (hG : Glob w) (hbig : len < 1152921504606846976) (hv : SliceB w v len p) :
    Calls Tryz.prog 66 #[v] w fun e w' => e = .returned (.agg (tab8 64 (kB p len))) ∧ Below w.heap.size w w' := by
  obtain ⟨⟨a0, cap0, rfl, e01, e02, e03⟩, hp0⟩ := hv
  have HG : Hid (_) := hG
  have H0 : Hid (SliceB w (.slice a0 len cap0) len p) := ⟨⟨a0, cap0, rfl, e01, e02, e03⟩, hp0⟩
  have H3 : Hid (_) := hbig
  clear hG e01 e02 e03 hp0 hbig
  have z24 := zero24
  have z28 := zero28
  have hz2 := heap2 w (.cells (tab8 64 (fun _ => 0)) 82) (.cells (tab8 64 (fun _ => 0)) 82)
  have HZ : Hid (_) := hz2
  clear hz2
  have s64 := slice64
  have hVB : Below w.heap.size w ((w.alloc (.cells (tab8 64 (fun _ => 0)) 82)).alloc (.cells (tab8 64 (fun _ => 0)) 82)) := ((Below.refl _ _).alloc (Nat.le_refl _) _).alloc (by simp) _
  have HV : Hid (_) := hVB
  clear hVB
  by_cases hle : len ≤ 64
  · have i1 : (len : Int) ≤ 64 := by omega
    have HLE : Hid (len ≤ 64) := hle
    clear hle
    go_enter Tryz.func66, Tryz.ntmps66
    go_wp2_with (first
      | (refine isCopy (.tmp 8) (.tmp 9) rfl ?_; go_must (refine wpList_copyB rfl (.tmp 8) (.tmp 9) rfl (w.heap.size + 1) 0 64 len 64 64 (fun _ => 0) 82 rfl rfl (H0.out.below HV.out) HZ.out.2 (Nat.min_eq_left HLE.out).symm (by have := HLE.out; omega) ?_; intro w1 h1 h2 h3; rw [over_upto] at h1; simp only [Act.put, List.setIfInBounds_toArray, List.set_cons_succ, List.set_cons_zero]; have R1 : Hid (w1.heap[w.heap.size + 1]? = some (.cells (tab8 64 (upto p len)) 82)) := h1; have R0 : Hid (w1.heap[w.heap.size]? = some (.cells (tab8 64 (fun _ => 0)) 82)) := (by rw [h2 _ (by omega)]; exact HZ.out.1); have RB : Hid (Below w.heap.size w w1) := HV.out.trans (h3.mono (by omega)); clear h1 h2 h3))
      | (refine isLoad 82 (.tmp 3) rfl ?_; go_must (refine wpList_load_row rfl 82 (.tmp 3) rfl (w.heap.size + 1) rfl 82 _ (0, 0) _ R1.out Tryz.underlying82 rfl (size24' _) ?_; simp only [Act.put, List.setIfInBounds_toArray, List.set_cons_succ, List.set_cons_zero]))
      | (refine isStore 82 (.tmp 2) (.tmp 11) rfl ?_; go_must (refine wpList_store_row rfl 82 (.tmp 2) (.tmp 11) rfl w.heap.size _ rfl rfl 82 _ R0.out (size24' _) (by simp only [tab8_size]) (tab8_one _ _) ?_)))
    refine bodyPost_ret (v := .agg (tab8 64 (upto p len))) (results_cell_row Tryz.results66 _ _ w.heap.size 82 _ (0, 0) _ rfl (setRow_heap _ _ _ _ _ _ R0.out) Tryz.underlying82 rfl (size24' _)) rfl ⟨?_, ?_⟩
    · unfold kB; rw [if_pos HLE.out]
    · exact below_setRow RB.out (Nat.le_refl _) _
  · have i1 : ¬ (len : Int) ≤ 64 := by omega
    have HLE : Hid (¬ len ≤ 64) := hle
    clear hle
    go_enter Tryz.func66, Tryz.ntmps66
    go_wp2_with fail
    obtain ⟨D, hD⟩ : ∃ D, D = sumD (addN HS.new p len) := ⟨_, rfl⟩
    have hs := sum_any (.slice a0 len cap0) len p ((w.alloc (.cells (tab8 64 (fun _ => 0)) 82)).alloc (.cells (tab8 64 (fun _ => 0)) 82)) (HG.out.below HV.out HG.out.sz) H3.out (H0.out.below HV.out)
    rw [← hD] at hs
    refine hs.mono ?_
    rintro e w1 ⟨rfl, hb1⟩
    have HB1 : Hid (Below (w.heap.size + 2) ((w.alloc (.cells (tab8 64 (fun _ => 0)) 82)).alloc (.cells (tab8 64 (fun _ => 0)) 82)) w1) := by
      have hsz : ((w.alloc (.cells (tab8 64 (fun _ => 0)) 82)).alloc (.cells (tab8 64 (fun _ => 0)) 82)).heap.size = w.heap.size + 2 := by simp
      rw [← hsz]; exact hb1
    have HD : Hid (_) := hD
    have DB : Hid (∀ j, 0 ≤ D j ∧ D j < 256) := by rw [hD]; exact sumD_bd _
    clear hb1 hs hD z24
    go_wp2_with (first
      | (refine isStore 57 (.tmp 4) (.tmp 13) rfl ?_; go_must (refine wpList_store_row rfl 57 (.tmp 4) (.tmp 13) rfl w1.heap.size _ rfl rfl 57 _ (heap_alloc_new _ _) (size28' _) (by simp only [tab8_size]) (tab8_one _ _) ?_; rw [World.setRow_alloc_new]; simp only [Act.put])))
    obtain ⟨G, hGd⟩ : ∃ G, G = w1.heap.size := ⟨_, rfl⟩
    obtain ⟨V, hV⟩ : ∃ V, V = w1.alloc (.cells (tab8 32 D) 57) := ⟨_, rfl⟩
    have hs1 : w.heap.size + 2 ≤ w1.heap.size := by have := HB1.out.size; simpa using this
    have V4 : Hid (V.heap[G]? = some (.cells (tab8 32 D) 57)) := by rw [hV, hGd]; exact heap_alloc_new _ _
    have VB : Hid (Below (w.heap.size + 2) ((w.alloc (.cells (tab8 64 (fun _ => 0)) 82)).alloc (.cells (tab8 64 (fun _ => 0)) 82)) V) := by rw [hV]; exact HB1.out.alloc hs1 _
    have V0 : Hid (V.heap[w.heap.size]? = some (.cells (tab8 64 (fun _ => 0)) 82)) := by rw [VB.out.block _ (by omega)]; exact HZ.out.1
    have V1 : Hid (V.heap[w.heap.size + 1]? = some (.cells (tab8 64 (fun _ => 0)) 82)) := by rw [VB.out.block _ (by omega)]; exact HZ.out.2
    have VW : Hid (Below w.heap.size w V) := HV.out.trans (VB.out.mono (by omega))
    rw [← hV, ← hGd]
    clear hV hGd HB1 hs1 VB HZ HV s64 z28
    refine wp_region_slots 2 (fun x => { tmps := #[.slice a0 len cap0, undef, .pointer (some ⟨w.heap.size, 0, none⟩), .pointer (some ⟨w.heap.size + 1, 0, none⟩), .pointer (some ⟨G, 0, none⟩), .slice a0 len cap0, .int .i64 len, .bool false, undef, undef, undef, undef, .slice a0 len cap0, .agg (tab8 32 D), x 0, x 1, undef, undef], defers := [] })
      (fun j v _ => match j with | 0 => v = .slice (some ⟨w.heap.size + 1, 0, none⟩) 64 64 | _ => v = .slice (some ⟨G, 0, none⟩) 32 32) (by kernel_rfl) (by kernel_rfl) (by kernel_rfl) (by decide) (fun j v W W' h _ => by cases j <;> exact h) (fun _ => undef) rfl ?_ ?_
    · intro j hj x W hB hdep
      match j, hj with
      | 0, _ => exact stepV rfl rfl (execSlice rfl rfl (slice64 _ _)) ⟨_, rfl, rfl, Below.refl _ _⟩
      | 1, _ => exact stepV rfl rfl (execSlice rfl rfl (slice32 _ _)) ⟨_, rfl, rfl, Below.refl _ _⟩
    · intro x W hB hS
      have e0 : x 0 = .slice (some ⟨w.heap.size + 1, 0, none⟩) 64 64 := hS 0 (by omega)
      have e1 : x 1 = .slice (some ⟨G, 0, none⟩) 32 32 := hS 1 (by omega)
      have g4 : W.heap[G]? = some (.cells (tab8 32 D) 57) := by rw [hB.block _ (Array.getElem?_eq_some_iff.1 V4.out).1]; exact V4.out
      have g0 : W.heap[w.heap.size]? = some (.cells (tab8 64 (fun _ => 0)) 82) := by rw [hB.block _ (Array.getElem?_eq_some_iff.1 V0.out).1]; exact V0.out
      have g1 : W.heap[w.heap.size + 1]? = some (.cells (tab8 64 (fun _ => 0)) 82) := by rw [hB.block _ (Array.getElem?_eq_some_iff.1 V1.out).1]; exact V1.out
      have gw : Below w.heap.size w W := VW.out.trans (hB.mono VW.out.size)
      rw [e0, e1]
      simp only [List.drop_succ_cons, List.drop_zero]
      refine wpList_copyB rfl (.tmp 14) (.tmp 15) rfl (w.heap.size + 1) 0 64 32 64 64 (fun _ => 0) 82 rfl rfl (sliceB_row g4 (by omega) (fun j _ => DB.out j)) g1 (by decide) (by omega) ?_
      intro w2 h1 h2 h3
      rw [over_upto] at h1
      have R1 : Hid (w2.heap[w.heap.size + 1]? = some (.cells (tab8 64 (upto D 32)) 82)) := h1
      have R0 : Hid (w2.heap[w.heap.size]? = some (.cells (tab8 64 (fun _ => 0)) 82)) := by rw [h2 _ (by omega)]; exact g0
      have RB : Hid (Below w.heap.size w w2) := gw.trans (h3.mono (by omega))
      clear h1 h2 h3 g4 g0 g1 gw e0 e1 hS hB V4 V0 V1 VW
      simp only [Act.put, List.setIfInBounds_toArray, List.set_cons_succ, List.set_cons_zero]
      go_wp2_with (first
        | (refine isLoad 82 (.tmp 3) rfl ?_; go_must (refine wpList_load_row rfl 82 (.tmp 3) rfl (w.heap.size + 1) rfl 82 _ (0, 0) _ R1.out Tryz.underlying82 rfl (size24' _) ?_; simp only [Act.put, List.setIfInBounds_toArray, List.set_cons_succ, List.set_cons_zero]))
        | (refine isStore 82 (.tmp 2) (.tmp 17) rfl ?_; go_must (refine wpList_store_row rfl 82 (.tmp 2) (.tmp 17) rfl w.heap.size _ rfl rfl 82 _ R0.out (size24' _) (by simp only [tab8_size]) (tab8_one _ _) ?_)))
      refine bodyPost_ret (v := .agg (tab8 64 (upto D 32))) (results_cell_row Tryz.results66 _ _ w.heap.size 82 _ (0, 0) _ rfl (setRow_heap _ _ _ _ _ _ R0.out) Tryz.underlying82 rfl (size24' _)) rfl ⟨?_, ?_⟩
      · unfold kB; rw [if_neg HLE.out, HD.out]
      · exact below_setRow RB.out (Nat.le_refl _) _

/-- What masked has turned so far. -/
def xkTo (f : Nat → Int) (m : Int) (k : Nat) : Nat → Int := fun i => if i < k then bits .xor .u8 (f i) m else f i
theorem xkTo_step (f : Nat → Int) (m : Int) (k : Nat) : upd (xkTo f m k) k (bits .xor .u8 (f k) m) = xkTo f m (k + 1) := by
  funext i
  simp only [upd, xkTo]
  by_cases h : i = k
  · subst h; simp
  · by_cases h2 : i < k
    · simp [h, h2, show i < k + 1 by omega]
    · simp [h, h2, show ¬ i < k + 1 by omega]

set_option maxHeartbeats 400000 in
theorem masked_any (f : Nat → Int) (m : Int) (w : World) :
    Calls Tryz.prog 69 #[.agg (tab8 64 f), .int .u8 m] w fun e w' => ∃ v, e = .returned v ∧ SliceB w' v 64 (xk f m) ∧ Below w.heap.size w w' := by
  go_enter Tryz.func69, Tryz.ntmps69
  go_wp2
  have HZ : Hid ((w.alloc (.cells (tab8 64 f) 82)).heap[w.heap.size]? = some (.cells (tab8 64 f) 82)) := heap_alloc_new _ _
  have HV : Hid (Below w.heap.size w (w.alloc (.cells (tab8 64 f) 82))) := (Below.refl _ _).alloc (Nat.le_refl _) _
  go_loopw [6] (fun i W => ∃ k : Nat, k ≤ 64 ∧ i = .int .i64 k ∧ W.heap[w.heap.size]? = some (.cells (tab8 64 (xkTo f m k)) 82) ∧ Below w.heap.size w W) (fun i _ => 64 - (intOf i).toNat)
  case atStart =>
    refine ⟨0, by omega, rfl, ?_, HV.out⟩
    have e : xkTo f m 0 = f := by funext i; simp [xkTo]
    rw [e]; exact HZ.out
  case round =>
    obtain ⟨k, hk, rfl, h1, h2⟩ := hrel
    have D1 : Hid (_) := h1
    have D2 : Hid (_) := h2
    clear h1 h2 HZ HV
    by_cases hlt : k < 64
    · have q1 : wr.cell? ⟨w.heap.size, k, none⟩ = some (.int .u8 (f k)) := by
        rw [cell_of_row _ _ _ _ _ _ D1.out, tab8_get 64 _ _ hlt]; simp [xkTo]
      have q2 : wr.frozen? ⟨w.heap.size, k, none⟩ = false := frozen_of_row D1.out
      have q4 : (k : Int) < 64 := by omega
      go_wp2
      go_roundw
      case rel =>
        refine ⟨k + 1, by omega, by go_num, ?_, D2.out.setCell (by simp) _⟩
        rw [heap_setCell_row _ D1.out, tab8_set]
        exact congrArg (fun f => some (Obj.cells (tab8 64 f) 82)) (xkTo_step f m k)
      case measure => simp [intOf]; omega
    · have hk8 : Hid (k = 64) := by show k = 64; omega
      have s64 := slice64
      go_wp2
      go_ret
      refine ⟨_, rfl, ?_, D2.out⟩
      have e : tab8 64 (xkTo f m k) = tab8 64 (xk f m) := tab8_congr fun i hi => by rw [hk8.out]; simp [xkTo, xk, hi]
      have h := D1.out
      rw [e] at h
      exact sliceB_row h (by omega) fun j _ => bits_bd _ _
end Go.Proofs.YtnjmcknanlbpdaaGreatDoor
