import Derived.Test.YteekoabgbjbabaaGreatDoorA7
import Derived.Test.YteekoabgbjbabaaGreatDoorK0
import Derived.Test.YteekoabgbjbabaaGreatDoorK7
namespace Go.Proofs.YteekoabgbjbabaaGreatDoor
open Go.RowKit

theorem zero24 : ∀ w, (zeroValue 70).run Tryz.prog w = .ok (.agg (tab8 64 (fun _ => 0))) w :=
  (zero_of_info (n := 64) (by kernel_rfl)).1
theorem slice64 (b : Nat) (W : World) : (Instr.sliceAt 70 (.pointer (some ⟨b, 0, none⟩)) none none none).run Tryz.prog W = .ok (.slice (some ⟨b, 0, none⟩) 64 64) W := by
  simp [Instr.sliceAt, Instr.sureAddr, run_underlying Tryz.underlying70, Instr.sliceBounds, go_sem]
theorem slice32 (b : Nat) (W : World) : (Instr.sliceAt 54 (.pointer (some ⟨b, 0, none⟩)) none none none).run Tryz.prog W = .ok (.slice (some ⟨b, 0, none⟩) 32 32) W := by
  simp [Instr.sliceAt, Instr.sureAddr, run_underlying Tryz.underlying54, Instr.sliceBounds, go_sem]
/-- The key's block. -/
def kB (p : Nat → Int) (l : Nat) : Nat → Int := if l ≤ 64 then upto p l else upto (sumD (addN HS.new p l)) 32
/-- Each byte turned. -/
def xk (f : Nat → Int) (m : Int) : Nat → Int := fun i => bits .xor .u8 (f i) m
theorem bits_bd (x y : Int) : 0 ≤ bits .xor .u8 x y ∧ bits .xor .u8 x y < 256 := by
  have e : ∀ x : Int, 0 ≤ IntKind.u8.wrap x ∧ IntKind.u8.wrap x < 256 := fun x => by simp [IntKind.wrap, IntKind.bits, IntKind.signed]; omega
  exact e _
/-- A row of the call's own is a []byte. -/
theorem sliceB_row {w : World} {g N : Nat} {f : Nat → Int} {t : TypeId} {fr : Nat × Nat} (h : w.heap[g]? = some (.cells (tab8 N f) t fr)) (hN : N < 1000) (hb : ∀ j, j < N → 0 ≤ f j ∧ f j < 256) : SliceB w (.slice (some ⟨g, 0, none⟩) N N) N f := by
  refine ⟨⟨_, _, rfl, Nat.le_refl _, by omega, fun _ => ⟨g, 0, rfl, (Array.getElem?_eq_some_iff.1 h).1, fun j hj => ?_⟩⟩, hb⟩
  rw [cell_of_row _ _ _ _ _ _ h, Nat.zero_add]
  exact tab8_get N f j hj
theorem sumD_bd (s : HS) (j : Nat) : 0 ≤ sumD s j ∧ sumD s j < 256 := by
  unfold sumD digB
  exact ⟨by omega, by omega⟩
theorem tab8_copied (N : Nat) (f : Nat → Int) (off c : Nat) (q : Nat → Int) (h : off + c ≤ N) : ((tab8 N f).toList.take off ++ (chunk c q ++ (tab8 N f).toList.drop (off + (chunk c q).length))).toArray = tab8 N (overlay f off c q) := by
  have hl : (tab8 N f).toList.length = N := by simp [tab8_size]
  have hk := chunk_len c q
  apply Array.ext_getElem?
  intro i
  rw [hk]
  simp only [List.getElem?_toArray]
  by_cases h1 : i < off
  · rw [List.getElem?_append_left (by simp [hl]; omega), List.getElem?_take, if_pos h1, Array.getElem?_toList, tab8_get N f i (by omega), tab8_get N _ i (by omega)]
    simp [overlay, show ¬ off ≤ i by omega]
  · by_cases h2 : i < off + c
    · rw [List.getElem?_append_right (by simp [hl]; omega), List.length_take, hl, Nat.min_eq_left (by omega), List.getElem?_append_left (by rw [hk]; omega), tab8_get N _ i (by omega)]
      simp [chunk, overlay, show i - off < c by omega, show off ≤ i by omega, h2]
    · rw [List.getElem?_append_right (by simp [hl]; omega), List.length_take, hl, Nat.min_eq_left (by omega), List.getElem?_append_right (by rw [hk]; omega), hk, List.getElem?_drop, show off + c + (i - off - c) = i by omega, Array.getElem?_toList]
      by_cases h3 : i < N
      · rw [tab8_get N f i h3, tab8_get N _ i h3]
        simp [overlay, h2]
      · rw [Array.getElem?_eq_none (by rw [tab8_size]; omega), Array.getElem?_eq_none (by rw [tab8_size]; omega)]

/-- copy into a row of bytes that is known whole, from whatever list of bytes. -/
theorem wpList_copyB {w : World} {ops : Array Oper} {rest : List Oper} {o : Oper} {a : Act} {Q : Exit → Act → World → Prop} (hgd : o.guard = none) (d s : Operand)
    (ho : o.op = .call { callee := .builtin .copy, args := #[d, s], argTypes := #[24, 24] }) (g off N c dl dc : Nat) (f : Nat → Int) (t : TypeId) (hd : a.eval d = .slice (some ⟨g, off, none⟩) dl dc)
    {v : Value} {len : Nat} {p : Nat → Int} (hs : a.eval s = v) (hv : SliceB w v len p) (hg : w.heap[g]? = some (.cells (tab8 N f) t)) (hc : c = Nat.min len dl) (hfit : off + c ≤ N)
    (h : ∀ w', w'.heap[g]? = some (.cells (tab8 N (overlay f off c p)) t) → (∀ k, k ≠ g → w'.heap[k]? = w.heap[k]?) → Below g w w' → wpList Tryz.prog ops Q rest (a.put o.dst (.int .i64 (c : Int))) w') : wpList Tryz.prog ops Q (o :: rest) a w := by
  obtain ⟨⟨ao, cap, rfl, h1, h2, h3⟩, hp⟩ := hv
  by_cases h0 : 0 < len ∧ 0 < c
  · obtain ⟨b, so, rfl, hb, hcell⟩ := h3 h0.1
    refine wpList_copy_own hgd d s 24 24 ho 5 Tryz.underlying24 size5 g off dl dc ⟨b, so, none⟩ len cap hd hs (tab8 N f) t hg (chunk c p) (by rw [chunk_len]; exact hc) ?_ (by rw [chunk_len, tab8_size]; exact hfit) (chunk_one _ _) ?_
    · intro j u hu
      obtain ⟨hj, rfl⟩ := chunk_get hu
      rw [Addr.add_mid]
      have : c ≤ len := by rw [hc]; exact Nat.min_le_left _ _
      exact hcell j (by omega)
    · rw [tab8_copied N f off c p hfit, chunk_len]
      exact h _ (setRow_heap _ _ _ _ _ _ hg) (fun k hk => setRow_other _ _ _ _ hk) (below_setRow (Below.refl _ _) (Nat.le_refl _) _)
  · have hc0 : c = 0 := by
      by_cases e : 0 < len
      · have : ¬ 0 < c := fun x => h0 ⟨e, x⟩
        omega
      · have : c ≤ len := by rw [hc]; exact Nat.min_le_left _ _
        omega
    subst hc0
    refine wpList_copy_nothing hgd d s 24 24 ho 5 Tryz.underlying24 size5 _ _ dl dc len cap hd hs hc.symm ?_
    refine h w ?_ (fun _ _ => rfl) (Below.refl _ _)
    rw [overlay_zero]; exact hg

theorem over_upto (p : Nat → Int) (l : Nat) : overlay (fun _ => 0) 0 l p = upto p l := by
  funext i
  simp [overlay, upto]

set_option maxHeartbeats 400000 in
theorem keyBlock_any (v : Value) (len : Nat) (p : Nat → Int) (w : World) (hG : Glob w) (hbig : len < 1152921504606846976) (hv : SliceB w v len p) :
    Calls Tryz.prog 58 #[v] w fun e w' => e = .returned (.agg (tab8 64 (kB p len))) ∧ Below w.heap.size w w' := by
  obtain ⟨⟨a0, cap0, rfl, e01, e02, e03⟩, hp0⟩ := hv
  have HG : Hid (_) := hG
  have H0 : Hid (SliceB w (.slice a0 len cap0) len p) := ⟨⟨a0, cap0, rfl, e01, e02, e03⟩, hp0⟩
  have H3 : Hid (_) := hbig
  clear hG e01 e02 e03 hp0 hbig
  have z24 := zero24
  have z28 := zero28
  have hz2 := heap2 w (.cells (tab8 64 (fun _ => 0)) 70) (.cells (tab8 64 (fun _ => 0)) 70)
  have HZ : Hid (_) := hz2
  clear hz2
  have s64 := slice64
  have hVB : Below w.heap.size w ((w.alloc (.cells (tab8 64 (fun _ => 0)) 70)).alloc (.cells (tab8 64 (fun _ => 0)) 70)) := ((Below.refl _ _).alloc (Nat.le_refl _) _).alloc (by simp) _
  have HV : Hid (_) := hVB
  clear hVB
  by_cases hle : len ≤ 64
  · have i1 : (len : Int) ≤ 64 := by omega
    have HLE : Hid (len ≤ 64) := hle
    clear hle
    go_enter Tryz.func58, Tryz.ntmps58
    go_wp2_with (first
      | (refine isCopy (.tmp 8) (.tmp 9) rfl ?_; go_must (refine wpList_copyB rfl (.tmp 8) (.tmp 9) rfl (w.heap.size + 1) 0 64 len 64 64 (fun _ => 0) 70 rfl rfl (H0.out.below HV.out) HZ.out.2 (Nat.min_eq_left HLE.out).symm (by have := HLE.out; omega) ?_; intro w1 h1 h2 h3; rw [over_upto] at h1; simp only [Act.put, List.setIfInBounds_toArray, List.set_cons_succ, List.set_cons_zero]; have R1 : Hid (w1.heap[w.heap.size + 1]? = some (.cells (tab8 64 (upto p len)) 70)) := h1; have R0 : Hid (w1.heap[w.heap.size]? = some (.cells (tab8 64 (fun _ => 0)) 70)) := (by rw [h2 _ (by omega)]; exact HZ.out.1); have RB : Hid (Below w.heap.size w w1) := HV.out.trans (h3.mono (by omega)); clear h1 h2 h3))
      | (refine isLoad 70 (.tmp 3) rfl ?_; go_must (refine wpList_load_row rfl 70 (.tmp 3) rfl (w.heap.size + 1) rfl 70 _ (0, 0) _ R1.out Tryz.underlying70 rfl (size24' _) ?_; simp only [Act.put, List.setIfInBounds_toArray, List.set_cons_succ, List.set_cons_zero]))
      | (refine isStore 70 (.tmp 2) (.tmp 11) rfl ?_; go_must (refine wpList_store_row rfl 70 (.tmp 2) (.tmp 11) rfl w.heap.size _ rfl rfl 70 _ R0.out (size24' _) (by simp only [tab8_size]) (tab8_one _ _) ?_)))
    refine bodyPost_ret (v := .agg (tab8 64 (upto p len))) (results_cell_row Tryz.results58 _ _ w.heap.size 70 _ (0, 0) _ rfl (setRow_heap _ _ _ _ _ _ R0.out) Tryz.underlying70 rfl (size24' _)) rfl ⟨?_, ?_⟩
    · unfold kB; rw [if_pos HLE.out]
    · exact below_setRow RB.out (Nat.le_refl _) _
  · have i1 : ¬ (len : Int) ≤ 64 := by omega
    have HLE : Hid (¬ len ≤ 64) := hle
    clear hle
    go_enter Tryz.func58, Tryz.ntmps58
    go_wp2_with fail
    obtain ⟨D, hD⟩ : ∃ D, D = sumD (addN HS.new p len) := ⟨_, rfl⟩
    have hs := sum_any (.slice a0 len cap0) len p ((w.alloc (.cells (tab8 64 (fun _ => 0)) 70)).alloc (.cells (tab8 64 (fun _ => 0)) 70)) (HG.out.below HV.out HG.out.sz) H3.out (H0.out.below HV.out)
    rw [← hD] at hs
    refine hs.mono ?_
    rintro e w1 ⟨rfl, hb1⟩
    have HB1 : Hid (Below (w.heap.size + 2) ((w.alloc (.cells (tab8 64 (fun _ => 0)) 70)).alloc (.cells (tab8 64 (fun _ => 0)) 70)) w1) := by
      have hsz : ((w.alloc (.cells (tab8 64 (fun _ => 0)) 70)).alloc (.cells (tab8 64 (fun _ => 0)) 70)).heap.size = w.heap.size + 2 := by simp
      rw [← hsz]; exact hb1
    have HD : Hid (_) := hD
    have DB : Hid (∀ j, 0 ≤ D j ∧ D j < 256) := by rw [hD]; exact sumD_bd _
    clear hb1 hs hD z24
    go_wp2_with (first
      | (refine isStore 54 (.tmp 4) (.tmp 13) rfl ?_; go_must (refine wpList_store_row rfl 54 (.tmp 4) (.tmp 13) rfl w1.heap.size _ rfl rfl 54 _ (heap_alloc_new _ _) (size28' _) (by simp only [tab8_size]) (tab8_one _ _) ?_; rw [World.setRow_alloc_new]; simp only [Act.put])))
    obtain ⟨G, hGd⟩ : ∃ G, G = w1.heap.size := ⟨_, rfl⟩
    obtain ⟨V, hV⟩ : ∃ V, V = w1.alloc (.cells (tab8 32 D) 54) := ⟨_, rfl⟩
    have hs1 : w.heap.size + 2 ≤ w1.heap.size := by have := HB1.out.size; simpa using this
    have V4 : Hid (V.heap[G]? = some (.cells (tab8 32 D) 54)) := by rw [hV, hGd]; exact heap_alloc_new _ _
    have VB : Hid (Below (w.heap.size + 2) ((w.alloc (.cells (tab8 64 (fun _ => 0)) 70)).alloc (.cells (tab8 64 (fun _ => 0)) 70)) V) := by rw [hV]; exact HB1.out.alloc hs1 _
    have V0 : Hid (V.heap[w.heap.size]? = some (.cells (tab8 64 (fun _ => 0)) 70)) := by rw [VB.out.block _ (by omega)]; exact HZ.out.1
    have V1 : Hid (V.heap[w.heap.size + 1]? = some (.cells (tab8 64 (fun _ => 0)) 70)) := by rw [VB.out.block _ (by omega)]; exact HZ.out.2
    have VW : Hid (Below w.heap.size w V) := HV.out.trans (VB.out.mono (by omega))
    rw [← hV, ← hGd]
    clear hV hGd HB1 hs1 VB HZ HV s64 z28
    refine wp_region_slots 2 (fun x => { tmps := #[.slice a0 len cap0, undef, .pointer (some ⟨w.heap.size, 0, none⟩), .pointer (some ⟨w.heap.size + 1, 0, none⟩), .pointer (some ⟨G, 0, none⟩), .slice a0 len cap0, .int .i64 len, .bool false, undef, undef, undef, undef, .slice a0 len cap0, .agg (tab8 32 D), x 0, x 1, undef, undef], defers := [] })
      (fun j v _ => match j with | 0 => v = .slice (some ⟨w.heap.size + 1, 0, none⟩) 64 64 | _ => v = .slice (some ⟨G, 0, none⟩) 32 32) (by kernel_rfl) (by kernel_rfl) (by kernel_rfl) (by decide) (fun j v W W' h _ => by cases j <;> exact h) (fun _ => undef) rfl ?_ ?_
    · intro j hj x W hB hdep
      match j, hj with
      | 0, _ => exact stepV rfl rfl (execSlice rfl rfl (slice64 _ _)) ⟨_, rfl, rfl, Below.refl _ _⟩
      | 1, _ => exact stepV rfl rfl (execSlice rfl rfl (slice32 _ _)) ⟨_, rfl, rfl, Below.refl _ _⟩
    · intro x W hB hS
      have e0 : x 0 = .slice (some ⟨w.heap.size + 1, 0, none⟩) 64 64 := hS 0 (by omega)
      have e1 : x 1 = .slice (some ⟨G, 0, none⟩) 32 32 := hS 1 (by omega)
      have g4 : W.heap[G]? = some (.cells (tab8 32 D) 54) := by rw [hB.block _ (Array.getElem?_eq_some_iff.1 V4.out).1]; exact V4.out
      have g0 : W.heap[w.heap.size]? = some (.cells (tab8 64 (fun _ => 0)) 70) := by rw [hB.block _ (Array.getElem?_eq_some_iff.1 V0.out).1]; exact V0.out
      have g1 : W.heap[w.heap.size + 1]? = some (.cells (tab8 64 (fun _ => 0)) 70) := by rw [hB.block _ (Array.getElem?_eq_some_iff.1 V1.out).1]; exact V1.out
      have gw : Below w.heap.size w W := VW.out.trans (hB.mono VW.out.size)
      rw [e0, e1]
      simp only [List.drop_succ_cons, List.drop_zero]
      refine wpList_copyB rfl (.tmp 14) (.tmp 15) rfl (w.heap.size + 1) 0 64 32 64 64 (fun _ => 0) 70 rfl rfl (sliceB_row g4 (by omega) (fun j _ => DB.out j)) g1 (by decide) (by omega) ?_
      intro w2 h1 h2 h3
      rw [over_upto] at h1
      have R1 : Hid (w2.heap[w.heap.size + 1]? = some (.cells (tab8 64 (upto D 32)) 70)) := h1
      have R0 : Hid (w2.heap[w.heap.size]? = some (.cells (tab8 64 (fun _ => 0)) 70)) := by rw [h2 _ (by omega)]; exact g0
      have RB : Hid (Below w.heap.size w w2) := gw.trans (h3.mono (by omega))
      clear h1 h2 h3 g4 g0 g1 gw e0 e1 hS hB V4 V0 V1 VW
      simp only [Act.put, List.setIfInBounds_toArray, List.set_cons_succ, List.set_cons_zero]
      go_wp2_with (first
        | (refine isLoad 70 (.tmp 3) rfl ?_; go_must (refine wpList_load_row rfl 70 (.tmp 3) rfl (w.heap.size + 1) rfl 70 _ (0, 0) _ R1.out Tryz.underlying70 rfl (size24' _) ?_; simp only [Act.put, List.setIfInBounds_toArray, List.set_cons_succ, List.set_cons_zero]))
        | (refine isStore 70 (.tmp 2) (.tmp 17) rfl ?_; go_must (refine wpList_store_row rfl 70 (.tmp 2) (.tmp 17) rfl w.heap.size _ rfl rfl 70 _ R0.out (size24' _) (by simp only [tab8_size]) (tab8_one _ _) ?_)))
      refine bodyPost_ret (v := .agg (tab8 64 (upto D 32))) (results_cell_row Tryz.results58 _ _ w.heap.size 70 _ (0, 0) _ rfl (setRow_heap _ _ _ _ _ _ R0.out) Tryz.underlying70 rfl (size24' _)) rfl ⟨?_, ?_⟩
      · unfold kB; rw [if_neg HLE.out, HD.out]
      · exact below_setRow RB.out (Nat.le_refl _) _

/-- What masked has turned so far. -/
def xkTo (f : Nat → Int) (m : Int) (k : Nat) : Nat → Int := fun i => if i < k then bits .xor .u8 (f i) m else f i
theorem xkTo_step (f : Nat → Int) (m : Int) (k : Nat) : upd (xkTo f m k) k (bits .xor .u8 (f k) m) = xkTo f m (k + 1) := by
  funext i
  simp only [upd, xkTo]
  by_cases h : i = k
  · subst h; simp
  · by_cases h2 : i < k
    · simp [h, h2, show i < k + 1 by omega]
    · simp [h, h2, show ¬ i < k + 1 by omega]

set_option maxHeartbeats 400000 in
theorem masked_any (f : Nat → Int) (m : Int) (w : World) :
    Calls Tryz.prog 61 #[.agg (tab8 64 f), .int .u8 m] w fun e w' => ∃ v, e = .returned v ∧ SliceB w' v 64 (xk f m) ∧ Below w.heap.size w w' := by
  go_enter Tryz.func61, Tryz.ntmps61
  go_wp2
  have HZ : Hid ((w.alloc (.cells (tab8 64 f) 70)).heap[w.heap.size]? = some (.cells (tab8 64 f) 70)) := heap_alloc_new _ _
  have HV : Hid (Below w.heap.size w (w.alloc (.cells (tab8 64 f) 70))) := (Below.refl _ _).alloc (Nat.le_refl _) _
  go_loopw [6] (fun i W => ∃ k : Nat, k ≤ 64 ∧ i = .int .i64 k ∧ W.heap[w.heap.size]? = some (.cells (tab8 64 (xkTo f m k)) 70) ∧ Below w.heap.size w W) (fun i _ => 64 - (intOf i).toNat)
  case atStart =>
    refine ⟨0, by omega, rfl, ?_, HV.out⟩
    have e : xkTo f m 0 = f := by funext i; simp [xkTo]
    rw [e]; exact HZ.out
  case round =>
    obtain ⟨k, hk, rfl, h1, h2⟩ := hrel
    have D1 : Hid (_) := h1
    have D2 : Hid (_) := h2
    clear h1 h2 HZ HV
    by_cases hlt : k < 64
    · have q1 : wr.cell? ⟨w.heap.size, k, none⟩ = some (.int .u8 (f k)) := by
        rw [cell_of_row _ _ _ _ _ _ D1.out, tab8_get 64 _ _ hlt]; simp [xkTo]
      have q2 : wr.frozen? ⟨w.heap.size, k, none⟩ = false := frozen_of_row D1.out
      have q4 : (k : Int) < 64 := by omega
      go_wp2
      go_roundw
      case rel =>
        refine ⟨k + 1, by omega, by go_num, ?_, D2.out.setCell (by simp) _⟩
        rw [heap_setCell_row _ D1.out, tab8_set]
        exact congrArg (fun f => some (Obj.cells (tab8 64 f) 70)) (xkTo_step f m k)
      case measure => simp [intOf]; omega
    · have hk8 : Hid (k = 64) := by show k = 64; omega
      have s64 := slice64
      go_wp2
      go_ret
      refine ⟨_, rfl, ?_, D2.out⟩
      have e : tab8 64 (xkTo f m k) = tab8 64 (xk f m) := tab8_congr fun i hi => by rw [hk8.out]; simp [xkTo, xk, hi]
      have h := D1.out
      rw [e] at h
      exact sliceB_row h (by omega) fun j _ => bits_bd _ _
end Go.Proofs.YteekoabgbjbabaaGreatDoor

namespace Go.Proofs.YteekoabgbjbabaaGreatDoor
open Go.RowKit

/-- The cells of a key's two hashes. -/
def kc (a b : HS) : Array Value := a.cells ++ b.cells
theorem kc_size (a b : HS) : (kc a b).size = 146 := by simp [kc, HS.cells, hc_size]
theorem size52' (a b : HS) : (Tryz.prog.info? 75).map (·.size) = some (kc a b).size := by rw [kc_size]; kernel_rfl
theorem kc_one (a b : HS) : (kc a b).all (·.oneCell') = true := by
  unfold kc HS.cells
  rw [Array.all_append, hc_one, hc_one]; rfl
theorem zero52 : ∀ w, (zeroValue 75).run Tryz.prog w = .ok (.agg (kc HS.new HS.new)) w :=
  (zero_of_info (n := 146) (by kernel_rfl)).1
theorem range_k0 {W : World} {B : Nat} {a b : HS} {t : TypeId} (h : W.heap[B]? = some (.cells (kc a b) t)) : W.rangeAt B 0 a.cells.toList := by
  intro j v hv
  have hj : j < 73 := by have := (List.getElem?_eq_some_iff.1 hv).1; simpa [HS.cells, hc_size] using this
  rw [cell_of_row W B (0 + j) _ t (0, 0) h, Nat.zero_add]
  unfold kc
  rw [Array.getElem?_append_left (by simpa [HS.cells, hc_size] using hj)]
  simpa using hv
theorem range_k1 {W : World} {B : Nat} {a b : HS} {t : TypeId} (h : W.heap[B]? = some (.cells (kc a b) t)) : W.rangeAt B 73 b.cells.toList := by
  intro j v hv
  rw [cell_of_row W B (73 + j) _ t (0, 0) h]
  unfold kc
  rw [Array.getElem?_append_right (by simp [HS.cells, hc_size])]
  simp only [HS.cells, hc_size, Nat.add_sub_cancel_left]
  simpa [HS.cells] using hv
theorem hs_len (a : HS) : a.cells.toList.length = 73 := by simp [HS.cells, hc_size]
theorem built52 (a b : HS) : Tryz.prog.built 75 [(0, .agg a.cells), (1, .agg b.cells)] = some (kc a b) := by
  obtain ⟨g, r, n⟩ := a
  obtain ⟨g', r', n'⟩ := b
  kernel_rfl
theorem execField {o : Oper} {a : Act} {w : World} {x : Operand} {b : Nat} (ho : o.op = .fieldAddr 75 x 1) (hx : a.eval x = .pointer (some ⟨b, 0, none⟩)) : (execOp a.eval o).run Tryz.prog w = .ok (.value (.pointer (some ⟨b, 73, none⟩))) w := by
  unfold execOp
  simp only [ho, hx]
  simp [go_sem]
end Go.Proofs.YteekoabgbjbabaaGreatDoor

namespace Go.Proofs.YteekoabgbjbabaaGreatDoor
open Go.RowKit

/-- The two hashes of a key. -/
def inS (p : Nat → Int) (l : Nat) : HS := addN HS.new (xk (kB p l) 54) 64
def outS (p : Nat → Int) (l : Nat) : HS := addN HS.new (xk (kB p l) 92) 64
theorem ok_inS (p : Nat → Int) (l : Nat) : (inS p l).ok := ok_addN ok_new fun _ _ => bits_bd _ _
theorem ok_outS (p : Nat → Int) (l : Nat) : (outS p l).ok := ok_addN ok_new fun _ _ => bits_bd _ _
theorem inS_n (p : Nat → Int) (l : Nat) : (inS p l).n = 64 := by unfold inS; rw [addN_n]; simp [HS.new]
theorem outS_n (p : Nat → Int) (l : Nat) : (outS p l).n = 64 := by unfold outS; rw [addN_n]; simp [HS.new]
theorem wpList_build52 {ops : Array Oper} {rest : List Oper} {o : Oper} {a : Act} {w : World} {Q : Exit → Act → World → Prop} {s t : HS} {x y : Operand} (hg : o.guard = none) (ho : o.op = .build 75 #[(0, x), (1, y)])
    (hx : a.eval x = .agg s.cells) (hy : a.eval y = .agg t.cells)
    (h : wpList Tryz.prog ops Q rest (a.put o.dst (.agg (kc s t))) w) : wpList Tryz.prog ops Q (o :: rest) a w := by
  have e0 : ((#[(0, x), (1, y)] : Array (Nat × Operand)).map fun (i, x) => (i, a.eval x)).toList = [(0, .agg s.cells), (1, .agg t.cells)] := by simp [hx, hy]
  refine wpList_build hg 75 #[(0, x), (1, y)] ho (by rw [e0, built52]; rfl) ?_
  rw [e0, built52]
  exact h

/-- What each operation of keyedBy's region yields. -/
def kbS (K : Nat → Int) (s t : HS) (j : Nat) (v : Value) (w : World) : Prop :=
  match j with
  | 0 => v = .agg HS.new.cells
  | 1 => v = .agg (tab8 64 K)
  | 2 => SliceB w v 64 (xk K 54)
  | 3 => v = .agg s.cells
  | 4 => v = .agg HS.new.cells
  | 5 => v = .agg (tab8 64 K)
  | 6 => SliceB w v 64 (xk K 92)
  | _ => v = .agg t.cells
theorem kbS_mono (K : Nat → Int) (s t : HS) (j : Nat) (v : Value) (w w' : World) (h : kbS K s t j v w) (hb : Below w.heap.size w w') : kbS K s t j v w' := by
  match j, h with
  | 0, h => exact h
  | 1, h => exact h
  | 2, h => exact SliceB.below h hb
  | 3, h => exact h
  | 4, h => exact h
  | 5, h => exact h
  | 6, h => exact SliceB.below h hb
  | _ + 7, h => exact h

set_option maxHeartbeats 800000 in
theorem keyedBy_any (v : Value) (len : Nat) (p : Nat → Int) (w : World) (hG : Glob w) (hbig : len < 1152921504606846976) (hv : SliceB w v len p) :
    Calls Tryz.prog 43 #[v] w fun e w' => e = .returned (.agg (kc (inS p len) (outS p len))) ∧ Below w.heap.size w w' := by
  have HG : Hid (_) := hG
  have H0 : Hid (_) := hv
  have H3 : Hid (_) := hbig
  clear hG hv hbig
  have z52 := zero52
  have z24 := zero24
  go_enter Tryz.func43, Tryz.ntmps43
  go_wp2_with fail
  have b0 : Below w.heap.size w (w.alloc (.cells (kc HS.new HS.new) 75)) := (Below.refl _ _).alloc (Nat.le_refl _) _
  have B0 : Hid (_) := b0
  clear b0
  obtain ⟨K, hK⟩ : ∃ K, K = kB p len := ⟨_, rfl⟩
  have hs := keyBlock_any v len p _ (HG.out.below B0.out HG.out.sz) H3.out (H0.out.below B0.out)
  rw [← hK] at hs
  refine hs.mono ?_
  rintro e w1 ⟨rfl, hb1⟩
  have HK : Hid (_) := hK
  have B1 : Hid (Below (w.heap.size + 1) (w.alloc (.cells (kc HS.new HS.new) 75)) w1) := by
    have hsz : (w.alloc (.cells (kc HS.new HS.new) 75)).heap.size = w.heap.size + 1 := by simp
    rw [← hsz]; exact hb1
  have R0 : Hid (w1.heap[w.heap.size]? = some (.cells (kc HS.new HS.new) 75)) := by rw [B1.out.block _ (by omega)]; exact heap_alloc_new _ _
  have W1 : Hid (Below w.heap.size w w1) := B0.out.trans (B1.out.mono (by omega))
  have N1 : Hid (w.heap.size + 1 ≤ w1.heap.size) := by show w.heap.size + 1 ≤ w1.heap.size; have := B1.out.size; simpa using this
  clear hs hb1 hK B0 B1
  go_wp2_with (first
    | (refine isStore 70 (.tmp 3) (.tmp 5) rfl ?_; go_must (refine wpList_store_row rfl 70 (.tmp 3) (.tmp 5) rfl w1.heap.size _ rfl rfl 70 _ (heap_alloc_new _ _) (size24' _) (by simp only [tab8_size]) (tab8_one _ _) ?_; rw [World.setRow_alloc_new]; simp only [Act.put])))
  obtain ⟨G, hGd⟩ : ∃ G, G = w1.heap.size := ⟨_, rfl⟩
  obtain ⟨V, hV⟩ : ∃ V, V = w1.alloc (.cells (tab8 64 K) 70) := ⟨_, rfl⟩
  have VG : Hid (V.heap[G]? = some (.cells (tab8 64 K) 70)) := by rw [hV, hGd]; exact heap_alloc_new _ _
  have V0 : Hid (V.heap[w.heap.size]? = some (.cells (kc HS.new HS.new) 75)) := by rw [hV, Below.heap_alloc _ _ _ (by have := N1.out; omega)]; exact R0.out
  have VW : Hid (Below w.heap.size w V) := by rw [hV]; exact W1.out.alloc W1.out.size _
  rw [← hV, ← hGd]
  clear hV hGd W1 R0 N1 z52 z24
  have LG : G < V.heap.size := (Array.getElem?_eq_some_iff.1 VG.out).1
  have L0 : w.heap.size < V.heap.size := (Array.getElem?_eq_some_iff.1 V0.out).1
  have e1 : addN HS.new (xk K 54) 64 = inS p len := by rw [HK.out]; rfl
  have e2 : addN HS.new (xk K 92) 64 = outS p len := by rw [HK.out]; rfl
  refine wp_region_slots 8 (fun x => { tmps := #[v, undef, .pointer (some ⟨w.heap.size, 0, none⟩), .pointer (some ⟨G, 0, none⟩), v, .agg (tab8 64 K), x 0, x 1, x 2, x 3, x 4, x 5, x 6, x 7, undef], defers := [] })
    (kbS K (inS p len) (outS p len)) (by kernel_rfl) (by kernel_rfl) (by kernel_rfl) (by decide) (kbS_mono _ _ _) (fun _ => undef) rfl ?_ ?_
  · intro j hj x W hB hdep
    have gG : W.heap[G]? = some (.cells (tab8 64 K) 70) := by rw [hB.block _ LG]; exact VG.out
    have gW : Glob W := HG.out.below (VW.out.trans (hB.mono VW.out.size)) HG.out.sz
    match j, hj with
    | 0, _ => exact stepC rfl rfl (execCall0 Tryz.func59 (by kernel_rfl) (by kernel_rfl) rfl) (new_any W) fun e w' h => ⟨_, h.1, _, rfl, rfl, h.2⟩
    | 1, _ => exact stepV rfl rfl (execLoadRow rfl rfl gG Tryz.underlying70 rfl (size24' _)) ⟨_, rfl, rfl, Below.refl _ _⟩
    | 2, _ =>
      have h1 : x 1 = .agg (tab8 64 K) := hdep _ rfl 1 rfl
      refine stepC rfl rfl (execCall2 Tryz.func61 (by kernel_rfl) (by kernel_rfl) rfl h1 rfl) (masked_any K 54 W) fun e w' ⟨u, h2, h3, h4⟩ => ⟨u, h2, _, rfl, h3, h4⟩
    | 3, _ =>
      have h0 : x 0 = .agg HS.new.cells := hdep _ rfl 0 rfl
      have h2 : SliceB W (x 2) 64 (xk K 54) := hdep _ rfl 2 rfl
      refine stepC rfl rfl (execCall2 Tryz.func60 (by kernel_rfl) (by kernel_rfl) rfl h0 rfl) (add_any HS.new (x 2) 64 (xk K 54) W gW ok_new (by simp [HS.new]) h2) fun e w' h => ⟨_, h.1, _, rfl, by rw [e1]; rfl, h.2⟩
    | 4, _ => exact stepC rfl rfl (execCall0 Tryz.func59 (by kernel_rfl) (by kernel_rfl) rfl) (new_any W) fun e w' h => ⟨_, h.1, _, rfl, rfl, h.2⟩
    | 5, _ => exact stepV rfl rfl (execLoadRow rfl rfl gG Tryz.underlying70 rfl (size24' _)) ⟨_, rfl, rfl, Below.refl _ _⟩
    | 6, _ =>
      have h1 : x 5 = .agg (tab8 64 K) := hdep _ rfl 5 rfl
      refine stepC rfl rfl (execCall2 Tryz.func61 (by kernel_rfl) (by kernel_rfl) rfl h1 rfl) (masked_any K 92 W) fun e w' ⟨u, h2, h3, h4⟩ => ⟨u, h2, _, rfl, h3, h4⟩
    | 7, _ =>
      have h0 : x 4 = .agg HS.new.cells := hdep _ rfl 4 rfl
      have h2 : SliceB W (x 6) 64 (xk K 92) := hdep _ rfl 6 rfl
      refine stepC rfl rfl (execCall2 Tryz.func60 (by kernel_rfl) (by kernel_rfl) rfl h0 rfl) (add_any HS.new (x 6) 64 (xk K 92) W gW ok_new (by simp [HS.new]) h2) fun e w' h => ⟨_, h.1, _, rfl, by rw [e2]; rfl, h.2⟩
  · intro x W hB hS
    have h3 : x 3 = .agg (inS p len).cells := hS 3 (by omega)
    have h7 : x 7 = .agg (outS p len).cells := hS 7 (by omega)
    have g0 : W.heap[w.heap.size]? = some (.cells (kc HS.new HS.new) 75) := by rw [hB.block _ L0]; exact V0.out
    have gW : Below w.heap.size w W := VW.out.trans (hB.mono VW.out.size)
    simp only [List.drop_succ_cons, List.drop_zero]
    refine wpList_build52 (s := inS p len) (t := outS p len) (x := .tmp 9) (y := .tmp 13) rfl rfl h3 h7 ?_
    refine wpList_store_row rfl 75 (.tmp 2) (.tmp 14) rfl w.heap.size _ rfl rfl 75 _ g0 (size52' _ _) (by simp only [kc_size]) (kc_one _ _) ?_
    simp only [Act.put, List.setIfInBounds_toArray, List.set_cons_succ, List.set_cons_zero]
    have R0 : Hid (_) := g0
    have RW : Hid (_) := gW
    clear g0 gW hB hS h3 h7
    go_wp2
    refine bodyPost_ret (v := .agg (kc (inS p len) (outS p len))) (results_cell_row Tryz.results43 _ _ w.heap.size 75 _ (0, 0) _ rfl (setRow_heap _ _ _ _ _ _ R0.out) Tryz.underlying75 rfl (size52' _ _)) rfl ⟨rfl, ?_⟩
    exact below_setRow RW.out (Nat.le_refl _) _
end Go.Proofs.YteekoabgbjbabaaGreatDoor

namespace Go.Proofs.YteekoabgbjbabaaGreatDoor
open Go.RowKit

/-- All pieces taken in, one behind the other. -/
def addAll (s : HS) (ls : Nat → Nat) (ps : Nat → Nat → Int) : Nat → HS
  | 0 => s
  | k + 1 => addN (addAll s ls ps k) (ps k) (ls k)
def totL (ls : Nat → Nat) : Nat → Nat
  | 0 => 0
  | k + 1 => totL ls k + ls k
theorem totL_mono (ls : Nat → Nat) : ∀ {k n : Nat}, k ≤ n → totL ls k ≤ totL ls n := by
  intro k n h
  induction n with
  | zero => obtain rfl : k = 0 := by omega
            exact Nat.le_refl _
  | succ n ih =>
    by_cases e : k = n + 1
    · subst e; exact Nat.le_refl _
    · have := ih (by omega)
      simp only [totL]
      omega
theorem addAll_n (s : HS) (ls : Nat → Nat) (ps : Nat → Nat → Int) (k : Nat) : (addAll s ls ps k).n = s.n + totL ls k := by
  induction k with
  | zero => rfl
  | succ k ih => simp only [addAll, totL]; rw [addN_n, ih]; omega
theorem ok_addAll {s : HS} (h : s.ok) {ls : Nat → Nat} {ps : Nat → Nat → Int} {n : Nat} (hp : ∀ k, k < n → ∀ i, i < ls k → 0 ≤ ps k i ∧ ps k i < 256) : ∀ k, k ≤ n → (addAll s ls ps k).ok := by
  intro k hk
  induction k with
  | zero => exact h
  | succ k ih => exact ok_addN (ih (by omega)) (hp k (by omega))
/-- The outer hash of the inner's digest. -/
def tagD (s b : HS) : Nat → Int := sumD (addN b (sumD s) 32)

/-- Pieces: a [][]byte whose elements are lists of bytes. -/
structure Pieces (w : World) (v : Value) (n : Nat) (ls : Nat → Nat) (ps : Nat → Nat → Int) : Prop where
  shape : ∃ (b off cap : Nat) (vs : Nat → Value), v = .slice (some ⟨b, off, none⟩) n cap ∧ b < w.heap.size ∧ n < 1000 ∧ ∀ i, i < n → w.cell? ⟨b, off + i, none⟩ = some (vs i) ∧ SliceB w (vs i) (ls i) (ps i)
theorem Pieces.below {w w' : World} {v : Value} {n : Nat} {ls : Nat → Nat} {ps : Nat → Nat → Int} (h : Pieces w v n ls ps) (hb : Below w.heap.size w w') : Pieces w' v n ls ps := by
  obtain ⟨b, off, cap, vs, e, h1, h2, h3⟩ := h.shape
  exact ⟨b, off, cap, vs, e, Nat.lt_of_lt_of_le h1 hb.size, h2, fun i hi => ⟨by rw [below_cell hb h1]; exact (h3 i hi).1, (h3 i hi).2.below hb⟩⟩

theorem heap3z (w : World) (A B C : Obj) : (((w.alloc A).alloc B).alloc C).heap[w.heap.size]? = some A ∧ (((w.alloc A).alloc B).alloc C).heap[w.heap.size + 1]? = some B ∧ (((w.alloc A).alloc B).alloc C).heap[w.heap.size + 2]? = some C := by
  have h := heap3 w A B C 0
  simpa only [World.heap_drewN] using h
theorem below3z (w : World) (A B C : Obj) : Below w.heap.size w (((w.alloc A).alloc B).alloc C) :=
  (((Below.refl _ _).alloc (Nat.le_refl _) _).alloc (by simp) _).alloc (by simp; omega) _
theorem execLoadMid {o : Oper} {a : Act} {w : World} {x : Operand} {b f : Nat} {s : HS} (ho : o.op = .load 73 x) (hx : a.eval x = .pointer (some ⟨b, f, none⟩)) (hc : w.rangeAt b f s.cells.toList) : (execOp a.eval o).run Tryz.prog w = .ok (.value (.agg s.cells)) w := by
  have h := run_loadVar_mid (P := Tryz.prog) w b f 73 s.cells.toList _ hc Tryz.underlying73 rfl (by rw [hs_len]; kernel_rfl)
  unfold execOp
  simp only [ho, hx, Instr.loadAt, Instr.sureAddr, Sem.run_bind, Sem.run_pure, Result.andThen_ok, h, Array.toArray_toList]

set_option maxHeartbeats 800000 in
theorem tag_any (a b : HS) (v : Value) (n : Nat) (ls : Nat → Nat) (ps : Nat → Nat → Int) (w : World) (hG : Glob w) (ha : a.ok) (hb : b.ok) (hbn : b.n = 64) (hbig : a.n + totL ls n < 1152921504606846976) (hv : Pieces w v n ls ps) :
    Calls Tryz.prog 57 #[.agg (kc a b), v] w fun e w' => e = .returned (.agg (tab8 32 (tagD (addAll a ls ps n) b))) ∧ Below w.heap.size w w' := by
  obtain ⟨bb, off, cap, vs, rfl, hbb, hn, hcell⟩ := hv.shape
  have HG : Hid (_) := hG
  have HA : Hid (_) := ha
  have HBo : Hid (_) := hb
  have HBn : Hid (_) := hbn
  have H3 : Hid (_) := hbig
  have HC : Hid (_) := hcell
  have HBB : Hid (_) := hbb
  clear hG ha hb hbn hbig hcell hbb hv
  have z28 := zero28
  have z27 := zero27
  go_enter Tryz.func57, Tryz.ntmps57
  have r0 := heap2 w (.cells (kc a b) 75) (.cells (tab8 32 (fun _ => 0)) 54)
  have R00 : Hid (_) := r0
  clear r0
  go_wp2_with (first
    | (refine isLoad 73 (.tmp 9) rfl ?_; go_must (refine wpList_load_mid rfl 73 (.tmp 9) rfl w.heap.size 0 rfl a.cells.toList _ (range_k0 R00.out.1) Tryz.underlying73 rfl (by rw [hs_len]; kernel_rfl) ?_; simp only [Act.put, List.setIfInBounds_toArray, List.set_cons_succ, List.set_cons_zero, Array.toArray_toList]))
    | (refine isStore 73 (.tmp 5) (.tmp 10) rfl ?_; go_must (refine wpList_store_row rfl 73 (.tmp 5) (.tmp 10) rfl (w.heap.size + 2) _ rfl rfl 73 _ (heap3z w _ _ _).2.2 (size27' _ _ _) (by simp only [HS.cells, hc_size]) (hc_one _ _ _) ?_; simp only [Act.put])))
  obtain ⟨V, hV⟩ : ∃ V, V = (((w.alloc (.cells (kc a b) 75)).alloc (.cells (tab8 32 (fun _ => 0)) 54)).alloc (.cells (hcells (fun _ => 0) (fun _ => 0) 0) 73)).setRow (w.heap.size + 2) a.cells := ⟨_, rfl⟩
  rw [← hV]
  have h3 := heap3z w (.cells (kc a b) 75) (.cells (tab8 32 (fun _ => 0)) 54) (.cells (hcells (fun _ => 0) (fun _ => 0) 0) 73)
  have V0 : Hid (V.heap[w.heap.size]? = some (.cells (kc a b) 75)) := by rw [hV, setRow_other _ _ _ _ (by omega)]; exact h3.1
  have V1 : Hid (V.heap[w.heap.size + 1]? = some (.cells (tab8 32 (fun _ => 0)) 54)) := by rw [hV, setRow_other _ _ _ _ (by omega)]; exact h3.2.1
  have V2 : Hid (V.heap[w.heap.size + 2]? = some (.cells a.cells 73)) := by rw [hV]; exact setRow_heap _ _ _ _ _ _ h3.2.2
  have VW : Hid (Below w.heap.size w V) := by rw [hV]; exact below_setRow (below3z _ _ _ _) (by omega) _
  clear hV h3 R00 z27
  go_wp2
  go_loopw [13] (fun i W => ∃ k : Nat, k ≤ n ∧ i = .int .i64 k ∧ W.heap[w.heap.size]? = some (.cells (kc a b) 75) ∧ W.heap[w.heap.size + 1]? = some (.cells (tab8 32 (fun _ => 0)) 54) ∧ W.heap[w.heap.size + 2]? = some (.cells (addAll a ls ps k).cells 73) ∧ Below w.heap.size w W) (fun i _ => n - (intOf i).toNat)
  case atStart => exact ⟨0, by omega, rfl, V0.out, V1.out, V2.out, VW.out⟩
  case round =>
    obtain ⟨k, hk, rfl, h0, h1, h2, hw⟩ := hrel
    have D0 : Hid (_) := h0
    have D1 : Hid (_) := h1
    have D2 : Hid (_) := h2
    have DW : Hid (_) := hw
    clear h0 h1 h2 hw V0 V1 V2 VW
    have okA : Hid (∀ k, k ≤ n → (addAll a ls ps k).ok) := ok_addAll HA.out fun k hk => (HC.out k hk).2.bytes
    by_cases hlt : k < n
    · have i1 : (k : Int) < n := by omega
      have ck : wr.cell? ⟨bb, off + k, none⟩ = some (vs k) := by rw [below_cell DW.out HBB.out]; exact (HC.out k hlt).1
      obtain ⟨t, ht⟩ : ∃ t, t = addAll a ls ps k := ⟨_, rfl⟩
      rw [← ht] at D2
      have HT : Hid (_) := ht
      clear ht
      go_wp2_with (first
        | (refine isLoad 73 (.tmp 5) rfl ?_; go_must (refine wpList_load_row rfl 73 (.tmp 5) rfl (w.heap.size + 2) rfl 73 _ (0, 0) _ D2.out Tryz.underlying73 rfl (size27' _ _ _) ?_; simp only [Act.put, List.setIfInBounds_toArray, List.set_cons_succ, List.set_cons_zero])))
      refine (add_any t (vs k) (ls k) (ps k) wr (HG.out.below DW.out HG.out.sz) (by rw [HT.out]; exact okA.out k hk) (by rw [HT.out, addAll_n]; have := H3.out; have h := totL_mono ls (show k + 1 ≤ n by omega); simp only [totL] at h; omega) ((HC.out k hlt).2.below DW.out)).mono ?_
      rintro e w1 ⟨rfl, hb1⟩
      have sz : w.heap.size + 2 < wr.heap.size := (Array.getElem?_eq_some_iff.1 D2.out).1
      have E0 : Hid (w1.heap[w.heap.size]? = some (.cells (kc a b) 75)) := by rw [hb1.block _ (by omega)]; exact D0.out
      have E1 : Hid (w1.heap[w.heap.size + 1]? = some (.cells (tab8 32 (fun _ => 0)) 54)) := by rw [hb1.block _ (by omega)]; exact D1.out
      have E2 : Hid (w1.heap[w.heap.size + 2]? = some (.cells t.cells 73)) := by rw [hb1.block _ (by omega)]; exact D2.out
      have EW : Hid (Below w.heap.size w w1) := DW.out.trans (hb1.mono DW.out.size)
      clear hb1 sz D0 D1 D2 DW ck
      go_wp2_with (first
        | (refine isStore 73 (.tmp 5) (.tmp 19) rfl ?_; go_must (refine wpList_store_row rfl 73 (.tmp 5) (.tmp 19) rfl (w.heap.size + 2) _ rfl rfl 73 _ E2.out (size27' _ _ _) (by simp only [HS.cells, hc_size]) (hc_one _ _ _) ?_; simp only [Act.put])))
      go_roundw
      case rel =>
        refine ⟨k + 1, by omega, by go_num, ?_, ?_, ?_, below_setRow EW.out (by omega) _⟩
        · rw [setRow_other _ _ _ _ (by omega)]; exact E0.out
        · rw [setRow_other _ _ _ _ (by omega)]; exact E1.out
        · simp only [addAll]; rw [← HT.out]; exact setRow_heap _ _ _ _ _ _ E2.out
      case measure => simp [intOf]; omega
    · have hkn : k = n := by omega
      subst hkn
      obtain ⟨t, ht⟩ : ∃ t, t = addAll a ls ps k := ⟨_, rfl⟩
      rw [← ht] at D2
      have OT : Hid (t.ok) := by rw [ht]; exact okA.out k hk
      have HT : Hid (_) := ht
      clear ht
      go_wp2_with (first
        | (refine isLoad 73 (.tmp 5) rfl ?_; go_must (refine wpList_load_row rfl 73 (.tmp 5) rfl (w.heap.size + 2) rfl 73 _ (0, 0) _ D2.out Tryz.underlying73 rfl (size27' _ _ _) ?_; simp only [Act.put, List.setIfInBounds_toArray, List.set_cons_succ, List.set_cons_zero])))
      refine (hsum_any t wr (HG.out.below DW.out HG.out.sz) OT.out).mono ?_
      rintro e w1 ⟨rfl, hb1⟩
      have sz : w.heap.size + 2 < wr.heap.size := (Array.getElem?_eq_some_iff.1 D2.out).1
      have E0 : Hid (w1.heap[w.heap.size]? = some (.cells (kc a b) 75)) := by rw [hb1.block _ (by omega)]; exact D0.out
      have E1 : Hid (w1.heap[w.heap.size + 1]? = some (.cells (tab8 32 (fun _ => 0)) 54)) := by rw [hb1.block _ (by omega)]; exact D1.out
      have EW : Hid (Below w.heap.size w w1) := DW.out.trans (hb1.mono DW.out.size)
      have ES : Hid (w.heap.size + 2 < w1.heap.size) := Nat.lt_of_lt_of_le sz hb1.size
      clear hb1 sz D0 D1 D2 DW
      go_wp2_with (first
        | (refine isStore 54 (.tmp 8) (.tmp 22) rfl ?_; go_must (refine wpList_store_row rfl 54 (.tmp 8) (.tmp 22) rfl w1.heap.size _ rfl rfl 54 _ (heap_alloc_new _ _) (size28' _) (by simp only [tab8_size]) (tab8_one _ _) ?_; rw [World.setRow_alloc_new]; simp only [Act.put])))
      obtain ⟨G, hGd⟩ : ∃ G, G = w1.heap.size := ⟨_, rfl⟩
      obtain ⟨X, hX⟩ : ∃ X, X = w1.alloc (.cells (tab8 32 (sumD t)) 54) := ⟨_, rfl⟩
      have XG : Hid (X.heap[G]? = some (.cells (tab8 32 (sumD t)) 54)) := by rw [hX, hGd]; exact heap_alloc_new _ _
      have X0 : Hid (X.heap[w.heap.size]? = some (.cells (kc a b) 75)) := by rw [hX, Below.heap_alloc _ _ _ (by have := ES.out; omega)]; exact E0.out
      have X1 : Hid (X.heap[w.heap.size + 1]? = some (.cells (tab8 32 (fun _ => 0)) 54)) := by rw [hX, Below.heap_alloc _ _ _ (by have := ES.out; omega)]; exact E1.out
      have XW : Hid (Below w.heap.size w X) := by rw [hX]; exact EW.out.alloc EW.out.size _
      rw [← hX, ← hGd]
      clear hX hGd E0 E1 EW ES
      have LG : G < X.heap.size := (Array.getElem?_eq_some_iff.1 XG.out).1
      have L0 : w.heap.size < X.heap.size := (Array.getElem?_eq_some_iff.1 X0.out).1
      have L1 : w.heap.size + 1 < X.heap.size := (Array.getElem?_eq_some_iff.1 X1.out).1
      refine wp_region_slotsL 3 [23, 24, 25] (fun j v _ => match j with | 0 => v = .pointer (some ⟨w.heap.size, 73, none⟩) | 1 => v = .agg b.cells | _ => v = .slice (some ⟨G, 0, none⟩) 32 32) (by kernel_rfl) (by kernel_rfl) (by kernel_rfl) (by decide) (fun j v W W' h _ => by
        match j, h with
        | 0, h => exact h
        | 1, h => exact h
        | _ + 2, h => exact h) rfl ?_ ?_
      · intro j hj x W hB hdep
        match j, hj with
        | 0, _ => exact stepV rfl rfl (execField rfl rfl) ⟨_, rfl, rfl, Below.refl _ _⟩
        | 1, _ =>
          have h0 : x 0 = .pointer (some ⟨w.heap.size, 73, none⟩) := hdep _ rfl 0 rfl
          exact stepV rfl rfl (execLoadMid rfl h0 (range_k1 (by rw [hB.block _ L0]; exact X0.out))) ⟨_, rfl, rfl, Below.refl _ _⟩
        | 2, _ => exact stepV rfl rfl (execSlice rfl rfl (slice32 _ _)) ⟨_, rfl, rfl, Below.refl _ _⟩
      · intro x W hB hS
        have e0 : x 0 = .pointer (some ⟨w.heap.size, 73, none⟩) := hS 0 (by omega)
        have e1 : x 1 = .agg b.cells := hS 1 (by omega)
        have e2 : x 2 = .slice (some ⟨G, 0, none⟩) 32 32 := hS 2 (by omega)
        have gG : Hid (W.heap[G]? = some (.cells (tab8 32 (sumD t)) 54)) := by rw [hB.block _ LG]; exact XG.out
        have g1 : Hid (W.heap[w.heap.size + 1]? = some (.cells (tab8 32 (fun _ => 0)) 54)) := by rw [hB.block _ L1]; exact X1.out
        have gW : Hid (Below w.heap.size w W) := XW.out.trans (hB.mono XW.out.size)
        simp only [putL, List.drop_succ_cons, List.drop_zero, e0, e1, e2, Act.put, List.setIfInBounds_toArray, List.set_cons_succ, List.set_cons_zero]
        clear hS hB e0 e1 e2 XG X0 X1 XW LG L0 L1
        go_wp2_with fail
        refine (add_any b (.slice (some ⟨G, 0, none⟩) 32 32) 32 (sumD t) W (HG.out.below gW.out HG.out.sz) HBo.out (by rw [HBn.out]; omega) (sliceB_row gG.out (by omega) fun j _ => sumD_bd _ j)).mono ?_
        rintro e w2 ⟨rfl, hb2⟩
        have q1 : Hid (w2.heap[w.heap.size + 1]? = some (.cells (tab8 32 (fun _ => 0)) 54)) := by rw [hb2.block _ (Array.getElem?_eq_some_iff.1 g1.out).1]; exact g1.out
        have qW : Hid (Below w.heap.size w w2) := gW.out.trans (hb2.mono gW.out.size)
        clear hb2 gG g1 gW
        go_wp2_with fail
        obtain ⟨u, hu⟩ : ∃ u, u = addN b (sumD t) 32 := ⟨_, rfl⟩
        have OU : Hid (u.ok) := by rw [hu]; exact ok_addN HBo.out fun j _ => sumD_bd _ j
        rw [← hu]
        refine (hsum_any u w2 (HG.out.below qW.out HG.out.sz) OU.out).mono ?_
        rintro e w3 ⟨rfl, hb3⟩
        have p1 : Hid (w3.heap[w.heap.size + 1]? = some (.cells (tab8 32 (fun _ => 0)) 54)) := by rw [hb3.block _ (Array.getElem?_eq_some_iff.1 q1.out).1]; exact q1.out
        have pW : Hid (Below w.heap.size w w3) := qW.out.trans (hb3.mono qW.out.size)
        have HU : Hid (_) := hu
        clear hb3 q1 qW hu
        go_wp2_with (first
          | (refine isStore 54 (.tmp 4) (.tmp 27) rfl ?_; go_must (refine wpList_store_row rfl 54 (.tmp 4) (.tmp 27) rfl (w.heap.size + 1) _ rfl rfl 54 _ p1.out (size28' _) (by simp only [tab8_size]) (tab8_one _ _) ?_)))
        refine bodyPost_ret (v := .agg (tab8 32 (sumD u))) (results_cell_row Tryz.results57 _ _ (w.heap.size + 1) 54 _ (0, 0) _ rfl (setRow_heap _ _ _ _ _ _ p1.out) Tryz.underlying54 rfl (size28' _)) rfl ⟨?_, ?_⟩
        · rw [HU.out, HT.out]; rfl
        · exact below_setRow pW.out (by omega) _
end Go.Proofs.YteekoabgbjbabaaGreatDoor
