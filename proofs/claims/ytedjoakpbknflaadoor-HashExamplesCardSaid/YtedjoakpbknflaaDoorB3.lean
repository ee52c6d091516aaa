import Derived.Test.YtedjoakpbknflaaDoorB2
namespace Go.Proofs.YtedjoakpbknflaaDoor
open Go.RowKit

/-- A []byte of len bytes p. -/
structure SliceB (w : World) (v : Value) (len : Nat) (p : Nat → Int) : Prop where
  shape : ∃ a cap, v = .slice a len cap ∧ len ≤ cap ∧ cap < 9223372036854775808 ∧ (0 < len → ∃ b off, a = some ⟨b, off, none⟩ ∧ b < w.heap.size ∧ ∀ j, j < len → w.cell? ⟨b, off + j, none⟩ = some (.int .u8 (p j)))
  bytes : ∀ j, j < len → 0 ≤ p j ∧ p j < 256
theorem SliceB.below {w w' : World} {v : Value} {len : Nat} {p : Nat → Int} (h : SliceB w v len p) (hb : Below w.heap.size w w') : SliceB w' v len p := by
  obtain ⟨⟨a, cap, e, h1, h2, h3⟩, hp⟩ := h
  refine ⟨⟨a, cap, e, h1, h2, fun h0 => ?_⟩, hp⟩
  obtain ⟨b, off, e1, e2, e3⟩ := h3 h0
  exact ⟨b, off, e1, Nat.lt_of_lt_of_le e2 hb.size, fun j hj => by rw [below_cell hb e2]; exact e3 j hj⟩

theorem add_any (s : HS) (v : Value) (len : Nat) (p : Nat → Int) (w : World) (hG : Glob w) (hs : s.ok) (hbig : s.n + len < 1152921504606846976) (hv : SliceB w v len p) :
    Calls Tryd.prog 12 #[.agg s.cells, v] w fun e w' => e = .returned (.agg (addN s p len).cells) ∧ Below w.heap.size w w' := by
  obtain ⟨⟨a, cap, rfl, h1, h2, h3⟩, hp⟩ := hv
  by_cases h0 : 0 < len
  · obtain ⟨b, off, rfl, e2, e3⟩ := h3 h0
    exact add_some s b off len cap p w hG hs h1 hbig e2 e3 hp
  · obtain rfl : len = 0 := by omega
    exact add_none s a cap w

set_option maxHeartbeats 400000 in
theorem sum_any (v : Value) (len : Nat) (p : Nat → Int) (w : World) (hG : Glob w) (hbig : len < 1152921504606846976) (hv : SliceB w v len p) :
    Calls Tryd.prog 9 #[v] w fun e w' => e = .returned (.agg (tab8 32 (sumD (addN HS.new p len)))) ∧ Below w.heap.size w w' := by
  have HG : Hid (_) := hG
  have HV : Hid (_) := hv
  have HB : Hid (_) := hbig
  clear hG hv hbig
  have z28 := zero28
  go_enter Tryd.func9, Tryd.ntmps9
  go_wp2_with fail
  clear z28
  have b0 : Hid (Below w.heap.size w (w.alloc (.cells (tab8 32 (fun _ => 0)) 28))) := (Below.refl _ _).alloc (Nat.le_refl _) _
  refine (new_any _).mono ?_
  rintro e w1 ⟨rfl, hb1⟩
  have B1 : Hid (Below (w.heap.size + 1) (w.alloc (.cells (tab8 32 (fun _ => 0)) 28)) w1) := by
    have hsz : (w.alloc (.cells (tab8 32 (fun _ => 0)) 28)).heap.size = w.heap.size + 1 := by simp
    rw [← hsz]; exact hb1
  clear hb1
  have s1 : Hid (w.heap.size + 1 ≤ w1.heap.size) := by
    show w.heap.size + 1 ≤ w1.heap.size
    have := B1.out.size
    simpa using this
  have c1 : Hid (Below w.heap.size w w1) := b0.out.trans (B1.out.mono (by omega))
  go_wp2_with fail
  refine (add_any HS.new v len p _ (HG.out.below c1.out HG.out.sz) ok_new (by simpa [HS.new] using HB.out) (HV.out.below c1.out)).mono ?_
  rintro e w2 ⟨rfl, hb2⟩
  have B2 : Hid (Below (w.heap.size + 1) w1 w2) := hb2.mono s1.out
  clear hb2
  go_wp2_with fail
  refine (hsum_any _ _ (HG.out.below (c1.out.trans (B2.out.mono (by omega))) HG.out.sz) (ok_addN ok_new HV.out.bytes)).mono ?_
  rintro e w3 ⟨rfl, hb3⟩
  have B3 : Hid (Below (w.heap.size + 1) w2 w3) := hb3.mono (Nat.le_trans s1.out B2.out.size)
  clear hb3
  have r3 : Hid (w3.heap[w.heap.size]? = some (.cells (tab8 32 (fun _ => 0)) 28)) := by
    rw [B3.out.block _ (by omega), B2.out.block _ (by omega), B1.out.block _ (by omega)]; exact heap_alloc_new _ _
  have c3 : Hid (Below w.heap.size w w3) := (c1.out.trans (B2.out.mono (by omega))).trans (B3.out.mono (by omega))
  clear B1 B2 B3 s1 c1 b0 HG HV HB
  go_wp2_with (first
    | (refine isStore 28 (.tmp 2) (.tmp 6) rfl ?_; refine wpList_store_row rfl 28 (.tmp 2) (.tmp 6) rfl w.heap.size _ rfl rfl 28 _ r3.out (size28' _) (by simp only [tab8_size]) (tab8_one _ _) ?_))
  refine bodyPost_ret (v := .agg (tab8 32 (sumD (addN HS.new p len)))) (results_cell_row Tryd.results9 _ _ w.heap.size 28 _ (0, 0) _ rfl (setRow_heap _ _ _ _ _ _ r3.out) Tryd.underlying28 rfl (size28' _)) rfl ⟨rfl, ?_⟩
  exact below_setRow c3.out (Nat.le_refl _) _
end Go.Proofs.YtedjoakpbknflaaDoor
