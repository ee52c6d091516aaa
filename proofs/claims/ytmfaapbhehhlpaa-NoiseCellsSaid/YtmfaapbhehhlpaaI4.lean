import Derived.Test.YtmfaapbhehhlpaaI3
namespace Go.Proofs.Ytmfaapbhehhlpaa.Aes
open Go.RowKit Gf8 By8

/-- How many bytes a stream of n has. -/
def slen (n : Int) : Nat := if 0 ≤ n ∧ n ≤ 65536 then n.toNat else 0
/-- A nil list of bytes. -/
theorem nil_slice (W : World) (p : Nat → Nat) : SliceN W (.slice none 0 0) 0 p := ⟨⟨_, _, rfl, Nat.le_refl _, by omega, fun h => by omega⟩, fun j hj => by omega⟩
theorem made_slice (W : World) (n : Nat) (hn : n ≤ 140737488355328) : SliceN (W.alloc (.cells (bA n (fun _ => 0)) 5)) (.slice (some ⟨W.heap.size, 0, none⟩) n n) n (fun _ => 0) := by
  refine ⟨⟨_, n, rfl, Nat.le_refl _, by omega, fun _ => ⟨W.heap.size, 0, rfl, by simp, fun j hj => ?_⟩⟩, fun _ _ => by omega⟩
  rw [Nat.zero_add]
  exact cellN (heapNew W _) hj
def skS (key : Nat → Nat) (s0 n : Nat) (j : Nat) (r : Value) (W : World) : Prop :=
  match j with
  | 0 => r = .agg (bA 16 key) | 1 => r = .agg (bA 16 (be s0)) | 2 => r = .int .i64 n
  | _ => SliceN W r n (fun _ => 0)
theorem skS_on {key : Nat → Nat} {s0 n j : Nat} {r : Value} {W W' : World} (h : skS key s0 n j r W) (hb : Below W.heap.size W W') : skS key s0 n j r W' := by
  match j, h with
  | 0, h => exact h
  | 1, h => exact h
  | 2, h => exact h
  | m + 3, h => exact SliceN.on h hb

set_option maxRecDepth 20000 in
set_option maxHeartbeats 1000000 in
theorem rstream_any (key : Nat → Nat) (s0 : Nat) (n : Int) (V : World) (hk : ∀ i, i < 16 → key i < 256) :
    Calls Try.prog 28 #[.agg (bA 16 key), .agg (bA 16 (be s0)), .int .i64 n] V fun e w' => ∃ r, e = .returned r ∧ SliceN w' r (slen n) (maskF (kw key) s0 fun _ => 0) ∧ Below V.heap.size V w' := by
  have HK : Hid (∀ i, i < 16 → key i < 256) := hk
  clear hk
  have b0 : Below V.heap.size V ((V.alloc (.cells (bA 16 key) 55)).alloc (.cells (bA 16 (be s0)) 55)) := ((Below.refl _ _).alloc (Nat.le_refl _) _).alloc (by simp) _
  by_cases h : 0 ≤ n ∧ n ≤ 65536
  · obtain ⟨m, rfl⟩ := Int.eq_ofNat_of_zero_le h.1
    have es : slen (m : Int) = m := by unfold slen; rw [if_pos h]; rfl
    have hm : m ≤ 65536 := by omega
    have i1 : ¬ (m : Int) < 0 := by omega
    have i2 : ¬ (m : Int) > 65536 := by omega
    rw [es]
    have HMm : Hid (m ≤ 65536) := hm
    clear h es hm
    obtain ⟨A, hA⟩ : ∃ A, A = V.heap.size := ⟨_, rfl⟩
    have hs : ∀ (v : World) (o : Obj), (v.alloc o).heap = v.heap.push o := fun _ _ => rfl
    have g0 : ((V.alloc (.cells (bA 16 key) 55)).alloc (.cells (bA 16 (be s0)) 55)).heap[A]? = some (.cells (bA 16 key) 55) := by
      rw [hA]; simp only [hs, Array.getElem?_push, Array.size_push]; rw [if_neg (by omega), if_pos trivial]
    have g1 : ((V.alloc (.cells (bA 16 key) 55)).alloc (.cells (bA 16 (be s0)) 55)).heap[A + 1]? = some (.cells (bA 16 (be s0)) 55) := by
      rw [hA]; simp only [hs, Array.getElem?_push, Array.size_push]; rw [if_pos trivial]
    have sz : A + 1 < ((V.alloc (.cells (bA 16 key) 55)).alloc (.cells (bA 16 (be s0)) 55)).heap.size := by rw [hA]; simp
    clear hs
    go_enter Try.func28, Try.ntmps28
    go_wp2_with fail
    rw [← hA]
    obtain ⟨W0, hW0⟩ : ∃ W0, W0 = (V.alloc (.cells (bA 16 key) 55)).alloc (.cells (bA 16 (be s0)) 55) := ⟨_, rfl⟩
    rw [← hW0] at g0 g1 sz b0 ⊢
    clear hW0
    refine wp_region_slotsA 4 18 [13, 14, 15, 16] (skS key s0 m) (by kernel_rfl) (by kernel_rfl) (by kernel_rfl) (by decide) rfl rfl (by decide) (by decide) (fun _ _ _ _ h hb => skS_on h hb) ?_ ?_
    · intro j hj a W hB hf hdep
      have k0 : W.heap[A]? = some (.cells (bA 16 key) 55) := by rw [hB.block _ (by omega)]; exact g0
      have k1 : W.heap[A + 1]? = some (.cells (bA 16 (be s0)) 55) := by rw [hB.block _ (by omega)]; exact g1
      match j, hj with
      | 0, _ => exact stepV rfl rfl (execLoadRow rfl (hf 3 (by decide)) k0 Try.underlying55 rfl (size16 _)) ⟨_, rfl, rfl, Below.refl _ _⟩
      | 1, _ => exact stepV rfl rfl (execLoadRow rfl (hf 4 (by decide)) k1 Try.underlying55 rfl (size16 _)) ⟨_, rfl, rfl, Below.refl _ _⟩
      | 2, _ => exact stepV rfl rfl (execMvB rfl (hf 2 (by decide))) ⟨_, rfl, rfl, Below.refl _ _⟩
      | 3, _ => exact stepV rfl rfl (execMk rfl (hdep _ rfl 2 rfl) (hdep _ rfl 2 rfl) (Nat.le_refl _) (by have := HMm.out; omega)) ⟨_, rfl, made_slice W m (by have := HMm.out; omega), belNew W _⟩
      | q + 4, h => exact absurd h (by omega)
    · intro x W hB hS
      have x0 : x 0 = .agg (bA 16 key) := hS 0 (by omega)
      have x1 : x 1 = .agg (bA 16 (be s0)) := hS 1 (by omega)
      have x2 : x 2 = .int .i64 m := hS 2 (by omega)
      have x3 : SliceN W (x 3) m (fun _ => 0) := hS 3 (by omega)
      have R := rmask_any key (fun _ => 0) s0 m (x 3) W HK.out x3 (by have := HMm.out; omega)
      have HR : Hid (_) := R
      have HB : Hid (Below V.heap.size V W) := b0.trans (hB.mono b0.size)
      clear R x3 hB hS b0 g0 g1 sz
      simp only [putL, Act.put, List.setIfInBounds_toArray, List.set_cons_succ, List.set_cons_zero, x0, x1, x2]
      clear x0 x1 x2
      go_wp2_with (go_at_call 36; refine Calls.mono HR.out ?_; rintro e w' ⟨r, rfl, hr, hb⟩)
      go_ret
      exact ⟨_, rfl, hr, HB.out.trans (hb.mono HB.out.size)⟩
  · have es : slen n = 0 := by unfold slen; rw [if_neg h]
    rw [es]
    have HR : Hid (n < 0 ∨ n > 65536) := by show n < 0 ∨ n > 65536; omega
    have BB : Hid (_) := b0
    clear h es b0
    by_cases h0 : n < 0
    · go_enter Try.func28, Try.ntmps28
      go_wp2
      go_ret
      exact ⟨_, rfl, nil_slice _ _, BB.out⟩
    · have h1 : n > 65536 := by have := HR.out; omega
      go_enter Try.func28, Try.ntmps28
      go_wp2
      go_ret
      exact ⟨_, rfl, nil_slice _ _, BB.out⟩
end Go.Proofs.Ytmfaapbhehhlpaa.Aes
