import Derived.Test.YtmfaapbhehhlpaaW7
import Derived.Test.YtmfaapbhehhlpaaJ4
namespace Go.Proofs.Ytmfaapbhehhlpaa.Aes
open Go.RowKit Gf8
/- The program's block: following; the table of Sub. -/

set_option maxRecDepth 20000 in
set_option maxHeartbeats 400000 in
theorem following_any (n : Nat) (V : World) :
    Calls Try.prog 40 #[.agg (bA 16 (be n))] V fun e w' => e = .returned (.agg (bA 16 (be (n + 1)))) ∧ Below V.heap.size V w' := by
  have z := zero16
  go_enter Try.func40, Try.ntmps40
  go_wp2_with fail
  clear z
  have hs : ∀ (v : World) (o : Obj), (v.alloc o).heap = v.heap.push o := fun _ _ => rfl
  have T0 : Hid (((V.alloc (.cells (bA 16 (be n)) 55)).alloc (.cells (bA 16 fun _ => 0) 55)).heap[V.heap.size]? = some (.cells (bA 16 (nxF n 0)) 55) ∧ ((V.alloc (.cells (bA 16 (be n)) 55)).alloc (.cells (bA 16 fun _ => 0) 55)).heap[V.heap.size + 1]? = some (.cells (bA 16 fun _ => 0) 55)) := by
    refine ⟨?_, ?_⟩
    · simp only [hs, Array.getElem?_push, Array.size_push]; rw [if_neg (by omega), if_pos trivial, bA_congr (f := nxF n 0) (g := be n) (fun j hj => by unfold nxF; rw [if_neg (by omega)])]
    · simp only [hs, Array.getElem?_push, Array.size_push]; rw [if_pos trivial]
  clear hs
  go_loopw [3] (fun x W => ∃ m : Nat, m ≤ 16 ∧ x = .int .i64 (15 - (m : Int)) ∧ 256 ^ m ∣ n + 1 ∧ W.heap[V.heap.size]? = some (.cells (bA 16 (nxF n m)) 55) ∧ W.heap[V.heap.size + 1]? = some (.cells (bA 16 fun _ => 0) 55) ∧ Below V.heap.size V W) (fun x _ => (intOf x + 1).toNat)
  case atStart => exact ⟨0, by omega, rfl, by simp, T0.out.1, T0.out.2, ((Below.refl _ _).alloc (Nat.le_refl _) _).alloc (by simp) _⟩
  case round =>
    obtain ⟨m, hm, rfl, hd, g1, g2, bel⟩ := hrel
    have G1 : Hid (_) := g1
    have G2 : Hid (_) := g2
    have HD : Hid (256 ^ m ∣ n + 1) := hd
    have BL : Hid (Below V.heap.size V wr) := bel
    clear g1 g2 bel T0 hd
    by_cases hlt : m < 16
    · obtain ⟨i, hi⟩ : ∃ i, 15 - m = i := ⟨_, rfl⟩
      have e0 : 15 - (m : Int) = (i : Int) := by omega
      have i1 : (i : Int) ≥ 0 := by omega
      have i2 : (i : Int) < 16 := by omega
      have hi16 : i < 16 := by omega
      obtain ⟨y, hy⟩ : ∃ y, be n i = y := ⟨_, rfl⟩
      obtain ⟨x, hx⟩ : ∃ x, be (n + 1) i = x := ⟨_, rfl⟩
      have x1 : x < 256 := by rw [← hx]; exact be_by _ i hi16
      have exy : ((y : Int) + 1) % 256 = (x : Int) := by
        have := be_next n i
        rw [if_pos (by rw [show 15 - i = m by omega]; exact HD.out), hy, hx] at this
        omega
      have c1 : wr.cell? ⟨V.heap.size, i, none⟩ = some (.int .u8 y) := by
        rw [cellN G1.out hi16]
        unfold nxF
        rw [if_neg (by omega), hy]
      have c2 : wr.frozen? ⟨V.heap.size, i, none⟩ = false := frozen4 G1.out
      have R1 : Hid ((wr.setCell ⟨V.heap.size, i, none⟩ (.int .u8 x)).heap[V.heap.size]? = some (.cells (bA 16 (nxF n (m + 1))) 55)) := by
        show (wr.setCell ⟨V.heap.size, i, none⟩ (.int .u8 x)).heap[V.heap.size]? = _
        rw [heap4 _ G1.out, bA_set, ← hx, ← hi, nxF_step n hlt]
      have R2 : Hid ((wr.setCell ⟨V.heap.size, i, none⟩ (.int .u8 x)).heap[V.heap.size + 1]? = some (.cells (bA 16 fun _ => 0) 55)) := by
        show (wr.setCell ⟨V.heap.size, i, none⟩ (.int .u8 x)).heap[V.heap.size + 1]? = _
        rw [heap4o _ G1.out (by omega)]; exact G2.out
      have R3 : Hid (Below V.heap.size V (wr.setCell ⟨V.heap.size, i, none⟩ (.int .u8 x))) := BL.out.setCell (Nat.le_refl _) _
      have c3 : (wr.setCell ⟨V.heap.size, i, none⟩ (.int .u8 x)).cell? ⟨V.heap.size, i, none⟩ = some (.int .u8 x) := by
        rw [cellN R1.out hi16]
        unfold nxF
        rw [if_pos (by omega), hx]
      have CM : Hid (256 ^ (m + 1) ∣ n + 1 ↔ x = 0) := by
        show 256 ^ (m + 1) ∣ n + 1 ↔ x = 0
        rw [carry_more n m HD.out, ← hx]
        unfold be
        rw [show 15 - i = m by omega]
      rw [e0]
      clear hi hy hx hm
      by_cases h0 : x = 0
      · have z0 : ((x : Int) != 0) = false := by simp [h0]
        have H0 : Hid (x = 0) := h0
        clear h0
        go_wp2
        go_roundw
        case rel => exact ⟨m + 1, by omega, by go_num, CM.out.2 H0.out, R1.out, R2.out, R3.out⟩
        case measure => simp [intOf]
      · have z0 : ((x : Int) != 0) = true := by simp [h0]
        have R4 : Hid ((wr.setCell ⟨V.heap.size, i, none⟩ (.int .u8 x)).heap[V.heap.size]? = some (.cells (bA 16 (be (n + 1))) 55)) := by
          have h := R1.out
          rw [bA_congr (nxF_done (fun e => h0 (CM.out.1 e)))] at h
          exact h
        go_wp2_with (first
          | (refine atLoad 55 (.tmp 1) rfl ?_; go_must (refine wpList_load_row rfl 55 (.tmp 1) rfl V.heap.size rfl 55 _ (0, 0) _ R4.out Try.underlying55 rfl (size16 _) ?_; simp only [Act.put, List.setIfInBounds_toArray, List.set_cons_succ, List.set_cons_zero]))
          | (refine atStore 55 (.tmp 2) (.tmp 17) rfl ?_; go_must (refine wpList_store_row rfl 55 (.tmp 2) (.tmp 17) rfl (V.heap.size + 1) _ rfl rfl 55 _ R2.out (size16 _) rfl (bA_one _ _) ?_)))
        refine bodyPost_ret (v := .agg (bA 16 (be (n + 1)))) (results_cell_row Try.results40 _ _ (V.heap.size + 1) 55 _ (0, 0) _ rfl (setRow_heap _ _ _ _ _ _ R2.out) Try.underlying55 rfl (size16 _)) rfl ⟨rfl, ?_⟩
        exact below4 R3.out (by omega) _
    · have em : m = 16 := by omega
      subst em
      have R4 : Hid (wr.heap[V.heap.size]? = some (.cells (bA 16 (be (n + 1))) 55)) := by
        have h := G1.out
        rw [bA_congr (nxF_all n)] at h
        exact h
      go_wp2_with (first
        | (refine atLoad 55 (.tmp 1) rfl ?_; go_must (refine wpList_load_row rfl 55 (.tmp 1) rfl V.heap.size rfl 55 _ (0, 0) _ R4.out Try.underlying55 rfl (size16 _) ?_; simp only [Act.put, List.setIfInBounds_toArray, List.set_cons_succ, List.set_cons_zero]))
        | (refine atStore 55 (.tmp 2) (.tmp 17) rfl ?_; go_must (refine wpList_store_row rfl 55 (.tmp 2) (.tmp 17) rfl (V.heap.size + 1) _ rfl rfl 55 _ G2.out (size16 _) rfl (bA_one _ _) ?_)))
      refine bodyPost_ret (v := .agg (bA 16 (be (n + 1)))) (results_cell_row Try.results40 _ _ (V.heap.size + 1) 55 _ (0, 0) _ rfl (setRow_heap _ _ _ _ _ _ G2.out) Try.underlying55 rfl (size16 _)) rfl ⟨rfl, ?_⟩
      exact below4 BL.out (by omega) _

/-- What tableOfSub hands out, a table of substitution at T. -/
theorem table_read (T a : Nat) (f : Nat → Nat) (W : World) (ha : a < 256) (hT : W.heap[T]? = some (.cells (bA 256 f) 75)) :
    Calls Try.prog 47 #[.int .u8 a, .pointer (some ⟨T, 0, none⟩)] W fun e w' => e = .returned (.int .u8 (f a : Nat)) ∧ Below W.heap.size W w' := by
  have a1 : (a : Int) < 256 := by omega
  have c : W.cell? ⟨T, a, none⟩ = some (.int .u8 (f a)) := cellN hT ha
  clear hT
  go_enter Try.func47, Try.ntmps47
  go_wp2
  go_ret
  exact ⟨rfl, Below.refl _ _⟩
theorem fn_table (T : Nat) (V : World) (hT : V.heap[T]? = some (.cells (bA 256 gsub) 75)) : FnB 47 #[.pointer (some ⟨T, 0, none⟩)] gsub V :=
  ⟨enters_of Try.func47 (by kernel_rfl) rfl, fun a W ha hb => by
    have h := table_read T a gsub W ha (by rw [hb.block _ (Array.getElem?_eq_some_iff.1 hT).1]; exact hT)
    simpa using h, fun _ h => gsub_lt h⟩

set_option maxRecDepth 20000 in
set_option maxHeartbeats 400000 in
theorem tableOfSub_any (V : World) :
    Calls Try.prog 38 #[] V fun e w' => e = .returned (.func (.func 47) #[] #[.pointer (some ⟨V.heap.size, 0, none⟩)]) ∧ w'.heap[V.heap.size]? = some (.cells (bA 256 gsub) 75) ∧ Below V.heap.size V w' := by
  have z := zero256
  go_enter Try.func38, Try.ntmps38
  go_wp2_with fail
  clear z
  have T0 : Hid ((V.alloc (.cells (bA 256 fun _ => 0) 75)).heap[V.heap.size]? = some (.cells (bA 256 (uptoC gsub 0)) 75)) := heapNew V _
  go_loopw [3] (fun x W => ∃ k : Nat, k ≤ 256 ∧ x = .int .i64 k ∧ W.heap[V.heap.size]? = some (.cells (bA 256 (uptoC gsub k)) 75) ∧ Below V.heap.size V W) (fun x _ => 256 - (intOf x).toNat)
  case atStart => exact ⟨0, by omega, rfl, T0.out, belNew V _⟩
  case round =>
    obtain ⟨k, hk, rfl, g1, bel⟩ := hrel
    clear T0
    by_cases hlt : k < 256
    · have i1 : (k : Int) < 256 := by omega
      have HL : Hid (k < 256) := hlt
      have CS := sub_any k wr hlt
      have G1 : Hid (_) := g1
      have BL : Hid (Below V.heap.size V wr) := bel
      clear g1 bel hlt hk
      go_wp2_with (go_at_call 46; refine CS.mono ?_; rintro e w1 ⟨rfl, hb1⟩; have g1 : w1.heap[V.heap.size]? = some (.cells (bA 256 (uptoC gsub k)) 75) := (by rw [hb1.block _ (Array.getElem?_eq_some_iff.1 G1.out).1]; exact G1.out); have n1 : w1.cell? ⟨V.heap.size, k, none⟩ = some (.int .u8 (uptoC gsub k k)) := cellN g1 HL.out; have n2 : w1.frozen? ⟨V.heap.size, k, none⟩ = false := frozen4 g1)
      have R1 : Hid ((w1.setCell ⟨V.heap.size, k, none⟩ (.int .u8 (gsub k : Nat))).heap[V.heap.size]? = some (.cells (bA 256 (uptoC gsub (k + 1))) 75)) := by
        show (w1.setCell ⟨V.heap.size, k, none⟩ (.int .u8 (gsub k : Nat))).heap[V.heap.size]? = _
        rw [heap4 _ g1, bA_set, updN_upto]
      have R2 : Hid (Below V.heap.size V (w1.setCell ⟨V.heap.size, k, none⟩ (.int .u8 (gsub k : Nat)))) := (BL.out.trans (hb1.mono BL.out.size)).setCell (Nat.le_refl _) _
      go_roundw
      case rel => exact ⟨k + 1, by have := HL.out; omega, by go_num, R1.out, R2.out⟩
      case measure => have := HL.out; simp [intOf]; omega
    · have i1 : ¬ (k : Int) < 256 := by omega
      have ek : k = 256 := by omega
      subst ek
      have G : Hid (wr.heap[V.heap.size]? = some (.cells (bA 256 gsub) 75)) := by
        have h := g1
        rw [bA_congr (g := gsub) (fun j hj => by unfold uptoC; rw [if_pos hj])] at h
        exact h
      go_wp2
      go_ret
      exact ⟨rfl, G.out, bel⟩
end Go.Proofs.Ytmfaapbhehhlpaa.Aes
