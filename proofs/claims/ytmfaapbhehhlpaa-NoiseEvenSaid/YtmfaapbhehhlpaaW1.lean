import Derived.Test.YtmfaapbhehhlpaaI4
namespace Go.Proofs.Ytmfaapbhehhlpaa.Aes
open Go.RowKit Gf8
/- The program's block: sum. -/

/-- Two blocks, byte by byte. -/
def xorB (a b : Nat → Nat) : Nat → Nat := fun j => a j ^^^ b j
theorem addR_xorB (w b : Nat → Nat) (i : Nat) : xorB b (fun j => w (16 * i + j)) = addR w b i := rfl
/-- What each operation of 'a[i] ^= b[i]' yields. -/
def smV (A k : Nat) (a b : Nat → Nat) (j : Nat) : Value :=
  match j with
  | 0 => .int .i64 k | 1 => .pointer (some ⟨A, k, none⟩) | 2 => .int .u8 (a k) | 3 => .int .i64 k | 4 => .pointer (some ⟨A + 1, k, none⟩)
  | 5 => .int .u8 (b k) | 6 => .int .u8 (xorB a b k : Nat) | 7 => .pointer (some ⟨A, k, none⟩) | _ => undef
structure SmT (A k : Nat) (a b : Nat → Nat) (V : World) (l : Nat → Bool) (W : World) : Prop where
  m : W.heap[A]? = some (.cells (bA 16 (mixU (xorB a b) a (if l 8 = true then k + 1 else k))) 55)
  w : W.heap[A + 1]? = some (.cells (bA 16 b) 55)
  r : W.heap[A + 2]? = some (.cells (bA 16 fun _ => 0) 55)
  bel : Below A V W

set_option maxRecDepth 20000 in
set_option maxHeartbeats 400000 in
theorem sum_any (a b : Nat → Nat) (V : World) (ha : By a) (hb : By b) :
    Calls Try.prog 50 #[.agg (bA 16 a), .agg (bA 16 b)] V fun e w' => e = .returned (.agg (bA 16 (xorB a b))) ∧ Below V.heap.size V w' := by
  have HA : Hid (By a) := ha
  have HB : Hid (By b) := hb
  clear ha hb
  have z := zero16
  go_enter Try.func50, Try.ntmps50
  go_wp2_with fail
  have t0 : SmT V.heap.size 0 a b V (fun _ => false) (((V.alloc (.cells (bA 16 a) 55)).alloc (.cells (bA 16 b) 55)).alloc (.cells (bA 16 fun _ => 0) 55)) := by
    have h := heap3c V (.cells (bA 16 a) 55) (.cells (bA 16 b) 55) (.cells (bA 16 fun _ => 0) 55)
    exact ⟨h.1, h.2.1, h.2.2, below3c _ _ _ _⟩
  obtain ⟨A, hA⟩ : ∃ A, A = V.heap.size := ⟨_, rfl⟩
  rw [← hA] at t0 ⊢
  have VA : Hid (V.heap.size = A) := hA.symm
  have T0 : Hid (_) := t0
  clear z t0 hA
  rw [show A + 1 + 1 = A + 2 from rfl]
  go_loopw [6] (fun x W => ∃ k : Nat, k ≤ 16 ∧ x = .int .i64 k ∧ SmT A k a b V (fun _ => false) W) (fun x _ => 16 - (intOf x).toNat)
  case atStart => exact ⟨0, by omega, rfl, T0.out⟩
  case round =>
    obtain ⟨k, hk, rfl, kt⟩ := hrel
    have KT : Hid (_) := kt
    clear kt T0
    by_cases hlt : k < 16
    · have i1 : (k : Int) < 16 := by omega
      have HL : Hid (k < 16) := hlt
      clear hlt hk
      go_wp2_with fail
      refine wp_region_det 19 [(0, 9), (1, 10), (2, 11), (3, 12), (4, 13), (5, 14), (6, 15), (7, 16)] (smV A k a b) (SmT A k a b V) (by kernel_rfl) (by kernel_rfl) rfl (by kernel_rfl) (by decide) (by decide) ?_ ?_ ?_
      · exact ⟨KT.out.m, KT.out.w, KT.out.r, KT.out.bel.drew⟩
      · intro j hj l a W hl hf hdep hl2 hcl _ hT
        have lk := HL.out
        match j, hj with
        | 0, _ => exact stepV rfl rfl (execMvB rfl (hf 5 (by decide))) ⟨⟨_, rfl, rfl⟩, ⟨hT.m, hT.w, hT.r, hT.bel⟩⟩
        | 1, _ => exact stepV rfl rfl (execIdx16 rfl (hf 2 (by decide)) (hdep _ rfl 0 rfl _ rfl _ rfl) lk) ⟨⟨_, rfl, rfl⟩, ⟨hT.m, hT.w, hT.r, hT.bel⟩⟩
        | 2, _ =>
          have n8 : l 8 = false := by
            cases h : l 8 with
            | false => rfl
            | true =>
              have := hcl 6 _ rfl (hcl 8 _ rfl h 6 rfl) 2 rfl
              rw [hl] at this
              cases this
          have ge := hT.m
          rw [n8, if_neg (by decide)] at ge
          refine stepV rfl rfl (execLdB rfl (hdep _ rfl 1 rfl _ rfl _ rfl) (cellN ge lk)) ⟨⟨_, rfl, congrArg (fun z : Nat => Act.put a _ (.int .u8 z)) ?_⟩, ⟨hT.m, hT.w, hT.r, hT.bel⟩⟩
          unfold mixU; rw [if_neg (by omega)]
        | 3, _ => exact stepV rfl rfl (execMvB rfl (hf 5 (by decide))) ⟨⟨_, rfl, rfl⟩, ⟨hT.m, hT.w, hT.r, hT.bel⟩⟩
        | 4, _ => exact stepV rfl rfl (execIdx16 rfl (hf 3 (by decide)) (hdep _ rfl 3 rfl _ rfl _ rfl) lk) ⟨⟨_, rfl, rfl⟩, ⟨hT.m, hT.w, hT.r, hT.bel⟩⟩
        | 5, _ => exact stepV rfl rfl (execLdB rfl (hdep _ rfl 4 rfl _ rfl _ rfl) (cellN hT.w lk)) ⟨⟨_, rfl, rfl⟩, ⟨hT.m, hT.w, hT.r, hT.bel⟩⟩
        | 6, _ => exact stepV rfl rfl (execXor5 rfl (hdep _ rfl 2 rfl _ rfl _ rfl) (hdep _ rfl 5 rfl _ rfl _ rfl) (HA.out k lk) (HB.out k lk)) ⟨⟨_, rfl, rfl⟩, ⟨hT.m, hT.w, hT.r, hT.bel⟩⟩
        | 7, _ => exact stepV rfl rfl (execIdx16 rfl (hf 2 (by decide)) (hdep _ rfl 0 rfl _ rfl _ rfl) lk) ⟨⟨_, rfl, rfl⟩, ⟨hT.m, hT.w, hT.r, hT.bel⟩⟩
        | 8, _ =>
          have ge := hT.m
          rw [hl, if_neg (by decide)] at ge
          refine stepS rfl rfl (execStB rfl (hdep _ rfl 7 rfl _ rfl _ rfl) (hdep _ rfl 6 rfl _ rfl _ rfl) (cellN ge lk) (frozen4 ge)) ⟨⟨_, rfl, rfl⟩, ⟨?_, ?_, ?_, hT.bel.setCell (Nat.le_refl _) _⟩⟩
          · rw [heap4 _ ge]; exact congrArg (fun z => some (Obj.cells z 55)) ((bA_set 16 _ k _).trans (congrArg (bA 16) (updN_mixU _ _ k)))
          · rw [heap4o _ ge (by omega)]; exact hT.w
          · rw [heap4o _ ge (by omega)]; exact hT.r
        | n + 9, h => exact absurd h (by simp)
      · intro l W hall hT
        have he := hT.m
        rw [hall 8 (by simp), if_pos rfl] at he
        have KT2 : Hid (SmT A (k + 1) a b V (fun _ => false) W) := ⟨he, hT.w, hT.r, hT.bel⟩
        clear hall hT he KT
        simp only [putP, smV, Act.put, List.setIfInBounds_toArray, List.set_cons_succ, List.set_cons_zero]
        go_wp2
        go_roundw
        case rel => exact ⟨k + 1, by have := HL.out; omega, by go_num, KT2.out⟩
        case measure => have := HL.out; simp [intOf]; omega
    · have i1 : ¬ (k : Int) < 16 := by omega
      have ek : k = 16 := by omega
      subst ek
      have G : Hid (wr.heap[A]? = some (.cells (bA 16 (xorB a b)) 55)) := by
        have h := KT.out.m
        rw [if_neg (by decide)] at h
        rw [bA_congr (g := xorB a b) (fun j hj => by unfold mixU; rw [if_pos hj])] at h
        exact h
      go_wp2_with (first
        | (refine atLoad 55 (.tmp 2) rfl ?_; go_must (refine wpList_load_row rfl 55 (.tmp 2) rfl A rfl 55 _ (0, 0) _ G.out Try.underlying55 rfl (size16 _) ?_; simp only [Act.put, List.setIfInBounds_toArray, List.set_cons_succ, List.set_cons_zero]))
        | (refine atStore 55 (.tmp 4) (.tmp 18) rfl ?_; go_must (refine wpList_store_row rfl 55 (.tmp 4) (.tmp 18) rfl (A + 2) _ rfl rfl 55 _ KT.out.r (size16 _) rfl (bA_one _ _) ?_)))
      refine bodyPost_ret (v := .agg (bA 16 (xorB a b))) (results_cell_row Try.results50 _ _ (A + 2) 55 _ (0, 0) _ rfl (setRow_heap _ _ _ _ _ _ KT.out.r) Try.underlying55 rfl (size16 _)) rfl ⟨rfl, ?_⟩
      rw [VA.out]
      exact below4 KT.out.bel (by omega) _
end Go.Proofs.Ytmfaapbhehhlpaa.Aes
