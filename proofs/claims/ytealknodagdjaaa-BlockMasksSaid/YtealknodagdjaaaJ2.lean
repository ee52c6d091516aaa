import Derived.Test.YtealknodagdjaaaJ1
namespace Go.Proofs.Ytealknodagdjaaa.Aes
open Go.RowKit Gf8

theorem twice_all : ∀ a : Fin 256, (a.val ≥ 128 → (a.val * 2 % 256) ^^^ 27 = xt a.val) ∧ (¬ a.val ≥ 128 → a.val * 2 = xt a.val) := by decide +kernel
set_option maxRecDepth 20000 in
theorem twice_any (a : Nat) (w : World) (ha : a < 256) :
    Calls Try.prog 47 #[.int .u8 a] w fun e w' => e = .returned (.int .u8 (xt a : Nat)) ∧ w' = w := by
  by_cases h : a ≥ 128
  · have h1 : (a : Int) ≥ 128 := by omega
    have e := (twice_all ⟨a, ha⟩).1 h
    simp only at e
    have q : Hid (bits .xor .u8 ((a : Int) * 2 % 256) 27 = ((xt a : Nat) : Int)) := by
      show bits .xor .u8 ((a : Int) * 2 % 256) 27 = ((xt a : Nat) : Int)
      rw [show ((a : Int) * 2 % 256) = ((a * 2 % 256 : Nat) : Int) by omega, show (27 : Int) = ((27 : Nat) : Int) from rfl, xor_u8 (by omega) (by omega), e]
    clear e h
    go_enter Try.func47, Try.ntmps47
    go_wp2
    go_ret
    exact ⟨congrArg (fun x => Ending.returned (Value.int .u8 x)) q.out, rfl⟩
  · have h1 : ¬ (a : Int) ≥ 128 := by omega
    have e := (twice_all ⟨a, ha⟩).2 h
    simp only at e
    have q : Hid ((a : Int) * 2 = ((xt a : Nat) : Int)) := by
      show (a : Int) * 2 = ((xt a : Nat) : Int)
      rw [← e]; omega
    clear e h
    go_enter Try.func47, Try.ntmps47
    go_wp2
    go_ret
    exact ⟨congrArg (fun x => Ending.returned (Value.int .u8 x)) q.out, rfl⟩

/-- What each operation of 'b[j] ^= w[16*i+j]' yields. -/
def adV (A i k : Nat) (b w : Nat → Nat) (j : Nat) : Value :=
  match j with
  | 0 => .int .i64 k | 1 => .pointer (some ⟨A, k, none⟩) | 2 => .int .u8 (b k) | 3 => .int .i64 i | 4 => .int .i64 (16 * i : Nat) | 5 => .int .i64 k | 6 => .int .i64 (16 * i + k : Nat) | 7 => .pointer (some ⟨A + 1, 16 * i + k, none⟩)
  | 8 => .int .u8 (w (16 * i + k)) | 9 => .int .u8 (addR w b i k : Nat) | 10 => .pointer (some ⟨A, k, none⟩) | _ => undef
structure AdT (A i k : Nat) (b w : Nat → Nat) (V : World) (l : Nat → Bool) (W : World) : Prop where
  b : W.heap[A]? = some (.cells (bA 16 (mixU (addR w b i) b (if l 11 = true then k + 1 else k))) 23)
  w : W.heap[A + 1]? = some (.cells (bA 176 w) 38)
  r : W.heap[A + 2]? = some (.cells (bA 16 fun _ => 0) 23)
  bel : Below A V W

set_option maxRecDepth 20000 in
set_option maxHeartbeats 400000 in
theorem added_any (b w : Nat → Nat) (i : Nat) (V : World) (hb : By b) (hw : ∀ i, i < 176 → w i < 256) (hi : i < 11) :
    Calls Try.prog 37 #[.agg (bA 16 b), .agg (bA 176 w), .int .i64 i] V fun e w' => e = .returned (.agg (bA 16 (addR w b i))) ∧ Below V.heap.size V w' := by
  have HB : Hid (_) := hb
  have HW : Hid (∀ i, i < 176 → w i < 256) := hw
  have HI : Hid (_) := hi
  clear hb hw hi
  have z := zero16
  go_enter Try.func37, Try.ntmps37
  go_wp2_with fail
  have t0 : AdT V.heap.size i 0 b w V (fun _ => false) (((V.alloc (.cells (bA 16 b) 23)).alloc (.cells (bA 176 w) 38)).alloc (.cells (bA 16 fun _ => 0) 23)) := by
    have h := heap3c V (.cells (bA 16 b) 23) (.cells (bA 176 w) 38) (.cells (bA 16 fun _ => 0) 23)
    exact ⟨h.1, h.2.1, h.2.2, below3c _ _ _ _⟩
  obtain ⟨A, hA⟩ : ∃ A, A = V.heap.size := ⟨_, rfl⟩
  rw [← hA] at t0 ⊢
  have VA : Hid (V.heap.size = A) := hA.symm
  have T0 : Hid (_) := t0
  clear z t0 hA
  rw [show A + 1 + 1 = A + 2 from rfl]
  go_loopw [7] (fun x W => ∃ k : Nat, k ≤ 16 ∧ x = .int .i64 k ∧ AdT A i k b w V (fun _ => false) W) (fun x _ => 16 - (intOf x).toNat)
  case atStart => exact ⟨0, by omega, rfl, T0.out⟩
  case round =>
    obtain ⟨k, hk, rfl, kt⟩ := hrel
    have KT : Hid (_) := kt
    clear kt T0
    by_cases hlt : k < 16
    · have i1 : (k : Int) < 16 := by omega
      have HL : Hid (k < 16) := hlt
      clear hlt hk
      go_wp2_with fail
      refine wp_region_det 24 [(0, 12), (1, 13), (2, 14), (3, 15), (4, 16), (5, 17), (6, 18), (7, 19), (8, 20), (9, 21), (10, 22)] (adV A i k b w) (AdT A i k b w V) (by kernel_rfl) (by kernel_rfl) rfl (by kernel_rfl) (by decide) (by decide) ?_ ?_ ?_
      · exact ⟨KT.out.b, KT.out.w, KT.out.r, KT.out.bel.drew⟩
      · intro j hj l a W hl hf hdep hl2 hcl _ hT
        have lk := HL.out
        have li := HI.out
        match j, hj with
        | 0, _ => exact stepV rfl rfl (execMvB rfl (hf 7 (by decide))) ⟨⟨_, rfl, rfl⟩, ⟨hT.b, hT.w, hT.r, hT.bel⟩⟩
        | 1, _ => exact stepV rfl rfl (execIdx16 rfl (hf 3 (by decide)) (hdep _ rfl 0 rfl _ rfl _ rfl) lk) ⟨⟨_, rfl, rfl⟩, ⟨hT.b, hT.w, hT.r, hT.bel⟩⟩
        | 2, _ =>
          have n11 : l 11 = false := by
            cases h : l 11 with
            | false => rfl
            | true =>
              have := hcl 9 _ rfl (hcl 11 _ rfl h 9 rfl) 2 rfl
              rw [hl] at this
              cases this
          have ge := hT.b
          rw [n11, if_neg (by decide)] at ge
          refine stepV rfl rfl (execLdB rfl (hdep _ rfl 1 rfl _ rfl _ rfl) (cellN ge lk)) ⟨⟨_, rfl, congrArg (fun z : Nat => Act.put a _ (.int .u8 z)) ?_⟩, ⟨hT.b, hT.w, hT.r, hT.bel⟩⟩
          unfold mixU; rw [if_neg (by omega)]
        | 3, _ => exact stepV rfl rfl (execMvB rfl (hf 2 (by decide))) ⟨⟨_, rfl, rfl⟩, ⟨hT.b, hT.w, hT.r, hT.bel⟩⟩
        | 4, _ => exact stepV rfl rfl (execMulI (p := 16) rfl rfl (hdep _ rfl 3 rfl _ rfl _ rfl) (by omega)) ⟨⟨_, rfl, rfl⟩, ⟨hT.b, hT.w, hT.r, hT.bel⟩⟩
        | 5, _ => exact stepV rfl rfl (execMvB rfl (hf 7 (by decide))) ⟨⟨_, rfl, rfl⟩, ⟨hT.b, hT.w, hT.r, hT.bel⟩⟩
        | 6, _ => exact stepV rfl rfl (execAddI rfl (hdep _ rfl 4 rfl _ rfl _ rfl) (hdep _ rfl 5 rfl _ rfl _ rfl) (by omega)) ⟨⟨_, rfl, rfl⟩, ⟨hT.b, hT.w, hT.r, hT.bel⟩⟩
        | 7, _ => exact stepV rfl rfl (execIdx176 rfl (hf 4 (by decide)) (hdep _ rfl 6 rfl _ rfl _ rfl) (by omega)) ⟨⟨_, rfl, rfl⟩, ⟨hT.b, hT.w, hT.r, hT.bel⟩⟩
        | 8, _ => exact stepV rfl rfl (execLdB rfl (hdep _ rfl 7 rfl _ rfl _ rfl) (cellN hT.w (by omega))) ⟨⟨_, rfl, rfl⟩, ⟨hT.b, hT.w, hT.r, hT.bel⟩⟩
        | 9, _ => exact stepV rfl rfl (execXor5 rfl (hdep _ rfl 2 rfl _ rfl _ rfl) (hdep _ rfl 8 rfl _ rfl _ rfl) (HB.out k lk) (HW.out _ (by omega))) ⟨⟨_, rfl, rfl⟩, ⟨hT.b, hT.w, hT.r, hT.bel⟩⟩
        | 10, _ => exact stepV rfl rfl (execIdx16 rfl (hf 3 (by decide)) (hdep _ rfl 0 rfl _ rfl _ rfl) lk) ⟨⟨_, rfl, rfl⟩, ⟨hT.b, hT.w, hT.r, hT.bel⟩⟩
        | 11, _ =>
          have ge := hT.b
          rw [hl, if_neg (by decide)] at ge
          refine stepS rfl rfl (execStB rfl (hdep _ rfl 10 rfl _ rfl _ rfl) (hdep _ rfl 9 rfl _ rfl _ rfl) (cellN ge lk) (frozen4 ge)) ⟨⟨_, rfl, rfl⟩, ⟨?_, ?_, ?_, hT.bel.setCell (Nat.le_refl _) _⟩⟩
          · rw [heap4 _ ge]; exact congrArg (fun z => some (Obj.cells z 23)) ((bA_set 16 _ k _).trans (congrArg (bA 16) (updN_mixU (addR w b i) b k)))
          · rw [heap4o _ ge (by omega)]; exact hT.w
          · rw [heap4o _ ge (by omega)]; exact hT.r
        | n + 12, h => exact absurd h (by simp)
      · intro l W hall hT
        have he := hT.b
        rw [hall 11 (by simp), if_pos rfl] at he
        have KT2 : Hid (AdT A i (k + 1) b w V (fun _ => false) W) := ⟨he, hT.w, hT.r, hT.bel⟩
        clear hall hT he KT
        simp only [putP, adV, Act.put, List.setIfInBounds_toArray, List.set_cons_succ, List.set_cons_zero]
        go_wp2
        go_roundw
        case rel => exact ⟨k + 1, by have := HL.out; omega, by go_num, KT2.out⟩
        case measure => have := HL.out; simp [intOf]; omega
    · have i1 : ¬ (k : Int) < 16 := by omega
      have ek : k = 16 := by omega
      subst ek
      have G : Hid (wr.heap[A]? = some (.cells (bA 16 (addR w b i)) 23)) := by
        have h := KT.out.b
        rw [if_neg (by decide)] at h
        rw [bA_congr (g := addR w b i) (fun j hj => by unfold mixU; rw [if_pos hj])] at h
        exact h
      go_wp2_with (first
        | (refine atLoad 23 (.tmp 3) rfl ?_; go_must (refine wpList_load_row rfl 23 (.tmp 3) rfl A rfl 23 _ (0, 0) _ G.out Try.underlying23 rfl (size16 _) ?_; simp only [Act.put, List.setIfInBounds_toArray, List.set_cons_succ, List.set_cons_zero]))
        | (refine atStore 23 (.tmp 6) (.tmp 23) rfl ?_; go_must (refine wpList_store_row rfl 23 (.tmp 6) (.tmp 23) rfl (A + 2) _ rfl rfl 23 _ KT.out.r (size16 _) rfl (bA_one _ _) ?_)))
      refine bodyPost_ret (v := .agg (bA 16 (addR w b i))) (results_cell_row Try.results37 _ _ (A + 2) 23 _ (0, 0) _ rfl (setRow_heap _ _ _ _ _ _ KT.out.r) Try.underlying23 rfl (size16 _)) rfl ⟨rfl, ?_⟩
      rw [VA.out]
      exact below4 KT.out.bel (by omega) _
end Go.Proofs.Ytealknodagdjaaa.Aes
