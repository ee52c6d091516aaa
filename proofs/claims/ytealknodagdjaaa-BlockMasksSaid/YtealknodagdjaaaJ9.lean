import Derived.Test.YtealknodagdjaaaJ8
namespace Go.Proofs.Ytealknodagdjaaa.Aes
open Go.RowKit Gf8

/-- Round key number i; noughts outside 0 to 10. -/
def rkey (w : Nat → Nat) (i : Int) : Nat → Nat := fun j => if 0 ≤ i ∧ i ≤ 10 then w (16 * i.toNat + j) else 0

set_option maxRecDepth 20000 in
set_option maxHeartbeats 1000000 in
theorem rround_any (key : Nat → Nat) (i : Int) (V : World) (hk : ∀ i, i < 16 → key i < 256) :
    Calls Try.prog 15 #[.agg (bA 16 key), .int .i64 i] V fun e w' => e = .returned (.agg (bA 16 (rkey (kw key) i))) ∧ Below V.heap.size V w' := by
  have HK : Hid (∀ i, i < 16 → key i < 256) := hk
  clear hk
  have z := zero16
  have z2 := zero176
  have kt := R3.mk3 V (.cells (bA 16 key) 23) (.cells (bA 16 fun _ => 0) 23) (.cells (bA 16 fun _ => 0) 23)
  obtain ⟨A, hA⟩ : ∃ A, A = V.heap.size := ⟨_, rfl⟩
  have VA : Hid (V.heap.size = A) := hA.symm
  rw [VA.out] at kt
  clear hA
  by_cases h : 0 ≤ i ∧ i ≤ 10
  · obtain ⟨n, rfl⟩ := Int.eq_ofNat_of_zero_le h.1
    have hn : n ≤ 10 := by omega
    have i1 : ¬ (n : Int) < 0 := by omega
    have i2 : ¬ (n : Int) > 10 := by omega
    have HN : Hid (n ≤ 10) := hn
    have HF : Hid (∀ j, rkey (kw key) n j = kw key (16 * n + j)) := by
      intro j
      unfold rkey
      rw [if_pos h]
      rfl
    clear h hn
    go_enter Try.func15, Try.ntmps15
    go_wp2_with (first
      | (refine atLoad 23 (.tmp 2) rfl ?_; go_must (rw [VA.out]; refine wpList_load_row rfl 23 (.tmp 2) rfl A rfl 23 _ (0, 0) _ kt.x Try.underlying23 rfl (size16 _) ?_; simp only [Act.put, List.setIfInBounds_toArray, List.set_cons_succ, List.set_cons_zero]))
      | (go_at_call 29; refine (keys_any key _ HK.out).mono ?_; rintro e w1 ⟨rfl, hb1⟩; have k1 := kt.on hb1; have kt := k1.on (belNew w1 (.cells (bA 176 fun _ => 0) 38)); have gT := heapNew w1 (.cells (bA 176 fun _ => 0) 38); have lT := k1.lt; clear k1 hb1)
      | (refine atStore 38 (.tmp 6) (.tmp 16) rfl ?_; go_must (refine wpList_store_row rfl 38 (.tmp 6) (.tmp 16) rfl w1.heap.size _ rfl rfl 38 _ gT (size176 _) rfl (bA_one _ _) ?_; have kt := kt.row lT (bA 176 (kw key)); have gT2 : ((w1.alloc (.cells (bA 176 fun _ => 0) 38)).setRow w1.heap.size (bA 176 (kw key))).heap[w1.heap.size]? = some (.cells (bA 176 (kw key)) 38) := setRow_heap _ _ _ _ _ _ gT)))
    obtain ⟨T, hT⟩ : ∃ T, T = w1.heap.size := ⟨_, rfl⟩
    rw [← hT] at gT2 lT kt ⊢
    have KT : Hid (_) := kt
    have GT : Hid (_) := gT2
    have LT : Hid (A + 2 < T) := lT
    clear kt gT gT2 lT hT z z2
    go_loopw [7] (fun x W => ∃ k : Nat, k ≤ 16 ∧ x = .int .i64 k ∧ R3 A (.cells (bA 16 key) 23) (.cells (bA 16 fun _ => 0) 23) (.cells (bA 16 (uptoC (rkey (kw key) n) k)) 23) V W ∧ W.heap[T]? = some (.cells (bA 176 (kw key)) 38)) (fun x _ => 16 - (intOf x).toNat)
    case atStart => exact ⟨0, by omega, rfl, KT.out, GT.out⟩
    case round =>
      obtain ⟨k, hk, rfl, kt, gt⟩ := hrel
      clear KT GT
      by_cases hlt : k < 16
      · have k1 : (k : Int) < 16 := by omega
        obtain ⟨p, hp⟩ : ∃ p, 16 * n + k = p := ⟨_, rfl⟩
        obtain ⟨q, hq⟩ : ∃ q, 16 * n = q := ⟨_, rfl⟩
        have e1 : 16 * (n : Int) = q := by omega
        have e2 : (q : Int) + k = p := by omega
        have l0 : (q : Int) < 176 := by have := HN.out; omega
        have l1 : (p : Int) < 176 := by have := HN.out; omega
        obtain ⟨y, hy⟩ : ∃ y, kw key p = y := ⟨_, rfl⟩
        have c1 : wr.cell? ⟨T, p, none⟩ = some (.int .u8 y) := by rw [cellN gt (by omega), hy]
        have c2 : wr.cell? ⟨A + 2, k, none⟩ = some (.int .u8 (uptoC (rkey (kw key) n) k k)) := cellN kt.z hlt
        have c3 : wr.frozen? ⟨A + 2, k, none⟩ = false := frozen4 kt.z
        have hyk : rkey (kw key) n k = y := by rw [HF.out, hp, hy]
        have K1 : Hid (R3 A (.cells (bA 16 key) 23) (.cells (bA 16 fun _ => 0) 23) (.cells (bA 16 (uptoC (rkey (kw key) n) (k + 1))) 23) V (wr.setCell ⟨A + 2, k, none⟩ (.int .u8 y))) := by
          refine ⟨?_, ?_, ?_, kt.bel.setCell (by simp) _⟩
          · rw [heap4o _ kt.z (by omega)]; exact kt.x
          · rw [heap4o _ kt.z (by omega)]; exact kt.y
          · rw [heap4 _ kt.z, bA_set, ← hyk, updN_upto]
        have G1 : Hid ((wr.setCell ⟨A + 2, k, none⟩ (.int .u8 y)).heap[T]? = some (.cells (bA 176 (kw key)) 38)) := by
          show (wr.setCell ⟨A + 2, k, none⟩ (.int .u8 y)).heap[T]? = _
          rw [heap4o _ kt.z (by have := LT.out; omega)]; exact gt
        clear hp hq hy hyk kt gt
        go_wp2
        go_roundw
        case rel => exact ⟨k + 1, by omega, by go_num, K1.out, G1.out⟩
        case measure => simp [intOf]; omega
      · have ek : k = 16 := by omega
        subst ek
        have g3 : wr.heap[A + 2]? = some (.cells (bA 16 (rkey (kw key) n)) 23) := by
          have h := kt.z
          rw [bA_congr (g := rkey (kw key) n) (fun j hj => by unfold uptoC; rw [if_pos hj])] at h
          exact h
        go_wp2_with (first
          | (refine atLoad 23 (.tmp 5) rfl ?_; go_must (refine wpList_load_row rfl 23 (.tmp 5) rfl (A + 2) rfl 23 _ (0, 0) _ g3 Try.underlying23 rfl (size16 _) ?_; simp only [Act.put, List.setIfInBounds_toArray, List.set_cons_succ, List.set_cons_zero]))
          | (refine atStore 23 (.tmp 4) (.tmp 29) rfl ?_; go_must (refine wpList_store_row rfl 23 (.tmp 4) (.tmp 29) rfl (A + 1) _ rfl rfl 23 _ kt.y (size16 _) rfl (bA_one _ _) ?_)))
        refine bodyPost_ret (v := .agg (bA 16 (rkey (kw key) n))) (results_cell_row Try.results15 _ _ (A + 1) 23 _ (0, 0) _ rfl (setRow_heap _ _ _ _ _ _ kt.y) Try.underlying23 rfl (size16 _)) rfl ⟨rfl, ?_⟩
        rw [VA.out]
        exact below4 kt.bel (by omega) _
  · have HF : Hid (bA 16 (rkey (kw key) i) = bA 16 fun _ => 0) := bA_congr fun j _ => by unfold rkey; rw [if_neg h]
    have HR : Hid (i < 0 ∨ i > 10) := by show i < 0 ∨ i > 10; omega
    clear h
    by_cases h0 : i < 0
    · go_enter Try.func15, Try.ntmps15
      go_wp2_with (first
        | (refine atLoad 23 (.tmp 5) rfl ?_; go_must (rw [VA.out]; refine wpList_load_row rfl 23 (.tmp 5) rfl (A + 2) rfl 23 _ (0, 0) _ kt.z Try.underlying23 rfl (size16 _) ?_; simp only [Act.put, List.setIfInBounds_toArray, List.set_cons_succ, List.set_cons_zero]))
        | (refine atStore 23 (.tmp 4) (.tmp 14) rfl ?_; go_must (refine wpList_store_row rfl 23 (.tmp 4) (.tmp 14) rfl (A + 1) _ rfl rfl 23 _ kt.y (size16 _) rfl (bA_one _ _) ?_)))
      rw [HF.out]
      refine bodyPost_ret (v := .agg (bA 16 fun _ => 0)) (results_cell_row Try.results15 _ _ (A + 1) 23 _ (0, 0) _ rfl (setRow_heap _ _ _ _ _ _ kt.y) Try.underlying23 rfl (size16 _)) rfl ⟨rfl, ?_⟩
      rw [VA.out]
      exact below4 kt.bel (by omega) _
    · have h1 : i > 10 := by have := HR.out; omega
      go_enter Try.func15, Try.ntmps15
      go_wp2_with (first
        | (refine atLoad 23 (.tmp 5) rfl ?_; go_must (rw [VA.out]; refine wpList_load_row rfl 23 (.tmp 5) rfl (A + 2) rfl 23 _ (0, 0) _ kt.z Try.underlying23 rfl (size16 _) ?_; simp only [Act.put, List.setIfInBounds_toArray, List.set_cons_succ, List.set_cons_zero]))
        | (refine atStore 23 (.tmp 4) (.tmp 14) rfl ?_; go_must (refine wpList_store_row rfl 23 (.tmp 4) (.tmp 14) rfl (A + 1) _ rfl rfl 23 _ kt.y (size16 _) rfl (bA_one _ _) ?_)))
      rw [HF.out]
      refine bodyPost_ret (v := .agg (bA 16 fun _ => 0)) (results_cell_row Try.results15 _ _ (A + 1) 23 _ (0, 0) _ rfl (setRow_heap _ _ _ _ _ _ kt.y) Try.underlying23 rfl (size16 _)) rfl ⟨rfl, ?_⟩
      rw [VA.out]
      exact below4 kt.bel (by omega) _
end Go.Proofs.Ytealknodagdjaaa.Aes
