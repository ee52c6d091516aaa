import Derived.Test.YtealknodagdjaaaW7
namespace Go.Proofs.Ytealknodagdjaaa.Aes
open Go.RowKit Gf8
/- The program's block: Decrypt. -/

set_option maxRecDepth 20000 in
set_option maxHeartbeats 2000000 in
theorem pdecrypt_any (w b : Nat → Nat) (V : World) (hw : ∀ i, i < 176 → w i < 256) (hb : By b) :
    Calls Try.prog 17 #[.agg (bA 176 w), .agg (bA 16 b)] V fun e w' => e = .returned (.agg (bA 16 (dec w b))) ∧ Below V.heap.size V w' := by
  have HB : Hid (By b) := hb
  have HW : Hid (∀ i, i < 176 → w i < 256) := hw
  have HE : Hid (∀ n, n ≤ 10 → By (decN w b n)) := fun n hn => decN_by hw hb n hn
  clear hb hw
  have z := zero16
  go_enter Try.func17, Try.ntmps17
  have kt : EnT V.heap.size w b V (((V.alloc (.cells (bA 176 w) 29)).alloc (.cells (bA 16 b) 23)).alloc (.cells (bA 16 fun _ => 0) 23)) := by
    have h := heap3c V (.cells (bA 176 w) 29) (.cells (bA 16 b) 23) (.cells (bA 16 fun _ => 0) 23)
    exact ⟨h.1, h.2.1, h.2.2, below3c _ _ _ _⟩
  go_wp2_with (first
    | (refine atLoad 23 (.tmp 3) rfl ?_; go_must (refine wpList_load_row rfl 23 (.tmp 3) rfl (V.heap.size + 1) rfl 23 _ (0, 0) _ kt.bb Try.underlying23 rfl (size16 _) ?_; simp only [Act.put, List.setIfInBounds_toArray, List.set_cons_succ, List.set_cons_zero]))
    | (refine wpList_ex rfl (execFldS rfl rfl) ?_)
    | (refine wpList_ex rfl (execIdxK (k := 10) rfl rfl rfl (by omega)) ?_)
    | (refine atLoad 23 (.tmp 8) rfl ?_; go_must (refine wpList_ex rfl (execLdKey (i := 10) rfl rfl kt.ww (by omega)) ?_))
    | (go_at_call 30; refine (sum_any b (fun j => w (16 * 10 + j)) _ HB.out (key_by HW.out (by omega))).mono ?_; rintro e w1 ⟨rfl, hb1⟩; rw [addR_xorB]; have kt := kt.on hb1)
    | (refine atStore 23 (.tmp 3) (.tmp 10) rfl ?_; go_must (refine wpList_store_row rfl 23 (.tmp 3) (.tmp 10) rfl (V.heap.size + 1) _ rfl rfl 23 _ kt.bb (size16 _) rfl (bA_one _ _) ?_; have kt := kt.setB (addR w b 10))))
  have KT : Hid (_) := kt
  clear kt
  obtain ⟨A, hA⟩ : ∃ A, A = V.heap.size := ⟨_, rfl⟩
  rw [← hA] at KT ⊢
  have VA : Hid (V.heap.size = A) := hA.symm
  clear hA z
  rw [show A + 1 + 1 = A + 2 from rfl]
  go_loopw [5] (fun x W => ∃ n : Nat, n ≤ 10 ∧ x = .int .i64 ((10 - n : Nat) : Int) ∧ EnT A w (decN w b n) V W) (fun x _ => (intOf x).toNat)
  case atStart => exact ⟨0, by omega, rfl, KT.out⟩
  case round =>
    obtain ⟨n, hn, rfl, kt⟩ := hrel
    clear KT
    by_cases hlt : n < 10
    · obtain ⟨i, hi⟩ : ∃ i, 9 - n = i := ⟨_, rfl⟩
      obtain ⟨i', hi'⟩ : ∃ i', i + 1 = i' := ⟨_, rfl⟩
      rw [show 10 - n = i' by omega]
      have i1 : (i' : Int) > 0 := by omega
      have l1 : (i' : Int) < 11 := by omega
      have e1 : (i' : Int) - 1 = i := by omega
      have HN : Hid (9 - n = i ∧ n < 10 ∧ i + 1 = i') := ⟨hi, hlt, hi'⟩
      clear hi hlt hn hi'
      obtain ⟨st, hst⟩ : ∃ st, decN w b n = st := ⟨_, rfl⟩
      rw [hst] at kt
      have hS : Hid (By st) := by have := HE.out n (by have := HN.out; omega); rw [hst] at this; exact this
      have HST : Hid (decN w b n = st) := hst
      clear hst
      go_wp2_with (first
        | (refine atLoad 23 (.tmp 3) rfl ?_; go_must (refine wpList_load_row rfl 23 (.tmp 3) rfl (A + 1) rfl 23 _ (0, 0) _ kt.bb Try.underlying23 rfl (size16 _) ?_; simp only [Act.put, List.setIfInBounds_toArray, List.set_cons_succ, List.set_cons_zero]))
        | (go_at_call 32; refine (turned_any 3 st _ (by omega) hS.out).mono ?_; rintro e w1 ⟨rfl, hb1⟩; have kt := kt.on hb1)
        | (go_at_call 31; refine (substituted_any 33 #[] guns (turnB 3 st) _ (fn_unsub _) (turnB_by hS.out)).mono ?_; rintro e w2 ⟨rfl, hb2⟩; rw [uns_turn]; have kt := kt.on hb2)
        | (refine atStore 23 (.tmp 3) (.tmp 17) rfl ?_; go_must (refine wpList_store_row rfl 23 (.tmp 3) (.tmp 17) rfl (A + 1) _ rfl rfl 23 _ kt.bb (size16 _) rfl (bA_one _ _) ?_; have kt := kt.setB (unsS st))))
      have KT : Hid (_) := kt
      have H2 : Hid (By (unsS st)) := unsS_by hS.out
      clear kt hb1 hb2
      refine wp_region_det 30 [(0, 18), (1, 19), (2, 20), (3, 21), (4, 22), (5, 23), (6, 24)] (sdV A i w (unsS st)) (fun l W => EnT A w (if l 7 = true then addR w (unsS st) i else unsS st) V W) (by kernel_rfl) (by kernel_rfl) rfl (by kernel_rfl) (by decide) (by decide) ?_ ?_ ?_
      · exact KT.out.drew
      · intro j hj l a W hl hf hdep hl2 hcl _ hT
        have li : i < 11 := by have := HN.out; omega
        match j, hj with
        | 0, _ =>
          have n7 : l 7 = false := by
            cases h : l 7 with
            | false => rfl
            | true =>
              have := hcl 6 _ rfl (hcl 7 _ rfl h 6 rfl) 0 rfl
              rw [hl] at this
              cases this
          have ge := hT.bb
          rw [n7, if_neg (by decide)] at ge
          exact stepV rfl rfl (execLoadRow rfl (hf 3 (by decide)) ge Try.underlying23 rfl (size16 _)) ⟨⟨_, rfl, rfl⟩, hT⟩
        | 1, _ => exact stepV rfl rfl (execMvB rfl ((hf 5 (by decide)).trans (by rw [show sdV A i w (unsS st) 1 = .int .i64 (i + 1 : Nat) from rfl, HN.out.2.2]; rfl))) ⟨⟨_, rfl, rfl⟩, hT⟩
        | 2, _ => exact stepV rfl rfl (execDecI rfl (hdep _ rfl 1 rfl _ rfl _ rfl) rfl (by omega)) ⟨⟨_, rfl, rfl⟩, hT⟩
        | 3, _ => exact stepV rfl rfl (execFldS rfl (hf 2 (by decide))) ⟨⟨_, rfl, rfl⟩, hT⟩
        | 4, _ => exact stepV rfl rfl (execIdxK rfl (hdep _ rfl 3 rfl _ rfl _ rfl) (hdep _ rfl 2 rfl _ rfl _ rfl) li) ⟨⟨_, rfl, rfl⟩, hT⟩
        | 5, _ => exact stepV rfl rfl (execLdKey rfl (hdep _ rfl 4 rfl _ rfl _ rfl) hT.ww li) ⟨⟨_, rfl, rfl⟩, hT⟩
        | 6, _ => exact stepC rfl rfl (execCall2 Try.func30 (by kernel_rfl) (by kernel_rfl) rfl (hdep _ rfl 0 rfl _ rfl _ rfl) (hdep _ rfl 5 rfl _ rfl _ rfl)) (sum_any (unsS st) (fun j => w (16 * i + j)) W H2.out (key_by HW.out li)) fun e w' h => ⟨_, h.1, ⟨_, rfl, rfl⟩, hT.on h.2⟩
        | 7, _ =>
          rw [hl] at hT
          exact stepS rfl rfl (execSt16 rfl (hf 3 (by decide)) (hdep _ rfl 6 rfl _ rfl _ rfl) hT.bb) ⟨⟨_, rfl, rfl⟩, hT.setB (addR w (unsS st) i)⟩
        | n + 8, h => exact absurd h (by simp)
      · intro l W hall hT
        simp only [hall 7 (by simp), if_true] at hT
        clear hall KT
        simp only [putP, sdV, Act.put, List.setIfInBounds_toArray, List.set_cons_succ, List.set_cons_zero]
        have H3 : Hid (By (addR w (unsS st) i)) := addR_by HW.out H2.out (by have := HN.out; omega)
        by_cases h9 : n + 1 < 10
        · have i9 : (i' : Int) > 1 := by have := HN.out; omega
          have HF2 : Hid (mixB bwd (addR w (unsS st) i) = decN w b (n + 1)) := by
            show mixB bwd (addR w (unsS st) i) = decN w b (n + 1)
            rw [decN_mid w b h9, HST.out, HN.out.1]
          go_wp2_with (first
            | (refine atLoad 23 (.tmp 3) rfl ?_; go_must (refine wpList_load_row rfl 23 (.tmp 3) rfl (A + 1) rfl 23 _ (0, 0) _ hT.bb Try.underlying23 rfl (size16 _) ?_; simp only [Act.put, List.setIfInBounds_toArray, List.set_cons_succ, List.set_cons_zero]))
            | (go_at_call 34; refine (pmixed_any 35 bwd (addR w (unsS st) i) _ (fn_uncolumn _) H3.out).mono ?_; rintro e w3 ⟨rfl, hb3⟩; have hT := hT.on hb3)
            | (refine atStore 23 (.tmp 3) (.tmp 28) rfl ?_; go_must (refine wpList_store_row rfl 23 (.tmp 3) (.tmp 28) rfl (A + 1) _ rfl rfl 23 _ hT.bb (size16 _) rfl (bA_one _ _) ?_; have hT := hT.setB (mixB bwd (addR w (unsS st) i)))))
          go_roundw
          case rel => exact ⟨n + 1, by have := HN.out; omega, by have := HN.out; go_num, by rw [← HF2.out]; exact hT⟩
          case measure => have := HN.out; simp [intOf]; omega
        · have i9 : ¬ (i' : Int) > 1 := by have := HN.out; omega
          have HF2 : Hid (addR w (unsS st) i = decN w b (n + 1)) := by
            show addR w (unsS st) i = decN w b (n + 1)
            have h := HN.out
            have e : n = 9 := by omega
            subst e
            rw [decN_last, HST.out, ← h.1]
          go_wp2
          go_roundw
          case rel => exact ⟨n + 1, by have := HN.out; omega, by have := HN.out; go_num, by rw [← HF2.out]; exact hT⟩
          case measure => have := HN.out; simp [intOf]; omega
    · have en : n = 10 := by omega
      subst en
      rw [show (10 - 10 : Nat) = 0 from rfl]
      go_wp2_with (first
        | (refine atLoad 23 (.tmp 3) rfl ?_; go_must (refine wpList_load_row rfl 23 (.tmp 3) rfl (A + 1) rfl 23 _ (0, 0) _ kt.bb Try.underlying23 rfl (size16 _) ?_; simp only [Act.put, List.setIfInBounds_toArray, List.set_cons_succ, List.set_cons_zero]))
        | (refine atStore 23 (.tmp 4) (.tmp 29) rfl ?_; go_must (refine wpList_store_row rfl 23 (.tmp 4) (.tmp 29) rfl (A + 2) _ rfl rfl 23 _ kt.rr (size16 _) rfl (bA_one _ _) ?_)))
      refine bodyPost_ret (v := .agg (bA 16 (dec w b))) (results_cell_row Try.results17 _ _ (A + 2) 23 _ (0, 0) _ rfl (setRow_heap _ _ _ _ _ _ kt.rr) Try.underlying23 rfl (size16 _)) rfl ⟨rfl, ?_⟩
      rw [VA.out]
      exact below4 kt.bel (by omega) _
end Go.Proofs.Ytealknodagdjaaa.Aes
