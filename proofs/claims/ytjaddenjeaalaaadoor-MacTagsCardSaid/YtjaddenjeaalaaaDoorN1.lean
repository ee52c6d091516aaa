import Derived.Test.YtjaddenjeaalaaaDoorM9
import Derived.Test.YtjaddenjeaalaaaDoorK2
namespace Go.Proofs.YtjaddenjeaalaaaDoor
open Go.RowKit

theorem fl_ab (w : World) (fr : Nat × Nat) : SliceB (w.alloc (.cells #[.int .u8 97, .int .u8 98] 5 fr)) (.slice (some ⟨w.heap.size, 0, none⟩) 2 2) 2 (fl [97, 98]) := sliceB_lit w [97, 98] _ fr rfl (by decide) (by decide)

/-- What each operation of MacTags' last region yields. -/
def mtS (v0 v1 : Value) (T : Nat → Int) (E : Bool) (j : Nat) (v : Value) : Prop :=
  match j with
  | 0 => v = v0 | 1 => v = v1 | 2 => v = .agg (tab8 32 T) | 3 => v = .agg (tab8 32 T) | 4 => v = .bool true | 5 => v = .bool true
  | 6 => v = v0 | 7 => v = v1 | 8 => v = .agg (tab8 32 T) | 9 => v = .agg (tab8 32 T) | 10 => v = .bool true | 11 => v = .bool true | 12 => v = .bool true
  | 13 => v = v0 | 14 => v = v1 | 15 => v = .bool E | 16 => v = .bool E | 17 => v = .bool true | _ => v = .bool true

set_option maxHeartbeats 2000000 in
theorem mactags_any (vk vm : Value) (lk lm : Nat) (pk pm : Nat → Int) (w : World) (hG : Glob w) (hk : lk + 200 ≤ 140737488355328) (hm : lm + 300 ≤ 140737488355328) (h1 : SliceB w vk lk pk) (h2 : SliceB w vm lm pm)
    (hn1 : ∀ cap, vk = .slice none lk cap → cap = 0) (hn2 : ∀ cap, vm = .slice none lm cap → cap = 0) :
    Calls Tryd.prog 3 #[vk, vm] w fun e w' => e = .returned (.bool true) ∧ Below w.heap.size w w' := by
  have HG : Hid (_) := hG
  have HK : Hid (_) := hk
  have HM : Hid (_) := hm
  have H1 : Hid (_) := h1
  have H2 : Hid (_) := h2
  have N1 : Hid (_) := hn1
  have N2 : Hid (_) := hn2
  clear hG hk hm h1 h2 hn1 hn2
  have z28 := zero28
  have cv := conv_const
  have cv2 := conv_const2
  go_enter Tryd.func3, Tryd.ntmps3
  go_wp2_with fail
  refine (awake_any w HG.out).mono ?_
  rintro e w1 ⟨rfl, hb1⟩
  have W1 : Hid (Below w.heap.size w w1) := hb1
  clear hb1
  go_wp2_with fail
  have k1 := fl_ab w1 (2, 3)
  have b1 : Below w1.heap.size w1 (w1.alloc (.cells #[.int .u8 97, .int .u8 98] 5 (2, 3))) := (Below.refl _ _).alloc (Nat.le_refl _) _
  have k2 := fl_ab (w1.alloc (.cells #[.int .u8 97, .int .u8 98] 5 (2, 3))) (2, 3)
  have b2 : Below (w1.alloc (.cells #[.int .u8 97, .int .u8 98] 5 (2, 3))).heap.size (w1.alloc (.cells #[.int .u8 97, .int .u8 98] 5 (2, 3))) ((w1.alloc (.cells #[.int .u8 97, .int .u8 98] 5 (2, 3))).alloc (.cells #[.int .u8 97, .int .u8 98] 5 (2, 3))) := (Below.refl _ _).alloc (Nat.le_refl _) _
  have W2 : Hid (Below w.heap.size w ((w1.alloc (.cells #[.int .u8 97, .int .u8 98] 5 (2, 3))).alloc (.cells #[.int .u8 97, .int .u8 98] 5 (2, 3)))) := (W1.out.trans (b1.mono W1.out.size)).trans (b2.mono (W1.out.trans (b1.mono W1.out.size)).size)
  have hsz : (w1.alloc (.cells #[.int .u8 97, .int .u8 98] 5 (2, 3))).heap.size = w1.heap.size + 1 := by simp
  rw [hsz] at k2
  have hs := mequal_any _ _ 2 2 (fl [97, 98]) (fl [97, 98]) _ (k1.below b2) k2
  rw [show ((strP (fl [97, 98]) 2).toList == (strP (fl [97, 98]) 2).toList) = true from by simp] at hs
  refine hs.mono ?_
  rintro e w2 ⟨rfl, hw2⟩
  rw [← hw2] at W2
  clear hs k1 b1 k2 b2 hsz W1 cv cv2 hw2
  go_wp2_with fail
  obtain ⟨T, hT⟩ : ∃ T, T = tagV pk lk pm lm := ⟨_, rfl⟩
  have HT : Hid (_) := hT
  have r1 := rtag_any vk vm lk lm pk pm w2 HK.out HM.out (H1.out.below W2.out) (H2.out.below W2.out) N1.out N2.out
  rw [← hT] at r1
  clear hT
  refine r1.mono ?_
  rintro e w3 ⟨rfl, hb3⟩
  have W3 : Hid (Below w.heap.size w w3) := W2.out.trans (hb3.mono W2.out.size)
  clear hb3 r1 W2
  go_wp2_with fail
  have r1 := rextract_any vk vm lk lm pk pm w3 HK.out HM.out (H1.out.below W3.out) (H2.out.below W3.out) N1.out N2.out
  rw [← HT.out] at r1
  refine r1.mono ?_
  rintro e w4 ⟨rfl, hb4⟩
  have W4 : Hid (Below w.heap.size w w4) := W3.out.trans (hb4.mono W3.out.size)
  clear hb4 r1 W3
  go_wp2_with fail
  obtain ⟨E, hE⟩ : ∃ E, E = ((strP pk lk).toList == (strP pm lm).toList) := ⟨_, rfl⟩
  have HE : Hid (_) := hE
  have r1 := requal_any vk vm lk lm pk pm w4 (H1.out.below W4.out) (H2.out.below W4.out)
  rw [← hE] at r1
  clear hE
  refine r1.mono ?_
  rintro e w5 ⟨rfl, rfl⟩
  clear r1
  have hz2 := heap2 w5 (.cells (tab8 32 (fun _ => 0)) 25) (.cells (tab8 32 (fun _ => 0)) 25)
  have HZ : Hid (_) := hz2
  have HV : Hid (Below w5.heap.size w5 ((w5.alloc (.cells (tab8 32 (fun _ => 0)) 25)).alloc (.cells (tab8 32 (fun _ => 0)) 25))) := ((Below.refl _ _).alloc (Nat.le_refl _) _).alloc (by simp) _
  clear hz2
  go_wp2_with (first
    | (refine isStore 25 (.tmp 5) (.tmp 20) rfl ?_; go_must (refine wpList_store_row rfl 25 (.tmp 5) (.tmp 20) rfl w5.heap.size _ rfl rfl 25 _ HZ.out.1 (size28' _) (by simp only [tab8_size]) (tab8_one _ _) ?_; simp only [Act.put]))
    | (refine isStore 25 (.tmp 6) (.tmp 23) rfl ?_; go_must (refine wpList_store_row rfl 25 (.tmp 6) (.tmp 23) rfl (w5.heap.size + 1) _ rfl rfl 25 _ (by rw [setRow_other _ _ _ _ (by omega)]; exact HZ.out.2) (size28' _) (by simp only [tab8_size]) (tab8_one _ _) ?_; simp only [Act.put])))
  obtain ⟨A, hA⟩ : ∃ A, A = w5.heap.size := ⟨_, rfl⟩
  obtain ⟨V, hV⟩ : ∃ V, V = ((((w5.alloc (.cells (tab8 32 (fun _ => 0)) 25)).alloc (.cells (tab8 32 (fun _ => 0)) 25)).setRow w5.heap.size (tab8 32 T)).setRow (w5.heap.size + 1) (tab8 32 T)) := ⟨_, rfl⟩
  have VA : V.heap[A]? = some (.cells (tab8 32 T) 25) := by
    rw [hV, hA, setRow_other _ _ _ _ (by omega)]; exact setRow_heap _ _ _ _ _ _ HZ.out.1
  have VB : V.heap[A + 1]? = some (.cells (tab8 32 T) 25) := by
    rw [hV, hA]; exact setRow_heap _ _ _ _ _ _ (by rw [setRow_other _ _ _ _ (by omega)]; exact HZ.out.2)
  have VW : Below w.heap.size w V := by
    rw [hV]; exact below_setRow (below_setRow (W4.out.trans (HV.out.mono W4.out.size)) W4.out.size _) (by have := W4.out.size; omega) _
  rw [← hV, ← hA]
  clear hV hA HZ HV z28
  have LA : A < V.heap.size := (Array.getElem?_eq_some_iff.1 VA).1
  have LB : A + 1 < V.heap.size := (Array.getElem?_eq_some_iff.1 VB).1
  refine wp_region_slotsA 19 46 [27, 28, 29, 30, 31, 32, 33, 34, 35, 36, 37, 38, 39, 40, 41, 42, 43, 44, 45] (fun j v _ => mtS vk vm T E j v) (by kernel_rfl) (by kernel_rfl) (by kernel_rfl) (by decide) rfl rfl (by decide) (by decide) (fun _ _ _ _ h _ => h) ?_ ?_
  · intro j hj a W hB hf hdep
    have gA : W.heap[A]? = some (.cells (tab8 32 T) 25) := by rw [hB.block _ LA]; exact VA
    have gB : W.heap[A + 1]? = some (.cells (tab8 32 T) 25) := by rw [hB.block _ LB]; exact VB
    have gW : Below w.heap.size w W := VW.trans (hB.mono VW.size)
    have gG : Glob W := HG.out.below gW HG.out.sz
    have s1 := H1.out.below gW
    have s2 := H2.out.below gW
    match j, hj with
    | 0, _ => exact stepV rfl rfl (execMove rfl) ⟨_, rfl, hf 0 (by decide), Below.refl _ _⟩
    | 1, _ => exact stepV rfl rfl (execMove rfl) ⟨_, rfl, hf 1 (by decide), Below.refl _ _⟩
    | 2, _ =>
      have h0 : a.eval (.tmp 27) = vk := hdep _ rfl 0 rfl
      have h1 : a.eval (.tmp 28) = vm := hdep _ rfl 1 rfl
      have r := mtag_any vk vm lk lm pk pm W gG (by have := HK.out; omega) (by have := HM.out; omega) s1 s2
      rw [← HT.out] at r
      exact stepC rfl rfl (execCall2 Tryd.func14 (by kernel_rfl) (by kernel_rfl) rfl h0 h1) r fun e w' h => ⟨_, h.1, _, rfl, rfl, h.2⟩
    | 3, _ => exact stepV rfl rfl (execLoadRow rfl (hf 5 (by decide)) gA Tryd.underlying25 rfl (size28' _)) ⟨_, rfl, rfl, Below.refl _ _⟩
    | 4, _ =>
      have h2 : a.eval (.tmp 29) = .agg (tab8 32 T) := hdep _ rfl 2 rfl
      have h3 : a.eval (.tmp 30) = .agg (tab8 32 T) := hdep _ rfl 3 rfl
      exact stepV rfl rfl (exec_eql28 rfl h2 h3) ⟨_, rfl, by rw [eq32_self]; rfl, Below.refl _ _⟩
    | 5, _ =>
      have h4 : a.eval (.tmp 31) = .bool true := hdep _ rfl 4 rfl
      exact stepV rfl rfl (execMove rfl) ⟨_, rfl, h4, Below.refl _ _⟩
    | 6, _ =>
      have h5 : a.eval (.tmp 32) = .bool true := hdep _ rfl 5 rfl
      exact stepV rfl (wantedOf rfl (yieldedAt rfl rfl h5)) (execMove rfl) ⟨_, rfl, hf 0 (by decide), Below.refl _ _⟩
    | 7, _ =>
      have h5 : a.eval (.tmp 32) = .bool true := hdep _ rfl 5 rfl
      exact stepV rfl (wantedOf rfl (yieldedAt rfl rfl h5)) (execMove rfl) ⟨_, rfl, hf 1 (by decide), Below.refl _ _⟩
    | 8, _ =>
      have h5 : a.eval (.tmp 32) = .bool true := hdep _ rfl 5 rfl
      have h0 : a.eval (.tmp 33) = vk := hdep _ rfl 6 rfl
      have h1 : a.eval (.tmp 34) = vm := hdep _ rfl 7 rfl
      have r := mextract_any vk vm lk lm pk pm W gG (by have := HK.out; omega) (by have := HM.out; omega) s1 s2
      rw [← HT.out] at r
      exact stepC rfl (wantedOf rfl (yieldedAt rfl rfl h5)) (execCall2 Tryd.func15 (by kernel_rfl) (by kernel_rfl) rfl h0 h1) r fun e w' h => ⟨_, h.1, _, rfl, rfl, h.2⟩
    | 9, _ =>
      have h5 : a.eval (.tmp 32) = .bool true := hdep _ rfl 5 rfl
      exact stepV rfl (wantedOf rfl (yieldedAt rfl rfl h5)) (execLoadRow rfl (hf 6 (by decide)) gB Tryd.underlying25 rfl (size28' _)) ⟨_, rfl, rfl, Below.refl _ _⟩
    | 10, _ =>
      have h5 : a.eval (.tmp 32) = .bool true := hdep _ rfl 5 rfl
      have h2 : a.eval (.tmp 35) = .agg (tab8 32 T) := hdep _ rfl 8 rfl
      have h3 : a.eval (.tmp 36) = .agg (tab8 32 T) := hdep _ rfl 9 rfl
      exact stepV rfl (wantedOf rfl (yieldedAt rfl rfl h5)) (exec_eql28 rfl h2 h3) ⟨_, rfl, by rw [eq32_self]; rfl, Below.refl _ _⟩
    | 11, _ =>
      have h5 : a.eval (.tmp 32) = .bool true := hdep _ rfl 5 rfl
      have h10 : a.eval (.tmp 37) = .bool true := hdep _ rfl 10 rfl
      exact stepV rfl rfl (execPick rfl h5 h10) ⟨_, rfl, rfl, Below.refl _ _⟩
    | 12, _ =>
      have h11 : a.eval (.tmp 38) = .bool true := hdep _ rfl 11 rfl
      exact stepV rfl rfl (execMove rfl) ⟨_, rfl, h11, Below.refl _ _⟩
    | 13, _ =>
      have h5 : a.eval (.tmp 39) = .bool true := hdep _ rfl 12 rfl
      exact stepV rfl (wantedOf rfl (yieldedAt rfl rfl h5)) (execMove rfl) ⟨_, rfl, hf 0 (by decide), Below.refl _ _⟩
    | 14, _ =>
      have h5 : a.eval (.tmp 39) = .bool true := hdep _ rfl 12 rfl
      exact stepV rfl (wantedOf rfl (yieldedAt rfl rfl h5)) (execMove rfl) ⟨_, rfl, hf 1 (by decide), Below.refl _ _⟩
    | 15, _ =>
      have h5 : a.eval (.tmp 39) = .bool true := hdep _ rfl 12 rfl
      have h0 : a.eval (.tmp 40) = vk := hdep _ rfl 13 rfl
      have h1 : a.eval (.tmp 41) = vm := hdep _ rfl 14 rfl
      have r := mequal_any vk vm lk lm pk pm W s1 s2
      rw [← HE.out] at r
      exact stepC rfl (wantedOf rfl (yieldedAt rfl rfl h5)) (execCall2 Tryd.func10 (by kernel_rfl) (by kernel_rfl) rfl h0 h1) r fun e w' h => ⟨_, h.1, _, rfl, rfl, by rw [h.2]; exact Below.refl _ _⟩
    | 16, _ =>
      have h5 : a.eval (.tmp 39) = .bool true := hdep _ rfl 12 rfl
      exact stepV rfl (wantedOf rfl (yieldedAt rfl rfl h5)) (execMove rfl) ⟨_, rfl, hf 7 (by decide), Below.refl _ _⟩
    | 17, _ =>
      have h5 : a.eval (.tmp 39) = .bool true := hdep _ rfl 12 rfl
      have h2 : a.eval (.tmp 42) = .bool E := hdep _ rfl 15 rfl
      have h3 : a.eval (.tmp 43) = .bool E := hdep _ rfl 16 rfl
      exact stepV rfl (wantedOf rfl (yieldedAt rfl rfl h5)) (execEqlB rfl h2 h3) ⟨_, rfl, by simp [mtS], Below.refl _ _⟩
    | 18, _ =>
      have h5 : a.eval (.tmp 39) = .bool true := hdep _ rfl 12 rfl
      have h17 : a.eval (.tmp 44) = .bool true := hdep _ rfl 17 rfl
      exact stepV rfl rfl (execPick rfl h5 h17) ⟨_, rfl, rfl, Below.refl _ _⟩
    | k + 19, hj => exact absurd hj (by omega)
  · intro x W hB hS
    have e18 : x 18 = .bool true := hS 18 (by omega)
    have gW : Hid (Below w.heap.size w W) := VW.trans (hB.mono VW.size)
    simp only [putL, List.drop_succ_cons, List.drop_zero, e18, Act.put, List.setIfInBounds_toArray, List.set_cons_succ, List.set_cons_zero]
    clear hS hB e18 VA VB VW LA LB
    go_wp2
    go_ret
    exact ⟨rfl, gW.out⟩
end Go.Proofs.YtjaddenjeaalaaaDoor
