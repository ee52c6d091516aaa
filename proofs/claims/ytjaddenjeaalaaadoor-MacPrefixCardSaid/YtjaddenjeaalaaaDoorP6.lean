import Derived.Test.YtjaddenjeaalaaaDoorP5
namespace Go.Proofs.YtjaddenjeaalaaaDoor
open Go.RowKit

theorem str_turn (pk : Nat → Int) (lk : Nat) (pi : Nat → Int) (li h : Nat) (hh : h ≤ 32) : strP (tk (inS pk lk) (outS pk lk) pi li 1) h = strP (ebK pk lk pi li) h := by
  unfold strP
  rw [firstL_congr (g := ebK pk lk pi li) fun i hi => ?_]
  unfold ebK eb
  rw [show i / 32 = 0 by omega, show i % 32 = i by omega]
theorem tag_one (pk : Nat → Int) (lk : Nat) (pi : Nat → Int) (li : Nat) : tagV pk lk (cat pi li (fun _ => 1)) (li + 1) = tk (inS pk lk) (outS pk lk) pi li 1 := by
  unfold tagV
  rw [addN_cat]
  have e1 : (if (0 : Nat) = 0 then 0 else 32) = 0 := rfl
  have e2 : (fun _ : Nat => ((0 + 1 : Nat) : Int)) = fun _ => 1 := rfl
  unfold tk
  rw [e1, e2]
  simp only [addN]
/-- What each operation of the first drawn region yields. -/
def mpS (va vb vm : Value) (m n : Nat) (s : ByteArray) (j : Nat) (v : Value) : Prop :=
  match j with
  | 0 => v = .int .i64 0 | 3 => v = .int .i64 0
  | 7 => v = va | 8 => v = .int .i64 (m : Int) | 9 => v = .int .i64 (m : Int)
  | 13 => v = vb | 14 => v = .int .i64 (n : Int) | 15 => v = .int .i64 (n : Int)
  | 19 => v = vb | 20 => v = .int .i64 (m : Int) | 21 => v = vm | 22 => v = .string s | 23 => v = va | 24 => v = .string s
  | _ => v = .bool false
/-- and of the last -/
def mqS (va x y : Value) (k : Nat) (s : ByteArray) (j : Nat) (v : Value) : Prop :=
  match j with
  | 0 => v = va | 1 => v = .int .i64 (k : Int) | 2 => v = x | 3 => v = .string s | 4 => v = .int .i64 (k : Int) | 5 => v = y | 6 => v = .string s | _ => v = .bool true

set_option maxRecDepth 20000 in
set_option maxHeartbeats 4000000 in
theorem macprefix_any (vk vi : Value) (lk li : Nat) (pk pi : Nat → Int) (m0 n0 : Int) (w : World) (hG : Glob w) (hk : lk + 200 ≤ 140737488355328) (hli : li + 600 ≤ 140737488355328) (h1 : SliceB w vk lk pk) (h2 : SliceB w vi li pi)
    (hn2 : ∀ cap, vi = .slice none li cap → cap = 0) :
    Calls Tryd.prog 7 #[vk, vi, .int .i64 m0, .int .i64 n0] w fun e w' => e = .returned (.bool true) ∧ Below w.heap.size w w' := by
  obtain ⟨ai, ci, rfl, hx⟩ := h2.shape
  clear hx
  have HG : Hid (_) := hG
  have HK : Hid (_) := hk
  have HL : Hid (_) := hli
  have H1 : Hid (_) := h1
  have H2 : Hid (_) := h2
  have N2 : Hid (ai = none → ci = 0) := fun e => hn2 ci (by rw [e])
  clear hG hk hli h1 h2 hn2
  by_cases g1 : m0 < 0
  · go_enter Tryd.func7, Tryd.ntmps7
    go_wp2_with fail
    refine (awake_any w HG.out).mono ?_
    rintro e w1 ⟨rfl, hb1⟩
    go_wp2
    go_ret
    exact ⟨rfl, hb1⟩
  by_cases g2 : n0 < m0
  · go_enter Tryd.func7, Tryd.ntmps7
    go_wp2_with fail
    refine (awake_any w HG.out).mono ?_
    rintro e w1 ⟨rfl, hb1⟩
    go_wp2
    go_ret
    exact ⟨rfl, hb1⟩
  by_cases g3 : n0 > 8160
  · go_enter Tryd.func7, Tryd.ntmps7
    go_wp2_with fail
    refine (awake_any w HG.out).mono ?_
    rintro e w1 ⟨rfl, hb1⟩
    go_wp2
    go_ret
    exact ⟨rfl, hb1⟩
  obtain ⟨m, rfl⟩ : ∃ m : Nat, m0 = (m : Int) := ⟨m0.toNat, by omega⟩
  obtain ⟨n, rfl⟩ : ∃ n : Nat, n0 = (n : Int) := ⟨n0.toNat, by omega⟩
  have HMN : Hid (m ≤ n ∧ n ≤ 8160) := by show m ≤ n ∧ n ≤ 8160; omega
  have ex : Hid (∀ k : Nat, k ≤ 8160 → expE (k : Int) = 0 ∧ expN (k : Int) = k) := fun k hk => by
    unfold expE expN
    rw [if_neg (by omega), if_neg (by omega), if_neg (by omega), if_neg (by omega)]
    exact ⟨rfl, by omega⟩
  go_enter Tryd.func7, Tryd.ntmps7
  go_wp2_with fail
  refine (awake_any w HG.out).mono ?_
  rintro e w1 ⟨rfl, hb1⟩
  have W1 : Hid (Below w.heap.size w w1) := hb1
  clear hb1
  go_wp2_with fail
  have hr := mexpand_any vk (.slice ai li ci) lk li pk pi (m : Int) w1 (HG.out.below W1.out HG.out.sz) (by have := HK.out; omega) (by have := HL.out; omega) (H1.out.below W1.out) (H2.out.below W1.out)
  rw [(ex.out m (by have := HMN.out; omega)).1, (ex.out m (by have := HMN.out; omega)).2] at hr
  refine hr.mono ?_
  rintro e w2 ⟨va, rfl, own2, hb2⟩
  obtain ⟨aa, ca, rfl⟩ := own_form own2
  have A2 : Hid (SliceB w2 (.slice aa m ca) m (ebK pk lk pi li)) := sliceB_own own2 fun j _ => eb_bd _ _ _ _ j
  have W2 : Hid (Below w.heap.size w w2) := W1.out.trans (hb2.mono W1.out.size)
  clear hr own2 hb2 W1
  go_wp2_with fail
  have hr := mexpand_any vk (.slice ai li ci) lk li pk pi (n : Int) w2 (HG.out.below W2.out HG.out.sz) (by have := HK.out; omega) (by have := HL.out; omega) (H1.out.below W2.out) (H2.out.below W2.out)
  rw [(ex.out n HMN.out.2).1, (ex.out n HMN.out.2).2] at hr
  refine hr.mono ?_
  rintro e w3 ⟨vb, rfl, own3, hb3⟩
  obtain ⟨ab, cb, rfl⟩ := own_form own3
  have A3 : Hid (SliceB w3 (.slice aa m ca) m (ebK pk lk pi li)) := A2.out.below hb3
  have B3 : Hid (SliceB w3 (.slice ab n cb) n (ebK pk lk pi li)) := sliceB_own own3 fun j _ => eb_bd _ _ _ _ j
  have W3 : Hid (Below w.heap.size w w3) := W2.out.trans (hb3.mono W2.out.size)
  have HCA : Hid (m ≤ ca) := by
    show m ≤ ca
    obtain ⟨x, y, e, h, _⟩ := A3.out.shape
    cases e
    exact h
  have HCB : Hid (m ≤ cb) := by
    show m ≤ cb
    obtain ⟨x, y, e, h, _⟩ := B3.out.shape
    cases e
    have := HMN.out
    omega
  clear hr own3 hb3 W2 A2
  go_wp2_with fail
  refine wp_region_slotsA 27 86 [42, 43, 44, 45, 46, 47, 48, 49, 50, 51, 52, 53, 54, 55, 56, 57, 58, 59, 60, 61, 62, 63, 64, 65, 66, 67, 68] (fun j v _ => mpS (.slice aa m ca) (.slice ab n cb) (sliced ab 0 m cb 1) m n (strP (ebK pk lk pi li) m) j v) (by kernel_rfl) (by kernel_rfl) (by kernel_rfl) (by decide) rfl rfl (by decide) (by decide) (fun _ _ _ _ h _ => h) ?_ ?_
  · intro j hj a W hB hf hdep
    have sA : SliceB W (.slice aa m ca) m (ebK pk lk pi li) := A3.out.below hB
    have sB : SliceB W (sliced ab 0 m cb 1) m (ebK pk lk pi li) := by
      have h := (B3.out.below hB).sub 0 m (Nat.zero_le _) HMN.out.1
      simpa only [Nat.sub_zero, Nat.zero_add] using h
    match j, hj with
    | 0, _ =>
      exact stepV rfl rfl (execMove rfl) ⟨_, rfl, hf 10 (by decide), Below.refl _ _⟩
    | 1, _ =>
      have h0 : a.eval (.tmp 42) = .int .i64 0 := hdep _ rfl 0 rfl
      exact stepV rfl rfl (execNeqE rfl h0 rfl) ⟨_, rfl, rfl, Below.refl _ _⟩
    | 2, _ =>
      have h0 : a.eval (.tmp 43) = .bool false := hdep _ rfl 1 rfl
      exact stepV rfl rfl (execMove rfl) ⟨_, rfl, h0, Below.refl _ _⟩
    | 3, _ =>
      have hg : a.eval (.tmp 44) = .bool false := hdep _ rfl 2 rfl
      exact stepV rfl (wantedOf rfl (yieldedAt rfl rfl hg)) (execMove rfl) ⟨_, rfl, hf 12 (by decide), Below.refl _ _⟩
    | 4, _ =>
      have hg : a.eval (.tmp 44) = .bool false := hdep _ rfl 2 rfl
      have h0 : a.eval (.tmp 45) = .int .i64 0 := hdep _ rfl 3 rfl
      exact stepV rfl (wantedOf rfl (yieldedAt rfl rfl hg)) (execNeqE rfl h0 rfl) ⟨_, rfl, rfl, Below.refl _ _⟩
    | 5, _ =>
      have hc : a.eval (.tmp 44) = .bool false := hdep _ rfl 2 rfl
      have hv : a.eval (.tmp 46) = .bool false := hdep _ rfl 4 rfl
      exact stepV rfl rfl (execPick rfl hc hv) ⟨_, rfl, rfl, Below.refl _ _⟩
    | 6, _ =>
      have h0 : a.eval (.tmp 47) = .bool false := hdep _ rfl 5 rfl
      exact stepV rfl rfl (execMove rfl) ⟨_, rfl, h0, Below.refl _ _⟩
    | 7, _ =>
      have hg : a.eval (.tmp 48) = .bool false := hdep _ rfl 6 rfl
      exact stepV rfl (wantedOf rfl (yieldedAt rfl rfl hg)) (execMove rfl) ⟨_, rfl, hf 9 (by decide), Below.refl _ _⟩
    | 8, _ =>
      have hg : a.eval (.tmp 48) = .bool false := hdep _ rfl 6 rfl
      have h0 : a.eval (.tmp 49) = .slice aa m ca := hdep _ rfl 7 rfl
      exact stepV rfl (wantedOf rfl (yieldedAt rfl rfl hg)) (execLen rfl h0) ⟨_, rfl, rfl, Below.refl _ _⟩
    | 9, _ =>
      have hg : a.eval (.tmp 48) = .bool false := hdep _ rfl 6 rfl
      exact stepV rfl (wantedOf rfl (yieldedAt rfl rfl hg)) (execMove rfl) ⟨_, rfl, hf 2 (by decide), Below.refl _ _⟩
    | 10, _ =>
      have hg : a.eval (.tmp 48) = .bool false := hdep _ rfl 6 rfl
      have h0 : a.eval (.tmp 50) = .int .i64 (m : Int) := hdep _ rfl 8 rfl
      have h1 : a.eval (.tmp 51) = .int .i64 (m : Int) := hdep _ rfl 9 rfl
      exact stepV rfl (wantedOf rfl (yieldedAt rfl rfl hg)) (execNeqI rfl h0 h1) ⟨_, rfl, by simp [mpS], Below.refl _ _⟩
    | 11, _ =>
      have hc : a.eval (.tmp 48) = .bool false := hdep _ rfl 6 rfl
      have hv : a.eval (.tmp 52) = .bool false := hdep _ rfl 10 rfl
      exact stepV rfl rfl (execPick rfl hc hv) ⟨_, rfl, rfl, Below.refl _ _⟩
    | 12, _ =>
      have h0 : a.eval (.tmp 53) = .bool false := hdep _ rfl 11 rfl
      exact stepV rfl rfl (execMove rfl) ⟨_, rfl, h0, Below.refl _ _⟩
    | 13, _ =>
      have hg : a.eval (.tmp 54) = .bool false := hdep _ rfl 12 rfl
      exact stepV rfl (wantedOf rfl (yieldedAt rfl rfl hg)) (execMove rfl) ⟨_, rfl, hf 11 (by decide), Below.refl _ _⟩
    | 14, _ =>
      have hg : a.eval (.tmp 54) = .bool false := hdep _ rfl 12 rfl
      have h0 : a.eval (.tmp 55) = .slice ab n cb := hdep _ rfl 13 rfl
      exact stepV rfl (wantedOf rfl (yieldedAt rfl rfl hg)) (execLen rfl h0) ⟨_, rfl, rfl, Below.refl _ _⟩
    | 15, _ =>
      have hg : a.eval (.tmp 54) = .bool false := hdep _ rfl 12 rfl
      exact stepV rfl (wantedOf rfl (yieldedAt rfl rfl hg)) (execMove rfl) ⟨_, rfl, hf 3 (by decide), Below.refl _ _⟩
    | 16, _ =>
      have hg : a.eval (.tmp 54) = .bool false := hdep _ rfl 12 rfl
      have h0 : a.eval (.tmp 56) = .int .i64 (n : Int) := hdep _ rfl 14 rfl
      have h1 : a.eval (.tmp 57) = .int .i64 (n : Int) := hdep _ rfl 15 rfl
      exact stepV rfl (wantedOf rfl (yieldedAt rfl rfl hg)) (execNeqI rfl h0 h1) ⟨_, rfl, by simp [mpS], Below.refl _ _⟩
    | 17, _ =>
      have hc : a.eval (.tmp 54) = .bool false := hdep _ rfl 12 rfl
      have hv : a.eval (.tmp 58) = .bool false := hdep _ rfl 16 rfl
      exact stepV rfl rfl (execPick rfl hc hv) ⟨_, rfl, rfl, Below.refl _ _⟩
    | 18, _ =>
      have h0 : a.eval (.tmp 59) = .bool false := hdep _ rfl 17 rfl
      exact stepV rfl rfl (execMove rfl) ⟨_, rfl, h0, Below.refl _ _⟩
    | 19, _ =>
      have hg : a.eval (.tmp 60) = .bool false := hdep _ rfl 18 rfl
      exact stepV rfl (wantedOf rfl (yieldedAt rfl rfl hg)) (execMove rfl) ⟨_, rfl, hf 11 (by decide), Below.refl _ _⟩
    | 20, _ =>
      have hg : a.eval (.tmp 60) = .bool false := hdep _ rfl 18 rfl
      exact stepV rfl (wantedOf rfl (yieldedAt rfl rfl hg)) (execMove rfl) ⟨_, rfl, hf 2 (by decide), Below.refl _ _⟩
    | 21, _ =>
      have hg : a.eval (.tmp 60) = .bool false := hdep _ rfl 18 rfl
      have h0 : a.eval (.tmp 61) = .slice ab n cb := hdep _ rfl 19 rfl
      have h1 : a.eval (.tmp 62) = .int .i64 (m : Int) := hdep _ rfl 20 rfl
      exact stepV rfl (wantedOf rfl (yieldedAt rfl rfl hg)) (execSliceH rfl h0 h1 (slice_h ab n cb m HCB.out W)) ⟨_, rfl, rfl, Below.refl _ _⟩
    | 22, _ =>
      have hg : a.eval (.tmp 60) = .bool false := hdep _ rfl 18 rfl
      have h0 : a.eval (.tmp 63) = sliced ab 0 m cb 1 := hdep _ rfl 21 rfl
      exact stepV rfl (wantedOf rfl (yieldedAt rfl rfl hg)) (execConv rfl h0 sB) ⟨_, rfl, rfl, Below.refl _ _⟩
    | 23, _ =>
      have hg : a.eval (.tmp 60) = .bool false := hdep _ rfl 18 rfl
      exact stepV rfl (wantedOf rfl (yieldedAt rfl rfl hg)) (execMove rfl) ⟨_, rfl, hf 9 (by decide), Below.refl _ _⟩
    | 24, _ =>
      have hg : a.eval (.tmp 60) = .bool false := hdep _ rfl 18 rfl
      have h0 : a.eval (.tmp 65) = .slice aa m ca := hdep _ rfl 23 rfl
      exact stepV rfl (wantedOf rfl (yieldedAt rfl rfl hg)) (execConv rfl h0 sA) ⟨_, rfl, rfl, Below.refl _ _⟩
    | 25, _ =>
      have hg : a.eval (.tmp 60) = .bool false := hdep _ rfl 18 rfl
      have h0 : a.eval (.tmp 64) = .string (strP (ebK pk lk pi li) m) := hdep _ rfl 22 rfl
      have h1 : a.eval (.tmp 66) = .string (strP (ebK pk lk pi li) m) := hdep _ rfl 24 rfl
      exact stepV rfl (wantedOf rfl (yieldedAt rfl rfl hg)) (exec_neq_str rfl h0 h1) ⟨_, rfl, rfl, Below.refl _ _⟩
    | 26, _ =>
      have hc : a.eval (.tmp 60) = .bool false := hdep _ rfl 18 rfl
      have hv : a.eval (.tmp 67) = .bool false := hdep _ rfl 25 rfl
      exact stepV rfl rfl (execPick rfl hc hv) ⟨_, rfl, rfl, Below.refl _ _⟩
    | k + 27, hj => exact absurd hj (by omega)
  · intro x W hB hS
    have e26 : x 26 = .bool false := hS 26 (by omega)
    have W4 : Hid (Below w.heap.size w W) := W3.out.trans (hB.mono W3.out.size)
    have SA4 : Hid (SliceB W (.slice aa m ca) m (ebK pk lk pi li)) := A3.out.below hB
    simp only [putL, List.drop_succ_cons, List.drop_nil, e26, Act.put, List.setIfInBounds_toArray, List.set_cons_succ, List.set_cons_zero]
    clear hS hB A3 B3 W3
    generalize x 0 = y0
    generalize x 1 = y1
    generalize x 2 = y2
    generalize x 3 = y3
    generalize x 4 = y4
    generalize x 5 = y5
    generalize x 6 = y6
    generalize x 7 = y7
    generalize x 8 = y8
    generalize x 9 = y9
    generalize x 10 = y10
    generalize x 11 = y11
    generalize x 12 = y12
    generalize x 13 = y13
    generalize x 14 = y14
    generalize x 15 = y15
    generalize x 16 = y16
    generalize x 17 = y17
    generalize x 18 = y18
    generalize x 19 = y19
    generalize x 20 = y20
    generalize x 21 = y21
    generalize x 22 = y22
    generalize x 23 = y23
    generalize x 24 = y24
    generalize x 25 = y25
    clear e26
    have E0 : Hid ((W.alloc (.cells #[] 5)).ownsRow W.heap.size 5 1 (.slice (some ⟨W.heap.size, 0, none⟩) 0 0) 0 (vals [])) := own_empty W
    have F0 : Hid (Below W.heap.size W (W.alloc (.cells #[] 5))) := (Below.refl _ _).alloc (Nat.le_refl _) _
    go_wp2_with (first
      | (refine isApp (.tmp 70) (.tmp 71) rfl ?_; go_must (refine wpList_appS (B := W.heap.size) (l := []) (r := firstL pi li) (w0 := W) rfl (.tmp 70) (.tmp 71) rfl rfl rfl E0.out (firstL_len _ _) (src_of (H2.out.below (W4.out.trans (F0.out.mono W4.out.size))) N2.out) (by have := HL.out; omega) F0.out F0.out.size ?_; intro v1 w1' own1 bel1 sz1; simp only [List.nil_append, Nat.zero_add] at own1; simp only [Act.put, List.setIfInBounds_toArray, List.set_cons_succ, List.set_cons_zero]; have E1 : Hid (w1'.ownsRow W.heap.size 5 1 v1 li (vals (firstL pi li))) := own1; have F1 : Hid (Below W.heap.size W w1') := bel1; clear own1 bel1 sz1))
      | (refine isApp (.tmp 72) (.tmp 73) rfl ?_; go_must (refine wpList_app (B := W.heap.size) (l := firstL pi li) (r := [1]) (w0 := W) rfl (.tmp 72) (.tmp 73) rfl rfl rfl (E1.out.alloc _) rfl (src_one w1' 1) (by have := HL.out; omega) (F1.out.alloc F1.out.size _) (by have := F1.out.size; simp; omega) ?_; intro v3 w5 own3 bel3 sz3; rw [one_firstL, firstL_cat] at own3; simp only [Act.put, List.setIfInBounds_toArray, List.set_cons_succ, List.set_cons_zero]; have E3 : Hid (w5.ownsRow W.heap.size 5 1 v3 (li + 1) (vals (firstL (cat pi li (fun _ => 1)) (li + 1)))) := own3; have F3 : Hid (Below W.heap.size W w5) := bel3; clear own3 bel3 sz3)))
    obtain ⟨T, hT⟩ : ∃ T, T = tk (inS pk lk) (outS pk lk) pi li 1 := ⟨_, rfl⟩
    have W5 : Hid (Below w.heap.size w w5) := W4.out.trans (F3.out.mono W4.out.size)
    have hs := mtag_any vk v3 lk (li + 1) pk (cat pi li (fun _ => 1)) w5 (HG.out.below W5.out HG.out.sz) (by have := HK.out; omega) (by have := HL.out; omega) (H1.out.below W5.out) (sliceB_own E3.out (cat_bd H2.out.bytes (fun _ _ => ⟨by omega, by omega⟩)))
    rw [tag_one, ← hT] at hs
    refine hs.mono ?_
    rintro e w6 ⟨rfl, hb6⟩
    have W6 : Hid (Below w.heap.size w w6) := W5.out.trans (hb6.mono W5.out.size)
    have SA6 : Hid (SliceB w6 (.slice aa m ca) m (ebK pk lk pi li)) := (SA4.out.below F3.out).below hb6
    have HT : Hid (_) := hT
    have TB : Hid (∀ j, 0 ≤ T j ∧ T j < 256) := by rw [hT]; exact tk_bd _ _ _ _ _
    clear hs hT hb6 E0 E1 E3 F0 F1 F3 W4 W5 SA4
    have z28 := zero28
    go_wp2_with (first
      | (refine isStore 25 (.tmp 13) (.tmp 75) rfl ?_; go_must (refine wpList_store_row rfl 25 (.tmp 13) (.tmp 75) rfl w6.heap.size _ rfl rfl 25 _ (heap_alloc_new _ _) (size28' _) (by simp only [tab8_size]) (tab8_one _ _) ?_; rw [World.setRow_alloc_new]; simp only [Act.put]; obtain ⟨A, hA⟩ : ∃ G, G = w6.heap.size := ⟨_, rfl⟩; obtain ⟨V, hV⟩ : ∃ V, V = w6.alloc (.cells (tab8 32 T) 25) := ⟨_, rfl⟩; have VA : Hid (V.heap[A]? = some (.cells (tab8 32 T) 25)) := (by rw [hV, hA]; exact heap_alloc_new _ _); have SA : Hid (SliceB V (.slice aa m ca) m (ebK pk lk pi li)) := (by rw [hV]; exact SA6.out.below ((Below.refl _ _).alloc (Nat.le_refl _) _)); have VW : Hid (Below w.heap.size w V) := (by rw [hV]; exact W6.out.alloc W6.out.size _); rw [← hV, ← hA]; clear hV hA)))
    · have LA : A < V.heap.size := (Array.getElem?_eq_some_iff.1 VA.out).1
      have KM : Hid (32 ≤ m) := by show 32 ≤ m; omega
      have K32 : Hid (32 ≤ 32) := Nat.le_refl 32
      have KC : Hid (32 ≤ ca) := Nat.le_trans KM.out HCA.out
      refine wp_region_slotsA 8 86 [78, 79, 80, 81, 82, 83, 84, 85] (fun j v _ => mqS (.slice aa m ca) (sliced aa 0 (32) ca 1) (.slice (some ⟨A, 0, none⟩) (32) 32) (32) (strP (ebK pk lk pi li) (32)) j v) (by kernel_rfl) (by kernel_rfl) (by kernel_rfl) (by decide) rfl rfl (by decide) (by decide) (fun _ _ _ _ h _ => h) ?_ ?_
      · intro j hj a W hB hf hdep
        have gA : W.heap[A]? = some (.cells (tab8 32 T) 25) := by rw [hB.block _ LA]; exact VA.out
        have sA : SliceB W (sliced aa 0 (32) ca 1) (32) (ebK pk lk pi li) := by
          have h := (SA.out.below hB).sub 0 (32) (Nat.zero_le _) KM.out
          simpa only [Nat.sub_zero, Nat.zero_add] using h
        have sT : SliceB W (.slice (some ⟨A, 0, none⟩) (32) 32) (32) T := sliceB_part gA K32.out TB.out
        match j, hj with
        | 0, _ => exact stepV rfl rfl (execMove rfl) ⟨_, rfl, hf 9 (by decide), Below.refl _ _⟩
        | 1, _ => exact stepV rfl rfl (execMove rfl) ⟨_, rfl, hf 14 (by decide), Below.refl _ _⟩
        | 2, _ =>
          have h0 : a.eval (.tmp 78) = .slice aa m ca := hdep _ rfl 0 rfl
          have h1 : a.eval (.tmp 79) = .int .i64 (((32) : Nat) : Int) := hdep _ rfl 1 rfl
          exact stepV rfl rfl (execSliceH rfl h0 h1 (slice_h aa m ca (32) KC.out W)) ⟨_, rfl, rfl, Below.refl _ _⟩
        | 3, _ =>
          have h0 : a.eval (.tmp 80) = sliced aa 0 (32) ca 1 := hdep _ rfl 2 rfl
          exact stepV rfl rfl (execConv rfl h0 sA) ⟨_, rfl, rfl, Below.refl _ _⟩
        | 4, _ => exact stepV rfl rfl (execMove rfl) ⟨_, rfl, hf 14 (by decide), Below.refl _ _⟩
        | 5, _ =>
          have h1 : a.eval (.tmp 82) = .int .i64 (((32) : Nat) : Int) := hdep _ rfl 4 rfl
          exact stepV rfl rfl (execSliceH rfl (hf 13 (by decide)) h1 (sliceH A (32) K32.out W)) ⟨_, rfl, rfl, Below.refl _ _⟩
        | 6, _ =>
          have h0 : a.eval (.tmp 83) = .slice (some ⟨A, 0, none⟩) (32) 32 := hdep _ rfl 5 rfl
          exact stepV rfl rfl (execConv rfl h0 sT) ⟨_, rfl, congrArg Value.string (by rw [HT.out]; exact str_turn pk lk pi li (32) K32.out), Below.refl _ _⟩
        | 7, _ =>
          have h0 : a.eval (.tmp 81) = .string (strP (ebK pk lk pi li) (32)) := hdep _ rfl 3 rfl
          have h1 : a.eval (.tmp 84) = .string (strP (ebK pk lk pi li) (32)) := hdep _ rfl 6 rfl
          exact stepV rfl rfl (execEqlStr rfl h0 h1) ⟨_, rfl, rfl, Below.refl _ _⟩
      · intro x W hB hS
        have e7 : x 7 = .bool true := hS 7 (by omega)
        have gW : Hid (Below w.heap.size w W) := VW.out.trans (hB.mono VW.out.size)
        simp only [putL, List.drop_succ_cons, List.drop_zero, e7, Act.put, List.setIfInBounds_toArray, List.set_cons_succ, List.set_cons_zero]
        clear hS hB e7
        go_wp2
        go_ret
        exact ⟨rfl, gW.out⟩
    · have LA : A < V.heap.size := (Array.getElem?_eq_some_iff.1 VA.out).1
      have KM : Hid (m ≤ m) := Nat.le_refl m
      have K32 : Hid (m ≤ 32) := by show m ≤ 32; omega
      have KC : Hid (m ≤ ca) := HCA.out
      refine wp_region_slotsA 8 86 [78, 79, 80, 81, 82, 83, 84, 85] (fun j v _ => mqS (.slice aa m ca) (sliced aa 0 (m) ca 1) (.slice (some ⟨A, 0, none⟩) (m) 32) (m) (strP (ebK pk lk pi li) (m)) j v) (by kernel_rfl) (by kernel_rfl) (by kernel_rfl) (by decide) rfl rfl (by decide) (by decide) (fun _ _ _ _ h _ => h) ?_ ?_
      · intro j hj a W hB hf hdep
        have gA : W.heap[A]? = some (.cells (tab8 32 T) 25) := by rw [hB.block _ LA]; exact VA.out
        have sA : SliceB W (sliced aa 0 (m) ca 1) (m) (ebK pk lk pi li) := by
          have h := (SA.out.below hB).sub 0 (m) (Nat.zero_le _) KM.out
          simpa only [Nat.sub_zero, Nat.zero_add] using h
        have sT : SliceB W (.slice (some ⟨A, 0, none⟩) (m) 32) (m) T := sliceB_part gA K32.out TB.out
        match j, hj with
        | 0, _ => exact stepV rfl rfl (execMove rfl) ⟨_, rfl, hf 9 (by decide), Below.refl _ _⟩
        | 1, _ => exact stepV rfl rfl (execMove rfl) ⟨_, rfl, hf 14 (by decide), Below.refl _ _⟩
        | 2, _ =>
          have h0 : a.eval (.tmp 78) = .slice aa m ca := hdep _ rfl 0 rfl
          have h1 : a.eval (.tmp 79) = .int .i64 (((m) : Nat) : Int) := hdep _ rfl 1 rfl
          exact stepV rfl rfl (execSliceH rfl h0 h1 (slice_h aa m ca (m) KC.out W)) ⟨_, rfl, rfl, Below.refl _ _⟩
        | 3, _ =>
          have h0 : a.eval (.tmp 80) = sliced aa 0 (m) ca 1 := hdep _ rfl 2 rfl
          exact stepV rfl rfl (execConv rfl h0 sA) ⟨_, rfl, rfl, Below.refl _ _⟩
        | 4, _ => exact stepV rfl rfl (execMove rfl) ⟨_, rfl, hf 14 (by decide), Below.refl _ _⟩
        | 5, _ =>
          have h1 : a.eval (.tmp 82) = .int .i64 (((m) : Nat) : Int) := hdep _ rfl 4 rfl
          exact stepV rfl rfl (execSliceH rfl (hf 13 (by decide)) h1 (sliceH A (m) K32.out W)) ⟨_, rfl, rfl, Below.refl _ _⟩
        | 6, _ =>
          have h0 : a.eval (.tmp 83) = .slice (some ⟨A, 0, none⟩) (m) 32 := hdep _ rfl 5 rfl
          exact stepV rfl rfl (execConv rfl h0 sT) ⟨_, rfl, congrArg Value.string (by rw [HT.out]; exact str_turn pk lk pi li (m) K32.out), Below.refl _ _⟩
        | 7, _ =>
          have h0 : a.eval (.tmp 81) = .string (strP (ebK pk lk pi li) (m)) := hdep _ rfl 3 rfl
          have h1 : a.eval (.tmp 84) = .string (strP (ebK pk lk pi li) (m)) := hdep _ rfl 6 rfl
          exact stepV rfl rfl (execEqlStr rfl h0 h1) ⟨_, rfl, rfl, Below.refl _ _⟩
      · intro x W hB hS
        have e7 : x 7 = .bool true := hS 7 (by omega)
        have gW : Hid (Below w.heap.size w W) := VW.out.trans (hB.mono VW.out.size)
        simp only [putL, List.drop_succ_cons, List.drop_zero, e7, Act.put, List.setIfInBounds_toArray, List.set_cons_succ, List.set_cons_zero]
        clear hS hB e7
        go_wp2
        go_ret
        exact ⟨rfl, gW.out⟩
end Go.Proofs.YtjaddenjeaalaaaDoor
