import Derived.Test.YteekoabgbjbabaaGreatDoorW6
import Derived.Test.YteekoabgbjbabaaGreatDoorJ5
import Derived.Test.YteekoabgbjbabaaGreatDoorI1
import Derived.Test.YteekoabgbjbabaaGreatDoorY3
namespace Go.Proofs.YteekoabgbjbabaaGreatDoor.Aes
open Go.RowKit Gf8
/- The program's block: encrypted, Encrypt, Decrypt. -/

/-- The rows of encrypted: the Schedule, the block, the answer's place. -/
structure EnT (A : Nat) (w st : Nat → Nat) (V W : World) : Prop where
  ww : W.heap[A]? = some (.cells (bA 176 w) 104)
  bb : W.heap[A + 1]? = some (.cells (bA 16 st) 35)
  rr : W.heap[A + 2]? = some (.cells (bA 16 fun _ => 0) 35)
  bel : Below A V W
theorem EnT.lt {A : Nat} {w st : Nat → Nat} {V W : World} (h : EnT A w st V W) : A + 2 < W.heap.size := (Array.getElem?_eq_some_iff.1 h.rr).1
theorem EnT.on {A : Nat} {w st : Nat → Nat} {V W W' : World} (h : EnT A w st V W) (hb : Below W.heap.size W W') : EnT A w st V W' := by
  have l := h.lt
  exact ⟨by rw [hb.block _ (by omega)]; exact h.ww, by rw [hb.block _ (by omega)]; exact h.bb, by rw [hb.block _ (by omega)]; exact h.rr, h.bel.trans (hb.mono (by omega))⟩
theorem EnT.setB {A : Nat} {w st : Nat → Nat} {V W : World} (h : EnT A w st V W) (g : Nat → Nat) : EnT A w g V (W.setRow (A + 1) (bA 16 g)) := by
  refine ⟨?_, setRow_heap _ _ _ _ _ _ h.bb, ?_, below4 h.bel (by omega) _⟩
  · rw [setRow_other _ _ _ _ (by omega)]; exact h.ww
  · rw [setRow_other _ _ _ _ (by omega)]; exact h.rr
theorem EnT.drew {A : Nat} {w st : Nat → Nat} {V W : World} (h : EnT A w st V W) : EnT A w st V W.drew := ⟨h.ww, h.bb, h.rr, h.bel.drew⟩
theorem sub_turn (st : Nat → Nat) : turnB 1 (fun j => gsub (st j)) = subS st := rfl
theorem key_by {w : Nat → Nat} (hw : ∀ i, i < 176 → w i < 256) {i : Nat} (hi : i < 11) : By fun j => w (16 * i + j) := fun j hj => hw _ (by omega)
/-- What each operation of 'b = sum(b, s.keys[i])' yields. -/
def skV (A i : Nat) (w st : Nat → Nat) (j : Nat) : Value :=
  match j with
  | 0 => .agg (bA 16 st) | 1 => .int .i64 i | 2 => .pointer (some ⟨A, 0, none⟩) | 3 => .pointer (some ⟨A, 16 * i, none⟩) | 4 => .agg (bA 16 fun j => w (16 * i + j)) | 5 => .agg (bA 16 (addR w st i)) | _ => undef
set_option maxRecDepth 20000 in
set_option maxHeartbeats 2000000 in
theorem encrypted_any (g : Nat) (lb : Array Value) (w b : Nat → Nat) (V : World) (hF : FnB g lb gsub V) (hw : ∀ i, i < 176 → w i < 256) (hb : By b) :
    Calls Tryz.prog 76 #[.agg (bA 176 w), .agg (bA 16 b), .func (.func g) #[] lb] V fun e w' => e = .returned (.agg (bA 16 (enc w b))) ∧ Below V.heap.size V w' := by
  have HB : Hid (By b) := hb
  have HF : Hid (FnB g lb gsub V) := hF
  have HW : Hid (∀ i, i < 176 → w i < 256) := hw
  have HE : Hid (∀ n, n ≤ 10 → By (encN w b n)) := fun n hn => encN_by hw hb n hn
  clear hb hw hF
  have z := zero16
  go_enter Tryz.func76, Tryz.ntmps76
  have kt : EnT V.heap.size w b V (((V.alloc (.cells (bA 176 w) 104)).alloc (.cells (bA 16 b) 35)).alloc (.cells (bA 16 fun _ => 0) 35)) := by
    have h := heap3c V (.cells (bA 176 w) 104) (.cells (bA 16 b) 35) (.cells (bA 16 fun _ => 0) 35)
    exact ⟨h.1, h.2.1, h.2.2, below3c _ _ _ _⟩
  go_wp2_with (first
    | (refine atLoad 35 (.tmp 4) rfl ?_; go_must (refine wpList_load_row rfl 35 (.tmp 4) rfl (V.heap.size + 1) rfl 35 _ (0, 0) _ kt.bb Tryz.underlying35 rfl (size16 _) ?_; simp only [Act.put, List.setIfInBounds_toArray, List.set_cons_succ, List.set_cons_zero]))
    | (refine wpList_ex rfl (execFldS rfl rfl) ?_)
    | (refine wpList_ex rfl (execIdxK (k := 0) rfl rfl rfl (by omega)) ?_)
    | (refine atLoad 35 (.tmp 10) rfl ?_; go_must (refine wpList_ex rfl (execLdKey (i := 0) rfl rfl kt.ww (by omega)) ?_))
    | (go_at_call 90; refine (sum_any b (fun j => w (16 * 0 + j)) _ HB.out (key_by HW.out (by omega))).mono ?_; rintro e w1 ⟨rfl, hb1⟩; rw [addR_xorB]; have kt := kt.on hb1)
    | (refine atStore 35 (.tmp 4) (.tmp 12) rfl ?_; go_must (refine wpList_store_row rfl 35 (.tmp 4) (.tmp 12) rfl (V.heap.size + 1) _ rfl rfl 35 _ kt.bb (size16 _) rfl (bA_one _ _) ?_; have kt := kt.setB (addR w b 0))))
  have KT : Hid (_) := kt
  clear kt
  obtain ⟨A, hA⟩ : ∃ A, A = V.heap.size := ⟨_, rfl⟩
  rw [← hA] at KT ⊢
  have VA : Hid (V.heap.size = A) := hA.symm
  clear hA z
  rw [show A + 1 + 1 = A + 2 from rfl]
  go_loopw [7] (fun x W => ∃ n : Nat, n ≤ 10 ∧ x = .int .i64 ((n + 1 : Nat) : Int) ∧ EnT A w (encN w b n) V W) (fun x _ => 11 - (intOf x).toNat)
  case atStart => exact ⟨0, by omega, rfl, KT.out⟩
  case round =>
    obtain ⟨n, hn, rfl, kt⟩ := hrel
    clear KT
    obtain ⟨i, hi⟩ : ∃ i, n + 1 = i := ⟨_, rfl⟩
    rw [hi]
    by_cases hlt : n < 10
    · have i1 : (i : Int) ≤ 10 := by omega
      have HN : Hid (n + 1 = i ∧ n < 10) := ⟨hi, hlt⟩
      clear hi hlt hn
      obtain ⟨st, hst⟩ : ∃ st, encN w b n = st := ⟨_, rfl⟩
      rw [hst] at kt
      have hS : Hid (By st) := by have := HE.out n (by have := HN.out; omega); rw [hst] at this; exact this
      have HST : Hid (encN w b n = st) := hst
      clear hst
      have HSS : Hid (By fun j => gsub (st j)) := fun j hj => gsub_lt (hS.out j hj)
      obtain ⟨s2, hs2⟩ : ∃ s2, s2 = (if n + 1 < 10 then mixB fwd (subS st) else subS st) := ⟨_, rfl⟩
      have H2 : Hid (By s2) := by
        show By s2
        rw [hs2]
        split
        · exact mixF_by _
        · exact subS_by hS.out
      have HF2 : Hid (addR w s2 i = encN w b (n + 1)) := by
        show addR w s2 i = addR w (if n + 1 < 10 then mixB fwd (subS (encN w b n)) else subS (encN w b n)) (n + 1)
        rw [HST.out, hs2, HN.out.1]
      by_cases h9 : n + 1 < 10
      · have i9 : (i : Int) < 10 := by have := HN.out; omega
        rw [if_pos h9] at hs2
        have HS2 : Hid (s2 = mixB fwd (subS st)) := hs2
        clear hs2
        go_wp2_with (first
          | (refine atLoad 35 (.tmp 4) rfl ?_; go_must (refine wpList_load_row rfl 35 (.tmp 4) rfl (A + 1) rfl 35 _ (0, 0) _ kt.bb Tryz.underlying35 rfl (size16 _) ?_; simp only [Act.put, List.setIfInBounds_toArray, List.set_cons_succ, List.set_cons_zero]))
          | (go_at_call 92; refine (substituted_any g lb gsub st _ (HF.out.on (by rw [VA.out]; exact kt.bel)) hS.out).mono ?_; rintro e w1 ⟨rfl, hb1⟩; have kt := kt.on hb1)
          | (go_at_call 91; refine (turned_any 1 (fun j => gsub (st j)) _ (by omega) HSS.out).mono ?_; rintro e w2 ⟨rfl, hb2⟩; rw [sub_turn]; have kt := kt.on hb2)
          | (refine atStore 35 (.tmp 4) (.tmp 20) rfl ?_; go_must (refine wpList_store_row rfl 35 (.tmp 4) (.tmp 20) rfl (A + 1) _ rfl rfl 35 _ kt.bb (size16 _) rfl (bA_one _ _) ?_; have kt := kt.setB (subS st)))
          | (go_at_call 93; refine (pmixed_any 94 fwd (subS st) _ (fn_column _) (subS_by hS.out)).mono ?_; rintro e w3 ⟨rfl, hb3⟩; rw [← HS2.out]; have kt := kt.on hb3)
          | (refine atStore 35 (.tmp 4) (.tmp 24) rfl ?_; go_must (refine wpList_store_row rfl 35 (.tmp 4) (.tmp 24) rfl (A + 1) _ rfl rfl 35 _ kt.bb (size16 _) rfl (bA_one _ _) ?_; have kt := kt.setB s2)))
        have KT : Hid (_) := kt
        clear kt hb1 hb2 hb3
        refine wp_region_det 32 [(0, 25), (1, 26), (2, 27), (3, 28), (4, 29), (5, 30)] (skV A i w s2) (fun l W => EnT A w (if l 6 = true then addR w s2 i else s2) V W) (by kernel_rfl) (by kernel_rfl) rfl (by kernel_rfl) (by decide) (by decide) ?_ ?_ ?_
        · exact KT.out.drew
        · intro j hj l a W hl hf hdep hl2 hcl _ hT
          have li : i < 11 := by have := HN.out; omega
          match j, hj with
          | 0, _ =>
            have n6 : l 6 = false := by
              cases h : l 6 with
              | false => rfl
              | true =>
                have := hcl 5 _ rfl (hcl 6 _ rfl h 5 rfl) 0 rfl
                rw [hl] at this
                cases this
            have ge := hT.bb
            rw [n6, if_neg (by decide)] at ge
            exact stepV rfl rfl (execLoadRow rfl (hf 4 (by decide)) ge Tryz.underlying35 rfl (size16 _)) ⟨⟨_, rfl, rfl⟩, hT⟩
          | 1, _ => exact stepV rfl rfl (execMvB rfl (hf 7 (by decide))) ⟨⟨_, rfl, rfl⟩, hT⟩
          | 2, _ => exact stepV rfl rfl (execFldS rfl (hf 3 (by decide))) ⟨⟨_, rfl, rfl⟩, hT⟩
          | 3, _ => exact stepV rfl rfl (execIdxK rfl (hdep _ rfl 2 rfl _ rfl _ rfl) (hdep _ rfl 1 rfl _ rfl _ rfl) li) ⟨⟨_, rfl, rfl⟩, hT⟩
          | 4, _ => exact stepV rfl rfl (execLdKey rfl (hdep _ rfl 3 rfl _ rfl _ rfl) hT.ww li) ⟨⟨_, rfl, rfl⟩, hT⟩
          | 5, _ => exact stepC rfl rfl (execCall2 Tryz.func90 (by kernel_rfl) (by kernel_rfl) rfl (hdep _ rfl 0 rfl _ rfl _ rfl) (hdep _ rfl 4 rfl _ rfl _ rfl)) (sum_any s2 (fun j => w (16 * i + j)) W H2.out (key_by HW.out li)) fun e w' h => ⟨_, h.1, ⟨_, rfl, rfl⟩, hT.on h.2⟩
          | 6, _ =>
            rw [hl] at hT
            exact stepS rfl rfl (execSt16 rfl (hf 4 (by decide)) (hdep _ rfl 5 rfl _ rfl _ rfl) hT.bb) ⟨⟨_, rfl, rfl⟩, hT.setB (addR w s2 i)⟩
          | n + 7, h => exact absurd h (by simp)
        · intro l W hall hT
          simp only [hall 6 (by simp), if_true] at hT
          have KT2 : Hid (_) := hT
          clear hall hT KT
          simp only [putP, skV, Act.put, List.setIfInBounds_toArray, List.set_cons_succ, List.set_cons_zero]
          go_wp2
          go_roundw
          case rel => exact ⟨n + 1, by have := HN.out; omega, by have := HN.out.1; go_num, by rw [← HF2.out]; exact KT2.out⟩
          case measure => have := HN.out; simp [intOf]; omega
      · have i9 : ¬ (i : Int) < 10 := by have := HN.out; omega
        rw [if_neg h9] at hs2
        have HS2 : Hid (s2 = subS st) := hs2
        clear hs2
        go_wp2_with (first
          | (refine atLoad 35 (.tmp 4) rfl ?_; go_must (refine wpList_load_row rfl 35 (.tmp 4) rfl (A + 1) rfl 35 _ (0, 0) _ kt.bb Tryz.underlying35 rfl (size16 _) ?_; simp only [Act.put, List.setIfInBounds_toArray, List.set_cons_succ, List.set_cons_zero]))
          | (go_at_call 92; refine (substituted_any g lb gsub st _ (HF.out.on (by rw [VA.out]; exact kt.bel)) hS.out).mono ?_; rintro e w1 ⟨rfl, hb1⟩; have kt := kt.on hb1)
          | (go_at_call 91; refine (turned_any 1 (fun j => gsub (st j)) _ (by omega) HSS.out).mono ?_; rintro e w2 ⟨rfl, hb2⟩; rw [sub_turn, ← HS2.out]; have kt := kt.on hb2)
          | (refine atStore 35 (.tmp 4) (.tmp 20) rfl ?_; go_must (refine wpList_store_row rfl 35 (.tmp 4) (.tmp 20) rfl (A + 1) _ rfl rfl 35 _ kt.bb (size16 _) rfl (bA_one _ _) ?_; have kt := kt.setB s2)))
        have KT : Hid (_) := kt
        clear kt hb1 hb2
        refine wp_region_det 32 [(0, 25), (1, 26), (2, 27), (3, 28), (4, 29), (5, 30)] (skV A i w s2) (fun l W => EnT A w (if l 6 = true then addR w s2 i else s2) V W) (by kernel_rfl) (by kernel_rfl) rfl (by kernel_rfl) (by decide) (by decide) ?_ ?_ ?_
        · exact KT.out.drew
        · intro j hj l a W hl hf hdep hl2 hcl _ hT
          have li : i < 11 := by have := HN.out; omega
          match j, hj with
          | 0, _ =>
            have n6 : l 6 = false := by
              cases h : l 6 with
              | false => rfl
              | true =>
                have := hcl 5 _ rfl (hcl 6 _ rfl h 5 rfl) 0 rfl
                rw [hl] at this
                cases this
            have ge := hT.bb
            rw [n6, if_neg (by decide)] at ge
            exact stepV rfl rfl (execLoadRow rfl (hf 4 (by decide)) ge Tryz.underlying35 rfl (size16 _)) ⟨⟨_, rfl, rfl⟩, hT⟩
          | 1, _ => exact stepV rfl rfl (execMvB rfl (hf 7 (by decide))) ⟨⟨_, rfl, rfl⟩, hT⟩
          | 2, _ => exact stepV rfl rfl (execFldS rfl (hf 3 (by decide))) ⟨⟨_, rfl, rfl⟩, hT⟩
          | 3, _ => exact stepV rfl rfl (execIdxK rfl (hdep _ rfl 2 rfl _ rfl _ rfl) (hdep _ rfl 1 rfl _ rfl _ rfl) li) ⟨⟨_, rfl, rfl⟩, hT⟩
          | 4, _ => exact stepV rfl rfl (execLdKey rfl (hdep _ rfl 3 rfl _ rfl _ rfl) hT.ww li) ⟨⟨_, rfl, rfl⟩, hT⟩
          | 5, _ => exact stepC rfl rfl (execCall2 Tryz.func90 (by kernel_rfl) (by kernel_rfl) rfl (hdep _ rfl 0 rfl _ rfl _ rfl) (hdep _ rfl 4 rfl _ rfl _ rfl)) (sum_any s2 (fun j => w (16 * i + j)) W H2.out (key_by HW.out li)) fun e w' h => ⟨_, h.1, ⟨_, rfl, rfl⟩, hT.on h.2⟩
          | 6, _ =>
            rw [hl] at hT
            exact stepS rfl rfl (execSt16 rfl (hf 4 (by decide)) (hdep _ rfl 5 rfl _ rfl _ rfl) hT.bb) ⟨⟨_, rfl, rfl⟩, hT.setB (addR w s2 i)⟩
          | n + 7, h => exact absurd h (by simp)
        · intro l W hall hT
          simp only [hall 6 (by simp), if_true] at hT
          have KT2 : Hid (_) := hT
          clear hall hT KT
          simp only [putP, skV, Act.put, List.setIfInBounds_toArray, List.set_cons_succ, List.set_cons_zero]
          go_wp2
          go_roundw
          case rel => exact ⟨n + 1, by have := HN.out; omega, by have := HN.out.1; go_num, by rw [← HF2.out]; exact KT2.out⟩
          case measure => have := HN.out; simp [intOf]; omega
    · have en : n = 10 := by omega
      subst en
      have i1 : ¬ (i : Int) ≤ 10 := by omega
      go_wp2_with (first
        | (refine atLoad 35 (.tmp 4) rfl ?_; go_must (refine wpList_load_row rfl 35 (.tmp 4) rfl (A + 1) rfl 35 _ (0, 0) _ kt.bb Tryz.underlying35 rfl (size16 _) ?_; simp only [Act.put, List.setIfInBounds_toArray, List.set_cons_succ, List.set_cons_zero]))
        | (refine atStore 35 (.tmp 6) (.tmp 31) rfl ?_; go_must (refine wpList_store_row rfl 35 (.tmp 6) (.tmp 31) rfl (A + 2) _ rfl rfl 35 _ kt.rr (size16 _) rfl (bA_one _ _) ?_)))
      refine bodyPost_ret (v := .agg (bA 16 (enc w b))) (results_cell_row Tryz.results76 _ _ (A + 2) 35 _ (0, 0) _ rfl (setRow_heap _ _ _ _ _ _ kt.rr) Tryz.underlying35 rfl (size16 _)) rfl ⟨rfl, ?_⟩
      rw [VA.out]
      exact below4 kt.bel (by omega) _

end Go.Proofs.YteekoabgbjbabaaGreatDoor.Aes

namespace Go.Proofs.YteekoabgbjbabaaGreatDoor.Aes
open Go.RowKit Gf8
/- The program's block: following; the table of Sub. -/

set_option maxRecDepth 20000 in
set_option maxHeartbeats 400000 in
theorem following_any (n : Nat) (V : World) :
    Calls Tryz.prog 75 #[.agg (bA 16 (be n))] V fun e w' => e = .returned (.agg (bA 16 (be (n + 1)))) ∧ Below V.heap.size V w' := by
  have z := zero16
  go_enter Tryz.func75, Tryz.ntmps75
  go_wp2_with fail
  clear z
  have hs : ∀ (v : World) (o : Obj), (v.alloc o).heap = v.heap.push o := fun _ _ => rfl
  have T0 : Hid (((V.alloc (.cells (bA 16 (be n)) 35)).alloc (.cells (bA 16 fun _ => 0) 35)).heap[V.heap.size]? = some (.cells (bA 16 (nxF n 0)) 35) ∧ ((V.alloc (.cells (bA 16 (be n)) 35)).alloc (.cells (bA 16 fun _ => 0) 35)).heap[V.heap.size + 1]? = some (.cells (bA 16 fun _ => 0) 35)) := by
    refine ⟨?_, ?_⟩
    · simp only [hs, Array.getElem?_push, Array.size_push]; rw [if_neg (by omega), if_pos trivial, bA_congr (f := nxF n 0) (g := be n) (fun j hj => by unfold nxF; rw [if_neg (by omega)])]
    · simp only [hs, Array.getElem?_push, Array.size_push]; rw [if_pos trivial]
  clear hs
  go_loopw [3] (fun x W => ∃ m : Nat, m ≤ 16 ∧ x = .int .i64 (15 - (m : Int)) ∧ 256 ^ m ∣ n + 1 ∧ W.heap[V.heap.size]? = some (.cells (bA 16 (nxF n m)) 35) ∧ W.heap[V.heap.size + 1]? = some (.cells (bA 16 fun _ => 0) 35) ∧ Below V.heap.size V W) (fun x _ => (intOf x + 1).toNat)
  case atStart => exact ⟨0, by omega, rfl, by simp, T0.out.1, T0.out.2, ((Below.refl _ _).alloc (Nat.le_refl _) _).alloc (by simp) _⟩
  case round =>
    obtain ⟨m, hm, rfl, hd, g1, g2, bel⟩ := hrel
    have G1 : Hid (_) := g1
    have G2 : Hid (_) := g2
    have HD : Hid (256 ^ m ∣ n + 1) := hd
    have BL : Hid (Below V.heap.size V wr) := bel
    clear g1 g2 bel T0 hd
    by_cases hlt : m < 16
    · obtain ⟨i, hi⟩ : ∃ i, 15 - m = i := ⟨_, rfl⟩
      have e0 : 15 - (m : Int) = (i : Int) := by omega
      have i1 : (i : Int) ≥ 0 := by omega
      have i2 : (i : Int) < 16 := by omega
      have hi16 : i < 16 := by omega
      obtain ⟨y, hy⟩ : ∃ y, be n i = y := ⟨_, rfl⟩
      obtain ⟨x, hx⟩ : ∃ x, be (n + 1) i = x := ⟨_, rfl⟩
      have x1 : x < 256 := by rw [← hx]; exact be_by _ i hi16
      have exy : ((y : Int) + 1) % 256 = (x : Int) := by
        have := be_next n i
        rw [if_pos (by rw [show 15 - i = m by omega]; exact HD.out), hy, hx] at this
        omega
      have c1 : wr.cell? ⟨V.heap.size, i, none⟩ = some (.int .u8 y) := by
        rw [cellN G1.out hi16]
        unfold nxF
        rw [if_neg (by omega), hy]
      have c2 : wr.frozen? ⟨V.heap.size, i, none⟩ = false := frozen4 G1.out
      have R1 : Hid ((wr.setCell ⟨V.heap.size, i, none⟩ (.int .u8 x)).heap[V.heap.size]? = some (.cells (bA 16 (nxF n (m + 1))) 35)) := by
        show (wr.setCell ⟨V.heap.size, i, none⟩ (.int .u8 x)).heap[V.heap.size]? = _
        rw [heap4 _ G1.out, bA_set, ← hx, ← hi, nxF_step n hlt]
      have R2 : Hid ((wr.setCell ⟨V.heap.size, i, none⟩ (.int .u8 x)).heap[V.heap.size + 1]? = some (.cells (bA 16 fun _ => 0) 35)) := by
        show (wr.setCell ⟨V.heap.size, i, none⟩ (.int .u8 x)).heap[V.heap.size + 1]? = _
        rw [heap4o _ G1.out (by omega)]; exact G2.out
      have R3 : Hid (Below V.heap.size V (wr.setCell ⟨V.heap.size, i, none⟩ (.int .u8 x))) := BL.out.setCell (Nat.le_refl _) _
      have c3 : (wr.setCell ⟨V.heap.size, i, none⟩ (.int .u8 x)).cell? ⟨V.heap.size, i, none⟩ = some (.int .u8 x) := by
        rw [cellN R1.out hi16]
        unfold nxF
        rw [if_pos (by omega), hx]
      have CM : Hid (256 ^ (m + 1) ∣ n + 1 ↔ x = 0) := by
        show 256 ^ (m + 1) ∣ n + 1 ↔ x = 0
        rw [carry_more n m HD.out, ← hx]
        unfold be
        rw [show 15 - i = m by omega]
      rw [e0]
      clear hi hy hx hm
      by_cases h0 : x = 0
      · have z0 : ((x : Int) != 0) = false := by simp [h0]
        have H0 : Hid (x = 0) := h0
        clear h0
        go_wp2
        go_roundw
        case rel => exact ⟨m + 1, by omega, by go_num, CM.out.2 H0.out, R1.out, R2.out, R3.out⟩
        case measure => simp [intOf]
      · have z0 : ((x : Int) != 0) = true := by simp [h0]
        have R4 : Hid ((wr.setCell ⟨V.heap.size, i, none⟩ (.int .u8 x)).heap[V.heap.size]? = some (.cells (bA 16 (be (n + 1))) 35)) := by
          have h := R1.out
          rw [bA_congr (nxF_done (fun e => h0 (CM.out.1 e)))] at h
          exact h
        go_wp2_with (first
          | (refine atLoad 35 (.tmp 1) rfl ?_; go_must (refine wpList_load_row rfl 35 (.tmp 1) rfl V.heap.size rfl 35 _ (0, 0) _ R4.out Tryz.underlying35 rfl (size16 _) ?_; simp only [Act.put, List.setIfInBounds_toArray, List.set_cons_succ, List.set_cons_zero]))
          | (refine atStore 35 (.tmp 2) (.tmp 17) rfl ?_; go_must (refine wpList_store_row rfl 35 (.tmp 2) (.tmp 17) rfl (V.heap.size + 1) _ rfl rfl 35 _ R2.out (size16 _) rfl (bA_one _ _) ?_)))
        refine bodyPost_ret (v := .agg (bA 16 (be (n + 1)))) (results_cell_row Tryz.results75 _ _ (V.heap.size + 1) 35 _ (0, 0) _ rfl (setRow_heap _ _ _ _ _ _ R2.out) Tryz.underlying35 rfl (size16 _)) rfl ⟨rfl, ?_⟩
        exact below4 R3.out (by omega) _
    · have em : m = 16 := by omega
      subst em
      have R4 : Hid (wr.heap[V.heap.size]? = some (.cells (bA 16 (be (n + 1))) 35)) := by
        have h := G1.out
        rw [bA_congr (nxF_all n)] at h
        exact h
      go_wp2_with (first
        | (refine atLoad 35 (.tmp 1) rfl ?_; go_must (refine wpList_load_row rfl 35 (.tmp 1) rfl V.heap.size rfl 35 _ (0, 0) _ R4.out Tryz.underlying35 rfl (size16 _) ?_; simp only [Act.put, List.setIfInBounds_toArray, List.set_cons_succ, List.set_cons_zero]))
        | (refine atStore 35 (.tmp 2) (.tmp 17) rfl ?_; go_must (refine wpList_store_row rfl 35 (.tmp 2) (.tmp 17) rfl (V.heap.size + 1) _ rfl rfl 35 _ G2.out (size16 _) rfl (bA_one _ _) ?_)))
      refine bodyPost_ret (v := .agg (bA 16 (be (n + 1)))) (results_cell_row Tryz.results75 _ _ (V.heap.size + 1) 35 _ (0, 0) _ rfl (setRow_heap _ _ _ _ _ _ G2.out) Tryz.underlying35 rfl (size16 _)) rfl ⟨rfl, ?_⟩
      exact below4 BL.out (by omega) _

/-- What tableOfSub hands out, a table of substitution at T. -/
theorem table_read (T a : Nat) (f : Nat → Nat) (W : World) (ha : a < 256) (hT : W.heap[T]? = some (.cells (bA 256 f) 112)) :
    Calls Tryz.prog 87 #[.int .u8 a, .pointer (some ⟨T, 0, none⟩)] W fun e w' => e = .returned (.int .u8 (f a : Nat)) ∧ Below W.heap.size W w' := by
  have a1 : (a : Int) < 256 := by omega
  have c : W.cell? ⟨T, a, none⟩ = some (.int .u8 (f a)) := cellN hT ha
  clear hT
  go_enter Tryz.func87, Tryz.ntmps87
  go_wp2
  go_ret
  exact ⟨rfl, Below.refl _ _⟩
theorem fn_table (T : Nat) (V : World) (hT : V.heap[T]? = some (.cells (bA 256 gsub) 112)) : FnB 87 #[.pointer (some ⟨T, 0, none⟩)] gsub V :=
  ⟨enters_of Tryz.func87 (by kernel_rfl) rfl, fun a W ha hb => by
    have h := table_read T a gsub W ha (by rw [hb.block _ (Array.getElem?_eq_some_iff.1 hT).1]; exact hT)
    simpa using h, fun _ h => gsub_lt h⟩

set_option maxRecDepth 20000 in
set_option maxHeartbeats 400000 in
theorem tableOfSub_any (V : World) :
    Calls Tryz.prog 73 #[] V fun e w' => e = .returned (.func (.func 87) #[] #[.pointer (some ⟨V.heap.size, 0, none⟩)]) ∧ w'.heap[V.heap.size]? = some (.cells (bA 256 gsub) 112) ∧ Below V.heap.size V w' := by
  have z := zero256
  go_enter Tryz.func73, Tryz.ntmps73
  go_wp2_with fail
  clear z
  have T0 : Hid ((V.alloc (.cells (bA 256 fun _ => 0) 112)).heap[V.heap.size]? = some (.cells (bA 256 (uptoC gsub 0)) 112)) := heapNew V _
  go_loopw [3] (fun x W => ∃ k : Nat, k ≤ 256 ∧ x = .int .i64 k ∧ W.heap[V.heap.size]? = some (.cells (bA 256 (uptoC gsub k)) 112) ∧ Below V.heap.size V W) (fun x _ => 256 - (intOf x).toNat)
  case atStart => exact ⟨0, by omega, rfl, T0.out, belNew V _⟩
  case round =>
    obtain ⟨k, hk, rfl, g1, bel⟩ := hrel
    clear T0
    by_cases hlt : k < 256
    · have i1 : (k : Int) < 256 := by omega
      have HL : Hid (k < 256) := hlt
      have CS := sub_any k wr hlt
      have G1 : Hid (_) := g1
      have BL : Hid (Below V.heap.size V wr) := bel
      clear g1 bel hlt hk
      go_wp2_with (go_at_call 86; refine CS.mono ?_; rintro e w1 ⟨rfl, hb1⟩; have g1 : w1.heap[V.heap.size]? = some (.cells (bA 256 (uptoC gsub k)) 112) := (by rw [hb1.block _ (Array.getElem?_eq_some_iff.1 G1.out).1]; exact G1.out); have n1 : w1.cell? ⟨V.heap.size, k, none⟩ = some (.int .u8 (uptoC gsub k k)) := cellN g1 HL.out; have n2 : w1.frozen? ⟨V.heap.size, k, none⟩ = false := frozen4 g1)
      have R1 : Hid ((w1.setCell ⟨V.heap.size, k, none⟩ (.int .u8 (gsub k : Nat))).heap[V.heap.size]? = some (.cells (bA 256 (uptoC gsub (k + 1))) 112)) := by
        show (w1.setCell ⟨V.heap.size, k, none⟩ (.int .u8 (gsub k : Nat))).heap[V.heap.size]? = _
        rw [heap4 _ g1, bA_set, updN_upto]
      have R2 : Hid (Below V.heap.size V (w1.setCell ⟨V.heap.size, k, none⟩ (.int .u8 (gsub k : Nat)))) := (BL.out.trans (hb1.mono BL.out.size)).setCell (Nat.le_refl _) _
      go_roundw
      case rel => exact ⟨k + 1, by have := HL.out; omega, by go_num, R1.out, R2.out⟩
      case measure => have := HL.out; simp [intOf]; omega
    · have i1 : ¬ (k : Int) < 256 := by omega
      have ek : k = 256 := by omega
      subst ek
      have G : Hid (wr.heap[V.heap.size]? = some (.cells (bA 256 gsub) 112)) := by
        have h := g1
        rw [bA_congr (g := gsub) (fun j hj => by unfold uptoC; rw [if_pos hj])] at h
        exact h
      go_wp2
      go_ret
      exact ⟨rfl, G.out, bel⟩
end Go.Proofs.YteekoabgbjbabaaGreatDoor.Aes

namespace Go.Proofs.YteekoabgbjbabaaGreatDoor.Aes
open Go.RowKit Gf8 By8
/- The program's block: stream. -/

/-- The rows of stream ahead of its loop. -/
structure S0T (A : Nat) (key : Nat → Nat) (s0 : Nat) (V W : World) : Prop where
  k : W.heap[A]? = some (.cells (bA 16 key) 35)
  s : W.heap[A + 1]? = some (.cells (bA 16 (be s0)) 35)
  bel : Below A V W
theorem S0T.on {A : Nat} {key : Nat → Nat} {s0 : Nat} {V W W' : World} (h : S0T A key s0 V W) (hb : Below W.heap.size W W') : S0T A key s0 V W' := by
  have l : A + 1 < W.heap.size := (Array.getElem?_eq_some_iff.1 h.s).1
  exact ⟨by rw [hb.block _ (by omega)]; exact h.k, by rw [hb.block _ (by omega)]; exact h.s, h.bel.trans (hb.mono (by omega))⟩
/-- The rows in stream's loop: the next start, the table, the Schedule, the answer of which off bytes are laid. -/
structure SmR (A T S O n k off : Nat) (w : Nat → Nat) (s0 : Nat) (V W : World) : Prop where
  st : W.heap[A + 1]? = some (.cells (bA 16 (be (s0 + k))) 35)
  tb : W.heap[T]? = some (.cells (bA 256 gsub) 112)
  ss : W.heap[S]? = some (.cells (bA 176 w) 104)
  oo : W.heap[O]? = some (.cells (bA n (uptoC (maskF w s0 fun _ => 0) off)) 5)
  l1 : A + 1 < T
  l2 : T < S
  l3 : S < O
  bel : Below A V W
theorem SmR.lt {A T S O n k off : Nat} {w : Nat → Nat} {s0 : Nat} {V W : World} (h : SmR A T S O n k off w s0 V W) : O < W.heap.size := (Array.getElem?_eq_some_iff.1 h.oo).1
theorem SmR.on {A T S O n k off : Nat} {w : Nat → Nat} {s0 : Nat} {V W W' : World} (h : SmR A T S O n k off w s0 V W) (hb : Below W.heap.size W W') : SmR A T S O n k off w s0 V W' := by
  have l := h.lt
  have a := h.l1
  have b := h.l2
  have c := h.l3
  exact ⟨by rw [hb.block _ (by omega)]; exact h.st, by rw [hb.block _ (by omega)]; exact h.tb, by rw [hb.block _ (by omega)]; exact h.ss, by rw [hb.block _ (by omega)]; exact h.oo, a, b, c, h.bel.trans (hb.mono (by omega))⟩
/-- A row behind all of these is written. -/
theorem SmR.row {A T S O n k off B : Nat} {w : Nat → Nat} {s0 : Nat} {V W : World} (h : SmR A T S O n k off w s0 V W) (hB : O < B) (c : Array Value) : SmR A T S O n k off w s0 V (W.setRow B c) := by
  have l := h.lt
  have a := h.l1
  have b := h.l2
  have d := h.l3
  exact ⟨by rw [setRow_other _ _ _ _ (by omega)]; exact h.st, by rw [setRow_other _ _ _ _ (by omega)]; exact h.tb, by rw [setRow_other _ _ _ _ (by omega)]; exact h.ss, by rw [setRow_other _ _ _ _ (by omega)]; exact h.oo, a, b, d, below4 h.bel (by omega) _⟩
theorem SmR.copy {A T S O n k off c : Nat} {w : Nat → Nat} {s0 : Nat} {V W : World} (h : SmR A T S O n k off w s0 V W) (hk : off = 16 * k) (hc : c ≤ 16) :
    SmR A T S O n k (off + c) w s0 V (W.setRow O (bA n (spl (uptoC (maskF w s0 fun _ => 0) off) off c (enc w (be (s0 + k)))))) := by
  have l := h.lt
  have a := h.l1
  have b := h.l2
  have d := h.l3
  refine ⟨by rw [setRow_other _ _ _ _ (by omega)]; exact h.st, by rw [setRow_other _ _ _ _ (by omega)]; exact h.tb, by rw [setRow_other _ _ _ _ (by omega)]; exact h.ss, ?_, a, b, d, below4 h.bel (by omega) _⟩
  rw [setRow_heap _ _ _ _ _ _ h.oo]
  congr 3
  funext i
  unfold spl uptoC
  by_cases h1 : off ≤ i ∧ i < off + c
  · rw [if_pos h1, if_pos h1.2]
    unfold maskF
    rw [Nat.zero_xor, show i / 16 = k by omega, show i % 16 = i - off by omega]
  · rw [if_neg h1]
    by_cases h2 : i < off
    · rw [if_pos h2, if_pos (by omega)]
    · rw [if_neg h2, if_neg (by omega)]
theorem SmR.next {A T S O n k off : Nat} {w : Nat → Nat} {s0 : Nat} {V W : World} (h : SmR A T S O n k off w s0 V W) : SmR A T S O n (k + 1) off w s0 V (W.setRow (A + 1) (bA 16 (be (s0 + k + 1)))) := by
  have l := h.lt
  have a := h.l1
  have b := h.l2
  have d := h.l3
  exact ⟨setRow_heap _ _ _ _ _ _ h.st, by rw [setRow_other _ _ _ _ (by omega)]; exact h.tb, by rw [setRow_other _ _ _ _ (by omega)]; exact h.ss, by rw [setRow_other _ _ _ _ (by omega)]; exact h.oo, a, b, d, below4 h.bel (by omega) _⟩
def lenV (v : Value) : Nat := match v with | .slice _ m _ => m | _ => 0
theorem execMkN {o : Oper} {a : Act} {w : World} {n : Nat} {x y : Operand} (ho : o.op = .makeSlice 24 x y) (hx : a.eval x = .int .i64 (n : Int)) (hy : a.eval y = .int .i64 (n : Int)) (hn : n ≤ 281474976710656) :
    (execOp a.eval o).run Tryz.prog w = .ok (.value (.slice (some ⟨w.heap.size, 0, none⟩) n n)) (w.alloc (.cells (bA n (fun _ => 0)) 5)) := execMk ho hx hy (Nat.le_refl _) hn
/-- copy(rest, b[:]). -/
theorem execCopyS {o : Oper} {a : Act} {w : World} {x y : Operand} {O B off m n c : Nat} {f e : Nat → Nat} {t u : TypeId} (ho : o.op = .call { callee := .builtin .copy, args := #[x, y], argTypes := #[24, 24] })
    (hx : a.eval x = .slice (some ⟨O, off, none⟩) m m) (hy : a.eval y = .slice (some ⟨B, 0, none⟩) 16 16) (hO : w.heap[O]? = some (.cells (bA n f) t)) (hB : w.heap[B]? = some (.cells (bA 16 e) u)) (hc : Nat.min 16 m = c) (hm : off + m ≤ n) :
    (execOp a.eval o).run Tryz.prog w = .ok (.value (.int .i64 (c : Int))) (w.setRow O (bA n (spl f off c e))) := by
  have hc1 : c ≤ 16 := by rw [← hc]; exact Nat.min_le_left _ _
  have hc2 : c ≤ m := by rw [← hc]; exact Nat.min_le_right _ _
  have h := execCopyB (cs := bytesL c e) ho hx hy hO (by rw [bytesL_len, hc]) ?_ (by rw [bytesL_len, bA_size]; omega) (bytesL_one c e)
  · rw [bytesL_len, bA_splice n off c f e (by omega)] at h
    exact h
  · intro j v hj
    have hjc : j < c := by have := (List.getElem?_eq_some_iff.1 hj).1; rwa [bytesL_len] at this
    rw [bytesL_at c _ hjc] at hj
    rw [Addr.add_mid, Nat.zero_add, ← hj]
    exact cellN hB (by omega)
theorem sliced_on (O off c m : Nat) : sliced (some ⟨O, off, none⟩) c m m 1 = .slice (some ⟨O, if m = c then off else off + c, none⟩) (m - c) (m - c) := by
  unfold sliced
  by_cases h : m = c
  · rw [if_pos h, if_pos h]
  · rw [if_neg h, if_neg h]
    simp [Addr.add_mid]

set_option maxRecDepth 20000 in
set_option maxHeartbeats 2000000 in
theorem pstream_any (key : Nat → Nat) (s0 n : Nat) (V : World) (hk : By key) (hn : n ≤ 140737488351232) :
    Calls Tryz.prog 62 #[.agg (bA 16 key), .agg (bA 16 (be s0)), .int .i64 (n : Int)] V fun e w' => ∃ O, e = .returned (.slice (some ⟨O, 0, none⟩) n n) ∧ V.heap.size ≤ O ∧ w'.heap[O]? = some (.cells (bA n (maskF (kw key) s0 fun _ => 0)) 5) ∧ Below V.heap.size V w' := by
  have HK : Hid (By key) := hk
  have HN : Hid (n ≤ 140737488351232) := hn
  have HW : Hid (∀ j, j < 176 → kw key j < 256) := fun j _ => kw_lt hk j
  clear hk
  have z := zero29
  have nn : (n : Int) ≤ 140737488351232 := by omega
  go_enter Tryz.func62, Tryz.ntmps62
  have kt : S0T V.heap.size key s0 V ((V.alloc (.cells (bA 16 key) 35)).alloc (.cells (bA 16 (be s0)) 35)) := by
    have h := heap2c V (.cells (bA 16 key) 35) (.cells (bA 16 (be s0)) 35)
    exact ⟨h.1, h.2, below2c _ _ _⟩
  obtain ⟨T, lT, TS⟩ : ∃ T, V.heap.size + 1 < T ∧ Calls Tryz.prog 73 #[] ((V.alloc (.cells (bA 16 key) 35)).alloc (.cells (bA 16 (be s0)) 35)) fun e w' => e = .returned (.func (.func 87) #[] #[.pointer (some ⟨T, 0, none⟩)]) ∧ w'.heap[T]? = some (.cells (bA 256 gsub) 112) ∧ Below ((V.alloc (.cells (bA 16 key) 35)).alloc (.cells (bA 16 (be s0)) 35)).heap.size ((V.alloc (.cells (bA 16 key) 35)).alloc (.cells (bA 16 (be s0)) 35)) w' :=
    ⟨_, by simp, tableOfSub_any _⟩
  have LT : Hid (V.heap.size + 1 < T) := lT
  clear hn lT
  go_wp2_with (first
    | (go_at_call 73; refine TS.mono ?_; rintro e w1 ⟨rfl, gT, hb1⟩; have kt := kt.on hb1)
    | (refine atLoad 35 (.tmp 3) rfl ?_; go_must (refine wpList_load_row rfl 35 (.tmp 3) rfl V.heap.size rfl 35 _ (0, 0) _ kt.k Tryz.underlying35 rfl (size16 _) ?_; simp only [Act.put, List.setIfInBounds_toArray, List.set_cons_succ, List.set_cons_zero]))
    | (go_at_call 74; refine (scheduled_any 87 #[.pointer (some ⟨T, 0, none⟩)] key _ (fn_table T _ gT) HK.out).mono ?_; rintro e w2 ⟨rfl, hb2⟩)
    | (refine atStore 104 (.tmp 8) (.tmp 15) rfl ?_; go_must (refine wpList_store_row rfl 104 (.tmp 8) (.tmp 15) rfl w2.heap.size _ rfl rfl 104 _ (heapNew w2 _) (size29 _) (by rw [bA_size, bA_size]) (bA_one _ _) ?_))
    | (refine wpList_ex rfl (execMkN (n := n) rfl rfl rfl (by have := HN.out; omega)) ?_))
  have k2 := kt.on hb2
  have l2 : T < w2.heap.size := Nat.lt_of_lt_of_le (Array.getElem?_eq_some_iff.1 gT).1 hb2.size
  have g2 : w2.heap[T]? = some (.cells (bA 256 gsub) 112) := by rw [hb2.block _ (Array.getElem?_eq_some_iff.1 gT).1]; exact gT
  obtain ⟨A, hA⟩ : ∃ A, A = V.heap.size := ⟨_, rfl⟩
  obtain ⟨S, hS⟩ : ∃ S, S = w2.heap.size := ⟨_, rfl⟩
  obtain ⟨W0, hW⟩ : ∃ W0, W0 = (((w2.alloc (.cells (bA 176 fun _ => 0) 104)).setRow w2.heap.size (bA 176 (kw key))).alloc (.cells (bA n fun _ => 0) 5)) := ⟨_, rfl⟩
  have KT : Hid (SmR A T S (S + 1) n 0 0 (kw key) s0 V W0) := by
    have e1 : ((w2.alloc (.cells (bA 176 fun _ => 0) 104)).setRow w2.heap.size (bA 176 (kw key))).heap.size = S + 1 := by simp [hS]
    have lA : A + 1 < T := by rw [hA]; exact LT.out
    have p : ∀ j, j < S → W0.heap[j]? = w2.heap[j]? := by
      intro j hj
      rw [hW]
      rw [((belNew ((w2.alloc (.cells (bA 176 fun _ => 0) 104)).setRow w2.heap.size (bA 176 (kw key))) (.cells (bA n fun _ => 0) 5)).block j (by omega)), setRow_other _ _ _ _ (by omega), (belNew w2 _).block j (by omega)]
    refine ⟨?_, ?_, ?_, ?_, lA, by omega, by omega, ?_⟩
    · rw [p _ (by omega), hA]; exact k2.s
    · rw [p _ (by omega)]; exact g2
    · rw [hW, (belNew _ _).block S (by omega), hS]; exact setRow_heap _ _ _ _ _ _ (heapNew w2 _)
    · rw [hW, ← e1]; exact heapNew _ _
    · rw [hW, hA]
      have b1 : Below V.heap.size V ((w2.alloc (.cells (bA 176 fun _ => 0) 104)).setRow w2.heap.size (bA 176 (kw key))) := below4 (k2.bel.trans ((belNew w2 _).mono (by omega))) (by omega) _
      exact b1.trans ((belNew _ _).mono b1.size)
  rw [← hW, ← hS, ← hA]
  have VA : Hid (V.heap.size = A) := hA.symm
  clear hW hS hA k2 l2 g2 hb2 hb1 kt gT TS z LT
  obtain ⟨O, hO⟩ : ∃ O, O = S + 1 := ⟨_, rfl⟩
  rw [← hO] at KT ⊢
  clear hO
  go_loopw [10] (fun x W => ∃ k off m o', off + m = n ∧ (0 < m → off = 16 * k ∧ o' = off) ∧ x = .slice (some ⟨O, o', none⟩) m m ∧ SmR A T S O n k off (kw key) s0 V W) (fun x _ => lenV x)
  case atStart => exact ⟨0, 0, n, 0, by omega, fun _ => ⟨rfl, rfl⟩, rfl, KT.out⟩
  case round =>
    obtain ⟨k, off, m, o', hm, ho, rfl, kt⟩ := hrel
    clear KT
    by_cases h0 : 0 < m
    · obtain ⟨ok, oo⟩ := ho h0
      subst oo
      have i1 : (m : Int) > 0 := by omega
      have HM : Hid (o' + m = n ∧ o' = 16 * k ∧ 0 < m ∧ n ≤ 140737488351232) := ⟨hm, ok, h0, HN.out⟩
      obtain ⟨c, hc⟩ : ∃ c, Nat.min 16 m = c := ⟨_, rfl⟩
      have hc2 : min 16 m = c := hc
      have HC : Hid (Nat.min 16 m = c ∧ c ≤ 16 ∧ c ≤ m ∧ 0 < c) := ⟨hc, by omega, by omega, by omega⟩
      obtain ⟨o2, ho2⟩ : ∃ o2, (if m = c then o' else o' + c) = o2 := ⟨_, rfl⟩
      obtain ⟨m2, hm2⟩ : ∃ m2, m - c = m2 := ⟨_, rfl⟩
      have HO : Hid ((if m = c then o' else o' + c) = o2 ∧ m - c = m2) := ⟨ho2, hm2⟩
      have z := zero16
      clear hm ok h0 hc hc2 ho ho2 hm2
      have EN := fun W (h : Below wr.heap.size wr W) => encrypted_any 87 #[.pointer (some ⟨T, 0, none⟩)] (kw key) (be (s0 + k)) W (fn_table T W (kt.on h).tb) HW.out (be_by _)
      go_wp2_with (first
        | (refine atLoad 104 (.tmp 8) rfl ?_; go_must (refine wpList_load_row rfl 104 (.tmp 8) rfl S rfl 104 _ (0, 0) _ kt.ss Tryz.underlying104 rfl (size29 _) ?_; simp only [Act.put, List.setIfInBounds_toArray, List.set_cons_succ, List.set_cons_zero]))
        | (refine atLoad 35 (.tmp 4) rfl ?_; go_must (refine wpList_load_row rfl 35 (.tmp 4) rfl (A + 1) rfl 35 _ (0, 0) _ kt.st Tryz.underlying35 rfl (size16 _) ?_; simp only [Act.put, List.setIfInBounds_toArray, List.set_cons_succ, List.set_cons_zero]))
        | (go_at_call 76; refine (EN _ (Below.refl _ _)).mono ?_; rintro e w3 ⟨rfl, hb3⟩; have kt := kt.on hb3)
        | (refine atStore 35 (.tmp 11) (.tmp 27) rfl ?_; go_must (refine wpList_store_row rfl 35 (.tmp 11) (.tmp 27) rfl w3.heap.size _ rfl rfl 35 _ (heapNew w3 _) (size16 _) rfl (bA_one _ _) ?_; have gB : ((w3.alloc (.cells (bA 16 fun _ => 0) 35)).setRow w3.heap.size (bA 16 (enc (kw key) (be (s0 + k))))).heap[w3.heap.size]? = some (.cells (bA 16 (enc (kw key) (be (s0 + k)))) 35) := setRow_heap _ _ _ _ _ _ (heapNew w3 _); have kt := (kt.on (belNew w3 (.cells (bA 16 fun _ => 0) 35))).row kt.lt (bA 16 (enc (kw key) (be (s0 + k))))))
        | (refine wpList_ex rfl (execSlice rfl rfl (sliceArr16 w3.heap.size _)) ?_)
        | (refine wpList_ex rfl (execCopyS (c := c) rfl rfl rfl kt.oo gB HC.out.1 (by have := HM.out; omega)) ?_; have kt := kt.copy (c := c) HM.out.2.1 HC.out.2.1)
        | (refine wpList_ex rfl (execSlL rfl rfl rfl (By8.slice_l _ m m c HC.out.2.2.1 _)) ?_; rw [sliced_on, HO.out.1, HO.out.2])
        | (go_at_call 75; refine (following_any (s0 + k) _).mono ?_; rintro e w4 ⟨rfl, hb4⟩; have kt := kt.on hb4)
        | (refine atStore 35 (.tmp 4) (.tmp 23) rfl ?_; go_must (refine wpList_store_row rfl 35 (.tmp 4) (.tmp 23) rfl (A + 1) _ rfl rfl 35 _ kt.st (size16 _) rfl (bA_one _ _) ?_; have kt := kt.next)))
      go_roundw
      case rel =>
        have a := HM.out
        have b := HC.out
        have d : min 16 m = c := b.1
        have f := HO.out
        refine ⟨_, _, _, _, _, _, _, _, _, _, _, _, _, _, _, _, ⟨k + 1, o' + c, m2, o2, by omega, fun h => ⟨by omega, ?_⟩, rfl, kt⟩, rfl⟩
        rw [← f.1, if_neg (by omega)]
      case measure =>
        have b := HC.out
        have f := HO.out
        show m2 < m
        omega
    · have em : m = 0 := by omega
      subst em
      have eo : off = n := by omega
      subst eo
      have G : Hid (wr.heap[O]? = some (.cells (bA off (maskF (kw key) s0 fun _ => 0)) 5)) := by
        have h := kt.oo
        rw [bA_congr (g := maskF (kw key) s0 fun _ => 0) (fun j hj => by unfold uptoC; rw [if_pos hj])] at h
        exact h
      go_wp2
      go_ret
      refine ⟨O, rfl, ?_, G.out, by rw [VA.out]; exact kt.bel⟩
      have := kt.l1
      have := kt.l2
      have := kt.l3
      rw [VA.out]
      omega
end Go.Proofs.YteekoabgbjbabaaGreatDoor.Aes
