import Derived.Test.YtaiiomoajjhliaaDoorW6
import Derived.Test.YtaiiomoajjhliaaDoorI1
namespace Go.Proofs.YtaiiomoajjhliaaDoor.Aes
open Go.RowKit Gf8
/- The program's block: encrypted, Encrypt, Decrypt. -/

/-- The rows of encrypted: the Schedule, the block, the answer's place. -/
structure EnT (A : Nat) (w st : Nat → Nat) (V W : World) : Prop where
  ww : W.heap[A]? = some (.cells (bA 176 w) 92)
  bb : W.heap[A + 1]? = some (.cells (bA 16 st) 33)
  rr : W.heap[A + 2]? = some (.cells (bA 16 fun _ => 0) 33)
  bel : Below A V W
theorem EnT.lt {A : Nat} {w st : Nat → Nat} {V W : World} (h : EnT A w st V W) : A + 2 < W.heap.size := (Array.getElem?_eq_some_iff.1 h.rr).1
theorem EnT.on {A : Nat} {w st : Nat → Nat} {V W W' : World} (h : EnT A w st V W) (hb : Below W.heap.size W W') : EnT A w st V W' := by
  have l := h.lt
  exact ⟨by rw [hb.block _ (by omega)]; exact h.ww, by rw [hb.block _ (by omega)]; exact h.bb, by rw [hb.block _ (by omega)]; exact h.rr, h.bel.trans (hb.mono (by omega))⟩
theorem EnT.setB {A : Nat} {w st : Nat → Nat} {V W : World} (h : EnT A w st V W) (g : Nat → Nat) : EnT A w g V (W.setRow (A + 1) (bA 16 g)) := by
  refine ⟨?_, setRow_heap _ _ _ _ _ _ h.bb, ?_, below4 h.bel (by omega) _⟩
  · rw [setRow_other _ _ _ _ (by omega)]; exact h.ww
  · rw [setRow_other _ _ _ _ (by omega)]; exact h.rr
theorem EnT.drew {A : Nat} {w st : Nat → Nat} {V W : World} (h : EnT A w st V W) : EnT A w st V W.drew := ⟨h.ww, h.bb, h.rr, h.bel.drew⟩
theorem sub_turn (st : Nat → Nat) : turnB 1 (fun j => gsub (st j)) = subS st := rfl
theorem key_by {w : Nat → Nat} (hw : ∀ i, i < 176 → w i < 256) {i : Nat} (hi : i < 11) : By fun j => w (16 * i + j) := fun j hj => hw _ (by omega)
/-- What each operation of 'b = sum(b, s.keys[i])' yields. -/
def skV (A i : Nat) (w st : Nat → Nat) (j : Nat) : Value :=
  match j with
  | 0 => .agg (bA 16 st) | 1 => .int .i64 i | 2 => .pointer (some ⟨A, 0, none⟩) | 3 => .pointer (some ⟨A, 16 * i, none⟩) | 4 => .agg (bA 16 fun j => w (16 * i + j)) | 5 => .agg (bA 16 (addR w st i)) | _ => undef
set_option maxRecDepth 20000 in
set_option maxHeartbeats 2000000 in
theorem encrypted_any (g : Nat) (lb : Array Value) (w b : Nat → Nat) (V : World) (hF : FnB g lb gsub V) (hw : ∀ i, i < 176 → w i < 256) (hb : By b) :
    Calls Tryd.prog 64 #[.agg (bA 176 w), .agg (bA 16 b), .func (.func g) #[] lb] V fun e w' => e = .returned (.agg (bA 16 (enc w b))) ∧ Below V.heap.size V w' := by
  have HB : Hid (By b) := hb
  have HF : Hid (FnB g lb gsub V) := hF
  have HW : Hid (∀ i, i < 176 → w i < 256) := hw
  have HE : Hid (∀ n, n ≤ 10 → By (encN w b n)) := fun n hn => encN_by hw hb n hn
  clear hb hw hF
  have z := zero16
  go_enter Tryd.func64, Tryd.ntmps64
  have kt : EnT V.heap.size w b V (((V.alloc (.cells (bA 176 w) 92)).alloc (.cells (bA 16 b) 33)).alloc (.cells (bA 16 fun _ => 0) 33)) := by
    have h := heap3c V (.cells (bA 176 w) 92) (.cells (bA 16 b) 33) (.cells (bA 16 fun _ => 0) 33)
    exact ⟨h.1, h.2.1, h.2.2, below3c _ _ _ _⟩
  go_wp2_with (first
    | (refine atLoad 33 (.tmp 4) rfl ?_; go_must (refine wpList_load_row rfl 33 (.tmp 4) rfl (V.heap.size + 1) rfl 33 _ (0, 0) _ kt.bb Tryd.underlying33 rfl (size16 _) ?_; simp only [Act.put, List.setIfInBounds_toArray, List.set_cons_succ, List.set_cons_zero]))
    | (refine wpList_ex rfl (execFldS rfl rfl) ?_)
    | (refine wpList_ex rfl (execIdxK (k := 0) rfl rfl rfl (by omega)) ?_)
    | (refine atLoad 33 (.tmp 10) rfl ?_; go_must (refine wpList_ex rfl (execLdKey (i := 0) rfl rfl kt.ww (by omega)) ?_))
    | (go_at_call 72; refine (sum_any b (fun j => w (16 * 0 + j)) _ HB.out (key_by HW.out (by omega))).mono ?_; rintro e w1 ⟨rfl, hb1⟩; rw [addR_xorB]; have kt := kt.on hb1)
    | (refine atStore 33 (.tmp 4) (.tmp 12) rfl ?_; go_must (refine wpList_store_row rfl 33 (.tmp 4) (.tmp 12) rfl (V.heap.size + 1) _ rfl rfl 33 _ kt.bb (size16 _) rfl (bA_one _ _) ?_; have kt := kt.setB (addR w b 0))))
  have KT : Hid (_) := kt
  clear kt
  obtain ⟨A, hA⟩ : ∃ A, A = V.heap.size := ⟨_, rfl⟩
  rw [← hA] at KT ⊢
  have VA : Hid (V.heap.size = A) := hA.symm
  clear hA z
  rw [show A + 1 + 1 = A + 2 from rfl]
  go_loopw [7] (fun x W => ∃ n : Nat, n ≤ 10 ∧ x = .int .i64 ((n + 1 : Nat) : Int) ∧ EnT A w (encN w b n) V W) (fun x _ => 11 - (intOf x).toNat)
  case atStart => exact ⟨0, by omega, rfl, KT.out⟩
  case round =>
    obtain ⟨n, hn, rfl, kt⟩ := hrel
    clear KT
    obtain ⟨i, hi⟩ : ∃ i, n + 1 = i := ⟨_, rfl⟩
    rw [hi]
    by_cases hlt : n < 10
    · have i1 : (i : Int) ≤ 10 := by omega
      have HN : Hid (n + 1 = i ∧ n < 10) := ⟨hi, hlt⟩
      clear hi hlt hn
      obtain ⟨st, hst⟩ : ∃ st, encN w b n = st := ⟨_, rfl⟩
      rw [hst] at kt
      have hS : Hid (By st) := by have := HE.out n (by have := HN.out; omega); rw [hst] at this; exact this
      have HST : Hid (encN w b n = st) := hst
      clear hst
      have HSS : Hid (By fun j => gsub (st j)) := fun j hj => gsub_lt (hS.out j hj)
      obtain ⟨s2, hs2⟩ : ∃ s2, s2 = (if n + 1 < 10 then mixB fwd (subS st) else subS st) := ⟨_, rfl⟩
      have H2 : Hid (By s2) := by
        show By s2
        rw [hs2]
        split
        · exact mixF_by _
        · exact subS_by hS.out
      have HF2 : Hid (addR w s2 i = encN w b (n + 1)) := by
        show addR w s2 i = addR w (if n + 1 < 10 then mixB fwd (subS (encN w b n)) else subS (encN w b n)) (n + 1)
        rw [HST.out, hs2, HN.out.1]
      by_cases h9 : n + 1 < 10
      · have i9 : (i : Int) < 10 := by have := HN.out; omega
        rw [if_pos h9] at hs2
        have HS2 : Hid (s2 = mixB fwd (subS st)) := hs2
        clear hs2
        go_wp2_with (first
          | (refine atLoad 33 (.tmp 4) rfl ?_; go_must (refine wpList_load_row rfl 33 (.tmp 4) rfl (A + 1) rfl 33 _ (0, 0) _ kt.bb Tryd.underlying33 rfl (size16 _) ?_; simp only [Act.put, List.setIfInBounds_toArray, List.set_cons_succ, List.set_cons_zero]))
          | (go_at_call 74; refine (substituted_any g lb gsub st _ (HF.out.on (by rw [VA.out]; exact kt.bel)) hS.out).mono ?_; rintro e w1 ⟨rfl, hb1⟩; have kt := kt.on hb1)
          | (go_at_call 73; refine (turned_any 1 (fun j => gsub (st j)) _ (by omega) HSS.out).mono ?_; rintro e w2 ⟨rfl, hb2⟩; rw [sub_turn]; have kt := kt.on hb2)
          | (refine atStore 33 (.tmp 4) (.tmp 20) rfl ?_; go_must (refine wpList_store_row rfl 33 (.tmp 4) (.tmp 20) rfl (A + 1) _ rfl rfl 33 _ kt.bb (size16 _) rfl (bA_one _ _) ?_; have kt := kt.setB (subS st)))
          | (go_at_call 75; refine (pmixed_any 76 fwd (subS st) _ (fn_column _) (subS_by hS.out)).mono ?_; rintro e w3 ⟨rfl, hb3⟩; rw [← HS2.out]; have kt := kt.on hb3)
          | (refine atStore 33 (.tmp 4) (.tmp 24) rfl ?_; go_must (refine wpList_store_row rfl 33 (.tmp 4) (.tmp 24) rfl (A + 1) _ rfl rfl 33 _ kt.bb (size16 _) rfl (bA_one _ _) ?_; have kt := kt.setB s2)))
        have KT : Hid (_) := kt
        clear kt hb1 hb2 hb3
        refine wp_region_det 32 [(0, 25), (1, 26), (2, 27), (3, 28), (4, 29), (5, 30)] (skV A i w s2) (fun l W => EnT A w (if l 6 = true then addR w s2 i else s2) V W) (by kernel_rfl) (by kernel_rfl) rfl (by kernel_rfl) (by decide) (by decide) ?_ ?_ ?_
        · exact KT.out.drew
        · intro j hj l a W hl hf hdep hl2 hcl _ hT
          have li : i < 11 := by have := HN.out; omega
          match j, hj with
          | 0, _ =>
            have n6 : l 6 = false := by
              cases h : l 6 with
              | false => rfl
              | true =>
                have := hcl 5 _ rfl (hcl 6 _ rfl h 5 rfl) 0 rfl
                rw [hl] at this
                cases this
            have ge := hT.bb
            rw [n6, if_neg (by decide)] at ge
            exact stepV rfl rfl (execLoadRow rfl (hf 4 (by decide)) ge Tryd.underlying33 rfl (size16 _)) ⟨⟨_, rfl, rfl⟩, hT⟩
          | 1, _ => exact stepV rfl rfl (execMvB rfl (hf 7 (by decide))) ⟨⟨_, rfl, rfl⟩, hT⟩
          | 2, _ => exact stepV rfl rfl (execFldS rfl (hf 3 (by decide))) ⟨⟨_, rfl, rfl⟩, hT⟩
          | 3, _ => exact stepV rfl rfl (execIdxK rfl (hdep _ rfl 2 rfl _ rfl _ rfl) (hdep _ rfl 1 rfl _ rfl _ rfl) li) ⟨⟨_, rfl, rfl⟩, hT⟩
          | 4, _ => exact stepV rfl rfl (execLdKey rfl (hdep _ rfl 3 rfl _ rfl _ rfl) hT.ww li) ⟨⟨_, rfl, rfl⟩, hT⟩
          | 5, _ => exact stepC rfl rfl (execCall2 Tryd.func72 (by kernel_rfl) (by kernel_rfl) rfl (hdep _ rfl 0 rfl _ rfl _ rfl) (hdep _ rfl 4 rfl _ rfl _ rfl)) (sum_any s2 (fun j => w (16 * i + j)) W H2.out (key_by HW.out li)) fun e w' h => ⟨_, h.1, ⟨_, rfl, rfl⟩, hT.on h.2⟩
          | 6, _ =>
            rw [hl] at hT
            exact stepS rfl rfl (execSt16 rfl (hf 4 (by decide)) (hdep _ rfl 5 rfl _ rfl _ rfl) hT.bb) ⟨⟨_, rfl, rfl⟩, hT.setB (addR w s2 i)⟩
          | n + 7, h => exact absurd h (by simp)
        · intro l W hall hT
          simp only [hall 6 (by simp), if_true] at hT
          have KT2 : Hid (_) := hT
          clear hall hT KT
          simp only [putP, skV, Act.put, List.setIfInBounds_toArray, List.set_cons_succ, List.set_cons_zero]
          go_wp2
          go_roundw
          case rel => exact ⟨n + 1, by have := HN.out; omega, by have := HN.out.1; go_num, by rw [← HF2.out]; exact KT2.out⟩
          case measure => have := HN.out; simp [intOf]; omega
      · have i9 : ¬ (i : Int) < 10 := by have := HN.out; omega
        rw [if_neg h9] at hs2
        have HS2 : Hid (s2 = subS st) := hs2
        clear hs2
        go_wp2_with (first
          | (refine atLoad 33 (.tmp 4) rfl ?_; go_must (refine wpList_load_row rfl 33 (.tmp 4) rfl (A + 1) rfl 33 _ (0, 0) _ kt.bb Tryd.underlying33 rfl (size16 _) ?_; simp only [Act.put, List.setIfInBounds_toArray, List.set_cons_succ, List.set_cons_zero]))
          | (go_at_call 74; refine (substituted_any g lb gsub st _ (HF.out.on (by rw [VA.out]; exact kt.bel)) hS.out).mono ?_; rintro e w1 ⟨rfl, hb1⟩; have kt := kt.on hb1)
          | (go_at_call 73; refine (turned_any 1 (fun j => gsub (st j)) _ (by omega) HSS.out).mono ?_; rintro e w2 ⟨rfl, hb2⟩; rw [sub_turn, ← HS2.out]; have kt := kt.on hb2)
          | (refine atStore 33 (.tmp 4) (.tmp 20) rfl ?_; go_must (refine wpList_store_row rfl 33 (.tmp 4) (.tmp 20) rfl (A + 1) _ rfl rfl 33 _ kt.bb (size16 _) rfl (bA_one _ _) ?_; have kt := kt.setB s2)))
        have KT : Hid (_) := kt
        clear kt hb1 hb2
        refine wp_region_det 32 [(0, 25), (1, 26), (2, 27), (3, 28), (4, 29), (5, 30)] (skV A i w s2) (fun l W => EnT A w (if l 6 = true then addR w s2 i else s2) V W) (by kernel_rfl) (by kernel_rfl) rfl (by kernel_rfl) (by decide) (by decide) ?_ ?_ ?_
        · exact KT.out.drew
        · intro j hj l a W hl hf hdep hl2 hcl _ hT
          have li : i < 11 := by have := HN.out; omega
          match j, hj with
          | 0, _ =>
            have n6 : l 6 = false := by
              cases h : l 6 with
              | false => rfl
              | true =>
                have := hcl 5 _ rfl (hcl 6 _ rfl h 5 rfl) 0 rfl
                rw [hl] at this
                cases this
            have ge := hT.bb
            rw [n6, if_neg (by decide)] at ge
            exact stepV rfl rfl (execLoadRow rfl (hf 4 (by decide)) ge Tryd.underlying33 rfl (size16 _)) ⟨⟨_, rfl, rfl⟩, hT⟩
          | 1, _ => exact stepV rfl rfl (execMvB rfl (hf 7 (by decide))) ⟨⟨_, rfl, rfl⟩, hT⟩
          | 2, _ => exact stepV rfl rfl (execFldS rfl (hf 3 (by decide))) ⟨⟨_, rfl, rfl⟩, hT⟩
          | 3, _ => exact stepV rfl rfl (execIdxK rfl (hdep _ rfl 2 rfl _ rfl _ rfl) (hdep _ rfl 1 rfl _ rfl _ rfl) li) ⟨⟨_, rfl, rfl⟩, hT⟩
          | 4, _ => exact stepV rfl rfl (execLdKey rfl (hdep _ rfl 3 rfl _ rfl _ rfl) hT.ww li) ⟨⟨_, rfl, rfl⟩, hT⟩
          | 5, _ => exact stepC rfl rfl (execCall2 Tryd.func72 (by kernel_rfl) (by kernel_rfl) rfl (hdep _ rfl 0 rfl _ rfl _ rfl) (hdep _ rfl 4 rfl _ rfl _ rfl)) (sum_any s2 (fun j => w (16 * i + j)) W H2.out (key_by HW.out li)) fun e w' h => ⟨_, h.1, ⟨_, rfl, rfl⟩, hT.on h.2⟩
          | 6, _ =>
            rw [hl] at hT
            exact stepS rfl rfl (execSt16 rfl (hf 4 (by decide)) (hdep _ rfl 5 rfl _ rfl _ rfl) hT.bb) ⟨⟨_, rfl, rfl⟩, hT.setB (addR w s2 i)⟩
          | n + 7, h => exact absurd h (by simp)
        · intro l W hall hT
          simp only [hall 6 (by simp), if_true] at hT
          have KT2 : Hid (_) := hT
          clear hall hT KT
          simp only [putP, skV, Act.put, List.setIfInBounds_toArray, List.set_cons_succ, List.set_cons_zero]
          go_wp2
          go_roundw
          case rel => exact ⟨n + 1, by have := HN.out; omega, by have := HN.out.1; go_num, by rw [← HF2.out]; exact KT2.out⟩
          case measure => have := HN.out; simp [intOf]; omega
    · have en : n = 10 := by omega
      subst en
      have i1 : ¬ (i : Int) ≤ 10 := by omega
      go_wp2_with (first
        | (refine atLoad 33 (.tmp 4) rfl ?_; go_must (refine wpList_load_row rfl 33 (.tmp 4) rfl (A + 1) rfl 33 _ (0, 0) _ kt.bb Tryd.underlying33 rfl (size16 _) ?_; simp only [Act.put, List.setIfInBounds_toArray, List.set_cons_succ, List.set_cons_zero]))
        | (refine atStore 33 (.tmp 6) (.tmp 31) rfl ?_; go_must (refine wpList_store_row rfl 33 (.tmp 6) (.tmp 31) rfl (A + 2) _ rfl rfl 33 _ kt.rr (size16 _) rfl (bA_one _ _) ?_)))
      refine bodyPost_ret (v := .agg (bA 16 (enc w b))) (results_cell_row Tryd.results64 _ _ (A + 2) 33 _ (0, 0) _ rfl (setRow_heap _ _ _ _ _ _ kt.rr) Tryd.underlying33 rfl (size16 _)) rfl ⟨rfl, ?_⟩
      rw [VA.out]
      exact below4 kt.bel (by omega) _

end Go.Proofs.YtaiiomoajjhliaaDoor.Aes

namespace Go.Proofs.YtaiiomoajjhliaaDoor.Aes
open Go.RowKit Gf8
/- The program's block: following; the table of Sub. -/

set_option maxRecDepth 20000 in
set_option maxHeartbeats 400000 in
theorem following_any (n : Nat) (V : World) :
    Calls Tryd.prog 63 #[.agg (bA 16 (be n))] V fun e w' => e = .returned (.agg (bA 16 (be (n + 1)))) ∧ Below V.heap.size V w' := by
  have z := zero16
  go_enter Tryd.func63, Tryd.ntmps63
  go_wp2_with fail
  clear z
  have hs : ∀ (v : World) (o : Obj), (v.alloc o).heap = v.heap.push o := fun _ _ => rfl
  have T0 : Hid (((V.alloc (.cells (bA 16 (be n)) 33)).alloc (.cells (bA 16 fun _ => 0) 33)).heap[V.heap.size]? = some (.cells (bA 16 (nxF n 0)) 33) ∧ ((V.alloc (.cells (bA 16 (be n)) 33)).alloc (.cells (bA 16 fun _ => 0) 33)).heap[V.heap.size + 1]? = some (.cells (bA 16 fun _ => 0) 33)) := by
    refine ⟨?_, ?_⟩
    · simp only [hs, Array.getElem?_push, Array.size_push]; rw [if_neg (by omega), if_pos trivial, bA_congr (f := nxF n 0) (g := be n) (fun j hj => by unfold nxF; rw [if_neg (by omega)])]
    · simp only [hs, Array.getElem?_push, Array.size_push]; rw [if_pos trivial]
  clear hs
  go_loopw [3] (fun x W => ∃ m : Nat, m ≤ 16 ∧ x = .int .i64 (15 - (m : Int)) ∧ 256 ^ m ∣ n + 1 ∧ W.heap[V.heap.size]? = some (.cells (bA 16 (nxF n m)) 33) ∧ W.heap[V.heap.size + 1]? = some (.cells (bA 16 fun _ => 0) 33) ∧ Below V.heap.size V W) (fun x _ => (intOf x + 1).toNat)
  case atStart => exact ⟨0, by omega, rfl, by simp, T0.out.1, T0.out.2, ((Below.refl _ _).alloc (Nat.le_refl _) _).alloc (by simp) _⟩
  case round =>
    obtain ⟨m, hm, rfl, hd, g1, g2, bel⟩ := hrel
    have G1 : Hid (_) := g1
    have G2 : Hid (_) := g2
    have HD : Hid (256 ^ m ∣ n + 1) := hd
    have BL : Hid (Below V.heap.size V wr) := bel
    clear g1 g2 bel T0 hd
    by_cases hlt : m < 16
    · obtain ⟨i, hi⟩ : ∃ i, 15 - m = i := ⟨_, rfl⟩
      have e0 : 15 - (m : Int) = (i : Int) := by omega
      have i1 : (i : Int) ≥ 0 := by omega
      have i2 : (i : Int) < 16 := by omega
      have hi16 : i < 16 := by omega
      obtain ⟨y, hy⟩ : ∃ y, be n i = y := ⟨_, rfl⟩
      obtain ⟨x, hx⟩ : ∃ x, be (n + 1) i = x := ⟨_, rfl⟩
      have x1 : x < 256 := by rw [← hx]; exact be_by _ i hi16
      have exy : ((y : Int) + 1) % 256 = (x : Int) := by
        have := be_next n i
        rw [if_pos (by rw [show 15 - i = m by omega]; exact HD.out), hy, hx] at this
        omega
      have c1 : wr.cell? ⟨V.heap.size, i, none⟩ = some (.int .u8 y) := by
        rw [cellN G1.out hi16]
        unfold nxF
        rw [if_neg (by omega), hy]
      have c2 : wr.frozen? ⟨V.heap.size, i, none⟩ = false := frozen4 G1.out
      have R1 : Hid ((wr.setCell ⟨V.heap.size, i, none⟩ (.int .u8 x)).heap[V.heap.size]? = some (.cells (bA 16 (nxF n (m + 1))) 33)) := by
        show (wr.setCell ⟨V.heap.size, i, none⟩ (.int .u8 x)).heap[V.heap.size]? = _
        rw [heap4 _ G1.out, bA_set, ← hx, ← hi, nxF_step n hlt]
      have R2 : Hid ((wr.setCell ⟨V.heap.size, i, none⟩ (.int .u8 x)).heap[V.heap.size + 1]? = some (.cells (bA 16 fun _ => 0) 33)) := by
        show (wr.setCell ⟨V.heap.size, i, none⟩ (.int .u8 x)).heap[V.heap.size + 1]? = _
        rw [heap4o _ G1.out (by omega)]; exact G2.out
      have R3 : Hid (Below V.heap.size V (wr.setCell ⟨V.heap.size, i, none⟩ (.int .u8 x))) := BL.out.setCell (Nat.le_refl _) _
      have c3 : (wr.setCell ⟨V.heap.size, i, none⟩ (.int .u8 x)).cell? ⟨V.heap.size, i, none⟩ = some (.int .u8 x) := by
        rw [cellN R1.out hi16]
        unfold nxF
        rw [if_pos (by omega), hx]
      have CM : Hid (256 ^ (m + 1) ∣ n + 1 ↔ x = 0) := by
        show 256 ^ (m + 1) ∣ n + 1 ↔ x = 0
        rw [carry_more n m HD.out, ← hx]
        unfold be
        rw [show 15 - i = m by omega]
      rw [e0]
      clear hi hy hx hm
      by_cases h0 : x = 0
      · have z0 : ((x : Int) != 0) = false := by simp [h0]
        have H0 : Hid (x = 0) := h0
        clear h0
        go_wp2
        go_roundw
        case rel => exact ⟨m + 1, by omega, by go_num, CM.out.2 H0.out, R1.out, R2.out, R3.out⟩
        case measure => simp [intOf]
      · have z0 : ((x : Int) != 0) = true := by simp [h0]
        have R4 : Hid ((wr.setCell ⟨V.heap.size, i, none⟩ (.int .u8 x)).heap[V.heap.size]? = some (.cells (bA 16 (be (n + 1))) 33)) := by
          have h := R1.out
          rw [bA_congr (nxF_done (fun e => h0 (CM.out.1 e)))] at h
          exact h
        go_wp2_with (first
          | (refine atLoad 33 (.tmp 1) rfl ?_; go_must (refine wpList_load_row rfl 33 (.tmp 1) rfl V.heap.size rfl 33 _ (0, 0) _ R4.out Tryd.underlying33 rfl (size16 _) ?_; simp only [Act.put, List.setIfInBounds_toArray, List.set_cons_succ, List.set_cons_zero]))
          | (refine atStore 33 (.tmp 2) (.tmp 17) rfl ?_; go_must (refine wpList_store_row rfl 33 (.tmp 2) (.tmp 17) rfl (V.heap.size + 1) _ rfl rfl 33 _ R2.out (size16 _) rfl (bA_one _ _) ?_)))
        refine bodyPost_ret (v := .agg (bA 16 (be (n + 1)))) (results_cell_row Tryd.results63 _ _ (V.heap.size + 1) 33 _ (0, 0) _ rfl (setRow_heap _ _ _ _ _ _ R2.out) Tryd.underlying33 rfl (size16 _)) rfl ⟨rfl, ?_⟩
        exact below4 R3.out (by omega) _
    · have em : m = 16 := by omega
      subst em
      have R4 : Hid (wr.heap[V.heap.size]? = some (.cells (bA 16 (be (n + 1))) 33)) := by
        have h := G1.out
        rw [bA_congr (nxF_all n)] at h
        exact h
      go_wp2_with (first
        | (refine atLoad 33 (.tmp 1) rfl ?_; go_must (refine wpList_load_row rfl 33 (.tmp 1) rfl V.heap.size rfl 33 _ (0, 0) _ R4.out Tryd.underlying33 rfl (size16 _) ?_; simp only [Act.put, List.setIfInBounds_toArray, List.set_cons_succ, List.set_cons_zero]))
        | (refine atStore 33 (.tmp 2) (.tmp 17) rfl ?_; go_must (refine wpList_store_row rfl 33 (.tmp 2) (.tmp 17) rfl (V.heap.size + 1) _ rfl rfl 33 _ G2.out (size16 _) rfl (bA_one _ _) ?_)))
      refine bodyPost_ret (v := .agg (bA 16 (be (n + 1)))) (results_cell_row Tryd.results63 _ _ (V.heap.size + 1) 33 _ (0, 0) _ rfl (setRow_heap _ _ _ _ _ _ G2.out) Tryd.underlying33 rfl (size16 _)) rfl ⟨rfl, ?_⟩
      exact below4 BL.out (by omega) _

/-- What tableOfSub hands out, a table of substitution at T. -/
theorem table_read (T a : Nat) (f : Nat → Nat) (W : World) (ha : a < 256) (hT : W.heap[T]? = some (.cells (bA 256 f) 99)) :
    Calls Tryd.prog 69 #[.int .u8 a, .pointer (some ⟨T, 0, none⟩)] W fun e w' => e = .returned (.int .u8 (f a : Nat)) ∧ Below W.heap.size W w' := by
  have a1 : (a : Int) < 256 := by omega
  have c : W.cell? ⟨T, a, none⟩ = some (.int .u8 (f a)) := cellN hT ha
  clear hT
  go_enter Tryd.func69, Tryd.ntmps69
  go_wp2
  go_ret
  exact ⟨rfl, Below.refl _ _⟩
theorem fn_table (T : Nat) (V : World) (hT : V.heap[T]? = some (.cells (bA 256 gsub) 99)) : FnB 69 #[.pointer (some ⟨T, 0, none⟩)] gsub V :=
  ⟨enters_of Tryd.func69 (by kernel_rfl) rfl, fun a W ha hb => by
    have h := table_read T a gsub W ha (by rw [hb.block _ (Array.getElem?_eq_some_iff.1 hT).1]; exact hT)
    simpa using h, fun _ h => gsub_lt h⟩

set_option maxRecDepth 20000 in
set_option maxHeartbeats 400000 in
theorem tableOfSub_any (V : World) :
    Calls Tryd.prog 61 #[] V fun e w' => e = .returned (.func (.func 69) #[] #[.pointer (some ⟨V.heap.size, 0, none⟩)]) ∧ w'.heap[V.heap.size]? = some (.cells (bA 256 gsub) 99) ∧ Below V.heap.size V w' := by
  have z := zero256
  go_enter Tryd.func61, Tryd.ntmps61
  go_wp2_with fail
  clear z
  have T0 : Hid ((V.alloc (.cells (bA 256 fun _ => 0) 99)).heap[V.heap.size]? = some (.cells (bA 256 (uptoC gsub 0)) 99)) := heapNew V _
  go_loopw [3] (fun x W => ∃ k : Nat, k ≤ 256 ∧ x = .int .i64 k ∧ W.heap[V.heap.size]? = some (.cells (bA 256 (uptoC gsub k)) 99) ∧ Below V.heap.size V W) (fun x _ => 256 - (intOf x).toNat)
  case atStart => exact ⟨0, by omega, rfl, T0.out, belNew V _⟩
  case round =>
    obtain ⟨k, hk, rfl, g1, bel⟩ := hrel
    clear T0
    by_cases hlt : k < 256
    · have i1 : (k : Int) < 256 := by omega
      have HL : Hid (k < 256) := hlt
      have CS := sub_any k wr hlt
      have G1 : Hid (_) := g1
      have BL : Hid (Below V.heap.size V wr) := bel
      clear g1 bel hlt hk
      go_wp2_with (go_at_call 68; refine CS.mono ?_; rintro e w1 ⟨rfl, hb1⟩; have g1 : w1.heap[V.heap.size]? = some (.cells (bA 256 (uptoC gsub k)) 99) := (by rw [hb1.block _ (Array.getElem?_eq_some_iff.1 G1.out).1]; exact G1.out); have n1 : w1.cell? ⟨V.heap.size, k, none⟩ = some (.int .u8 (uptoC gsub k k)) := cellN g1 HL.out; have n2 : w1.frozen? ⟨V.heap.size, k, none⟩ = false := frozen4 g1)
      have R1 : Hid ((w1.setCell ⟨V.heap.size, k, none⟩ (.int .u8 (gsub k : Nat))).heap[V.heap.size]? = some (.cells (bA 256 (uptoC gsub (k + 1))) 99)) := by
        show (w1.setCell ⟨V.heap.size, k, none⟩ (.int .u8 (gsub k : Nat))).heap[V.heap.size]? = _
        rw [heap4 _ g1, bA_set, updN_upto]
      have R2 : Hid (Below V.heap.size V (w1.setCell ⟨V.heap.size, k, none⟩ (.int .u8 (gsub k : Nat)))) := (BL.out.trans (hb1.mono BL.out.size)).setCell (Nat.le_refl _) _
      go_roundw
      case rel => exact ⟨k + 1, by have := HL.out; omega, by go_num, R1.out, R2.out⟩
      case measure => have := HL.out; simp [intOf]; omega
    · have i1 : ¬ (k : Int) < 256 := by omega
      have ek : k = 256 := by omega
      subst ek
      have G : Hid (wr.heap[V.heap.size]? = some (.cells (bA 256 gsub) 99)) := by
        have h := g1
        rw [bA_congr (g := gsub) (fun j hj => by unfold uptoC; rw [if_pos hj])] at h
        exact h
      go_wp2
      go_ret
      exact ⟨rfl, G.out, bel⟩
end Go.Proofs.YtaiiomoajjhliaaDoor.Aes
