import Derived.Test.YtealknodagdjaaaT0
namespace Go.Proofs.Ytealknodagdjaaa.Aes
open Go.RowKit Gf8 By8

theorem mask_twice (w : Nat → Nat) (s0 : Nat) (p : Nat → Nat) : ∀ j, maskF w s0 (maskF w s0 p) j = p j := by
  intro j
  unfold maskF
  rw [Nat.xor_assoc, Nat.xor_self, Nat.xor_zero]
theorem maskF_lt {w : Nat → Nat} (hw : ∀ j, j < 176 → w j < 256) (s0 : Nat) {p : Nat → Nat} {len : Nat} (hp : ∀ j, j < len → p j < 256) : ∀ j, j < len → maskF w s0 p j < 256 := fun j hj => xor_lt (hp j hj) (enc_by hw (be_by _) _ (Nat.mod_lt _ (by omega)))
theorem execStrV {o : Oper} {a : Act} {w : World} {x : Operand} {v : Value} {l : Nat} {p : Nat → Nat} {s : ByteArray} (ho : o.op = .convert 25 9 x) (hx : a.eval x = v) (h : SliceN w v l p) (hs : strN p l = s) : (execOp a.eval o).run Try.prog w = .ok (.value (.string s)) w := by
  rw [← hs]; exact execStr ho hx h
/-- What each operation of BlockBack's last region yields. -/
def bkS (sc : (Nat → Nat) → Array Value) (key : Nat → Nat) (s0 : Nat) (v : Value) (len : Nat) (p : Nat → Nat) (j : Nat) (r : Value) (W : World) : Prop :=
  match j with
  | 0 => r = .agg (sc (kw key)) | 1 => r = .agg (sc (kw key)) | 2 => r = .agg (bA 16 (be s0)) | 3 => r = .agg (bA 16 (enc (kw key) (be s0))) | 4 => r = .agg (bA 16 (dec (kw key) (enc (kw key) (be s0)))) | 5 => r = .agg (bA 16 (be s0)) | 6 => r = .bool true | 7 => r = .bool true
  | 8 => r = .agg (sc (kw key)) | 9 => r = .agg (sc (kw key)) | 10 => r = .agg (bA 16 (be s0)) | 11 => r = .agg (bA 16 (dec (kw key) (be s0))) | 12 => r = .agg (bA 16 (enc (kw key) (dec (kw key) (be s0)))) | 13 => r = .agg (bA 16 (be s0)) | 14 => r = .bool true | 15 => r = .bool true | 16 => r = .bool true
  | 17 => r = .agg (bA 16 key) | 18 => r = .agg (bA 16 (be s0)) | 19 => r = .agg (bA 16 key) | 20 => r = .agg (bA 16 (be s0)) | 21 => r = v | 22 => SliceN W r len (maskF (kw key) s0 p) | 23 => SliceN W r len (maskF (kw key) s0 (maskF (kw key) s0 p))
  | 24 => r = .string (strN p len) | 25 => r = v | 26 => r = .string (strN p len) | 27 => r = .bool true | _ => r = .bool true
theorem bkS_on {sc : (Nat → Nat) → Array Value} {key : Nat → Nat} {s0 : Nat} {v : Value} {len : Nat} {p : Nat → Nat} {j : Nat} {r : Value} {W W' : World} (h : bkS sc key s0 v len p j r W) (hb : Below W.heap.size W W') : bkS sc key s0 v len p j r W' := by
  by_cases h22 : j = 22
  · subst h22; exact SliceN.on h hb
  · by_cases h23 : j = 23
    · subst h23; exact SliceN.on h hb
    · unfold bkS at h ⊢
      split at h <;> first | exact h | (exfalso; exact h22 rfl) | (exfalso; exact h23 rfl)

set_option maxRecDepth 20000 in
set_option maxHeartbeats 2000000 in
theorem back_at {sc : (Nat → Nat) → Array Value} (I : Impl sc) (key p : Nat → Nat) (s0 len : Nat) (v : Value) (V : World) (hk : By key) (hv : SliceN V v len p) (hl : len ≤ 140737488351232) :
    Calls Try.prog 7 #[.agg (bA 16 key), .agg (bA 16 (be s0)), v] V fun e w' => e = .returned (.bool true) ∧ Below V.heap.size V w' := by
  have HI : Hid (Impl sc) := I
  have HK : Hid (By key) := hk
  have HV : Hid (SliceN V v len p) := hv
  have HL : Hid (len ≤ 140737488351232) := hl
  have KW : Hid (∀ j, j < 176 → kw key j < 256) := kw_by key hk
  clear I hk hv hl
  go_enter Try.func7, Try.ntmps7
  obtain ⟨A, hA⟩ : ∃ A, A = V.heap.size := ⟨_, rfl⟩
  have hs : ∀ (v : World) (o : Obj), (v.alloc o).heap = v.heap.push o := fun _ _ => rfl
  have g0 : ((V.alloc (.cells (bA 16 key) 23)).alloc (.cells (bA 16 (be s0)) 23)).heap[A]? = some (.cells (bA 16 key) 23) := by
    rw [hA]; simp only [hs, Array.getElem?_push, Array.size_push]; rw [if_neg (by omega), if_pos trivial]
  have g1 : ((V.alloc (.cells (bA 16 key) 23)).alloc (.cells (bA 16 (be s0)) 23)).heap[A + 1]? = some (.cells (bA 16 (be s0)) 23) := by
    rw [hA]; simp only [hs, Array.getElem?_push, Array.size_push]; rw [if_pos trivial]
  have b0 : Below V.heap.size V ((V.alloc (.cells (bA 16 key) 23)).alloc (.cells (bA 16 (be s0)) 23)) := ((Below.refl _ _).alloc (Nat.le_refl _) _).alloc (by simp) _
  have sz : A + 1 < ((V.alloc (.cells (bA 16 key) 23)).alloc (.cells (bA 16 (be s0)) 23)).heap.size := (Array.getElem?_eq_some_iff.1 g1).1
  have VA : Hid (V.heap.size = A) := hA.symm
  clear hs hA
  have z := HI.out.zero
  go_wp2_with (first
    | (go_at_call 9; refine (alive_any HI.out _).mono ?_; rintro e w1 ⟨rfl, hb1⟩; have k0 : w1.heap[A]? = some (.cells (bA 16 key) 23) := (by rw [hb1.block _ (by omega)]; exact g0); have k1 : w1.heap[A + 1]? = some (.cells (bA 16 (be s0)) 23) := (by rw [hb1.block _ sz]; exact g1); have c1 := b0.trans (hb1.mono b0.size))
    | (refine atLoad 23 (.tmp 3) rfl ?_; go_must (rw [VA.out]; refine wpList_load_row rfl 23 (.tmp 3) rfl A rfl 23 _ (0, 0) _ k0 Try.underlying23 rfl (size16 _) ?_; simp only [Act.put, List.setIfInBounds_toArray, List.set_cons_succ, List.set_cons_zero]))
    | (go_at_call 12; refine (HI.out.new key _ HK.out).mono ?_; rintro e w2 ⟨rfl, hb2⟩)
    | (refine atStore 29 (.tmp 7) (.tmp 11) rfl ?_; go_must (refine wpList_store_row rfl 29 (.tmp 7) (.tmp 11) rfl w2.heap.size _ rfl rfl 29 _ (heapNew w2 _) (HI.out.size _) (HI.out.sz _ _) (HI.out.one _) ?_)))
  obtain ⟨S, hS⟩ : ∃ S, S = w2.heap.size := ⟨_, rfl⟩
  obtain ⟨W0, hW0⟩ : ∃ W0, W0 = (w2.alloc (.cells (sc fun _ => 0) 29)).setRow w2.heap.size (sc (kw key)) := ⟨_, rfl⟩
  have l1 : A + 1 < w1.heap.size := (Array.getElem?_eq_some_iff.1 k1).1
  have l2 := hb2.size
  have q0 : W0.heap[A]? = some (.cells (bA 16 key) 23) := by rw [hW0, setRow_other _ _ _ _ (by omega), heapOld _ _ (by omega), hb2.block _ (by omega)]; exact k0
  have q1 : W0.heap[A + 1]? = some (.cells (bA 16 (be s0)) 23) := by rw [hW0, setRow_other _ _ _ _ (by omega), heapOld _ _ (by omega), hb2.block _ (by omega)]; exact k1
  have q2 : W0.heap[S]? = some (.cells (sc (kw key)) 29) := by rw [hW0, hS]; exact setRow_heap _ _ _ _ _ _ (heapNew w2 _)
  have c2 := c1.trans (hb2.mono c1.size)
  have bW : Below V.heap.size V W0 := by rw [hW0]; exact below4 (c2.trans ((belNew w2 _).mono c2.size)) c2.size _
  rw [← hW0, ← hS]
  have m0 : A < W0.heap.size := (Array.getElem?_eq_some_iff.1 q0).1
  have m1 : A + 1 < W0.heap.size := (Array.getElem?_eq_some_iff.1 q1).1
  have m2 : S < W0.heap.size := (Array.getElem?_eq_some_iff.1 q2).1
  clear hW0 hS k0 k1 c1 c2 hb1 hb2 l1 l2 g0 g1 b0 sz z
  refine wp_region_slotsA 29 41 [12, 13, 14, 15, 16, 17, 18, 19, 20, 21, 22, 23, 24, 25, 26, 27, 28, 29, 30, 31, 32, 33, 34, 35, 36, 37, 38, 39, 40] (bkS sc key s0 v len p) (by kernel_rfl) (by kernel_rfl) (by kernel_rfl) (by decide) rfl rfl (by decide) (by decide) (fun _ _ _ _ h hb => bkS_on h hb) ?_ ?_
  · intro j hj a W hB hf hdep
    have kA : W.heap[A]? = some (.cells (bA 16 key) 23) := by rw [hB.block _ m0]; exact q0
    have kB : W.heap[A + 1]? = some (.cells (bA 16 (be s0)) 23) := by rw [hB.block _ m1]; exact q1
    have kS : W.heap[S]? = some (.cells (sc (kw key)) 29) := by rw [hB.block _ m2]; exact q2
    have kV : SliceN W v len p := HV.out.on (bW.trans (hB.mono bW.size))
    have dB : By (dec (kw key) (be s0)) := dec_by KW.out (be_by _)
    have eB : By (enc (kw key) (be s0)) := enc_by KW.out (be_by _)
    match j, hj with
    | 0, _ => exact stepV rfl rfl (execLoadRow rfl (hf 7 (by decide)) kS Try.underlying29 rfl (HI.out.size _)) ⟨_, rfl, rfl, Below.refl _ _⟩
    | 1, _ => exact stepV rfl rfl (execLoadRow rfl (hf 7 (by decide)) kS Try.underlying29 rfl (HI.out.size _)) ⟨_, rfl, rfl, Below.refl _ _⟩
    | 2, _ => exact stepV rfl rfl (execLoadRow rfl (hf 4 (by decide)) kB Try.underlying23 rfl (size16 _)) ⟨_, rfl, rfl, Below.refl _ _⟩
    | 3, _ => exact stepC rfl rfl (execCall2 Try.func13 (by kernel_rfl) (by kernel_rfl) rfl (hdep _ rfl 1 rfl) (hdep _ rfl 2 rfl)) (HI.out.encr (kw key) (be s0) W KW.out (be_by _)) fun e w' h => ⟨_, h.1, _, rfl, rfl, h.2⟩
    | 4, _ => exact stepC rfl rfl (execCall2 Try.func17 (by kernel_rfl) (by kernel_rfl) rfl (hdep _ rfl 0 rfl) (hdep _ rfl 3 rfl)) (HI.out.decr (kw key) _ W KW.out eB) fun e w' h => ⟨_, h.1, _, rfl, rfl, h.2⟩
    | 5, _ => exact stepV rfl rfl (execLoadRow rfl (hf 4 (by decide)) kB Try.underlying23 rfl (size16 _)) ⟨_, rfl, rfl, Below.refl _ _⟩
    | 6, _ => exact stepV rfl rfl (exec_same16 rfl (hdep _ rfl 4 rfl) (hdep _ rfl 5 rfl) (dec_enc KW.out (be_by _))) ⟨_, rfl, rfl, Below.refl _ _⟩
    | 7, _ => exact stepV rfl rfl (execMvB rfl (hdep _ rfl 6 rfl)) ⟨_, rfl, rfl, Below.refl _ _⟩
    | 8, _ =>
      have g : a.eval (.tmp 19) = .bool true := hdep _ rfl 7 rfl
      exact stepV rfl (wantedOf rfl (yieldedAt rfl rfl g)) (execLoadRow rfl (hf 7 (by decide)) kS Try.underlying29 rfl (HI.out.size _)) ⟨_, rfl, rfl, Below.refl _ _⟩
    | 9, _ =>
      have g : a.eval (.tmp 19) = .bool true := hdep _ rfl 7 rfl
      exact stepV rfl (wantedOf rfl (yieldedAt rfl rfl g)) (execLoadRow rfl (hf 7 (by decide)) kS Try.underlying29 rfl (HI.out.size _)) ⟨_, rfl, rfl, Below.refl _ _⟩
    | 10, _ =>
      have g : a.eval (.tmp 19) = .bool true := hdep _ rfl 7 rfl
      exact stepV rfl (wantedOf rfl (yieldedAt rfl rfl g)) (execLoadRow rfl (hf 4 (by decide)) kB Try.underlying23 rfl (size16 _)) ⟨_, rfl, rfl, Below.refl _ _⟩
    | 11, _ =>
      have g : a.eval (.tmp 19) = .bool true := hdep _ rfl 7 rfl
      exact stepC rfl (wantedOf rfl (yieldedAt rfl rfl g)) (execCall2 Try.func17 (by kernel_rfl) (by kernel_rfl) rfl (hdep _ rfl 9 rfl) (hdep _ rfl 10 rfl)) (HI.out.decr (kw key) (be s0) W KW.out (be_by _)) fun e w' h => ⟨_, h.1, _, rfl, rfl, h.2⟩
    | 12, _ =>
      have g : a.eval (.tmp 19) = .bool true := hdep _ rfl 7 rfl
      exact stepC rfl (wantedOf rfl (yieldedAt rfl rfl g)) (execCall2 Try.func13 (by kernel_rfl) (by kernel_rfl) rfl (hdep _ rfl 8 rfl) (hdep _ rfl 11 rfl)) (HI.out.encr (kw key) _ W KW.out dB) fun e w' h => ⟨_, h.1, _, rfl, rfl, h.2⟩
    | 13, _ =>
      have g : a.eval (.tmp 19) = .bool true := hdep _ rfl 7 rfl
      exact stepV rfl (wantedOf rfl (yieldedAt rfl rfl g)) (execLoadRow rfl (hf 4 (by decide)) kB Try.underlying23 rfl (size16 _)) ⟨_, rfl, rfl, Below.refl _ _⟩
    | 14, _ =>
      have g : a.eval (.tmp 19) = .bool true := hdep _ rfl 7 rfl
      exact stepV rfl (wantedOf rfl (yieldedAt rfl rfl g)) (exec_same16 rfl (hdep _ rfl 12 rfl) (hdep _ rfl 13 rfl) (enc_dec KW.out (be_by _))) ⟨_, rfl, rfl, Below.refl _ _⟩
    | 15, _ => exact stepV rfl rfl (execPick (b := true) rfl (hdep _ rfl 7 rfl) (hdep _ rfl 14 rfl)) ⟨_, rfl, rfl, Below.refl _ _⟩
    | 16, _ => exact stepV rfl rfl (execMvB rfl (hdep _ rfl 15 rfl)) ⟨_, rfl, rfl, Below.refl _ _⟩
    | 17, _ =>
      have g : a.eval (.tmp 28) = .bool true := hdep _ rfl 16 rfl
      exact stepV rfl (wantedOf rfl (yieldedAt rfl rfl g)) (execLoadRow rfl (hf 3 (by decide)) kA Try.underlying23 rfl (size16 _)) ⟨_, rfl, rfl, Below.refl _ _⟩
    | 18, _ =>
      have g : a.eval (.tmp 28) = .bool true := hdep _ rfl 16 rfl
      exact stepV rfl (wantedOf rfl (yieldedAt rfl rfl g)) (execLoadRow rfl (hf 4 (by decide)) kB Try.underlying23 rfl (size16 _)) ⟨_, rfl, rfl, Below.refl _ _⟩
    | 19, _ =>
      have g : a.eval (.tmp 28) = .bool true := hdep _ rfl 16 rfl
      exact stepV rfl (wantedOf rfl (yieldedAt rfl rfl g)) (execLoadRow rfl (hf 3 (by decide)) kA Try.underlying23 rfl (size16 _)) ⟨_, rfl, rfl, Below.refl _ _⟩
    | 20, _ =>
      have g : a.eval (.tmp 28) = .bool true := hdep _ rfl 16 rfl
      exact stepV rfl (wantedOf rfl (yieldedAt rfl rfl g)) (execLoadRow rfl (hf 4 (by decide)) kB Try.underlying23 rfl (size16 _)) ⟨_, rfl, rfl, Below.refl _ _⟩
    | 21, _ =>
      have g : a.eval (.tmp 28) = .bool true := hdep _ rfl 16 rfl
      exact stepV rfl (wantedOf rfl (yieldedAt rfl rfl g)) (execMvB rfl (hf 2 (by decide))) ⟨_, rfl, rfl, Below.refl _ _⟩
    | 22, _ =>
      have g : a.eval (.tmp 28) = .bool true := hdep _ rfl 16 rfl
      exact stepC rfl (wantedOf rfl (yieldedAt rfl rfl g)) (execCall3 Try.func22 (by kernel_rfl) (by kernel_rfl) rfl (hdep _ rfl 19 rfl) (hdep _ rfl 20 rfl) (hdep _ rfl 21 rfl)) (HI.out.mask key p s0 len v W HK.out kV HL.out) fun e w' h => by
        obtain ⟨r, h1, h2, h3⟩ := h
        exact ⟨r, h1, _, rfl, own_slice h2 (maskF_lt KW.out s0 kV.bytes), h3⟩
    | 23, _ =>
      have g : a.eval (.tmp 28) = .bool true := hdep _ rfl 16 rfl
      have s22 : SliceN W (a.eval (.tmp 34)) len (maskF (kw key) s0 p) := hdep _ rfl 22 rfl
      exact stepC rfl (wantedOf rfl (yieldedAt rfl rfl g)) (execCall3 Try.func22 (by kernel_rfl) (by kernel_rfl) rfl (hdep _ rfl 17 rfl) (hdep _ rfl 18 rfl) rfl) (HI.out.mask key _ s0 len _ W HK.out s22 HL.out) fun e w' h => by
        obtain ⟨r, h1, h2, h3⟩ := h
        exact ⟨r, h1, _, rfl, own_slice h2 (maskF_lt KW.out s0 s22.bytes), h3⟩
    | 24, _ =>
      have g : a.eval (.tmp 28) = .bool true := hdep _ rfl 16 rfl
      have s23 : SliceN W (a.eval (.tmp 35)) len (maskF (kw key) s0 (maskF (kw key) s0 p)) := hdep _ rfl 23 rfl
      exact stepV rfl (wantedOf rfl (yieldedAt rfl rfl g)) (execStrV rfl rfl s23 (strN_congr (fun j _ => mask_twice (kw key) s0 p j))) ⟨_, rfl, rfl, Below.refl _ _⟩
    | 25, _ =>
      have g : a.eval (.tmp 28) = .bool true := hdep _ rfl 16 rfl
      exact stepV rfl (wantedOf rfl (yieldedAt rfl rfl g)) (execMvB rfl (hf 2 (by decide))) ⟨_, rfl, rfl, Below.refl _ _⟩
    | 26, _ =>
      have g : a.eval (.tmp 28) = .bool true := hdep _ rfl 16 rfl
      exact stepV rfl (wantedOf rfl (yieldedAt rfl rfl g)) (execStr rfl (hdep _ rfl 25 rfl) kV) ⟨_, rfl, rfl, Below.refl _ _⟩
    | 27, _ =>
      have g : a.eval (.tmp 28) = .bool true := hdep _ rfl 16 rfl
      exact stepV rfl (wantedOf rfl (yieldedAt rfl rfl g)) (execEqlS rfl (hdep _ rfl 24 rfl) (hdep _ rfl 26 rfl)) ⟨_, rfl, rfl, Below.refl _ _⟩
    | 28, _ => exact stepV rfl rfl (execPick (b := true) rfl (hdep _ rfl 16 rfl) (hdep _ rfl 27 rfl)) ⟨_, rfl, rfl, Below.refl _ _⟩
    | n + 29, h => exact absurd h (by omega)
  · intro x W hB hS
    have x28 : x 28 = .bool true := hS 28 (by omega)
    have K2 : Hid (Below V.heap.size V W) := bW.trans (hB.mono bW.size)
    clear hS hB bW q0 q1 q2 m0 m1 m2
    simp only [putL, Act.put, List.setIfInBounds_toArray, List.set_cons_succ, List.set_cons_zero, x28]
    go_wp2
    go_ret
    exact ⟨rfl, K2.out⟩
theorem back_law {sc : (Nat → Nat) → Array Value} (I : Impl sc) (key b p : Nat → Nat) (len : Nat) (v : Value) (V : World) (hk : By key) (hb : By b) (hv : SliceN V v len p) (hl : len ≤ 140737488351232) :
    Calls Try.prog 7 #[.agg (bA 16 key), .agg (bA 16 b), v] V fun e w' => e = .returned (.bool true) ∧ Below V.heap.size V w' := by
  rw [bA_congr (be_num hb).symm]
  exact back_at I key p (num b) len v V hk hv hl
end Go.Proofs.Ytealknodagdjaaa.Aes
