import Derived.Test.YtealknodagdjaaaT2
import Derived.Test.YtealknodagdjaaaY3
import Derived.Deep.DeepCutAuto
import Derived.Deep.CutBlock
namespace Go.Proofs.Ytealknodagdjaaa.Aes
open Go.RowKit Gf8 By8

theorem slen_nat {m : Nat} (h : m ≤ 65536) : slen (m : Int) = m := by
  unfold slen
  rw [if_pos (by omega)]
  rfl
theorem and1023 (n : Int) : ∃ m : Nat, m ≤ 1023 ∧ bits .and .i64 n 1023 = (m : Int) := by
  refine ⟨(BitVec.ofInt 64 n &&& BitVec.ofInt 64 1023).toNat, ?_, ?_⟩
  · rw [BitVec.toNat_and]
    exact Nat.le_of_lt_succ (Nat.and_lt_two_pow (n := 10) _ (by decide))
  · show IntKind.i64.wrap ((BitVec.ofInt 64 n &&& BitVec.ofInt 64 1023).toNat : Int) = _
    have h : (BitVec.ofInt 64 n &&& BitVec.ofInt 64 1023).toNat < 1024 := by rw [BitVec.toNat_and]; exact Nat.and_lt_two_pow (n := 10) _ (by decide)
    exact wrap_i64_nat (by omega)
/-- The stream's bytes of block k are the encryption's. -/
theorem stream_block (w : Nat → Nat) (s0 k j : Nat) (hj : j < 16) : maskF w s0 (fun _ => 0) (16 * k + j) = enc w (be (s0 + k)) j := by
  unfold maskF
  rw [Nat.zero_xor, show (16 * k + j) / 16 = k by omega, show (16 * k + j) % 16 = j by omega]
theorem stream_on (w : Nat → Nat) (s0 j : Nat) : maskF w (s0 + 1) (fun _ => 0) j = maskF w s0 (fun _ => 0) (16 + j) := by
  unfold maskF
  rw [Nat.zero_xor, Nat.zero_xor, show (16 + j) / 16 = j / 16 + 1 by omega, show (16 + j) % 16 = j % 16 by omega, Nat.add_assoc, Nat.add_comm 1 (j / 16)]
/-- What BlockCounts keeps: the key, the start, the stream. -/
structure CtT (key : Nat → Nat) (s0 m A cap : Nat) (ao : Option Addr) (V W : World) : Prop where
  kk : W.heap[A]? = some (.cells (bA 16 key) 23)
  st : W.heap[A + 1]? = some (.cells (bA 16 (be s0)) 23)
  sl : SliceN W (.slice ao m cap) m (maskF (kw key) s0 fun _ => 0)
  bel : Below V.heap.size V W
theorem CtT.cap {key : Nat → Nat} {s0 m A cap : Nat} {ao : Option Addr} {V W : World} (h : CtT key s0 m A cap ao V W) : m ≤ cap := by
  obtain ⟨a, c, e, h1, _⟩ := h.sl.shape
  injection e with _ _ e3
  omega
theorem CtT.on {key : Nat → Nat} {s0 m A cap : Nat} {ao : Option Addr} {V W W' : World} (h : CtT key s0 m A cap ao V W) (hb : Below W.heap.size W W') : CtT key s0 m A cap ao V W' := by
  have l (k : Nat) (c : Obj) (hc : W.heap[k]? = some c) : W'.heap[k]? = some c := by rw [hb.block _ (Array.getElem?_eq_some_iff.1 hc).1]; exact hc
  exact ⟨l _ _ h.kk, l _ _ h.st, h.sl.on hb, h.bel.trans (hb.mono h.bel.size)⟩
def ctS (key : Nat → Nat) (s0 m : Nat) (u : Value) (j : Nat) (r : Value) (W : World) : Prop :=
  match j with
  | 0 => r = u | 1 => r = .int .i64 m | 2 => r = .int .i64 m | 3 => r = .bool false | 4 => r = .bool false | 5 => r = .agg (bA 16 key) | 6 => r = .agg (bA 16 (be s0)) | 7 => r = .int .i64 m | 8 => SliceN W r m (fun _ => 0) | 9 => SliceN W r m (maskF (kw key) s0 fun _ => 0)
  | 10 => r = .string (strN (maskF (kw key) s0 fun _ => 0) m) | 11 => r = u | 12 => r = .string (strN (maskF (kw key) s0 fun _ => 0) m) | 13 => r = .bool false | 14 => r = .bool false | 15 => r = .bool false
  | 16 => r = .agg (bA 16 key) | 17 => r = .agg (bA 16 (be s0)) | 18 => r = .int .i64 m | 19 => r = .int .i64 (m / 2 : Nat) | 20 => SliceN W r (m / 2) (maskF (kw key) s0 fun _ => 0) | 21 => r = .string (strN (maskF (kw key) s0 fun _ => 0) (m / 2))
  | 22 => r = u | 23 => r = .int .i64 m | 24 => r = .int .i64 (m / 2 : Nat) | 25 => SliceN W r (m / 2) (maskF (kw key) s0 fun _ => 0) | 26 => r = .string (strN (maskF (kw key) s0 fun _ => 0) (m / 2)) | _ => r = .bool false
theorem ctS_on {key : Nat → Nat} {s0 m : Nat} {u : Value} {j : Nat} {r : Value} {W W' : World} (h : ctS key s0 m u j r W) (hb : Below W.heap.size W W') : ctS key s0 m u j r W' := by
  by_cases h8 : j = 8
  · subst h8; exact SliceN.on h hb
  by_cases h9 : j = 9
  · subst h9; exact SliceN.on h hb
  by_cases h20 : j = 20
  · subst h20; exact SliceN.on h hb
  by_cases h25 : j = 25
  · subst h25; exact SliceN.on h hb
  unfold ctS at h ⊢
  split at h <;> first | exact h | (exfalso; exact h8 rfl) | (exfalso; exact h9 rfl) | (exfalso; exact h20 rfl) | (exfalso; exact h25 rfl)

theorem stepU {P : Program} {ops : Array Oper} {Q : Exit → Act → World → Prop} {j : Nat} {o : Oper} {a : Act} {w : World} {K : Act → World → Prop} (ho : ops[j]? = some o) (hw : Region.wanted o (yielded ops a.tmps) = false) (hK : K (a.put o.dst undef) w) : wpOp P ops Q j K a w := by
  unfold wpOp
  rw [ho]
  simp only [hw]
  exact hK
theorem unwantedOf {ops : Array Oper} {o : Oper} {tmps : Array Value} {k : Nat} {b : Bool} (hg : o.guard = some (k, b)) (hy : yielded ops tmps k = some (!b)) : Region.wanted o (yielded ops tmps) = false := by
  cases b <;> simp [Region.wanted, hg, hy]
theorem wpList_neqS {ops : Array Oper} {rest : List Oper} {o : Oper} {a : Act} {w : World} {Q : Exit → Act → World → Prop} {s : ByteArray} (hw : Region.wanted o (yielded ops a.tmps) = true) (x y : Operand) (ho : o.op = .binOp .neq 9 x y 9) (hx : a.eval x = .string s) (hy : a.eval y = .string s)
    (h : wpList Try.prog ops Q rest (a.put o.dst (.bool false)) w) : wpList Try.prog ops Q (o :: rest) a w :=
  BigFrame.wpList_want hw fun K hK => by unfold Oper.wp; rw [execNeqS ho hx hy]; exact hK _ _ h
def cuS (sc : (Nat → Nat) → Array Value) (key : Nat → Nat) (s0 k L : Nat) (j : Nat) (r : Value) (W : World) : Prop :=
  match j with
  | 0 => r = .agg (sc (kw key)) | 1 => r = .agg (bA 16 (be s0)) | 2 => r = .int .i64 k | 3 => r = .agg (bA 16 (be (s0 + k))) | 4 => r = .agg (bA 16 (enc (kw key) (be (s0 + k))))
  | _ => ∃ b, r = .pointer (some ⟨b, 0, none⟩) ∧ L ≤ b ∧ W.heap[b]? = some (.cells (bA 16 fun _ => 0) 23)
theorem cuS_on {sc : (Nat → Nat) → Array Value} {key : Nat → Nat} {s0 k L j : Nat} {r : Value} {W W' : World} (h : cuS sc key s0 k L j r W) (hb : Below W.heap.size W W') : cuS sc key s0 k L j r W' := by
  match j, h with
  | 0, h => exact h
  | 1, h => exact h
  | 2, h => exact h
  | 3, h => exact h
  | 4, h => exact h
  | n + 5, h =>
    obtain ⟨b, rfl, lb, gb⟩ := h
    exact ⟨b, rfl, lb, by rw [hb.block _ (Array.getElem?_eq_some_iff.1 gb).1]; exact gb⟩
def cvS (u : Value) (m k : Nat) (f : Nat → Nat) (j : Nat) (r : Value) (W : World) : Prop :=
  match j with
  | 0 => r = u | 1 => r = .int .i64 k | 2 => r = .int .i64 (16 * k : Nat) | 3 => r = .int .i64 m | 4 => r = .int .i64 k | 5 => r = .int .i64 (16 * k : Nat) | 6 => r = .int .i64 (16 * k + 16 : Nat) | 7 => r = .int .i64 (min m (16 * k + 16) : Nat)
  | 8 => SliceN W r (min 16 (m - 16 * k)) f | 9 => r = .string (strN f (min 16 (m - 16 * k))) | 10 => r = .int .i64 m | 11 => r = .int .i64 k | 12 => r = .int .i64 (16 * k : Nat) | 13 => r = .int .i64 (m - 16 * k : Nat) | 14 => r = .int .i64 (min 16 (m - 16 * k) : Nat)
  | 15 => SliceN W r (min 16 (m - 16 * k)) f | _ => r = .string (strN f (min 16 (m - 16 * k)))
theorem cvS_on {u : Value} {m k : Nat} {f : Nat → Nat} {j : Nat} {r : Value} {W W' : World} (h : cvS u m k f j r W) (hb : Below W.heap.size W W') : cvS u m k f j r W' := by
  by_cases h8 : j = 8
  · subst h8; exact SliceN.on h hb
  by_cases h15 : j = 15
  · subst h15; exact SliceN.on h hb
  unfold cvS at h ⊢
  split at h <;> first | exact h | (exfalso; exact h8 rfl) | (exfalso; exact h15 rfl)
def cwS (key : Nat → Nat) (s0 m : Nat) (u : Value) (j : Nat) (r : Value) (W : World) : Prop :=
  match j with
  | 0 => r = .int .i64 m | 1 => r = .bool false | 2 => r = .bool false | 3 => r = .agg (bA 16 key) | 4 => r = .agg (bA 16 (be s0)) | 5 => r = .agg (bA 16 (be (s0 + 1))) | 6 => r = .int .i64 m | 7 => r = .int .i64 (m - 16 : Nat)
  | 8 => SliceN W r (m - 16) (maskF (kw key) (s0 + 1) fun _ => 0) | 9 => r = .string (strN (maskF (kw key) (s0 + 1) fun _ => 0) (m - 16)) | 10 => r = u | 11 => SliceN W r (m - 16) (fun j => maskF (kw key) s0 (fun _ => 0) (16 + j)) | 12 => r = .string (strN (maskF (kw key) (s0 + 1) fun _ => 0) (m - 16)) | _ => r = .bool true
theorem cwS_on {key : Nat → Nat} {s0 m : Nat} {u : Value} {j : Nat} {r : Value} {W W' : World} (h : cwS key s0 m u j r W) (hb : Below W.heap.size W W') : cwS key s0 m u j r W' := by
  by_cases h8 : j = 8
  · subst h8; exact SliceN.on h hb
  by_cases h11 : j = 11
  · subst h11; exact SliceN.on h hb
  unfold cwS at h ⊢
  split at h <;> first | exact h | (exfalso; exact h8 rfl) | (exfalso; exact h11 rfl)
def cxS (m : Nat) (j : Nat) (r : Value) : Prop :=
  match j with
  | 0 => r = .int .i64 m | 1 => r = .bool true | 2 => r = .bool true | 14 => r = .bool true | _ => r = undef

set_option maxRecDepth 20000 in
set_option maxHeartbeats 4000000 in
theorem counts_at {sc : (Nat → Nat) → Array Value} (I : Impl sc) (key : Nat → Nat) (s0 : Nat) (n : Int) (V : World) (hk : By key) :
    Calls Try.prog 8 #[.agg (bA 16 key), .agg (bA 16 (be s0)), .int .i64 n] V fun e w' => e = .returned (.bool true) ∧ Below V.heap.size V w' := by
  have HI : Hid (Impl sc) := I
  have HK : Hid (By key) := hk
  have KW : Hid (∀ j, j < 176 → kw key j < 256) := kw_by key hk
  clear I hk
  go_enter Try.func8, Try.ntmps8
  obtain ⟨A, hA⟩ : ∃ A, A = V.heap.size := ⟨_, rfl⟩
  have hs : ∀ (v : World) (o : Obj), (v.alloc o).heap = v.heap.push o := fun _ _ => rfl
  have g0 : ((V.alloc (.cells (bA 16 key) 23)).alloc (.cells (bA 16 (be s0)) 23)).heap[A]? = some (.cells (bA 16 key) 23) := by
    rw [hA]; simp only [hs, Array.getElem?_push, Array.size_push]; rw [if_neg (by omega), if_pos trivial]
  have g1 : ((V.alloc (.cells (bA 16 key) 23)).alloc (.cells (bA 16 (be s0)) 23)).heap[A + 1]? = some (.cells (bA 16 (be s0)) 23) := by
    rw [hA]; simp only [hs, Array.getElem?_push, Array.size_push]; rw [if_pos trivial]
  have b0 : Below V.heap.size V ((V.alloc (.cells (bA 16 key) 23)).alloc (.cells (bA 16 (be s0)) 23)) := ((Below.refl _ _).alloc (Nat.le_refl _) _).alloc (by simp) _
  have sz : A + 1 < ((V.alloc (.cells (bA 16 key) 23)).alloc (.cells (bA 16 (be s0)) 23)).heap.size := (Array.getElem?_eq_some_iff.1 g1).1
  have VA : Hid (V.heap.size = A) := hA.symm
  clear hs hA
  go_wp2_with fail
  rw [VA.out]
  refine (alive_any HI.out _).mono ?_
  rintro e w1 ⟨rfl, hb1⟩
  have k0 : w1.heap[A]? = some (.cells (bA 16 key) 23) := by rw [hb1.block _ (by omega)]; exact g0
  have k1 : w1.heap[A + 1]? = some (.cells (bA 16 (be s0)) 23) := by rw [hb1.block _ sz]; exact g1
  have c1 := b0.trans (hb1.mono b0.size)
  have K0 : Hid (_) := k0
  have K1 : Hid (_) := k1
  have C1 : Hid (_) := c1
  clear g0 g1 b0 sz hb1 k0 k1 c1
  go_upto_region 3 with fail
  go_cut [18] (fun s18 wx => s18 = .bool (decide (n < 0) || decide (n > 4096)) ∧ w1 = wx)
  case first =>
    by_cases h0 : n < 0
    · go_wp2
      go_meet
      case rel => exact ⟨by simp [h0], rfl⟩
    · by_cases h1 : n > 4096
      · go_wp2
        go_meet
        case rel => exact ⟨by simp [h1], rfl⟩
      · go_wp2
        go_meet
        case rel => exact ⟨by simp [h0, h1], rfl⟩
  case rest =>
  obtain ⟨rfl, rfl⟩ := hcut
  go_upto_if 18 with fail
  go_cut [2] (fun s2 wx => ∃ m : Nat, m ≤ 4096 ∧ s2 = .int .i64 m ∧ w1 = wx)
  case first =>
    by_cases h0 : n < 0 ∨ n > 4096
    · have t : (decide (n < 0) || decide (n > 4096)) = true := by simp; exact h0
      obtain ⟨m, hm, he⟩ := and1023 n
      have hm2 : Hid (m ≤ 1023) := hm
      clear hm h0
      rw [t]
      go_wp2
      go_meet
      case rel => exact ⟨m, by have := hm2.out; omega, rfl, rfl⟩
    · have t : (decide (n < 0) || decide (n > 4096)) = false := by simp; omega
      obtain ⟨m, rfl⟩ := Int.eq_ofNat_of_zero_le (show 0 ≤ n by omega)
      have hm2 : Hid (m ≤ 4096) := by show m ≤ 4096; omega
      clear h0
      rw [t]
      go_wp2
      go_meet
      case rel => exact ⟨m, hm2.out, rfl, rfl⟩
  case rest =>
    obtain ⟨m, hm, rfl, rfl⟩ := hcut
    have HM : Hid (m ≤ 4096) := hm
    clear hm
    have RS : Hid (∀ W : World, Calls Try.prog 11 #[.agg (bA 16 key), .agg (bA 16 (be s0)), .int .i64 m] W fun e w' => ∃ r, e = .returned r ∧ w'.ownsRow W.heap.size 5 1 r m (bytesL m (maskF (kw key) s0 fun _ => 0)) ∧ Below W.heap.size W w') := by
      intro W
      have R := HI.out.stream key s0 (m : Int) W HK.out (by omega) (by have := HM.out; omega)
      rw [slen_nat (by have := HM.out; omega)] at R
      exact R
    have k0 := K0.out
    have k1 := K1.out
    go_wp2_with (first
      | (refine atLoad 23 (.tmp 3) rfl ?_; go_must (refine wpList_load_row rfl 23 (.tmp 3) rfl A rfl 23 _ (0, 0) _ k0 Try.underlying23 rfl (size16 _) ?_; simp only [Act.put, List.setIfInBounds_toArray, List.set_cons_succ, List.set_cons_zero]))
      | (refine atLoad 23 (.tmp 4) rfl ?_; go_must (refine wpList_load_row rfl 23 (.tmp 4) rfl (A + 1) rfl 23 _ (0, 0) _ k1 Try.underlying23 rfl (size16 _) ?_; simp only [Act.put, List.setIfInBounds_toArray, List.set_cons_succ, List.set_cons_zero]))
      | (go_at_call 11; refine Calls.mono (RS.out _) ?_; rintro e w2 ⟨r, rfl, hown, hb2⟩))
    have sl := own_slice hown (maskF_lt KW.out s0 (fun _ _ => by omega))
    obtain ⟨ao, cap, er, _⟩ := sl.shape
    subst er
    have kt : CtT key s0 m A cap ao V w2 := by
      have l (k : Nat) (c : Obj) (hc : w1.heap[k]? = some c) : w2.heap[k]? = some c := by rw [hb2.block _ (Array.getElem?_eq_some_iff.1 hc).1]; exact hc
      exact ⟨l _ _ k0, l _ _ k1, sl, C1.out.trans (hb2.mono C1.out.size)⟩
    clear hown hb2 sl k0 k1
    refine wp_region_slotsA 28 100 [25, 26, 27, 28, 29, 30, 31, 32, 33, 34, 35, 36, 37, 38, 39, 40, 41, 42, 43, 44, 45, 46, 47, 48, 49, 50, 51, 52] (ctS key s0 m (.slice ao m cap)) (by kernel_rfl) (by kernel_rfl) (by kernel_rfl) (by decide) rfl rfl (by decide) (by decide) (fun _ _ _ _ h hb => ctS_on h hb) ?_ ?_
    · intro j hj a W hB hf hdep
      have kW := kt.on hB
      have lm := HM.out
      match j, hj with
      | 0, _ => exact stepV rfl rfl (execMvB rfl (hf 7 (by decide))) ⟨_, rfl, rfl, Below.refl _ _⟩
      | 1, _ => exact stepV rfl rfl (execLenB rfl (hdep _ rfl 0 rfl)) ⟨_, rfl, rfl, Below.refl _ _⟩
      | 2, _ => exact stepV rfl rfl (execMvB rfl (hf 2 (by decide))) ⟨_, rfl, rfl, Below.refl _ _⟩
      | 3, _ => exact stepV rfl rfl (execNeqI rfl (hdep _ rfl 1 rfl) (hdep _ rfl 2 rfl)) ⟨_, rfl, by simp [ctS], Below.refl _ _⟩
      | 4, _ => exact stepV rfl rfl (execMvB rfl (hdep _ rfl 3 rfl)) ⟨_, rfl, rfl, Below.refl _ _⟩
      | 5, _ =>
        have g : a.eval (.tmp 29) = .bool false := hdep _ rfl 4 rfl
        exact stepV rfl (wantedOf rfl (yieldedAt rfl rfl g)) (execLoadRow rfl (hf 3 (by decide)) kW.kk Try.underlying23 rfl (size16 _)) ⟨_, rfl, rfl, Below.refl _ _⟩
      | 6, _ =>
        have g : a.eval (.tmp 29) = .bool false := hdep _ rfl 4 rfl
        exact stepV rfl (wantedOf rfl (yieldedAt rfl rfl g)) (execLoadRow rfl (hf 4 (by decide)) kW.st Try.underlying23 rfl (size16 _)) ⟨_, rfl, rfl, Below.refl _ _⟩
      | 7, _ =>
        have g : a.eval (.tmp 29) = .bool false := hdep _ rfl 4 rfl
        exact stepV rfl (wantedOf rfl (yieldedAt rfl rfl g)) (execMvB rfl (hf 2 (by decide))) ⟨_, rfl, rfl, Below.refl _ _⟩
      | 8, _ =>
        have g : a.eval (.tmp 29) = .bool false := hdep _ rfl 4 rfl
        exact stepV rfl (wantedOf rfl (yieldedAt rfl rfl g)) (execMk rfl (hdep _ rfl 7 rfl) (hdep _ rfl 7 rfl) (Nat.le_refl _) (by omega)) ⟨_, rfl, made_slice W m (by omega), belNew W _⟩
      | 9, _ =>
        have g : a.eval (.tmp 29) = .bool false := hdep _ rfl 4 rfl
        have s8 : SliceN W (a.eval (.tmp 33)) m (fun _ => 0) := hdep _ rfl 8 rfl
        exact stepC rfl (wantedOf rfl (yieldedAt rfl rfl g)) (execCall3 Try.func22 (by kernel_rfl) (by kernel_rfl) rfl (hdep _ rfl 5 rfl) (hdep _ rfl 6 rfl) rfl) (HI.out.mask key _ s0 m _ W HK.out s8 (by omega)) fun e w' h => by
          obtain ⟨r, h1, h2, h3⟩ := h
          exact ⟨r, h1, _, rfl, own_slice h2 (maskF_lt KW.out s0 s8.bytes), h3⟩
      | 10, _ =>
        have g : a.eval (.tmp 29) = .bool false := hdep _ rfl 4 rfl
        have s9 : SliceN W (a.eval (.tmp 34)) m (maskF (kw key) s0 fun _ => 0) := hdep _ rfl 9 rfl
        exact stepV rfl (wantedOf rfl (yieldedAt rfl rfl g)) (execStr rfl rfl s9) ⟨_, rfl, rfl, Below.refl _ _⟩
      | 11, _ =>
        have g : a.eval (.tmp 29) = .bool false := hdep _ rfl 4 rfl
        exact stepV rfl (wantedOf rfl (yieldedAt rfl rfl g)) (execMvB rfl (hf 7 (by decide))) ⟨_, rfl, rfl, Below.refl _ _⟩
      | 12, _ =>
        have g : a.eval (.tmp 29) = .bool false := hdep _ rfl 4 rfl
        exact stepV rfl (wantedOf rfl (yieldedAt rfl rfl g)) (execStr rfl (hdep _ rfl 11 rfl) kW.sl) ⟨_, rfl, rfl, Below.refl _ _⟩
      | 13, _ =>
        have g : a.eval (.tmp 29) = .bool false := hdep _ rfl 4 rfl
        exact stepV rfl (wantedOf rfl (yieldedAt rfl rfl g)) (execNeqS rfl (hdep _ rfl 10 rfl) (hdep _ rfl 12 rfl)) ⟨_, rfl, rfl, Below.refl _ _⟩
      | 14, _ => exact stepV rfl rfl (execPick (b := false) rfl (hdep _ rfl 4 rfl) (hdep _ rfl 13 rfl)) ⟨_, rfl, rfl, Below.refl _ _⟩
      | 15, _ => exact stepV rfl rfl (execMvB rfl (hdep _ rfl 14 rfl)) ⟨_, rfl, rfl, Below.refl _ _⟩
      | 16, _ =>
        have g : a.eval (.tmp 40) = .bool false := hdep _ rfl 15 rfl
        exact stepV rfl (wantedOf rfl (yieldedAt rfl rfl g)) (execLoadRow rfl (hf 3 (by decide)) kW.kk Try.underlying23 rfl (size16 _)) ⟨_, rfl, rfl, Below.refl _ _⟩
      | 17, _ =>
        have g : a.eval (.tmp 40) = .bool false := hdep _ rfl 15 rfl
        exact stepV rfl (wantedOf rfl (yieldedAt rfl rfl g)) (execLoadRow rfl (hf 4 (by decide)) kW.st Try.underlying23 rfl (size16 _)) ⟨_, rfl, rfl, Below.refl _ _⟩
      | 18, _ =>
        have g : a.eval (.tmp 40) = .bool false := hdep _ rfl 15 rfl
        exact stepV rfl (wantedOf rfl (yieldedAt rfl rfl g)) (execMvB rfl (hf 2 (by decide))) ⟨_, rfl, rfl, Below.refl _ _⟩
      | 19, _ =>
        have g : a.eval (.tmp 40) = .bool false := hdep _ rfl 15 rfl
        exact stepV rfl (wantedOf rfl (yieldedAt rfl rfl g)) (execQuoI (q := 2) rfl (hdep _ rfl 18 rfl) rfl (by omega) (by omega)) ⟨_, rfl, rfl, Below.refl _ _⟩
      | 20, _ =>
        have g : a.eval (.tmp 40) = .bool false := hdep _ rfl 15 rfl
        have R := HI.out.stream key s0 ((m / 2 : Nat) : Int) W HK.out (by omega) (by omega)
        rw [slen_nat (by omega)] at R
        exact stepC rfl (wantedOf rfl (yieldedAt rfl rfl g)) (execCall3 Try.func11 (by kernel_rfl) (by kernel_rfl) rfl (hdep _ rfl 16 rfl) (hdep _ rfl 17 rfl) (hdep _ rfl 19 rfl)) R fun e w' h => by
          obtain ⟨r, h1, h2, h3⟩ := h
          exact ⟨r, h1, _, rfl, own_slice h2 (maskF_lt KW.out s0 (fun _ _ => by omega)), h3⟩
      | 21, _ =>
        have g : a.eval (.tmp 40) = .bool false := hdep _ rfl 15 rfl
        have s20 : SliceN W (a.eval (.tmp 45)) (m / 2) (maskF (kw key) s0 fun _ => 0) := hdep _ rfl 20 rfl
        exact stepV rfl (wantedOf rfl (yieldedAt rfl rfl g)) (execStr rfl rfl s20) ⟨_, rfl, rfl, Below.refl _ _⟩
      | 22, _ =>
        have g : a.eval (.tmp 40) = .bool false := hdep _ rfl 15 rfl
        exact stepV rfl (wantedOf rfl (yieldedAt rfl rfl g)) (execMvB rfl (hf 7 (by decide))) ⟨_, rfl, rfl, Below.refl _ _⟩
      | 23, _ =>
        have g : a.eval (.tmp 40) = .bool false := hdep _ rfl 15 rfl
        exact stepV rfl (wantedOf rfl (yieldedAt rfl rfl g)) (execMvB rfl (hf 2 (by decide))) ⟨_, rfl, rfl, Below.refl _ _⟩
      | 24, _ =>
        have g : a.eval (.tmp 40) = .bool false := hdep _ rfl 15 rfl
        exact stepV rfl (wantedOf rfl (yieldedAt rfl rfl g)) (execQuoI (q := 2) rfl (hdep _ rfl 23 rfl) rfl (by omega) (by omega)) ⟨_, rfl, rfl, Below.refl _ _⟩
      | 25, _ =>
        have g : a.eval (.tmp 40) = .bool false := hdep _ rfl 15 rfl
        have sb := kW.sl.sub 0 (m / 2) (by omega) (by omega)
        rw [Nat.sub_zero, show (fun j => maskF (kw key) s0 (fun _ => 0) (0 + j)) = maskF (kw key) s0 fun _ => 0 from by funext j; rw [Nat.zero_add]] at sb
        exact stepV rfl (wantedOf rfl (yieldedAt rfl rfl g)) (execSlH rfl (hdep _ rfl 22 rfl) (hdep _ rfl 24 rfl) (slice_h _ _ _ _ (by have := kW.cap; omega) W)) ⟨_, rfl, sb, Below.refl _ _⟩
      | 26, _ =>
        have g : a.eval (.tmp 40) = .bool false := hdep _ rfl 15 rfl
        have s25 : SliceN W (a.eval (.tmp 50)) (m / 2) (maskF (kw key) s0 fun _ => 0) := hdep _ rfl 25 rfl
        exact stepV rfl (wantedOf rfl (yieldedAt rfl rfl g)) (execStr rfl rfl s25) ⟨_, rfl, rfl, Below.refl _ _⟩
      | 27, _ =>
        have g : a.eval (.tmp 40) = .bool false := hdep _ rfl 15 rfl
        exact stepV rfl (wantedOf rfl (yieldedAt rfl rfl g)) (execNeqS rfl (hdep _ rfl 21 rfl) (hdep _ rfl 26 rfl)) ⟨_, rfl, rfl, Below.refl _ _⟩
      | n + 28, h => exact absurd h (by omega)
    · intro x W hB hS
      have kW := kt.on hB
      have x15 : x 15 = .bool false := hS 15 (by omega)
      have x27 : x 27 = .bool false := hS 27 (by omega)
      clear hS hB kt
      simp only [putL, Act.put, List.setIfInBounds_toArray, List.set_cons_succ, List.set_cons_zero, x15, x27]
      have z := HI.out.zero
      go_wp2_with (first
        | (refine atLoad 23 (.tmp 3) rfl ?_; go_must (refine wpList_load_row rfl 23 (.tmp 3) rfl A rfl 23 _ (0, 0) _ kW.kk Try.underlying23 rfl (size16 _) ?_; simp only [Act.put, List.setIfInBounds_toArray, List.set_cons_succ, List.set_cons_zero]))
        | (go_at_call 12; refine (HI.out.new key _ HK.out).mono ?_; rintro e w3 ⟨rfl, hb3⟩)
        | (refine atStore 29 (.tmp 8) (.tmp 55) rfl ?_; go_must (refine wpList_store_row rfl 29 (.tmp 8) (.tmp 55) rfl w3.heap.size _ rfl rfl 29 _ (heapNew w3 _) (HI.out.size _) (HI.out.sz _ _) (HI.out.one _) ?_)))
      obtain ⟨S, hS⟩ : ∃ S, S = w3.heap.size := ⟨_, rfl⟩
      obtain ⟨W0, hW0⟩ : ∃ W0, W0 = (w3.alloc (.cells (sc fun _ => 0) 29)).setRow w3.heap.size (sc (kw key)) := ⟨_, rfl⟩
      have k3 := kW.on hb3
      have gS : W0.heap[S]? = some (.cells (sc (kw key)) 29) := by rw [hW0, hS]; exact setRow_heap _ _ _ _ _ _ (heapNew w3 _)
      have k0 : CtT key s0 m A cap ao V W0 := by
        rw [hW0]
        exact k3.on (below4 (belNew w3 _) (Nat.le_refl _) _)
      rw [← hW0, ← hS]
      have T0 : Hid (_ ∧ _) := ⟨k0, gS⟩
      clear hW0 hS k0 k3 gS hb3 kW z x15 x27
      go_loopw [9] (fun x W => ∃ k : Nat, k ≤ 257 ∧ x = .int .i64 k ∧ CtT key s0 m A cap ao V W ∧ W.heap[S]? = some (.cells (sc (kw key)) 29)) (fun x _ => 258 - (intOf x).toNat)
      case atStart => exact ⟨0, by omega, rfl, T0.out.1, T0.out.2⟩
      case round =>
        obtain ⟨k, hk, rfl, kt, gS⟩ := hrel
        clear T0
        by_cases hlt : 16 * k < m
        · obtain ⟨q, hq⟩ : ∃ q, 16 * k = q := ⟨_, rfl⟩
          have eq : 16 * (k : Int) = q := by omega
          have lq : (q : Int) < m := by omega
          have lm2 : (m : Int) ≤ 4096 := by have := HM.out; omega
          have HQ : Hid (16 * k < m ∧ m ≤ 4096) := ⟨hlt, HM.out⟩
          clear hq hlt hk
          go_wp2_with fail
          have lS : S < wr.heap.size := (Array.getElem?_eq_some_iff.1 gS).1
          refine wp_region_slotsA 6 100 [62, 63, 64, 65, 66, 10] (cuS sc key s0 k wr.heap.size) (by kernel_rfl) (by kernel_rfl) (by kernel_rfl) (by decide) rfl rfl (by decide) (by decide) (fun _ _ _ _ h hb => cuS_on h hb) ?_ ?_
          · intro j hj a W hB hf hdep
            have kW := kt.on hB
            have kS : W.heap[S]? = some (.cells (sc (kw key)) 29) := by rw [hB.block _ lS]; exact gS
            have lq := HQ.out
            match j, hj with
            | 0, _ => exact stepV rfl rfl (execLoadRow rfl (hf 8 (by decide)) kS Try.underlying29 rfl (HI.out.size _)) ⟨_, rfl, rfl, Below.refl _ _⟩
            | 1, _ => exact stepV rfl rfl (execLoadRow rfl (hf 4 (by decide)) kW.st Try.underlying23 rfl (size16 _)) ⟨_, rfl, rfl, Below.refl _ _⟩
            | 2, _ => exact stepV rfl rfl (execMvB rfl (hf 9 (by decide))) ⟨_, rfl, rfl, Below.refl _ _⟩
            | 3, _ => exact stepC rfl rfl (execCall2 Try.func24 (by kernel_rfl) (by kernel_rfl) rfl (hdep _ rfl 1 rfl) (hdep _ rfl 2 rfl)) (up_any s0 k W (by omega)) fun e w' h => ⟨_, h.1, _, rfl, rfl, h.2⟩
            | 4, _ => exact stepC rfl rfl (execCall2 Try.func13 (by kernel_rfl) (by kernel_rfl) rfl (hdep _ rfl 0 rfl) (hdep _ rfl 3 rfl)) (HI.out.encr (kw key) _ W KW.out (be_by _)) fun e w' h => ⟨_, h.1, _, rfl, rfl, h.2⟩
            | 5, _ => exact stepV rfl rfl (execAlloc16 rfl) ⟨_, rfl, ⟨_, rfl, hB.size, heapNew W _⟩, belNew W _⟩
            | n + 6, h => exact absurd h (by omega)
          · intro x W hB hS
            have kW := kt.on hB
            have kS : W.heap[S]? = some (.cells (sc (kw key)) 29) := by rw [hB.block _ lS]; exact gS
            have x4 : x 4 = .agg (bA 16 (enc (kw key) (be (s0 + k)))) := hS 4 (by omega)
            obtain ⟨b, x5, lb, gb⟩ := hS 5 (by omega)
            obtain ⟨f, hf⟩ : ∃ f, enc (kw key) (be (s0 + k)) = f := ⟨_, rfl⟩
            rw [hf] at x4
            have fB : By f := by rw [← hf]; exact enc_by KW.out (be_by _)
            have sz := hB.size
            simp only [putL, Act.put, List.setIfInBounds_toArray, List.set_cons_succ, List.set_cons_zero, x4, x5]
            refine wpList_store_row rfl 23 (.tmp 10) (.tmp 66) rfl b _ rfl rfl 23 _ gb (size16 _) rfl (bA_one _ _) ?_
            obtain ⟨W1, hW1⟩ : ∃ W1, W1 = W.setRow b (bA 16 f) := ⟨_, rfl⟩
            have k1 : CtT key s0 m A cap ao V W1 := by
              rw [hW1]
              have hb := below4 hB lb (bA 16 f)
              exact kt.on hb
            have s1 : W1.heap[S]? = some (.cells (sc (kw key)) 29) := by rw [hW1, setRow_other _ _ _ _ (by omega)]; exact kS
            have b1 : W1.heap[b]? = some (.cells (bA 16 f) 23) := by rw [hW1]; exact setRow_heap _ _ _ _ _ _ gb
            rw [← hW1]
            have HF : Hid (enc (kw key) (be (s0 + k)) = f) := hf
            have K1' : Hid (_) := k1
            have S1' : Hid (_) := s1
            have B1' : Hid (_) := b1
            clear hW1 k1 s1 b1 hS x4 x5 gb kS kW hB sz hf kt gS lb lS
            go_wp2_with fail
            have kt := K1'.out
            have lb : b < W1.heap.size := (Array.getElem?_eq_some_iff.1 B1'.out).1
            refine wp_region_slotsA 17 100 [67, 68, 69, 70, 71, 72, 73, 74, 75, 76, 77, 78, 79, 80, 81, 82, 83] (cvS (.slice ao m cap) m k f) (by kernel_rfl) (by kernel_rfl) (by kernel_rfl) (by decide) rfl rfl (by decide) (by decide) (fun _ _ _ _ h hb => cvS_on h hb) ?_ ?_
            · intro j hj a W hB hf hdep
              have kW := kt.on hB
              have kb : W.heap[b]? = some (.cells (bA 16 f) 23) := by rw [hB.block _ lb]; exact B1'.out
              have lq := HQ.out
              match j, hj with
              | 0, _ => exact stepV rfl rfl (execMvB rfl (hf 7 (by decide))) ⟨_, rfl, rfl, Below.refl _ _⟩
              | 1, _ => exact stepV rfl rfl (execMvB rfl (hf 9 (by decide))) ⟨_, rfl, rfl, Below.refl _ _⟩
              | 2, _ => exact stepV rfl rfl (execMulI (p := 16) rfl rfl (hdep _ rfl 1 rfl) (by omega)) ⟨_, rfl, rfl, Below.refl _ _⟩
              | 3, _ => exact stepV rfl rfl (execMvB rfl (hf 2 (by decide))) ⟨_, rfl, rfl, Below.refl _ _⟩
              | 4, _ => exact stepV rfl rfl (execMvB rfl (hf 9 (by decide))) ⟨_, rfl, rfl, Below.refl _ _⟩
              | 5, _ => exact stepV rfl rfl (execMulI (p := 16) rfl rfl (hdep _ rfl 4 rfl) (by omega)) ⟨_, rfl, rfl, Below.refl _ _⟩
              | 6, _ => exact stepV rfl rfl (execAddI (q := 16) rfl (hdep _ rfl 5 rfl) rfl (by omega)) ⟨_, rfl, rfl, Below.refl _ _⟩
              | 7, _ => exact stepV rfl rfl (execMinI rfl (hdep _ rfl 3 rfl) (hdep _ rfl 6 rfl)) ⟨_, rfl, rfl, Below.refl _ _⟩
              | 8, _ =>
                have sb := kW.sl.sub (16 * k) (min m (16 * k + 16)) (by omega) (by omega)
                rw [show min m (16 * k + 16) - 16 * k = min 16 (m - 16 * k) by omega] at sb
                have sb2 : SliceN W (sliced ao (16 * k) (min m (16 * k + 16)) cap 1) (min 16 (m - 16 * k)) f := by
                  have e : ∀ j, j < min 16 (m - 16 * k) → maskF (kw key) s0 (fun _ => 0) (16 * k + j) = f j := fun j hj => by rw [stream_block (kw key) s0 k j (by omega), HF.out]
                  obtain ⟨⟨a1, c1, e1, h1, h2, h3⟩, h4⟩ := sb
                  refine ⟨⟨a1, c1, e1, h1, h2, fun h0 => ?_⟩, fun j hj => by rw [← e j hj]; exact h4 j hj⟩
                  obtain ⟨b', o', e2, e3, e4⟩ := h3 h0
                  exact ⟨b', o', e2, e3, fun j hj => by rw [e4 j hj, e j hj]⟩
                exact stepV rfl rfl (execSlLH rfl (hdep _ rfl 0 rfl) (hdep _ rfl 2 rfl) (hdep _ rfl 7 rfl) (slice_lh _ _ _ _ _ (by omega) (by have := kW.cap; omega) W)) ⟨_, rfl, sb2, Below.refl _ _⟩
              | 9, _ =>
                have s8 : SliceN W (a.eval (.tmp 75)) (min 16 (m - 16 * k)) f := hdep _ rfl 8 rfl
                exact stepV rfl rfl (execStr rfl rfl s8) ⟨_, rfl, rfl, Below.refl _ _⟩
              | 10, _ => exact stepV rfl rfl (execMvB rfl (hf 2 (by decide))) ⟨_, rfl, rfl, Below.refl _ _⟩
              | 11, _ => exact stepV rfl rfl (execMvB rfl (hf 9 (by decide))) ⟨_, rfl, rfl, Below.refl _ _⟩
              | 12, _ => exact stepV rfl rfl (execMulI (p := 16) rfl rfl (hdep _ rfl 11 rfl) (by omega)) ⟨_, rfl, rfl, Below.refl _ _⟩
              | 13, _ => exact stepV rfl rfl (execSubI rfl (hdep _ rfl 10 rfl) (hdep _ rfl 12 rfl) (by omega) (by omega)) ⟨_, rfl, rfl, Below.refl _ _⟩
              | 14, _ => exact stepV rfl rfl (execMinI (p := 16) rfl rfl (hdep _ rfl 13 rfl)) ⟨_, rfl, rfl, Below.refl _ _⟩
              | 15, _ => exact stepV rfl rfl (execSlH rfl (hf 10 (by decide)) (hdep _ rfl 14 rfl) (sliceArr b _ (by omega) W)) ⟨_, rfl, arr_slice kb fB (by omega), Below.refl _ _⟩
              | 16, _ =>
                have s15 : SliceN W (a.eval (.tmp 82)) (min 16 (m - 16 * k)) f := hdep _ rfl 15 rfl
                exact stepV rfl rfl (execStr rfl rfl s15) ⟨_, rfl, rfl, Below.refl _ _⟩
              | n + 17, h => exact absurd h (by omega)
            · intro x W hB hS
              have x9 : x 9 = .string (strN f (min 16 (m - 16 * k))) := hS 9 (by omega)
              have x16 : x 16 = .string (strN f (min 16 (m - 16 * k))) := hS 16 (by omega)
              have lS : S < W1.heap.size := (Array.getElem?_eq_some_iff.1 S1'.out).1
              have K2 : Hid (CtT key s0 m A cap ao V W ∧ W.heap[S]? = some (.cells (sc (kw key)) 29)) := ⟨kt.on hB, by rw [hB.block _ lS]; exact S1'.out⟩
              clear hS hB kt K1' S1' B1' lb lS
              simp only [putL, Act.put, List.setIfInBounds_toArray, List.set_cons_succ, List.set_cons_zero, x9, x16]
              refine wpList_neqS rfl (.tmp 76) (.tmp 83) rfl rfl rfl ?_
              go_wp2
              go_roundw
              case rel => exact ⟨k + 1, by have := HQ.out; omega, by go_num, K2.out.1, K2.out.2⟩
              case measure => have := HQ.out; simp [intOf]; omega
        · obtain ⟨q, hq⟩ : ∃ q, 16 * k = q := ⟨_, rfl⟩
          have eq : 16 * (k : Int) = q := by omega
          have lq : ¬ (q : Int) < m := by omega
          have lk : (k : Int) ≤ 257 := by omega
          have KT : Hid (_) := kt
          clear hq hlt hk kt gS
          go_wp2_with fail
          have kt := KT.out
          by_cases h16 : m < 16
          · refine wp_region_slotsA 15 100 [85, 86, 87, 88, 89, 90, 91, 92, 93, 94, 95, 96, 97, 98, 99] (fun j v _ => cxS m j v) (by kernel_rfl) (by kernel_rfl) (by kernel_rfl) (by decide) rfl rfl (by decide) (by decide) (fun _ _ _ _ h _ => h) ?_ ?_
            · intro j hj a W hB hf hdep
              match j, hj with
              | 0, _ => exact stepV rfl rfl (execMvB rfl (hf 2 (by decide))) ⟨_, rfl, rfl, Below.refl _ _⟩
              | 1, _ => exact stepV rfl rfl (execLssI (q := 16) rfl (hdep _ rfl 0 rfl) rfl) ⟨_, rfl, by simp [cxS]; omega, Below.refl _ _⟩
              | 2, _ => exact stepV rfl rfl (execMvB rfl (hdep _ rfl 1 rfl)) ⟨_, rfl, rfl, Below.refl _ _⟩
              | 3, _ =>
                have g : a.eval (.tmp 87) = .bool true := hdep _ rfl 2 rfl
                exact stepU rfl (unwantedOf rfl (yieldedAt rfl rfl g)) ⟨_, rfl, rfl, Below.refl _ _⟩
              | 4, _ =>
                have g : a.eval (.tmp 87) = .bool true := hdep _ rfl 2 rfl
                exact stepU rfl (unwantedOf rfl (yieldedAt rfl rfl g)) ⟨_, rfl, rfl, Below.refl _ _⟩
              | 5, _ =>
                have g : a.eval (.tmp 87) = .bool true := hdep _ rfl 2 rfl
                exact stepU rfl (unwantedOf rfl (yieldedAt rfl rfl g)) ⟨_, rfl, rfl, Below.refl _ _⟩
              | 6, _ =>
                have g : a.eval (.tmp 87) = .bool true := hdep _ rfl 2 rfl
                exact stepU rfl (unwantedOf rfl (yieldedAt rfl rfl g)) ⟨_, rfl, rfl, Below.refl _ _⟩
              | 7, _ =>
                have g : a.eval (.tmp 87) = .bool true := hdep _ rfl 2 rfl
                exact stepU rfl (unwantedOf rfl (yieldedAt rfl rfl g)) ⟨_, rfl, rfl, Below.refl _ _⟩
              | 8, _ =>
                have g : a.eval (.tmp 87) = .bool true := hdep _ rfl 2 rfl
                exact stepU rfl (unwantedOf rfl (yieldedAt rfl rfl g)) ⟨_, rfl, rfl, Below.refl _ _⟩
              | 9, _ =>
                have g : a.eval (.tmp 87) = .bool true := hdep _ rfl 2 rfl
                exact stepU rfl (unwantedOf rfl (yieldedAt rfl rfl g)) ⟨_, rfl, rfl, Below.refl _ _⟩
              | 10, _ =>
                have g : a.eval (.tmp 87) = .bool true := hdep _ rfl 2 rfl
                exact stepU rfl (unwantedOf rfl (yieldedAt rfl rfl g)) ⟨_, rfl, rfl, Below.refl _ _⟩
              | 11, _ =>
                have g : a.eval (.tmp 87) = .bool true := hdep _ rfl 2 rfl
                exact stepU rfl (unwantedOf rfl (yieldedAt rfl rfl g)) ⟨_, rfl, rfl, Below.refl _ _⟩
              | 12, _ =>
                have g : a.eval (.tmp 87) = .bool true := hdep _ rfl 2 rfl
                exact stepU rfl (unwantedOf rfl (yieldedAt rfl rfl g)) ⟨_, rfl, rfl, Below.refl _ _⟩
              | 13, _ =>
                have g : a.eval (.tmp 87) = .bool true := hdep _ rfl 2 rfl
                exact stepU rfl (unwantedOf rfl (yieldedAt rfl rfl g)) ⟨_, rfl, rfl, Below.refl _ _⟩
              | 14, _ => exact stepV rfl rfl (execPick (b := true) rfl (hdep _ rfl 2 rfl) rfl) ⟨_, rfl, rfl, Below.refl _ _⟩
              | n + 15, h => exact absurd h (by omega)
            · intro x W hB hS
              have x14 : x 14 = .bool true := hS 14 (by omega)
              have K2 : Hid (_) := (kt.on hB).bel
              clear hS hB kt KT
              simp only [putL, Act.put, List.setIfInBounds_toArray, List.set_cons_succ, List.set_cons_zero, x14]
              go_wp2
              go_ret
              exact ⟨rfl, K2.out⟩
          · refine wp_region_slotsA 15 100 [85, 86, 87, 88, 89, 90, 91, 92, 93, 94, 95, 96, 97, 98, 99] (cwS key s0 m (.slice ao m cap)) (by kernel_rfl) (by kernel_rfl) (by kernel_rfl) (by decide) rfl rfl (by decide) (by decide) (fun _ _ _ _ h hb => cwS_on h hb) ?_ ?_
            · intro j hj a W hB hf hdep
              have kW := kt.on hB
              have lm := HM.out
              match j, hj with
              | 0, _ => exact stepV rfl rfl (execMvB rfl (hf 2 (by decide))) ⟨_, rfl, rfl, Below.refl _ _⟩
              | 1, _ => exact stepV rfl rfl (execLssI (q := 16) rfl (hdep _ rfl 0 rfl) rfl) ⟨_, rfl, by simp [cwS]; omega, Below.refl _ _⟩
              | 2, _ => exact stepV rfl rfl (execMvB rfl (hdep _ rfl 1 rfl)) ⟨_, rfl, rfl, Below.refl _ _⟩
              | 3, _ =>
                have g : a.eval (.tmp 87) = .bool false := hdep _ rfl 2 rfl
                exact stepV rfl (wantedOf rfl (yieldedAt rfl rfl g)) (execLoadRow rfl (hf 3 (by decide)) kW.kk Try.underlying23 rfl (size16 _)) ⟨_, rfl, rfl, Below.refl _ _⟩
              | 4, _ =>
                have g : a.eval (.tmp 87) = .bool false := hdep _ rfl 2 rfl
                exact stepV rfl (wantedOf rfl (yieldedAt rfl rfl g)) (execLoadRow rfl (hf 4 (by decide)) kW.st Try.underlying23 rfl (size16 _)) ⟨_, rfl, rfl, Below.refl _ _⟩
              | 5, _ =>
                have g : a.eval (.tmp 87) = .bool false := hdep _ rfl 2 rfl
                exact stepC rfl (wantedOf rfl (yieldedAt rfl rfl g)) (execCall2 Try.func24 (by kernel_rfl) (by kernel_rfl) rfl (hdep _ rfl 4 rfl) rfl) (up_any s0 1 W (by omega)) fun e w' h => ⟨_, h.1, _, rfl, rfl, h.2⟩
              | 6, _ =>
                have g : a.eval (.tmp 87) = .bool false := hdep _ rfl 2 rfl
                exact stepV rfl (wantedOf rfl (yieldedAt rfl rfl g)) (execMvB rfl (hf 2 (by decide))) ⟨_, rfl, rfl, Below.refl _ _⟩
              | 7, _ =>
                have g : a.eval (.tmp 87) = .bool false := hdep _ rfl 2 rfl
                exact stepV rfl (wantedOf rfl (yieldedAt rfl rfl g)) (execSubI (q := 16) rfl (hdep _ rfl 6 rfl) rfl (by omega) (by omega)) ⟨_, rfl, rfl, Below.refl _ _⟩
              | 8, _ =>
                have g : a.eval (.tmp 87) = .bool false := hdep _ rfl 2 rfl
                have R := HI.out.stream key (s0 + 1) ((m - 16 : Nat) : Int) W HK.out (by omega) (by omega)
                rw [slen_nat (by omega)] at R
                exact stepC rfl (wantedOf rfl (yieldedAt rfl rfl g)) (execCall3 Try.func11 (by kernel_rfl) (by kernel_rfl) rfl (hdep _ rfl 3 rfl) (hdep _ rfl 5 rfl) (hdep _ rfl 7 rfl)) R fun e w' h => by
                  obtain ⟨r, h1, h2, h3⟩ := h
                  exact ⟨r, h1, _, rfl, own_slice h2 (maskF_lt KW.out (s0 + 1) (fun _ _ => by omega)), h3⟩
              | 9, _ =>
                have g : a.eval (.tmp 87) = .bool false := hdep _ rfl 2 rfl
                have s8 : SliceN W (a.eval (.tmp 93)) (m - 16) (maskF (kw key) (s0 + 1) fun _ => 0) := hdep _ rfl 8 rfl
                exact stepV rfl (wantedOf rfl (yieldedAt rfl rfl g)) (execStr rfl rfl s8) ⟨_, rfl, rfl, Below.refl _ _⟩
              | 10, _ =>
                have g : a.eval (.tmp 87) = .bool false := hdep _ rfl 2 rfl
                exact stepV rfl (wantedOf rfl (yieldedAt rfl rfl g)) (execMvB rfl (hf 7 (by decide))) ⟨_, rfl, rfl, Below.refl _ _⟩
              | 11, _ =>
                have g : a.eval (.tmp 87) = .bool false := hdep _ rfl 2 rfl
                exact stepV rfl (wantedOf rfl (yieldedAt rfl rfl g)) (execSlL rfl (hdep _ rfl 10 rfl) rfl (slice_l _ _ _ 16 (by omega) W)) ⟨_, rfl, kW.sl.sub 16 m (by omega) (Nat.le_refl _), Below.refl _ _⟩
              | 12, _ =>
                have g : a.eval (.tmp 87) = .bool false := hdep _ rfl 2 rfl
                have s11 : SliceN W (a.eval (.tmp 96)) (m - 16) (fun j => maskF (kw key) s0 (fun _ => 0) (16 + j)) := hdep _ rfl 11 rfl
                exact stepV rfl (wantedOf rfl (yieldedAt rfl rfl g)) (execStrV rfl rfl s11 (strN_congr (fun j _ => (stream_on (kw key) s0 j).symm))) ⟨_, rfl, rfl, Below.refl _ _⟩
              | 13, _ =>
                have g : a.eval (.tmp 87) = .bool false := hdep _ rfl 2 rfl
                exact stepV rfl (wantedOf rfl (yieldedAt rfl rfl g)) (execEqlS rfl (hdep _ rfl 9 rfl) (hdep _ rfl 12 rfl)) ⟨_, rfl, rfl, Below.refl _ _⟩
              | 14, _ => exact stepV rfl rfl (execPick (b := false) rfl (hdep _ rfl 2 rfl) (hdep _ rfl 13 rfl)) ⟨_, rfl, rfl, Below.refl _ _⟩
              | n + 15, h => exact absurd h (by omega)
            · intro x W hB hS
              have x14 : x 14 = .bool true := hS 14 (by omega)
              have K2 : Hid (_) := (kt.on hB).bel
              clear hS hB kt KT
              simp only [putL, Act.put, List.setIfInBounds_toArray, List.set_cons_succ, List.set_cons_zero, x14]
              go_wp2
              go_ret
              exact ⟨rfl, K2.out⟩
theorem counts_law {sc : (Nat → Nat) → Array Value} (I : Impl sc) (key b : Nat → Nat) (n : Int) (V : World) (hk : By key) (hb : By b) :
    Calls Try.prog 8 #[.agg (bA 16 key), .agg (bA 16 b), .int .i64 n] V fun e w' => e = .returned (.bool true) ∧ Below V.heap.size V w' := by
  rw [bA_congr (be_num hb).symm]
  exact counts_at I key (num b) n V hk
end Go.Proofs.Ytealknodagdjaaa.Aes
