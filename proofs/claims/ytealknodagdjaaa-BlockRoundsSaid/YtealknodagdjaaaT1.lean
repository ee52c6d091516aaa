import Derived.Test.YtealknodagdjaaaT0
namespace Go.Proofs.Ytealknodagdjaaa.Aes
open Go.RowKit Gf8 By8

/-- What each of the first operations of 's, t := New(key), New(key)' yields. -/
def stS (sc : (Nat → Nat) → Array Value) (key : Nat → Nat) (L : Nat) (j : Nat) (r : Value) (W : World) : Prop :=
  match j with
  | 0 => r = .agg (bA 16 key) | 1 => r = .agg (sc (kw key)) | 2 => r = .agg (bA 16 key) | 3 => r = .agg (sc (kw key))
  | _ => ∃ b, r = .pointer (some ⟨b, 0, none⟩) ∧ L ≤ b ∧ W.heap[b]? = some (.cells (sc fun _ => 0) 29)
theorem stS_on {sc : (Nat → Nat) → Array Value} {key : Nat → Nat} {L j : Nat} {r : Value} {W W' : World} (h : stS sc key L j r W) (hb : Below W.heap.size W W') : stS sc key L j r W' := by
  match j, h with
  | 0, h => exact h
  | 1, h => exact h
  | 2, h => exact h
  | 3, h => exact h
  | n + 4, h =>
    obtain ⟨b, rfl, lb, gb⟩ := h
    exact ⟨b, rfl, lb, by rw [hb.block _ (Array.getElem?_eq_some_iff.1 gb).1]; exact gb⟩
theorem wpList_neq16 {ops : Array Oper} {rest : List Oper} {o : Oper} {a : Act} {w : World} {Q : Exit → Act → World → Prop} {f g : Nat → Nat} (hw : Region.wanted o (yielded ops a.tmps) = true) (x y : Operand) (ho : o.op = .binOp .neq 23 x y 23) (hx : a.eval x = .agg (bA 16 f)) (hy : a.eval y = .agg (bA 16 g)) (hfg : Eq16 f g)
    (h : wpList Try.prog ops Q rest (a.put o.dst (.bool false)) w) : wpList Try.prog ops Q (o :: rest) a w :=
  BigFrame.wpList_want hw fun K hK => by unfold Oper.wp; rw [exec_notsame16 ho hx hy hfg]; exact hK _ _ h
/-- The rows of BlockRounds. -/
structure RdT (sc : (Nat → Nat) → Array Value) (key : Nat → Nat) (A S T U : Nat) (V W : World) : Prop where
  kk : W.heap[A]? = some (.cells (bA 16 key) 23)
  ss : W.heap[S]? = some (.cells (sc (kw key)) 29)
  tt : W.heap[T]? = some (.cells (sc (kw key)) 29)
  uu : W.heap[U]? = some (.cells (sc (kw key)) 29)
  bel : Below V.heap.size V W
theorem RdT.on {sc : (Nat → Nat) → Array Value} {key : Nat → Nat} {A S T U : Nat} {V W W' : World} (h : RdT sc key A S T U V W) (hb : Below W.heap.size W W') : RdT sc key A S T U V W' := by
  have l (k : Nat) (c : Obj) (hc : W.heap[k]? = some c) : W'.heap[k]? = some c := by rw [hb.block _ (Array.getElem?_eq_some_iff.1 hc).1]; exact hc
  exact ⟨l _ _ h.kk, l _ _ h.ss, l _ _ h.tt, l _ _ h.uu, h.bel.trans (hb.mono h.bel.size)⟩
def rdS (sc : (Nat → Nat) → Array Value) (key : Nat → Nat) (i : Int) (j : Nat) (r : Value) : Prop :=
  match j with
  | 0 => r = .agg (sc (kw key)) | 1 => r = .int .i64 i | 2 => r = .agg (bA 16 (rkey (kw key) i)) | 3 => r = .agg (bA 16 key) | 4 => r = .int .i64 i | 5 => r = .agg (bA 16 (rkey (kw key) i)) | _ => r = .bool false
def reS (sc : (Nat → Nat) → Array Value) (key : Nat → Nat) (i : Int) (j : Nat) (r : Value) : Prop :=
  match j with
  | 0 => r = .agg (sc (kw key)) | 1 => r = .int .i64 i | 2 => r = .agg (bA 16 (rkey (kw key) i)) | 3 => r = .agg (bA 16 key) | 4 => r = .int .i64 i | 5 => r = .agg (bA 16 (rkey (kw key) i)) | 6 => r = .bool true | 7 => r = .bool true
  | 8 => r = .agg (sc (kw key)) | 9 => r = .agg (sc (kw key)) | 10 => r = .bool true | 11 => r = .bool true | 12 => r = .bool true | 13 => r = .agg (sc (kw key)) | 14 => r = .agg (sc (kw key)) | _ => r = .bool true

set_option maxRecDepth 20000 in
set_option maxHeartbeats 2000000 in
theorem rounds_any {sc : (Nat → Nat) → Array Value} (I : Impl sc) (key : Nat → Nat) (i : Int) (V : World) (hk : By key) (l0 : -9223372036854775808 ≤ i) (l1 : i < 9223372036854775808) :
    Calls Try.prog 4 #[.agg (bA 16 key), .int .i64 i] V fun e w' => e = .returned (.bool true) ∧ Below V.heap.size V w' := by
  have HI : Hid (Impl sc) := I
  have HK : Hid (By key) := hk
  have L0 : Hid (_) := l0
  have L1 : Hid (_) := l1
  have KW : Hid (∀ j, j < 176 → kw key j < 256) := kw_by key hk
  clear I hk l0 l1
  go_enter Try.func4, Try.ntmps4
  obtain ⟨A, hA⟩ : ∃ A, A = V.heap.size := ⟨_, rfl⟩
  have g0 := heapNew V (.cells (bA 16 key) 23)
  have b0 := belNew V (.cells (bA 16 key) 23)
  rw [← hA] at g0
  go_wp2_with (go_at_call 9; refine (alive_any HI.out _).mono ?_; rintro e w1 ⟨rfl, hb1⟩)
  have kA : w1.heap[A]? = some (.cells (bA 16 key) 23) := by rw [hb1.block _ (by rw [hA]; simp)]; exact g0
  have b1 : Below V.heap.size V w1 := b0.trans (hb1.mono b0.size)
  rw [← hA]
  clear g0 b0 hb1 hA
  have lA : A < w1.heap.size := (Array.getElem?_eq_some_iff.1 kA).1
  refine wp_region_slotsA 6 44 [11, 12, 13, 14, 5, 6] (stS sc key w1.heap.size) (by kernel_rfl) (by kernel_rfl) (by kernel_rfl) (by decide) rfl rfl (by decide) (by decide) (fun _ _ _ _ h hb => stS_on h hb) ?_ ?_
  · intro j hj a W hB hf hdep
    have gA : W.heap[A]? = some (.cells (bA 16 key) 23) := by rw [hB.block _ lA]; exact kA
    match j, hj with
    | 0, _ => exact stepV rfl rfl (execLoadRow rfl (hf 2 (by decide)) gA Try.underlying23 rfl (size16 _)) ⟨_, rfl, rfl, Below.refl _ _⟩
    | 1, _ => exact stepC rfl rfl (execCall1 Try.func12 (by kernel_rfl) (by kernel_rfl) rfl (hdep _ rfl 0 rfl)) (HI.out.new key W HK.out) fun e w' h => ⟨_, h.1, _, rfl, rfl, h.2⟩
    | 2, _ => exact stepV rfl rfl (execLoadRow rfl (hf 2 (by decide)) gA Try.underlying23 rfl (size16 _)) ⟨_, rfl, rfl, Below.refl _ _⟩
    | 3, _ => exact stepC rfl rfl (execCall1 Try.func12 (by kernel_rfl) (by kernel_rfl) rfl (hdep _ rfl 2 rfl)) (HI.out.new key W HK.out) fun e w' h => ⟨_, h.1, _, rfl, rfl, h.2⟩
    | 4, _ => exact stepV rfl rfl (execAllocS HI.out rfl) ⟨_, rfl, ⟨_, rfl, hB.size, heapNew W _⟩, belNew W _⟩
    | 5, _ => exact stepV rfl rfl (execAllocS HI.out rfl) ⟨_, rfl, ⟨_, rfl, hB.size, heapNew W _⟩, belNew W _⟩
    | n + 6, h => exact absurd h (by omega)
  · intro x W hB hS
    have x0 : x 0 = .agg (bA 16 key) := hS 0 (by omega)
    have x1 : x 1 = .agg (sc (kw key)) := hS 1 (by omega)
    have x2 : x 2 = .agg (bA 16 key) := hS 2 (by omega)
    have x3 : x 3 = .agg (sc (kw key)) := hS 3 (by omega)
    obtain ⟨S, x4, lS, gS⟩ := hS 4 (by omega)
    obtain ⟨T, x5, lT, gT⟩ := hS 5 (by omega)
    have gA : W.heap[A]? = some (.cells (bA 16 key) 23) := by rw [hB.block _ lA]; exact kA
    have bW : Below V.heap.size V W := b1.trans (hB.mono b1.size)
    have gT1 : ∃ c, (W.setRow S (sc (kw key))).heap[T]? = some (.cells (sc c) 29) := by
      by_cases e : T = S
      · subst e; exact ⟨_, setRow_heap _ _ _ _ _ _ gS⟩
      · exact ⟨_, by rw [setRow_other _ _ _ _ e]; exact gT⟩
    obtain ⟨c, gT1⟩ := gT1
    simp only [putL, Act.put, List.setIfInBounds_toArray, List.set_cons_succ, List.set_cons_zero, x0, x1, x2, x3, x4, x5]
    refine wpList_store_row rfl 29 (.tmp 5) (.tmp 12) rfl S _ rfl rfl 29 _ gS (HI.out.size _) (HI.out.sz _ _) (HI.out.one _) ?_
    refine wpList_store_row rfl 29 (.tmp 6) (.tmp 14) rfl T _ rfl rfl 29 _ gT1 (HI.out.size _) (HI.out.sz _ _) (HI.out.one _) ?_
    obtain ⟨W2, hW2⟩ : ∃ W2, W2 = (W.setRow S (sc (kw key))).setRow T (sc (kw key)) := ⟨_, rfl⟩
    have sS : W2.heap[S]? = some (.cells (sc (kw key)) 29) := by
      rw [hW2]
      by_cases e : S = T
      · subst e; exact setRow_heap _ _ _ _ _ _ gT1
      · rw [setRow_other _ _ _ _ e]; exact setRow_heap _ _ _ _ _ _ gS
    have sT : W2.heap[T]? = some (.cells (sc (kw key)) 29) := by rw [hW2]; exact setRow_heap _ _ _ _ _ _ gT1
    have sA : W2.heap[A]? = some (.cells (bA 16 key) 23) := by
      rw [hW2, setRow_other _ _ _ _ (by omega), setRow_other _ _ _ _ (by omega)]; exact gA
    have b2 : Below V.heap.size V W2 := by rw [hW2]; exact below4 (below4 bW (by have := b1.size; omega) _) (by have := b1.size; omega) _
    rw [← hW2]
    clear hW2 gT1 gA gS gT bW hS x0 x1 x2 x3 x4 x5 hB lS lT kA b1 lA
    have z := HI.out.zero
    have gU := heapNew W2 (.cells (sc fun _ => 0) 29)
    go_wp2_with (first
      | (refine atLoad 29 (.tmp 5) rfl ?_; go_must (refine wpList_load_row rfl 29 (.tmp 5) rfl S rfl 29 _ (0, 0) _ sS Try.underlying29 rfl (HI.out.size _) ?_; simp only [Act.put, List.setIfInBounds_toArray, List.set_cons_succ, List.set_cons_zero]))
      | (refine atStore 29 (.tmp 7) (.tmp 15) rfl ?_; go_must (refine wpList_store_row rfl 29 (.tmp 7) (.tmp 15) rfl W2.heap.size _ rfl rfl 29 _ gU (HI.out.size _) (HI.out.sz _ _) (HI.out.one _) ?_)))
    obtain ⟨U, hU⟩ : ∃ U, U = W2.heap.size := ⟨_, rfl⟩
    have t0 : RdT sc key A S T U V ((W2.alloc (.cells (sc fun _ => 0) 29)).setRow U (sc (kw key))) := by
      have old (k : Nat) (o : Obj) (h : W2.heap[k]? = some o) : ((W2.alloc (.cells (sc fun _ => 0) 29)).setRow U (sc (kw key))).heap[k]? = some o := by
        have l := (Array.getElem?_eq_some_iff.1 h).1
        rw [setRow_other _ _ _ _ (by omega), heapOld _ _ l]; exact h
      refine ⟨old _ _ sA, old _ _ sS, old _ _ sT, ?_, below4 (b2.trans ((belNew W2 _).mono b2.size)) (by have := b2.size; omega) _⟩
      rw [hU]; exact setRow_heap _ _ _ _ _ _ gU
    rw [← hU]
    have T0 : Hid (_) := t0
    clear t0 hU gU sS sT sA b2 z
    go_loopw [8] (fun x W => ∃ m : Nat, m ≤ 13 ∧ x = .int .i64 ((m : Int) - 1) ∧ RdT sc key A S T U V W) (fun x _ => (12 - intOf x).toNat)
    case atStart => exact ⟨0, by omega, rfl, T0.out⟩
    case round =>
      obtain ⟨m, hm, rfl, kt⟩ := hrel
      clear T0
      by_cases hlt : m < 13
      · obtain ⟨q, hq⟩ : ∃ q : Int, (m : Int) - 1 = q := ⟨_, rfl⟩
        rw [hq]
        have q1 : q ≤ 11 := by omega
        have q0 : -1 ≤ q := by omega
        have HQ : Hid ((m : Int) - 1 = q ∧ m < 13) := ⟨hq, hlt⟩
        clear hq hlt hm
        have KT : Hid (_) := kt
        clear kt
        go_wp2_with fail
        have kt := KT.out
        refine wp_region_slotsA 6 44 [20, 21, 22, 23, 24, 25] (fun j v _ => rdS sc key q j v) (by kernel_rfl) (by kernel_rfl) (by kernel_rfl) (by decide) rfl rfl (by decide) (by decide) (fun _ _ _ _ h _ => h) ?_ ?_
        · intro j hj a W hB hf hdep
          have kW := kt.on hB
          match j, hj with
          | 0, _ => exact stepV rfl rfl (execLoadRow rfl (hf 5 (by decide)) kW.ss Try.underlying29 rfl (HI.out.size _)) ⟨_, rfl, rfl, Below.refl _ _⟩
          | 1, _ => exact stepV rfl rfl (execMvB rfl (hf 8 (by decide))) ⟨_, rfl, rfl, Below.refl _ _⟩
          | 2, _ => exact stepC rfl rfl (execCall2 Try.func14 (by kernel_rfl) (by kernel_rfl) rfl (hdep _ rfl 0 rfl) (hdep _ rfl 1 rfl)) (HI.out.round (kw key) q W KW.out (by omega) (by omega)) fun e w' h => ⟨_, h.1, _, rfl, rfl, h.2⟩
          | 3, _ => exact stepV rfl rfl (execLoadRow rfl (hf 2 (by decide)) kW.kk Try.underlying23 rfl (size16 _)) ⟨_, rfl, rfl, Below.refl _ _⟩
          | 4, _ => exact stepV rfl rfl (execMvB rfl (hf 8 (by decide))) ⟨_, rfl, rfl, Below.refl _ _⟩
          | 5, _ => exact stepC rfl rfl (execCall2 Try.func15 (by kernel_rfl) (by kernel_rfl) rfl (hdep _ rfl 3 rfl) (hdep _ rfl 4 rfl)) (rround_any key q W HK.out) fun e w' h => ⟨_, h.1, _, rfl, rfl, h.2⟩
          | n + 6, h => exact absurd h (by omega)
        · intro x W hB hS
          have x2 : x 2 = .agg (bA 16 (rkey (kw key) q)) := hS 2 (by omega)
          have x5 : x 5 = .agg (bA 16 (rkey (kw key) q)) := hS 5 (by omega)
          have K2 : Hid (_) := kt.on hB
          clear hS hB kt KT
          simp only [putL, Act.put, List.setIfInBounds_toArray, List.set_cons_succ, List.set_cons_zero, x2, x5]
          refine wpList_neq16 rfl (.tmp 22) (.tmp 25) rfl rfl rfl (Eq16.refl _) ?_
          go_wp2
          go_roundw
          case rel => exact ⟨m + 1, by have := HQ.out; omega, by have := HQ.out; go_num, K2.out⟩
          case measure => have := HQ.out; simp [intOf]; omega
      · have em : m = 13 := by omega
        subst em
        have KT : Hid (_) := kt
        clear kt hm hlt
        go_wp2_with fail
        have kt := KT.out
        refine wp_region_slotsA 17 44 [27, 28, 29, 30, 31, 32, 33, 34, 35, 36, 37, 38, 39, 40, 41, 42, 43] (fun j v _ => reS sc key i j v) (by kernel_rfl) (by kernel_rfl) (by kernel_rfl) (by decide) rfl rfl (by decide) (by decide) (fun _ _ _ _ h _ => h) ?_ ?_
        · intro j hj a W hB hf hdep
          have kW := kt.on hB
          match j, hj with
          | 0, _ => exact stepV rfl rfl (execLoadRow rfl (hf 5 (by decide)) kW.ss Try.underlying29 rfl (HI.out.size _)) ⟨_, rfl, rfl, Below.refl _ _⟩
          | 1, _ => exact stepV rfl rfl (execMvB rfl (hf 1 (by decide))) ⟨_, rfl, rfl, Below.refl _ _⟩
          | 2, _ => exact stepC rfl rfl (execCall2 Try.func14 (by kernel_rfl) (by kernel_rfl) rfl (hdep _ rfl 0 rfl) (hdep _ rfl 1 rfl)) (HI.out.round (kw key) i W KW.out L0.out L1.out) fun e w' h => ⟨_, h.1, _, rfl, rfl, h.2⟩
          | 3, _ => exact stepV rfl rfl (execLoadRow rfl (hf 2 (by decide)) kW.kk Try.underlying23 rfl (size16 _)) ⟨_, rfl, rfl, Below.refl _ _⟩
          | 4, _ => exact stepV rfl rfl (execMvB rfl (hf 1 (by decide))) ⟨_, rfl, rfl, Below.refl _ _⟩
          | 5, _ => exact stepC rfl rfl (execCall2 Try.func15 (by kernel_rfl) (by kernel_rfl) rfl (hdep _ rfl 3 rfl) (hdep _ rfl 4 rfl)) (rround_any key i W HK.out) fun e w' h => ⟨_, h.1, _, rfl, rfl, h.2⟩
          | 6, _ => exact stepV rfl rfl (exec_same16 rfl (hdep _ rfl 2 rfl) (hdep _ rfl 5 rfl) (Eq16.refl _)) ⟨_, rfl, rfl, Below.refl _ _⟩
          | 7, _ => exact stepV rfl rfl (execMvB rfl (hdep _ rfl 6 rfl)) ⟨_, rfl, rfl, Below.refl _ _⟩
          | 8, _ =>
            have g : a.eval (.tmp 34) = .bool true := hdep _ rfl 7 rfl
            exact stepV rfl (wantedOf rfl (yieldedAt rfl rfl g)) (execLoadRow rfl (hf 5 (by decide)) kW.ss Try.underlying29 rfl (HI.out.size _)) ⟨_, rfl, rfl, Below.refl _ _⟩
          | 9, _ =>
            have g : a.eval (.tmp 34) = .bool true := hdep _ rfl 7 rfl
            exact stepV rfl (wantedOf rfl (yieldedAt rfl rfl g)) (execLoadRow rfl (hf 6 (by decide)) kW.tt Try.underlying29 rfl (HI.out.size _)) ⟨_, rfl, rfl, Below.refl _ _⟩
          | 10, _ =>
            have g : a.eval (.tmp 34) = .bool true := hdep _ rfl 7 rfl
            exact stepV rfl (wantedOf rfl (yieldedAt rfl rfl g)) (exec_sameS HI.out rfl (hdep _ rfl 8 rfl) (hdep _ rfl 9 rfl)) ⟨_, rfl, rfl, Below.refl _ _⟩
          | 11, _ => exact stepV rfl rfl (execPick (b := true) rfl (hdep _ rfl 7 rfl) (hdep _ rfl 10 rfl)) ⟨_, rfl, rfl, Below.refl _ _⟩
          | 12, _ => exact stepV rfl rfl (execMvB rfl (hdep _ rfl 11 rfl)) ⟨_, rfl, rfl, Below.refl _ _⟩
          | 13, _ =>
            have g : a.eval (.tmp 39) = .bool true := hdep _ rfl 12 rfl
            exact stepV rfl (wantedOf rfl (yieldedAt rfl rfl g)) (execLoadRow rfl (hf 7 (by decide)) kW.uu Try.underlying29 rfl (HI.out.size _)) ⟨_, rfl, rfl, Below.refl _ _⟩
          | 14, _ =>
            have g : a.eval (.tmp 39) = .bool true := hdep _ rfl 12 rfl
            exact stepV rfl (wantedOf rfl (yieldedAt rfl rfl g)) (execLoadRow rfl (hf 6 (by decide)) kW.tt Try.underlying29 rfl (HI.out.size _)) ⟨_, rfl, rfl, Below.refl _ _⟩
          | 15, _ =>
            have g : a.eval (.tmp 39) = .bool true := hdep _ rfl 12 rfl
            exact stepV rfl (wantedOf rfl (yieldedAt rfl rfl g)) (exec_sameS HI.out rfl (hdep _ rfl 13 rfl) (hdep _ rfl 14 rfl)) ⟨_, rfl, rfl, Below.refl _ _⟩
          | 16, _ => exact stepV rfl rfl (execPick (b := true) rfl (hdep _ rfl 12 rfl) (hdep _ rfl 15 rfl)) ⟨_, rfl, rfl, Below.refl _ _⟩
          | n + 17, h => exact absurd h (by omega)
        · intro x W hB hS
          have x16 : x 16 = .bool true := hS 16 (by omega)
          have K2 : Hid (_) := (kt.on hB).bel
          clear hS hB kt KT
          simp only [putL, Act.put, List.setIfInBounds_toArray, List.set_cons_succ, List.set_cons_zero, x16]
          go_wp2
          go_ret
          exact ⟨rfl, K2.out⟩
end Go.Proofs.Ytealknodagdjaaa.Aes
