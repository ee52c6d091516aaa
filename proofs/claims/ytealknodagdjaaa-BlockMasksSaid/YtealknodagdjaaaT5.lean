import Derived.Test.YtealknodagdjaaaT0
import Derived.Deep.MidRow
import Derived.Deep.DeepCutAuto
namespace Go.Proofs.Ytealknodagdjaaa.Aes
open Go.RowKit Gf8 By8

/-- A list of n blocks. -/
structure Blks (W : World) (v : Value) (n : Nat) (B : Nat → Nat → Nat) : Prop where
  shape : ∃ a cap, v = .slice a n cap ∧ n < 9223372036854775808 ∧ (0 < n → ∃ b off, a = some ⟨b, off, none⟩ ∧ b < W.heap.size ∧ ∀ i, i < n → ∀ j, j < 16 → W.cell? ⟨b, off + i * 16 + j, none⟩ = some (.int .u8 (B i j)))
  byte : ∀ i, i < n → By (B i)
theorem Blks.on {W W' : World} {v : Value} {n : Nat} {B : Nat → Nat → Nat} (h : Blks W v n B) (hb : Below W.heap.size W W') : Blks W' v n B := by
  obtain ⟨⟨a, cap, e, h1, h2⟩, hp⟩ := h
  refine ⟨⟨a, cap, e, h1, fun h0 => ?_⟩, hp⟩
  obtain ⟨b, off, e1, e2, e3⟩ := h2 h0
  exact ⟨b, off, e1, Nat.lt_of_lt_of_le e2 hb.size, fun i hi j hj => by rw [cell_below hb e2]; exact e3 i hi j hj⟩
section
variable {ops : Array Oper} {rest : List Oper} {o : Oper} {a : Act} {w : World} {Q : Exit → Act → World → Prop}
theorem atIdx {P : Program} (ty : TypeId) (x i : Operand) (_ : o.op = .indexAddr ty x i) (h : wpList P ops Q (o :: rest) a w) : wpList P ops Q (o :: rest) a w := h
theorem execIdxBlk {x i : Operand} {b off n cap k : Nat} (ho : o.op = .indexAddr 35 x i) (hx : a.eval x = .slice (some ⟨b, off, none⟩) n cap) (hi : a.eval i = .int .i64 (k : Int)) (hk : k < n) : (execOp a.eval o).run Try.prog w = .ok (.value (.pointer (some ⟨b, off + k * 16, none⟩))) w := by
  have h1 : (k : Int) < n := by omega
  unfold execOp
  simp only [ho, hx, hi]
  simp [go_sem, h1]
theorem wpList_valB {P : Program} (hgd : o.guard = none) (v : Value) (hv : (execOp a.eval o).run P w = .ok (.value v) w) (h : wpList P ops Q rest (a.put o.dst v) w) : wpList P ops Q (o :: rest) a w :=
  wpList_plain hgd fun K hK => by unfold Oper.wp; rw [hv]; exact hK _ _ h
theorem range16 {b off : Nat} {f : Nat → Nat} (h : ∀ j, j < 16 → w.cell? ⟨b, off + j, none⟩ = some (.int .u8 (f j))) : w.rangeAt b off (bytesL 16 f) := by
  intro j v hv
  have lj : j < 16 := by have := (List.getElem?_eq_some_iff.1 hv).1; rw [bytesL_len] at this; exact this
  rw [bytesL_at 16 f lj] at hv
  rw [h j lj]; exact hv
theorem len16 (f : Nat → Nat) : (Try.prog.info? 23).map (·.size) = some (bytesL 16 f).length := by rw [bytesL_len]; kernel_rfl
end
/-- The rows of BlockCrypts. -/
structure CrT (sc : (Nat → Nat) → Array Value) (A S : Nat) (key : Nat → Nat) (V W : World) : Prop where
  kk : W.heap[A]? = some (.cells (bA 16 key) 23)
  ss : W.heap[S]? = some (.cells (sc (kw key)) 29)
  nn : W.heap[S + 1]? = some (.cells (sc fun _ => 0) 29)
  bel : Below V.heap.size V W
theorem CrT.on {sc : (Nat → Nat) → Array Value} {A S : Nat} {key : Nat → Nat} {V W W' : World} (t : CrT sc A S key V W) (hb : Below W.heap.size W W') : CrT sc A S key V W' := by
  have l (k : Nat) (c : Obj) (hc : W.heap[k]? = some c) : W'.heap[k]? = some c := by rw [hb.block _ (Array.getElem?_eq_some_iff.1 hc).1]; exact hc
  exact ⟨l _ _ t.kk, l _ _ t.ss, l _ _ t.nn, t.bel.trans (hb.mono t.bel.size)⟩

/-- What each operation of BlockCrypts' region yields. -/
def crS (sc : (Nat → Nat) → Array Value) (key f : Nat → Nat) (j : Nat) (r : Value) : Prop :=
  match j with
  | 0 => r = .agg (sc (kw key)) | 1 => r = .agg (bA 16 f) | 2 => r = .agg (bA 16 (enc (kw key) f)) | 3 => r = .agg (bA 16 key) | 4 => r = .agg (bA 16 f) | 5 => r = .agg (bA 16 (enc (kw key) f)) | 8 => r = .agg (sc (kw key)) | 9 => r = .agg (bA 16 f) | 10 => r = .agg (bA 16 (dec (kw key) f)) | 11 => r = .agg (bA 16 key) | 12 => r = .agg (bA 16 f) | 13 => r = .agg (bA 16 (dec (kw key) f)) | 17 => r = .agg (sc fun _ => 0) | 18 => r = .agg (bA 16 f) | 19 => r = .agg (bA 16 (enc (fun _ => 0) f)) | 20 => r = .agg (bA 176 fun _ => 0) | 21 => r = .agg (bA 16 f) | 22 => r = .agg (bA 16 (enc (fun _ => 0) f)) | 26 => r = .agg (sc fun _ => 0) | 27 => r = .agg (sc fun _ => 0) | 28 => r = .agg (bA 16 f) | 29 => r = .agg (bA 16 (enc (fun _ => 0) f)) | 30 => r = .agg (bA 16 (dec (fun _ => 0) (enc (fun _ => 0) f))) | 31 => r = .agg (bA 16 f) | _ => r = .bool false
theorem exec_differ16 {o : Oper} {a : Act} {w : World} {f g : Nat → Nat} {x y : Operand} (ho : o.op = .binOp .neq 23 x y 23) (hx : a.eval x = .agg (bA 16 f)) (hy : a.eval y = .agg (bA 16 g)) (h : Eq16 f g) :
    (execOp a.eval o).run Try.prog w = .ok (.value (.bool false)) w := by
  have e := exec_neq16 (w := w) ho hx hy
  rw [eqB_true h] at e
  exact e
theorem exec_built176 {o : Oper} {a : Act} {w : World} (ho : o.op = .build 38 #[]) : (execOp a.eval o).run Try.prog w = .ok (.value (.agg (bA 176 fun _ => 0))) w := by
  unfold execOp
  have e0 : ((#[] : Array (Nat × Operand)).map fun (i, x) => (i, a.eval x)) = #[] := by simp
  have hb : Try.prog.built 38 (#[] : Array (Nat × Value)).toList = some (bA 176 fun _ => 0) := by kernel_rfl
  simp only [ho, e0, Sem.run_bind, run_build w 38 #[] _ hb, Result.andThen_ok, Sem.run_pure]
theorem wpList_loadBlk {ops : Array Oper} {rest : List Oper} {op : Oper} {a : Act} {w : World} {Q : Exit → Act → World → Prop} (hgd : op.guard = none) (x : Operand) (ho : op.op = .load 23 x)
    (b o : Nat) (hx : a.eval x = .pointer (some ⟨b, o, none⟩)) (f : Nat → Nat) (h : ∀ j, j < 16 → w.cell? ⟨b, o + j, none⟩ = some (.int .u8 (f j)))
    (hh : wpList Try.prog ops Q rest (a.put op.dst (.agg (bA 16 f))) w) : wpList Try.prog ops Q (op :: rest) a w :=
  wpList_load_mid hgd 23 x ho b o hx (bytesL 16 f) _ (range16 h) Try.underlying23 rfl (len16 f) hh

set_option maxRecDepth 20000 in
set_option maxHeartbeats 4000000 in
theorem crypts_any {sc : (Nat → Nat) → Array Value} (I : Impl sc) (key : Nat → Nat) (v : Value) (n : Nat) (B : Nat → Nat → Nat) (V : World) (hk : By key) (hv : Blks V v n B) :
    Calls Try.prog 5 #[.agg (bA 16 key), v] V fun e w' => e = .returned (.bool true) ∧ Below V.heap.size V w' := by
  have HI : Hid (Impl sc) := I
  have HK : Hid (By key) := hk
  have HV : Hid (Blks V v n B) := hv
  have KW : Hid (∀ j, j < 176 → kw key j < 256) := kw_by key hk
  obtain ⟨av, cap, rfl, hn, -⟩ := hv.shape
  clear I hk hv
  go_enter Try.func5, Try.ntmps5
  obtain ⟨A, hA⟩ : ∃ A, A = V.heap.size := ⟨_, rfl⟩
  have VA : Hid (V.heap.size = A) := hA.symm
  clear hA
  have z := HI.out.zero
  go_wp2_with (first
    | (go_at_call 9; refine (alive_any HI.out _).mono ?_; rintro e w1 ⟨rfl, hb1⟩; have k0 : w1.heap[V.heap.size]? = some (.cells (bA 16 key) 23) := (by rw [hb1.block _ (by simp)]; exact heapNew V _); have c1 : Below V.heap.size V w1 := (belNew V _).trans (hb1.mono (by simp)))
    | (refine atLoad 23 (.tmp 2) rfl ?_; go_must (refine wpList_load_row rfl 23 (.tmp 2) rfl V.heap.size rfl 23 _ (0, 0) _ k0 Try.underlying23 rfl (size16 _) ?_; simp only [Act.put, List.setIfInBounds_toArray, List.set_cons_succ, List.set_cons_zero]))
    | (go_at_call 12; refine (HI.out.new key _ HK.out).mono ?_; rintro e w2 ⟨rfl, hb2⟩)
    | (refine atStore 29 (.tmp 5) (.tmp 12) rfl ?_; go_must (refine wpList_store_row rfl 29 (.tmp 5) (.tmp 12) rfl w2.heap.size _ rfl rfl 29 _ (heapNew w2 _) (HI.out.size _) (HI.out.sz _ _) (HI.out.one _) ?_)))
  obtain ⟨S, hS⟩ : ∃ S, S = w2.heap.size := ⟨_, rfl⟩
  obtain ⟨W0, hW0⟩ : ∃ W0, W0 = ((w2.alloc (.cells (sc fun _ => 0) 29)).setRow w2.heap.size (sc (kw key))).alloc (.cells (sc fun _ => 0) 29) := ⟨_, rfl⟩
  have l1 : V.heap.size < w1.heap.size := (Array.getElem?_eq_some_iff.1 k0).1
  have l2 := hb2.size
  have hsz : ((w2.alloc (.cells (sc fun _ => 0) 29)).setRow w2.heap.size (sc (kw key))).heap.size = w2.heap.size + 1 := by simp
  have KT : Hid (CrT sc A S key V W0) := by
    have c2 := c1.trans (hb2.mono c1.size)
    have c3 : Below V.heap.size V ((w2.alloc (.cells (sc fun _ => 0) 29)).setRow w2.heap.size (sc (kw key))) := below4 (c2.trans ((belNew w2 _).mono c2.size)) c2.size _
    refine ⟨?_, ?_, ?_, ?_⟩
    · rw [hW0, heapOld _ _ (by have := VA.out; omega), setRow_other _ _ _ _ (by have := VA.out; omega), heapOld _ _ (by have := VA.out; omega), hb2.block _ (by have := VA.out; omega), ← VA.out]; exact k0
    · rw [hW0, hS, heapOld _ _ (by omega)]; exact setRow_heap _ _ _ _ _ _ (heapNew w2 _)
    · rw [hW0, hS, ← hsz]; exact heapNew _ _
    · rw [hW0]; exact c3.trans ((belNew _ _).mono c3.size)
  rw [← hW0, ← hS, VA.out]
  clear hW0 hS hsz l1 l2 k0 c1 hb1 hb2 z
  go_loopw [7] (fun x W => ∃ k : Nat, k ≤ n ∧ x = .int .i64 k ∧ CrT sc A S key V W) (fun x _ => n - (intOf x).toNat)
  case atStart => exact ⟨0, by omega, rfl, KT.out⟩
  case round =>
    obtain ⟨k, hk, rfl, kt⟩ := hrel
    have KT : Hid (CrT sc A S key V wr) := kt
    clear kt
    have kn : (k : Int) < 9223372036854775808 := by omega
    by_cases hlt : k < n
    · have k1 : (k : Int) < n := by omega
      have blk := HV.out.on (KT.out.bel)
      obtain ⟨a', cap', e', -, h'⟩ := blk.shape
      obtain ⟨b, off, ea, lb, hc⟩ := h' (by omega)
      have hcell := hc k hlt
      have fb := blk.byte k hlt
      obtain ⟨f, hf⟩ : ∃ f, B k = f := ⟨_, rfl⟩
      rw [hf] at hcell fb
      have FB : Hid (By f) := fb
      have HC : Hid (∀ j, j < 16 → wr.cell? ⟨b, off + k * 16 + j, none⟩ = some (.int .u8 (f j))) := hcell
      have eav : av = some ⟨b, off, none⟩ := by
        injection e' with e1 _ _
        rw [e1]; exact ea
      subst eav
      have HL : Hid (k < n) := hlt
      clear blk h' hc hcell fb e' ea lb hf hlt
      have z := zero16
      go_upto_region 9 with (first
        | (refine atIdx 35 (.tmp 19) (.tmp 20) rfl ?_; go_must (refine wpList_valB rfl _ (execIdxBlk rfl rfl rfl HL.out) ?_; simp only [Act.put, List.setIfInBounds_toArray, List.set_cons_succ, List.set_cons_zero]))
        | (refine atLoad 23 (.tmp 21) rfl ?_; go_must (refine wpList_loadBlk rfl (.tmp 21) rfl b (off + k * 16) rfl f HC.out ?_; simp only [Act.put, List.setIfInBounds_toArray, List.set_cons_succ, List.set_cons_zero]))
        | (refine atStore 23 (.tmp 8) (.tmp 22) rfl ?_; go_must (refine wpList_store_row rfl 23 (.tmp 8) (.tmp 22) rfl wr.heap.size _ rfl rfl 23 _ (heapNew wr _) (size16 _) rfl (bA_one _ _) ?_)))
      obtain ⟨b8, hb8⟩ : ∃ b8, b8 = wr.heap.size := ⟨_, rfl⟩
      obtain ⟨W1, hW1⟩ : ∃ W1, W1 = (wr.alloc (.cells (bA 16 fun _ => 0) 23)).setRow wr.heap.size (bA 16 f) := ⟨_, rfl⟩
      have hb : Below wr.heap.size wr W1 := by rw [hW1]; exact below4 (belNew wr _) (Nat.le_refl _) _
      have K1 : Hid (CrT sc A S key V W1 ∧ W1.heap[b8]? = some (.cells (bA 16 f) 23)) := ⟨KT.out.on hb, by rw [hW1, hb8]; exact setRow_heap _ _ _ _ _ _ (heapNew wr _)⟩
      rw [← hW1, ← hb8]
      clear hW1 hb8 hb KT HC z
      have z176 : ∀ j, j < 176 → (fun _ : Nat => 0) j < 256 := fun _ _ => Nat.zero_lt_succ _
      refine wp_region_slotsA 34 57 [23, 24, 25, 26, 27, 28, 29, 30, 31, 32, 33, 34, 35, 36, 37, 38, 39, 40, 41, 42, 43, 44, 45, 46, 47, 48, 49, 50, 51, 52, 53, 54, 55, 56] (fun j r _ => crS sc key f j r) (by kernel_rfl) (by kernel_rfl) (by kernel_rfl) (by decide) rfl rfl (by decide) (by decide) (fun _ _ _ _ h _ => h) ?_ ?_
      · intro j hj a W hB hf hdep
        have kW := K1.out.1.on hB
        have kb : W.heap[b8]? = some (.cells (bA 16 f) 23) := by rw [hB.block _ (Array.getElem?_eq_some_iff.1 K1.out.2).1]; exact K1.out.2
        match j, hj with
        | 0, _ => exact stepV rfl rfl (execLoadRow rfl (hf 5 (by decide)) kW.ss Try.underlying29 rfl (HI.out.size _)) ⟨_, rfl, rfl, Below.refl _ _⟩
        | 1, _ => exact stepV rfl rfl (execLoadRow rfl (hf 8 (by decide)) kb Try.underlying23 rfl (size16 _)) ⟨_, rfl, rfl, Below.refl _ _⟩
        | 2, _ => exact stepC rfl rfl (execCall2 Try.func13 (by kernel_rfl) (by kernel_rfl) rfl (hdep _ rfl 0 rfl) (hdep _ rfl 1 rfl)) (HI.out.encr (kw key) f W KW.out FB.out) fun e w' h => ⟨_, h.1, _, rfl, rfl, h.2⟩
        | 3, _ => exact stepV rfl rfl (execLoadRow rfl (hf 2 (by decide)) kW.kk Try.underlying23 rfl (size16 _)) ⟨_, rfl, rfl, Below.refl _ _⟩
        | 4, _ => exact stepV rfl rfl (execLoadRow rfl (hf 8 (by decide)) kb Try.underlying23 rfl (size16 _)) ⟨_, rfl, rfl, Below.refl _ _⟩
        | 5, _ => exact stepC rfl rfl (execCall2 Try.func16 (by kernel_rfl) (by kernel_rfl) rfl (hdep _ rfl 3 rfl) (hdep _ rfl 4 rfl)) (rencrypt_any key f W HK.out FB.out) fun e w' h => ⟨_, h.1, _, rfl, rfl, h.2⟩
        | 6, _ => exact stepV rfl rfl (exec_differ16 rfl (hdep _ rfl 2 rfl) (hdep _ rfl 5 rfl) (fun _ _ => rfl)) ⟨_, rfl, rfl, Below.refl _ _⟩
        | 7, _ => exact stepV rfl rfl (execMvB rfl (hdep _ rfl 6 rfl)) ⟨_, rfl, rfl, Below.refl _ _⟩
        | 8, _ =>
            have g : a.eval (.tmp 30) = .bool false := hdep _ rfl 7 rfl
            exact stepV rfl (wantedOf rfl (yieldedAt rfl rfl g)) (execLoadRow rfl (hf 5 (by decide)) kW.ss Try.underlying29 rfl (HI.out.size _)) ⟨_, rfl, rfl, Below.refl _ _⟩
        | 9, _ =>
            have g : a.eval (.tmp 30) = .bool false := hdep _ rfl 7 rfl
            exact stepV rfl (wantedOf rfl (yieldedAt rfl rfl g)) (execLoadRow rfl (hf 8 (by decide)) kb Try.underlying23 rfl (size16 _)) ⟨_, rfl, rfl, Below.refl _ _⟩
        | 10, _ =>
            have g : a.eval (.tmp 30) = .bool false := hdep _ rfl 7 rfl
            exact stepC rfl (wantedOf rfl (yieldedAt rfl rfl g)) (execCall2 Try.func17 (by kernel_rfl) (by kernel_rfl) rfl (hdep _ rfl 8 rfl) (hdep _ rfl 9 rfl)) (HI.out.decr (kw key) f W KW.out FB.out) fun e w' h => ⟨_, h.1, _, rfl, rfl, h.2⟩
        | 11, _ =>
            have g : a.eval (.tmp 30) = .bool false := hdep _ rfl 7 rfl
            exact stepV rfl (wantedOf rfl (yieldedAt rfl rfl g)) (execLoadRow rfl (hf 2 (by decide)) kW.kk Try.underlying23 rfl (size16 _)) ⟨_, rfl, rfl, Below.refl _ _⟩
        | 12, _ =>
            have g : a.eval (.tmp 30) = .bool false := hdep _ rfl 7 rfl
            exact stepV rfl (wantedOf rfl (yieldedAt rfl rfl g)) (execLoadRow rfl (hf 8 (by decide)) kb Try.underlying23 rfl (size16 _)) ⟨_, rfl, rfl, Below.refl _ _⟩
        | 13, _ =>
            have g : a.eval (.tmp 30) = .bool false := hdep _ rfl 7 rfl
            exact stepC rfl (wantedOf rfl (yieldedAt rfl rfl g)) (execCall2 Try.func18 (by kernel_rfl) (by kernel_rfl) rfl (hdep _ rfl 11 rfl) (hdep _ rfl 12 rfl)) (rdecrypt_any key f W HK.out FB.out) fun e w' h => ⟨_, h.1, _, rfl, rfl, h.2⟩
        | 14, _ =>
            have g : a.eval (.tmp 30) = .bool false := hdep _ rfl 7 rfl
            exact stepV rfl (wantedOf rfl (yieldedAt rfl rfl g)) (exec_differ16 rfl (hdep _ rfl 10 rfl) (hdep _ rfl 13 rfl) (fun _ _ => rfl)) ⟨_, rfl, rfl, Below.refl _ _⟩
        | 15, _ => exact stepV rfl rfl (execPick (b := false) rfl (hdep _ rfl 7 rfl) (hdep _ rfl 14 rfl)) ⟨_, rfl, rfl, Below.refl _ _⟩
        | 16, _ => exact stepV rfl rfl (execMvB rfl (hdep _ rfl 15 rfl)) ⟨_, rfl, rfl, Below.refl _ _⟩
        | 17, _ =>
            have g : a.eval (.tmp 39) = .bool false := hdep _ rfl 16 rfl
            exact stepV rfl (wantedOf rfl (yieldedAt rfl rfl g)) (execLoadRow rfl (hf 6 (by decide)) kW.nn Try.underlying29 rfl (HI.out.size _)) ⟨_, rfl, rfl, Below.refl _ _⟩
        | 18, _ =>
            have g : a.eval (.tmp 39) = .bool false := hdep _ rfl 16 rfl
            exact stepV rfl (wantedOf rfl (yieldedAt rfl rfl g)) (execLoadRow rfl (hf 8 (by decide)) kb Try.underlying23 rfl (size16 _)) ⟨_, rfl, rfl, Below.refl _ _⟩
        | 19, _ =>
            have g : a.eval (.tmp 39) = .bool false := hdep _ rfl 16 rfl
            exact stepC rfl (wantedOf rfl (yieldedAt rfl rfl g)) (execCall2 Try.func13 (by kernel_rfl) (by kernel_rfl) rfl (hdep _ rfl 17 rfl) (hdep _ rfl 18 rfl)) (HI.out.encr (fun _ => 0) f W z176 FB.out) fun e w' h => ⟨_, h.1, _, rfl, rfl, h.2⟩
        | 20, _ =>
            have g : a.eval (.tmp 39) = .bool false := hdep _ rfl 16 rfl
            exact stepV rfl (wantedOf rfl (yieldedAt rfl rfl g)) (exec_built176 rfl) ⟨_, rfl, rfl, Below.refl _ _⟩
        | 21, _ =>
            have g : a.eval (.tmp 39) = .bool false := hdep _ rfl 16 rfl
            exact stepV rfl (wantedOf rfl (yieldedAt rfl rfl g)) (execLoadRow rfl (hf 8 (by decide)) kb Try.underlying23 rfl (size16 _)) ⟨_, rfl, rfl, Below.refl _ _⟩
        | 22, _ =>
            have g : a.eval (.tmp 39) = .bool false := hdep _ rfl 16 rfl
            exact stepC rfl (wantedOf rfl (yieldedAt rfl rfl g)) (execCall2 Try.func19 (by kernel_rfl) (by kernel_rfl) rfl (hdep _ rfl 20 rfl) (hdep _ rfl 21 rfl)) (with_any (fun _ => 0) f W FB.out z176) fun e w' h => ⟨_, h.1, _, rfl, rfl, h.2⟩
        | 23, _ =>
            have g : a.eval (.tmp 39) = .bool false := hdep _ rfl 16 rfl
            exact stepV rfl (wantedOf rfl (yieldedAt rfl rfl g)) (exec_differ16 rfl (hdep _ rfl 19 rfl) (hdep _ rfl 22 rfl) (fun _ _ => rfl)) ⟨_, rfl, rfl, Below.refl _ _⟩
        | 24, _ => exact stepV rfl rfl (execPick (b := false) rfl (hdep _ rfl 16 rfl) (hdep _ rfl 23 rfl)) ⟨_, rfl, rfl, Below.refl _ _⟩
        | 25, _ => exact stepV rfl rfl (execMvB rfl (hdep _ rfl 24 rfl)) ⟨_, rfl, rfl, Below.refl _ _⟩
        | 26, _ =>
            have g : a.eval (.tmp 48) = .bool false := hdep _ rfl 25 rfl
            exact stepV rfl (wantedOf rfl (yieldedAt rfl rfl g)) (execLoadRow rfl (hf 6 (by decide)) kW.nn Try.underlying29 rfl (HI.out.size _)) ⟨_, rfl, rfl, Below.refl _ _⟩
        | 27, _ =>
            have g : a.eval (.tmp 48) = .bool false := hdep _ rfl 25 rfl
            exact stepV rfl (wantedOf rfl (yieldedAt rfl rfl g)) (execLoadRow rfl (hf 6 (by decide)) kW.nn Try.underlying29 rfl (HI.out.size _)) ⟨_, rfl, rfl, Below.refl _ _⟩
        | 28, _ =>
            have g : a.eval (.tmp 48) = .bool false := hdep _ rfl 25 rfl
            exact stepV rfl (wantedOf rfl (yieldedAt rfl rfl g)) (execLoadRow rfl (hf 8 (by decide)) kb Try.underlying23 rfl (size16 _)) ⟨_, rfl, rfl, Below.refl _ _⟩
        | 29, _ =>
            have g : a.eval (.tmp 48) = .bool false := hdep _ rfl 25 rfl
            exact stepC rfl (wantedOf rfl (yieldedAt rfl rfl g)) (execCall2 Try.func13 (by kernel_rfl) (by kernel_rfl) rfl (hdep _ rfl 27 rfl) (hdep _ rfl 28 rfl)) (HI.out.encr (fun _ => 0) f W z176 FB.out) fun e w' h => ⟨_, h.1, _, rfl, rfl, h.2⟩
        | 30, _ =>
            have g : a.eval (.tmp 48) = .bool false := hdep _ rfl 25 rfl
            exact stepC rfl (wantedOf rfl (yieldedAt rfl rfl g)) (execCall2 Try.func17 (by kernel_rfl) (by kernel_rfl) rfl (hdep _ rfl 26 rfl) (hdep _ rfl 29 rfl)) (HI.out.decr (fun _ => 0) _ W z176 (enc_by z176 FB.out)) fun e w' h => ⟨_, h.1, _, rfl, rfl, h.2⟩
        | 31, _ =>
            have g : a.eval (.tmp 48) = .bool false := hdep _ rfl 25 rfl
            exact stepV rfl (wantedOf rfl (yieldedAt rfl rfl g)) (execLoadRow rfl (hf 8 (by decide)) kb Try.underlying23 rfl (size16 _)) ⟨_, rfl, rfl, Below.refl _ _⟩
        | 32, _ =>
            have g : a.eval (.tmp 48) = .bool false := hdep _ rfl 25 rfl
            exact stepV rfl (wantedOf rfl (yieldedAt rfl rfl g)) (exec_differ16 rfl (hdep _ rfl 30 rfl) (hdep _ rfl 31 rfl) (dec_enc z176 FB.out)) ⟨_, rfl, rfl, Below.refl _ _⟩
        | 33, _ => exact stepV rfl rfl (execPick (b := false) rfl (hdep _ rfl 25 rfl) (hdep _ rfl 32 rfl)) ⟨_, rfl, rfl, Below.refl _ _⟩
        | n + 34, h => exact absurd h (by omega)
      · intro x W hB hS
        have x33 : x 33 = .bool false := hS 33 (by omega)
        have KT : Hid (CrT sc A S key V W) := K1.out.1.on hB
        clear hS hB K1
        simp only [putL, Act.put, List.setIfInBounds_toArray, List.set_cons_succ, List.set_cons_zero, x33]
        have kn' : (k : Int) + 1 < 9223372036854775808 := by have := HL.out; omega
        go_wp2
        go_roundw
        case rel => exact ⟨k + 1, by have := HL.out; omega, by go_num, KT.out⟩
        case measure => have := HL.out; simp [intOf]; omega
    · have k1 : ¬ (k : Int) < n := by omega
      clear hlt
      go_wp2
      go_ret
      exact ⟨rfl, KT.out.bel⟩
end Go.Proofs.Ytealknodagdjaaa.Aes
