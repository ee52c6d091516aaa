import Derived.Test.YtealknodagdjaaaT3
import Derived.Test.YtealknodagdjaaaK4
namespace Go.Proofs.Ytealknodagdjaaa.Aes
open Go.RowKit Gf8 By8

/-- The greatest start. -/
def top : Nat := 340282366920938463463374607431768211455
theorem top_all : ∀ j : Fin 16, be top j.val = 255 := by decide +kernel
theorem over_all : ∀ j : Fin 16, be (top + 1) j.val = 0 := by decide +kernel
theorem over_col : bA 16 (be (top + 1)) = bA 16 fun _ => 0 := bA_congr fun j hj => over_all ⟨j, hj⟩
theorem own_shapeN {W : World} {B n : Nat} {v : Value} {xs : List Value} (h : W.ownsRow B 5 1 v n xs) : ∃ ao cap, v = .slice ao n cap := by
  rcases h.2 with ⟨rfl, rfl⟩ | ⟨g, cap, cur, rfl, _⟩
  · exact ⟨_, _, rfl⟩
  · exact ⟨_, _, rfl⟩
theorem slen_32 : slen 32 = 32 := rfl
theorem slen_top : slen 65536 = 65536 := rfl
theorem slen_over : slen 65537 = 0 := rfl
theorem slen_neg : slen (-1) = 0 := rfl
/-- The rows of BlockExamples. -/
structure ExT (A C : Nat) (h : Nat → Nat) (V W : World) : Prop where
  zz : W.heap[A]? = some (.cells (bA 16 fun _ => 0) 23)
  hh : W.heap[A + 1]? = some (.cells (bA 16 h) 23)
  kk : W.heap[C]? = some (.cells (bA 16 (countF 3)) 23)
  bel : Below V.heap.size V W
theorem ExT.on {A C : Nat} {h : Nat → Nat} {V W W' : World} (t : ExT A C h V W) (hb : Below W.heap.size W W') : ExT A C h V W' := by
  have l (k : Nat) (c : Obj) (hc : W.heap[k]? = some c) : W'.heap[k]? = some c := by rw [hb.block _ (Array.getElem?_eq_some_iff.1 hc).1]; exact hc
  exact ⟨l _ _ t.zz, l _ _ t.hh, l _ _ t.kk, t.bel.trans (hb.mono t.bel.size)⟩
def eaS (sc : (Nat → Nat) → Array Value) (L : Nat) (j : Nat) (r : Value) (W : World) : Prop :=
  match j with
  | 0 => r = .agg (bA 16 (countF 3)) | 1 => r = .agg (sc (kw (countF 3))) | 2 => r = .agg (bA 16 (be top)) | 3 => r = .agg (bA 16 (enc (kw (countF 3)) (be top))) | 4 => r = .agg (bA 16 (countF 3)) | 5 => r = .agg (sc (kw (countF 3))) | 6 => r = .agg (bA 16 (be (top + 1))) | 7 => r = .agg (bA 16 (enc (kw (countF 3)) (be (top + 1))))
  | _ => ∃ b, r = .pointer (some ⟨b, 0, none⟩) ∧ L ≤ b ∧ W.heap[b]? = some (.cells (bA 16 fun _ => 0) 23)
theorem eaS_on {sc : (Nat → Nat) → Array Value} {L j : Nat} {r : Value} {W W' : World} (h : eaS sc L j r W) (hb : Below W.heap.size W W') : eaS sc L j r W' := by
  match j, h with
  | 0, h => exact h
  | 1, h => exact h
  | 2, h => exact h
  | 3, h => exact h
  | 4, h => exact h
  | 5, h => exact h
  | 6, h => exact h
  | 7, h => exact h
  | n + 8, h =>
    obtain ⟨b, rfl, lb, gb⟩ := h
    exact ⟨b, rfl, lb, by rw [hb.block _ (Array.getElem?_eq_some_iff.1 gb).1]; exact gb⟩
def eaD (i j : Nat) (u v : Value) : Prop := 8 ≤ i → 8 ≤ j → u ≠ v
theorem eaD_low {i j : Nat} {u v : Value} (h : j < 8) : eaD i j u v ∧ eaD j i v u := ⟨fun _ h' => absurd h' (by omega), fun h' => absurd h' (by omega)⟩
theorem eaD_new {sc : (Nat → Nat) → Array Value} {L i j : Nat} {u : Value} {W : World} (h : eaS sc L i u W) : eaD i j u (.pointer (some ⟨W.heap.size, 0, none⟩)) ∧ eaD j i (.pointer (some ⟨W.heap.size, 0, none⟩)) u := by
  by_cases hi : 8 ≤ i
  · obtain ⟨n, rfl⟩ : ∃ n, i = n + 8 := ⟨i - 8, by omega⟩
    obtain ⟨b, rfl, lb, gb⟩ := h
    have l := (Array.getElem?_eq_some_iff.1 gb).1
    have ne : (Value.pointer (some ⟨b, 0, none⟩)) ≠ .pointer (some ⟨W.heap.size, 0, none⟩) := by
      intro e
      simp only [Value.pointer.injEq, Option.some.injEq, Addr.mk.injEq] at e
      omega
    exact ⟨fun _ _ => ne, fun _ _ e => ne e.symm⟩
  · exact ⟨fun h' => absurd h' hi, fun _ h' => absurd h' hi⟩
theorem sliceAll16 (b : Nat) (W : World) : (Instr.sliceAt 23 (.pointer (some ⟨b, 0, none⟩)) none none none).run Try.prog W = .ok (.slice (some ⟨b, 0, none⟩) 16 16) W := by
  simp [Instr.sliceAt, Instr.sureAddr, run_underlying Try.underlying23, Instr.sliceBounds, go_sem]
def ebS (sc : (Nat → Nat) → Array Value) (u : Value) (f g : Nat → Nat) (j : Nat) (r : Value) (W : World) : Prop :=
  match j with
  | 0 => r = u | 1 => SliceN W r 16 f | 2 => r = .string (strN f 16) | 3 => SliceN W r 16 f | 4 => r = .string (strN f 16) | 5 => r = .bool true | 6 => r = .bool true | 7 => r = u | 8 => SliceN W r 16 g | 9 => r = .string (strN g 16) | 10 => SliceN W r 16 g | 11 => r = .string (strN g 16) | 12 => r = .bool true | 13 => r = .bool true | 14 => r = .bool true
  | 15 => r = .agg (sc fun _ => 0) | 16 => r = .agg (bA 16 (rkey (fun _ => 0) 5)) | 17 => r = .agg (bA 16 fun _ => 0) | 18 => r = .bool true | 19 => r = .bool true | 20 => r = .bool true | 21 => r = .agg (bA 16 (countF 3)) | 22 => r = .agg (sc (kw (countF 3))) | 23 => r = .agg (bA 16 (rkey (kw (countF 3)) 0)) | 24 => r = .agg (bA 16 (countF 3)) | 25 => r = .bool true | _ => r = .bool true
theorem ebS_on {sc : (Nat → Nat) → Array Value} {u : Value} {f g : Nat → Nat} {j : Nat} {r : Value} {W W' : World} (h : ebS sc u f g j r W) (hb : Below W.heap.size W W') : ebS sc u f g j r W' := by
  by_cases h1 : j = 1
  · subst h1; exact SliceN.on h hb
  by_cases h3 : j = 3
  · subst h3; exact SliceN.on h hb
  by_cases h8 : j = 8
  · subst h8; exact SliceN.on h hb
  by_cases h10 : j = 10
  · subst h10; exact SliceN.on h hb
  unfold ebS at h ⊢
  split at h <;> first | exact h | (exfalso; exact h1 rfl) | (exfalso; exact h3 rfl) | (exfalso; exact h8 rfl) | (exfalso; exact h10 rfl)
theorem slice_as {W : World} {v : Value} {n : Nat} {f g : Nat → Nat} (h : SliceN W v n f) (e : ∀ j, j < n → f j = g j) : SliceN W v n g := by
  obtain ⟨⟨a1, c1, e1, h1, h2, h3⟩, h4⟩ := h
  refine ⟨⟨a1, c1, e1, h1, h2, fun h0 => ?_⟩, fun j hj => by rw [← e j hj]; exact h4 j hj⟩
  obtain ⟨b, o, e2, e3, e4⟩ := h3 h0
  exact ⟨b, o, e2, e3, fun j hj => by rw [e4 j hj, e j hj]⟩

set_option maxRecDepth 20000 in
set_option maxHeartbeats 4000000 in
theorem examples_any {sc : (Nat → Nat) → Array Value} (I : Impl sc) (V : World) :
    Calls Try.prog 3 #[] V fun e w' => e = .returned (.bool true) ∧ Below V.heap.size V w' := by
  have HI : Hid (Impl sc) := I
  have KB : Hid (By (countF 3)) := countF_by 3
  have KW : Hid (∀ j, j < 176 → kw (countF 3) j < 256) := kw_by _ (countF_by 3)
  clear I
  have z := zero16
  have C3 : Hid (∀ W : World, Calls Try.prog 10 #[.int .u8 3] W fun e w' => e = .returned (.agg (bA 16 (countF 3))) ∧ Below W.heap.size W w') := fun W => counting_any 3 W
  go_enter Try.func3, Try.ntmps3
  go_wp2_with (go_at_call 9; refine (alive_any HI.out _).mono ?_; rintro e w1 ⟨rfl, hb1⟩)
  obtain ⟨A, hA⟩ : ∃ A, A = w1.heap.size := ⟨_, rfl⟩
  have hs : ∀ (v : World) (o : Obj), (v.alloc o).heap = v.heap.push o := fun _ _ => rfl
  have g0 : ((w1.alloc (.cells (bA 16 fun _ => 0) 23)).alloc (.cells (bA 16 fun _ => 0) 23)).heap[A]? = some (.cells (bA 16 fun _ => 0) 23) := by
    rw [hA]; simp only [hs, Array.getElem?_push, Array.size_push]; rw [if_neg (by omega), if_pos trivial]
  have g1 : ((w1.alloc (.cells (bA 16 fun _ => 0) 23)).alloc (.cells (bA 16 fun _ => 0) 23)).heap[A + 1]? = some (.cells (bA 16 (uptoC (be top) 0)) 23) := by
    rw [hA]; simp only [hs, Array.getElem?_push, Array.size_push]; rw [if_pos trivial]; rfl
  have b0 : Below V.heap.size V ((w1.alloc (.cells (bA 16 fun _ => 0) 23)).alloc (.cells (bA 16 fun _ => 0) 23)) := hb1.trans ((((Below.refl _ _).alloc (Nat.le_refl _) _).alloc (by simp) _ : Below w1.heap.size w1 _).mono hb1.size)
  have lA : V.heap.size ≤ A := by rw [hA]; exact hb1.size
  rw [← hA]
  have T0 : Hid (_ ∧ _ ∧ _) := ⟨g0, g1, b0⟩
  have LA : Hid (V.heap.size ≤ A) := lA
  clear g0 g1 b0 hs hA lA hb1 z
  go_loopw [3] (fun x W => ∃ k : Nat, k ≤ 16 ∧ x = .int .i64 k ∧ W.heap[A]? = some (.cells (bA 16 fun _ => 0) 23) ∧ W.heap[A + 1]? = some (.cells (bA 16 (uptoC (be top) k)) 23) ∧ Below V.heap.size V W) (fun x _ => 16 - (intOf x).toNat)
  case atStart => exact ⟨0, by omega, rfl, T0.out.1, T0.out.2.1, T0.out.2.2⟩
  case round =>
    obtain ⟨k, hk, rfl, g1, g2, bel⟩ := hrel
    clear T0
    have G1 : Hid (_) := g1
    have G2 : Hid (_) := g2
    have BL : Hid (Below V.heap.size V wr) := bel
    clear g1 g2 bel
    by_cases hlt : k < 16
    · have k1 : (k : Int) < 16 := by omega
      have c1 : wr.cell? ⟨A + 1, k, none⟩ = some (.int .u8 (uptoC (be top) k k)) := cellN G2.out hlt
      have c2 : wr.frozen? ⟨A + 1, k, none⟩ = false := frozen4 G2.out
      have HX : Hid (be top k = 255) := top_all ⟨k, hlt⟩
      go_wp2
      go_roundw
      case rel =>
        refine ⟨k + 1, by omega, by go_num, ?_, ?_, BL.out.setCell (by have := LA.out; simp; omega) _⟩
        · rw [heap4o _ G2.out (by omega)]; exact G1.out
        · rw [heap4 _ G2.out]
          exact congrArg (fun c => some (Obj.cells c 23)) (((congrArg (fun n : Nat => (bA 16 (uptoC (be top) k)).setIfInBounds k (.int .u8 n)) HX.out.symm).trans (bA_set 16 _ k _)).trans (congrArg (bA 16) (updN_upto (be top) k)))
      case measure => simp [intOf]; omega
    · have ek : k = 16 := by omega
      subst ek
      rw [show ((16 : Nat) : Int) = 16 from rfl]
      have g3 : wr.heap[A + 1]? = some (.cells (bA 16 (be top)) 23) := by
        have h := G2.out
        rw [bA_congr (g := be top) (fun j hj => by unfold uptoC; rw [if_pos hj])] at h
        exact h
      have z := zero16
      go_upto_region 10 with (first
        | (go_at_call 10; refine Calls.mono (C3.out _) ?_; rintro e w2 ⟨rfl, hb2⟩; have l1 := (Array.getElem?_eq_some_iff.1 g3).1; have l0 := (Array.getElem?_eq_some_iff.1 G1.out).1; have lb := BL.out.size; have lb2 := hb2.size; have kt : ExT A w2.heap.size (be top) V ((w2.alloc (.cells (bA 16 fun _ => 0) 23)).setRow w2.heap.size (bA 16 (countF 3))) := ⟨by rw [setRow_other _ _ _ _ (by omega), heapOld _ _ (by omega), hb2.block _ l0]; exact G1.out, by rw [setRow_other _ _ _ _ (by omega), heapOld _ _ (by omega), hb2.block _ l1]; exact g3, setRow_heap _ _ _ _ _ _ (heapNew w2 _), below4 ((BL.out.trans (hb2.mono lb)).trans ((belNew w2 _).mono (by omega))) (by omega) _⟩)
        | (refine atStore 23 (.tmp 4) (.tmp 19) rfl ?_; go_must (refine wpList_store_row rfl 23 (.tmp 4) (.tmp 19) rfl w2.heap.size _ rfl rfl 23 _ (heapNew w2 _) (size16 _) rfl (bA_one _ _) ?_))
        | (refine atLoad 23 (.tmp 4) rfl ?_; go_must (refine wpList_load_row rfl 23 (.tmp 4) rfl w2.heap.size rfl 23 _ (0, 0) _ kt.kk Try.underlying23 rfl (size16 _) ?_; simp only [Act.put, List.setIfInBounds_toArray, List.set_cons_succ, List.set_cons_zero]))
        | (refine atLoad 23 (.tmp 2) rfl ?_; go_must (refine wpList_load_row rfl 23 (.tmp 2) rfl (A + 1) rfl 23 _ (0, 0) _ kt.hh Try.underlying23 rfl (size16 _) ?_; simp only [Act.put, List.setIfInBounds_toArray, List.set_cons_succ, List.set_cons_zero]))
        | (go_at_call 11; refine (HI.out.stream (countF 3) top 32 _ KB.out (by omega) (by omega)).mono ?_; rintro e w3 ⟨r, rfl, hown, hb3⟩; have kt := kt.on hb3))
      rw [slen_32] at hown
      have sl := own_slice hown (maskF_lt KW.out top (fun _ _ => by omega))
      obtain ⟨ao, cap, rfl⟩ := own_shapeN hown
      have C : Hid (32 ≤ cap) := by
        obtain ⟨a', c', e, h1, _⟩ := sl.shape
        injection e with _ _ e3
        show 32 ≤ cap
        omega
      obtain ⟨K, hK⟩ : ∃ K, K = w2.heap.size := ⟨_, rfl⟩
      rw [← hK] at kt ⊢
      clear hown hb3 hK hlt hk g3
      go_upto_region 12 with (first
        | (refine atLoad 23 (.tmp 4) rfl ?_; go_must (refine wpList_loadW rfl 23 (.tmp 4) rfl K rfl 23 _ (0, 0) _ kt.kk Try.underlying23 rfl (size16 _) ?_; simp only [Act.put, List.setIfInBounds_toArray, List.set_cons_succ, List.set_cons_zero]))
        | (refine atLoad 23 (.tmp 2) rfl ?_; go_must (refine wpList_loadW rfl 23 (.tmp 2) rfl (A + 1) rfl 23 _ (0, 0) _ kt.hh Try.underlying23 rfl (size16 _) ?_; simp only [Act.put, List.setIfInBounds_toArray, List.set_cons_succ, List.set_cons_zero]))
        | (go_at_call 11; refine (HI.out.stream (countF 3) top _ _ KB.out (by omega) (by omega)).mono ?_; rintro e w4 ⟨r4, rfl, hown4, hb4⟩; simp only [slen_top, slen_over, slen_neg] at hown4; obtain ⟨ao4, cap4, rfl⟩ := own_shapeN hown4; have kt := kt.on hb4; have sl := sl.on hb4; clear hown4))
      have KT : Hid (_) := kt
      have SL : Hid (_) := sl
      clear kt sl
      refine wp_region_slotsAD 10 82 [47, 48, 49, 50, 51, 52, 53, 54, 6, 7] (eaS sc w4.heap.size) eaD (by kernel_rfl) (by kernel_rfl) (by kernel_rfl) (by decide) rfl rfl (by decide) (by decide) (fun _ _ _ _ h hb => eaS_on h hb) ?_ ?_
      · intro j hj a W hB hf hdep
        have kW := KT.out.on (hB.mono (Nat.le_refl _))
        match j, hj with
        | 0, _ => exact stepV rfl rfl (execLoadRow rfl (hf 4 (by decide)) kW.kk Try.underlying23 rfl (size16 _)) ⟨_, rfl, rfl, Below.refl _ _, fun i u _ _ _ _ => eaD_low (by omega)⟩
        | 1, _ => exact stepC rfl rfl (execCall1 Try.func12 (by kernel_rfl) (by kernel_rfl) rfl (hdep _ rfl 0 rfl)) (HI.out.new (countF 3) W KB.out) fun e w' h => ⟨_, h.1, _, rfl, rfl, h.2, fun i u _ _ _ _ => eaD_low (by omega)⟩
        | 2, _ => exact stepV rfl rfl (execLoadRow rfl (hf 2 (by decide)) kW.hh Try.underlying23 rfl (size16 _)) ⟨_, rfl, rfl, Below.refl _ _, fun i u _ _ _ _ => eaD_low (by omega)⟩
        | 3, _ => exact stepC rfl rfl (execCall2 Try.func13 (by kernel_rfl) (by kernel_rfl) rfl (hdep _ rfl 1 rfl) (hdep _ rfl 2 rfl)) (HI.out.encr (kw (countF 3)) (be top) W KW.out (be_by _)) fun e w' h => ⟨_, h.1, _, rfl, rfl, h.2, fun i u _ _ _ _ => eaD_low (by omega)⟩
        | 4, _ => exact stepV rfl rfl (execLoadRow rfl (hf 4 (by decide)) kW.kk Try.underlying23 rfl (size16 _)) ⟨_, rfl, rfl, Below.refl _ _, fun i u _ _ _ _ => eaD_low (by omega)⟩
        | 5, _ => exact stepC rfl rfl (execCall1 Try.func12 (by kernel_rfl) (by kernel_rfl) rfl (hdep _ rfl 4 rfl)) (HI.out.new (countF 3) W KB.out) fun e w' h => ⟨_, h.1, _, rfl, rfl, h.2, fun i u _ _ _ _ => eaD_low (by omega)⟩
        | 6, _ => exact stepV rfl rfl (execLoadRow rfl (hf 1 (by decide)) kW.zz Try.underlying23 rfl (size16 _)) ⟨_, rfl, congrArg Value.agg over_col.symm, Below.refl _ _, fun i u _ _ _ _ => eaD_low (by omega)⟩
        | 7, _ => exact stepC rfl rfl (execCall2 Try.func13 (by kernel_rfl) (by kernel_rfl) rfl (hdep _ rfl 5 rfl) (hdep _ rfl 6 rfl)) (HI.out.encr (kw (countF 3)) (be (top + 1)) W KW.out (be_by _)) fun e w' h => ⟨_, h.1, _, rfl, rfl, h.2, fun i u _ _ _ _ => eaD_low (by omega)⟩
        | 8, _ => exact stepV rfl rfl (execAlloc16 rfl) ⟨_, rfl, ⟨_, rfl, hB.size, heapNew W _⟩, belNew W _, fun i u _ _ h _ => eaD_new h⟩
        | 9, _ => exact stepV rfl rfl (execAlloc16 rfl) ⟨_, rfl, ⟨_, rfl, hB.size, heapNew W _⟩, belNew W _, fun i u _ _ h _ => eaD_new h⟩
        | n + 10, h => exact absurd h (by omega)
      · intro x W hB hS hD
        obtain ⟨X, hX, lX, gX⟩ := hS 8 (by omega)
        obtain ⟨Y, hY, lY, gY⟩ := hS 9 (by omega)
        have hXY : X ≠ Y := by
          intro e
          have := hD 8 9 (by omega) (by omega) (by omega) (by omega) (by omega)
          rw [hX, hY, e] at this
          exact this rfl
        have x0 : x 0 = .agg (bA 16 (countF 3)) := hS 0 (by omega)
        have x1 : x 1 = .agg (sc (kw (countF 3))) := hS 1 (by omega)
        have x2 : x 2 = .agg (bA 16 (be top)) := hS 2 (by omega)
        have x3 : x 3 = .agg (bA 16 (enc (kw (countF 3)) (be top))) := hS 3 (by omega)
        have x4 : x 4 = .agg (bA 16 (countF 3)) := hS 4 (by omega)
        have x5 : x 5 = .agg (sc (kw (countF 3))) := hS 5 (by omega)
        have x6 : x 6 = .agg (bA 16 (be (top + 1))) := hS 6 (by omega)
        have x7 : x 7 = .agg (bA 16 (enc (kw (countF 3)) (be (top + 1)))) := hS 7 (by omega)
        obtain ⟨f, hf⟩ : ∃ f, enc (kw (countF 3)) (be top) = f := ⟨_, rfl⟩
        obtain ⟨g, hg⟩ : ∃ g, enc (kw (countF 3)) (be (top + 1)) = g := ⟨_, rfl⟩
        have FB : Hid (By f) := by show By f; rw [← hf]; exact enc_by KW.out (be_by _)
        have GB : Hid (By g) := by show By g; rw [← hg]; exact enc_by KW.out (be_by _)
        rw [hf] at x3
        rw [hg] at x7
        have HF : Hid (enc (kw (countF 3)) (be top) = f) := hf
        have HG : Hid (enc (kw (countF 3)) (be (top + 1)) = g) := hg
        simp only [putL, Act.put, List.setIfInBounds_toArray, List.set_cons_succ, List.set_cons_zero, hX, hY, x0, x1, x2, x3, x4, x5, x6, x7]
        have gY' : (W.setRow X (bA 16 f)).heap[Y]? = some (.cells (bA 16 fun _ => 0) 23) := by rw [setRow_other _ _ _ _ (by omega)]; exact gY
        refine wpList_store_row rfl 23 (.tmp 6) (.tmp 50) rfl X _ rfl rfl 23 _ gX (size16 _) rfl (bA_one _ _) ?_
        refine wpList_store_row rfl 23 (.tmp 7) (.tmp 54) rfl Y _ rfl rfl 23 _ gY' (size16 _) rfl (bA_one _ _) ?_
        obtain ⟨W2, hW2⟩ : ∃ W2, W2 = (W.setRow X (bA 16 f)).setRow Y (bA 16 g) := ⟨_, rfl⟩
        have hb := below4 (below4 hB lX (bA 16 f)) lY (bA 16 g)
        rw [← hW2] at hb
        have r1 : W2.heap[X]? = some (.cells (bA 16 f) 23) := by rw [hW2, setRow_other _ _ _ _ (by omega)]; exact setRow_heap _ _ _ _ _ _ gX
        have r2 : W2.heap[Y]? = some (.cells (bA 16 g) 23) := by rw [hW2]; exact setRow_heap _ _ _ _ _ _ gY'
        rw [← hW2]
        have K2 : Hid (ExT A K (be top) V W2 ∧ SliceN W2 (.slice ao 32 cap) 32 (maskF (kw (countF 3)) top fun _ => 0) ∧ W2.heap[X]? = some (.cells (bA 16 f) 23) ∧ W2.heap[Y]? = some (.cells (bA 16 g) 23)) := ⟨KT.out.on hb, SL.out.on hb, r1, r2⟩
        clear hW2 hb r1 r2 hf hg x0 x1 x2 x3 x4 x5 x6 x7 hX hY hS hD hXY gX gY gY' lX lY hB KT SL
        have zS := HI.out.zero
        go_wp2_with fail
        obtain ⟨W3, hW3⟩ : ∃ W3, W3 = W2.alloc (.cells (sc fun _ => 0) 29) := ⟨_, rfl⟩
        obtain ⟨N, hN⟩ : ∃ N, N = W2.heap.size := ⟨_, rfl⟩
        have K3 : Hid ((ExT A K (be top) V W3 ∧ SliceN W3 (.slice ao 32 cap) 32 (maskF (kw (countF 3)) top fun _ => 0)) ∧ (W3.heap[X]? = some (.cells (bA 16 f) 23) ∧ W3.heap[Y]? = some (.cells (bA 16 g) 23)) ∧ W3.heap[N]? = some (.cells (sc fun _ => 0) 29)) := by
          obtain ⟨q1, q2, q3, q4⟩ := K2.out
          have hb : Below W2.heap.size W2 W3 := by rw [hW3]; exact belNew W2 _
          refine ⟨⟨q1.on hb, q2.on hb⟩, ⟨?_, ?_⟩, ?_⟩
          · rw [hb.block _ (Array.getElem?_eq_some_iff.1 q3).1]; exact q3
          · rw [hb.block _ (Array.getElem?_eq_some_iff.1 q4).1]; exact q4
          · rw [hW3, hN]; exact heapNew W2 _
        rw [← hW3, ← hN]
        clear hW3 hN K2 zS
        refine wp_region_slotsA 27 82 [55, 56, 57, 58, 59, 60, 61, 62, 63, 64, 65, 66, 67, 68, 69, 70, 71, 72, 73, 74, 75, 76, 77, 78, 79, 80, 81] (ebS sc (.slice ao 32 cap) f g) (by kernel_rfl) (by kernel_rfl) (by kernel_rfl) (by decide) rfl rfl (by decide) (by decide) (fun _ _ _ _ h hb => ebS_on h hb) ?_ ?_
        · intro j hj a W hB hf hdep
          obtain ⟨⟨kt, sl⟩, ⟨gX, gY⟩, gN⟩ := K3.out
          have kW := kt.on hB
          have kl := sl.on hB
          have kX : W.heap[X]? = some (.cells (bA 16 f) 23) := by rw [hB.block _ (Array.getElem?_eq_some_iff.1 gX).1]; exact gX
          have kY : W.heap[Y]? = some (.cells (bA 16 g) 23) := by rw [hB.block _ (Array.getElem?_eq_some_iff.1 gY).1]; exact gY
          have kN : W.heap[N]? = some (.cells (sc fun _ => 0) 29) := by rw [hB.block _ (Array.getElem?_eq_some_iff.1 gN).1]; exact gN
          have lc := C.out
          match j, hj with
          | 0, _ => exact stepV rfl rfl (execMvB rfl (hf 5 (by decide))) ⟨_, rfl, rfl, Below.refl _ _⟩
          | 1, _ =>
            have sb := kl.sub 0 16 (by omega) (by omega)
            exact stepV rfl rfl (execSlH rfl (hdep _ rfl 0 rfl) rfl (slice_h _ _ _ 16 (by omega) W)) ⟨_, rfl, slice_as sb (fun j hj => by rw [Nat.zero_add]; have := stream_block (kw (countF 3)) top 0 j hj; rw [Nat.mul_zero, Nat.zero_add, Nat.add_zero, HF.out] at this; exact this), Below.refl _ _⟩
          | 2, _ =>
            have s1 : SliceN W (a.eval (.tmp 56)) 16 f := hdep _ rfl 1 rfl
            exact stepV rfl rfl (execStr rfl rfl s1) ⟨_, rfl, rfl, Below.refl _ _⟩
          | 3, _ => exact stepV rfl rfl (execSlice rfl (hf 6 (by decide)) (sliceAll16 X W)) ⟨_, rfl, arr_slice kX FB.out (by omega), Below.refl _ _⟩
          | 4, _ =>
            have s3 : SliceN W (a.eval (.tmp 58)) 16 (f) := hdep _ rfl 3 rfl
            exact stepV rfl rfl (execStr rfl rfl s3) ⟨_, rfl, rfl, Below.refl _ _⟩
          | 5, _ => exact stepV rfl rfl (execEqlS rfl (hdep _ rfl 2 rfl) (hdep _ rfl 4 rfl)) ⟨_, rfl, rfl, Below.refl _ _⟩
          | 6, _ => exact stepV rfl rfl (execMvB rfl (hdep _ rfl 5 rfl)) ⟨_, rfl, rfl, Below.refl _ _⟩
          | 7, _ =>
            have gg : a.eval (.tmp 61) = .bool true := hdep _ rfl 6 rfl
            exact stepV rfl (wantedOf rfl (yieldedAt rfl rfl gg)) (execMvB rfl (hf 5 (by decide))) ⟨_, rfl, rfl, Below.refl _ _⟩
          | 8, _ =>
            have gg : a.eval (.tmp 61) = .bool true := hdep _ rfl 6 rfl
            have sb := kl.sub 16 32 (by omega) (by omega)
            exact stepV rfl (wantedOf rfl (yieldedAt rfl rfl gg)) (execSlL rfl (hdep _ rfl 7 rfl) rfl (slice_l _ _ _ 16 (by omega) W)) ⟨_, rfl, slice_as sb (fun j hj => by have := stream_block (kw (countF 3)) top 1 j (by omega); rw [HG.out] at this; exact this), Below.refl _ _⟩
          | 9, _ =>
            have gg : a.eval (.tmp 61) = .bool true := hdep _ rfl 6 rfl
            have s8 : SliceN W (a.eval (.tmp 63)) 16 (g) := hdep _ rfl 8 rfl
            exact stepV rfl (wantedOf rfl (yieldedAt rfl rfl gg)) (execStr rfl rfl s8) ⟨_, rfl, rfl, Below.refl _ _⟩
          | 10, _ =>
            have gg : a.eval (.tmp 61) = .bool true := hdep _ rfl 6 rfl
            exact stepV rfl (wantedOf rfl (yieldedAt rfl rfl gg)) (execSlice rfl (hf 7 (by decide)) (sliceAll16 Y W)) ⟨_, rfl, arr_slice kY GB.out (by omega), Below.refl _ _⟩
          | 11, _ =>
            have gg : a.eval (.tmp 61) = .bool true := hdep _ rfl 6 rfl
            have s10 : SliceN W (a.eval (.tmp 65)) 16 (g) := hdep _ rfl 10 rfl
            exact stepV rfl (wantedOf rfl (yieldedAt rfl rfl gg)) (execStr rfl rfl s10) ⟨_, rfl, rfl, Below.refl _ _⟩
          | 12, _ =>
            have gg : a.eval (.tmp 61) = .bool true := hdep _ rfl 6 rfl
            exact stepV rfl (wantedOf rfl (yieldedAt rfl rfl gg)) (execEqlS rfl (hdep _ rfl 9 rfl) (hdep _ rfl 11 rfl)) ⟨_, rfl, rfl, Below.refl _ _⟩
          | 13, _ => exact stepV rfl rfl (execPick (b := true) rfl (hdep _ rfl 6 rfl) (hdep _ rfl 12 rfl)) ⟨_, rfl, rfl, Below.refl _ _⟩
          | 14, _ => exact stepV rfl rfl (execMvB rfl (hdep _ rfl 13 rfl)) ⟨_, rfl, rfl, Below.refl _ _⟩
          | 15, _ =>
            have gg : a.eval (.tmp 69) = .bool true := hdep _ rfl 14 rfl
            exact stepV rfl (wantedOf rfl (yieldedAt rfl rfl gg)) (execLoadRow rfl (hf 8 (by decide)) kN Try.underlying29 rfl (HI.out.size _)) ⟨_, rfl, rfl, Below.refl _ _⟩
          | 16, _ =>
            have gg : a.eval (.tmp 69) = .bool true := hdep _ rfl 14 rfl
            exact stepC rfl (wantedOf rfl (yieldedAt rfl rfl gg)) (execCall2 Try.func14 (by kernel_rfl) (by kernel_rfl) rfl (hdep _ rfl 15 rfl) rfl) (HI.out.round (fun _ => 0) 5 W (fun _ _ => by omega) (by omega) (by omega)) fun e w' h => ⟨_, h.1, _, rfl, rfl, h.2⟩
          | 17, _ =>
            have gg : a.eval (.tmp 69) = .bool true := hdep _ rfl 14 rfl
            exact stepV rfl (wantedOf rfl (yieldedAt rfl rfl gg)) (execLoadRow rfl (hf 1 (by decide)) kW.zz Try.underlying23 rfl (size16 _)) ⟨_, rfl, rfl, Below.refl _ _⟩
          | 18, _ =>
            have gg : a.eval (.tmp 69) = .bool true := hdep _ rfl 14 rfl
            exact stepV rfl (wantedOf rfl (yieldedAt rfl rfl gg)) (exec_same16 rfl (hdep _ rfl 16 rfl) (hdep _ rfl 17 rfl) (fun j _ => rfl)) ⟨_, rfl, rfl, Below.refl _ _⟩
          | 19, _ => exact stepV rfl rfl (execPick (b := true) rfl (hdep _ rfl 14 rfl) (hdep _ rfl 18 rfl)) ⟨_, rfl, rfl, Below.refl _ _⟩
          | 20, _ => exact stepV rfl rfl (execMvB rfl (hdep _ rfl 19 rfl)) ⟨_, rfl, rfl, Below.refl _ _⟩
          | 21, _ =>
            have gg : a.eval (.tmp 75) = .bool true := hdep _ rfl 20 rfl
            exact stepV rfl (wantedOf rfl (yieldedAt rfl rfl gg)) (execLoadRow rfl (hf 4 (by decide)) kW.kk Try.underlying23 rfl (size16 _)) ⟨_, rfl, rfl, Below.refl _ _⟩
          | 22, _ =>
            have gg : a.eval (.tmp 75) = .bool true := hdep _ rfl 20 rfl
            exact stepC rfl (wantedOf rfl (yieldedAt rfl rfl gg)) (execCall1 Try.func12 (by kernel_rfl) (by kernel_rfl) rfl (hdep _ rfl 21 rfl)) (HI.out.new (countF 3) W KB.out) fun e w' h => ⟨_, h.1, _, rfl, rfl, h.2⟩
          | 23, _ =>
            have gg : a.eval (.tmp 75) = .bool true := hdep _ rfl 20 rfl
            exact stepC rfl (wantedOf rfl (yieldedAt rfl rfl gg)) (execCall2 Try.func14 (by kernel_rfl) (by kernel_rfl) rfl (hdep _ rfl 22 rfl) rfl) (HI.out.round (kw (countF 3)) 0 W KW.out (by omega) (by omega)) fun e w' h => ⟨_, h.1, _, rfl, rfl, h.2⟩
          | 24, _ =>
            have gg : a.eval (.tmp 75) = .bool true := hdep _ rfl 20 rfl
            exact stepV rfl (wantedOf rfl (yieldedAt rfl rfl gg)) (execLoadRow rfl (hf 4 (by decide)) kW.kk Try.underlying23 rfl (size16 _)) ⟨_, rfl, rfl, Below.refl _ _⟩
          | 25, _ =>
            have gg : a.eval (.tmp 75) = .bool true := hdep _ rfl 20 rfl
            exact stepV rfl (wantedOf rfl (yieldedAt rfl rfl gg)) (exec_same16 rfl (hdep _ rfl 23 rfl) (hdep _ rfl 24 rfl) (fun j hj => by show kw (countF 3) (16 * 0 + j) = countF 3 j; rw [Nat.mul_zero, Nat.zero_add, kw_low _ hj])) ⟨_, rfl, rfl, Below.refl _ _⟩
          | 26, _ => exact stepV rfl rfl (execPick (b := true) rfl (hdep _ rfl 20 rfl) (hdep _ rfl 25 rfl)) ⟨_, rfl, rfl, Below.refl _ _⟩
          | n + 27, h => exact absurd h (by omega)
        · intro x W hB hS
          have x26 : x 26 = .bool true := hS 26 (by omega)
          have bel : Below V.heap.size V W := (K3.out.1.1.on hB).bel
          clear hS hB K3
          simp only [putL, Act.put, List.setIfInBounds_toArray, List.set_cons_succ, List.set_cons_zero, x26]
          go_wp2
          go_ret
          exact ⟨rfl, bel⟩
end Go.Proofs.Ytealknodagdjaaa.Aes
