import Derived.Test.YtmfaapbhehhlpaaJ6
namespace Go.Proofs.Ytmfaapbhehhlpaa.Aes
open Go.RowKit Gf8

/-- The rows of With: the round keys, the block, the answer's place. -/
structure WtT (A : Nat) (w st : Nat → Nat) (V W : World) : Prop where
  ww : W.heap[A]? = some (.cells (bA 176 w) 72)
  bb : W.heap[A + 1]? = some (.cells (bA 16 st) 55)
  rr : W.heap[A + 2]? = some (.cells (bA 16 fun _ => 0) 55)
  bel : Below A V W
theorem WtT.lt {A : Nat} {w st : Nat → Nat} {V W : World} (h : WtT A w st V W) : A + 2 < W.heap.size := (Array.getElem?_eq_some_iff.1 h.rr).1
theorem WtT.on {A : Nat} {w st : Nat → Nat} {V W W' : World} (h : WtT A w st V W) (hb : Below W.heap.size W W') : WtT A w st V W' := by
  have l := h.lt
  exact ⟨by rw [hb.block _ (by omega)]; exact h.ww, by rw [hb.block _ (by omega)]; exact h.bb, by rw [hb.block _ (by omega)]; exact h.rr, h.bel.trans (hb.mono (by omega))⟩
theorem WtT.setB {A : Nat} {w st : Nat → Nat} {V W : World} (h : WtT A w st V W) (g : Nat → Nat) : WtT A w g V (W.setRow (A + 1) (bA 16 g)) := by
  refine ⟨?_, setRow_heap _ _ _ _ _ _ h.bb, ?_, below4 h.bel (by omega) _⟩
  · rw [setRow_other _ _ _ _ (by omega)]; exact h.ww
  · rw [setRow_other _ _ _ _ (by omega)]; exact h.rr
theorem WtT.cell {A T : Nat} {w st : Nat → Nat} {V W : World} (h : WtT A w st V W) (hT : A + 2 < T) {f : Nat → Nat} {t : TypeId} (g : W.heap[T]? = some (.cells (bA 16 f) t)) (k : Nat) (v : Value) : WtT A w st V (W.setCell ⟨T, k, none⟩ v) := by
  refine ⟨?_, ?_, ?_, h.bel.setCell (by simp; omega) _⟩
  · rw [heap4o _ g (by omega)]; exact h.ww
  · rw [heap4o _ g (by omega)]; exact h.bb
  · rw [heap4o _ g (by omega)]; exact h.rr

set_option maxRecDepth 20000 in
set_option maxHeartbeats 2000000 in
theorem with_any (w b : Nat → Nat) (V : World) (hb : By b) (hw : ∀ i, i < 176 → w i < 256) :
    Calls Try.prog 44 #[.agg (bA 176 w), .agg (bA 16 b)] V fun e w' => e = .returned (.agg (bA 16 (enc w b))) ∧ Below V.heap.size V w' := by
  have HB : Hid (By b) := hb
  have HW : Hid (∀ i, i < 176 → w i < 256) := hw
  have HE : Hid (∀ n, n ≤ 10 → By (encN w b n)) := fun n hn => encN_by hw hb n hn
  clear hb hw
  have z := zero16
  go_enter Try.func44, Try.ntmps44
  have kt : WtT V.heap.size w b V (((V.alloc (.cells (bA 176 w) 72)).alloc (.cells (bA 16 b) 55)).alloc (.cells (bA 16 fun _ => 0) 55)) := by
    have h := heap3c V (.cells (bA 176 w) 72) (.cells (bA 16 b) 55) (.cells (bA 16 fun _ => 0) 55)
    exact ⟨h.1, h.2.1, h.2.2, below3c _ _ _ _⟩
  go_wp2_with (first
    | (refine atLoad 55 (.tmp 3) rfl ?_; go_must (refine wpList_load_row rfl 55 (.tmp 3) rfl (V.heap.size + 1) rfl 55 _ (0, 0) _ kt.bb Try.underlying55 rfl (size16 _) ?_; simp only [Act.put, List.setIfInBounds_toArray, List.set_cons_succ, List.set_cons_zero]))
    | (refine atLoad 72 (.tmp 2) rfl ?_; go_must (refine wpList_load_row rfl 72 (.tmp 2) rfl V.heap.size rfl 72 _ (0, 0) _ kt.ww Try.underlying72 rfl (size176 _) ?_; simp only [Act.put, List.setIfInBounds_toArray, List.set_cons_succ, List.set_cons_zero]))
    | (go_at_call 56; refine (added_any b w 0 _ HB.out HW.out (by omega)).mono ?_; rintro e w1 ⟨rfl, hb1⟩; have kt := kt.on hb1)
    | (refine atStore 55 (.tmp 3) (.tmp 10) rfl ?_; go_must (refine wpList_store_row rfl 55 (.tmp 3) (.tmp 10) rfl (V.heap.size + 1) _ rfl rfl 55 _ kt.bb (size16 _) rfl (bA_one _ _) ?_; have kt := kt.setB (addR w b 0))))
  have KT : Hid (_) := kt
  clear kt
  obtain ⟨A, hA⟩ : ∃ A, A = V.heap.size := ⟨_, rfl⟩
  rw [← hA] at KT ⊢
  have VA : Hid (V.heap.size = A) := hA.symm
  clear hA z
  rw [show A + 1 + 1 = A + 2 from rfl]
  go_loopw [5] (fun x W => ∃ n : Nat, n ≤ 10 ∧ x = .int .i64 ((n + 1 : Nat) : Int) ∧ WtT A w (encN w b n) V W) (fun x _ => 11 - (intOf x).toNat)
  case atStart => exact ⟨0, by omega, rfl, KT.out⟩
  case round =>
    obtain ⟨n, hn, rfl, kt⟩ := hrel
    clear KT
    obtain ⟨i, hi⟩ : ∃ i, n + 1 = i := ⟨_, rfl⟩
    rw [hi]
    by_cases hlt : n < 10
    · have i1 : (i : Int) ≤ 10 := by omega
      have HN : Hid (n + 1 = i ∧ n < 10) := ⟨hi, hlt⟩
      clear hi hlt hn
      obtain ⟨st, hst⟩ : ∃ st, encN w b n = st := ⟨_, rfl⟩
      rw [hst] at kt
      have hS : Hid (By st) := by have := HE.out n (by have := HN.out; omega); rw [hst] at this; exact this
      have HST : Hid (encN w b n = st) := hst
      clear hst
      have KT : Hid (_) := kt
      clear kt
      have z := zero16
      go_wp2_with fail
      clear z
      have kt := KT.out.on ((Below.refl _ _).alloc (Nat.le_refl _) (.cells (bA 16 fun _ => 0) 55))
      obtain ⟨T, hT⟩ : ∃ T, T = wr.heap.size := ⟨_, rfl⟩
      have lT : A + 2 < T := by rw [hT]; exact KT.out.lt
      have gT : (wr.alloc (.cells (bA 16 fun _ => 0) 55)).heap[T]? = some (.cells (bA 16 (uptoC (subS st) 0)) 55) := by
        rw [hT]; show (wr.heap.push _)[wr.heap.size]? = _; rw [Array.getElem?_push_size]; rfl
      rw [← hT]
      have KT2 : Hid (_) := kt
      have GT : Hid (_) := gT
      have LT : Hid (A + 2 < T) := lT
      clear kt gT lT hT KT
      go_loopw [7] (fun x W => ∃ k : Nat, k ≤ 16 ∧ x = .int .i64 k ∧ WtT A w st V W ∧ W.heap[T]? = some (.cells (bA 16 (uptoC (subS st) k)) 55)) (fun x _ => 16 - (intOf x).toNat)
      case atStart => exact ⟨0, by omega, rfl, KT2.out, GT.out⟩
      case round =>
        obtain ⟨k, hk, rfl, kt, gt⟩ := hrel
        clear KT2 GT
        by_cases hkl : k < 16
        · have k1 : (k : Int) < 16 := by omega
          obtain ⟨p4, h4⟩ : ∃ x, k % 4 = x := ⟨_, rfl⟩
          obtain ⟨p5, h5⟩ : ∃ x, 4 * p4 = x := ⟨_, rfl⟩
          obtain ⟨p6, h6⟩ : ∃ x, k + p5 = x := ⟨_, rfl⟩
          obtain ⟨p, hp⟩ : ∃ x, p6 % 16 = x := ⟨_, rfl⟩
          have e4 : (k : Int).tmod 4 = p4 := by rw [Int.tmod_eq_emod_of_nonneg (by omega)]; omega
          have e5 : 4 * (p4 : Int) = p5 := by omega
          have e6 : (k : Int) + p5 = p6 := by omega
          have e7 : (p6 : Int).tmod 16 = p := by rw [Int.tmod_eq_emod_of_nonneg (by omega)]; omega
          have l4 : (p4 : Int) < 4 := by omega
          have l5 : (p5 : Int) < 16 := by omega
          have l6 : (p6 : Int) < 32 := by omega
          have l7 : (p : Int) < 16 := by omega
          obtain ⟨y, hy⟩ : ∃ y, st p = y := ⟨_, rfl⟩
          have vy : y < 256 := by rw [← hy]; exact hS.out p (by omega)
          obtain ⟨x, hx⟩ : ∃ x, gsub y = x := ⟨_, rfl⟩
          have hq : subS st k = x := by
            unfold subS
            rw [show (k + 4 * (k % 4)) % 16 = p by omega, hy, hx]
          have c1 : wr.cell? ⟨A + 1, p, none⟩ = some (.int .u8 y) := by rw [cellN kt.bb (by omega), hy]
          have c2 : wr.cell? ⟨T, k, none⟩ = some (.int .u8 (uptoC (subS st) k k)) := cellN gt hkl
          have c3 : wr.frozen? ⟨T, k, none⟩ = false := frozen4 gt
          have K1 : Hid (WtT A w st V (wr.setCell ⟨T, k, none⟩ (.int .u8 x))) := kt.cell LT.out gt k _
          have G1 : Hid ((wr.setCell ⟨T, k, none⟩ (.int .u8 x)).heap[T]? = some (.cells (bA 16 (uptoC (subS st) (k + 1))) 55)) := by
            show (wr.setCell ⟨T, k, none⟩ (.int .u8 x)).heap[T]? = _
            rw [heap4 _ gt, bA_set, ← hq, updN_upto]
          clear h4 h5 h6 hp hy hq kt gt
          go_wp2_with (first
            | (refine atBox (.tmp 27) rfl ?_; go_must (refine wpList_boxU (k := y) rfl rfl rfl vy ?_; simp only [Act.put, List.setIfInBounds_toArray, List.set_cons_succ, List.set_cons_zero, hx])))
          go_roundw
          case rel => exact ⟨k + 1, by omega, by go_num, K1.out, G1.out⟩
          case measure => simp [intOf]; omega
        · have ek : k = 16 := by omega
          subst ek
          rw [show ((16 : Nat) : Int) = 16 from rfl]
          clear hkl hk
          have gt2 : wr.heap[T]? = some (.cells (bA 16 (subS st)) 55) := by
            rw [bA_congr (g := subS st) (fun j hj => by unfold uptoC; rw [if_pos hj])] at gt
            exact gt
          clear gt
          by_cases h9 : n + 1 < 10
          · have i9 : (i : Int) < 10 := by have := HN.out; omega
            have hM : By (mixB fwd (subS st)) := mixF_by _
            have HF : Hid (addR w (mixB fwd (subS st)) i = encN w b (n + 1)) := by
              show addR w (mixB fwd (subS st)) i = encN w b (n + 1)
              rw [encN_mid w b h9, HST.out, HN.out.1]
            go_wp2_with (first
              | (refine atLoad 55 (.tmp 6) rfl ?_; go_must (refine wpList_load_row rfl 55 (.tmp 6) rfl T rfl 55 _ (0, 0) _ gt2 Try.underlying55 rfl (size16 _) ?_; simp only [Act.put, List.setIfInBounds_toArray, List.set_cons_succ, List.set_cons_zero]))
              | (refine atStore 55 (.tmp 3) (.tmp 30) rfl ?_; go_must (refine wpList_store_row rfl 55 (.tmp 3) (.tmp 30) rfl (A + 1) _ rfl rfl 55 _ kt.bb (size16 _) rfl (bA_one _ _) ?_; have kt := kt.setB (subS st)))
              | (refine atLoad 55 (.tmp 3) rfl ?_; go_must (refine wpList_load_row rfl 55 (.tmp 3) rfl (A + 1) rfl 55 _ (0, 0) _ kt.bb Try.underlying55 rfl (size16 _) ?_; simp only [Act.put, List.setIfInBounds_toArray, List.set_cons_succ, List.set_cons_zero]))
              | (refine atLoad 72 (.tmp 2) rfl ?_; go_must (refine wpList_load_row rfl 72 (.tmp 2) rfl A rfl 72 _ (0, 0) _ kt.ww Try.underlying72 rfl (size176 _) ?_; simp only [Act.put, List.setIfInBounds_toArray, List.set_cons_succ, List.set_cons_zero]))
              | (go_at_call 57; refine (mixed_any (subS st) _ (subS_by hS.out)).mono ?_; rintro e w1 ⟨rfl, hb1⟩; have kt := kt.on hb1)
              | (refine atStore 55 (.tmp 3) (.tmp 34) rfl ?_; go_must (refine wpList_store_row rfl 55 (.tmp 3) (.tmp 34) rfl (A + 1) _ rfl rfl 55 _ kt.bb (size16 _) rfl (bA_one _ _) ?_; have kt := kt.setB (mixB fwd (subS st))))
              | (go_at_call 56; refine (added_any (mixB fwd (subS st)) w i _ hM HW.out (by have := HN.out; omega)).mono ?_; rintro e w2 ⟨rfl, hb2⟩; have kt := kt.on hb2)
              | (refine atStore 55 (.tmp 3) (.tmp 38) rfl ?_; go_must (refine wpList_store_row rfl 55 (.tmp 3) (.tmp 38) rfl (A + 1) _ rfl rfl 55 _ kt.bb (size16 _) rfl (bA_one _ _) ?_; have kt := kt.setB (addR w (mixB fwd (subS st)) i))))
            go_roundw
            case rel => exact ⟨n + 1, by omega, by have := HN.out.1; go_num, by rw [← HF.out]; exact kt⟩
            case measure => have := HN.out; simp [intOf]; omega
          · have i9 : ¬ (i : Int) < 10 := by have := HN.out; omega
            have HF : Hid (addR w (subS st) i = encN w b (n + 1)) := by
              show addR w (subS st) i = encN w b (n + 1)
              have h := HN.out
              have e : n = 9 := by omega
              subst e
              rw [← h.1, encN_last, HST.out]
            go_wp2_with (first
              | (refine atLoad 55 (.tmp 6) rfl ?_; go_must (refine wpList_load_row rfl 55 (.tmp 6) rfl T rfl 55 _ (0, 0) _ gt2 Try.underlying55 rfl (size16 _) ?_; simp only [Act.put, List.setIfInBounds_toArray, List.set_cons_succ, List.set_cons_zero]))
              | (refine atStore 55 (.tmp 3) (.tmp 30) rfl ?_; go_must (refine wpList_store_row rfl 55 (.tmp 3) (.tmp 30) rfl (A + 1) _ rfl rfl 55 _ kt.bb (size16 _) rfl (bA_one _ _) ?_; have kt := kt.setB (subS st)))
              | (refine atLoad 55 (.tmp 3) rfl ?_; go_must (refine wpList_load_row rfl 55 (.tmp 3) rfl (A + 1) rfl 55 _ (0, 0) _ kt.bb Try.underlying55 rfl (size16 _) ?_; simp only [Act.put, List.setIfInBounds_toArray, List.set_cons_succ, List.set_cons_zero]))
              | (refine atLoad 72 (.tmp 2) rfl ?_; go_must (refine wpList_load_row rfl 72 (.tmp 2) rfl A rfl 72 _ (0, 0) _ kt.ww Try.underlying72 rfl (size176 _) ?_; simp only [Act.put, List.setIfInBounds_toArray, List.set_cons_succ, List.set_cons_zero]))
              | (go_at_call 56; refine (added_any (subS st) w i _ (subS_by hS.out) HW.out (by have := HN.out; omega)).mono ?_; rintro e w2 ⟨rfl, hb2⟩; have kt := kt.on hb2)
              | (refine atStore 55 (.tmp 3) (.tmp 38) rfl ?_; go_must (refine wpList_store_row rfl 55 (.tmp 3) (.tmp 38) rfl (A + 1) _ rfl rfl 55 _ kt.bb (size16 _) rfl (bA_one _ _) ?_; have kt := kt.setB (addR w (subS st) i))))
            go_roundw
            case rel => exact ⟨n + 1, by have := HN.out; omega, by have := HN.out.1; go_num, by rw [← HF.out]; exact kt⟩
            case measure => have := HN.out; simp [intOf]; omega
    · have en : n = 10 := by omega
      subst en
      have i1 : ¬ (i : Int) ≤ 10 := by omega
      go_wp2_with (first
        | (refine atLoad 55 (.tmp 3) rfl ?_; go_must (refine wpList_load_row rfl 55 (.tmp 3) rfl (A + 1) rfl 55 _ (0, 0) _ kt.bb Try.underlying55 rfl (size16 _) ?_; simp only [Act.put, List.setIfInBounds_toArray, List.set_cons_succ, List.set_cons_zero]))
        | (refine atStore 55 (.tmp 4) (.tmp 39) rfl ?_; go_must (refine wpList_store_row rfl 55 (.tmp 4) (.tmp 39) rfl (A + 2) _ rfl rfl 55 _ kt.rr (size16 _) rfl (bA_one _ _) ?_)))
      refine bodyPost_ret (v := .agg (bA 16 (enc w b))) (results_cell_row Try.results44 _ _ (A + 2) 55 _ (0, 0) _ rfl (setRow_heap _ _ _ _ _ _ kt.rr) Try.underlying55 rfl (size16 _)) rfl ⟨rfl, ?_⟩
      rw [VA.out]
      exact below4 kt.bel (by omega) _
end Go.Proofs.Ytmfaapbhehhlpaa.Aes

namespace Go.Proofs.Ytmfaapbhehhlpaa.Aes
open Go.RowKit Gf8

/-- The first three rows of a call, as they were. -/
structure R3 (A : Nat) (x y z : Obj) (V W : World) : Prop where
  x : W.heap[A]? = some x
  y : W.heap[A + 1]? = some y
  z : W.heap[A + 2]? = some z
  bel : Below A V W
theorem R3.lt {A : Nat} {x y z : Obj} {V W : World} (h : R3 A x y z V W) : A + 2 < W.heap.size := (Array.getElem?_eq_some_iff.1 h.z).1
theorem R3.on {A : Nat} {x y z : Obj} {V W W' : World} (h : R3 A x y z V W) (hb : Below W.heap.size W W') : R3 A x y z V W' := by
  have l := h.lt
  exact ⟨by rw [hb.block _ (by omega)]; exact h.x, by rw [hb.block _ (by omega)]; exact h.y, by rw [hb.block _ (by omega)]; exact h.z, h.bel.trans (hb.mono (by omega))⟩
theorem R3.row {A : Nat} {x y z : Obj} {V W : World} (h : R3 A x y z V W) {T : Nat} (hT : A + 2 < T) (c : Array Value) : R3 A x y z V (W.setRow T c) :=
  ⟨by rw [setRow_other _ _ _ _ (by omega)]; exact h.x, by rw [setRow_other _ _ _ _ (by omega)]; exact h.y, by rw [setRow_other _ _ _ _ (by omega)]; exact h.z, below4 h.bel (by omega) _⟩

end Go.Proofs.Ytmfaapbhehhlpaa.Aes

namespace Go.Proofs.Ytmfaapbhehhlpaa.Aes
open Go.RowKit Gf8

/-- The rows of Decrypt. -/
structure DcT (A B C : Nat) (w st : Nat → Nat) (V W : World) : Prop where
  bb : W.heap[A + 1]? = some (.cells (bA 16 st) 55)
  rr : W.heap[A + 2]? = some (.cells (bA 16 fun _ => 0) 55)
  ww : W.heap[B]? = some (.cells (bA 176 w) 72)
  tt : W.heap[C]? = some (.cells (bA 256 guns) 75)
  ab : A + 2 < B
  bc : B < C
  bel : Below A V W
theorem DcT.lt {A B C : Nat} {w st : Nat → Nat} {V W : World} (h : DcT A B C w st V W) : C < W.heap.size := (Array.getElem?_eq_some_iff.1 h.tt).1
theorem DcT.on {A B C : Nat} {w st : Nat → Nat} {V W W' : World} (h : DcT A B C w st V W) (hb : Below W.heap.size W W') : DcT A B C w st V W' := by
  have l := h.lt
  have l1 := h.ab
  have l2 := h.bc
  exact ⟨by rw [hb.block _ (by omega)]; exact h.bb, by rw [hb.block _ (by omega)]; exact h.rr, by rw [hb.block _ (by omega)]; exact h.ww, by rw [hb.block _ (by omega)]; exact h.tt, l1, l2, h.bel.trans (hb.mono (by omega))⟩
theorem DcT.setB {A B C : Nat} {w st : Nat → Nat} {V W : World} (h : DcT A B C w st V W) (g : Nat → Nat) : DcT A B C w g V (W.setRow (A + 1) (bA 16 g)) := by
  have l1 := h.ab
  have l2 := h.bc
  refine ⟨setRow_heap _ _ _ _ _ _ h.bb, ?_, ?_, ?_, l1, l2, below4 h.bel (by omega) _⟩
  · rw [setRow_other _ _ _ _ (by omega)]; exact h.rr
  · rw [setRow_other _ _ _ _ (by omega)]; exact h.ww
  · rw [setRow_other _ _ _ _ (by omega)]; exact h.tt
theorem DcT.cell {A B C T : Nat} {w st : Nat → Nat} {V W : World} (h : DcT A B C w st V W) (hT : C < T) {f : Nat → Nat} {t : TypeId} (g : W.heap[T]? = some (.cells (bA 16 f) t)) (k : Nat) (v : Value) : DcT A B C w st V (W.setCell ⟨T, k, none⟩ v) := by
  have l1 := h.ab
  have l2 := h.bc
  refine ⟨?_, ?_, ?_, ?_, l1, l2, h.bel.setCell (by simp; omega) _⟩
  · rw [heap4o _ g (by omega)]; exact h.bb
  · rw [heap4o _ g (by omega)]; exact h.rr
  · rw [heap4o _ g (by omega)]; exact h.ww
  · rw [heap4o _ g (by omega)]; exact h.tt

end Go.Proofs.Ytmfaapbhehhlpaa.Aes
