import Derived.Test.YteekoabgbjbabaaGreatDoorJ6
import Derived.Test.YteekoabgbjbabaaGreatDoorY3
namespace Go.Proofs.YteekoabgbjbabaaGreatDoor.Aes
open Go.RowKit Gf8

/-- The rows of With: the round keys, the block, the answer's place. -/
structure WtT (A : Nat) (w st : Nat → Nat) (V W : World) : Prop where
  ww : W.heap[A]? = some (.cells (bA 176 w) 94)
  bb : W.heap[A + 1]? = some (.cells (bA 16 st) 35)
  rr : W.heap[A + 2]? = some (.cells (bA 16 fun _ => 0) 35)
  bel : Below A V W
theorem WtT.lt {A : Nat} {w st : Nat → Nat} {V W : World} (h : WtT A w st V W) : A + 2 < W.heap.size := (Array.getElem?_eq_some_iff.1 h.rr).1
theorem WtT.on {A : Nat} {w st : Nat → Nat} {V W W' : World} (h : WtT A w st V W) (hb : Below W.heap.size W W') : WtT A w st V W' := by
  have l := h.lt
  exact ⟨by rw [hb.block _ (by omega)]; exact h.ww, by rw [hb.block _ (by omega)]; exact h.bb, by rw [hb.block _ (by omega)]; exact h.rr, h.bel.trans (hb.mono (by omega))⟩
theorem WtT.setB {A : Nat} {w st : Nat → Nat} {V W : World} (h : WtT A w st V W) (g : Nat → Nat) : WtT A w g V (W.setRow (A + 1) (bA 16 g)) := by
  refine ⟨?_, setRow_heap _ _ _ _ _ _ h.bb, ?_, below4 h.bel (by omega) _⟩
  · rw [setRow_other _ _ _ _ (by omega)]; exact h.ww
  · rw [setRow_other _ _ _ _ (by omega)]; exact h.rr
theorem WtT.cell {A T : Nat} {w st : Nat → Nat} {V W : World} (h : WtT A w st V W) (hT : A + 2 < T) {f : Nat → Nat} {t : TypeId} (g : W.heap[T]? = some (.cells (bA 16 f) t)) (k : Nat) (v : Value) : WtT A w st V (W.setCell ⟨T, k, none⟩ v) := by
  refine ⟨?_, ?_, ?_, h.bel.setCell (by simp; omega) _⟩
  · rw [heap4o _ g (by omega)]; exact h.ww
  · rw [heap4o _ g (by omega)]; exact h.bb
  · rw [heap4o _ g (by omega)]; exact h.rr

set_option maxRecDepth 20000 in
set_option maxHeartbeats 2000000 in
theorem with_any (w b : Nat → Nat) (V : World) (hb : By b) (hw : ∀ i, i < 176 → w i < 256) :
    Calls Tryz.prog 65 #[.agg (bA 176 w), .agg (bA 16 b)] V fun e w' => e = .returned (.agg (bA 16 (enc w b))) ∧ Below V.heap.size V w' := by
  have HB : Hid (By b) := hb
  have HW : Hid (∀ i, i < 176 → w i < 256) := hw
  have HE : Hid (∀ n, n ≤ 10 → By (encN w b n)) := fun n hn => encN_by hw hb n hn
  clear hb hw
  have z := zero16
  go_enter Tryz.func65, Tryz.ntmps65
  have kt : WtT V.heap.size w b V (((V.alloc (.cells (bA 176 w) 94)).alloc (.cells (bA 16 b) 35)).alloc (.cells (bA 16 fun _ => 0) 35)) := by
    have h := heap3c V (.cells (bA 176 w) 94) (.cells (bA 16 b) 35) (.cells (bA 16 fun _ => 0) 35)
    exact ⟨h.1, h.2.1, h.2.2, below3c _ _ _ _⟩
  go_wp2_with (first
    | (refine atLoad 35 (.tmp 3) rfl ?_; go_must (refine wpList_load_row rfl 35 (.tmp 3) rfl (V.heap.size + 1) rfl 35 _ (0, 0) _ kt.bb Tryz.underlying35 rfl (size16 _) ?_; simp only [Act.put, List.setIfInBounds_toArray, List.set_cons_succ, List.set_cons_zero]))
    | (refine atLoad 94 (.tmp 2) rfl ?_; go_must (refine wpList_load_row rfl 94 (.tmp 2) rfl V.heap.size rfl 94 _ (0, 0) _ kt.ww Tryz.underlying94 rfl (size176 _) ?_; simp only [Act.put, List.setIfInBounds_toArray, List.set_cons_succ, List.set_cons_zero]))
    | (go_at_call 80; refine (added_any b w 0 _ HB.out HW.out (by omega)).mono ?_; rintro e w1 ⟨rfl, hb1⟩; have kt := kt.on hb1)
    | (refine atStore 35 (.tmp 3) (.tmp 10) rfl ?_; go_must (refine wpList_store_row rfl 35 (.tmp 3) (.tmp 10) rfl (V.heap.size + 1) _ rfl rfl 35 _ kt.bb (size16 _) rfl (bA_one _ _) ?_; have kt := kt.setB (addR w b 0))))
  have KT : Hid (_) := kt
  clear kt
  obtain ⟨A, hA⟩ : ∃ A, A = V.heap.size := ⟨_, rfl⟩
  rw [← hA] at KT ⊢
  have VA : Hid (V.heap.size = A) := hA.symm
  clear hA z
  rw [show A + 1 + 1 = A + 2 from rfl]
  go_loopw [5] (fun x W => ∃ n : Nat, n ≤ 10 ∧ x = .int .i64 ((n + 1 : Nat) : Int) ∧ WtT A w (encN w b n) V W) (fun x _ => 11 - (intOf x).toNat)
  case atStart => exact ⟨0, by omega, rfl, KT.out⟩
  case round =>
    obtain ⟨n, hn, rfl, kt⟩ := hrel
    clear KT
    obtain ⟨i, hi⟩ : ∃ i, n + 1 = i := ⟨_, rfl⟩
    rw [hi]
    by_cases hlt : n < 10
    · have i1 : (i : Int) ≤ 10 := by omega
      have HN : Hid (n + 1 = i ∧ n < 10) := ⟨hi, hlt⟩
      clear hi hlt hn
      obtain ⟨st, hst⟩ : ∃ st, encN w b n = st := ⟨_, rfl⟩
      rw [hst] at kt
      have hS : Hid (By st) := by have := HE.out n (by have := HN.out; omega); rw [hst] at this; exact this
      have HST : Hid (encN w b n = st) := hst
      clear hst
      have KT : Hid (_) := kt
      clear kt
      have z := zero16
      go_wp2_with fail
      clear z
      have kt := KT.out.on ((Below.refl _ _).alloc (Nat.le_refl _) (.cells (bA 16 fun _ => 0) 35))
      obtain ⟨T, hT⟩ : ∃ T, T = wr.heap.size := ⟨_, rfl⟩
      have lT : A + 2 < T := by rw [hT]; exact KT.out.lt
      have gT : (wr.alloc (.cells (bA 16 fun _ => 0) 35)).heap[T]? = some (.cells (bA 16 (uptoC (subS st) 0)) 35) := by
        rw [hT]; show (wr.heap.push _)[wr.heap.size]? = _; rw [Array.getElem?_push_size]; rfl
      rw [← hT]
      have KT2 : Hid (_) := kt
      have GT : Hid (_) := gT
      have LT : Hid (A + 2 < T) := lT
      clear kt gT lT hT KT
      go_loopw [7] (fun x W => ∃ k : Nat, k ≤ 16 ∧ x = .int .i64 k ∧ WtT A w st V W ∧ W.heap[T]? = some (.cells (bA 16 (uptoC (subS st) k)) 35)) (fun x _ => 16 - (intOf x).toNat)
      case atStart => exact ⟨0, by omega, rfl, KT2.out, GT.out⟩
      case round =>
        obtain ⟨k, hk, rfl, kt, gt⟩ := hrel
        clear KT2 GT
        by_cases hkl : k < 16
        · have k1 : (k : Int) < 16 := by omega
          obtain ⟨p4, h4⟩ : ∃ x, k % 4 = x := ⟨_, rfl⟩
          obtain ⟨p5, h5⟩ : ∃ x, 4 * p4 = x := ⟨_, rfl⟩
          obtain ⟨p6, h6⟩ : ∃ x, k + p5 = x := ⟨_, rfl⟩
          obtain ⟨p, hp⟩ : ∃ x, p6 % 16 = x := ⟨_, rfl⟩
          have e4 : (k : Int).tmod 4 = p4 := by rw [Int.tmod_eq_emod_of_nonneg (by omega)]; omega
          have e5 : 4 * (p4 : Int) = p5 := by omega
          have e6 : (k : Int) + p5 = p6 := by omega
          have e7 : (p6 : Int).tmod 16 = p := by rw [Int.tmod_eq_emod_of_nonneg (by omega)]; omega
          have l4 : (p4 : Int) < 4 := by omega
          have l5 : (p5 : Int) < 16 := by omega
          have l6 : (p6 : Int) < 32 := by omega
          have l7 : (p : Int) < 16 := by omega
          obtain ⟨y, hy⟩ : ∃ y, st p = y := ⟨_, rfl⟩
          have vy : y < 256 := by rw [← hy]; exact hS.out p (by omega)
          obtain ⟨x, hx⟩ : ∃ x, gsub y = x := ⟨_, rfl⟩
          have hq : subS st k = x := by
            unfold subS
            rw [show (k + 4 * (k % 4)) % 16 = p by omega, hy, hx]
          have c1 : wr.cell? ⟨A + 1, p, none⟩ = some (.int .u8 y) := by rw [cellN kt.bb (by omega), hy]
          have c2 : wr.cell? ⟨T, k, none⟩ = some (.int .u8 (uptoC (subS st) k k)) := cellN gt hkl
          have c3 : wr.frozen? ⟨T, k, none⟩ = false := frozen4 gt
          have K1 : Hid (WtT A w st V (wr.setCell ⟨T, k, none⟩ (.int .u8 x))) := kt.cell LT.out gt k _
          have G1 : Hid ((wr.setCell ⟨T, k, none⟩ (.int .u8 x)).heap[T]? = some (.cells (bA 16 (uptoC (subS st) (k + 1))) 35)) := by
            show (wr.setCell ⟨T, k, none⟩ (.int .u8 x)).heap[T]? = _
            rw [heap4 _ gt, bA_set, ← hq, updN_upto]
          clear h4 h5 h6 hp hy hq kt gt
          go_wp2_with (first
            | (refine atBox (.tmp 27) rfl ?_; go_must (refine wpList_boxU (k := y) rfl rfl rfl vy ?_; simp only [Act.put, List.setIfInBounds_toArray, List.set_cons_succ, List.set_cons_zero, hx])))
          go_roundw
          case rel => exact ⟨k + 1, by omega, by go_num, K1.out, G1.out⟩
          case measure => simp [intOf]; omega
        · have ek : k = 16 := by omega
          subst ek
          rw [show ((16 : Nat) : Int) = 16 from rfl]
          clear hkl hk
          have gt2 : wr.heap[T]? = some (.cells (bA 16 (subS st)) 35) := by
            rw [bA_congr (g := subS st) (fun j hj => by unfold uptoC; rw [if_pos hj])] at gt
            exact gt
          clear gt
          by_cases h9 : n + 1 < 10
          · have i9 : (i : Int) < 10 := by have := HN.out; omega
            have hM : By (mixB fwd (subS st)) := mixF_by _
            have HF : Hid (addR w (mixB fwd (subS st)) i = encN w b (n + 1)) := by
              show addR w (mixB fwd (subS st)) i = encN w b (n + 1)
              rw [encN_mid w b h9, HST.out, HN.out.1]
            go_wp2_with (first
              | (refine atLoad 35 (.tmp 6) rfl ?_; go_must (refine wpList_load_row rfl 35 (.tmp 6) rfl T rfl 35 _ (0, 0) _ gt2 Tryz.underlying35 rfl (size16 _) ?_; simp only [Act.put, List.setIfInBounds_toArray, List.set_cons_succ, List.set_cons_zero]))
              | (refine atStore 35 (.tmp 3) (.tmp 30) rfl ?_; go_must (refine wpList_store_row rfl 35 (.tmp 3) (.tmp 30) rfl (A + 1) _ rfl rfl 35 _ kt.bb (size16 _) rfl (bA_one _ _) ?_; have kt := kt.setB (subS st)))
              | (refine atLoad 35 (.tmp 3) rfl ?_; go_must (refine wpList_load_row rfl 35 (.tmp 3) rfl (A + 1) rfl 35 _ (0, 0) _ kt.bb Tryz.underlying35 rfl (size16 _) ?_; simp only [Act.put, List.setIfInBounds_toArray, List.set_cons_succ, List.set_cons_zero]))
              | (refine atLoad 94 (.tmp 2) rfl ?_; go_must (refine wpList_load_row rfl 94 (.tmp 2) rfl A rfl 94 _ (0, 0) _ kt.ww Tryz.underlying94 rfl (size176 _) ?_; simp only [Act.put, List.setIfInBounds_toArray, List.set_cons_succ, List.set_cons_zero]))
              | (go_at_call 81; refine (mixed_any (subS st) _ (subS_by hS.out)).mono ?_; rintro e w1 ⟨rfl, hb1⟩; have kt := kt.on hb1)
              | (refine atStore 35 (.tmp 3) (.tmp 34) rfl ?_; go_must (refine wpList_store_row rfl 35 (.tmp 3) (.tmp 34) rfl (A + 1) _ rfl rfl 35 _ kt.bb (size16 _) rfl (bA_one _ _) ?_; have kt := kt.setB (mixB fwd (subS st))))
              | (go_at_call 80; refine (added_any (mixB fwd (subS st)) w i _ hM HW.out (by have := HN.out; omega)).mono ?_; rintro e w2 ⟨rfl, hb2⟩; have kt := kt.on hb2)
              | (refine atStore 35 (.tmp 3) (.tmp 38) rfl ?_; go_must (refine wpList_store_row rfl 35 (.tmp 3) (.tmp 38) rfl (A + 1) _ rfl rfl 35 _ kt.bb (size16 _) rfl (bA_one _ _) ?_; have kt := kt.setB (addR w (mixB fwd (subS st)) i))))
            go_roundw
            case rel => exact ⟨n + 1, by omega, by have := HN.out.1; go_num, by rw [← HF.out]; exact kt⟩
            case measure => have := HN.out; simp [intOf]; omega
          · have i9 : ¬ (i : Int) < 10 := by have := HN.out; omega
            have HF : Hid (addR w (subS st) i = encN w b (n + 1)) := by
              show addR w (subS st) i = encN w b (n + 1)
              have h := HN.out
              have e : n = 9 := by omega
              subst e
              rw [← h.1, encN_last, HST.out]
            go_wp2_with (first
              | (refine atLoad 35 (.tmp 6) rfl ?_; go_must (refine wpList_load_row rfl 35 (.tmp 6) rfl T rfl 35 _ (0, 0) _ gt2 Tryz.underlying35 rfl (size16 _) ?_; simp only [Act.put, List.setIfInBounds_toArray, List.set_cons_succ, List.set_cons_zero]))
              | (refine atStore 35 (.tmp 3) (.tmp 30) rfl ?_; go_must (refine wpList_store_row rfl 35 (.tmp 3) (.tmp 30) rfl (A + 1) _ rfl rfl 35 _ kt.bb (size16 _) rfl (bA_one _ _) ?_; have kt := kt.setB (subS st)))
              | (refine atLoad 35 (.tmp 3) rfl ?_; go_must (refine wpList_load_row rfl 35 (.tmp 3) rfl (A + 1) rfl 35 _ (0, 0) _ kt.bb Tryz.underlying35 rfl (size16 _) ?_; simp only [Act.put, List.setIfInBounds_toArray, List.set_cons_succ, List.set_cons_zero]))
              | (refine atLoad 94 (.tmp 2) rfl ?_; go_must (refine wpList_load_row rfl 94 (.tmp 2) rfl A rfl 94 _ (0, 0) _ kt.ww Tryz.underlying94 rfl (size176 _) ?_; simp only [Act.put, List.setIfInBounds_toArray, List.set_cons_succ, List.set_cons_zero]))
              | (go_at_call 80; refine (added_any (subS st) w i _ (subS_by hS.out) HW.out (by have := HN.out; omega)).mono ?_; rintro e w2 ⟨rfl, hb2⟩; have kt := kt.on hb2)
              | (refine atStore 35 (.tmp 3) (.tmp 38) rfl ?_; go_must (refine wpList_store_row rfl 35 (.tmp 3) (.tmp 38) rfl (A + 1) _ rfl rfl 35 _ kt.bb (size16 _) rfl (bA_one _ _) ?_; have kt := kt.setB (addR w (subS st) i))))
            go_roundw
            case rel => exact ⟨n + 1, by have := HN.out; omega, by have := HN.out.1; go_num, by rw [← HF.out]; exact kt⟩
            case measure => have := HN.out; simp [intOf]; omega
    · have en : n = 10 := by omega
      subst en
      have i1 : ¬ (i : Int) ≤ 10 := by omega
      go_wp2_with (first
        | (refine atLoad 35 (.tmp 3) rfl ?_; go_must (refine wpList_load_row rfl 35 (.tmp 3) rfl (A + 1) rfl 35 _ (0, 0) _ kt.bb Tryz.underlying35 rfl (size16 _) ?_; simp only [Act.put, List.setIfInBounds_toArray, List.set_cons_succ, List.set_cons_zero]))
        | (refine atStore 35 (.tmp 4) (.tmp 39) rfl ?_; go_must (refine wpList_store_row rfl 35 (.tmp 4) (.tmp 39) rfl (A + 2) _ rfl rfl 35 _ kt.rr (size16 _) rfl (bA_one _ _) ?_)))
      refine bodyPost_ret (v := .agg (bA 16 (enc w b))) (results_cell_row Tryz.results65 _ _ (A + 2) 35 _ (0, 0) _ rfl (setRow_heap _ _ _ _ _ _ kt.rr) Tryz.underlying35 rfl (size16 _)) rfl ⟨rfl, ?_⟩
      rw [VA.out]
      exact below4 kt.bel (by omega) _
end Go.Proofs.YteekoabgbjbabaaGreatDoor.Aes

namespace Go.Proofs.YteekoabgbjbabaaGreatDoor.Aes
open Go.RowKit Gf8

/-- The first three rows of a call, as they were. -/
structure R3 (A : Nat) (x y z : Obj) (V W : World) : Prop where
  x : W.heap[A]? = some x
  y : W.heap[A + 1]? = some y
  z : W.heap[A + 2]? = some z
  bel : Below A V W
theorem R3.lt {A : Nat} {x y z : Obj} {V W : World} (h : R3 A x y z V W) : A + 2 < W.heap.size := (Array.getElem?_eq_some_iff.1 h.z).1
theorem R3.on {A : Nat} {x y z : Obj} {V W W' : World} (h : R3 A x y z V W) (hb : Below W.heap.size W W') : R3 A x y z V W' := by
  have l := h.lt
  exact ⟨by rw [hb.block _ (by omega)]; exact h.x, by rw [hb.block _ (by omega)]; exact h.y, by rw [hb.block _ (by omega)]; exact h.z, h.bel.trans (hb.mono (by omega))⟩
theorem R3.row {A : Nat} {x y z : Obj} {V W : World} (h : R3 A x y z V W) {T : Nat} (hT : A + 2 < T) (c : Array Value) : R3 A x y z V (W.setRow T c) :=
  ⟨by rw [setRow_other _ _ _ _ (by omega)]; exact h.x, by rw [setRow_other _ _ _ _ (by omega)]; exact h.y, by rw [setRow_other _ _ _ _ (by omega)]; exact h.z, below4 h.bel (by omega) _⟩

end Go.Proofs.YteekoabgbjbabaaGreatDoor.Aes

namespace Go.Proofs.YteekoabgbjbabaaGreatDoor.Aes
open Go.RowKit Gf8

/-- The rows of Decrypt. -/
structure DcT (A B C : Nat) (w st : Nat → Nat) (V W : World) : Prop where
  bb : W.heap[A + 1]? = some (.cells (bA 16 st) 35)
  rr : W.heap[A + 2]? = some (.cells (bA 16 fun _ => 0) 35)
  ww : W.heap[B]? = some (.cells (bA 176 w) 94)
  tt : W.heap[C]? = some (.cells (bA 256 guns) 112)
  ab : A + 2 < B
  bc : B < C
  bel : Below A V W
theorem DcT.lt {A B C : Nat} {w st : Nat → Nat} {V W : World} (h : DcT A B C w st V W) : C < W.heap.size := (Array.getElem?_eq_some_iff.1 h.tt).1
theorem DcT.on {A B C : Nat} {w st : Nat → Nat} {V W W' : World} (h : DcT A B C w st V W) (hb : Below W.heap.size W W') : DcT A B C w st V W' := by
  have l := h.lt
  have l1 := h.ab
  have l2 := h.bc
  exact ⟨by rw [hb.block _ (by omega)]; exact h.bb, by rw [hb.block _ (by omega)]; exact h.rr, by rw [hb.block _ (by omega)]; exact h.ww, by rw [hb.block _ (by omega)]; exact h.tt, l1, l2, h.bel.trans (hb.mono (by omega))⟩
theorem DcT.setB {A B C : Nat} {w st : Nat → Nat} {V W : World} (h : DcT A B C w st V W) (g : Nat → Nat) : DcT A B C w g V (W.setRow (A + 1) (bA 16 g)) := by
  have l1 := h.ab
  have l2 := h.bc
  refine ⟨setRow_heap _ _ _ _ _ _ h.bb, ?_, ?_, ?_, l1, l2, below4 h.bel (by omega) _⟩
  · rw [setRow_other _ _ _ _ (by omega)]; exact h.rr
  · rw [setRow_other _ _ _ _ (by omega)]; exact h.ww
  · rw [setRow_other _ _ _ _ (by omega)]; exact h.tt
theorem DcT.cell {A B C T : Nat} {w st : Nat → Nat} {V W : World} (h : DcT A B C w st V W) (hT : C < T) {f : Nat → Nat} {t : TypeId} (g : W.heap[T]? = some (.cells (bA 16 f) t)) (k : Nat) (v : Value) : DcT A B C w st V (W.setCell ⟨T, k, none⟩ v) := by
  have l1 := h.ab
  have l2 := h.bc
  refine ⟨?_, ?_, ?_, ?_, l1, l2, h.bel.setCell (by simp; omega) _⟩
  · rw [heap4o _ g (by omega)]; exact h.bb
  · rw [heap4o _ g (by omega)]; exact h.rr
  · rw [heap4o _ g (by omega)]; exact h.ww
  · rw [heap4o _ g (by omega)]; exact h.tt

end Go.Proofs.YteekoabgbjbabaaGreatDoor.Aes

namespace Go.Proofs.YteekoabgbjbabaaGreatDoor.Aes
open Go.RowKit Gf8 By8

/-- p with the key stream laid over it. -/
def maskF (w : Nat → Nat) (s : Nat) (p : Nat → Nat) : Nat → Nat := fun i => p i ^^^ enc w (be (s + i / 16)) (i % 16)
section
variable {o : Oper} {a : Act} {w : World}
end
/-- Mask's rows ahead of byte k: the next start, the round keys, the stream's block, the answer so far. -/
structure MkT (A B S k c : Nat) (w f : Nat → Nat) (s0 : Nat) (p : Nat → Nat) (u : Value) (V W : World) : Prop where
  st : W.heap[A + 1]? = some (.cells (bA 16 (be (s0 + c))) 35)
  ww : W.heap[B]? = some (.cells (bA 176 w) 94)
  ss : W.heap[S]? = some (.cells (bA 16 f) 35)
  own : W.ownsRow A 5 1 u k (bytesL k (maskF w s0 p))
  ab : A + 1 < B
  bs : B < S
  bel : Below A V W
theorem MkT.lt {A B S k c : Nat} {w f : Nat → Nat} {s0 : Nat} {p : Nat → Nat} {u : Value} {V W : World} (h : MkT A B S k c w f s0 p u V W) : S < W.heap.size := (Array.getElem?_eq_some_iff.1 h.ss).1
theorem MkT.on {A B S k c : Nat} {w f : Nat → Nat} {s0 : Nat} {p : Nat → Nat} {u : Value} {V W W' : World} (h : MkT A B S k c w f s0 p u V W) (hb : Below W.heap.size W W') : MkT A B S k c w f s0 p u V W' := by
  have l := h.lt
  have l1 := h.ab
  have l2 := h.bs
  exact ⟨by rw [hb.block _ (by omega)]; exact h.st, by rw [hb.block _ (by omega)]; exact h.ww, by rw [hb.block _ (by omega)]; exact h.ss, ownsRow_below h.own hb, l1, l2, h.bel.trans (hb.mono (by omega))⟩
theorem MkT.setS {A B S k c : Nat} {w f : Nat → Nat} {s0 : Nat} {p : Nat → Nat} {u : Value} {V W : World} (h : MkT A B S k c w f s0 p u V W) (g : Nat → Nat) : MkT A B S k c w g s0 p u V (W.setRow S (bA 16 g)) := by
  have l1 := h.ab
  have l2 := h.bs
  exact ⟨by rw [setRow_other _ _ _ _ (by omega)]; exact h.st, by rw [setRow_other _ _ _ _ (by omega)]; exact h.ww, setRow_heap _ _ _ _ _ _ h.ss, ownsRow_row h.own h.ss (by decide) _, l1, l2, below4 h.bel (by omega) _⟩
theorem MkT.setT {A B S k c : Nat} {w f : Nat → Nat} {s0 : Nat} {p : Nat → Nat} {u : Value} {V W : World} (h : MkT A B S k c w f s0 p u V W) : MkT A B S k (c + 1) w f s0 p u V (W.setRow (A + 1) (bA 16 (be (s0 + c + 1)))) := by
  have l1 := h.ab
  have l2 := h.bs
  exact ⟨setRow_heap _ _ _ _ _ _ h.st, by rw [setRow_other _ _ _ _ (by omega)]; exact h.ww, by rw [setRow_other _ _ _ _ (by omega)]; exact h.ss, ownsRow_row h.own h.st (by decide) _, l1, l2, below4 h.bel (by omega) _⟩
/-- What each of the first operations of 'out = append(out, p[i]^s[i%16])' yields. -/
def apS (u v : Value) (k b off S y x z : Nat) (j : Nat) (r : Value) (W : World) : Prop :=
  match j with
  | 0 => r = u | 1 => r = v | 2 => r = .int .i64 k | 3 => r = .pointer (some ⟨b, off + k, none⟩) | 4 => r = .int .u8 y | 5 => r = .int .i64 k | 6 => r = .int .i64 (k % 16 : Nat) | 7 => r = .pointer (some ⟨S, k % 16, none⟩) | 8 => r = .int .u8 x | 9 => r = .int .u8 z
  | _ => ∃ g, r = .slice (some ⟨g, 0, none⟩) 1 1 ∧ W.heap[g]? = some (.cells #[.int .u8 z] 5)
theorem apS_on {u v : Value} {k b off S y x z j : Nat} {r : Value} {W W' : World} (h : apS u v k b off S y x z j r W) (hb : Below W.heap.size W W') : apS u v k b off S y x z j r W' := by
  match j, h with
  | 0, h => exact h
  | 1, h => exact h
  | 2, h => exact h
  | 3, h => exact h
  | 4, h => exact h
  | 5, h => exact h
  | 6, h => exact h
  | 7, h => exact h
  | 8, h => exact h
  | 9, h => exact h
  | n + 10, h =>
    obtain ⟨g, rfl, hg⟩ := h
    exact ⟨g, rfl, by rw [hb.block _ (Array.getElem?_eq_some_iff.1 hg).1]; exact hg⟩

set_option maxRecDepth 20000 in
set_option maxHeartbeats 2000000 in
theorem rmask_any (key p : Nat → Nat) (s0 len : Nat) (v : Value) (V : World) (hk : ∀ i, i < 16 → key i < 256) (hv : SliceN V v len p) (hl : len ≤ 140737488351232) :
    Calls Tryz.prog 50 #[.agg (bA 16 key), .agg (bA 16 (be s0)), v] V fun e w' => ∃ r, e = .returned r ∧ SliceN w' r len (maskF (kw key) s0 p) ∧ Below V.heap.size V w' := by
  obtain ⟨⟨ao, cap, rfl, hc1, hc2, hc3⟩, hby⟩ := hv
  have HP : Hid (∀ j, j < len → p j < 256) := hby
  have HV : Hid (0 < len → ∃ b off, ao = some ⟨b, off, none⟩ ∧ b < V.heap.size ∧ ∀ j, j < len → V.cell? ⟨b, off + j, none⟩ = some (.int .u8 (p j))) := hc3
  have HL : Hid (len ≤ 140737488351232) := hl
  obtain ⟨w, hw⟩ : ∃ w, kw key = w := ⟨_, rfl⟩
  have HW : Hid (∀ i, i < 176 → w i < 256) := by intro i _; rw [← hw]; exact kw_lt hk i
  have RK : Hid (∀ W : World, Calls Tryz.prog 64 #[.agg (bA 16 key)] W fun e w' => e = .returned (.agg (bA 176 w)) ∧ Below W.heap.size W w') := by
    intro W
    have h := keys_any key W hk
    rw [hw] at h
    exact h
  have HM : Hid (∀ j, j < len → maskF w s0 p j < 256) := by
    intro j hj
    exact xor_lt (hby j hj) (enc_by HW.out (be_by _) _ (Nat.mod_lt _ (by omega)))
  rw [hw]
  clear hk hc1 hc2 hc3 hby hl hw
  have z := zero16
  have z2 := zero176
  obtain ⟨A, hA⟩ : ∃ A, A = V.heap.size := ⟨_, rfl⟩
  have VA : Hid (V.heap.size = A) := hA.symm
  have hs : ∀ (v : World) (o : Obj), (v.alloc o).heap = v.heap.push o := fun _ _ => rfl
  have g0 : ((V.alloc (.cells (bA 16 key) 35)).alloc (.cells (bA 16 (be s0)) 35)).heap[A]? = some (.cells (bA 16 key) 35) := by
    rw [hA]; simp only [hs, Array.getElem?_push, Array.size_push]; rw [if_neg (by omega), if_pos trivial]
  have g1 : ((V.alloc (.cells (bA 16 key) 35)).alloc (.cells (bA 16 (be s0)) 35)).heap[A + 1]? = some (.cells (bA 16 (be s0)) 35) := by
    rw [hA]; simp only [hs, Array.getElem?_push, Array.size_push]; rw [if_pos trivial]
  have b0 : Below A V ((V.alloc (.cells (bA 16 key) 35)).alloc (.cells (bA 16 (be s0)) 35)) := by
    rw [hA]; exact ((Below.refl _ _).alloc (Nat.le_refl _) _).alloc (by simp) _
  clear hs hA
  have mk : ∀ W, (Instr.makeSlice 24 (.int .i64 0) (.int .i64 (len : Int))).run Tryz.prog W = .ok (.slice (some ⟨W.heap.size, 0, none⟩) 0 len) (W.alloc (.cells (bA len (fun _ => 0)) 5)) := fun W => run_mk 0 len (Nat.zero_le _) (by have := HL.out; omega) W
  go_enter Tryz.func50, Tryz.ntmps50
  go_wp2_with (first
    | (refine atLoad 35 (.tmp 3) rfl ?_; go_must (rw [VA.out]; refine wpList_load_row rfl 35 (.tmp 3) rfl A rfl 35 _ (0, 0) _ g0 Tryz.underlying35 rfl (size16 _) ?_; simp only [Act.put, List.setIfInBounds_toArray, List.set_cons_succ, List.set_cons_zero]))
    | (go_at_call 64; refine Calls.mono (RK.out _) ?_; rintro e w1 ⟨rfl, hb1⟩)
    | (refine atStore 94 (.tmp 7) (.tmp 12) rfl ?_; go_must (refine wpList_store_row rfl 94 (.tmp 7) (.tmp 12) rfl w1.heap.size _ rfl rfl 94 _ (heapNew w1 _) (size176 _) rfl (bA_one _ _) ?_)))
  obtain ⟨B, hB⟩ : ∃ B, B = w1.heap.size := ⟨_, rfl⟩
  have sz0 : ((V.alloc (.cells (bA 16 key) 35)).alloc (.cells (bA 16 (be s0)) 35)).heap.size = A + 2 := by rw [← VA.out]; simp
  have lB : A + 2 ≤ B := by rw [hB, ← sz0]; exact hb1.size
  obtain ⟨Wa, hWa⟩ : ∃ Wa, Wa = (w1.alloc (.cells (bA 176 fun _ => 0) 94)).setRow w1.heap.size (bA 176 w) := ⟨_, rfl⟩
  have sa : Wa.heap.size = B + 1 := by rw [hWa, hB]; simp
  have wa1 : Wa.heap[A + 1]? = some (.cells (bA 16 (be s0)) 35) := by
    rw [hWa, setRow_other _ _ _ _ (by omega), heapOld _ _ (by omega), hb1.block _ (by omega)]; exact g1
  have wa2 : Wa.heap[B]? = some (.cells (bA 176 w) 94) := by
    rw [hWa, hB]; exact setRow_heap _ _ _ _ _ _ (heapNew w1 _)
  have ba : Below A V Wa := by
    rw [hWa]
    exact below4 ((b0.trans (hb1.mono (by omega))).trans ((belNew w1 _).mono (by omega))) (by omega) _
  rw [← hWa, ← hB]
  have t0 : MkT A B (B + 2) 0 0 w (fun _ => 0) s0 p (.slice (some ⟨B + 1, 0, none⟩) 0 len) V ((Wa.alloc (.cells (bA len fun _ => 0) 5)).alloc (.cells (bA 16 fun _ => 0) 35)) := by
    have sb : (Wa.alloc (.cells (bA len fun _ => 0) 5)).heap.size = B + 2 := by simp [sa]
    have ow := own_made Wa (B := A) (n := len) (by omega) (by have := HL.out; omega)
    rw [sa] at ow
    refine ⟨?_, ?_, ?_, ownsRow_below ow (belNew _ _), by omega, by omega, (ba.trans ((belNew Wa _).mono (by omega))).trans ((belNew _ _).mono (by omega))⟩
    · rw [heapOld _ _ (by omega), heapOld _ _ (by omega)]; exact wa1
    · rw [heapOld _ _ (by omega), heapOld _ _ (by omega)]; exact wa2
    · have h := heapNew (Wa.alloc (.cells (bA len fun _ => 0) 5)) (.cells (bA 16 fun _ => 0) 35)
      rw [sb] at h
      exact h
  rw [show B + 1 + 1 = B + 2 from rfl]
  obtain ⟨S, hS⟩ : ∃ S, S = B + 2 := ⟨_, rfl⟩
  rw [← hS] at t0 ⊢
  have T0 : Hid (_) := t0
  clear t0 hS hB hWa sa wa1 wa2 ba sz0 lB g0 g1 b0 hb1 mk z z2
  go_loopw [8, 10] (fun o x W => ∃ k : Nat, k ≤ len ∧ ∃ u, u = o ∧ x = .int .i64 k ∧ ∃ c f, c = (k + 15) / 16 ∧ (k % 16 ≠ 0 → f = enc w (be (s0 + k / 16))) ∧ MkT A B S k c w f s0 p u V W) (fun _ x _ => len - (intOf x).toNat)
  case atStart => exact ⟨0, by omega, _, rfl, rfl, 0, fun _ => 0, rfl, fun h => absurd rfl h, T0.out⟩
  case round =>
    obtain ⟨k, hk, u, hu, rfl, c, f, hc, hf, kt⟩ := hrel
    subst hu
    clear T0
    by_cases hlt : k < len
    · obtain ⟨b, off, rfl, lb, hcell⟩ := HV.out (by omega)
      have HC : Hid (∀ j, j < len → V.cell? ⟨b, off + j, none⟩ = some (.int .u8 (p j))) := hcell
      have i1 : (k : Int) < len := by omega
      have HN : Hid (k < len) := hlt
      have mt : (k : Int).tmod 16 = ((k % 16 : Nat) : Int) := by rw [Int.tmod_eq_emod_of_nonneg (by omega)]; omega
      clear hlt hcell hk
      by_cases h16 : k % 16 = 0
      · have mt2 : (k : Int).tmod 16 = 0 := by rw [mt, h16]; rfl
        have ec : c = k / 16 := by omega
        subst ec
        clear mt hf hc
        have HE : Hid (k % 16 = 0) := h16
        clear h16
        go_wp2_with (first
          | (refine atLoad 94 (.tmp 7) rfl ?_; go_must (refine wpList_load_row rfl 94 (.tmp 7) rfl B rfl 94 _ (0, 0) _ kt.ww Tryz.underlying94 rfl (size176 _) ?_; simp only [Act.put, List.setIfInBounds_toArray, List.set_cons_succ, List.set_cons_zero]))
          | (refine atLoad 35 (.tmp 4) rfl ?_; go_must (refine wpList_load_row rfl 35 (.tmp 4) rfl (A + 1) rfl 35 _ (0, 0) _ kt.st Tryz.underlying35 rfl (size16 _) ?_; simp only [Act.put, List.setIfInBounds_toArray, List.set_cons_succ, List.set_cons_zero]))
          | (go_at_call 65; refine (with_any w (be (s0 + k / 16)) _ (be_by _) HW.out).mono ?_; rintro e w2 ⟨rfl, hb2⟩; have kt := kt.on hb2)
          | (refine atStore 35 (.tmp 9) (.tmp 27) rfl ?_; go_must (refine wpList_store_row rfl 35 (.tmp 9) (.tmp 27) rfl S _ rfl rfl 35 _ kt.ss (size16 _) rfl (bA_one _ _) ?_; have kt := kt.setS (enc w (be (s0 + k / 16)))))
          | (go_at_call 66; refine (next_any (s0 + k / 16) _).mono ?_; rintro e w3 ⟨rfl, hb3⟩; have kt := kt.on hb3)
          | (refine atStore 35 (.tmp 4) (.tmp 29) rfl ?_; go_must (refine wpList_store_row rfl 35 (.tmp 4) (.tmp 29) rfl (A + 1) _ rfl rfl 35 _ kt.st (size16 _) rfl (bA_one _ _) ?_; have kt := kt.setT)))
        refine wp_region_slotsA 11 43 [30, 31, 32, 33, 34, 35, 36, 37, 38, 39, 40] (apS u (.slice (some ⟨b, off, none⟩) len cap) k b off S (p k) (enc w (be (s0 + k / 16)) (k % 16)) (maskF w s0 p k)) (by kernel_rfl) (by kernel_rfl) (by kernel_rfl) (by decide) rfl rfl (by decide) (by decide) (fun _ _ _ _ h hb => apS_on h hb) ?_ ?_
        · intro j hj a W hB hf hdep
          have kW := kt.on hB
          have lk := HN.out
          have cp : W.cell? ⟨b, off + k, none⟩ = some (.int .u8 (p k)) := by
            rw [cell_below kW.bel (by rw [← VA.out]; exact lb), HC.out k lk]
          have be8 : enc w (be (s0 + k / 16)) (k % 16) < 256 := enc_by HW.out (be_by _) _ (Nat.mod_lt _ (by omega))
          match j, hj with
          | 0, _ => exact stepV rfl rfl (execMvB rfl (hf 8 (by decide))) ⟨_, rfl, rfl, Below.refl _ _⟩
          | 1, _ => exact stepV rfl rfl (execMvB rfl (hf 2 (by decide))) ⟨_, rfl, rfl, Below.refl _ _⟩
          | 2, _ => exact stepV rfl rfl (execMvB rfl (hf 10 (by decide))) ⟨_, rfl, rfl, Below.refl _ _⟩
          | 3, _ => exact stepV rfl rfl (execIdxS rfl (hdep _ rfl 1 rfl) (hdep _ rfl 2 rfl) lk) ⟨_, rfl, rfl, Below.refl _ _⟩
          | 4, _ => exact stepV rfl rfl (execLdB rfl (hdep _ rfl 3 rfl) cp) ⟨_, rfl, rfl, Below.refl _ _⟩
          | 5, _ => exact stepV rfl rfl (execMvB rfl (hf 10 (by decide))) ⟨_, rfl, rfl, Below.refl _ _⟩
          | 6, _ => exact stepV rfl rfl (execRemI (q := 16) rfl (hdep _ rfl 5 rfl) rfl (by omega)) ⟨_, rfl, rfl, Below.refl _ _⟩
          | 7, _ => exact stepV rfl rfl (execIdx16 rfl (hf 9 (by decide)) (hdep _ rfl 6 rfl) (Nat.mod_lt _ (by omega))) ⟨_, rfl, rfl, Below.refl _ _⟩
          | 8, _ => exact stepV rfl rfl (execLdB rfl (hdep _ rfl 7 rfl) (cellN kW.ss (Nat.mod_lt _ (by omega)))) ⟨_, rfl, rfl, Below.refl _ _⟩
          | 9, _ => exact stepV rfl rfl (execXor5 rfl (hdep _ rfl 4 rfl) (hdep _ rfl 8 rfl) (HP.out k lk) be8) ⟨_, rfl, rfl, Below.refl _ _⟩
          | 10, _ => exact stepV rfl rfl (execOne rfl (hdep _ rfl 9 rfl)) ⟨_, rfl, ⟨_, rfl, heapNew W _⟩, belNew W _⟩
          | n + 11, h => exact absurd h (by omega)
        · intro x W hB hS
          have kW := kt.on hB
          obtain ⟨g, hx10, hg⟩ := hS 10 (by omega)
          have x0 : x 0 = u := hS 0 (by omega)
          have x1 : x 1 = .slice (some ⟨b, off, none⟩) len cap := hS 1 (by omega)
          have x2 : x 2 = .int .i64 k := hS 2 (by omega)
          have x3 : x 3 = .pointer (some ⟨b, off + k, none⟩) := hS 3 (by omega)
          have x4 : x 4 = .int .u8 (p k) := hS 4 (by omega)
          have x5 : x 5 = .int .i64 k := hS 5 (by omega)
          have x6 : x 6 = .int .i64 (k % 16 : Nat) := hS 6 (by omega)
          have x7 : x 7 = .pointer (some ⟨S, k % 16, none⟩) := hS 7 (by omega)
          have x8 : x 8 = .int .u8 (enc w (be (s0 + k / 16)) (k % 16)) := hS 8 (by omega)
          have x9 : x 9 = .int .u8 (maskF w s0 p k) := hS 9 (by omega)
          have KW : Hid (_) := kW
          have hsz := kW.lt
          have l1 := kW.ab
          have l2 := kW.bs
          clear hS hB kt kW
          simp only [putL, Act.put, List.setIfInBounds_toArray, List.set_cons_succ, List.set_cons_zero, x0, x1, x2, x3, x4, x5, x6, x7, x8, x9, hx10]
          clear x0 x1 x2 x3 x4 x5 x6 x7 x8 x9 hx10
          refine wpList_app1 (B := A) (n := k) (g := g) (v := u) (p := maskF w s0 p) (w0 := V) rfl (.tmp 30) (.tmp 40) rfl rfl rfl KW.out.own hg (by have := HN.out; have := HL.out; omega) KW.out.bel (by omega) ?_
          intro u' W' own' grown bel' _
          have KT2 : Hid (MkT A B S (k + 1) (k / 16 + 1) w (enc w (be (s0 + k / 16))) s0 p u' V W') := by
            refine ⟨?_, ?_, ?_, own', l1, l2, bel'⟩
            · rw [grown.block _ (by omega) (own_ne KW.out.own KW.out.st (by decide))]; exact KW.out.st
            · rw [grown.block _ (by omega) (own_ne KW.out.own KW.out.ww (by decide))]; exact KW.out.ww
            · rw [grown.block _ (by omega) (own_ne KW.out.own KW.out.ss (by decide))]; exact KW.out.ss
          clear KW hsz l1 l2 own' grown bel' hg
          have wl : wrap64 ((k : Int) + 1) = (k : Int) + 1 := by unfold wrap64; have := HN.out; have := HL.out; omega
          go_wp2
          go_roundw
          case rel =>
            refine ⟨k + 1, by have := HN.out; omega, u', rfl, by rw [wl]; go_num, (k + 1 + 15) / 16, enc w (be (s0 + k / 16)), rfl, fun h => ?_, ?_⟩
            · rw [show (k + 1) / 16 = k / 16 by omega]
            · have h := KT2.out
              rw [show k / 16 + 1 = (k + 1 + 15) / 16 by omega] at h
              exact h
          case measure => have := HN.out; rw [wl]; simp [intOf]; omega
      · have mt2 : ¬ ((k % 16 : Nat) : Int) = 0 := by omega
        have ef := hf h16
        subst ef
        have ec : c = k / 16 + 1 := by omega
        subst ec
        obtain ⟨q, hq⟩ : ∃ q, k % 16 = q := ⟨_, rfl⟩
        have mt3 : ((q : Int) == 0) = false := by simp; omega
        rw [hq] at mt mt2
        clear hf hc h16 hq
        go_wp2_with fail
        refine wp_region_slotsA 11 43 [30, 31, 32, 33, 34, 35, 36, 37, 38, 39, 40] (apS u (.slice (some ⟨b, off, none⟩) len cap) k b off S (p k) (enc w (be (s0 + k / 16)) (k % 16)) (maskF w s0 p k)) (by kernel_rfl) (by kernel_rfl) (by kernel_rfl) (by decide) rfl rfl (by decide) (by decide) (fun _ _ _ _ h hb => apS_on h hb) ?_ ?_
        · intro j hj a W hB hf hdep
          have kW := kt.on hB
          have lk := HN.out
          have cp : W.cell? ⟨b, off + k, none⟩ = some (.int .u8 (p k)) := by
            rw [cell_below kW.bel (by rw [← VA.out]; exact lb), HC.out k lk]
          have be8 : enc w (be (s0 + k / 16)) (k % 16) < 256 := enc_by HW.out (be_by _) _ (Nat.mod_lt _ (by omega))
          match j, hj with
          | 0, _ => exact stepV rfl rfl (execMvB rfl (hf 8 (by decide))) ⟨_, rfl, rfl, Below.refl _ _⟩
          | 1, _ => exact stepV rfl rfl (execMvB rfl (hf 2 (by decide))) ⟨_, rfl, rfl, Below.refl _ _⟩
          | 2, _ => exact stepV rfl rfl (execMvB rfl (hf 10 (by decide))) ⟨_, rfl, rfl, Below.refl _ _⟩
          | 3, _ => exact stepV rfl rfl (execIdxS rfl (hdep _ rfl 1 rfl) (hdep _ rfl 2 rfl) lk) ⟨_, rfl, rfl, Below.refl _ _⟩
          | 4, _ => exact stepV rfl rfl (execLdB rfl (hdep _ rfl 3 rfl) cp) ⟨_, rfl, rfl, Below.refl _ _⟩
          | 5, _ => exact stepV rfl rfl (execMvB rfl (hf 10 (by decide))) ⟨_, rfl, rfl, Below.refl _ _⟩
          | 6, _ => exact stepV rfl rfl (execRemI (q := 16) rfl (hdep _ rfl 5 rfl) rfl (by omega)) ⟨_, rfl, rfl, Below.refl _ _⟩
          | 7, _ => exact stepV rfl rfl (execIdx16 rfl (hf 9 (by decide)) (hdep _ rfl 6 rfl) (Nat.mod_lt _ (by omega))) ⟨_, rfl, rfl, Below.refl _ _⟩
          | 8, _ => exact stepV rfl rfl (execLdB rfl (hdep _ rfl 7 rfl) (cellN kW.ss (Nat.mod_lt _ (by omega)))) ⟨_, rfl, rfl, Below.refl _ _⟩
          | 9, _ => exact stepV rfl rfl (execXor5 rfl (hdep _ rfl 4 rfl) (hdep _ rfl 8 rfl) (HP.out k lk) be8) ⟨_, rfl, rfl, Below.refl _ _⟩
          | 10, _ => exact stepV rfl rfl (execOne rfl (hdep _ rfl 9 rfl)) ⟨_, rfl, ⟨_, rfl, heapNew W _⟩, belNew W _⟩
          | n + 11, h => exact absurd h (by omega)
        · intro x W hB hS
          have kW := kt.on hB
          obtain ⟨g, hx10, hg⟩ := hS 10 (by omega)
          have x0 : x 0 = u := hS 0 (by omega)
          have x1 : x 1 = .slice (some ⟨b, off, none⟩) len cap := hS 1 (by omega)
          have x2 : x 2 = .int .i64 k := hS 2 (by omega)
          have x3 : x 3 = .pointer (some ⟨b, off + k, none⟩) := hS 3 (by omega)
          have x4 : x 4 = .int .u8 (p k) := hS 4 (by omega)
          have x5 : x 5 = .int .i64 k := hS 5 (by omega)
          have x6 : x 6 = .int .i64 (k % 16 : Nat) := hS 6 (by omega)
          have x7 : x 7 = .pointer (some ⟨S, k % 16, none⟩) := hS 7 (by omega)
          have x8 : x 8 = .int .u8 (enc w (be (s0 + k / 16)) (k % 16)) := hS 8 (by omega)
          have x9 : x 9 = .int .u8 (maskF w s0 p k) := hS 9 (by omega)
          have KW : Hid (_) := kW
          have hsz := kW.lt
          have l1 := kW.ab
          have l2 := kW.bs
          clear hS hB kt kW
          simp only [putL, Act.put, List.setIfInBounds_toArray, List.set_cons_succ, List.set_cons_zero, x0, x1, x2, x3, x4, x5, x6, x7, x8, x9, hx10]
          clear x0 x1 x2 x3 x4 x5 x6 x7 x8 x9 hx10
          refine wpList_app1 (B := A) (n := k) (g := g) (v := u) (p := maskF w s0 p) (w0 := V) rfl (.tmp 30) (.tmp 40) rfl rfl rfl KW.out.own hg (by have := HN.out; have := HL.out; omega) KW.out.bel (by omega) ?_
          intro u' W' own' grown bel' _
          have KT2 : Hid (MkT A B S (k + 1) (k / 16 + 1) w (enc w (be (s0 + k / 16))) s0 p u' V W') := by
            refine ⟨?_, ?_, ?_, own', l1, l2, bel'⟩
            · rw [grown.block _ (by omega) (own_ne KW.out.own KW.out.st (by decide))]; exact KW.out.st
            · rw [grown.block _ (by omega) (own_ne KW.out.own KW.out.ww (by decide))]; exact KW.out.ww
            · rw [grown.block _ (by omega) (own_ne KW.out.own KW.out.ss (by decide))]; exact KW.out.ss
          clear KW hsz l1 l2 own' grown bel' hg
          have wl : wrap64 ((k : Int) + 1) = (k : Int) + 1 := by unfold wrap64; have := HN.out; have := HL.out; omega
          go_wp2
          go_roundw
          case rel =>
            refine ⟨k + 1, by have := HN.out; omega, u', rfl, by rw [wl]; go_num, (k + 1 + 15) / 16, enc w (be (s0 + k / 16)), rfl, fun h => ?_, ?_⟩
            · rw [show (k + 1) / 16 = k / 16 by omega]
            · have h := KT2.out
              rw [show k / 16 + 1 = (k + 1 + 15) / 16 by omega] at h
              exact h
          case measure => have := HN.out; rw [wl]; simp [intOf]; omega
    · have i1 : ¬ (k : Int) < len := by omega
      have ek : k = len := by omega
      subst ek
      have HR : Hid (SliceN wr u k (maskF w s0 p)) := own_slice kt.own HM.out
      have BL : Hid (Below V.heap.size V wr) := by show Below V.heap.size V wr; rw [VA.out]; exact kt.bel
      clear kt hf hc
      go_wp2
      go_ret
      exact ⟨_, rfl, HR.out, BL.out⟩
end Go.Proofs.YteekoabgbjbabaaGreatDoor.Aes

namespace Go.Proofs.YteekoabgbjbabaaGreatDoor.Aes
open Go.RowKit Gf8

/- == of arrays of bytes. -/
def eqB (n : Nat) (f g : Nat → Nat) : Bool := (List.range n).all fun i => (f i : Int) == (g i : Int)
theorem equalB8 (d : Nat) (x y : Int) (W : World) : (Op.equalIn (d + 1) 5 (.int .u8 x) (.int .u8 y)).run Tryz.prog W = .ok (x == y) W := by
  simp only [Op.equalIn, Sem.run_bind, run_underlying Tryz.underlying5, Result.andThen_ok]
  rfl
theorem partB {n : Nat} (f : Nat → Nat) (i : Nat) (h : i < n) (W : World) : (part 5 (bA n f) i).run Tryz.prog W = .ok (.int .u8 (f i)) W := by
  have h1 := bA_at n f h
  simp [go_sem, h1]
theorem loopB (n d : Nat) (f g : Nat → Nat) : ∀ (l : List Nat), (∀ i ∈ l, i < n) → ∀ W : World,
    Sem.run Tryz.prog (forIn l ((none, ()) : Option Bool × Unit) fun i _ => do
              let x ← part 5 (bA n f) (i * 1)
              let y ← part 5 (bA n g) (i * 1)
              let z ← Op.equalIn (d + 1) 5 x y
              if (!z) = true then pure (ForInStep.done (some false, ())) else pure (ForInStep.yield (none, ()))) W
      = .ok (if l.all (fun i => (f i : Int) == (g i : Int)) then (none, ()) else (some false, ())) W := by
  intro l
  induction l with
  | nil => intro _ W; simp
  | cons i l ih =>
    intro h W
    have hi : i < n := h i (by simp)
    simp only [List.forIn_cons, Sem.run_bind, Nat.mul_one, partB f i hi, partB g i hi, equalB8, Result.andThen_ok]
    by_cases e : (f i : Int) = (g i : Int)
    · have hb : ((f i : Int) == (g i : Int)) = true := by simp [e]
      simp only [hb, Bool.not_true, Bool.false_eq_true, if_false, Sem.run_pure, Result.andThen_ok, List.all_cons, Bool.true_and]
      have := ih (fun j hj => h j (by simp [hj])) W
      simp only [Nat.mul_one] at this
      exact this
    · have hb : ((f i : Int) == (g i : Int)) = false := by simpa using e
      simp only [hb, Bool.not_false, if_true, Sem.run_pure, Result.andThen_ok, List.all_cons, Bool.false_and, Bool.false_eq_true, if_false]
theorem equalIn16 (d : Nat) (f g : Nat → Nat) (W : World) : (Op.equalIn (d + 2) 35 (.agg (bA 16 f)) (.agg (bA 16 g))).run Tryz.prog W = .ok (eqB 16 f g) W := by
  have hs : ∀ W, (sizeOf 5).run Tryz.prog W = .ok 1 W := by intro W; simp [go_sem]
  rw [Op.equalIn]
  simp only [Sem.run_bind, run_underlying Tryz.underlying35, Result.andThen_ok, Std.Legacy.Range.forIn_eq_forIn_range', hs]
  have e := loopB 16 d f g (List.range' 0 [:16].size) (by intro i hi; simp at hi; simpa using hi) W
  rw [e]
  have hr : List.range' 0 [:16].size = List.range 16 := by decide
  rw [hr]
  unfold eqB
  cases (List.range 16).all fun i => (f i : Int) == (g i : Int)
  · simp only [Result.andThen_ok]; rfl
  · simp only [Result.andThen_ok]; rfl
theorem equal16 (f g : Nat → Nat) (W : World) : (Op.equal 35 (.agg (bA 16 f)) (.agg (bA 16 g))).run Tryz.prog W = .ok (eqB 16 f g) W := equalIn16 9998 f g W
theorem eqB_true {n : Nat} {f g : Nat → Nat} (h : ∀ i, i < n → f i = g i) : eqB n f g = true := by
  unfold eqB
  rw [List.all_eq_true]
  intro i hi
  simp [h i (List.mem_range.1 hi)]
theorem noGuard16 : Tryz.prog.eqGuardType Tryz.prog.depth 35 = false := by kernel_rfl
theorem exec_neq16 {o : Oper} {a : Act} {w : World} {x y : Operand} {f g : Nat → Nat} (ho : o.op = .binOp .neq 35 x y 35) (hx : a.eval x = .agg (bA 16 f)) (hy : a.eval y = .agg (bA 16 g)) :
    (execOp a.eval o).run Tryz.prog w = .ok (.value (.bool (!eqB 16 f g))) w := by
  have hb : (binOp .neq 35 (.agg (bA 16 f)) (.agg (bA 16 g))).run Tryz.prog w = .ok (.bool (!eqB 16 f g)) w := by
    unfold binOp
    simp only [Sem.run_bind, equal16, Result.andThen_ok, Sem.run_pure]
  unfold execOp
  simp only [ho, hx, hy, eqGuard, Sem.run_bind]
  rw [if_neg (by decide)]
  simp only [Sem.run_bind, run_program, Result.andThen_ok, noGuard16, Bool.not_false, if_true, Sem.run_pure, hb]
end Go.Proofs.YteekoabgbjbabaaGreatDoor.Aes
