import Derived.Test.YtealknodagdjaaaJ7
namespace Go.Proofs.Ytealknodagdjaaa.Aes
open Go.RowKit Gf8

theorem heapNew (W : World) (o : Obj) : (W.alloc o).heap[W.heap.size]? = some o := by show (W.heap.push _)[W.heap.size]? = _; rw [Array.getElem?_push_size]
theorem heapOld (W : World) (o : Obj) {k : Nat} (h : k < W.heap.size) : (W.alloc o).heap[k]? = W.heap[k]? := by
  show (W.heap.push _)[k]? = _
  rw [Array.getElem?_push, if_neg (by omega)]
theorem belNew (W : World) (o : Obj) : Below W.heap.size W (W.alloc o) := (Below.refl _ _).alloc (Nat.le_refl _) _
/-- The first three rows of a call, as they were. -/
structure R3 (A : Nat) (x y z : Obj) (V W : World) : Prop where
  x : W.heap[A]? = some x
  y : W.heap[A + 1]? = some y
  z : W.heap[A + 2]? = some z
  bel : Below A V W
theorem R3.mk3 (V : World) (x y z : Obj) : R3 V.heap.size x y z V (((V.alloc x).alloc y).alloc z) :=
  ⟨(heap3c V x y z).1, (heap3c V x y z).2.1, (heap3c V x y z).2.2, below3c _ _ _ _⟩
theorem R3.lt {A : Nat} {x y z : Obj} {V W : World} (h : R3 A x y z V W) : A + 2 < W.heap.size := (Array.getElem?_eq_some_iff.1 h.z).1
theorem R3.on {A : Nat} {x y z : Obj} {V W W' : World} (h : R3 A x y z V W) (hb : Below W.heap.size W W') : R3 A x y z V W' := by
  have l := h.lt
  exact ⟨by rw [hb.block _ (by omega)]; exact h.x, by rw [hb.block _ (by omega)]; exact h.y, by rw [hb.block _ (by omega)]; exact h.z, h.bel.trans (hb.mono (by omega))⟩
theorem R3.row {A : Nat} {x y z : Obj} {V W : World} (h : R3 A x y z V W) {T : Nat} (hT : A + 2 < T) (c : Array Value) : R3 A x y z V (W.setRow T c) :=
  ⟨by rw [setRow_other _ _ _ _ (by omega)]; exact h.x, by rw [setRow_other _ _ _ _ (by omega)]; exact h.y, by rw [setRow_other _ _ _ _ (by omega)]; exact h.z, below4 h.bel (by omega) _⟩

set_option maxRecDepth 20000 in
set_option maxHeartbeats 400000 in
theorem rencrypt_any (key b : Nat → Nat) (V : World) (hk : ∀ i, i < 16 → key i < 256) (hb : By b) :
    Calls Try.prog 16 #[.agg (bA 16 key), .agg (bA 16 b)] V fun e w' => e = .returned (.agg (bA 16 (enc (kw key) b))) ∧ Below V.heap.size V w' := by
  have HB : Hid (By b) := hb
  have HK : Hid (∀ i, i < 16 → key i < 256) := hk
  have HW : Hid (∀ i, kw key i < 256) := kw_lt hk
  clear hb hk
  have z := zero16
  have z2 := zero176
  go_enter Try.func16, Try.ntmps16
  have kt := R3.mk3 V (.cells (bA 16 key) 23) (.cells (bA 16 b) 23) (.cells (bA 16 fun _ => 0) 23)
  obtain ⟨A, hA⟩ : ∃ A, A = V.heap.size := ⟨_, rfl⟩
  have VA : Hid (V.heap.size = A) := hA.symm
  rw [VA.out] at kt
  clear hA
  go_wp2_with (first
    | (refine atLoad 23 (.tmp 2) rfl ?_; go_must (rw [VA.out]; refine wpList_load_row rfl 23 (.tmp 2) rfl A rfl 23 _ (0, 0) _ kt.x Try.underlying23 rfl (size16 _) ?_; simp only [Act.put, List.setIfInBounds_toArray, List.set_cons_succ, List.set_cons_zero]))
    | (go_at_call 29; refine (keys_any key _ HK.out).mono ?_; rintro e w1 ⟨rfl, hb1⟩; have k1 := kt.on hb1; have kt := k1.on (belNew w1 (.cells (bA 176 fun _ => 0) 38)); have gT := heapNew w1 (.cells (bA 176 fun _ => 0) 38); have lT := k1.lt; clear k1 hb1)
    | (refine atStore 38 (.tmp 5) (.tmp 7) rfl ?_; go_must (refine wpList_store_row rfl 38 (.tmp 5) (.tmp 7) rfl w1.heap.size _ rfl rfl 38 _ gT (size176 _) rfl (bA_one _ _) ?_; have kt := kt.row lT (bA 176 (kw key)); have gT2 : ((w1.alloc (.cells (bA 176 fun _ => 0) 38)).setRow w1.heap.size (bA 176 (kw key))).heap[w1.heap.size]? = some (.cells (bA 176 (kw key)) 38) := setRow_heap _ _ _ _ _ _ gT))
    | (refine atLoad 38 (.tmp 5) rfl ?_; go_must (refine wpList_load_row rfl 38 (.tmp 5) rfl w1.heap.size rfl 38 _ (0, 0) _ gT2 Try.underlying38 rfl (size176 _) ?_; simp only [Act.put, List.setIfInBounds_toArray, List.set_cons_succ, List.set_cons_zero]))
    | (refine atLoad 23 (.tmp 3) rfl ?_; go_must (refine wpList_load_row rfl 23 (.tmp 3) rfl (A + 1) rfl 23 _ (0, 0) _ kt.y Try.underlying23 rfl (size16 _) ?_; simp only [Act.put, List.setIfInBounds_toArray, List.set_cons_succ, List.set_cons_zero]))
    | (go_at_call 19; refine (with_any (kw key) b _ HB.out (fun i _ => HW.out i)).mono ?_; rintro e w2 ⟨rfl, hb2⟩; have kt := kt.on hb2; clear hb2)
    | (refine atStore 23 (.tmp 4) (.tmp 10) rfl ?_; go_must (refine wpList_store_row rfl 23 (.tmp 4) (.tmp 10) rfl (A + 2) _ rfl rfl 23 _ kt.z (size16 _) rfl (bA_one _ _) ?_)))
  refine bodyPost_ret (v := .agg (bA 16 (enc (kw key) b))) (results_cell_row Try.results16 _ _ (A + 2) 23 _ (0, 0) _ rfl (setRow_heap _ _ _ _ _ _ kt.z) Try.underlying23 rfl (size16 _)) rfl ⟨rfl, ?_⟩
  rw [VA.out]
  exact below4 kt.bel (by omega) _
end Go.Proofs.Ytealknodagdjaaa.Aes
