import Derived.Test.YtjaddenjeaalaaaDoorM8
namespace Go.Proofs.YtjaddenjeaalaaaDoor
open Go.RowKit

theorem conv_const (W : World) (C : Array Value) (n c : Nat) : (convert 22 22 (.slice (some ⟨W.heap.size, 0, none⟩) n c)).run Tryd.prog (W.alloc (.cells C 5)) = .ok (.slice (some ⟨W.heap.size, 0, none⟩) n c) (W.alloc (.cells C 5 (C.size, C.size + 1))) :=
  Lib.run_convert_bytes_const W 22 5 C n c Tryd.underlying22 Tryd.underlying5

theorem conv_const2 (W : World) (o : Obj) (C : Array Value) (n c : Nat) : (convert 22 22 (.slice (some ⟨W.heap.size + 1, 0, none⟩) n c)).run Tryd.prog ((W.alloc o).alloc (.cells C 5)) = .ok (.slice (some ⟨W.heap.size + 1, 0, none⟩) n c) ((W.alloc o).alloc (.cells C 5 (C.size, C.size + 1))) := by
  have h := conv_const (W.alloc o) C n c
  have hsz : (W.alloc o).heap.size = W.heap.size + 1 := by simp
  rw [hsz] at h
  exact h

set_option maxHeartbeats 800000 in
theorem awake_any (w : World) (hG : Glob w) :
    Calls Tryd.prog 9 #[] w fun e w' => e = .returned (.bool true) ∧ Below w.heap.size w w' := by
  have HG : Hid (_) := hG
  clear hG
  have z28 := zero28
  have cv := conv_const
  have cv2 := conv_const2
  go_enter Tryd.func9, Tryd.ntmps9
  go_wp2_with fail
  obtain ⟨C1, hC1⟩ : ∃ C : Array Value, C = #[.int .u8 74, .int .u8 101, .int .u8 102, .int .u8 101] := ⟨_, rfl⟩
  obtain ⟨C2, hC2⟩ : ∃ C : Array Value, C = #[.int .u8 119, .int .u8 104, .int .u8 97, .int .u8 116, .int .u8 32, .int .u8 100, .int .u8 111, .int .u8 32, .int .u8 121, .int .u8 97, .int .u8 32, .int .u8 119, .int .u8 97, .int .u8 110, .int .u8 116, .int .u8 32, .int .u8 102, .int .u8 111, .int .u8 114, .int .u8 32, .int .u8 110, .int .u8 111, .int .u8 116, .int .u8 104, .int .u8 105, .int .u8 110, .int .u8 103, .int .u8 63] := ⟨_, rfl⟩
  have k1 := sliceB_lit w jefe C1 (4, 5) hC1 (by decide) (by decide)
  have b1 : Below w.heap.size w (w.alloc (.cells C1 5 (4, 5))) := (Below.refl _ _).alloc (Nat.le_refl _) _
  have k2 := sliceB_lit (w.alloc (.cells C1 5 (4, 5))) want C2 (28, 29) hC2 (by decide) (by decide)
  have b2 : Below (w.alloc (.cells C1 5 (4, 5))).heap.size (w.alloc (.cells C1 5 (4, 5))) ((w.alloc (.cells C1 5 (4, 5))).alloc (.cells C2 5 (28, 29))) := (Below.refl _ _).alloc (Nat.le_refl _) _
  have b3 := b1.trans (b2.mono (by simp))
  have hs := mtag_any _ _ 4 28 (fl jefe) (fl want) _ (HG.out.below b3 HG.out.sz) (by omega) (by omega) (k1.below b2) k2
  obtain ⟨D, hD⟩ : ∃ D, D = tagV (fl jefe) 4 (fl want) 28 := ⟨_, rfl⟩
  rw [← hD] at hs
  have hsz : (w.alloc (.cells C1 5 (4, 5))).heap.size = w.heap.size + 1 := by simp
  rw [hsz] at hs
  subst hC1 hC2
  refine hs.mono ?_
  rintro e w1 ⟨rfl, hb1⟩
  have W1 : Hid (Below w.heap.size w w1) := b3.trans (hb1.mono b3.size)
  have d0 : Hid (D 0 = 91) := by show D 0 = 91; rw [hD]; exact tag_jefe 0 (by omega)
  have d1 : Hid (D 1 = 220) := by show D 1 = 220; rw [hD]; exact tag_jefe 1 (by omega)
  have d31 : Hid (D 31 = 67) := by show D 31 = 67; rw [hD]; exact tag_jefe 31 (by omega)
  clear hs hD b1 b2 b3 k1 k2 hb1 hsz cv cv2
  go_wp2_with (first
    | (refine isStore 25 (.tmp 1) (.tmp 6) rfl ?_; go_must (refine wpList_store_row rfl 25 (.tmp 1) (.tmp 6) rfl w1.heap.size _ rfl rfl 25 _ (heap_alloc_new _ _) (size28' _) (by simp only [tab8_size]) (tab8_one _ _) ?_; rw [World.setRow_alloc_new]; simp only [Act.put]; obtain ⟨A, hA⟩ : ∃ A, A = w1.heap.size := ⟨_, rfl⟩; obtain ⟨V, hV⟩ : ∃ V, V = w1.alloc (.cells (tab8 32 D) 25) := ⟨_, rfl⟩; rw [← hV, ← hA]; have v1 : V.heap[A]? = some (.cells (tab8 32 D) 25) := (by rw [hV, hA]; exact heap_alloc_new _ _); have c0 : V.cell? ⟨A, 0, none⟩ = some (.int .u8 91) := (by rw [cell_of_row _ _ _ _ _ _ v1, tab8_get 32 D 0 (by omega), d0.out]); have c1 : V.cell? ⟨A, 1, none⟩ = some (.int .u8 220) := (by rw [cell_of_row _ _ _ _ _ _ v1, tab8_get 32 D 1 (by omega), d1.out]); have c31 : V.cell? ⟨A, 31, none⟩ = some (.int .u8 67) := (by rw [cell_of_row _ _ _ _ _ _ v1, tab8_get 32 D 31 (by omega), d31.out]); have v2 : Hid (Below w.heap.size w V) := (by rw [hV]; exact W1.out.alloc W1.out.size _); clear hV hA v1)))
  go_ret
  exact ⟨rfl, v2.out⟩
end Go.Proofs.YtjaddenjeaalaaaDoor
