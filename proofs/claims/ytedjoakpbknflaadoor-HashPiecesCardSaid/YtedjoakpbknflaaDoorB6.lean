import Derived.Test.YtedjoakpbknflaaDoorK0
namespace Go.Proofs.YtedjoakpbknflaaDoor
open Go.RowKit

set_option maxHeartbeats 400000 in
theorem alive_any (w : World) (hG : Glob w) :
    Calls Tryd.prog 10 #[] w fun e w' => e = .returned (.bool true) ∧ Below w.heap.size w w' := by
  have HG : Hid (_) := hG
  clear hG
  have z28 := zero28
  have cv : ∀ (W : World) (C : Array Value) (n c : Nat), (convert 33 33 (.slice (some ⟨W.heap.size, 0, none⟩) n c)).run Tryd.prog (W.alloc (.cells C 5)) = .ok (.slice (some ⟨W.heap.size, 0, none⟩) n c) (W.alloc (.cells C 5 (C.size, C.size + 1))) :=
    fun W C n c => Lib.run_convert_bytes_const W 33 5 C n c Tryd.underlying33 Tryd.underlying5
  go_enter Tryd.func10, Tryd.ntmps10
  go_wp2_with fail
  have k1 := sliceB_lit w [97, 98, 99] #[.int .u8 97, .int .u8 98, .int .u8 99] (3, 4) rfl (by decide) (by decide)
  have b1 : Below w.heap.size w (w.alloc (Obj.cells #[.int .u8 97, .int .u8 98, .int .u8 99] 5 (3, 4))) := (Below.refl _ _).alloc (Nat.le_refl _) _
  obtain ⟨D, hD⟩ : ∃ D, D = sumD (addN HS.new (fl [97, 98, 99]) 3) := ⟨_, rfl⟩
  have hs := sum_any _ 3 (fl [97, 98, 99]) _ (HG.out.below b1 HG.out.sz) (by omega) k1
  rw [← hD] at hs
  refine hs.mono ?_
  rintro e w1 ⟨rfl, hb1⟩
  have C1 : Hid (Below w.heap.size w w1) := b1.trans (hb1.mono (by simp))
  have HD : Hid (_) := hD
  clear b1 k1 hb1 hs hD
  have G1 : Hid (Glob w1) := HG.out.below C1.out HG.out.sz
  go_wp2_with (first
    | (refine isStore 28 (.tmp 1) (.tmp 5) rfl ?_; go_must (refine wpList_store_row rfl 28 (.tmp 1) (.tmp 5) rfl w1.heap.size _ rfl rfl 28 _ (heap_alloc_new _ _) (size28' _) (by simp only [tab8_size]) (tab8_one _ _) ?_; rw [World.setRow_alloc_new]; simp only [Act.put])))
  obtain ⟨A, hA⟩ : ∃ A, A = w1.heap.size := ⟨_, rfl⟩
  obtain ⟨V, hV⟩ : ∃ V, V = w1.alloc (.cells (tab8 32 D) 28) := ⟨_, rfl⟩
  rw [← hV, ← hA]
  have v1 : Hid (V.heap[A]? = some (.cells (tab8 32 D) 28)) := by rw [hV, hA]; exact heap_alloc_new _ _
  have v2 : Hid (Below w.heap.size w V) := by rw [hV]; exact C1.out.alloc C1.out.size _
  have v3 : Hid (A < V.heap.size) := by show A < V.heap.size; rw [hV, hA]; simp
  have v4 : Hid (w.heap.size ≤ A) := by show w.heap.size ≤ A; rw [hA]; exact C1.out.size
  clear hV hA G1 C1
  refine (new_any _).mono ?_
  rintro e w2 ⟨rfl, hb2⟩
  have q2 : Hid (Below V.heap.size V w2) := hb2
  clear hb2
  go_wp2_with fail
  have k2 := sliceB_lit w2 [97] #[.int .u8 97] (1, 2) rfl (by decide) (by decide)
  have b2 : Below V.heap.size V (w2.alloc (Obj.cells #[.int .u8 97] 5 (1, 2))) := q2.out.alloc q2.out.size _
  refine (add_any HS.new _ 1 (fl [97]) _ (HG.out.below (v2.out.trans (b2.mono v2.out.size)) HG.out.sz) ok_new (by simp [HS.new]) k2).mono ?_
  rintro e w3 ⟨rfl, hb3⟩
  have q3 : Hid (Below V.heap.size V w3) := b2.trans (hb3.mono b2.size)
  clear k2 b2 hb3 q2
  go_wp2_with fail
  have k3 := sliceB_lit w3 [98, 99] #[.int .u8 98, .int .u8 99] (2, 3) rfl (by decide) (by decide)
  have b3 : Below V.heap.size V (w3.alloc (Obj.cells #[.int .u8 98, .int .u8 99] 5 (2, 3))) := q3.out.alloc q3.out.size _
  have okA : (addN HS.new (fl [97]) 1).ok := ok_addN ok_new fun i hi => by
    obtain rfl : i = 0 := by omega
    exact ⟨by decide, by decide⟩
  have okB : (addN (addN HS.new (fl [97]) 1) (fl [98, 99]) 2).ok := ok_addN okA fun i hi => by
    obtain rfl | rfl : i = 0 ∨ i = 1 := by omega
    · exact ⟨by decide, by decide⟩
    · exact ⟨by decide, by decide⟩
  refine (add_any _ _ 2 (fl [98, 99]) _ (HG.out.below (v2.out.trans (b3.mono v2.out.size)) HG.out.sz) okA (by rw [addN_n]; simp [HS.new]) k3).mono ?_
  rintro e w4 ⟨rfl, hb4⟩
  have q4 : Hid (Below V.heap.size V w4) := b3.trans (hb4.mono b3.size)
  clear k3 b3 hb4 q3
  go_wp2_with fail
  have hs := hsum_any (addN (addN HS.new (fl [97]) 1) (fl [98, 99]) 2) w4 (HG.out.below (v2.out.trans (q4.out.mono v2.out.size)) HG.out.sz) okB
  have eD : sumD (addN (addN HS.new (fl [97]) 1) (fl [98, 99]) 2) = D := by
    rw [HD.out, show (3 : Nat) = 1 + 2 from rfl, addN_add]
    rfl
  rw [eD] at hs
  refine hs.mono ?_
  rintro e w5 ⟨rfl, hb5⟩
  have q5 : Hid (Below V.heap.size V w5) := q4.out.trans (hb5.mono q4.out.size)
  clear hb5 hs eD okA okB q4
  have d0 : D 0 = 186 := by rw [HD.out]; exact sum_abc 0 (by omega)
  have d31 : D 31 = 173 := by rw [HD.out]; exact sum_abc 31 (by omega)
  have D0 : Hid (_) := d0
  have D31 : Hid (_) := d31
  clear d0 d31 z28 cv
  have z28 := zero28
  go_wp2_with (first
    | (refine isStore 28 (.tmp 2) (.tmp 13) rfl ?_; go_must (refine wpList_store_row rfl 28 (.tmp 2) (.tmp 13) rfl w5.heap.size _ rfl rfl 28 _ (heap_alloc_new _ _) (size28' _) (by simp only [tab8_size]) (tab8_one _ _) ?_; rw [World.setRow_alloc_new]; simp only [Act.put]; obtain ⟨B, hB⟩ : ∃ B, B = w5.heap.size := ⟨_, rfl⟩; obtain ⟨X, hX⟩ : ∃ X, X = w5.alloc (.cells (tab8 32 D) 28) := ⟨_, rfl⟩; rw [← hX, ← hB]; have x1 : Hid (X.heap[A]? = some (.cells (tab8 32 D) 28)) := (by rw [hX, Below.heap_alloc _ _ _ (Nat.lt_of_lt_of_le v3.out q5.out.size), q5.out.block _ v3.out]; exact v1.out); have x2 : Hid (X.heap[B]? = some (.cells (tab8 32 D) 28)) := (by rw [hX, hB]; exact heap_alloc_new _ _); have x3 : Hid (Below w.heap.size w X) := (by rw [hX]; exact (v2.out.trans (q5.out.mono v2.out.size)).alloc (Nat.le_trans v2.out.size q5.out.size) _); have c0 : X.cell? ⟨A, 0, none⟩ = some (.int .u8 186) := (by rw [cell_of_row _ _ _ _ _ _ x1.out, tab8_get 32 D 0 (by omega), D0.out]); have c31 : X.cell? ⟨A, 31, none⟩ = some (.int .u8 173) := (by rw [cell_of_row _ _ _ _ _ _ x1.out, tab8_get 32 D 31 (by omega), D31.out]); clear hX hB))
    | (refine isLoad 28 (.tmp 2) rfl ?_; go_must (refine wpList_load_row_w rfl 28 (.tmp 2) rfl B rfl 28 _ (0, 0) _ x2.out Tryd.underlying28 rfl (size28' _) ?_; simp only [Act.put, List.setIfInBounds_toArray, List.set_cons_succ, List.set_cons_zero]))
    | (refine isLoad 28 (.tmp 1) rfl ?_; go_must (refine wpList_load_row_w rfl 28 (.tmp 1) rfl A rfl 28 _ (0, 0) _ x1.out Tryd.underlying28 rfl (size28' _) ?_; simp only [Act.put, List.setIfInBounds_toArray, List.set_cons_succ, List.set_cons_zero]))
    | (refine isEql (.tmp 23) (.tmp 24) rfl ?_; go_must (refine wpList_eql28_w rfl (.tmp 23) (.tmp 24) rfl rfl rfl ?_; rw [eq32_self]; simp only [Act.put, List.setIfInBounds_toArray, List.set_cons_succ, List.set_cons_zero])))
  go_ret
  exact ⟨rfl, x3.out⟩
end Go.Proofs.YtedjoakpbknflaaDoor
