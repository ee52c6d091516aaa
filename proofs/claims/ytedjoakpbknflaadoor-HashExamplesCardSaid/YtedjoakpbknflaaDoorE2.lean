import Derived.Test.YtedjoakpbknflaaDoorE1
namespace Go.Proofs.YtedjoakpbknflaaDoor
open Go.RowKit

theorem wanted_of {ops : Array Oper} {o : Oper} {tmps : Array Value} {k : Nat} {b : Bool} (hg : o.guard = some (k, b)) (hy : yielded ops tmps k = some b) : Region.wanted o (yielded ops tmps) = true := by
  simp [Region.wanted, hg, hy]
theorem rw_freeze {w : World} {b k : Nat} {fr : Nat × Nat} (h : w.heap[b]? = some (.cells abcC 5 fr)) : Rw w (w.freeze ⟨b, k, none⟩ 1) := by
  obtain ⟨f1, f2, _⟩ := freeze_heap (k := k) h
  intro c fr2 hc
  by_cases e : c = b
  · subst e; exact f1
  · exact ⟨fr2, by rw [f2 c e]; exact hc⟩
theorem sliceB_fresh {V w : World} {v : Value} (h : Fresh V v w) : SliceB w v 3 (fl [97, 98, 99]) := by
  obtain ⟨b, fr, rfl, _, h3⟩ := h
  refine ⟨⟨_, _, rfl, Nat.le_refl _, by omega, fun _ => ⟨b, 0, rfl, (Array.getElem?_eq_some_iff.1 h3).1, fun j hj => ?_⟩⟩, fun j hj => ?_⟩
  · rw [cell_of_row _ _ _ _ _ _ h3, Nat.zero_add]
    obtain rfl | rfl | rfl : j = 0 ∨ j = 1 ∨ j = 2 := by omega
    · rfl
    · rfl
    · rfl
  · obtain rfl | rfl | rfl : j = 0 ∨ j = 1 ∨ j = 2 := by omega
    · exact ⟨by decide, by decide⟩
    · exact ⟨by decide, by decide⟩
    · exact ⟨by decide, by decide⟩
theorem ok_abc : h_abc.ok := ok_addN ok_new fun j hj => by
  obtain rfl | rfl | rfl : j = 0 ∨ j = 1 ∨ j = 2 := by omega
  · exact ⟨by decide, by decide⟩
  · exact ⟨by decide, by decide⟩
  · exact ⟨by decide, by decide⟩

/-- The frame in the region. -/
def exFrame (A1 A2 : Nat) (E : Value) (x : Nat → Value) : Act :=
  { tmps := #[.bool false, .pointer (some ⟨A1, 0, none⟩), .pointer (some ⟨A2, 0, none⟩), E, x 0, x 1, x 2, x 3, x 4, x 5, x 6, x 7, x 8, x 9, x 10, x 11, x 12, x 13, x 14, x 15, x 16, x 17, x 18, x 19, x 20, x 21, x 22, x 23, x 24, undef, undef, undef, undef, undef, undef, undef, undef, undef, undef, undef, undef, undef, undef, undef, undef, undef, undef, undef, undef, undef, undef, undef, undef, undef, undef, undef, undef], defers := [] }

set_option maxHeartbeats 4000000 in
theorem examples_any (w : World) (hG : Glob w) :
    Calls Tryd.prog 3 #[] w fun e w' => e = .returned (.bool true) ∧ Below w.heap.size w w' := by
  have HG : Hid (_) := hG
  clear hG
  have z27 := zero27
  have z28 := zero28
  go_enter Tryd.func3, Tryd.ntmps3
  go_wp2_with fail
  have b1 : Below w.heap.size w (w.alloc (.cells HS.new.cells 27)) := (Below.refl _ _).alloc (Nat.le_refl _) _
  have hs := sum_any (.slice none 0 0) 0 (fun _ => 0) (w.alloc (.cells HS.new.cells 27)) (HG.out.below b1 HG.out.sz) (by omega) ⟨⟨_, _, rfl, Nat.le_refl _, by omega, fun h => by omega⟩, fun j hj => by omega⟩
  refine hs.mono ?_
  rintro e w1 ⟨rfl, hb1⟩
  have q1 : Hid (Below (w.heap.size + 1) (w.alloc (.cells HS.new.cells 27)) w1) := by
    have hsz : (w.alloc (.cells HS.new.cells 27)).heap.size = w.heap.size + 1 := by simp
    rw [← hsz]; exact hb1
  have C1 : Hid (Below w.heap.size w w1) := b1.trans (q1.out.mono (by omega))
  clear hs b1 hb1
  go_wp2_with (first
    | (refine isStore 28 (.tmp 2) (.tmp 3) rfl ?_; go_must (refine wpList_store_row rfl 28 (.tmp 2) (.tmp 3) rfl w1.heap.size _ rfl rfl 28 _ (heap_alloc_new _ _) (size28' _) (by simp only [tab8_size]) (tab8_one _ _) ?_; rw [World.setRow_alloc_new]; simp only [Act.put])))
  clear z27 z28
  obtain ⟨A2, hA2⟩ : ∃ A, A = w1.heap.size := ⟨_, rfl⟩
  obtain ⟨V, hV⟩ : ∃ V, V = w1.alloc (.cells (tab8 32 (sumD HS.new)) 28) := ⟨_, rfl⟩
  have hA1 : V.heap[w.heap.size]? = some (.cells HS.new.cells 27) := by
    have := q1.out.size
    simp at this
    rw [hV, Below.heap_alloc _ _ _ (by omega), q1.out.block _ (by omega)]; exact heap_alloc_new _ _
  have hA2' : V.heap[A2]? = some (.cells (tab8 32 (sumD HS.new)) 28) := by rw [hV, hA2]; exact heap_alloc_new _ _
  have hVB : Below w.heap.size w V := by rw [hV]; exact C1.out.alloc C1.out.size _
  have l1 : w.heap.size < V.heap.size := (Array.getElem?_eq_some_iff.1 hA1).1
  have l2 : A2 < V.heap.size := (Array.getElem?_eq_some_iff.1 hA2').1
  show Code.wp _ _ _ _ (w1.alloc (.cells (tab8 32 (sumD HS.new)) 28))
  rw [← hV, ← hA2]
  clear hV hA2 q1 C1
  refine wp_region_inv (fun listed a w' => ∃ x, a = exFrame w.heap.size A2 (.agg (tab8 32 (sumD (addN HS.new (fun _ => 0) 0)))) x ∧ listed.size = 25 ∧ Below V.heap.size V w' ∧ ∀ j, j < 25 → listed.getD j false = true → Slot V j (x j) w') (by kernel_rfl) (by kernel_rfl) ?_ ?_ ?_ ?_
  · exact ⟨fun _ => undef, rfl, rfl, (Below.refl _ _).drew, fun j hj hl => by
      have hl' : (Array.replicate 25 false).getD j false = true := hl
      have h2 : (Array.replicate 25 false).getD j false = false := by simp [hj]
      rw [h2] at hl'
      cases hl'⟩
  · rintro listed a w' ⟨x, _, hs, _⟩
    exact hs
  · intro listed a w1 hI j o hj hun hdep
    obtain ⟨x, rfl, hsz, hbl, hx⟩ := hI
    have hd : ∀ i, (o.after.toList.any fun e => Region.binds .any e && e.on == i) = true → listed.getD i false = true := by
      intro i hi
      rw [List.any_eq_true] at hi
      obtain ⟨e, he, hh⟩ := hi
      simp only [Bool.and_eq_true, beq_iff_eq] at hh
      rw [← hh.2]
      exact hdep e (by simpa using he) hh.1
    have hg : Glob w1 := HG.out.below (hVB.trans (hbl.mono hVB.size)) HG.out.sz
    have hA1w : w1.heap[w.heap.size]? = some (.cells HS.new.cells 27) := by rw [hbl.block _ l1]; exact hA1
    have hA2w : w1.heap[A2]? = some (.cells (tab8 32 (sumD HS.new)) 28) := by rw [hbl.block _ l2]; exact hA2'
    clear hdep hun
    match j, hj with
    | 0, hj =>
      obtain rfl := Option.some.inj hj
      exact step_call rfl rfl (exec_call8 rfl) (alive_any _ hg) fun w2 hb2 => ⟨updV x 0 (.bool true), rfl, by simpa using hsz, hbl.trans (hb2.mono hbl.size), slots_put hx (Rw.of_below hb2) (rfl)⟩
    | 1, hj =>
      obtain rfl := Option.some.inj hj
      exact step_val rfl rfl (exec_not rfl (hx 0 (by omega) (hd 0 rfl))) ⟨updV x 1 (.bool false), rfl, by simpa using hsz, hbl, slots_put hx (Rw.refl _) (rfl)⟩
    | 2, hj =>
      obtain rfl := Option.some.inj hj
      exact step_val rfl rfl (exec_move rfl (hx 1 (by omega) (hd 1 rfl))) ⟨updV x 2 (.bool false), rfl, by simpa using hsz, hbl, slots_put hx (Rw.refl _) (rfl)⟩
    | 3, hj =>
      obtain rfl := Option.some.inj hj
      exact step_val rfl (wanted_of rfl (by show (match some (x 2) with | some (.bool b) => some b | _ => none) = some false; rw [hx 2 (by omega) (hd 2 rfl)])) (exec_load27 rfl rfl hA1w (size27' _ _ _)) ⟨updV x 3 (.agg HS.new.cells), rfl, by simpa using hsz, hbl, slots_put hx (Rw.refl _) (rfl)⟩
    | 4, hj =>
      obtain rfl := Option.some.inj hj
      exact step_call rfl (wanted_of rfl (by show (match some (x 2) with | some (.bool b) => some b | _ => none) = some false; rw [hx 2 (by omega) (hd 2 rfl)])) (exec_call9 rfl (hx 3 (by omega) (hd 3 rfl))) (hsum_any HS.new _ hg ok_new) fun w2 hb2 => ⟨updV x 4 (.agg (tab8 32 (sumD HS.new))), rfl, by simpa using hsz, hbl.trans (hb2.mono hbl.size), slots_put hx (Rw.of_below hb2) (rfl)⟩
    | 5, hj =>
      obtain rfl := Option.some.inj hj
      exact step_val rfl (wanted_of rfl (by show (match some (x 2) with | some (.bool b) => some b | _ => none) = some false; rw [hx 2 (by omega) (hd 2 rfl)])) (exec_load28 rfl rfl hA2w (size28' _)) ⟨updV x 5 (.agg (tab8 32 (sumD HS.new))), rfl, by simpa using hsz, hbl, slots_put hx (Rw.refl _) (rfl)⟩
    | 6, hj =>
      obtain rfl := Option.some.inj hj
      exact step_val rfl (wanted_of rfl (by show (match some (x 2) with | some (.bool b) => some b | _ => none) = some false; rw [hx 2 (by omega) (hd 2 rfl)])) (exec_neq28 (f := sumD HS.new) (g := sumD HS.new) rfl (hx 4 (by omega) (hd 4 rfl)) (hx 5 (by omega) (hd 5 rfl))) ⟨updV x 6 (.bool (!eq32 (sumD HS.new) (sumD HS.new))), rfl, by simpa using hsz, hbl, slots_put hx (Rw.refl _) (by show _ = Value.bool false; rw [eq32_self]; rfl)⟩
    | 7, hj =>
      obtain rfl := Option.some.inj hj
      exact step_val rfl rfl (exec_pick rfl (hx 2 (by omega) (hd 2 rfl)) (hx 6 (by omega) (hd 6 rfl))) ⟨updV x 7 (.bool false), rfl, by simpa using hsz, hbl, slots_put hx (Rw.refl _) (rfl)⟩
    | 8, hj =>
      obtain rfl := Option.some.inj hj
      exact step_val rfl rfl (exec_move rfl (hx 7 (by omega) (hd 7 rfl))) ⟨updV x 8 (.bool false), rfl, by simpa using hsz, hbl, slots_put hx (Rw.refl _) (rfl)⟩
    | 9, hj =>
      obtain rfl := Option.some.inj hj
      exact step_val rfl (wanted_of rfl (by show (match some (x 8) with | some (.bool b) => some b | _ => none) = some false; rw [hx 8 (by omega) (hd 8 rfl)])) (exec_load27 rfl rfl hA1w (size27' _ _ _)) ⟨updV x 9 (.agg HS.new.cells), rfl, by simpa using hsz, hbl, slots_put hx (Rw.refl _) (rfl)⟩
    | 10, hj =>
      obtain rfl := Option.some.inj hj
      exact step_val rfl (wanted_of rfl (by show (match some (x 8) with | some (.bool b) => some b | _ => none) = some false; rw [hx 8 (by omega) (hd 8 rfl)])) (exec_build rfl) ⟨updV x 10 (.slice (some ⟨w1.heap.size, 0, none⟩) 3 3), rfl, by simpa using hsz, hbl.alloc hbl.size _, slots_put hx (Rw.of_below ((Below.refl _ _).alloc (Nat.le_refl _) _)) (⟨w1.heap.size, (0, 0), rfl, hbl.size, heap_alloc_new _ _⟩)⟩
    | 11, hj =>
      obtain rfl := Option.some.inj hj
      obtain ⟨b, fr, e1, e2, e3⟩ : Fresh V (x 10) w1 := hx 10 (by omega) (hd 10 rfl)
      obtain ⟨⟨fr', f1⟩, f2, f3, f4, f5, f6⟩ := freeze_heap (k := 3) e3
      exact step_val rfl (wanted_of rfl (by show (match some (x 8) with | some (.bool b) => some b | _ => none) = some false; rw [hx 8 (by omega) (hd 8 rfl)])) (exec_conv rfl e1 e3) ⟨updV x 11 (.slice (some ⟨b, 0, none⟩) 3 3), rfl, by simpa using hsz, hbl.trans ⟨f4, f5, f6, Nat.le_of_eq f3.symm, fun k hk => f2 k (by omega)⟩, slots_put hx (rw_freeze e3) (⟨b, fr', rfl, e2, f1⟩)⟩
    | 12, hj =>
      obtain rfl := Option.some.inj hj
      exact step_call rfl (wanted_of rfl (by show (match some (x 8) with | some (.bool b) => some b | _ => none) = some false; rw [hx 8 (by omega) (hd 8 rfl)])) (exec_call10 rfl (hx 9 (by omega) (hd 9 rfl)) rfl) (add_any HS.new (x 11) 3 (fl [97, 98, 99]) _ hg ok_new (by simp [HS.new]) (sliceB_fresh (hx 11 (by omega) (hd 11 rfl)))) fun w2 hb2 => ⟨updV x 12 (.agg h_abc.cells), rfl, by simpa using hsz, hbl.trans (hb2.mono hbl.size), slots_put hx (Rw.of_below hb2) (rfl)⟩
    | 13, hj =>
      obtain rfl := Option.some.inj hj
      exact step_call rfl (wanted_of rfl (by show (match some (x 8) with | some (.bool b) => some b | _ => none) = some false; rw [hx 8 (by omega) (hd 8 rfl)])) (exec_call9 rfl (hx 12 (by omega) (hd 12 rfl))) (hsum_any h_abc _ hg ok_abc) fun w2 hb2 => ⟨updV x 13 (.agg (tab8 32 (sumD h_abc))), rfl, by simpa using hsz, hbl.trans (hb2.mono hbl.size), slots_put hx (Rw.of_below hb2) (rfl)⟩
    | 14, hj =>
      obtain rfl := Option.some.inj hj
      exact step_val rfl (wanted_of rfl (by show (match some (x 8) with | some (.bool b) => some b | _ => none) = some false; rw [hx 8 (by omega) (hd 8 rfl)])) (exec_build rfl) ⟨updV x 14 (.slice (some ⟨w1.heap.size, 0, none⟩) 3 3), rfl, by simpa using hsz, hbl.alloc hbl.size _, slots_put hx (Rw.of_below ((Below.refl _ _).alloc (Nat.le_refl _) _)) (⟨w1.heap.size, (0, 0), rfl, hbl.size, heap_alloc_new _ _⟩)⟩
    | 15, hj =>
      obtain rfl := Option.some.inj hj
      obtain ⟨b, fr, e1, e2, e3⟩ : Fresh V (x 14) w1 := hx 14 (by omega) (hd 14 rfl)
      obtain ⟨⟨fr', f1⟩, f2, f3, f4, f5, f6⟩ := freeze_heap (k := 3) e3
      exact step_val rfl (wanted_of rfl (by show (match some (x 8) with | some (.bool b) => some b | _ => none) = some false; rw [hx 8 (by omega) (hd 8 rfl)])) (exec_conv rfl e1 e3) ⟨updV x 15 (.slice (some ⟨b, 0, none⟩) 3 3), rfl, by simpa using hsz, hbl.trans ⟨f4, f5, f6, Nat.le_of_eq f3.symm, fun k hk => f2 k (by omega)⟩, slots_put hx (rw_freeze e3) (⟨b, fr', rfl, e2, f1⟩)⟩
    | 16, hj =>
      obtain rfl := Option.some.inj hj
      exact step_call rfl (wanted_of rfl (by show (match some (x 8) with | some (.bool b) => some b | _ => none) = some false; rw [hx 8 (by omega) (hd 8 rfl)])) (exec_call7 rfl rfl) (sum_any (x 15) 3 (fl [97, 98, 99]) _ hg (by omega) (sliceB_fresh (hx 15 (by omega) (hd 15 rfl)))) fun w2 hb2 => ⟨updV x 16 (.agg (tab8 32 (sumD h_abc))), rfl, by simpa using hsz, hbl.trans (hb2.mono hbl.size), slots_put hx (Rw.of_below hb2) (rfl)⟩
    | 17, hj =>
      obtain rfl := Option.some.inj hj
      exact step_val rfl (wanted_of rfl (by show (match some (x 8) with | some (.bool b) => some b | _ => none) = some false; rw [hx 8 (by omega) (hd 8 rfl)])) (exec_neq28 (f := sumD h_abc) (g := sumD h_abc) rfl (hx 13 (by omega) (hd 13 rfl)) (hx 16 (by omega) (hd 16 rfl))) ⟨updV x 17 (.bool (!eq32 (sumD h_abc) (sumD h_abc))), rfl, by simpa using hsz, hbl, slots_put hx (Rw.refl _) (by show _ = Value.bool false; rw [eq32_self]; rfl)⟩
    | 18, hj =>
      obtain rfl := Option.some.inj hj
      exact step_val rfl rfl (exec_pick rfl (hx 8 (by omega) (hd 8 rfl)) (hx 17 (by omega) (hd 17 rfl))) ⟨updV x 18 (.bool false), rfl, by simpa using hsz, hbl, slots_put hx (Rw.refl _) (rfl)⟩
    | 19, hj =>
      obtain rfl := Option.some.inj hj
      exact step_val rfl rfl (exec_move rfl (hx 18 (by omega) (hd 18 rfl))) ⟨updV x 19 (.bool false), rfl, by simpa using hsz, hbl, slots_put hx (Rw.refl _) (rfl)⟩
    | 20, hj =>
      obtain rfl := Option.some.inj hj
      exact step_call rfl (wanted_of rfl (by show (match some (x 19) with | some (.bool b) => some b | _ => none) = some false; rw [hx 19 (by omega) (hd 19 rfl)])) (exec_call11 rfl) (new_any _) fun w2 hb2 => ⟨updV x 20 (.agg HS.new.cells), rfl, by simpa using hsz, hbl.trans (hb2.mono hbl.size), slots_put hx (Rw.of_below hb2) (rfl)⟩
    | 21, hj =>
      obtain rfl := Option.some.inj hj
      exact step_call rfl (wanted_of rfl (by show (match some (x 19) with | some (.bool b) => some b | _ => none) = some false; rw [hx 19 (by omega) (hd 19 rfl)])) (exec_call9 rfl (hx 20 (by omega) (hd 20 rfl))) (hsum_any HS.new _ hg ok_new) fun w2 hb2 => ⟨updV x 21 (.agg (tab8 32 (sumD HS.new))), rfl, by simpa using hsz, hbl.trans (hb2.mono hbl.size), slots_put hx (Rw.of_below hb2) (rfl)⟩
    | 22, hj =>
      obtain rfl := Option.some.inj hj
      exact step_val rfl (wanted_of rfl (by show (match some (x 19) with | some (.bool b) => some b | _ => none) = some false; rw [hx 19 (by omega) (hd 19 rfl)])) (exec_load28 rfl rfl hA2w (size28' _)) ⟨updV x 22 (.agg (tab8 32 (sumD HS.new))), rfl, by simpa using hsz, hbl, slots_put hx (Rw.refl _) (rfl)⟩
    | 23, hj =>
      obtain rfl := Option.some.inj hj
      exact step_val rfl (wanted_of rfl (by show (match some (x 19) with | some (.bool b) => some b | _ => none) = some false; rw [hx 19 (by omega) (hd 19 rfl)])) (exec_neq28 (f := sumD HS.new) (g := sumD HS.new) rfl (hx 21 (by omega) (hd 21 rfl)) (hx 22 (by omega) (hd 22 rfl))) ⟨updV x 23 (.bool (!eq32 (sumD HS.new) (sumD HS.new))), rfl, by simpa using hsz, hbl, slots_put hx (Rw.refl _) (by show _ = Value.bool false; rw [eq32_self]; rfl)⟩
    | 24, hj =>
      obtain rfl := Option.some.inj hj
      exact step_val rfl rfl (exec_pick rfl (hx 19 (by omega) (hd 19 rfl)) (hx 23 (by omega) (hd 23 rfl))) ⟨updV x 24 (.bool false), rfl, by simpa using hsz, hbl, slots_put hx (Rw.refl _) (rfl)⟩
    | k + 25, hj =>
      have := (Array.getElem?_eq_some_iff.1 hj).1
      simp at this
      omega
  · intro listed a w1 hI hall
    obtain ⟨x, rfl, hsz, hbl, hx⟩ := hI
    have h24 : x 24 = .bool false := hx 24 (by omega) (by
      have := hall 24 (by decide)
      have h' : 24 < listed.size := by omega
      simp [h'] at this ⊢
      exact this)
    have y2 : w1.heap[A2]? = some (.cells (tab8 32 (sumD HS.new)) 28) := by rw [hbl.block _ l2]; exact hA2'
    have y3 : Hid (Below w.heap.size w w1) := hVB.trans (hbl.mono hVB.size)
    have cc : ∀ i (h : i < 32), w1.cell? ⟨A2, i, none⟩ = some (.int .u8 (fl d_nil i)) := by
      intro i h
      rw [cell_of_row _ _ _ _ _ _ y2, tab8_get 32 _ i h]
      exact congrArg (fun z => some (Value.int .u8 z)) (sum_nil i h)
    have c0 : w1.cell? ⟨A2, 0, none⟩ = some (.int .u8 227) := cc 0 (by omega)
    have c1 : w1.cell? ⟨A2, 1, none⟩ = some (.int .u8 176) := cc 1 (by omega)
    have c2 : w1.cell? ⟨A2, 2, none⟩ = some (.int .u8 196) := cc 2 (by omega)
    have c3 : w1.cell? ⟨A2, 3, none⟩ = some (.int .u8 66) := cc 3 (by omega)
    have c30 : w1.cell? ⟨A2, 30, none⟩ = some (.int .u8 184) := cc 30 (by omega)
    have c31 : w1.cell? ⟨A2, 31, none⟩ = some (.int .u8 85) := cc 31 (by omega)
    clear cc y2 hall hx hbl hVB hA1 hA2' l1 l2 hsz
    unfold exFrame
    rw [h24]
    clear h24
    go_wp2
    go_ret
    exact ⟨rfl, y3.out⟩
end Go.Proofs.YtedjoakpbknflaaDoor
