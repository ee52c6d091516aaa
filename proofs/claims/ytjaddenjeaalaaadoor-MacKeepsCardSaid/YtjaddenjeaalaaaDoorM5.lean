import Derived.Test.YtjaddenjeaalaaaDoorM4
namespace Go.Proofs.YtjaddenjeaalaaaDoor
open Go.RowKit

/-- HMAC. -/
def tagV (pk : Nat → Int) (lk : Nat) (pm : Nat → Int) (lm : Nat) : Nat → Int := tagD (addN (inS pk lk) pm lm) (outS pk lk)

set_option maxHeartbeats 400000 in
theorem mtag_any (vk vm : Value) (lk lm : Nat) (pk pm : Nat → Int) (w : World) (hG : Glob w) (hk : lk < 1152921504606846976) (hm : lm + 64 < 1152921504606846976) (h1 : SliceB w vk lk pk) (h2 : SliceB w vm lm pm) :
    Calls Tryd.prog 14 #[vk, vm] w fun e w' => e = .returned (.agg (tab8 32 (tagV pk lk pm lm))) ∧ Below w.heap.size w w' := by
  obtain ⟨am, cm, rfl, hx⟩ := h2.shape
  clear hx
  have HG : Hid (_) := hG
  have HK : Hid (_) := hk
  have HM : Hid (_) := hm
  have H1 : Hid (_) := h1
  have H2 : Hid (_) := h2
  clear hG hk hm h1 h2
  have z28 := zero28
  go_enter Tryd.func14, Tryd.ntmps14
  go_wp2_with fail
  have B0 : Hid (Below w.heap.size w (w.alloc (.cells (tab8 32 (fun _ => 0)) 25))) := (Below.refl _ _).alloc (Nat.le_refl _) _
  refine (keyedBy_any vk lk pk _ (HG.out.below B0.out HG.out.sz) HK.out (H1.out.below B0.out)).mono ?_
  rintro e w1 ⟨rfl, hb1⟩
  have B1 : Hid (Below (w.heap.size + 1) (w.alloc (.cells (tab8 32 (fun _ => 0)) 25)) w1) := by
    have hsz : (w.alloc (.cells (tab8 32 (fun _ => 0)) 25)).heap.size = w.heap.size + 1 := by simp
    rw [← hsz]; exact hb1
  have R0 : Hid (w1.heap[w.heap.size]? = some (.cells (tab8 32 (fun _ => 0)) 25)) := by rw [B1.out.block _ (by omega)]; exact heap_alloc_new _ _
  have W1 : Hid (Below w.heap.size w w1) := B0.out.trans (B1.out.mono (by omega))
  clear hb1 B0 B1 z28
  go_wp2_with fail
  have wb : Below w.heap.size w (w1.alloc (.cells #[.slice am lm cm] 22)) := W1.out.alloc W1.out.size _
  have hp : Pieces (w1.alloc (.cells #[.slice am lm cm] 22)) (.slice (some ⟨w1.heap.size, 0, none⟩) 1 1) 1 (fun _ => lm) (fun _ => pm) :=
    ⟨w1.heap.size, 0, 1, fun _ => .slice am lm cm, rfl, by simp, by omega, fun i hi => by
      obtain rfl : i = 0 := by omega
      exact ⟨by rw [cell_of_row _ _ _ _ _ _ (heap_alloc_new w1 _)]; rfl, H2.out.below wb⟩⟩
  refine (tag_any (inS pk lk) (outS pk lk) _ 1 (fun _ => lm) (fun _ => pm) _ (HG.out.below wb HG.out.sz) (ok_inS _ _) (ok_outS _ _) (outS_n _ _) (by rw [inS_n]; have := HM.out; simp only [totL]; omega) hp).mono ?_
  rintro e w2 ⟨rfl, hb2⟩
  have sz : w.heap.size < w1.heap.size := (Array.getElem?_eq_some_iff.1 R0.out).1
  have R1 : Hid (w2.heap[w.heap.size]? = some (.cells (tab8 32 (fun _ => 0)) 25)) := by
    rw [hb2.block _ (by simp; omega), Below.heap_alloc _ _ _ sz]; exact R0.out
  have W2 : Hid (Below w.heap.size w w2) := wb.trans (hb2.mono wb.size)
  clear hb2 hp wb sz R0 W1
  go_wp2_with (first
    | (refine isStore 25 (.tmp 4) (.tmp 9) rfl ?_; go_must (refine wpList_store_row rfl 25 (.tmp 4) (.tmp 9) rfl w.heap.size _ rfl rfl 25 _ R1.out (size28' _) (by simp only [tab8_size]) (tab8_one _ _) ?_)))
  refine bodyPost_ret (v := .agg (tab8 32 (tagV pk lk pm lm))) (results_cell_row Tryd.results14 _ _ w.heap.size 25 _ (0, 0) _ rfl (setRow_heap _ _ _ _ _ _ R1.out) Tryd.underlying25 rfl (size28' _)) rfl ⟨rfl, ?_⟩
  exact below_setRow W2.out (Nat.le_refl _) _

set_option maxHeartbeats 400000 in
theorem mextract_any (vk vm : Value) (lk lm : Nat) (pk pm : Nat → Int) (w : World) (hG : Glob w) (hk : lk < 1152921504606846976) (hm : lm + 64 < 1152921504606846976) (h1 : SliceB w vk lk pk) (h2 : SliceB w vm lm pm) :
    Calls Tryd.prog 15 #[vk, vm] w fun e w' => e = .returned (.agg (tab8 32 (tagV pk lk pm lm))) ∧ Below w.heap.size w w' := by
  have HG : Hid (_) := hG
  have HK : Hid (_) := hk
  have HM : Hid (_) := hm
  have H1 : Hid (_) := h1
  have H2 : Hid (_) := h2
  clear hG hk hm h1 h2
  have z28 := zero28
  go_enter Tryd.func15, Tryd.ntmps15
  go_wp2_with fail
  have B0 : Hid (Below w.heap.size w (w.alloc (.cells (tab8 32 (fun _ => 0)) 25))) := (Below.refl _ _).alloc (Nat.le_refl _) _
  refine (mtag_any vk vm lk lm pk pm _ (HG.out.below B0.out HG.out.sz) HK.out HM.out (H1.out.below B0.out) (H2.out.below B0.out)).mono ?_
  rintro e w1 ⟨rfl, hb1⟩
  have B1 : Hid (Below (w.heap.size + 1) (w.alloc (.cells (tab8 32 (fun _ => 0)) 25)) w1) := by
    have hsz : (w.alloc (.cells (tab8 32 (fun _ => 0)) 25)).heap.size = w.heap.size + 1 := by simp
    rw [← hsz]; exact hb1
  have R0 : Hid (w1.heap[w.heap.size]? = some (.cells (tab8 32 (fun _ => 0)) 25)) := by rw [B1.out.block _ (by omega)]; exact heap_alloc_new _ _
  have W1 : Hid (Below w.heap.size w w1) := B0.out.trans (B1.out.mono (by omega))
  clear hb1 B0 B1 z28
  go_wp2_with (first
    | (refine isStore 25 (.tmp 4) (.tmp 7) rfl ?_; go_must (refine wpList_store_row rfl 25 (.tmp 4) (.tmp 7) rfl w.heap.size _ rfl rfl 25 _ R0.out (size28' _) (by simp only [tab8_size]) (tab8_one _ _) ?_)))
  refine bodyPost_ret (v := .agg (tab8 32 (tagV pk lk pm lm))) (results_cell_row Tryd.results15 _ _ w.heap.size 25 _ (0, 0) _ rfl (setRow_heap _ _ _ _ _ _ R0.out) Tryd.underlying25 rfl (size28' _)) rfl ⟨rfl, ?_⟩
  exact below_setRow W1.out (Nat.le_refl _) _

/-- The bytes as a string. -/
def strP (p : Nat → Int) (l : Nat) : ByteArray := strOfNums (firstL p l)
theorem conv_strP {w : World} {v : Value} {l : Nat} {p : Nat → Int} (h : SliceB w v l p) : (convert 22 9 v).run Tryd.prog w = .ok (.string (strP p l)) w := conv_str h

theorem bequal_any (vk vm : Value) (lk lm : Nat) (pk pm : Nat → Int) (w : World) (h1 : SliceB w vk lk pk) (h2 : SliceB w vm lm pm) :
    Calls Tryd.prog 24 #[vk, vm] w fun e w' => e = .returned (.bool ((strP pk lk).toList == (strP pm lm).toList)) ∧ w' = w := by
  have c1 := conv_strP h1
  have c2 := conv_strP h2
  clear h1 h2
  go_enter Tryd.func24, Tryd.ntmps24
  go_wp2
  go_ret
  exact ⟨rfl, rfl⟩
theorem mequal_any (vk vm : Value) (lk lm : Nat) (pk pm : Nat → Int) (w : World) (h1 : SliceB w vk lk pk) (h2 : SliceB w vm lm pm) :
    Calls Tryd.prog 10 #[vk, vm] w fun e w' => e = .returned (.bool ((strP pk lk).toList == (strP pm lm).toList)) ∧ w' = w := by
  have H1 : Hid (_) := h1
  have H2 : Hid (_) := h2
  clear h1 h2
  go_enter Tryd.func10, Tryd.ntmps10
  go_wp2_with fail
  refine (bequal_any vk vm lk lm pk pm _ H1.out H2.out).mono ?_
  rintro e w1 ⟨rfl, rfl⟩
  go_wp2
  go_ret
  exact ⟨rfl, rfl⟩
theorem requal_any (vk vm : Value) (lk lm : Nat) (pk pm : Nat → Int) (w : World) (h1 : SliceB w vk lk pk) (h2 : SliceB w vm lm pm) :
    Calls Tryd.prog 13 #[vk, vm] w fun e w' => e = .returned (.bool ((strP pk lk).toList == (strP pm lm).toList)) ∧ w' = w := by
  have c1 := conv_strP h1
  have c2 := conv_strP h2
  clear h1 h2
  go_enter Tryd.func13, Tryd.ntmps13
  go_wp2
  go_ret
  exact ⟨rfl, rfl⟩
end Go.Proofs.YtjaddenjeaalaaaDoor
