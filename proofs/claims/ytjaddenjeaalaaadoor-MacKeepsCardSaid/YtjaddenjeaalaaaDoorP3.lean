import Derived.Test.YtjaddenjeaalaaaDoorP1
namespace Go.Proofs.YtjaddenjeaalaaaDoor
open Go.RowKit

/-- The key that Derive takes. -/
def exK (ps : Nat → Int) (ls : Nat) (pt : Nat → Int) (lt : Nat) : Nat → Int := tagV pt lt ps ls

set_option maxHeartbeats 800000 in
theorem mderive_any (vs vt vi : Value) (ls lt li : Nat) (ps pt pi : Nat → Int) (n : Int) (w : World) (hG : Glob w) (hs : ls + 64 < 1152921504606846976) (ht : lt < 1152921504606846976) (hli : li + 300 < 1152921504606846976) (h0 : SliceB w vs ls ps) (h1 : SliceB w vt lt pt) (h2 : SliceB w vi li pi) :
    Calls Tryd.prog 18 #[vs, vt, vi, .int .i64 n] w fun e w' => ∃ v', e = .returned (.tuple #[v', .int .i64 (expE n)]) ∧ w'.ownsRow w.heap.size 5 1 v' (expN n) (vals (firstL (ebK (exK ps ls pt lt) 32 pi li) (expN n))) ∧ Below w.heap.size w w' := by
  have HG : Hid (_) := hG
  have HS' : Hid (_) := hs
  have HT : Hid (_) := ht
  have HL : Hid (_) := hli
  have H0 : Hid (_) := h0
  have H1 : Hid (_) := h1
  have H2 : Hid (_) := h2
  clear hG hs ht hli h0 h1 h2
  have z28 := zero28
  have s32 := slice32
  go_enter Tryd.func18, Tryd.ntmps18
  go_wp2_with fail
  obtain ⟨D, hD⟩ : ∃ D, D = exK ps ls pt lt := ⟨_, rfl⟩
  have hr := mextract_any vt vs lt ls pt ps w HG.out HT.out HS'.out H1.out H0.out
  have eD : tagV pt lt ps ls = D := by rw [hD]; rfl
  rw [eD] at hr
  refine hr.mono ?_
  rintro e w1 ⟨rfl, hb1⟩
  have W1 : Hid (Below w.heap.size w w1) := hb1
  have HD : Hid (_) := hD
  have DB : Hid (∀ j, 0 ≤ D j ∧ D j < 256) := by rw [hD]; exact sumD_bd _
  clear hr eD hD hb1
  go_wp2_with (first
    | (refine isStore 25 (.tmp 10) (.tmp 13) rfl ?_; go_must (refine wpList_store_row rfl 25 (.tmp 10) (.tmp 13) rfl w1.heap.size _ rfl rfl 25 _ (heap_alloc_new _ _) (size28' _) (by simp only [tab8_size]) (tab8_one _ _) ?_; rw [World.setRow_alloc_new]; simp only [Act.put]; obtain ⟨A, hA⟩ : ∃ G, G = w1.heap.size := ⟨_, rfl⟩; obtain ⟨V, hV⟩ : ∃ V, V = w1.alloc (.cells (tab8 32 D) 25) := ⟨_, rfl⟩; have VA : Hid (V.heap[A]? = some (.cells (tab8 32 D) 25)) := (by rw [hV, hA]; exact heap_alloc_new _ _); have W2 : Hid (Below w.heap.size w V) := (by rw [hV]; exact W1.out.alloc W1.out.size _); rw [← hV, ← hA]; clear hV hA)))
  have hr := mexpand_any _ vi 32 li D pi n V (HG.out.below W2.out HG.out.sz) (by omega) HL.out (sliceB_row VA.out (by omega) fun j _ => DB.out j) (H2.out.below W2.out)
  rw [HD.out] at hr
  refine hr.mono ?_
  rintro e w3 ⟨v', rfl, own3, hb3⟩
  have O3 : Hid (_) := own3.mono W2.out.size
  have W3 : Hid (Below w.heap.size w w3) := W2.out.trans (hb3.mono W2.out.size)
  clear hr own3 hb3 VA W2
  go_wp2
  go_ret2
  exact ⟨v', rfl, O3.out, W3.out⟩

set_option maxHeartbeats 800000 in
theorem rderive_any (vs vt vi : Value) (ls lt li : Nat) (ps pt pi : Nat → Int) (n : Int) (w : World) (hs : ls + 300 ≤ 140737488355328) (ht : lt + 200 ≤ 140737488355328) (hli : li + 600 ≤ 140737488355328) (h0 : SliceB w vs ls ps) (h1 : SliceB w vt lt pt) (h2 : SliceB w vi li pi)
    (hn0 : ∀ cap, vs = .slice none ls cap → cap = 0) (hn1 : ∀ cap, vt = .slice none lt cap → cap = 0) (hn2 : ∀ cap, vi = .slice none li cap → cap = 0) :
    Calls Tryd.prog 19 #[vs, vt, vi, .int .i64 n] w fun e w' => ∃ v', e = .returned (.tuple #[v', .int .i64 (expE n)]) ∧ SliceB w' v' (expN n) (ebK (exK ps ls pt lt) 32 pi li) ∧ Below w.heap.size w w' := by
  have HS' : Hid (_) := hs
  have HT : Hid (_) := ht
  have HL : Hid (_) := hli
  have H0 : Hid (_) := h0
  have H1 : Hid (_) := h1
  have H2 : Hid (_) := h2
  have N0 : Hid (_) := hn0
  have N1 : Hid (_) := hn1
  have N2 : Hid (_) := hn2
  clear hs ht hli h0 h1 h2 hn0 hn1 hn2
  have z28 := zero28
  have s32 := slice32
  go_enter Tryd.func19, Tryd.ntmps19
  go_wp2_with fail
  obtain ⟨D, hD⟩ : ∃ D, D = exK ps ls pt lt := ⟨_, rfl⟩
  have hr := rextract_any vt vs lt ls pt ps w HT.out HS'.out H1.out H0.out N1.out N0.out
  have eD : tagV pt lt ps ls = D := by rw [hD]; rfl
  rw [eD] at hr
  refine hr.mono ?_
  rintro e w1 ⟨rfl, hb1⟩
  have W1 : Hid (Below w.heap.size w w1) := hb1
  have HD : Hid (_) := hD
  have DB : Hid (∀ j, 0 ≤ D j ∧ D j < 256) := by rw [hD]; exact sumD_bd _
  clear hr eD hD hb1
  go_wp2_with (first
    | (refine isStore 25 (.tmp 10) (.tmp 13) rfl ?_; go_must (refine wpList_store_row rfl 25 (.tmp 10) (.tmp 13) rfl w1.heap.size _ rfl rfl 25 _ (heap_alloc_new _ _) (size28' _) (by simp only [tab8_size]) (tab8_one _ _) ?_; rw [World.setRow_alloc_new]; simp only [Act.put]; obtain ⟨A, hA⟩ : ∃ G, G = w1.heap.size := ⟨_, rfl⟩; obtain ⟨V, hV⟩ : ∃ V, V = w1.alloc (.cells (tab8 32 D) 25) := ⟨_, rfl⟩; have VA : Hid (V.heap[A]? = some (.cells (tab8 32 D) 25)) := (by rw [hV, hA]; exact heap_alloc_new _ _); have W2 : Hid (Below w.heap.size w V) := (by rw [hV]; exact W1.out.alloc W1.out.size _); rw [← hV, ← hA]; clear hV hA)))
  have hr := rexpand_any _ vi 32 li D pi n V (by omega) HL.out (sliceB_row VA.out (by omega) fun j _ => DB.out j) (H2.out.below W2.out) (fun cap e => by cases e) N2.out
  rw [HD.out] at hr
  refine hr.mono ?_
  rintro e w3 ⟨v', rfl, s3, hb3⟩
  have O3 : Hid (_) := s3
  have W3 : Hid (Below w.heap.size w w3) := W2.out.trans (hb3.mono W2.out.size)
  clear hr s3 hb3 VA W2
  go_wp2
  go_ret2
  exact ⟨v', rfl, O3.out, W3.out⟩

set_option maxRecDepth 20000 in
set_option maxHeartbeats 1000000 in
theorem macderives_any (vs vt vi : Value) (ls lt li : Nat) (ps pt pi : Nat → Int) (n : Int) (w : World) (hG : Glob w) (hs : ls + 300 ≤ 140737488355328) (ht : lt + 200 ≤ 140737488355328) (hli : li + 600 ≤ 140737488355328) (h0 : SliceB w vs ls ps) (h1 : SliceB w vt lt pt) (h2 : SliceB w vi li pi)
    (hn0 : ∀ cap, vs = .slice none ls cap → cap = 0) (hn1 : ∀ cap, vt = .slice none lt cap → cap = 0) (hn2 : ∀ cap, vi = .slice none li cap → cap = 0) :
    Calls Tryd.prog 5 #[.agg #[vs, vt, vi, .int .i64 n]] w fun e w' => e = .returned (.bool true) ∧ Below w.heap.size w w' := by
  have HG : Hid (_) := hG
  have HS' : Hid (_) := hs
  have HT : Hid (_) := ht
  have HL : Hid (_) := hli
  have H0 : Hid (_) := h0
  have H1 : Hid (_) := h1
  have H2 : Hid (_) := h2
  have N0 : Hid (_) := hn0
  have N1 : Hid (_) := hn1
  have N2 : Hid (_) := hn2
  clear hG hs ht hli h0 h1 h2 hn0 hn1 hn2
  have cv2 := conv_const2
  go_enter Tryd.func5, Tryd.ntmps5
  go_wp2_with fail
  obtain ⟨M, hM⟩ : ∃ M, M = w.alloc (.cells #[vs, vt, vi, .int .i64 n] 34) := ⟨_, rfl⟩
  have m0 : M.heap[w.heap.size]? = some (.cells #[vs, vt, vi, .int .i64 n] 34) := by rw [hM]; exact heap_alloc_new _ _
  have mB : Below w.heap.size w M := by rw [hM]; exact (Below.refl _ _).alloc (Nat.le_refl _) _
  have mS : M.heap.size = w.heap.size + 1 := by rw [hM]; simp
  have k1 := sliceB_lit M [115] #[.int .u8 115] (1, 2) rfl (by decide) (by decide)
  have b1 : Below M.heap.size M (M.alloc (.cells #[.int .u8 115] 5 (1, 2))) := (Below.refl _ _).alloc (Nat.le_refl _) _
  have bw := mB.trans (b1.mono mB.size)
  have hr := mderive_any (.slice (some ⟨M.heap.size, 0, none⟩) 1 1) (.slice none 0 0) (.slice none 0 0) 1 0 0 (fl [115]) (fun _ => 0) (fun _ => 0) 16 (M.alloc (.cells #[.int .u8 115] 5 (1, 2))) (HG.out.below bw HG.out.sz) (by omega) (by omega) (by omega) k1 (sliceB_nil _ _) (sliceB_nil _ _)
  rw [mS, hM] at hr
  refine hr.mono ?_
  rintro e w1 ⟨v1, rfl, own1, hb1⟩
  rw [← hM] at hb1
  have e3 : expE 16 = 0 := rfl
  have n3 : expN 16 = 16 := rfl
  rw [n3] at own1
  rw [e3]
  obtain ⟨ao, cap, rfl⟩ := own_form own1
  have W1 : Hid (Below w.heap.size w w1) := bw.trans (hb1.mono bw.size)
  have R1 : Hid (w1.heap[w.heap.size]? = some (.cells #[vs, vt, vi, .int .i64 n] 34)) := by
    rw [hb1.block _ (by simp; omega), b1.block _ (by omega)]; exact m0
  clear hr k1 b1 bw own1 hb1 e3 n3 cv2 m0 mB mS hM M
  have c0 : w1.cell? ⟨w.heap.size, 0, none⟩ = some vs := by rw [cell_of_row _ _ _ _ _ _ R1.out]; rfl
  have c1 : w1.cell? ⟨w.heap.size, 1, none⟩ = some vt := by rw [cell_of_row _ _ _ _ _ _ R1.out]; rfl
  have c2 : w1.cell? ⟨w.heap.size, 2, none⟩ = some vi := by rw [cell_of_row _ _ _ _ _ _ R1.out]; rfl
  have c3 : w1.cell? ⟨w.heap.size, 3, none⟩ = some (.int .i64 n) := by rw [cell_of_row _ _ _ _ _ _ R1.out]; rfl
  go_wp2_with fail
  refine (rderive_any vs vt vi ls lt li ps pt pi n w1 HS'.out HT.out HL.out (H0.out.below W1.out) (H1.out.below W1.out) (H2.out.below W1.out) N0.out N1.out N2.out).mono ?_
  rintro e w2 ⟨v2, rfl, s2, hb2⟩
  have S2 : Hid (_) := s2
  have W2 : Hid (Below w.heap.size w w2) := W1.out.trans (hb2.mono W1.out.size)
  have R2 : Hid (w2.heap[w.heap.size]? = some (.cells #[vs, vt, vi, .int .i64 n] 34)) := by
    rw [hb2.block _ (Array.getElem?_eq_some_iff.1 R1.out).1]; exact R1.out
  clear s2 hb2 W1 R1 c0 c1 c2 c3
  have c0 : w2.cell? ⟨w.heap.size, 0, none⟩ = some vs := by rw [cell_of_row _ _ _ _ _ _ R2.out]; rfl
  have c1 : w2.cell? ⟨w.heap.size, 1, none⟩ = some vt := by rw [cell_of_row _ _ _ _ _ _ R2.out]; rfl
  have c2 : w2.cell? ⟨w.heap.size, 2, none⟩ = some vi := by rw [cell_of_row _ _ _ _ _ _ R2.out]; rfl
  have c3 : w2.cell? ⟨w.heap.size, 3, none⟩ = some (.int .i64 n) := by rw [cell_of_row _ _ _ _ _ _ R2.out]; rfl
  go_wp2_with fail
  refine (mderive_any vs vt vi ls lt li ps pt pi n w2 (HG.out.below W2.out HG.out.sz) (by have := HS'.out; omega) (by have := HT.out; omega) (by have := HL.out; omega) (H0.out.below W2.out) (H1.out.below W2.out) (H2.out.below W2.out)).mono ?_
  rintro e w3 ⟨v3, rfl, own3, hb3⟩
  have d2 := conv_strP (S2.out.below hb3)
  have d3 := conv_strP (sliceB_own own3 fun j _ => eb_bd _ _ _ _ j)
  have W3 : Hid (Below w.heap.size w w3) := W2.out.trans (hb3.mono W2.out.size)
  clear own3 hb3 W2 R2 c0 c1 c2 c3
  go_wp2
  go_ret
  refine ⟨?_, W3.out⟩
  first | rfl | simp
end Go.Proofs.YtjaddenjeaalaaaDoor
