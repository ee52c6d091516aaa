import Derived.Test.YteekoabgbjbabaaGreatDoorM4
import Derived.Deep.Onto
import Derived.Test.YteekoabgbjbabaaGreatDoorA7
import Derived.Test.YteekoabgbjbabaaGreatDoorK7
import Derived.Deep.DeepCutAuto
import Derived.Deep.CutBlock
namespace Go.Proofs.YteekoabgbjbabaaGreatDoor
open Go.RowKit

/-- HMAC. -/
def tagV (pk : Nat → Int) (lk : Nat) (pm : Nat → Int) (lm : Nat) : Nat → Int := tagD (addN (inS pk lk) pm lm) (outS pk lk)

set_option maxHeartbeats 400000 in
theorem mtag_any (vk vm : Value) (lk lm : Nat) (pk pm : Nat → Int) (w : World) (hG : Glob w) (hk : lk < 1152921504606846976) (hm : lm + 64 < 1152921504606846976) (h1 : SliceB w vk lk pk) (h2 : SliceB w vm lm pm) :
    Calls Tryz.prog 42 #[vk, vm] w fun e w' => e = .returned (.agg (tab8 32 (tagV pk lk pm lm))) ∧ Below w.heap.size w w' := by
  obtain ⟨am, cm, rfl, hx⟩ := h2.shape
  clear hx
  have HG : Hid (_) := hG
  have HK : Hid (_) := hk
  have HM : Hid (_) := hm
  have H1 : Hid (_) := h1
  have H2 : Hid (_) := h2
  clear hG hk hm h1 h2
  have z28 := zero28
  go_enter Tryz.func42, Tryz.ntmps42
  go_wp2_with fail
  have B0 : Hid (Below w.heap.size w (w.alloc (.cells (tab8 32 (fun _ => 0)) 54))) := (Below.refl _ _).alloc (Nat.le_refl _) _
  refine (keyedBy_any vk lk pk _ (HG.out.below B0.out HG.out.sz) HK.out (H1.out.below B0.out)).mono ?_
  rintro e w1 ⟨rfl, hb1⟩
  have B1 : Hid (Below (w.heap.size + 1) (w.alloc (.cells (tab8 32 (fun _ => 0)) 54)) w1) := by
    have hsz : (w.alloc (.cells (tab8 32 (fun _ => 0)) 54)).heap.size = w.heap.size + 1 := by simp
    rw [← hsz]; exact hb1
  have R0 : Hid (w1.heap[w.heap.size]? = some (.cells (tab8 32 (fun _ => 0)) 54)) := by rw [B1.out.block _ (by omega)]; exact heap_alloc_new _ _
  have W1 : Hid (Below w.heap.size w w1) := B0.out.trans (B1.out.mono (by omega))
  clear hb1 B0 B1 z28
  go_wp2_with fail
  have wb : Below w.heap.size w (w1.alloc (.cells #[.slice am lm cm] 24)) := W1.out.alloc W1.out.size _
  have hp : Pieces (w1.alloc (.cells #[.slice am lm cm] 24)) (.slice (some ⟨w1.heap.size, 0, none⟩) 1 1) 1 (fun _ => lm) (fun _ => pm) :=
    ⟨w1.heap.size, 0, 1, fun _ => .slice am lm cm, rfl, by simp, by omega, fun i hi => by
      obtain rfl : i = 0 := by omega
      exact ⟨by rw [cell_of_row _ _ _ _ _ _ (heap_alloc_new w1 _)]; rfl, H2.out.below wb⟩⟩
  refine (tag_any (inS pk lk) (outS pk lk) _ 1 (fun _ => lm) (fun _ => pm) _ (HG.out.below wb HG.out.sz) (ok_inS _ _) (ok_outS _ _) (outS_n _ _) (by rw [inS_n]; have := HM.out; simp only [totL]; omega) hp).mono ?_
  rintro e w2 ⟨rfl, hb2⟩
  have sz : w.heap.size < w1.heap.size := (Array.getElem?_eq_some_iff.1 R0.out).1
  have R1 : Hid (w2.heap[w.heap.size]? = some (.cells (tab8 32 (fun _ => 0)) 54)) := by
    rw [hb2.block _ (by simp; omega), Below.heap_alloc _ _ _ sz]; exact R0.out
  have W2 : Hid (Below w.heap.size w w2) := wb.trans (hb2.mono wb.size)
  clear hb2 hp wb sz R0 W1
  go_wp2_with (first
    | (refine isStore 54 (.tmp 4) (.tmp 9) rfl ?_; go_must (refine wpList_store_row rfl 54 (.tmp 4) (.tmp 9) rfl w.heap.size _ rfl rfl 54 _ R1.out (size28' _) (by simp only [tab8_size]) (tab8_one _ _) ?_)))
  refine bodyPost_ret (v := .agg (tab8 32 (tagV pk lk pm lm))) (results_cell_row Tryz.results42 _ _ w.heap.size 54 _ (0, 0) _ rfl (setRow_heap _ _ _ _ _ _ R1.out) Tryz.underlying54 rfl (size28' _)) rfl ⟨rfl, ?_⟩
  exact below_setRow W2.out (Nat.le_refl _) _

set_option maxHeartbeats 400000 in
theorem mextract_any (vk vm : Value) (lk lm : Nat) (pk pm : Nat → Int) (w : World) (hG : Glob w) (hk : lk < 1152921504606846976) (hm : lm + 64 < 1152921504606846976) (h1 : SliceB w vk lk pk) (h2 : SliceB w vm lm pm) :
    Calls Tryz.prog 28 #[vk, vm] w fun e w' => e = .returned (.agg (tab8 32 (tagV pk lk pm lm))) ∧ Below w.heap.size w w' := by
  have HG : Hid (_) := hG
  have HK : Hid (_) := hk
  have HM : Hid (_) := hm
  have H1 : Hid (_) := h1
  have H2 : Hid (_) := h2
  clear hG hk hm h1 h2
  have z28 := zero28
  go_enter Tryz.func28, Tryz.ntmps28
  go_wp2_with fail
  have B0 : Hid (Below w.heap.size w (w.alloc (.cells (tab8 32 (fun _ => 0)) 54))) := (Below.refl _ _).alloc (Nat.le_refl _) _
  refine (mtag_any vk vm lk lm pk pm _ (HG.out.below B0.out HG.out.sz) HK.out HM.out (H1.out.below B0.out) (H2.out.below B0.out)).mono ?_
  rintro e w1 ⟨rfl, hb1⟩
  have B1 : Hid (Below (w.heap.size + 1) (w.alloc (.cells (tab8 32 (fun _ => 0)) 54)) w1) := by
    have hsz : (w.alloc (.cells (tab8 32 (fun _ => 0)) 54)).heap.size = w.heap.size + 1 := by simp
    rw [← hsz]; exact hb1
  have R0 : Hid (w1.heap[w.heap.size]? = some (.cells (tab8 32 (fun _ => 0)) 54)) := by rw [B1.out.block _ (by omega)]; exact heap_alloc_new _ _
  have W1 : Hid (Below w.heap.size w w1) := B0.out.trans (B1.out.mono (by omega))
  clear hb1 B0 B1 z28
  go_wp2_with (first
    | (refine isStore 54 (.tmp 4) (.tmp 7) rfl ?_; go_must (refine wpList_store_row rfl 54 (.tmp 4) (.tmp 7) rfl w.heap.size _ rfl rfl 54 _ R0.out (size28' _) (by simp only [tab8_size]) (tab8_one _ _) ?_)))
  refine bodyPost_ret (v := .agg (tab8 32 (tagV pk lk pm lm))) (results_cell_row Tryz.results28 _ _ w.heap.size 54 _ (0, 0) _ rfl (setRow_heap _ _ _ _ _ _ R0.out) Tryz.underlying54 rfl (size28' _)) rfl ⟨rfl, ?_⟩
  exact below_setRow W1.out (Nat.le_refl _) _

/-- The bytes as a string. -/
def strP (p : Nat → Int) (l : Nat) : ByteArray := strOfNums (firstL p l)
theorem conv_strP {w : World} {v : Value} {l : Nat} {p : Nat → Int} (h : SliceB w v l p) : (convert 24 9 v).run Tryz.prog w = .ok (.string (strP p l)) w := conv_str h

theorem bequal_any (vk vm : Value) (lk lm : Nat) (pk pm : Nat → Int) (w : World) (h1 : SliceB w vk lk pk) (h2 : SliceB w vm lm pm) :
    Calls Tryz.prog 68 #[vk, vm] w fun e w' => e = .returned (.bool ((strP pk lk).toList == (strP pm lm).toList)) ∧ w' = w := by
  have c1 := conv_strP h1
  have c2 := conv_strP h2
  clear h1 h2
  go_enter Tryz.func68, Tryz.ntmps68
  go_wp2
  go_ret
  exact ⟨rfl, rfl⟩
theorem mequal_any (vk vm : Value) (lk lm : Nat) (pk pm : Nat → Int) (w : World) (h1 : SliceB w vk lk pk) (h2 : SliceB w vm lm pm) :
    Calls Tryz.prog 53 #[vk, vm] w fun e w' => e = .returned (.bool ((strP pk lk).toList == (strP pm lm).toList)) ∧ w' = w := by
  have H1 : Hid (_) := h1
  have H2 : Hid (_) := h2
  clear h1 h2
  go_enter Tryz.func53, Tryz.ntmps53
  go_wp2_with fail
  refine (bequal_any vk vm lk lm pk pm _ H1.out H2.out).mono ?_
  rintro e w1 ⟨rfl, rfl⟩
  go_wp2
  go_ret
  exact ⟨rfl, rfl⟩
end Go.Proofs.YteekoabgbjbabaaGreatDoor

namespace Go.Proofs.YteekoabgbjbabaaGreatDoor
open Go.RowKit

theorem firstL_succ (f : Nat → Int) (k : Nat) : firstL f k ++ [f k] = firstL f (k + 1) := by simp [firstL, List.range_succ]
theorem firstL_len (f : Nat → Int) (k : Nat) : (firstL f k).length = k := by simp [firstL]
theorem firstL_congr {f g : Nat → Int} {k : Nat} (h : ∀ i, i < k → f i = g i) : firstL f k = firstL g k := by
  unfold firstL
  apply List.map_congr_left
  intro i hi
  exact h i (List.mem_range.1 hi)
theorem firstL_get {f : Nat → Int} {k j : Nat} (h : j < k) : (vals (firstL f k))[j]? = some (.int .u8 (f j)) := by simp [vals, firstL, h]
/-- A row of one's own is a []byte. -/
theorem sliceB_own {W : World} {B n : Nat} {v : Value} {f : Nat → Int} (h : W.ownsRow B 5 1 v n (vals (firstL f n))) (hb : ∀ j, j < n → 0 ≤ f j ∧ f j < 256) : SliceB W v n f := by
  rcases h.2 with ⟨rfl, rfl⟩ | ⟨g, cap, cur, rfl, _, hg, h1, h2, h3, h4⟩
  · exact ⟨⟨none, 0, rfl, Nat.le_refl _, by omega, fun h0 => by omega⟩, hb⟩
  · refine ⟨⟨_, _, rfl, h1, by unfold maxLen at h2; omega, fun _ => ⟨g, 0, rfl, (Array.getElem?_eq_some_iff.1 hg).1, fun j hj => ?_⟩⟩, hb⟩
    rw [cell_of_row _ _ _ _ _ _ hg, Nat.zero_add]
    have e : (cur.toList.take (n * 1))[j]? = some (.int .u8 (f j)) := by rw [h4]; exact firstL_get hj
    rw [List.getElem?_take, if_pos (by omega)] at e
    simpa using e
theorem own_nil {W : World} {B n : Nat} {v : Value} {xs : List Value} (h : W.ownsRow B 5 1 v n xs) : ∀ cap, v = .slice none n cap → cap = 0 := by
  intro cap e
  rcases h.2 with ⟨rfl, _⟩ | ⟨g, cap', cur, rfl, _⟩
  · cases e; rfl
  · cases e
theorem own_below {W W' : World} {B n : Nat} {v : Value} {xs : List Value} (h : W.ownsRow B 5 1 v n xs) (hb : Below W.heap.size W W') : W'.ownsRow B 5 1 v n xs := by
  refine ⟨h.1, ?_⟩
  rcases h.2 with h0 | ⟨g, cap, cur, e, h1, hg, h2⟩
  · exact Or.inl h0
  · exact Or.inr ⟨g, cap, cur, e, h1, by rw [hb.block _ (Array.getElem?_eq_some_iff.1 hg).1]; exact hg, h2⟩
/-- One cell of a []byte. -/
theorem SliceB.cell {w W : World} {a : Option Addr} {len cap : Nat} {p : Nat → Int} (h : SliceB w (.slice a len cap) len p) (hb : Below w.heap.size w W) (k : Nat) (hk : k < len) : ∃ b off, a = some ⟨b, off, none⟩ ∧ W.cell? ⟨b, off + k, none⟩ = some (.int .u8 (p k)) := by
  obtain ⟨⟨a', cap', e, _, _, e3⟩, _⟩ := h
  cases e
  obtain ⟨b, off, rfl, hl, hc⟩ := e3 (by omega)
  exact ⟨b, off, rfl, by rw [below_cell hb hl]; exact hc k hk⟩

set_option maxRecDepth 20000 in
set_option maxHeartbeats 1000000 in
theorem rmasked_any (v : Value) (len : Nat) (p : Nat → Int) (m : Int) (w : World) (hbig : len + 200 ≤ 140737488355328) (hv : SliceB w v len p) (hnil : ∀ cap, v = .slice none len cap → cap = 0) :
    Calls Tryz.prog 78 #[v, .int .u8 m] w fun e w' => ∃ v', e = .returned v' ∧ w'.ownsRow w.heap.size 5 1 v' 64 (vals (firstL (xk (kB p len) m) 64)) ∧ Below w.heap.size w w' := by
  obtain ⟨a0, cap0, rfl, hx⟩ := hv.shape
  clear hx
  have HB : Hid (_) := hbig
  have H0 : Hid (_) := hv
  have HN : Hid (_) := hnil
  clear hbig hv hnil
  by_cases hle : len ≤ 64
  · have i0 : ¬ (len : Int) > 64 := by omega
    have HLE : Hid (len ≤ 64) := hle
    clear hle
    go_enter Tryz.func78, Tryz.ntmps78
    go_wp2
    go_loopw [6, 7] (fun v i W => ∃ k : Nat, k ≤ 64 ∧ i = .int .i64 k ∧ W.ownsRow w.heap.size 5 1 v k (vals (firstL (xk (upto p len) m) k)) ∧ Below w.heap.size w W) (fun _ i _ => 64 - (intOf i).toNat)
    case atStart => exact ⟨0, by omega, rfl, World.ownsRow_nil _ _ _ _, Below.refl _ _⟩
    case round =>
      obtain ⟨k, hk, rfl, own, bel⟩ := hrel
      have O : Hid (wr.ownsRow w.heap.size 5 1 _ k (vals (firstL (xk (upto p len) m) k))) := own
      have G : Hid (Below w.heap.size w wr) := bel
      clear own bel
      by_cases hlt : k < 64
      · have i1 : (k : Int) < 64 := by omega
        by_cases hin : k < len
        · have i2 : (k : Int) < len := by omega
          obtain ⟨b, off, ea, ck⟩ := H0.out.cell G.out k hin
          subst ea
          have eF : Hid (bits .xor .u8 (p k) m = xk (upto p len) m k) := by show bits .xor .u8 (p k) m = xk (upto p len) m k; simp [xk, upto, hin]
          go_wp2_with (first
            | (refine isApp (.tmp 27) (.tmp 31) rfl ?_; go_must (refine wpList_app (l := firstL (xk (upto p len) m) k) (r := [bits .xor .u8 (p k) m]) (w0 := w) rfl (.tmp 27) (.tmp 31) rfl rfl rfl (O.out.alloc _) rfl (src_one wr _) (by omega) (G.out.alloc G.out.size _) (by have := G.out.size; simp; omega) ?_; intro v6 w6 own6 bel6 sz6; rw [eF.out, firstL_succ] at own6; simp only [Act.put, List.setIfInBounds_toArray, List.set_cons_succ, List.set_cons_zero]; have O6 : Hid (w6.ownsRow w.heap.size 5 1 v6 (k + 1) (vals (firstL (xk (upto p len) m) (k + 1)))) := own6; have G6 : Hid (Below w.heap.size w w6) := bel6; clear own6 bel6 sz6)))
          go_roundw
          case rel => exact ⟨k + 1, by omega, by go_num, O6.out, G6.out⟩
          case measure => simp [intOf]; omega
        · have i2 : ¬ (k : Int) < len := by omega
          have eF : Hid (bits .xor .u8 0 m = xk (upto p len) m k) := by show bits .xor .u8 0 m = xk (upto p len) m k; simp [xk, upto, hin]
          go_wp2_with (first
            | (refine isApp (.tmp 27) (.tmp 31) rfl ?_; go_must (refine wpList_app (l := firstL (xk (upto p len) m) k) (r := [bits .xor .u8 0 m]) (w0 := w) rfl (.tmp 27) (.tmp 31) rfl rfl rfl (O.out.alloc _) rfl (src_one wr _) (by omega) (G.out.alloc G.out.size _) (by have := G.out.size; simp; omega) ?_; intro v6 w6 own6 bel6 sz6; rw [eF.out, firstL_succ] at own6; simp only [Act.put, List.setIfInBounds_toArray, List.set_cons_succ, List.set_cons_zero]; have O6 : Hid (w6.ownsRow w.heap.size 5 1 v6 (k + 1) (vals (firstL (xk (upto p len) m) (k + 1)))) := own6; have G6 : Hid (Below w.heap.size w w6) := bel6; clear own6 bel6 sz6)))
          go_roundw
          case rel => exact ⟨k + 1, by omega, by go_num, O6.out, G6.out⟩
          case measure => simp [intOf]; omega
      · have hk64 : k = 64 := by omega
        subst hk64
        go_wp2
        go_ret
        refine ⟨_, rfl, ?_, G.out⟩
        have e : kB p len = upto p len := by unfold kB; rw [if_pos HLE.out]
        rw [e]; exact O.out
  · have i0 : (len : Int) > 64 := by omega
    have HLE : Hid (¬ len ≤ 64) := hle
    clear hle
    have z28 := zero28
    go_enter Tryz.func78, Tryz.ntmps78
    go_wp2_with fail
    obtain ⟨D, hD⟩ : ∃ D, D = sumD (addN HS.new p len) := ⟨_, rfl⟩
    have hs := rsum_is (.slice a0 len cap0) len p w (by have := HB.out; omega) H0.out HN.out
    rw [← hD] at hs
    refine hs.mono ?_
    rintro e w1 ⟨rfl, hb1⟩
    have W1 : Hid (Below w.heap.size w w1) := hb1
    have HD : Hid (_) := hD
    have DB : Hid (∀ j, 0 ≤ D j ∧ D j < 256) := by rw [hD]; exact sumD_bd _
    clear hb1 hs hD
    go_wp2_with (first
      | (refine isStore 54 (.tmp 5) (.tmp 13) rfl ?_; go_must (refine wpList_store_row rfl 54 (.tmp 5) (.tmp 13) rfl w1.heap.size _ rfl rfl 54 _ (heap_alloc_new _ _) (size28' _) (by simp only [tab8_size]) (tab8_one _ _) ?_; rw [World.setRow_alloc_new]; simp only [Act.put])))
    obtain ⟨G0, hGd⟩ : ∃ G, G = w1.heap.size := ⟨_, rfl⟩
    obtain ⟨V, hV⟩ : ∃ V, V = w1.alloc (.cells (tab8 32 D) 54) := ⟨_, rfl⟩
    have VG : V.heap[G0]? = some (.cells (tab8 32 D) 54) := by rw [hV, hGd]; exact heap_alloc_new _ _
    have VW : Hid (Below w.heap.size w V) := by rw [hV]; exact W1.out.alloc W1.out.size _
    have SB : Hid (SliceB V (.slice (some ⟨G0, 0, none⟩) 32 32) 32 D) := sliceB_row VG (by omega) fun j _ => DB.out j
    rw [← hV, ← hGd]
    clear hV hGd W1 VG z28
    have s32 := slice32
    go_wp2
    go_loopw [6, 7] (fun v i W => ∃ k : Nat, k ≤ 64 ∧ i = .int .i64 k ∧ W.ownsRow V.heap.size 5 1 v k (vals (firstL (xk (upto D 32) m) k)) ∧ Below V.heap.size V W) (fun _ i _ => 64 - (intOf i).toNat)
    case atStart => exact ⟨0, by omega, rfl, World.ownsRow_nil _ _ _ _, Below.refl _ _⟩
    case round =>
      obtain ⟨k, hk, rfl, own, bel⟩ := hrel
      have O : Hid (wr.ownsRow V.heap.size 5 1 _ k (vals (firstL (xk (upto D 32) m) k))) := own
      have G : Hid (Below V.heap.size V wr) := bel
      clear own bel
      by_cases hlt : k < 64
      · have i1 : (k : Int) < 64 := by omega
        by_cases hin : k < 32
        · have i2 : (k : Int) < 32 := by omega
          obtain ⟨b, off, ea, ck⟩ := SB.out.cell G.out k hin
          cases ea
          rw [Nat.zero_add] at ck
          have eF : Hid (bits .xor .u8 (D k) m = xk (upto D 32) m k) := by show bits .xor .u8 (D k) m = xk (upto D 32) m k; simp [xk, upto, hin]
          go_wp2_with (first
            | (refine isApp (.tmp 27) (.tmp 31) rfl ?_; go_must (refine wpList_app (l := firstL (xk (upto D 32) m) k) (r := [bits .xor .u8 (D k) m]) (w0 := V) rfl (.tmp 27) (.tmp 31) rfl rfl rfl (O.out.alloc _) rfl (src_one wr _) (by omega) (G.out.alloc G.out.size _) (by have := G.out.size; simp; omega) ?_; intro v6 w6 own6 bel6 sz6; rw [eF.out, firstL_succ] at own6; simp only [Act.put, List.setIfInBounds_toArray, List.set_cons_succ, List.set_cons_zero]; have O6 : Hid (w6.ownsRow V.heap.size 5 1 v6 (k + 1) (vals (firstL (xk (upto D 32) m) (k + 1)))) := own6; have G6 : Hid (Below V.heap.size V w6) := bel6; clear own6 bel6 sz6)))
          go_roundw
          case rel => exact ⟨k + 1, by omega, by go_num, O6.out, G6.out⟩
          case measure => simp [intOf]; omega
        · have i2 : ¬ (k : Int) < 32 := by omega
          have eF : Hid (bits .xor .u8 0 m = xk (upto D 32) m k) := by show bits .xor .u8 0 m = xk (upto D 32) m k; simp [xk, upto, hin]
          go_wp2_with (first
            | (refine isApp (.tmp 27) (.tmp 31) rfl ?_; go_must (refine wpList_app (l := firstL (xk (upto D 32) m) k) (r := [bits .xor .u8 0 m]) (w0 := V) rfl (.tmp 27) (.tmp 31) rfl rfl rfl (O.out.alloc _) rfl (src_one wr _) (by omega) (G.out.alloc G.out.size _) (by have := G.out.size; simp; omega) ?_; intro v6 w6 own6 bel6 sz6; rw [eF.out, firstL_succ] at own6; simp only [Act.put, List.setIfInBounds_toArray, List.set_cons_succ, List.set_cons_zero]; have O6 : Hid (w6.ownsRow V.heap.size 5 1 v6 (k + 1) (vals (firstL (xk (upto D 32) m) (k + 1)))) := own6; have G6 : Hid (Below V.heap.size V w6) := bel6; clear own6 bel6 sz6)))
          go_roundw
          case rel => exact ⟨k + 1, by omega, by go_num, O6.out, G6.out⟩
          case measure => simp [intOf]; omega
      · have hk64 : k = 64 := by omega
        subst hk64
        go_wp2
        go_ret
        refine ⟨_, rfl, ?_, VW.out.trans (G.out.mono VW.out.size)⟩
        have e : kB p len = upto D 32 := by unfold kB; rw [if_neg HLE.out, HD.out]
        rw [e]; exact O.out.mono VW.out.size
end Go.Proofs.YteekoabgbjbabaaGreatDoor

namespace Go.Proofs.YteekoabgbjbabaaGreatDoor
open Go.RowKit

/-- One list behind the other. -/
def cat (f : Nat → Int) (n : Nat) (g : Nat → Int) : Nat → Int := fun i => if i < n then f i else g (i - n)
theorem firstL_cat (f : Nat → Int) (n : Nat) (g : Nat → Int) (m : Nat) : firstL f n ++ firstL g m = firstL (cat f n g) (n + m) := by
  unfold firstL
  rw [List.range_add, List.map_append, List.map_map]
  congr 1
  · apply List.map_congr_left
    intro i hi
    simp [cat, List.mem_range.1 hi]
  · apply List.map_congr_left
    intro i _
    simp [cat]
    omega
theorem addN_cat (s : HS) (f : Nat → Int) (n : Nat) (g : Nat → Int) (m : Nat) : addN s (cat f n g) (n + m) = addN (addN s f n) g m := by
  rw [addN_add]
  have e1 : addN s (cat f n g) n = addN s f n := addN_congr s n fun i hi => by simp [cat, hi]
  have e2 : (fun i => cat f n g (n + i)) = g := by funext i; simp [cat]; omega
  rw [e1, e2]
theorem cat_bd {f g : Nat → Int} {n m : Nat} (hf : ∀ j, j < n → 0 ≤ f j ∧ f j < 256) (hg : ∀ j, j < m → 0 ≤ g j ∧ g j < 256) : ∀ j, j < n + m → 0 ≤ cat f n g j ∧ cat f n g j < 256 := by
  intro j hj
  unfold cat
  split
  · exact hf j (by assumption)
  · exact hg _ (by omega)
/-- What append asks of its source. -/
theorem src_of {W : World} {ao : Option Addr} {l c : Nat} {p : Nat → Int} (h : SliceB W (.slice ao l c) l p) (hn : ao = none → c = 0) :
    (ao = none ∧ l = 0 ∧ c = 0) ∨ ∃ ad, ao = some ad ∧ ∀ j u, (vals (firstL p l))[j]? = some u → W.cell? (ad.add j) = some u := by
  obtain ⟨⟨a', c', e, h1, _, h3⟩, _⟩ := h
  cases e
  cases ao with
  | none => exact Or.inl ⟨rfl, by have := hn rfl; omega, hn rfl⟩
  | some ad =>
    refine Or.inr ⟨ad, rfl, fun j u hu => ?_⟩
    have hj : j < l := by have := (List.getElem?_eq_some_iff.1 hu).1; simpa [vals, firstL] using this
    obtain ⟨b, off, e, _, hc⟩ := h3 (by omega)
    cases e
    rw [Addr.add_mid, hc j hj]
    rw [firstL_get hj] at hu
    exact hu

/-- What each of the first three operations of the second region yields. -/
def rtS (V : World) (vk : Value) (G : Nat) (f : Nat → Int) (j : Nat) (v : Value) (w : World) : Prop :=
  match j with
  | 0 => v = vk
  | 1 => w.ownsRow V.heap.size 5 1 v 64 (vals (firstL f 64))
  | _ => v = .slice (some ⟨G, 0, none⟩) 32 32
theorem rtS_mono (V : World) (vk : Value) (G : Nat) (f : Nat → Int) (j : Nat) (v : Value) (w w' : World) (h : rtS V vk G f j v w) (hb : Below w.heap.size w w') : rtS V vk G f j v w' := by
  match j, h with
  | 0, h => exact h
  | 1, h => exact own_below h hb
  | _ + 2, h => exact h

set_option maxRecDepth 20000 in
set_option maxHeartbeats 1000000 in
theorem rtag_any (vk vm : Value) (lk lm : Nat) (pk pm : Nat → Int) (w : World) (hk : lk + 200 ≤ 140737488355328) (hm : lm + 300 ≤ 140737488355328) (h1 : SliceB w vk lk pk) (h2 : SliceB w vm lm pm)
    (hn1 : ∀ cap, vk = .slice none lk cap → cap = 0) (hn2 : ∀ cap, vm = .slice none lm cap → cap = 0) :
    Calls Tryz.prog 63 #[vk, vm] w fun e w' => e = .returned (.agg (tab8 32 (tagV pk lk pm lm))) ∧ Below w.heap.size w w' := by
  obtain ⟨am, cm, rfl, hx⟩ := h2.shape
  clear hx
  have HK : Hid (_) := hk
  have HM : Hid (_) := hm
  have H1 : Hid (_) := h1
  have H2 : Hid (_) := h2
  have N1 : Hid (_) := hn1
  have N2 : Hid (am = none → cm = 0) := fun e => hn2 cm (by rw [e])
  clear hk hm h1 h2 hn1 hn2
  have z28 := zero28
  go_enter Tryz.func63, Tryz.ntmps63
  go_wp2_with fail
  have B0 : Hid (Below w.heap.size w (w.alloc (.cells (tab8 32 (fun _ => 0)) 54))) := (Below.refl _ _).alloc (Nat.le_refl _) _
  refine (rmasked_any vk lk pk 54 _ HK.out (H1.out.below B0.out) N1.out).mono ?_
  rintro e w1 ⟨v1, rfl, own1, hb1⟩
  have hsz : (w.alloc (.cells (tab8 32 (fun _ => 0)) 54)).heap.size = w.heap.size + 1 := by simp
  rw [hsz] at own1 hb1
  have O1 : Hid (w1.ownsRow (w.heap.size + 1) 5 1 v1 64 (vals (firstL (xk (kB pk lk) 54) 64))) := own1
  have B1 : Hid (Below (w.heap.size + 1) (w.alloc (.cells (tab8 32 (fun _ => 0)) 54)) w1) := hb1
  have S1 : Hid (w.heap.size + 1 ≤ w1.heap.size) := by have := hb1.size; rw [hsz] at this; exact this
  have W1 : Hid (Below w.heap.size w w1) := B0.out.trans (B1.out.mono (by omega))
  have M1 : Hid (SliceB w1 (.slice am lm cm) lm pm) := H2.out.below W1.out
  clear own1 hb1 hsz
  go_wp2_with (first
    | (refine isApp (.tmp 7) (.tmp 8) rfl ?_; go_must (refine wpList_appS (B := w.heap.size + 1) (l := firstL (xk (kB pk lk) 54) 64) (r := firstL pm lm) (w0 := w.alloc (.cells (tab8 32 (fun _ => 0)) 54)) rfl (.tmp 7) (.tmp 8) rfl rfl rfl O1.out (firstL_len _ _) (src_of M1.out N2.out) (by have := HM.out; omega) B1.out S1.out ?_; intro v2 w2 own2 bel2 sz2; rw [firstL_cat] at own2; simp only [Act.put, List.setIfInBounds_toArray, List.set_cons_succ, List.set_cons_zero]; have O2 : Hid (w2.ownsRow (w.heap.size + 1) 5 1 v2 (64 + lm) (vals (firstL (cat (xk (kB pk lk) 54) 64 pm) (64 + lm)))) := own2; have B2 : Hid (Below (w.heap.size + 1) (w.alloc (.cells (tab8 32 (fun _ => 0)) 54)) w2) := bel2; have S2 : Hid (w.heap.size + 1 ≤ w2.heap.size) := sz2; clear own2 bel2 sz2)))
  obtain ⟨D, hD⟩ : ∃ D, D = sumD (addN (inS pk lk) pm lm) := ⟨_, rfl⟩
  have hs := rsum_is v2 (64 + lm) (cat (xk (kB pk lk) 54) 64 pm) w2 (by have := HM.out; omega) (sliceB_own O2.out (cat_bd (fun _ _ => bits_bd _ _) H2.out.bytes)) (own_nil O2.out)
  rw [addN_cat] at hs
  have eD : sumD (addN (addN HS.new (xk (kB pk lk) 54) 64) pm lm) = D := by rw [hD]; rfl
  rw [eD] at hs
  refine hs.mono ?_
  rintro e w3 ⟨rfl, hb3⟩
  have B3 : Hid (Below (w.heap.size + 1) (w.alloc (.cells (tab8 32 (fun _ => 0)) 54)) w3) := B2.out.trans (hb3.mono S2.out)
  have HD : Hid (_) := hD
  have DB : Hid (∀ j, 0 ≤ D j ∧ D j < 256) := by rw [hD]; exact sumD_bd _
  have S3 : Hid (w.heap.size + 1 ≤ w3.heap.size) := Nat.le_trans S2.out hb3.size
  clear hs eD hD hb3 O1 B1 S1 W1 M1 O2 B2 S2
  go_wp2_with (first
    | (refine isStore 54 (.tmp 5) (.tmp 10) rfl ?_; go_must (refine wpList_store_row rfl 54 (.tmp 5) (.tmp 10) rfl w3.heap.size _ rfl rfl 54 _ (heap_alloc_new _ _) (size28' _) (by simp only [tab8_size]) (tab8_one _ _) ?_; rw [World.setRow_alloc_new]; simp only [Act.put])))
  obtain ⟨G, hGd⟩ : ∃ G, G = w3.heap.size := ⟨_, rfl⟩
  obtain ⟨V, hV⟩ : ∃ V, V = w3.alloc (.cells (tab8 32 D) 54) := ⟨_, rfl⟩
  have VG : Hid (V.heap[G]? = some (.cells (tab8 32 D) 54)) := by rw [hV, hGd]; exact heap_alloc_new _ _
  have VB : Hid (Below (w.heap.size + 1) (w.alloc (.cells (tab8 32 (fun _ => 0)) 54)) V) := by rw [hV]; exact B3.out.alloc S3.out _
  have V0 : Hid (V.heap[w.heap.size]? = some (.cells (tab8 32 (fun _ => 0)) 54)) := by rw [VB.out.block _ (by omega)]; exact heap_alloc_new _ _
  have VW : Hid (Below w.heap.size w V) := B0.out.trans (VB.out.mono (by omega))
  rw [← hV, ← hGd]
  clear hV hGd B3 S3 VB B0 z28
  have LG : G < V.heap.size := (Array.getElem?_eq_some_iff.1 VG.out).1
  have L0 : w.heap.size < V.heap.size := (Array.getElem?_eq_some_iff.1 V0.out).1
  refine wp_region_slotsL 3 [11, 12, 13] (rtS V vk G (xk (kB pk lk) 92)) (by kernel_rfl) (by kernel_rfl) (by kernel_rfl) (by decide) (rtS_mono _ _ _ _) rfl ?_ ?_
  · intro j hj x W hB hdep
    match j, hj with
    | 0, _ => exact stepV rfl rfl (execMove rfl) ⟨_, rfl, rfl, Below.refl _ _⟩
    | 1, _ =>
      have h0 : x 0 = vk := hdep _ rfl 0 rfl
      exact stepC rfl rfl (execCall2 Tryz.func78 (by kernel_rfl) (by kernel_rfl) rfl h0 rfl) (rmasked_any vk lk pk 92 W HK.out (H1.out.below (VW.out.trans (hB.mono VW.out.size))) N1.out) fun e w' ⟨u, h2, h3, h4⟩ => ⟨u, h2, _, rfl, h3.mono hB.size, h4⟩
    | 2, _ => exact stepV rfl rfl (execSlice rfl rfl (slice32 _ _)) ⟨_, rfl, rfl, Below.refl _ _⟩
  · intro x W hB hS
    have e0 : x 0 = vk := hS 0 (by omega)
    have o1 : W.ownsRow V.heap.size 5 1 (x 1) 64 (vals (firstL (xk (kB pk lk) 92) 64)) := hS 1 (by omega)
    have e2 : x 2 = .slice (some ⟨G, 0, none⟩) 32 32 := hS 2 (by omega)
    obtain ⟨y1, hy1⟩ : ∃ y, y = x 1 := ⟨_, rfl⟩
    rw [← hy1] at o1
    have gG : W.heap[G]? = some (.cells (tab8 32 D) 54) := by rw [hB.block _ LG]; exact VG.out
    have SG : SliceB W (.slice (some ⟨G, 0, none⟩) 32 32) 32 D := sliceB_row gG (by omega) fun j _ => DB.out j
    simp only [putL, List.drop_succ_cons, List.drop_zero, e0, e2, ← hy1, Act.put, List.setIfInBounds_toArray, List.set_cons_succ, List.set_cons_zero]
    have O1 : Hid (W.ownsRow V.heap.size 5 1 y1 64 (vals (firstL (xk (kB pk lk) 92) 64))) := o1
    have HS0 : Hid (SliceB W (.slice (some ⟨G, 0, none⟩) 32 32) 32 D) := SG
    have HBW : Hid (Below V.heap.size V W) := hB
    clear hS e0 e2 hy1 o1 SG gG hB
    go_wp2_with (first
      | (refine isApp (.tmp 12) (.tmp 13) rfl ?_; go_must (refine wpList_appS (B := V.heap.size) (l := firstL (xk (kB pk lk) 92) 64) (r := firstL D 32) (w0 := V) rfl (.tmp 12) (.tmp 13) rfl rfl rfl O1.out (firstL_len _ _) (src_of HS0.out (fun e => by cases e)) (by omega) HBW.out HBW.out.size ?_; intro v2 w2 own2 bel2 sz2; rw [firstL_cat] at own2; simp only [Act.put, List.setIfInBounds_toArray, List.set_cons_succ, List.set_cons_zero]; have O2 : Hid (w2.ownsRow V.heap.size 5 1 v2 (64 + 32) (vals (firstL (cat (xk (kB pk lk) 92) 64 D) (64 + 32)))) := own2; have B2 : Hid (Below V.heap.size V w2) := bel2; clear own2 bel2 sz2)))
    have hs := rsum_is v2 (64 + 32) (cat (xk (kB pk lk) 92) 64 D) w2 (by omega) (sliceB_own O2.out (cat_bd (fun _ _ => bits_bd _ _) (fun j _ => DB.out j))) (own_nil O2.out)
    rw [addN_cat] at hs
    have eT : sumD (addN (addN HS.new (xk (kB pk lk) 92) 64) D 32) = tagV pk lk pm lm := by rw [HD.out]; rfl
    rw [eT] at hs
    refine hs.mono ?_
    rintro e w3 ⟨rfl, hb3⟩
    have B3 : Below V.heap.size V w3 := B2.out.trans (hb3.mono B2.out.size)
    have R0 : Hid (w3.heap[w.heap.size]? = some (.cells (tab8 32 (fun _ => 0)) 54)) := by rw [B3.block _ L0]; exact V0.out
    have RW : Hid (Below w.heap.size w w3) := VW.out.trans (B3.mono VW.out.size)
    clear hs eT hb3 B3 B2 O2 O1 HS0 HBW VG V0 VW LG L0
    go_wp2_with (first
      | (refine isStore 54 (.tmp 4) (.tmp 15) rfl ?_; go_must (refine wpList_store_row rfl 54 (.tmp 4) (.tmp 15) rfl w.heap.size _ rfl rfl 54 _ R0.out (size28' _) (by simp only [tab8_size]) (tab8_one _ _) ?_)))
    refine bodyPost_ret (v := .agg (tab8 32 (tagV pk lk pm lm))) (results_cell_row Tryz.results63 _ _ w.heap.size 54 _ (0, 0) _ rfl (setRow_heap _ _ _ _ _ _ R0.out) Tryz.underlying54 rfl (size28' _)) rfl ⟨rfl, ?_⟩
    exact below_setRow RW.out (Nat.le_refl _) _

set_option maxHeartbeats 400000 in
theorem rextract_any (vk vm : Value) (lk lm : Nat) (pk pm : Nat → Int) (w : World) (hk : lk + 200 ≤ 140737488355328) (hm : lm + 300 ≤ 140737488355328) (h1 : SliceB w vk lk pk) (h2 : SliceB w vm lm pm)
    (hn1 : ∀ cap, vk = .slice none lk cap → cap = 0) (hn2 : ∀ cap, vm = .slice none lm cap → cap = 0) :
    Calls Tryz.prog 47 #[vk, vm] w fun e w' => e = .returned (.agg (tab8 32 (tagV pk lk pm lm))) ∧ Below w.heap.size w w' := by
  have HK : Hid (_) := hk
  have HM : Hid (_) := hm
  have H1 : Hid (_) := h1
  have H2 : Hid (_) := h2
  have N1 : Hid (_) := hn1
  have N2 : Hid (_) := hn2
  clear hk hm h1 h2 hn1 hn2
  have z28 := zero28
  go_enter Tryz.func47, Tryz.ntmps47
  go_wp2_with fail
  have B0 : Hid (Below w.heap.size w (w.alloc (.cells (tab8 32 (fun _ => 0)) 54))) := (Below.refl _ _).alloc (Nat.le_refl _) _
  refine (rtag_any vk vm lk lm pk pm _ HK.out HM.out (H1.out.below B0.out) (H2.out.below B0.out) N1.out N2.out).mono ?_
  rintro e w1 ⟨rfl, hb1⟩
  have B1 : Hid (Below (w.heap.size + 1) (w.alloc (.cells (tab8 32 (fun _ => 0)) 54)) w1) := by
    have hsz : (w.alloc (.cells (tab8 32 (fun _ => 0)) 54)).heap.size = w.heap.size + 1 := by simp
    rw [← hsz]; exact hb1
  have R0 : Hid (w1.heap[w.heap.size]? = some (.cells (tab8 32 (fun _ => 0)) 54)) := by rw [B1.out.block _ (by omega)]; exact heap_alloc_new _ _
  have W1 : Hid (Below w.heap.size w w1) := B0.out.trans (B1.out.mono (by omega))
  clear hb1 B0 B1 z28
  go_wp2_with (first
    | (refine isStore 54 (.tmp 4) (.tmp 7) rfl ?_; go_must (refine wpList_store_row rfl 54 (.tmp 4) (.tmp 7) rfl w.heap.size _ rfl rfl 54 _ R0.out (size28' _) (by simp only [tab8_size]) (tab8_one _ _) ?_)))
  refine bodyPost_ret (v := .agg (tab8 32 (tagV pk lk pm lm))) (results_cell_row Tryz.results47 _ _ w.heap.size 54 _ (0, 0) _ rfl (setRow_heap _ _ _ _ _ _ R0.out) Tryz.underlying54 rfl (size28' _)) rfl ⟨rfl, ?_⟩
  exact below_setRow W1.out (Nat.le_refl _) _
end Go.Proofs.YteekoabgbjbabaaGreatDoor

namespace Go.Proofs.YteekoabgbjbabaaGreatDoor
open Go.RowKit

theorem made8 (n : Nat) : madeCells (Value.int .u8 0).cells n = tab8 n (fun _ => 0) := by
  apply Array.ext_getElem?
  intro i
  by_cases h : i < n
  · rw [tab8_get n _ i h]; simp [madeCells, Value.cells, h, Nat.mod_one]
  · rw [Array.getElem?_eq_none (by simp [madeCells]; omega), Array.getElem?_eq_none (by rw [tab8_size]; omega)]
/-- append, and all that it leaves. -/
theorem wpList_appG {ops : Array Oper} {rest : List Oper} {o : Oper} {a : Act} {W : World} {Q : Exit → Act → World → Prop} {B n m c : Nat} {v : Value} {l r : List Int} {ao : Option Addr} (hgd : o.guard = none) (s x : Operand)
    (ho : o.op = .call { callee := .builtin .append, args := #[s, x], argTypes := #[24, 24] })
    (hs : a.eval s = v) (hx : a.eval x = .slice ao m c) (hown : W.ownsRow B 5 1 v n (vals l)) (hr : r.length = m)
    (hsrc : (ao = none ∧ m = 0 ∧ c = 0) ∨ ∃ ad, ao = some ad ∧ ∀ j u, (vals r)[j]? = some u → W.cell? (ad.add j) = some u)
    (hbig : n + m ≤ 140737488355328) (hB : B ≤ W.heap.size)
    (h : ∀ v' W', W'.ownsRow B 5 1 v' (n + m) (vals (l ++ r)) → W.grownBy W' v.ownBlock → wpList Tryz.prog ops Q rest (a.put o.dst v') W') : wpList Tryz.prog ops Q (o :: rest) a W := by
  obtain ⟨i, h1, h2, h3, h4⟩ := info5
  rcases hsrc with ⟨rfl, rfl, rfl⟩ | ⟨ad, rfl, hsrc⟩
  · obtain rfl : r = [] := List.eq_nil_of_length_eq_zero hr
    refine wpList_append_own_none hgd s x 24 ho B 5 i 1 Tryz.underlying24 h1 v n (vals l) hs hown hx ?_
    exact h v W (by simpa using hown) ⟨rfl, rfl, rfl, Nat.le_refl _, fun _ _ _ => rfl⟩
  · refine wpList_append_own W hgd s x 24 ho B 5 i (.int .u8 0) 1 1 Tryz.underlying24 h1 h2 h3 h4 rfl (by decide) v n (vals l) hs hown ad m c (vals r) hx (by rw [vals_len]; omega) hsrc (vals_one r) (by unfold maxLen; omega) (by omega) hB ?_
    intro v' W' hown' hg _
    rw [vals_append] at hown'
    exact h v' W' hown' hg
end Go.Proofs.YteekoabgbjbabaaGreatDoor

namespace Go.Proofs.YteekoabgbjbabaaGreatDoor
open Go.RowKit

/-- The chain of tags: T(i) behind i turns. -/
def tk (a b : HS) (pi : Nat → Int) (li : Nat) : Nat → Nat → Int
  | 0 => fun _ => 0
  | i + 1 => tagD (addN (addN (addN a (tk a b pi li i) (if i = 0 then 0 else 32)) pi li) (fun _ => ((i + 1 : Nat) : Int)) 1) b
/-- The expansion's bytes. -/
def eb (a b : HS) (pi : Nat → Int) (li : Nat) : Nat → Int := fun j => tk a b pi li (j / 32 + 1) (j % 32)
theorem tk_bd (a b : HS) (pi : Nat → Int) (li c : Nat) (j : Nat) : 0 ≤ tk a b pi li c j ∧ tk a b pi li c j < 256 := by
  cases c with
  | zero => exact ⟨by simp [tk], by simp [tk]⟩
  | succ c => exact sumD_bd _ j
theorem eb_bd (a b : HS) (pi : Nat → Int) (li : Nat) (j : Nat) : 0 ≤ eb a b pi li j ∧ eb a b pi li j < 256 := tk_bd a b pi li _ _
theorem eb_turn (a b : HS) (pi : Nat → Int) (li c h : Nat) (hh : h ≤ 32) : firstL (eb a b pi li) (32 * c) ++ firstL (tk a b pi li (c + 1)) h = firstL (eb a b pi li) (32 * c + h) := by
  rw [firstL_cat]
  refine firstL_congr fun i hi => ?_
  unfold cat
  split
  · rfl
  · unfold eb
    rw [show i / 32 = c by omega, show i % 32 = i - 32 * c by omega]
theorem eb_turn' (a b : HS) (pi : Nat → Int) (li c len h : Nat) (hl : len = 32 * c) (hh : h ≤ 32) : firstL (eb a b pi li) len ++ firstL (tk a b pi li (c + 1)) h = firstL (eb a b pi li) (len + h) := by
  rw [hl]; exact eb_turn a b pi li c h hh
def ls3 (x y z : Nat) : Nat → Nat
  | 0 => x
  | 1 => y
  | _ => z
def ps3 (p q r : Nat → Int) : Nat → Nat → Int
  | 0 => p
  | 1 => q
  | _ => r
def vs3 (p q r : Value) : Nat → Value
  | 0 => p
  | 1 => q
  | _ => r
theorem own_form {W : World} {B n : Nat} {v : Value} {xs : List Value} (h : W.ownsRow B 5 1 v n xs) : ∃ ao cap, v = .slice ao n cap := by
  rcases h.2 with ⟨e, e2⟩ | ⟨g, cap, cur, e, _⟩
  · exact ⟨none, 0, by rw [e, e2]⟩
  · exact ⟨_, _, e⟩
/-- A row of another type is no row of these. -/
theorem own_apart {W : World} {B n g : Nat} {v : Value} {xs : List Value} {cs : Array Value} {t : TypeId} (h : W.ownsRow B 5 1 v n xs) (hg : W.heap[g]? = some (.cells cs t)) (ht : t ≠ 5) : some g ≠ v.ownBlock := by
  rcases h.2 with ⟨rfl, _⟩ | ⟨g', cap, cur, rfl, _, hg', _⟩
  · simp [Value.ownBlock]
  · simp only [Value.ownBlock]
    intro e
    injection e with e
    subst e
    rw [hg] at hg'
    simp only [Option.some.injEq, Obj.cells.injEq] at hg'
    exact ht hg'.2.1
theorem sliceH (b h : Nat) (hh : h ≤ 32) (W : World) : (Instr.sliceAt 54 (.pointer (some ⟨b, 0, none⟩)) none (some (.int .i64 (h : Int))) none).run Tryz.prog W = .ok (.slice (some ⟨b, 0, none⟩) h 32) W := by
  simp [Instr.sliceAt, Instr.sureAddr, run_underlying Tryz.underlying54, Instr.sliceBounds, go_sem]
  intro h2
  omega
theorem sliceB_part {w : World} {g h : Nat} {f : Nat → Int} {t : TypeId} {fr : Nat × Nat} (hr : w.heap[g]? = some (.cells (tab8 32 f) t fr)) (hh : h ≤ 32) (hb : ∀ j, 0 ≤ f j ∧ f j < 256) : SliceB w (.slice (some ⟨g, 0, none⟩) h 32) h f := by
  refine ⟨⟨_, _, rfl, hh, by omega, fun _ => ⟨g, 0, rfl, (Array.getElem?_eq_some_iff.1 hr).1, fun j hj => ?_⟩⟩, fun j _ => hb j⟩
  rw [cell_of_row _ _ _ _ _ _ hr, Nat.zero_add]
  exact tab8_get 32 f j (by omega)

set_option maxRecDepth 20000 in
set_option maxHeartbeats 2000000 in
theorem expanded_any (a b : HS) (vi : Value) (li : Nat) (pi : Nat → Int) (n : Nat) (w : World) (hG : Glob w) (ha : a.ok) (hb : b.ok) (han : a.n = 64) (hbn : b.n = 64) (hli : li + 300 < 1152921504606846976) (hn : n ≤ 8160) (hi : SliceB w vi li pi) :
    Calls Tryz.prog 44 #[.agg (kc a b), vi, .int .i64 (n : Int)] w fun e w' => ∃ v', e = .returned v' ∧ w'.ownsRow w.heap.size 5 1 v' n (vals (firstL (eb a b pi li) n)) ∧ Below w.heap.size w w' := by
  obtain ⟨i5, hi1, hi2, hi3, hi4⟩ := info5
  obtain ⟨ai, ci, rfl, hx⟩ := hi.shape
  clear hx
  have HG : Hid (_) := hG
  have HA : Hid (_) := ha
  have HBo : Hid (_) := hb
  have HAn : Hid (_) := han
  have HBn : Hid (_) := hbn
  have HLI : Hid (_) := hli
  have HI : Hid (_) := hi
  have HNn : Hid (n ≤ 8160) := hn
  have I1 : Hid (_) := hi1
  have I2 : Hid (_) := hi2
  have I3 : Hid (_) := hi3
  have I4 : Hid (_) := hi4
  clear hG ha hb han hbn hli hi hn hi1 hi2 hi3 hi4
  go_enter Tryz.func44, Tryz.ntmps44
  have V0 : Hid ((w.alloc (.cells (kc a b) 75)).heap[w.heap.size]? = some (.cells (kc a b) 75)) := heap_alloc_new _ _
  have VB : Hid (Below w.heap.size w (w.alloc (.cells (kc a b) 75))) := (Below.refl _ _).alloc (Nat.le_refl _) _
  go_wp2_with (first
    | (refine isMake (.const (.int .i64 0)) (.tmp 11) rfl ?_; go_must (refine wpList_make_own (w.alloc (.cells (kc a b) 75)) rfl (.const (.int .i64 0)) (.tmp 11) 24 rfl (w.heap.size + 1) 5 i5 (.int .u8 0) 1 Tryz.underlying24 I1.out I2.out I3.out .i64 .i64 _ n rfl rfl (by first | rfl | omega | simp) (by rw [I4.out]; have := HNn.out; omega) (by have := HNn.out; unfold maxLen; omega) (by simp) ?_; intro w1 own1 grown1; simp only [Act.put, List.setIfInBounds_toArray, List.set_cons_succ, List.set_cons_zero]; have O1 : Hid (w1.ownsRow (w.heap.size + 1) 5 1 (.slice (some ⟨w.heap.size + 1, 0, none⟩) 0 n) 0 (vals [])) := (by have e : (w.alloc (.cells (kc a b) 75)).heap.size = w.heap.size + 1 := (by simp); rw [e] at own1; exact own1); have G1 : Hid (Below (w.heap.size + 1) (w.alloc (.cells (kc a b) 75)) w1) := (Below.refl _ _).grown grown1 (by simp) (fun k hk => by cases hk); have e1 : (w.alloc (.cells (kc a b) 75)).heap.size = w.heap.size + 1 := (by simp); rw [e1]; clear own1 grown1)))
  clear e1 I1 I2 I3 I4
  go_loopw [7, 8, 9] (fun v7 v8 v9 W => ∃ (c len : Nat) (a8 : Option Addr) (l8 c8 : Nat), v9 = .int .i64 ((c + 1 : Nat) : Int) ∧ ((len = 32 * c ∧ len ≤ n) ∨ (len = n ∧ n ≤ 32 * c)) ∧ v8 = .slice a8 l8 c8 ∧ l8 = (if c = 0 then 0 else 32) ∧ SliceB W (.slice a8 l8 c8) l8 (tk a b pi li c) ∧ W.ownsRow (w.heap.size + 1) 5 1 v7 len (vals (firstL (eb a b pi li) len)) ∧ Below (w.heap.size + 1) (w.alloc (.cells (kc a b) 75)) W) (fun v7 _ _ _ => n - lenOf v7)
  case atStart =>
    exact ⟨0, 0, none, 0, 0, rfl, Or.inl ⟨rfl, Nat.zero_le _⟩, rfl, rfl, ⟨⟨_, _, rfl, Nat.le_refl _, by omega, fun h => by omega⟩, fun j hj => by omega⟩, O1.out, G1.out⟩
  case round =>
    obtain ⟨c, len, a8, l8, c8, rfl, hlen, rfl, hl8, s8, own, bel⟩ := hrel
    obtain ⟨ao, cap, rfl⟩ := own_form own
    have O : Hid (wr.ownsRow (w.heap.size + 1) 5 1 (.slice ao len cap) len (vals (firstL (eb a b pi li) len))) := own
    have G : Hid (Below (w.heap.size + 1) (w.alloc (.cells (kc a b) 75)) wr) := bel
    have S8 : Hid (SliceB wr (.slice a8 l8 c8) l8 (tk a b pi li c)) := s8
    have HL8 : Hid (l8 = (if c = 0 then 0 else 32)) := hl8
    have HLN : Hid ((len = 32 * c ∧ len ≤ n) ∨ (len = n ∧ n ≤ 32 * c)) := hlen
    clear own bel s8 hl8 hlen O1 G1
    have BC : Hid (∀ W, Below (w.heap.size + 1) (w.alloc (.cells (kc a b) 75)) W → Below w.heap.size w W) := fun W h => VB.out.trans (h.mono (by omega))
    by_cases hlt : len < n
    · have i1 : (len : Int) < n := by omega
      have HC : Hid (len = 32 * c ∧ c < 255) := by
        have h1 := HLN.out
        have h2 := HNn.out
        show len = 32 * c ∧ c < 255
        omega
      have cvw : IntKind.u8.wrap ((c : Int) + 1) = (c : Int) + 1 := by have := HC.out.2; simp [IntKind.wrap, IntKind.bits, IntKind.signed]; omega
      have K0 : Hid (wr.heap[w.heap.size]? = some (.cells (kc a b) 75)) := by rw [G.out.block _ (by omega)]; exact V0.out
      go_wp2_with (first
        | (refine isLoad 75 (.tmp 3) rfl ?_; go_must (refine wpList_load_row rfl 75 (.tmp 3) rfl w.heap.size rfl 75 _ (0, 0) _ K0.out Tryz.underlying75 rfl (size52' _ _) ?_; simp only [Act.put, List.setIfInBounds_toArray, List.set_cons_succ, List.set_cons_zero])))
      have hz := heap2 wr (.cells #[.int .u8 ((c : Int) + 1)] 5) (.cells #[.slice a8 l8 c8, .slice ai li ci, .slice (some ⟨wr.heap.size, 0, none⟩) 1 1] 24)
      obtain ⟨X, hX⟩ : ∃ X, X = (wr.alloc (.cells #[.int .u8 ((c : Int) + 1)] 5)).alloc (.cells #[.slice a8 l8 c8, .slice ai li ci, .slice (some ⟨wr.heap.size, 0, none⟩) 1 1] 24) := ⟨_, rfl⟩
      rw [← hX] at hz
      have XB : Below wr.heap.size wr X := by rw [hX]; exact ((Below.refl _ _).alloc (Nat.le_refl _) _).alloc (by simp) _
      have XG : Below (w.heap.size + 1) (w.alloc (.cells (kc a b) 75)) X := G.out.trans (XB.mono (by have := G.out.size; simpa using this))
      have sC : SliceB X (.slice (some ⟨wr.heap.size, 0, none⟩) 1 1) 1 (fun _ => ((c + 1 : Nat) : Int)) := by
        refine ⟨⟨_, _, rfl, Nat.le_refl _, by omega, fun _ => ⟨_, _, rfl, (Array.getElem?_eq_some_iff.1 hz.1).1, fun j hj => ?_⟩⟩, fun j hj => ⟨by omega, by have := HC.out.2; omega⟩⟩
        obtain rfl : j = 0 := by omega
        rw [cell_of_row _ _ _ _ _ _ hz.1]
        simp
      have hp : Pieces X (.slice (some ⟨wr.heap.size + 1, 0, none⟩) 3 3) 3 (ls3 l8 li 1) (ps3 (tk a b pi li c) pi (fun _ => ((c + 1 : Nat) : Int))) :=
        ⟨wr.heap.size + 1, 0, 3, vs3 (.slice a8 l8 c8) (.slice ai li ci) (.slice (some ⟨wr.heap.size, 0, none⟩) 1 1), rfl, (Array.getElem?_eq_some_iff.1 hz.2).1, by omega, fun i hi => by
          have h3 : i = 0 ∨ i = 1 ∨ i = 2 := by omega
          rcases h3 with rfl | rfl | rfl
          · exact ⟨by rw [cell_of_row _ _ _ _ _ _ hz.2]; rfl, S8.out.below XB⟩
          · exact ⟨by rw [cell_of_row _ _ _ _ _ _ hz.2]; rfl, HI.out.below (BC.out _ XG)⟩
          · exact ⟨by rw [cell_of_row _ _ _ _ _ _ hz.2]; rfl, sC⟩⟩
      have eT : tagD (addAll a (ls3 l8 li 1) (ps3 (tk a b pi li c) pi (fun _ => ((c + 1 : Nat) : Int))) 3) b = tk a b pi li (c + 1) := by
        simp only [addAll, ls3, ps3, tk]
        rw [HL8.out]
      obtain ⟨D, hD⟩ : ∃ D, D = tk a b pi li (c + 1) := ⟨_, rfl⟩
      have hs := tag_any a b _ 3 _ _ X (HG.out.below (BC.out _ XG) HG.out.sz) HA.out HBo.out HBn.out (by rw [HAn.out]; simp only [totL, ls3]; have h1 := HLI.out; have h2 := HL8.out; split at h2 <;> omega) hp
      rw [eT, ← hD] at hs
      rw [← hX]
      refine hs.mono ?_
      rintro e w2 ⟨rfl, hb2⟩
      have O2 : Hid (w2.ownsRow (w.heap.size + 1) 5 1 (.slice ao len cap) len (vals (firstL (eb a b pi li) len))) := own_below (own_below O.out XB) hb2
      have G2 : Hid (Below (w.heap.size + 1) (w.alloc (.cells (kc a b) 75)) w2) := XG.trans (hb2.mono (by have := XG.size; simpa using this))
      have HD : Hid (_) := hD
      have DB : Hid (∀ j, 0 ≤ D j ∧ D j < 256) := by rw [hD]; exact tk_bd _ _ _ _ _
      clear hs eT hD hp sC hz XB XG hX hb2 O G S8 K0 cvw
      have z28 := zero28
      have s32 := slice32
      have wn : wrap64 ((n : Int) - (len : Int)) = (n : Int) - len := by have := HNn.out; simp [wrap64]; omega
      have wcn : wrap64 ((c : Int) + 1 + 1) = ((c + 1 + 1 : Nat) : Int) := by have := HC.out.2; simp [wrap64]; omega
      have WC : Hid (_) := wcn
      clear wcn
      by_cases hmin : n - len < 32
      · have m1 : (n : Int) - (len : Int) < 32 := by omega
        have HH : Hid (n - len ≤ 32) := by show n - len ≤ 32; omega
        have HHN : Hid (len + (n - len) = n ∧ 0 < n - len ∧ n - len < 32) := by show len + (n - len) = n ∧ 0 < n - len ∧ n - len < 32; omega
        have sh : ∀ (b : Nat) (W : World), (Instr.sliceAt 54 (.pointer (some ⟨b, 0, none⟩)) none (some (.int .i64 ((n : Int) - (len : Int)))) none).run Tryz.prog W = .ok (.slice (some ⟨b, 0, none⟩) (n - len) 32) W := fun b W => by
          have h := sliceH b (n - len) HH.out W
          rw [Int.natCast_sub (by omega)] at h
          exact h
        clear hmin
        go_wp2_with (first
          | (refine isStore 54 (.tmp 10) (.tmp 26) rfl ?_; go_must (refine wpList_store_row rfl 54 (.tmp 10) (.tmp 26) rfl w2.heap.size _ rfl rfl 54 _ (heap_alloc_new _ _) (size28' _) (by simp only [tab8_size]) (tab8_one _ _) ?_; rw [World.setRow_alloc_new]; simp only [Act.put]; obtain ⟨A, hA⟩ : ∃ G, G = w2.heap.size := ⟨_, rfl⟩; obtain ⟨V, hV⟩ : ∃ V, V = w2.alloc (.cells (tab8 32 D) 54) := ⟨_, rfl⟩; have VA : Hid (V.heap[A]? = some (.cells (tab8 32 D) 54)) := (by rw [hV, hA]; exact heap_alloc_new _ _); have O3 : Hid (V.ownsRow (w.heap.size + 1) 5 1 (.slice ao len cap) len (vals (firstL (eb a b pi li) len))) := (by rw [hV]; exact O2.out.alloc _); have G3 : Hid (Below (w.heap.size + 1) (w.alloc (.cells (kc a b) 75)) V) := (by rw [hV]; exact G2.out.alloc (by have := G2.out.size; simpa using this) _); rw [← hV, ← hA]; clear hV hA))
          | (refine isApp (.tmp 27) (.tmp 33) rfl ?_; go_must (refine wpList_appG (v := .slice ao len cap) (B := w.heap.size + 1) (l := firstL (eb a b pi li) len) (r := firstL D (n - len)) rfl (.tmp 27) (.tmp 33) rfl rfl rfl O3.out (firstL_len _ _) (src_of (sliceB_part VA.out HH.out DB.out) (fun e => by cases e)) (by have := HNn.out; have := HH.out; omega) (by have := G3.out.size; simpa using this) ?_; intro v5 w5 own5 gr5; rw [HD.out, eb_turn' _ _ _ _ _ _ _ HC.out.1 HH.out] at own5; simp only [Act.put, List.setIfInBounds_toArray, List.set_cons_succ, List.set_cons_zero]; have O5 : Hid (w5.ownsRow (w.heap.size + 1) 5 1 v5 (len + (n - len)) (vals (firstL (eb a b pi li) (len + (n - len))))) := own5; have G5 : Hid (Below (w.heap.size + 1) (w.alloc (.cells (kc a b) 75)) w5) := G3.out.grown gr5 (by have := G3.out.size; simpa using this) (fun k hk => (O3.out.lt k hk).1); have VA5 : Hid (w5.heap[A]? = some (.cells (tab8 32 D) 54)) := (by rw [gr5.block _ (Array.getElem?_eq_some_iff.1 VA.out).1 (own_apart O3.out VA.out (by decide))]; exact VA.out); clear own5 gr5)))
        obtain ⟨a5, cp5, hv5⟩ := own_form O5.out
        go_roundw
        case rel =>
          refine ⟨c + 1, len + (n - len), _, 32, 32, by rw [WC.out], ?_, rfl, by simp, ?_, O5.out, G5.out⟩
          · have h1 := HC.out; have h2 := HHN.out; omega
          · rw [← HD.out]; exact sliceB_row VA5.out (by omega) fun j _ => DB.out j
        case measure =>
          rw [hv5]
          simp only [lenOf]
          have h1 := HC.out; have h2 := HHN.out; omega
      · have m1 : ¬ (n : Int) - (len : Int) < 32 := by omega
        have HH : Hid (32 ≤ 32) := Nat.le_refl 32
        have HHN : Hid (len + 32 ≤ n) := by show len + 32 ≤ n; omega
        clear hmin
        go_wp2_with (first
          | (refine isStore 54 (.tmp 10) (.tmp 26) rfl ?_; go_must (refine wpList_store_row rfl 54 (.tmp 10) (.tmp 26) rfl w2.heap.size _ rfl rfl 54 _ (heap_alloc_new _ _) (size28' _) (by simp only [tab8_size]) (tab8_one _ _) ?_; rw [World.setRow_alloc_new]; simp only [Act.put]; obtain ⟨A, hA⟩ : ∃ G, G = w2.heap.size := ⟨_, rfl⟩; obtain ⟨V, hV⟩ : ∃ V, V = w2.alloc (.cells (tab8 32 D) 54) := ⟨_, rfl⟩; have VA : Hid (V.heap[A]? = some (.cells (tab8 32 D) 54)) := (by rw [hV, hA]; exact heap_alloc_new _ _); have O3 : Hid (V.ownsRow (w.heap.size + 1) 5 1 (.slice ao len cap) len (vals (firstL (eb a b pi li) len))) := (by rw [hV]; exact O2.out.alloc _); have G3 : Hid (Below (w.heap.size + 1) (w.alloc (.cells (kc a b) 75)) V) := (by rw [hV]; exact G2.out.alloc (by have := G2.out.size; simpa using this) _); rw [← hV, ← hA]; clear hV hA))
          | (refine isApp (.tmp 27) (.tmp 33) rfl ?_; go_must (refine wpList_appG (v := .slice ao len cap) (B := w.heap.size + 1) (l := firstL (eb a b pi li) len) (r := firstL D (32)) rfl (.tmp 27) (.tmp 33) rfl rfl rfl O3.out (firstL_len _ _) (src_of (sliceB_part VA.out HH.out DB.out) (fun e => by cases e)) (by have := HNn.out; have := HH.out; omega) (by have := G3.out.size; simpa using this) ?_; intro v5 w5 own5 gr5; rw [HD.out, eb_turn' _ _ _ _ _ _ _ HC.out.1 HH.out] at own5; simp only [Act.put, List.setIfInBounds_toArray, List.set_cons_succ, List.set_cons_zero]; have O5 : Hid (w5.ownsRow (w.heap.size + 1) 5 1 v5 (len + (32)) (vals (firstL (eb a b pi li) (len + (32))))) := own5; have G5 : Hid (Below (w.heap.size + 1) (w.alloc (.cells (kc a b) 75)) w5) := G3.out.grown gr5 (by have := G3.out.size; simpa using this) (fun k hk => (O3.out.lt k hk).1); have VA5 : Hid (w5.heap[A]? = some (.cells (tab8 32 D) 54)) := (by rw [gr5.block _ (Array.getElem?_eq_some_iff.1 VA.out).1 (own_apart O3.out VA.out (by decide))]; exact VA.out); clear own5 gr5)))
        obtain ⟨a5, cp5, hv5⟩ := own_form O5.out
        go_roundw
        case rel =>
          refine ⟨c + 1, len + (32), _, 32, 32, by rw [WC.out], ?_, rfl, by simp, ?_, O5.out, G5.out⟩
          · have h1 := HC.out; have h2 := HHN.out; omega
          · rw [← HD.out]; exact sliceB_row VA5.out (by omega) fun j _ => DB.out j
        case measure =>
          rw [hv5]
          simp only [lenOf]
          have h1 := HC.out; have h2 := HHN.out; omega
    · have eln : len = n := by have := HLN.out; omega
      subst eln
      go_wp2
      go_ret
      exact ⟨_, rfl, O.out.mono (by omega), BC.out _ G.out⟩
end Go.Proofs.YteekoabgbjbabaaGreatDoor
