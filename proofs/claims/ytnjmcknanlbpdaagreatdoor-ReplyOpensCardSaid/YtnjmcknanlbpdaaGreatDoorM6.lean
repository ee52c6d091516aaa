import Derived.Test.YtnjmcknanlbpdaaGreatDoorM4
import Derived.Deep.Onto
namespace Go.Proofs.YtnjmcknanlbpdaaGreatDoor
open Go.RowKit

/-- HMAC. -/
def tagV (pk : Nat → Int) (lk : Nat) (pm : Nat → Int) (lm : Nat) : Nat → Int := tagD (addN (inS pk lk) pm lm) (outS pk lk)

set_option maxHeartbeats 400000 in
theorem mtag_any (vk vm : Value) (lk lm : Nat) (pk pm : Nat → Int) (w : World) (hG : Glob w) (hk : lk < 1152921504606846976) (hm : lm + 64 < 1152921504606846976) (h1 : SliceB w vk lk pk) (h2 : SliceB w vm lm pm) :
    Calls Tryz.prog 52 #[vk, vm] w fun e w' => e = .returned (.agg (tab8 32 (tagV pk lk pm lm))) ∧ Below w.heap.size w w' := by
  obtain ⟨am, cm, rfl, hx⟩ := h2.shape
  clear hx
  have HG : Hid (_) := hG
  have HK : Hid (_) := hk
  have HM : Hid (_) := hm
  have H1 : Hid (_) := h1
  have H2 : Hid (_) := h2
  clear hG hk hm h1 h2
  have z28 := zero28
  go_enter Tryz.func52, Tryz.ntmps52
  go_wp2_with fail
  have B0 : Hid (Below w.heap.size w (w.alloc (.cells (tab8 32 (fun _ => 0)) 57))) := (Below.refl _ _).alloc (Nat.le_refl _) _
  refine (keyedBy_any vk lk pk _ (HG.out.below B0.out HG.out.sz) HK.out (H1.out.below B0.out)).mono ?_
  rintro e w1 ⟨rfl, hb1⟩
  have B1 : Hid (Below (w.heap.size + 1) (w.alloc (.cells (tab8 32 (fun _ => 0)) 57)) w1) := by
    have hsz : (w.alloc (.cells (tab8 32 (fun _ => 0)) 57)).heap.size = w.heap.size + 1 := by simp
    rw [← hsz]; exact hb1
  have R0 : Hid (w1.heap[w.heap.size]? = some (.cells (tab8 32 (fun _ => 0)) 57)) := by rw [B1.out.block _ (by omega)]; exact heap_alloc_new _ _
  have W1 : Hid (Below w.heap.size w w1) := B0.out.trans (B1.out.mono (by omega))
  clear hb1 B0 B1 z28
  go_wp2_with fail
  have wb : Below w.heap.size w (w1.alloc (.cells #[.slice am lm cm] 22)) := W1.out.alloc W1.out.size _
  have hp : Pieces (w1.alloc (.cells #[.slice am lm cm] 22)) (.slice (some ⟨w1.heap.size, 0, none⟩) 1 1) 1 (fun _ => lm) (fun _ => pm) :=
    ⟨w1.heap.size, 0, 1, fun _ => .slice am lm cm, rfl, by simp, by omega, fun i hi => by
      obtain rfl : i = 0 := by omega
      exact ⟨by rw [cell_of_row _ _ _ _ _ _ (heap_alloc_new w1 _)]; rfl, H2.out.below wb⟩⟩
  refine (tag_any (inS pk lk) (outS pk lk) _ 1 (fun _ => lm) (fun _ => pm) _ (HG.out.below wb HG.out.sz) (ok_inS _ _) (ok_outS _ _) (outS_n _ _) (by rw [inS_n]; have := HM.out; simp only [totL]; omega) hp).mono ?_
  rintro e w2 ⟨rfl, hb2⟩
  have sz : w.heap.size < w1.heap.size := (Array.getElem?_eq_some_iff.1 R0.out).1
  have R1 : Hid (w2.heap[w.heap.size]? = some (.cells (tab8 32 (fun _ => 0)) 57)) := by
    rw [hb2.block _ (by simp; omega), Below.heap_alloc _ _ _ sz]; exact R0.out
  have W2 : Hid (Below w.heap.size w w2) := wb.trans (hb2.mono wb.size)
  clear hb2 hp wb sz R0 W1
  go_wp2_with (first
    | (refine isStore 57 (.tmp 4) (.tmp 9) rfl ?_; go_must (refine wpList_store_row rfl 57 (.tmp 4) (.tmp 9) rfl w.heap.size _ rfl rfl 57 _ R1.out (size28' _) (by simp only [tab8_size]) (tab8_one _ _) ?_)))
  refine bodyPost_ret (v := .agg (tab8 32 (tagV pk lk pm lm))) (results_cell_row Tryz.results52 _ _ w.heap.size 57 _ (0, 0) _ rfl (setRow_heap _ _ _ _ _ _ R1.out) Tryz.underlying57 rfl (size28' _)) rfl ⟨rfl, ?_⟩
  exact below_setRow W2.out (Nat.le_refl _) _

set_option maxHeartbeats 400000 in
theorem mextract_any (vk vm : Value) (lk lm : Nat) (pk pm : Nat → Int) (w : World) (hG : Glob w) (hk : lk < 1152921504606846976) (hm : lm + 64 < 1152921504606846976) (h1 : SliceB w vk lk pk) (h2 : SliceB w vm lm pm) :
    Calls Tryz.prog 30 #[vk, vm] w fun e w' => e = .returned (.agg (tab8 32 (tagV pk lk pm lm))) ∧ Below w.heap.size w w' := by
  have HG : Hid (_) := hG
  have HK : Hid (_) := hk
  have HM : Hid (_) := hm
  have H1 : Hid (_) := h1
  have H2 : Hid (_) := h2
  clear hG hk hm h1 h2
  have z28 := zero28
  go_enter Tryz.func30, Tryz.ntmps30
  go_wp2_with fail
  have B0 : Hid (Below w.heap.size w (w.alloc (.cells (tab8 32 (fun _ => 0)) 57))) := (Below.refl _ _).alloc (Nat.le_refl _) _
  refine (mtag_any vk vm lk lm pk pm _ (HG.out.below B0.out HG.out.sz) HK.out HM.out (H1.out.below B0.out) (H2.out.below B0.out)).mono ?_
  rintro e w1 ⟨rfl, hb1⟩
  have B1 : Hid (Below (w.heap.size + 1) (w.alloc (.cells (tab8 32 (fun _ => 0)) 57)) w1) := by
    have hsz : (w.alloc (.cells (tab8 32 (fun _ => 0)) 57)).heap.size = w.heap.size + 1 := by simp
    rw [← hsz]; exact hb1
  have R0 : Hid (w1.heap[w.heap.size]? = some (.cells (tab8 32 (fun _ => 0)) 57)) := by rw [B1.out.block _ (by omega)]; exact heap_alloc_new _ _
  have W1 : Hid (Below w.heap.size w w1) := B0.out.trans (B1.out.mono (by omega))
  clear hb1 B0 B1 z28
  go_wp2_with (first
    | (refine isStore 57 (.tmp 4) (.tmp 7) rfl ?_; go_must (refine wpList_store_row rfl 57 (.tmp 4) (.tmp 7) rfl w.heap.size _ rfl rfl 57 _ R0.out (size28' _) (by simp only [tab8_size]) (tab8_one _ _) ?_)))
  refine bodyPost_ret (v := .agg (tab8 32 (tagV pk lk pm lm))) (results_cell_row Tryz.results30 _ _ w.heap.size 57 _ (0, 0) _ rfl (setRow_heap _ _ _ _ _ _ R0.out) Tryz.underlying57 rfl (size28' _)) rfl ⟨rfl, ?_⟩
  exact below_setRow W1.out (Nat.le_refl _) _

/-- The bytes as a string. -/
def strP (p : Nat → Int) (l : Nat) : ByteArray := strOfNums (firstL p l)
theorem conv_strP {w : World} {v : Value} {l : Nat} {p : Nat → Int} (h : SliceB w v l p) : (convert 22 9 v).run Tryz.prog w = .ok (.string (strP p l)) w := conv_str h

theorem bequal_any (vk vm : Value) (lk lm : Nat) (pk pm : Nat → Int) (w : World) (h1 : SliceB w vk lk pk) (h2 : SliceB w vm lm pm) :
    Calls Tryz.prog 89 #[vk, vm] w fun e w' => e = .returned (.bool ((strP pk lk).toList == (strP pm lm).toList)) ∧ w' = w := by
  have c1 := conv_strP h1
  have c2 := conv_strP h2
  clear h1 h2
  go_enter Tryz.func89, Tryz.ntmps89
  go_wp2
  go_ret
  exact ⟨rfl, rfl⟩
theorem mequal_any (vk vm : Value) (lk lm : Nat) (pk pm : Nat → Int) (w : World) (h1 : SliceB w vk lk pk) (h2 : SliceB w vm lm pm) :
    Calls Tryz.prog 75 #[vk, vm] w fun e w' => e = .returned (.bool ((strP pk lk).toList == (strP pm lm).toList)) ∧ w' = w := by
  have H1 : Hid (_) := h1
  have H2 : Hid (_) := h2
  clear h1 h2
  go_enter Tryz.func75, Tryz.ntmps75
  go_wp2_with fail
  refine (bequal_any vk vm lk lm pk pm _ H1.out H2.out).mono ?_
  rintro e w1 ⟨rfl, rfl⟩
  go_wp2
  go_ret
  exact ⟨rfl, rfl⟩
end Go.Proofs.YtnjmcknanlbpdaaGreatDoor

namespace Go.Proofs.YtnjmcknanlbpdaaGreatDoor
open Go.RowKit

theorem firstL_succ (f : Nat → Int) (k : Nat) : firstL f k ++ [f k] = firstL f (k + 1) := by simp [firstL, List.range_succ]
theorem firstL_len (f : Nat → Int) (k : Nat) : (firstL f k).length = k := by simp [firstL]
theorem firstL_congr {f g : Nat → Int} {k : Nat} (h : ∀ i, i < k → f i = g i) : firstL f k = firstL g k := by
  unfold firstL
  apply List.map_congr_left
  intro i hi
  exact h i (List.mem_range.1 hi)
theorem firstL_get {f : Nat → Int} {k j : Nat} (h : j < k) : (vals (firstL f k))[j]? = some (.int .u8 (f j)) := by simp [vals, firstL, h]
/-- A row of one's own is a []byte. -/
theorem sliceB_own {W : World} {B n : Nat} {v : Value} {f : Nat → Int} (h : W.ownsRow B 5 1 v n (vals (firstL f n))) (hb : ∀ j, j < n → 0 ≤ f j ∧ f j < 256) : SliceB W v n f := by
  rcases h.2 with ⟨rfl, rfl⟩ | ⟨g, cap, cur, rfl, _, hg, h1, h2, h3, h4⟩
  · exact ⟨⟨none, 0, rfl, Nat.le_refl _, by omega, fun h0 => by omega⟩, hb⟩
  · refine ⟨⟨_, _, rfl, h1, by unfold maxLen at h2; omega, fun _ => ⟨g, 0, rfl, (Array.getElem?_eq_some_iff.1 hg).1, fun j hj => ?_⟩⟩, hb⟩
    rw [cell_of_row _ _ _ _ _ _ hg, Nat.zero_add]
    have e : (cur.toList.take (n * 1))[j]? = some (.int .u8 (f j)) := by rw [h4]; exact firstL_get hj
    rw [List.getElem?_take, if_pos (by omega)] at e
    simpa using e
theorem own_nil {W : World} {B n : Nat} {v : Value} {xs : List Value} (h : W.ownsRow B 5 1 v n xs) : ∀ cap, v = .slice none n cap → cap = 0 := by
  intro cap e
  rcases h.2 with ⟨rfl, _⟩ | ⟨g, cap', cur, rfl, _⟩
  · cases e; rfl
  · cases e
theorem own_below {W W' : World} {B n : Nat} {v : Value} {xs : List Value} (h : W.ownsRow B 5 1 v n xs) (hb : Below W.heap.size W W') : W'.ownsRow B 5 1 v n xs := by
  refine ⟨h.1, ?_⟩
  rcases h.2 with h0 | ⟨g, cap, cur, e, h1, hg, h2⟩
  · exact Or.inl h0
  · exact Or.inr ⟨g, cap, cur, e, h1, by rw [hb.block _ (Array.getElem?_eq_some_iff.1 hg).1]; exact hg, h2⟩
/-- One cell of a []byte. -/
theorem SliceB.cell {w W : World} {a : Option Addr} {len cap : Nat} {p : Nat → Int} (h : SliceB w (.slice a len cap) len p) (hb : Below w.heap.size w W) (k : Nat) (hk : k < len) : ∃ b off, a = some ⟨b, off, none⟩ ∧ W.cell? ⟨b, off + k, none⟩ = some (.int .u8 (p k)) := by
  obtain ⟨⟨a', cap', e, _, _, e3⟩, _⟩ := h
  cases e
  obtain ⟨b, off, rfl, hl, hc⟩ := e3 (by omega)
  exact ⟨b, off, rfl, by rw [below_cell hb hl]; exact hc k hk⟩

set_option maxRecDepth 20000 in
set_option maxHeartbeats 1000000 in
theorem rmasked_any (v : Value) (len : Nat) (p : Nat → Int) (m : Int) (w : World) (hbig : len + 200 ≤ 140737488355328) (hv : SliceB w v len p) (hnil : ∀ cap, v = .slice none len cap → cap = 0) :
    Calls Tryz.prog 64 #[v, .int .u8 m] w fun e w' => ∃ v', e = .returned v' ∧ w'.ownsRow w.heap.size 5 1 v' 64 (vals (firstL (xk (kB p len) m) 64)) ∧ Below w.heap.size w w' := by
  obtain ⟨a0, cap0, rfl, hx⟩ := hv.shape
  clear hx
  have HB : Hid (_) := hbig
  have H0 : Hid (_) := hv
  have HN : Hid (_) := hnil
  clear hbig hv hnil
  by_cases hle : len ≤ 64
  · have i0 : ¬ (len : Int) > 64 := by omega
    have HLE : Hid (len ≤ 64) := hle
    clear hle
    go_enter Tryz.func64, Tryz.ntmps64
    go_wp2
    go_loopw [6, 7] (fun v i W => ∃ k : Nat, k ≤ 64 ∧ i = .int .i64 k ∧ W.ownsRow w.heap.size 5 1 v k (vals (firstL (xk (upto p len) m) k)) ∧ Below w.heap.size w W) (fun _ i _ => 64 - (intOf i).toNat)
    case atStart => exact ⟨0, by omega, rfl, World.ownsRow_nil _ _ _ _, Below.refl _ _⟩
    case round =>
      obtain ⟨k, hk, rfl, own, bel⟩ := hrel
      have O : Hid (wr.ownsRow w.heap.size 5 1 _ k (vals (firstL (xk (upto p len) m) k))) := own
      have G : Hid (Below w.heap.size w wr) := bel
      clear own bel
      by_cases hlt : k < 64
      · have i1 : (k : Int) < 64 := by omega
        by_cases hin : k < len
        · have i2 : (k : Int) < len := by omega
          obtain ⟨b, off, ea, ck⟩ := H0.out.cell G.out k hin
          subst ea
          have eF : Hid (bits .xor .u8 (p k) m = xk (upto p len) m k) := by show bits .xor .u8 (p k) m = xk (upto p len) m k; simp [xk, upto, hin]
          go_wp2_with (first
            | (refine isApp (.tmp 27) (.tmp 31) rfl ?_; go_must (refine wpList_app (l := firstL (xk (upto p len) m) k) (r := [bits .xor .u8 (p k) m]) (w0 := w) rfl (.tmp 27) (.tmp 31) rfl rfl rfl (O.out.alloc _) rfl (src_one wr _) (by omega) (G.out.alloc G.out.size _) (by have := G.out.size; simp; omega) ?_; intro v6 w6 own6 bel6 sz6; rw [eF.out, firstL_succ] at own6; simp only [Act.put, List.setIfInBounds_toArray, List.set_cons_succ, List.set_cons_zero]; have O6 : Hid (w6.ownsRow w.heap.size 5 1 v6 (k + 1) (vals (firstL (xk (upto p len) m) (k + 1)))) := own6; have G6 : Hid (Below w.heap.size w w6) := bel6; clear own6 bel6 sz6)))
          go_roundw
          case rel => exact ⟨k + 1, by omega, by go_num, O6.out, G6.out⟩
          case measure => simp [intOf]; omega
        · have i2 : ¬ (k : Int) < len := by omega
          have eF : Hid (bits .xor .u8 0 m = xk (upto p len) m k) := by show bits .xor .u8 0 m = xk (upto p len) m k; simp [xk, upto, hin]
          go_wp2_with (first
            | (refine isApp (.tmp 27) (.tmp 31) rfl ?_; go_must (refine wpList_app (l := firstL (xk (upto p len) m) k) (r := [bits .xor .u8 0 m]) (w0 := w) rfl (.tmp 27) (.tmp 31) rfl rfl rfl (O.out.alloc _) rfl (src_one wr _) (by omega) (G.out.alloc G.out.size _) (by have := G.out.size; simp; omega) ?_; intro v6 w6 own6 bel6 sz6; rw [eF.out, firstL_succ] at own6; simp only [Act.put, List.setIfInBounds_toArray, List.set_cons_succ, List.set_cons_zero]; have O6 : Hid (w6.ownsRow w.heap.size 5 1 v6 (k + 1) (vals (firstL (xk (upto p len) m) (k + 1)))) := own6; have G6 : Hid (Below w.heap.size w w6) := bel6; clear own6 bel6 sz6)))
          go_roundw
          case rel => exact ⟨k + 1, by omega, by go_num, O6.out, G6.out⟩
          case measure => simp [intOf]; omega
      · have hk64 : k = 64 := by omega
        subst hk64
        go_wp2
        go_ret
        refine ⟨_, rfl, ?_, G.out⟩
        have e : kB p len = upto p len := by unfold kB; rw [if_pos HLE.out]
        rw [e]; exact O.out
  · have i0 : (len : Int) > 64 := by omega
    have HLE : Hid (¬ len ≤ 64) := hle
    clear hle
    have z28 := zero28
    go_enter Tryz.func64, Tryz.ntmps64
    go_wp2_with fail
    obtain ⟨D, hD⟩ : ∃ D, D = sumD (addN HS.new p len) := ⟨_, rfl⟩
    have hs := rsum_is (.slice a0 len cap0) len p w (by have := HB.out; omega) H0.out HN.out
    rw [← hD] at hs
    refine hs.mono ?_
    rintro e w1 ⟨rfl, hb1⟩
    have W1 : Hid (Below w.heap.size w w1) := hb1
    have HD : Hid (_) := hD
    have DB : Hid (∀ j, 0 ≤ D j ∧ D j < 256) := by rw [hD]; exact sumD_bd _
    clear hb1 hs hD
    go_wp2_with (first
      | (refine isStore 57 (.tmp 5) (.tmp 13) rfl ?_; go_must (refine wpList_store_row rfl 57 (.tmp 5) (.tmp 13) rfl w1.heap.size _ rfl rfl 57 _ (heap_alloc_new _ _) (size28' _) (by simp only [tab8_size]) (tab8_one _ _) ?_; rw [World.setRow_alloc_new]; simp only [Act.put])))
    obtain ⟨G0, hGd⟩ : ∃ G, G = w1.heap.size := ⟨_, rfl⟩
    obtain ⟨V, hV⟩ : ∃ V, V = w1.alloc (.cells (tab8 32 D) 57) := ⟨_, rfl⟩
    have VG : V.heap[G0]? = some (.cells (tab8 32 D) 57) := by rw [hV, hGd]; exact heap_alloc_new _ _
    have VW : Hid (Below w.heap.size w V) := by rw [hV]; exact W1.out.alloc W1.out.size _
    have SB : Hid (SliceB V (.slice (some ⟨G0, 0, none⟩) 32 32) 32 D) := sliceB_row VG (by omega) fun j _ => DB.out j
    rw [← hV, ← hGd]
    clear hV hGd W1 VG z28
    have s32 := slice32
    go_wp2
    go_loopw [6, 7] (fun v i W => ∃ k : Nat, k ≤ 64 ∧ i = .int .i64 k ∧ W.ownsRow V.heap.size 5 1 v k (vals (firstL (xk (upto D 32) m) k)) ∧ Below V.heap.size V W) (fun _ i _ => 64 - (intOf i).toNat)
    case atStart => exact ⟨0, by omega, rfl, World.ownsRow_nil _ _ _ _, Below.refl _ _⟩
    case round =>
      obtain ⟨k, hk, rfl, own, bel⟩ := hrel
      have O : Hid (wr.ownsRow V.heap.size 5 1 _ k (vals (firstL (xk (upto D 32) m) k))) := own
      have G : Hid (Below V.heap.size V wr) := bel
      clear own bel
      by_cases hlt : k < 64
      · have i1 : (k : Int) < 64 := by omega
        by_cases hin : k < 32
        · have i2 : (k : Int) < 32 := by omega
          obtain ⟨b, off, ea, ck⟩ := SB.out.cell G.out k hin
          cases ea
          rw [Nat.zero_add] at ck
          have eF : Hid (bits .xor .u8 (D k) m = xk (upto D 32) m k) := by show bits .xor .u8 (D k) m = xk (upto D 32) m k; simp [xk, upto, hin]
          go_wp2_with (first
            | (refine isApp (.tmp 27) (.tmp 31) rfl ?_; go_must (refine wpList_app (l := firstL (xk (upto D 32) m) k) (r := [bits .xor .u8 (D k) m]) (w0 := V) rfl (.tmp 27) (.tmp 31) rfl rfl rfl (O.out.alloc _) rfl (src_one wr _) (by omega) (G.out.alloc G.out.size _) (by have := G.out.size; simp; omega) ?_; intro v6 w6 own6 bel6 sz6; rw [eF.out, firstL_succ] at own6; simp only [Act.put, List.setIfInBounds_toArray, List.set_cons_succ, List.set_cons_zero]; have O6 : Hid (w6.ownsRow V.heap.size 5 1 v6 (k + 1) (vals (firstL (xk (upto D 32) m) (k + 1)))) := own6; have G6 : Hid (Below V.heap.size V w6) := bel6; clear own6 bel6 sz6)))
          go_roundw
          case rel => exact ⟨k + 1, by omega, by go_num, O6.out, G6.out⟩
          case measure => simp [intOf]; omega
        · have i2 : ¬ (k : Int) < 32 := by omega
          have eF : Hid (bits .xor .u8 0 m = xk (upto D 32) m k) := by show bits .xor .u8 0 m = xk (upto D 32) m k; simp [xk, upto, hin]
          go_wp2_with (first
            | (refine isApp (.tmp 27) (.tmp 31) rfl ?_; go_must (refine wpList_app (l := firstL (xk (upto D 32) m) k) (r := [bits .xor .u8 0 m]) (w0 := V) rfl (.tmp 27) (.tmp 31) rfl rfl rfl (O.out.alloc _) rfl (src_one wr _) (by omega) (G.out.alloc G.out.size _) (by have := G.out.size; simp; omega) ?_; intro v6 w6 own6 bel6 sz6; rw [eF.out, firstL_succ] at own6; simp only [Act.put, List.setIfInBounds_toArray, List.set_cons_succ, List.set_cons_zero]; have O6 : Hid (w6.ownsRow V.heap.size 5 1 v6 (k + 1) (vals (firstL (xk (upto D 32) m) (k + 1)))) := own6; have G6 : Hid (Below V.heap.size V w6) := bel6; clear own6 bel6 sz6)))
          go_roundw
          case rel => exact ⟨k + 1, by omega, by go_num, O6.out, G6.out⟩
          case measure => simp [intOf]; omega
      · have hk64 : k = 64 := by omega
        subst hk64
        go_wp2
        go_ret
        refine ⟨_, rfl, ?_, VW.out.trans (G.out.mono VW.out.size)⟩
        have e : kB p len = upto D 32 := by unfold kB; rw [if_neg HLE.out, HD.out]
        rw [e]; exact O.out.mono VW.out.size
end Go.Proofs.YtnjmcknanlbpdaaGreatDoor
