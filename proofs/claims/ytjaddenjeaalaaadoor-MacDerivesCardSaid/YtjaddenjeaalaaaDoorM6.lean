import Derived.Test.YtjaddenjeaalaaaDoorM5
import Derived.Deep.Onto
namespace Go.Proofs.YtjaddenjeaalaaaDoor
open Go.RowKit

theorem firstL_succ (f : Nat → Int) (k : Nat) : firstL f k ++ [f k] = firstL f (k + 1) := by simp [firstL, List.range_succ]
theorem firstL_len (f : Nat → Int) (k : Nat) : (firstL f k).length = k := by simp [firstL]
theorem firstL_congr {f g : Nat → Int} {k : Nat} (h : ∀ i, i < k → f i = g i) : firstL f k = firstL g k := by
  unfold firstL
  apply List.map_congr_left
  intro i hi
  exact h i (List.mem_range.1 hi)
theorem firstL_get {f : Nat → Int} {k j : Nat} (h : j < k) : (vals (firstL f k))[j]? = some (.int .u8 (f j)) := by simp [vals, firstL, h]
/-- A row of one's own is a []byte. -/
theorem sliceB_own {W : World} {B n : Nat} {v : Value} {f : Nat → Int} (h : W.ownsRow B 5 1 v n (vals (firstL f n))) (hb : ∀ j, j < n → 0 ≤ f j ∧ f j < 256) : SliceB W v n f := by
  rcases h.2 with ⟨rfl, rfl⟩ | ⟨g, cap, cur, rfl, _, hg, h1, h2, h3, h4⟩
  · exact ⟨⟨none, 0, rfl, Nat.le_refl _, by omega, fun h0 => by omega⟩, hb⟩
  · refine ⟨⟨_, _, rfl, h1, by unfold maxLen at h2; omega, fun _ => ⟨g, 0, rfl, (Array.getElem?_eq_some_iff.1 hg).1, fun j hj => ?_⟩⟩, hb⟩
    rw [cell_of_row _ _ _ _ _ _ hg, Nat.zero_add]
    have e : (cur.toList.take (n * 1))[j]? = some (.int .u8 (f j)) := by rw [h4]; exact firstL_get hj
    rw [List.getElem?_take, if_pos (by omega)] at e
    simpa using e
theorem own_nil {W : World} {B n : Nat} {v : Value} {xs : List Value} (h : W.ownsRow B 5 1 v n xs) : ∀ cap, v = .slice none n cap → cap = 0 := by
  intro cap e
  rcases h.2 with ⟨rfl, _⟩ | ⟨g, cap', cur, rfl, _⟩
  · cases e; rfl
  · cases e
theorem own_below {W W' : World} {B n : Nat} {v : Value} {xs : List Value} (h : W.ownsRow B 5 1 v n xs) (hb : Below W.heap.size W W') : W'.ownsRow B 5 1 v n xs := by
  refine ⟨h.1, ?_⟩
  rcases h.2 with h0 | ⟨g, cap, cur, e, h1, hg, h2⟩
  · exact Or.inl h0
  · exact Or.inr ⟨g, cap, cur, e, h1, by rw [hb.block _ (Array.getElem?_eq_some_iff.1 hg).1]; exact hg, h2⟩
theorem xk_congr {f g : Nat → Int} {m : Int} {i : Nat} (h : f i = g i) : xk f m i = xk g m i := by unfold xk; rw [h]
/-- One cell of a []byte. -/
theorem SliceB.cell {w W : World} {a : Option Addr} {len cap : Nat} {p : Nat → Int} (h : SliceB w (.slice a len cap) len p) (hb : Below w.heap.size w W) (k : Nat) (hk : k < len) : ∃ b off, a = some ⟨b, off, none⟩ ∧ W.cell? ⟨b, off + k, none⟩ = some (.int .u8 (p k)) := by
  obtain ⟨⟨a', cap', e, _, _, e3⟩, _⟩ := h
  cases e
  obtain ⟨b, off, rfl, hl, hc⟩ := e3 (by omega)
  exact ⟨b, off, rfl, by rw [below_cell hb hl]; exact hc k hk⟩

set_option maxRecDepth 20000 in
set_option maxHeartbeats 1000000 in
theorem rmasked_any (v : Value) (len : Nat) (p : Nat → Int) (m : Int) (w : World) (hbig : len + 200 ≤ 140737488355328) (hv : SliceB w v len p) (hnil : ∀ cap, v = .slice none len cap → cap = 0) :
    Calls Tryd.prog 26 #[v, .int .u8 m] w fun e w' => ∃ v', e = .returned v' ∧ w'.ownsRow w.heap.size 5 1 v' 64 (vals (firstL (xk (kB p len) m) 64)) ∧ Below w.heap.size w w' := by
  obtain ⟨a0, cap0, rfl, hx⟩ := hv.shape
  clear hx
  have HB : Hid (_) := hbig
  have H0 : Hid (_) := hv
  have HN : Hid (_) := hnil
  clear hbig hv hnil
  by_cases hle : len ≤ 64
  · have i0 : ¬ (len : Int) > 64 := by omega
    have HLE : Hid (len ≤ 64) := hle
    clear hle
    go_enter Tryd.func26, Tryd.ntmps26
    go_wp2
    go_loopw [6, 7] (fun v i W => ∃ k : Nat, k ≤ 64 ∧ i = .int .i64 k ∧ W.ownsRow w.heap.size 5 1 v k (vals (firstL (xk (upto p len) m) k)) ∧ Below w.heap.size w W) (fun _ i _ => 64 - (intOf i).toNat)
    case atStart => exact ⟨0, by omega, rfl, World.ownsRow_nil _ _ _ _, Below.refl _ _⟩
    case round =>
      obtain ⟨k, hk, rfl, own, bel⟩ := hrel
      have O : Hid (wr.ownsRow w.heap.size 5 1 _ k (vals (firstL (xk (upto p len) m) k))) := own
      have G : Hid (Below w.heap.size w wr) := bel
      clear own bel
      by_cases hlt : k < 64
      · have i1 : (k : Int) < 64 := by omega
        by_cases hin : k < len
        · have i2 : (k : Int) < len := by omega
          obtain ⟨b, off, ea, ck⟩ := H0.out.cell G.out k hin
          subst ea
          have eF : Hid (bits .xor .u8 (p k) m = xk (upto p len) m k) := by show bits .xor .u8 (p k) m = xk (upto p len) m k; simp [xk, upto, hin]
          go_wp2_with (first
            | (refine isApp (.tmp 27) (.tmp 31) rfl ?_; go_must (refine wpList_app (l := firstL (xk (upto p len) m) k) (r := [bits .xor .u8 (p k) m]) (w0 := w) rfl (.tmp 27) (.tmp 31) rfl rfl rfl (O.out.alloc _) rfl (src_one wr _) (by omega) (G.out.alloc G.out.size _) (by have := G.out.size; simp; omega) ?_; intro v6 w6 own6 bel6 sz6; rw [eF.out, firstL_succ] at own6; simp only [Act.put, List.setIfInBounds_toArray, List.set_cons_succ, List.set_cons_zero]; have O6 : Hid (w6.ownsRow w.heap.size 5 1 v6 (k + 1) (vals (firstL (xk (upto p len) m) (k + 1)))) := own6; have G6 : Hid (Below w.heap.size w w6) := bel6; clear own6 bel6 sz6)))
          go_roundw
          case rel => exact ⟨k + 1, by omega, by go_num, O6.out, G6.out⟩
          case measure => simp [intOf]; omega
        · have i2 : ¬ (k : Int) < len := by omega
          have eF : Hid (bits .xor .u8 0 m = xk (upto p len) m k) := by show bits .xor .u8 0 m = xk (upto p len) m k; simp [xk, upto, hin]
          go_wp2_with (first
            | (refine isApp (.tmp 27) (.tmp 31) rfl ?_; go_must (refine wpList_app (l := firstL (xk (upto p len) m) k) (r := [bits .xor .u8 0 m]) (w0 := w) rfl (.tmp 27) (.tmp 31) rfl rfl rfl (O.out.alloc _) rfl (src_one wr _) (by omega) (G.out.alloc G.out.size _) (by have := G.out.size; simp; omega) ?_; intro v6 w6 own6 bel6 sz6; rw [eF.out, firstL_succ] at own6; simp only [Act.put, List.setIfInBounds_toArray, List.set_cons_succ, List.set_cons_zero]; have O6 : Hid (w6.ownsRow w.heap.size 5 1 v6 (k + 1) (vals (firstL (xk (upto p len) m) (k + 1)))) := own6; have G6 : Hid (Below w.heap.size w w6) := bel6; clear own6 bel6 sz6)))
          go_roundw
          case rel => exact ⟨k + 1, by omega, by go_num, O6.out, G6.out⟩
          case measure => simp [intOf]; omega
      · have hk64 : k = 64 := by omega
        subst hk64
        go_wp2
        go_ret
        refine ⟨_, rfl, ?_, G.out⟩
        have e : kB p len = upto p len := by unfold kB; rw [if_pos HLE.out]
        rw [e]; exact O.out
  · have i0 : (len : Int) > 64 := by omega
    have HLE : Hid (¬ len ≤ 64) := hle
    clear hle
    have z28 := zero28
    go_enter Tryd.func26, Tryd.ntmps26
    go_wp2_with fail
    obtain ⟨D, hD⟩ : ∃ D, D = sumD (addN HS.new p len) := ⟨_, rfl⟩
    have hs := rsum_is (.slice a0 len cap0) len p w (by have := HB.out; omega) H0.out HN.out
    rw [← hD] at hs
    refine hs.mono ?_
    rintro e w1 ⟨rfl, hb1⟩
    have W1 : Hid (Below w.heap.size w w1) := hb1
    have HD : Hid (_) := hD
    have DB : Hid (∀ j, 0 ≤ D j ∧ D j < 256) := by rw [hD]; exact sumD_bd _
    clear hb1 hs hD
    go_wp2_with (first
      | (refine isStore 25 (.tmp 5) (.tmp 13) rfl ?_; go_must (refine wpList_store_row rfl 25 (.tmp 5) (.tmp 13) rfl w1.heap.size _ rfl rfl 25 _ (heap_alloc_new _ _) (size28' _) (by simp only [tab8_size]) (tab8_one _ _) ?_; rw [World.setRow_alloc_new]; simp only [Act.put])))
    obtain ⟨G0, hGd⟩ : ∃ G, G = w1.heap.size := ⟨_, rfl⟩
    obtain ⟨V, hV⟩ : ∃ V, V = w1.alloc (.cells (tab8 32 D) 25) := ⟨_, rfl⟩
    have VG : V.heap[G0]? = some (.cells (tab8 32 D) 25) := by rw [hV, hGd]; exact heap_alloc_new _ _
    have VW : Hid (Below w.heap.size w V) := by rw [hV]; exact W1.out.alloc W1.out.size _
    have SB : Hid (SliceB V (.slice (some ⟨G0, 0, none⟩) 32 32) 32 D) := sliceB_row VG (by omega) fun j _ => DB.out j
    rw [← hV, ← hGd]
    clear hV hGd W1 VG z28
    have s32 := slice32
    go_wp2
    go_loopw [6, 7] (fun v i W => ∃ k : Nat, k ≤ 64 ∧ i = .int .i64 k ∧ W.ownsRow V.heap.size 5 1 v k (vals (firstL (xk (upto D 32) m) k)) ∧ Below V.heap.size V W) (fun _ i _ => 64 - (intOf i).toNat)
    case atStart => exact ⟨0, by omega, rfl, World.ownsRow_nil _ _ _ _, Below.refl _ _⟩
    case round =>
      obtain ⟨k, hk, rfl, own, bel⟩ := hrel
      have O : Hid (wr.ownsRow V.heap.size 5 1 _ k (vals (firstL (xk (upto D 32) m) k))) := own
      have G : Hid (Below V.heap.size V wr) := bel
      clear own bel
      by_cases hlt : k < 64
      · have i1 : (k : Int) < 64 := by omega
        by_cases hin : k < 32
        · have i2 : (k : Int) < 32 := by omega
          obtain ⟨b, off, ea, ck⟩ := SB.out.cell G.out k hin
          cases ea
          rw [Nat.zero_add] at ck
          have eF : Hid (bits .xor .u8 (D k) m = xk (upto D 32) m k) := by show bits .xor .u8 (D k) m = xk (upto D 32) m k; simp [xk, upto, hin]
          go_wp2_with (first
            | (refine isApp (.tmp 27) (.tmp 31) rfl ?_; go_must (refine wpList_app (l := firstL (xk (upto D 32) m) k) (r := [bits .xor .u8 (D k) m]) (w0 := V) rfl (.tmp 27) (.tmp 31) rfl rfl rfl (O.out.alloc _) rfl (src_one wr _) (by omega) (G.out.alloc G.out.size _) (by have := G.out.size; simp; omega) ?_; intro v6 w6 own6 bel6 sz6; rw [eF.out, firstL_succ] at own6; simp only [Act.put, List.setIfInBounds_toArray, List.set_cons_succ, List.set_cons_zero]; have O6 : Hid (w6.ownsRow V.heap.size 5 1 v6 (k + 1) (vals (firstL (xk (upto D 32) m) (k + 1)))) := own6; have G6 : Hid (Below V.heap.size V w6) := bel6; clear own6 bel6 sz6)))
          go_roundw
          case rel => exact ⟨k + 1, by omega, by go_num, O6.out, G6.out⟩
          case measure => simp [intOf]; omega
        · have i2 : ¬ (k : Int) < 32 := by omega
          have eF : Hid (bits .xor .u8 0 m = xk (upto D 32) m k) := by show bits .xor .u8 0 m = xk (upto D 32) m k; simp [xk, upto, hin]
          go_wp2_with (first
            | (refine isApp (.tmp 27) (.tmp 31) rfl ?_; go_must (refine wpList_app (l := firstL (xk (upto D 32) m) k) (r := [bits .xor .u8 0 m]) (w0 := V) rfl (.tmp 27) (.tmp 31) rfl rfl rfl (O.out.alloc _) rfl (src_one wr _) (by omega) (G.out.alloc G.out.size _) (by have := G.out.size; simp; omega) ?_; intro v6 w6 own6 bel6 sz6; rw [eF.out, firstL_succ] at own6; simp only [Act.put, List.setIfInBounds_toArray, List.set_cons_succ, List.set_cons_zero]; have O6 : Hid (w6.ownsRow V.heap.size 5 1 v6 (k + 1) (vals (firstL (xk (upto D 32) m) (k + 1)))) := own6; have G6 : Hid (Below V.heap.size V w6) := bel6; clear own6 bel6 sz6)))
          go_roundw
          case rel => exact ⟨k + 1, by omega, by go_num, O6.out, G6.out⟩
          case measure => simp [intOf]; omega
      · have hk64 : k = 64 := by omega
        subst hk64
        go_wp2
        go_ret
        refine ⟨_, rfl, ?_, VW.out.trans (G.out.mono VW.out.size)⟩
        have e : kB p len = upto D 32 := by unfold kB; rw [if_neg HLE.out, HD.out]
        rw [e]; exact O.out.mono VW.out.size
end Go.Proofs.YtjaddenjeaalaaaDoor
