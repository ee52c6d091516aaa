import Derived.Test.YtjaddenjeaalaaaDoorQ3
namespace Go.Proofs.YtjaddenjeaalaaaDoor
open Go.RowKit

/-- The rows while they are being marked: those ahead of k hold their number; of row k the first m bytes. -/
def mkF (f : Nat → Nat → Int) (k m t : Nat) : Nat → Int := fun j => if t < k then ((t : Int) + 1) else if t = k ∧ j < m then ((t : Int) + 1) else f t j
theorem mkF_next (f : Nat → Nat → Int) (k n t : Nat) : tab8 n (mkF f k n t) = tab8 n (mkF f (k + 1) 0 t) := tab8_congr fun j hj => by
  unfold mkF
  by_cases h1 : t < k
  · rw [if_pos h1, if_pos (by omega)]
  · by_cases h2 : t = k
    · subst h2
      rw [if_neg h1, if_pos ⟨rfl, hj⟩, if_pos (by omega)]
    · rw [if_neg h1, if_neg (by omega), if_neg (by omega), if_neg (by omega)]
theorem mkF_step (f : Nat → Nat → Int) (k m : Nat) : upd (mkF f k m k) m ((k : Int) + 1) = mkF f k (m + 1) k := by
  funext j
  simp only [upd, mkF]
  by_cases h : j = m
  · subst h; simp
  · by_cases h2 : j < m
    · simp [h, h2, show j < m + 1 by omega]
    · simp [h, h2, show ¬ j < m + 1 by omega]
theorem mkF_other (f : Nat → Nat → Int) (k m t : Nat) (h : t ≠ k) : mkF f k (m + 1) t = mkF f k m t := by
  funext j
  simp only [mkF]
  by_cases h1 : t < k
  · simp [h1]
  · simp [h1, h]
theorem mkF_zero (f : Nat → Nat → Int) (t : Nat) : mkF f 0 0 t = f t := by
  funext j
  simp [mkF]

set_option maxRecDepth 20000 in
set_option maxHeartbeats 4000000 in
theorem apart_any (bL n : Nat) (ao : Nat → Option Addr) (gs : Nat → Nat) (f : Nat → Nat → Int) (w : World) (hn : n ≤ 8160) (hLb : bL < w.heap.size) (hL : ∀ i, i < 4 → w.cell? ⟨bL, i, none⟩ = some (.slice (ao i) n n))
    (hrow : 0 < n → ∀ i, i < 4 → ao i = some ⟨gs i, 0, none⟩ ∧ w.heap[gs i]? = some (.cells (tab8 n (f i)) 5) ∧ gs i ≠ bL) (hd : 0 < n → ∀ i j, i < 4 → j < 4 → i ≠ j → gs i ≠ gs j) :
    Calls Tryd.prog 23 #[.slice (some ⟨bL, 0, none⟩) 4 4] w fun e w' => e = .returned (.bool true) ∧ Save (fun k => 0 < n ∧ ∃ i, i < 4 ∧ k = gs i) w w' := by
  have HN : Hid (n ≤ 8160) := hn
  have HLb : Hid (bL < w.heap.size) := hLb
  have HL : Hid (∀ i, i < 4 → w.cell? ⟨bL, i, none⟩ = some (.slice (ao i) n n)) := hL
  have HR : Hid (0 < n → ∀ i, i < 4 → ao i = some ⟨gs i, 0, none⟩ ∧ w.heap[gs i]? = some (.cells (tab8 n (f i)) 5) ∧ gs i ≠ bL) := hrow
  have HD : Hid (0 < n → ∀ i j, i < 4 → j < 4 → i ≠ j → gs i ≠ gs j) := hd
  clear hn hLb hL hrow hd
  obtain ⟨G, hG⟩ : ∃ G : Nat → Prop, G = fun k => 0 < n ∧ ∃ i, i < 4 ∧ k = gs i := ⟨_, rfl⟩
  have GI : Hid (∀ i, 0 < n → i < 4 → G (gs i)) := fun i h hi => by rw [hG]; exact ⟨h, i, hi, rfl⟩
  have GL : Hid (¬ G bL) := by
    show ¬ G bL
    rw [hG]
    rintro ⟨h0, i, hi, e⟩
    exact (HR.out h0 i hi).2.2 e.symm
  have GE : Hid (_) := hG
  clear hG
  have lists : Hid (∀ W, Save G w W → ∀ i, i < 4 → W.cell? ⟨bL, i, none⟩ = some (.slice (ao i) n n)) := fun W hS i hi => by
    have e := hS.block bL HLb.out GL.out
    rw [World.cell?_of_block (w := w) (a := ⟨bL, i, none⟩) e]
    exact HL.out i hi
  go_enter Tryd.func23, Tryd.ntmps23
  go_wp2
  go_loopw [3] (fun i W => ∃ k : Nat, k ≤ 4 ∧ i = .int .i64 k ∧ (0 < n → ∀ t, t < 4 → W.heap[gs t]? = some (.cells (tab8 n (mkF f k 0 t)) 5)) ∧ Save G w W) (fun i _ => 4 - (intOf i).toNat)
  case atStart => exact ⟨0, by omega, rfl, fun h0 t ht => by rw [mkF_zero]; exact (HR.out h0 t ht).2.1, Save.refl _ _⟩
  case round =>
    obtain ⟨k, hk, rfl, hrows, hsave⟩ := hrel
    have R1 : Hid (0 < n → ∀ t, t < 4 → wr.heap[gs t]? = some (.cells (tab8 n (mkF f k 0 t)) 5)) := hrows
    have S1 : Hid (Save G w wr) := hsave
    clear hrows hsave
    by_cases hlt : k < 4
    · have i1 : (k : Int) < 4 := by omega
      go_wp2
      go_loopw [4] (fun j W => ∃ m : Nat, m ≤ n ∧ j = .int .i64 m ∧ (0 < n → ∀ t, t < 4 → W.heap[gs t]? = some (.cells (tab8 n (mkF f k m t)) 5)) ∧ Save G w W) (fun j _ => n - (intOf j).toNat)
      case atStart => exact ⟨0, by omega, rfl, R1.out, S1.out⟩
      case round =>
        obtain ⟨m, hm, rfl, hrows, hsave⟩ := hrel
        have R2 : Hid (0 < n → ∀ t, t < 4 → wr.heap[gs t]? = some (.cells (tab8 n (mkF f k m t)) 5)) := hrows
        have S2 : Hid (Save G w wr) := hsave
        clear hrows hsave R1 S1
        have cl := lists.out wr S2.out k hlt
        by_cases hmn : m < n
        · have i2 : (m : Int) < n := by omega
          obtain ⟨ea, _, _⟩ := HR.out (by omega) k hlt
          rw [ea] at cl
          have rk := R2.out (by omega) k hlt
          have q1 : wr.cell? ⟨gs k, m, none⟩ = some (.int .u8 (mkF f k m k m)) := by rw [cell_of_row _ _ _ _ _ _ rk]; exact tab8_get n _ _ hmn
          have q2 : wr.frozen? ⟨gs k, m, none⟩ = false := frozen_of_row rk
          have w1 : wrap64 ((k : Int) + 1) = (k : Int) + 1 := by simp [wrap64]; omega
          have w2 : IntKind.u8.wrap ((k : Int) + 1) = (k : Int) + 1 := by simp [IntKind.wrap, IntKind.bits, IntKind.signed]; omega
          have w3 : wrap64 ((m : Int) + 1) = ((m + 1 : Nat) : Int) := by have := HN.out; simp [wrap64]; omega
          have W3 : Hid (_) := w3
          have HK : Hid (wr.heap[gs k]? = some (.cells (tab8 n (mkF f k m k)) 5)) := rk
          clear rk ea w3
          go_wp2
          go_roundw
          case rel =>
            refine ⟨m + 1, by omega, by rw [W3.out], fun h0 t ht => ?_, S2.out.cell _ (GI.out k (by omega) hlt)⟩
            by_cases e : t = k
            · subst e
              rw [heap_setCell_row _ HK.out, tab8_set, mkF_step]
            · rw [Below.heap_setCell _ _ _ _ (HD.out h0 t k ht hlt e), mkF_other _ _ _ _ e]
              exact R2.out h0 t ht
          case measure =>
            rw [W3.out]
            simp only [intOf, Int.toNat_natCast]
            omega
        · have emn : m = n := by omega
          subst emn
          go_wp2
          go_roundw
          case rel =>
            refine ⟨k + 1, by omega, by go_num, fun h0 t ht => ?_, S2.out⟩
            rw [← mkF_next]
            exact R2.out h0 t ht
          case measure => simp [intOf]; omega
    · have ek : k = 4 := by omega
      subst ek
      have RR : Hid (0 < n → ∀ t, t < 4 → wr.heap[gs t]? = some (.cells (tab8 n (fun _ => (t : Int) + 1)) 5)) := fun h0 t ht => by
        rw [R1.out h0 t ht]
        have e : mkF f 4 0 t = fun _ => (t : Int) + 1 := by funext j; simp [mkF, ht]
        rw [e]
      clear R1
      go_wp2
      go_loopw [5] (fun i W => ∃ r : Nat, r ≤ 2 ∧ i = .int .i64 r ∧ (0 < n → ∀ t, t < 4 → W.heap[gs t]? = some (.cells (tab8 n (fun _ => (t : Int) + 1)) 5)) ∧ Save G w W) (fun i _ => 2 - (intOf i).toNat)
      case atStart => exact ⟨0, by omega, rfl, RR.out, S1.out⟩
      case round =>
        obtain ⟨r, hr, rfl, hrows, hsave⟩ := hrel
        have R3 : Hid (0 < n → ∀ t, t < 4 → wr.heap[gs t]? = some (.cells (tab8 n (fun _ => (t : Int) + 1)) 5)) := hrows
        have S3 : Hid (Save G w wr) := hsave
        clear hrows hsave RR S1
        by_cases hr2 : r < 2
        · have i3 : (r : Int) < 2 := by omega
          go_wp2
          go_loopw [6] (fun i W => ∃ t : Nat, t ≤ 4 ∧ i = .int .i64 t ∧ (0 < n → ∀ t, t < 4 → W.heap[gs t]? = some (.cells (tab8 n (fun _ => (t : Int) + 1)) 5)) ∧ Save G w W) (fun i _ => 4 - (intOf i).toNat)
          case atStart => exact ⟨0, by omega, rfl, R3.out, S3.out⟩
          case round =>
            obtain ⟨t, ht, rfl, hrows, hsave⟩ := hrel
            have R4 : Hid (0 < n → ∀ t, t < 4 → wr.heap[gs t]? = some (.cells (tab8 n (fun _ => (t : Int) + 1)) 5)) := hrows
            have S4 : Hid (Save G w wr) := hsave
            clear hrows hsave R3 S3
            by_cases ht4 : t < 4
            · have i4 : (t : Int) < 4 := by omega
              have cl := lists.out wr S4.out t ht4
              have w1 : wrap64 ((t : Int) + 1) = (t : Int) + 1 := by simp [wrap64]; omega
              have w2 : IntKind.u8.wrap ((t : Int) + 1) = (t : Int) + 1 := by simp [IntKind.wrap, IntKind.bits, IntKind.signed]; omega
              obtain ⟨X, hX⟩ : ∃ X, X = wr := ⟨_, rfl⟩
              have HX : Hid (X = wr) := hX
              have R5 : Hid (0 < n → ∀ t, t < 4 → X.heap[gs t]? = some (.cells (tab8 n (fun _ => (t : Int) + 1)) 5)) := by rw [hX]; exact R4.out
              have S5 : Hid (Save G w X) := by rw [hX]; exact S4.out
              clear hX R4 S4
              by_cases hn0 : 0 < n
              · rw [(HR.out hn0 t ht4).1] at cl
                go_wp2
                go_loopw [8] (fun j W => ∃ m : Nat, m ≤ n ∧ j = .int .i64 m ∧ W = X) (fun j _ => n - (intOf j).toNat)
                case atStart => exact ⟨0, by omega, rfl, HX.out.symm⟩
                case round =>
                  obtain ⟨m, hm, rfl, rfl⟩ := hrel
                  by_cases hmn : m < n
                  · have i5 : (m : Int) < n := by omega
                    have q1 : wr.cell? ⟨gs t, m, none⟩ = some (.int .u8 ((t : Int) + 1)) := by rw [cell_of_row _ _ _ _ _ _ (R5.out hn0 t ht4)]; exact tab8_get n _ _ hmn
                    have w3 : wrap64 ((m : Int) + 1) = ((m + 1 : Nat) : Int) := by have := HN.out; simp [wrap64]; omega
                    have W3 : Hid (_) := w3
                    clear w3
                    go_wp2
                    go_roundw
                    case rel => exact ⟨m + 1, by omega, by rw [W3.out], by first | rfl | trivial⟩
                    case measure =>
                      rw [W3.out]
                      simp only [intOf, Int.toNat_natCast]
                      omega
                  · have emn : n = m := by omega
                    subst emn
                    obtain ⟨Y, hY⟩ : ∃ Y, Y = wr := ⟨_, rfl⟩
                    have HY : Hid (Y = wr) := hY
                    have R6 : Hid (0 < n → ∀ t, t < 4 → Y.heap[gs t]? = some (.cells (tab8 n (fun _ => (t : Int) + 1)) 5)) := by rw [hY]; exact R5.out
                    have S6 : Hid (Save G w Y) := by rw [hY]; exact S5.out
                    clear hY
                    go_wp2
                    go_loopw [7, 9] (fun l i W => ∃ k : Nat, k ≤ 80 ∧ i = .int .i64 k ∧ Below Y.heap.size Y W ∧ ((k = 0 ∧ l = .slice (some ⟨gs t, 0, none⟩) n n ∧ W = Y) ∨ (0 < k ∧ ∃ xs : List Int, W.ownsRow Y.heap.size 5 1 l (n + k) (vals xs)))) (fun _ i _ => 80 - (intOf i).toNat)
                    case atStart => exact ⟨0, by omega, rfl, by rw [HY.out]; exact Below.refl _ _, Or.inl ⟨rfl, rfl, HY.out.symm⟩⟩
                    case round =>
                      obtain ⟨k, hk, rfl, hbel, hcase⟩ := hrel
                      have B6 : Hid (Below Y.heap.size Y wr) := hbel
                      clear hbel
                      by_cases hk8 : k < 80
                      · have i6 : (k : Int) < 80 := by omega
                        rcases hcase with ⟨rfl, rfl, hwX⟩ | ⟨hk0, xs, own⟩
                        · subst hwX
                          go_wp2_with (first
                            | (refine isApp (.tmp 66) (.tmp 67) rfl ?_; go_must (refine wpList_appF (f := fun _ => (t : Int) + 1) (z := 238) rfl (.tmp 66) (.tmp 67) rfl rfl rfl (fun e => by cases e) (fun _ => ⟨gs t, rfl, fun j hj => by rw [Below.cell (p := ⟨gs t, j, none⟩) ((Below.refl wr.heap.size wr).alloc (Nat.le_refl _) _) (Array.getElem?_eq_some_iff.1 (R6.out hn0 t ht4)).1, cell_of_row _ _ _ _ _ _ (R6.out hn0 t ht4)]; exact tab8_get _ _ _ hj⟩) (src_one wr 238) HN.out ?_; intro v7 w7 own7 bel7; simp only [Act.put, List.setIfInBounds_toArray, List.set_cons_succ, List.set_cons_zero]; have bw : Below wr.heap.size wr w7 := ((Below.refl _ _).alloc (Nat.le_refl _) _).trans (bel7.mono (by simp)); have O7 : Hid (w7.ownsRow wr.heap.size 5 1 v7 (n + 1) (vals (firstL (fun _ => (t : Int) + 1) n ++ [238]))) := own7.mono (by simp); have B7 : Hid (Below wr.heap.size wr w7) := bw; clear own7 bel7 bw)))
                          go_roundw
                          case rel => exact ⟨1, by omega, by go_num, B7.out, Or.inr ⟨by omega, _, O7.out⟩⟩
                          case measure => simp [intOf]
                        · have O5 : Hid (wr.ownsRow Y.heap.size 5 1 _ (n + k) (vals xs)) := own
                          clear own
                          go_wp2_with (first
                            | (refine isApp (.tmp 66) (.tmp 67) rfl ?_; go_must (refine wpList_app (l := xs) (r := [238]) (w0 := Y) rfl (.tmp 66) (.tmp 67) rfl rfl rfl (O5.out.alloc _) rfl (src_one wr 238) (by have := HN.out; omega) (B6.out.alloc B6.out.size _) (by have := B6.out.size; simp; omega) ?_; intro v7 w7 own7 bel7 sz7; simp only [Act.put, List.setIfInBounds_toArray, List.set_cons_succ, List.set_cons_zero]; have O7 : Hid (w7.ownsRow Y.heap.size 5 1 v7 (n + (k + 1)) (vals (xs ++ [238]))) := own7; have B7 : Hid (Below Y.heap.size Y w7) := bel7; clear own7 bel7 sz7)))
                          go_roundw
                          case rel => exact ⟨k + 1, by omega, by go_num, B7.out, Or.inr ⟨by omega, _, O7.out⟩⟩
                          case measure => simp [intOf]; omega
                      · go_wp2
                        go_roundw
                        case rel => exact ⟨t + 1, by omega, by go_num, fun h0 t ht => by rw [B6.out.block _ (Array.getElem?_eq_some_iff.1 (R6.out h0 t ht)).1]; exact R6.out h0 t ht, S6.out.below B6.out⟩
                        case measure => simp [intOf]; omega
              · obtain rfl : n = 0 := by omega
                go_wp2
                go_loopw [8] (fun j W => ∃ m : Nat, m ≤ 0 ∧ j = .int .i64 m ∧ W = X) (fun j _ => 0 - (intOf j).toNat)
                case atStart => exact ⟨0, by omega, rfl, HX.out.symm⟩
                case round =>
                  obtain ⟨m, hm, rfl, rfl⟩ := hrel
                  · obtain rfl : m = 0 := by omega
                    obtain ⟨Y, hY⟩ : ∃ Y, Y = wr := ⟨_, rfl⟩
                    have HY : Hid (Y = wr) := hY
                    have R6 : Hid (0 < 0 → ∀ t, t < 4 → Y.heap[gs t]? = some (.cells (tab8 0 (fun _ => (t : Int) + 1)) 5)) := by rw [hY]; exact R5.out
                    have S6 : Hid (Save G w Y) := by rw [hY]; exact S5.out
                    clear hY
                    go_wp2
                    go_loopw [7, 9] (fun l i W => ∃ k : Nat, k ≤ 80 ∧ i = .int .i64 k ∧ Below Y.heap.size Y W ∧ ((k = 0 ∧ l = .slice (ao t) 0 0 ∧ W = Y) ∨ (0 < k ∧ ∃ xs : List Int, W.ownsRow Y.heap.size 5 1 l (0 + k) (vals xs)))) (fun _ i _ => 80 - (intOf i).toNat)
                    case atStart => exact ⟨0, by omega, rfl, by rw [HY.out]; exact Below.refl _ _, Or.inl ⟨rfl, rfl, HY.out.symm⟩⟩
                    case round =>
                      obtain ⟨k, hk, rfl, hbel, hcase⟩ := hrel
                      have B6 : Hid (Below Y.heap.size Y wr) := hbel
                      clear hbel
                      by_cases hk8 : k < 80
                      · have i6 : (k : Int) < 80 := by omega
                        rcases hcase with ⟨rfl, rfl, hwX⟩ | ⟨hk0, xs, own⟩
                        · subst hwX
                          go_wp2_with (first
                            | (refine isApp (.tmp 66) (.tmp 67) rfl ?_; go_must (refine wpList_appF (f := fun _ => (t : Int) + 1) (z := 238) rfl (.tmp 66) (.tmp 67) rfl rfl rfl (fun _ => rfl) (fun h => by omega) (src_one wr 238) HN.out ?_; intro v7 w7 own7 bel7; simp only [Act.put, List.setIfInBounds_toArray, List.set_cons_succ, List.set_cons_zero]; have bw : Below wr.heap.size wr w7 := ((Below.refl _ _).alloc (Nat.le_refl _) _).trans (bel7.mono (by simp)); have O7 : Hid (w7.ownsRow wr.heap.size 5 1 v7 (0 + 1) (vals (firstL (fun _ => (t : Int) + 1) 0 ++ [238]))) := own7.mono (by simp); have B7 : Hid (Below wr.heap.size wr w7) := bw; clear own7 bel7 bw)))
                          go_roundw
                          case rel => exact ⟨1, by omega, by go_num, B7.out, Or.inr ⟨by omega, _, O7.out⟩⟩
                          case measure => simp [intOf]
                        · have O5 : Hid (wr.ownsRow Y.heap.size 5 1 _ (0 + k) (vals xs)) := own
                          clear own
                          go_wp2_with (first
                            | (refine isApp (.tmp 66) (.tmp 67) rfl ?_; go_must (refine wpList_app (l := xs) (r := [238]) (w0 := Y) rfl (.tmp 66) (.tmp 67) rfl rfl rfl (O5.out.alloc _) rfl (src_one wr 238) (by have := HN.out; omega) (B6.out.alloc B6.out.size _) (by have := B6.out.size; simp; omega) ?_; intro v7 w7 own7 bel7 sz7; simp only [Act.put, List.setIfInBounds_toArray, List.set_cons_succ, List.set_cons_zero]; have O7 : Hid (w7.ownsRow Y.heap.size 5 1 v7 (0 + (k + 1)) (vals (xs ++ [238]))) := own7; have B7 : Hid (Below Y.heap.size Y w7) := bel7; clear own7 bel7 sz7)))
                          go_roundw
                          case rel => exact ⟨k + 1, by omega, by go_num, B7.out, Or.inr ⟨by omega, _, O7.out⟩⟩
                          case measure => simp [intOf]; omega
                      · go_wp2
                        go_roundw
                        case rel => exact ⟨t + 1, by omega, by go_num, fun h0 t ht => by rw [B6.out.block _ (Array.getElem?_eq_some_iff.1 (R6.out h0 t ht)).1]; exact R6.out h0 t ht, S6.out.below B6.out⟩
                        case measure => simp [intOf]; omega
            · have et : t = 4 := by omega
              subst et
              go_wp2
              go_roundw
              case rel => exact ⟨r + 1, by omega, by go_num, R4.out, S4.out⟩
              case measure => simp [intOf]; omega
        · go_wp2
          go_ret
          refine ⟨rfl, ?_⟩
          rw [← GE.out]; exact S3.out
end Go.Proofs.YtjaddenjeaalaaaDoor
