import Derived.Test.YtdddecclajmicaaU0
import Derived.Deep.WholeRow
namespace Go.Proofs.Ytdddecclajmicaa
open Go.RowKit

theorem pow_int {x n : Int} {w : World} (hx : 0 ≤ x ∧ x < 256) (hn : -9223372036854775808 ≤ n ∧ n < 9223372036854775808) :
    Calls Try.prog 15 #[.int .u8 x, .int .i64 n] w fun e w' => e = .returned (.int .u8 (gpz x.toNat n : Nat)) ∧ w' = w := by
  obtain ⟨m, rfl⟩ := Int.eq_ofNat_of_zero_le hx.1
  exact pow_any m n w (by omega) hn.1 hn.2
theorem mulP_int {x y : Int} {w : World} (hx : 0 ≤ x ∧ x < 256) (hy : 0 ≤ y ∧ y < 256) :
    Calls Try.prog 11 #[.int .u8 x, .int .u8 y] w fun e w' => e = .returned (.int .u8 (gm x.toNat y.toNat : Nat)) ∧ w' = w := by
  obtain ⟨n, rfl⟩ := Int.eq_ofNat_of_zero_le hx.1
  obtain ⟨m, rfl⟩ := Int.eq_ofNat_of_zero_le hy.1
  exact mul_any n m w (by omega) (by omega)
theorem invP_int {x : Int} {w : World} (hx : 0 ≤ x ∧ x < 256) :
    Calls Try.prog 13 #[.int .u8 x] w fun e w' => e = .returned (.int .u8 (ginv x.toNat : Nat)) ∧ w' = w := by
  obtain ⟨n, rfl⟩ := Int.eq_ofNat_of_zero_le hx.1
  exact inv_any n w (by omega)
/-- Whether j is one of the first k powers of 3. -/
def seenB (k j : Nat) : Bool := (List.range k).any fun i => gpow 3 i == j
def seenA (k : Nat) : Array Value := (Array.range 256).map fun j => .bool (seenB k j)
theorem seenA_size (k : Nat) : (seenA k).size = 256 := by simp [seenA]
theorem seenA_at (k : Nat) {j : Nat} (h : j < 256) : (seenA k)[j]? = some (.bool (seenB k j)) := by
  unfold seenA
  rw [Array.getElem?_map, Array.getElem?_range]
  simp [h]
theorem seen_new {k : Nat} (hk : k < 255) : seenB k (gpow 3 k) = false := by
  unfold seenB
  rw [List.any_eq_false]
  intro i hi
  have h := List.mem_range.1 hi
  simp only [beq_iff_eq]
  intro e
  have := pow3_inj (by omega) hk e
  omega
theorem seen_set {k : Nat} : (seenA k).setIfInBounds (gpow 3 k) (.bool true) = seenA (k + 1) := by
  apply Array.ext_getElem?
  intro j
  rw [Array.getElem?_setIfInBounds]
  by_cases hj : j < 256
  · rw [seenA_at _ hj, seenA_at _ hj, seenA_size]
    have e : seenB (k + 1) j = (seenB k j || (gpow 3 k == j)) := by
      unfold seenB
      rw [List.range_succ, List.any_append]
      simp
    by_cases h : gpow 3 k = j
    · subst h
      rw [if_pos rfl, if_pos hj, e]
      simp
    · rw [if_neg h, e]
      simp [h]
  · have e1 : (seenA k)[j]? = none := by rw [Array.getElem?_eq_none]; rw [seenA_size]; omega
    have e2 : (seenA (k + 1))[j]? = none := by rw [Array.getElem?_eq_none]; rw [seenA_size]; omega
    rw [e1, e2]
    have h : gpow 3 k ≠ j := by have := gpow_lt (a := 3) k; omega
    rw [if_neg h]
theorem gpz3 (k : Nat) : gpz 3 (k : Int) = gpow 3 k := gpz_pos (by omega) k

theorem zero31 : ∀ w, (zeroValue 31).run Try.prog w = .ok (.agg (seenA 0)) w :=
  (zero_of_info (n := 256) (by kernel_rfl)).1

set_option maxRecDepth 20000 in
set_option maxHeartbeats 1000000 in
theorem powers_a (a : Nat) (n : Int) (w : World) (ha : a < 256) (l : -9223372036854775808 ≤ n) (u : n < 9223372036854775807) (h0 : ¬ a = 0) :
    Calls Try.prog 6 #[.int .u8 a, .int .i64 n] w fun e w' => e = .returned (.bool true) ∧ Below w.heap.size w w' := by
  have ZV : ∀ W, (zeroValue 31).run Try.prog W = .ok (.agg (seenA 0)) W := zero31
  obtain ⟨j, j0⟩ : ∃ j, ginv a = j := ⟨_, rfl⟩
  obtain ⟨p, p0⟩ : ∃ p, gpz a n = p := ⟨_, rfl⟩
  obtain ⟨q, q0⟩ : ∃ q, gpz a (n + 1) = q := ⟨_, rfl⟩
  have p1 : p < 256 := by rw [← p0]; exact gpz_lt a n
  have f0 : gpz a 0 = 1 := rfl
  have f1 : gpz a 1 = a := by rw [show (1 : Int) = ((1 : Nat) : Int) from rfl, gpz_pos ha, gpow_one ha]
  have f2 : gpz a (-1) = j := by rw [show (-1 : Int) = -((1 : Nat) : Int) from rfl, gpz_neg ha, gpow_one (ginv_lt ha), j0]
  have f3 : gm p a = q := by rw [← p0, ← q0]; exact gpz_succ ha n (Or.inl h0)
  have za : ((a : Int) == 0) = false := by simp [h0]
  go_enter Try.func6, Try.ntmps6
  go_wp2_with (first
    | (go_at_call 8; refine (awake_any _).mono ?_; rintro e w1 ⟨rfl, b1⟩)
    | (go_at_call 15; refine (pow_int (by omega) (by omega)).mono ?_; rintro e w1 ⟨rfl, rfl⟩)
    | (go_at_call 11; refine (mulP_int (by omega) (by omega)).mono ?_; rintro e w1 ⟨rfl, rfl⟩)
    | (go_at_call 13; refine (invP_int (by omega)).mono ?_; rintro e w1 ⟨rfl, rfl⟩))
  clear ZV
  go_loopw [6, 50] (fun x i W => ∃ k : Nat, k ≤ 255 ∧ x = .int .u8 (gpow 3 k : Nat) ∧ i = .int .i64 k ∧ W.heap[w1.heap.size]? = some (.cells (seenA k) 31) ∧ Below w.heap.size w W) (fun _ i _ => 255 - (intOf i).toNat)
  case atStart => exact ⟨0, by omega, rfl, rfl, by show (w1.heap.push _)[w1.heap.size]? = _; rw [Array.getElem?_push_size], b1.alloc b1.size _⟩
  case round =>
    obtain ⟨k, hk, rfl, rfl, g1, bel⟩ := hrel
    have B : Hid (Below w.heap.size w wr) := bel
    have G : Hid (_) := g1
    have HS : Hid (w.heap.size ≤ w1.heap.size) := b1.size
    clear bel g1 b1
    by_cases hlt : k < 255
    · have i1 : (k : Int) < 255 := by omega
      obtain ⟨x, x0⟩ : ∃ x, gpow 3 k = x := ⟨_, rfl⟩
      obtain ⟨y, y0⟩ : ∃ y, gpow 3 (k + 1) = y := ⟨_, rfl⟩
      have x1 : x < 256 := by rw [← x0]; exact gpow_lt k
      have x2 : (x : Int) < 256 := by omega
      have x3 : ((x : Int) == 0) = false := by have := pow3_ne hlt; rw [x0] at this; simp [this]
      have x4 : gpz 3 (k : Int) = x := by rw [gpz3, x0]
      have x5 : gm x 3 = y := by rw [← y0, ← x0]; rfl
      have c1 : wr.cell? ⟨w1.heap.size, x, none⟩ = some (.bool false) := by rw [cell_of_row _ _ _ _ _ _ G.out, seenA_at k x1, ← x0, seen_new hlt]
      have c2 : wr.frozen? ⟨w1.heap.size, x, none⟩ = false := frozen4 G.out
      have X0 : Hid (gpow 3 k = x) := x0
      have Y0 : Hid (gpow 3 (k + 1) = y) := y0
      rw [x0]
      clear x0 y0
      go_wp2_with (first
        | (go_at_call 15; refine (pow_int (by omega) (by omega)).mono ?_; rintro e w' ⟨rfl, rfl⟩)
        | (go_at_call 11; refine (mulP_int (by omega) (by omega)).mono ?_; rintro e w' ⟨rfl, rfl⟩))
      go_roundw
      case rel => exact ⟨k + 1, by omega, by rw [Y0.out], by go_num, by rw [heap4 _ G.out, ← X0.out, seen_set], B.out.setCell HS.out _⟩
      case measure => simp [intOf]; omega
    · have i1 : ¬ (k : Int) < 255 := by omega
      have ek : k = 255 := by omega
      subst ek
      have q : gpow 3 255 = 1 := pow3_255
      go_wp2
      go_ret
      exact ⟨rfl, B.out⟩
set_option maxRecDepth 20000 in
set_option maxHeartbeats 1000000 in
theorem powers_b (a : Nat) (n : Int) (w : World) (ha : a < 256) (u : ¬ n < 9223372036854775807) :
    Calls Try.prog 6 #[.int .u8 a, .int .i64 n] w fun e w' => e = .returned (.bool true) ∧ Below w.heap.size w w' := by
  have ZV : ∀ W, (zeroValue 31).run Try.prog W = .ok (.agg (seenA 0)) W := zero31
  obtain ⟨j, j0⟩ : ∃ j, ginv a = j := ⟨_, rfl⟩
  have f0 : gpz a 0 = 1 := rfl
  have f1 : gpz a 1 = a := by rw [show (1 : Int) = ((1 : Nat) : Int) from rfl, gpz_pos ha, gpow_one ha]
  have f2 : gpz a (-1) = j := by rw [show (-1 : Int) = -((1 : Nat) : Int) from rfl, gpz_neg ha, gpow_one (ginv_lt ha), j0]
  go_enter Try.func6, Try.ntmps6
  go_wp2_with (first
    | (go_at_call 8; refine (awake_any _).mono ?_; rintro e w1 ⟨rfl, b1⟩)
    | (go_at_call 15; refine (pow_int (by omega) (by omega)).mono ?_; rintro e w1 ⟨rfl, rfl⟩)
    | (go_at_call 11; refine (mulP_int (by omega) (by omega)).mono ?_; rintro e w1 ⟨rfl, rfl⟩)
    | (go_at_call 13; refine (invP_int (by omega)).mono ?_; rintro e w1 ⟨rfl, rfl⟩))
  clear ZV
  go_loopw [6, 50] (fun x i W => ∃ k : Nat, k ≤ 255 ∧ x = .int .u8 (gpow 3 k : Nat) ∧ i = .int .i64 k ∧ W.heap[w1.heap.size]? = some (.cells (seenA k) 31) ∧ Below w.heap.size w W) (fun _ i _ => 255 - (intOf i).toNat)
  case atStart => exact ⟨0, by omega, rfl, rfl, by show (w1.heap.push _)[w1.heap.size]? = _; rw [Array.getElem?_push_size], b1.alloc b1.size _⟩
  case round =>
    obtain ⟨k, hk, rfl, rfl, g1, bel⟩ := hrel
    have B : Hid (Below w.heap.size w wr) := bel
    have G : Hid (_) := g1
    have HS : Hid (w.heap.size ≤ w1.heap.size) := b1.size
    clear bel g1 b1
    by_cases hlt : k < 255
    · have i1 : (k : Int) < 255 := by omega
      obtain ⟨x, x0⟩ : ∃ x, gpow 3 k = x := ⟨_, rfl⟩
      obtain ⟨y, y0⟩ : ∃ y, gpow 3 (k + 1) = y := ⟨_, rfl⟩
      have x1 : x < 256 := by rw [← x0]; exact gpow_lt k
      have x2 : (x : Int) < 256 := by omega
      have x3 : ((x : Int) == 0) = false := by have := pow3_ne hlt; rw [x0] at this; simp [this]
      have x4 : gpz 3 (k : Int) = x := by rw [gpz3, x0]
      have x5 : gm x 3 = y := by rw [← y0, ← x0]; rfl
      have c1 : wr.cell? ⟨w1.heap.size, x, none⟩ = some (.bool false) := by rw [cell_of_row _ _ _ _ _ _ G.out, seenA_at k x1, ← x0, seen_new hlt]
      have c2 : wr.frozen? ⟨w1.heap.size, x, none⟩ = false := frozen4 G.out
      have X0 : Hid (gpow 3 k = x) := x0
      have Y0 : Hid (gpow 3 (k + 1) = y) := y0
      rw [x0]
      clear x0 y0
      go_wp2_with (first
        | (go_at_call 15; refine (pow_int (by omega) (by omega)).mono ?_; rintro e w' ⟨rfl, rfl⟩)
        | (go_at_call 11; refine (mulP_int (by omega) (by omega)).mono ?_; rintro e w' ⟨rfl, rfl⟩))
      go_roundw
      case rel => exact ⟨k + 1, by omega, by rw [Y0.out], by go_num, by rw [heap4 _ G.out, ← X0.out, seen_set], B.out.setCell HS.out _⟩
      case measure => simp [intOf]; omega
    · have i1 : ¬ (k : Int) < 255 := by omega
      have ek : k = 255 := by omega
      subst ek
      have q : gpow 3 255 = 1 := pow3_255
      go_wp2
      go_ret
      exact ⟨rfl, B.out⟩
set_option maxRecDepth 20000 in
set_option maxHeartbeats 1000000 in
theorem powers_c (n : Int) (w : World) (l : 0 ≤ n) (u : n < 9223372036854775807) :
    Calls Try.prog 6 #[.int .u8 0, .int .i64 n] w fun e w' => e = .returned (.bool true) ∧ Below w.heap.size w w' := by
  have ZV : ∀ W, (zeroValue 31).run Try.prog W = .ok (.agg (seenA 0)) W := zero31
  have f0 : gpz 0 0 = 1 := rfl
  have f1 : gpz 0 1 = 0 := rfl
  have f2 : gpz 0 (-1) = 0 := rfl
  have f3 : ginv 0 = 0 := rfl
  obtain ⟨p, p0⟩ : ∃ p, gpz 0 n = p := ⟨_, rfl⟩
  have p1 : p < 256 := by rw [← p0]; exact gpz_lt 0 n
  have f4 : gm p 0 = 0 := gm_zr p
  have f5 : gpz 0 (n + 1) = 0 := by rw [← gpz_succ (by omega) n (Or.inr l), gm_zr]
  have l2 : n ≥ 0 := l
  go_enter Try.func6, Try.ntmps6
  go_wp2_with (first
    | (go_at_call 8; refine (awake_any _).mono ?_; rintro e w1 ⟨rfl, b1⟩)
    | (go_at_call 15; refine (pow_int (by omega) (by omega)).mono ?_; rintro e w1 ⟨rfl, rfl⟩)
    | (go_at_call 11; refine (mulP_int (by omega) (by omega)).mono ?_; rintro e w1 ⟨rfl, rfl⟩)
    | (go_at_call 13; refine (invP_int (by omega)).mono ?_; rintro e w1 ⟨rfl, rfl⟩))
  clear ZV
  go_loopw [6, 50] (fun x i W => ∃ k : Nat, k ≤ 255 ∧ x = .int .u8 (gpow 3 k : Nat) ∧ i = .int .i64 k ∧ W.heap[w1.heap.size]? = some (.cells (seenA k) 31) ∧ Below w.heap.size w W) (fun _ i _ => 255 - (intOf i).toNat)
  case atStart => exact ⟨0, by omega, rfl, rfl, by show (w1.heap.push _)[w1.heap.size]? = _; rw [Array.getElem?_push_size], b1.alloc b1.size _⟩
  case round =>
    obtain ⟨k, hk, rfl, rfl, g1, bel⟩ := hrel
    have B : Hid (Below w.heap.size w wr) := bel
    have G : Hid (_) := g1
    have HS : Hid (w.heap.size ≤ w1.heap.size) := b1.size
    clear bel g1 b1
    by_cases hlt : k < 255
    · have i1 : (k : Int) < 255 := by omega
      obtain ⟨x, x0⟩ : ∃ x, gpow 3 k = x := ⟨_, rfl⟩
      obtain ⟨y, y0⟩ : ∃ y, gpow 3 (k + 1) = y := ⟨_, rfl⟩
      have x1 : x < 256 := by rw [← x0]; exact gpow_lt k
      have x2 : (x : Int) < 256 := by omega
      have x3 : ((x : Int) == 0) = false := by have := pow3_ne hlt; rw [x0] at this; simp [this]
      have x4 : gpz 3 (k : Int) = x := by rw [gpz3, x0]
      have x5 : gm x 3 = y := by rw [← y0, ← x0]; rfl
      have c1 : wr.cell? ⟨w1.heap.size, x, none⟩ = some (.bool false) := by rw [cell_of_row _ _ _ _ _ _ G.out, seenA_at k x1, ← x0, seen_new hlt]
      have c2 : wr.frozen? ⟨w1.heap.size, x, none⟩ = false := frozen4 G.out
      have X0 : Hid (gpow 3 k = x) := x0
      have Y0 : Hid (gpow 3 (k + 1) = y) := y0
      rw [x0]
      clear x0 y0
      go_wp2_with (first
        | (go_at_call 15; refine (pow_int (by omega) (by omega)).mono ?_; rintro e w' ⟨rfl, rfl⟩)
        | (go_at_call 11; refine (mulP_int (by omega) (by omega)).mono ?_; rintro e w' ⟨rfl, rfl⟩))
      go_roundw
      case rel => exact ⟨k + 1, by omega, by rw [Y0.out], by go_num, by rw [heap4 _ G.out, ← X0.out, seen_set], B.out.setCell HS.out _⟩
      case measure => simp [intOf]; omega
    · have i1 : ¬ (k : Int) < 255 := by omega
      have ek : k = 255 := by omega
      subst ek
      have q : gpow 3 255 = 1 := pow3_255
      go_wp2
      go_ret
      exact ⟨rfl, B.out⟩
set_option maxRecDepth 20000 in
set_option maxHeartbeats 1000000 in
theorem powers_d (n : Int) (w : World) (l : n < 0) (u : n < 9223372036854775807) :
    Calls Try.prog 6 #[.int .u8 0, .int .i64 n] w fun e w' => e = .returned (.bool true) ∧ Below w.heap.size w w' := by
  have ZV : ∀ W, (zeroValue 31).run Try.prog W = .ok (.agg (seenA 0)) W := zero31
  have f0 : gpz 0 0 = 1 := rfl
  have f1 : gpz 0 1 = 0 := rfl
  have f2 : gpz 0 (-1) = 0 := rfl
  have f3 : ginv 0 = 0 := rfl
  have l2 : ¬ n ≥ 0 := by omega
  go_enter Try.func6, Try.ntmps6
  go_wp2_with (first
    | (go_at_call 8; refine (awake_any _).mono ?_; rintro e w1 ⟨rfl, b1⟩)
    | (go_at_call 15; refine (pow_int (by omega) (by omega)).mono ?_; rintro e w1 ⟨rfl, rfl⟩)
    | (go_at_call 11; refine (mulP_int (by omega) (by omega)).mono ?_; rintro e w1 ⟨rfl, rfl⟩)
    | (go_at_call 13; refine (invP_int (by omega)).mono ?_; rintro e w1 ⟨rfl, rfl⟩))
  clear ZV
  go_loopw [6, 50] (fun x i W => ∃ k : Nat, k ≤ 255 ∧ x = .int .u8 (gpow 3 k : Nat) ∧ i = .int .i64 k ∧ W.heap[w1.heap.size]? = some (.cells (seenA k) 31) ∧ Below w.heap.size w W) (fun _ i _ => 255 - (intOf i).toNat)
  case atStart => exact ⟨0, by omega, rfl, rfl, by show (w1.heap.push _)[w1.heap.size]? = _; rw [Array.getElem?_push_size], b1.alloc b1.size _⟩
  case round =>
    obtain ⟨k, hk, rfl, rfl, g1, bel⟩ := hrel
    have B : Hid (Below w.heap.size w wr) := bel
    have G : Hid (_) := g1
    have HS : Hid (w.heap.size ≤ w1.heap.size) := b1.size
    clear bel g1 b1
    by_cases hlt : k < 255
    · have i1 : (k : Int) < 255 := by omega
      obtain ⟨x, x0⟩ : ∃ x, gpow 3 k = x := ⟨_, rfl⟩
      obtain ⟨y, y0⟩ : ∃ y, gpow 3 (k + 1) = y := ⟨_, rfl⟩
      have x1 : x < 256 := by rw [← x0]; exact gpow_lt k
      have x2 : (x : Int) < 256 := by omega
      have x3 : ((x : Int) == 0) = false := by have := pow3_ne hlt; rw [x0] at this; simp [this]
      have x4 : gpz 3 (k : Int) = x := by rw [gpz3, x0]
      have x5 : gm x 3 = y := by rw [← y0, ← x0]; rfl
      have c1 : wr.cell? ⟨w1.heap.size, x, none⟩ = some (.bool false) := by rw [cell_of_row _ _ _ _ _ _ G.out, seenA_at k x1, ← x0, seen_new hlt]
      have c2 : wr.frozen? ⟨w1.heap.size, x, none⟩ = false := frozen4 G.out
      have X0 : Hid (gpow 3 k = x) := x0
      have Y0 : Hid (gpow 3 (k + 1) = y) := y0
      rw [x0]
      clear x0 y0
      go_wp2_with (first
        | (go_at_call 15; refine (pow_int (by omega) (by omega)).mono ?_; rintro e w' ⟨rfl, rfl⟩)
        | (go_at_call 11; refine (mulP_int (by omega) (by omega)).mono ?_; rintro e w' ⟨rfl, rfl⟩))
      go_roundw
      case rel => exact ⟨k + 1, by omega, by rw [Y0.out], by go_num, by rw [heap4 _ G.out, ← X0.out, seen_set], B.out.setCell HS.out _⟩
      case measure => simp [intOf]; omega
    · have i1 : ¬ (k : Int) < 255 := by omega
      have ek : k = 255 := by omega
      subst ek
      have q : gpow 3 255 = 1 := pow3_255
      go_wp2
      go_ret
      exact ⟨rfl, B.out⟩

theorem powers_any (a : Nat) (n : Int) (w : World) (ha : a < 256) (l : -9223372036854775808 ≤ n) :
    Calls Try.prog 6 #[.int .u8 a, .int .i64 n] w fun e w' => e = .returned (.bool true) ∧ Below w.heap.size w w' := by
  by_cases u : n < 9223372036854775807
  · by_cases h0 : a = 0
    · subst h0
      by_cases h1 : 0 ≤ n
      · exact powers_c n w h1 u
      · exact powers_d n w (by omega) u
    · exact powers_a a n w ha l u h0
  · exact powers_b a n w ha u
end Go.Proofs.Ytdddecclajmicaa
