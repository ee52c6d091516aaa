import Derived.Test.YtealknodagdjaaaS3
namespace Go.Proofs.Ytealknodagdjaaa.Gf8
open Go.RowKit

theorem results_tmp4 {fn : Func} {t u v x : Tmp} (h : fn.results = #[.tmp t, .tmp u, .tmp v, .tmp x]) (tmps : Array Value) (P : Program) (w : World) :
    (results fn tmps).run P w = .ok (.tuple #[tmps.getD t undef, tmps.getD u undef, tmps.getD v undef, tmps.getD x undef]) w := by
  simp [results, h]
set_option maxRecDepth 20000 in
set_option maxHeartbeats 400000 in
theorem from_any (c : Nat → Nat) (i : Nat) (w : World) (hi : i < 4) :
    Calls Try.prog 48 #[.agg (col c), .int .i64 i] w fun e w' => e = .returned (.tuple #[.int .u8 (c i), .int .u8 (c ((i + 1) % 4)), .int .u8 (c ((i + 2) % 4)), .int .u8 (c ((i + 3) % 4))]) ∧ Below w.heap.size w w' := by
  have B : Hid (Below w.heap.size w (w.alloc (.cells (col c) 62))) := (Below.refl _ _).alloc (Nat.le_refl _) _
  obtain ⟨j1, h1⟩ : ∃ j, (i + 1) % 4 = j := ⟨_, rfl⟩
  obtain ⟨j2, h2⟩ : ∃ j, (i + 2) % 4 = j := ⟨_, rfl⟩
  obtain ⟨j3, h3⟩ : ∃ j, (i + 3) % 4 = j := ⟨_, rfl⟩
  have k1 : j1 < 4 := by omega
  have k2 : j2 < 4 := by omega
  have k3 : j3 < 4 := by omega
  have t1 : ((i : Int) + 1).tmod 4 = (j1 : Int) := by rw [Int.tmod_eq_emod_of_nonneg (by omega)]; omega
  have t2 : ((i : Int) + 2).tmod 4 = (j2 : Int) := by rw [Int.tmod_eq_emod_of_nonneg (by omega)]; omega
  have t3 : ((i : Int) + 3).tmod 4 = (j3 : Int) := by rw [Int.tmod_eq_emod_of_nonneg (by omega)]; omega
  rw [h1, h2, h3]
  clear h1 h2 h3
  have i0 : (i : Int) < 4 := by omega
  have i1 : (j1 : Int) < 4 := by omega
  have i2 : (j2 : Int) < 4 := by omega
  have i3 : (j3 : Int) < 4 := by omega
  have c0 : (w.alloc (.cells (col c) 62)).cell? ⟨w.heap.size, i, none⟩ = some (.int .u8 (c i)) := alloc_cell w (col_at c hi)
  have c1 : (w.alloc (.cells (col c) 62)).cell? ⟨w.heap.size, j1, none⟩ = some (.int .u8 (c j1)) := alloc_cell w (col_at c k1)
  have c2 : (w.alloc (.cells (col c) 62)).cell? ⟨w.heap.size, j2, none⟩ = some (.int .u8 (c j2)) := alloc_cell w (col_at c k2)
  have c3 : (w.alloc (.cells (col c) 62)).cell? ⟨w.heap.size, j3, none⟩ = some (.int .u8 (c j3)) := alloc_cell w (col_at c k3)
  go_enter Try.func48, Try.ntmps48
  go_wp2
  go_quiet (skip)
  go_wp2
  refine bodyPost_ret (results_tmp4 rfl _ _ _) rfl ⟨rfl, ?_⟩
  exact belowD B.out _

theorem small_all : ∀ x : Fin 256, gm 2 x.val = xt x.val ∧ gm 3 x.val = xt x.val ^^^ x.val ∧ gm 1 x.val = x.val := by decide +kernel
/-- The code's row of the mixing. -/
def fcol (c : Nat → Nat) (i : Nat) : Nat := xt (c i) ^^^ xt (c ((i + 1) % 4)) ^^^ c ((i + 1) % 4) ^^^ c ((i + 2) % 4) ^^^ c ((i + 3) % 4)
theorem fcol_mix {c : Nat → Nat} (hc : ∀ i, i < 4 → c i < 256) {i : Nat} (hi : i < 4) : fcol c i = mixk fwd c i := by
  have s (j : Nat) (h : j < 4) := small_all ⟨c j, hc j h⟩
  obtain ⟨a0, b0, e0⟩ := s 0 (by omega)
  obtain ⟨a1, b1, e1⟩ := s 1 (by omega)
  obtain ⟨a2, b2, e2⟩ := s 2 (by omega)
  obtain ⟨a3, b3, e3⟩ := s 3 (by omega)
  simp only at a0 b0 e0 a1 b1 e1 a2 b2 e2 a3 b3 e3
  have : i = 0 ∨ i = 1 ∨ i = 2 ∨ i = 3 := by omega
  rcases this with rfl | rfl | rfl | rfl
  · show xt (c 0) ^^^ xt (c 1) ^^^ c 1 ^^^ c 2 ^^^ c 3 = gm 2 (c 0) ^^^ gm 3 (c 1) ^^^ gm 1 (c 2) ^^^ gm 1 (c 3)
    rw [a0, b1, e2, e3]; ac_rfl
  · show xt (c 1) ^^^ xt (c 2) ^^^ c 2 ^^^ c 3 ^^^ c 0 = gm 1 (c 0) ^^^ gm 2 (c 1) ^^^ gm 3 (c 2) ^^^ gm 1 (c 3)
    rw [e0, a1, b2, e3]; ac_rfl
  · show xt (c 2) ^^^ xt (c 3) ^^^ c 3 ^^^ c 0 ^^^ c 1 = gm 1 (c 0) ^^^ gm 1 (c 1) ^^^ gm 2 (c 2) ^^^ gm 3 (c 3)
    rw [e0, e1, a2, b3]; ac_rfl
  · show xt (c 3) ^^^ xt (c 0) ^^^ c 0 ^^^ c 1 ^^^ c 2 = gm 3 (c 0) ^^^ gm 1 (c 1) ^^^ gm 1 (c 2) ^^^ gm 2 (c 3)
    rw [b0, e1, e2, a3]; ac_rfl
def bcol (c : Nat → Nat) (i : Nat) : Nat := gm 14 (c i) ^^^ gm 11 (c ((i + 1) % 4)) ^^^ gm 13 (c ((i + 2) % 4)) ^^^ gm 9 (c ((i + 3) % 4))
theorem bcol_mix (c : Nat → Nat) {i : Nat} (hi : i < 4) : bcol c i = mixk bwd c i := by
  have : i = 0 ∨ i = 1 ∨ i = 2 ∨ i = 3 := by omega
  rcases this with rfl | rfl | rfl | rfl
  · rfl
  · show gm 14 (c 1) ^^^ gm 11 (c 2) ^^^ gm 13 (c 3) ^^^ gm 9 (c 0) = gm 9 (c 0) ^^^ gm 14 (c 1) ^^^ gm 11 (c 2) ^^^ gm 13 (c 3)
    ac_rfl
  · show gm 14 (c 2) ^^^ gm 11 (c 3) ^^^ gm 13 (c 0) ^^^ gm 9 (c 1) = gm 13 (c 0) ^^^ gm 9 (c 1) ^^^ gm 14 (c 2) ^^^ gm 11 (c 3)
    ac_rfl
  · show gm 14 (c 3) ^^^ gm 11 (c 0) ^^^ gm 13 (c 1) ^^^ gm 9 (c 2) = gm 11 (c 0) ^^^ gm 13 (c 1) ^^^ gm 9 (c 2) ^^^ gm 14 (c 3)
    ac_rfl
end Go.Proofs.Ytealknodagdjaaa.Gf8

namespace Go.Proofs.Ytealknodagdjaaa.Gf8
open Go.RowKit

theorem mul_lit {f : Int} {b : Nat} {w : World} (hf : 0 ≤ f ∧ f < 256) (hb : b < 256) :
    Calls Try.prog 43 #[.int .u8 f, .int .u8 b] w fun e w' => e = .returned (.int .u8 (gm f.toNat b : Nat)) ∧ w' = w := by
  obtain ⟨n, rfl⟩ := Int.eq_ofNat_of_zero_le hf.1
  exact mul_any n b w (by omega) hb

set_option maxRecDepth 20000 in
set_option maxHeartbeats 400000 in
theorem uncolumn_any (c : Nat → Nat) (w : World) (hc : ∀ i, i < 4 → c i < 256) :
    Calls Try.prog 35 #[.agg (col c)] w fun e w' => e = .returned (.agg (col (mixk bwd c))) ∧ Below w.heap.size w w' := by
  have HC : Hid (_) := hc
  clear hc
  have h3 := heap3c w (.cells (col c) 62) (.cells (col fun _ => 0) 62) (.cells (col fun _ => 0) 62)
  have H3 : Hid (_) := h3
  clear h3
  go_enter Try.func35, Try.ntmps35
  go_wp2
  rw [show w.heap.size + 1 + 1 = w.heap.size + 2 from rfl]
  go_loopw [9] (fun i W => ∃ k : Nat, k ≤ 4 ∧ i = .int .i64 k ∧ W.heap[w.heap.size]? = some (.cells (col c) 62) ∧ W.heap[w.heap.size + 1]? = some (.cells (col fun _ => 0) 62) ∧ W.heap[w.heap.size + 2]? = some (.cells (col (uptoC (mixk bwd c) k)) 62) ∧ Below w.heap.size w W) (fun i _ => 4 - (intOf i).toNat)
  case atStart => exact ⟨0, by omega, rfl, H3.out.1, H3.out.2.1, H3.out.2.2, below3c _ _ _ _⟩
  case round =>
    obtain ⟨k, hk, rfl, g1, g2, g3, bel⟩ := hrel
    have B : Hid (Below w.heap.size w wr) := bel
    have G1 : Hid (_) := g1
    have G2 : Hid (_) := g2
    have G3 : Hid (_) := g3
    clear bel g1 g2 g3 H3
    by_cases hlt : k < 4
    · have i1 : (k : Int) < 4 := by omega
      have i0 : (0 : Int) ≤ (k : Int) := by omega
      have HL : Hid (k < 4) := hlt
      obtain ⟨p, hp⟩ : ∃ p, c k = p := ⟨_, rfl⟩
      obtain ⟨q, hq⟩ : ∃ q, c ((k + 1) % 4) = q := ⟨_, rfl⟩
      obtain ⟨r, hr⟩ : ∃ r, c ((k + 2) % 4) = r := ⟨_, rfl⟩
      obtain ⟨s, hs⟩ : ∃ s, c ((k + 3) % 4) = s := ⟨_, rfl⟩
      have p1 : p < 256 := by rw [← hp]; exact HC.out _ hlt
      have q1 : q < 256 := by rw [← hq]; exact HC.out _ (Nat.mod_lt _ (by omega))
      have r1 : r < 256 := by rw [← hr]; exact HC.out _ (Nat.mod_lt _ (by omega))
      have s1 : s < 256 := by rw [← hs]; exact HC.out _ (Nat.mod_lt _ (by omega))
      have FR := from_any c k wr hlt
      rw [hp, hq, hr, hs] at FR
      have y1 : gm 14 p < 256 := gm_lt _ (by omega)
      have y2 : gm 11 q < 256 := gm_lt _ (by omega)
      have y3 : gm 13 r < 256 := gm_lt _ (by omega)
      have y4 : gm 9 s < 256 := gm_lt _ (by omega)
      have x1 := xor_u8 y1 y2
      have x2 := xor_u8 (xor_lt y1 y2) y3
      have x3 := xor_u8 (xor_lt (xor_lt y1 y2) y3) y4
      have E : Hid (gm 14 p ^^^ gm 11 q ^^^ gm 13 r ^^^ gm 9 s = mixk bwd c k) := by
        show gm 14 p ^^^ gm 11 q ^^^ gm 13 r ^^^ gm 9 s = mixk bwd c k
        rw [← bcol_mix c hlt, ← hp, ← hq, ← hr, ← hs]
        rfl
      clear y1 y2 y3 y4
      clear hlt hp hq hr hs
      go_wp2_with (first
        | (refine atLoad 62 (.tmp 1) rfl ?_; go_must (refine wpList_load_row rfl 62 (.tmp 1) rfl w.heap.size rfl 62 _ (0, 0) _ G1.out Try.underlying62 rfl (size4' _) ?_; simp only [Act.put, List.setIfInBounds_toArray, List.set_cons_succ, List.set_cons_zero])))
      refine FR.mono ?_
      rintro e w1 ⟨rfl, hb1⟩
      have hsz : w.heap.size + 2 < wr.heap.size := (Array.getElem?_eq_some_iff.1 G3.out).1
      have D1 : Hid (w1.heap[w.heap.size]? = some (.cells (col c) 62)) := by show w1.heap[w.heap.size]? = _; rw [hb1.block _ (by omega)]; exact G1.out
      have D2 : Hid (w1.heap[w.heap.size + 1]? = some (.cells (col fun _ => 0) 62)) := by show w1.heap[w.heap.size + 1]? = _; rw [hb1.block _ (by omega)]; exact G2.out
      have D3 : Hid (w1.heap[w.heap.size + 2]? = some (.cells (col (uptoC (mixk bwd c) k)) 62)) := by show w1.heap[w.heap.size + 2]? = _; rw [hb1.block _ (by omega)]; exact G3.out
      have D4 : Hid (Below w.heap.size w w1) := B.out.trans (hb1.mono (by omega))
      have n1 : w1.cell? ⟨w.heap.size + 2, k, none⟩ = some (.int .u8 (uptoC (mixk bwd c) k k)) := by rw [cell_of_row _ _ _ _ _ _ D3.out]; exact col_at _ HL.out
      have n2 : w1.frozen? ⟨w.heap.size + 2, k, none⟩ = false := frozen4 D3.out
      clear hb1 hsz FR
      go_wp2_with (go_at_call 43; refine (mul_lit (by decide) (by assumption)).mono ?_; rintro e w2 ⟨rfl, rfl⟩)
      go_roundw
      case rel =>
        refine ⟨k + 1, by have := HL.out; omega, by go_num, ?_, ?_, ?_, D4.out.setCell (by simp) _⟩
        · rw [heap4o _ D3.out (by omega)]; exact D1.out
        · rw [heap4o _ D3.out (by omega)]; exact D2.out
        · rw [heap4 _ D3.out, E.out, col_set _ HL.out]
      case measure => have := HL.out; simp [intOf]; omega
    · have i1 : ¬ (k : Int) < 4 := by omega
      have ek : k = 4 := by omega
      subst ek
      go_wp2_with (first
        | (refine atLoad 62 (.tmp 3) rfl ?_; go_must (refine wpList_load_row rfl 62 (.tmp 3) rfl (w.heap.size + 2) rfl 62 _ (0, 0) _ G3.out Try.underlying62 rfl (size4' _) ?_; simp only [Act.put, List.setIfInBounds_toArray, List.set_cons_succ, List.set_cons_zero]))
        | (refine atStore 62 (.tmp 2) (.tmp 34) rfl ?_; go_must (refine wpList_store_row rfl 62 (.tmp 2) (.tmp 34) rfl (w.heap.size + 1) _ rfl rfl 62 _ G2.out (size4' _) rfl (col_one _) ?_)))
      refine bodyPost_ret (v := .agg (col (mixk bwd c))) (results_cell_row Try.results35 _ _ (w.heap.size + 1) 62 _ (0, 0) _ rfl (setRow_heap _ _ _ _ _ _ G2.out) Try.underlying62 rfl (size4' _)) rfl ⟨rfl, ?_⟩
      exact below4 B.out (by omega) _
end Go.Proofs.Ytealknodagdjaaa.Gf8
