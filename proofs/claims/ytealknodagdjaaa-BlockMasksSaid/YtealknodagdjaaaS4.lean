import Derived.Test.YtealknodagdjaaaS3
namespace Go.Proofs.Ytealknodagdjaaa.Gf8
open Go.RowKit

theorem results_tmp4 {fn : Func} {t u v x : Tmp} (h : fn.results = #[.tmp t, .tmp u, .tmp v, .tmp x]) (tmps : Array Value) (P : Program) (w : World) :
    (results fn tmps).run P w = .ok (.tuple #[tmps.getD t undef, tmps.getD u undef, tmps.getD v undef, tmps.getD x undef]) w := by
  simp [results, h]
set_option maxRecDepth 20000 in
set_option maxHeartbeats 400000 in
theorem from_any (c : Nat → Nat) (i : Nat) (w : World) (hi : i < 4) :
    Calls Try.prog 48 #[.agg (col c), .int .i64 i] w fun e w' => e = .returned (.tuple #[.int .u8 (c i), .int .u8 (c ((i + 1) % 4)), .int .u8 (c ((i + 2) % 4)), .int .u8 (c ((i + 3) % 4))]) ∧ Below w.heap.size w w' := by
  have B : Hid (Below w.heap.size w (w.alloc (.cells (col c) 62))) := (Below.refl _ _).alloc (Nat.le_refl _) _
  obtain ⟨j1, h1⟩ : ∃ j, (i + 1) % 4 = j := ⟨_, rfl⟩
  obtain ⟨j2, h2⟩ : ∃ j, (i + 2) % 4 = j := ⟨_, rfl⟩
  obtain ⟨j3, h3⟩ : ∃ j, (i + 3) % 4 = j := ⟨_, rfl⟩
  have k1 : j1 < 4 := by omega
  have k2 : j2 < 4 := by omega
  have k3 : j3 < 4 := by omega
  have t1 : ((i : Int) + 1).tmod 4 = (j1 : Int) := by rw [Int.tmod_eq_emod_of_nonneg (by omega)]; omega
  have t2 : ((i : Int) + 2).tmod 4 = (j2 : Int) := by rw [Int.tmod_eq_emod_of_nonneg (by omega)]; omega
  have t3 : ((i : Int) + 3).tmod 4 = (j3 : Int) := by rw [Int.tmod_eq_emod_of_nonneg (by omega)]; omega
  rw [h1, h2, h3]
  clear h1 h2 h3
  have i0 : (i : Int) < 4 := by omega
  have i1 : (j1 : Int) < 4 := by omega
  have i2 : (j2 : Int) < 4 := by omega
  have i3 : (j3 : Int) < 4 := by omega
  have c0 : (w.alloc (.cells (col c) 62)).cell? ⟨w.heap.size, i, none⟩ = some (.int .u8 (c i)) := alloc_cell w (col_at c hi)
  have c1 : (w.alloc (.cells (col c) 62)).cell? ⟨w.heap.size, j1, none⟩ = some (.int .u8 (c j1)) := alloc_cell w (col_at c k1)
  have c2 : (w.alloc (.cells (col c) 62)).cell? ⟨w.heap.size, j2, none⟩ = some (.int .u8 (c j2)) := alloc_cell w (col_at c k2)
  have c3 : (w.alloc (.cells (col c) 62)).cell? ⟨w.heap.size, j3, none⟩ = some (.int .u8 (c j3)) := alloc_cell w (col_at c k3)
  go_enter Try.func48, Try.ntmps48
  go_wp2
  go_quiet (skip)
  go_wp2
  refine bodyPost_ret (results_tmp4 rfl _ _ _) rfl ⟨rfl, ?_⟩
  exact belowD B.out _

theorem small_all : ∀ x : Fin 256, gm 2 x.val = xt x.val ∧ gm 3 x.val = xt x.val ^^^ x.val ∧ gm 1 x.val = x.val := by decide +kernel
/-- The code's row of the mixing. -/
def fcol (c : Nat → Nat) (i : Nat) : Nat := xt (c i) ^^^ xt (c ((i + 1) % 4)) ^^^ c ((i + 1) % 4) ^^^ c ((i + 2) % 4) ^^^ c ((i + 3) % 4)
theorem fcol_mix {c : Nat → Nat} (hc : ∀ i, i < 4 → c i < 256) {i : Nat} (hi : i < 4) : fcol c i = mixk fwd c i := by
  have s (j : Nat) (h : j < 4) := small_all ⟨c j, hc j h⟩
  obtain ⟨a0, b0, e0⟩ := s 0 (by omega)
  obtain ⟨a1, b1, e1⟩ := s 1 (by omega)
  obtain ⟨a2, b2, e2⟩ := s 2 (by omega)
  obtain ⟨a3, b3, e3⟩ := s 3 (by omega)
  simp only at a0 b0 e0 a1 b1 e1 a2 b2 e2 a3 b3 e3
  have : i = 0 ∨ i = 1 ∨ i = 2 ∨ i = 3 := by omega
  rcases this with rfl | rfl | rfl | rfl
  · show xt (c 0) ^^^ xt (c 1) ^^^ c 1 ^^^ c 2 ^^^ c 3 = gm 2 (c 0) ^^^ gm 3 (c 1) ^^^ gm 1 (c 2) ^^^ gm 1 (c 3)
    rw [a0, b1, e2, e3]; ac_rfl
  · show xt (c 1) ^^^ xt (c 2) ^^^ c 2 ^^^ c 3 ^^^ c 0 = gm 1 (c 0) ^^^ gm 2 (c 1) ^^^ gm 3 (c 2) ^^^ gm 1 (c 3)
    rw [e0, a1, b2, e3]; ac_rfl
  · show xt (c 2) ^^^ xt (c 3) ^^^ c 3 ^^^ c 0 ^^^ c 1 = gm 1 (c 0) ^^^ gm 1 (c 1) ^^^ gm 2 (c 2) ^^^ gm 3 (c 3)
    rw [e0, e1, a2, b3]; ac_rfl
  · show xt (c 3) ^^^ xt (c 0) ^^^ c 0 ^^^ c 1 ^^^ c 2 = gm 3 (c 0) ^^^ gm 1 (c 1) ^^^ gm 1 (c 2) ^^^ gm 2 (c 3)
    rw [b0, e1, e2, a3]; ac_rfl
def bcol (c : Nat → Nat) (i : Nat) : Nat := gm 14 (c i) ^^^ gm 11 (c ((i + 1) % 4)) ^^^ gm 13 (c ((i + 2) % 4)) ^^^ gm 9 (c ((i + 3) % 4))
theorem bcol_mix (c : Nat → Nat) {i : Nat} (hi : i < 4) : bcol c i = mixk bwd c i := by
  have : i = 0 ∨ i = 1 ∨ i = 2 ∨ i = 3 := by omega
  rcases this with rfl | rfl | rfl | rfl
  · rfl
  · show gm 14 (c 1) ^^^ gm 11 (c 2) ^^^ gm 13 (c 3) ^^^ gm 9 (c 0) = gm 9 (c 0) ^^^ gm 14 (c 1) ^^^ gm 11 (c 2) ^^^ gm 13 (c 3)
    ac_rfl
  · show gm 14 (c 2) ^^^ gm 11 (c 3) ^^^ gm 13 (c 0) ^^^ gm 9 (c 1) = gm 13 (c 0) ^^^ gm 9 (c 1) ^^^ gm 14 (c 2) ^^^ gm 11 (c 3)
    ac_rfl
  · show gm 14 (c 3) ^^^ gm 11 (c 0) ^^^ gm 13 (c 1) ^^^ gm 9 (c 2) = gm 11 (c 0) ^^^ gm 13 (c 1) ^^^ gm 9 (c 2) ^^^ gm 14 (c 3)
    ac_rfl
end Go.Proofs.Ytealknodagdjaaa.Gf8
