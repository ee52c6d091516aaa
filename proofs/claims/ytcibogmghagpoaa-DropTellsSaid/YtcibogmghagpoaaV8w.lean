import Derived.Test.YtcibogmghagpoaaV8v
namespace Go.Proofs.Ytcibogmghagpoaa.Dro
open Go.RowKit Gf8 Aes By8 Cel Cf Tap Drw
/- The landed drop's isRequest, nameOf, isAnswer. -/

set_option maxRecDepth 100000 in
set_option maxHeartbeats 4000000 in
theorem prgt (a : Option Addr) (m cap : Nat) (V : World) :
    Calls Try.prog 28 #[.slice a m cap] V fun e w' => e = .returned (.bool (rgt m)) ∧ w' = V := by
  by_cases h : (m : Int) ≥ 8
  · by_cases h2 : (m : Int) ≤ 48
    · rw [show rgt m = true from rgt_iff.2 ⟨by omega, by omega⟩]
      go_enter Try.func28, Try.ntmps28
      go_wp2
      go_ret
      exact ⟨rfl, rfl⟩
    · rw [show rgt m = false from decide_eq_false (by omega)]
      go_enter Try.func28, Try.ntmps28
      go_wp2
      go_ret
      exact ⟨rfl, rfl⟩
  · rw [show rgt m = false from decide_eq_false (by omega)]
    go_enter Try.func28, Try.ntmps28
    go_wp2
    go_ret
    exact ⟨rfl, rfl⟩
set_option maxRecDepth 100000 in
set_option maxHeartbeats 4000000 in
theorem pname (b off : Nat) (m cap : Nat) (f : Nat → Nat) (V : World) (hm : 8 ≤ m) (hc : m ≤ cap) (hb : b < V.heap.size) (h : ∀ j, j < 8 → V.cell? ⟨b, off + j, none⟩ = some (.int .u8 ((f j : Nat) : Int))) :
    Calls Try.prog 30 #[.slice (some ⟨b, off, none⟩) m cap] V fun e w' => e = .returned (.agg (bA 8 f)) ∧ Below V.heap.size V w' := by
  have hc8 : (8 : Int) ≤ (cap : Int) := by omega
  have k1 : ∀ w, (Instr.arrayAt 22 (.slice (some ⟨b, off, none⟩) 8 cap)).run Try.prog w = .ok (.pointer (some ⟨b, off, none⟩)) w := by
    intro w
    simp [Instr.arrayAt, run_underlying Try.underlying22]
  have kc : ∀ j, j < 8 → (V.alloc (.cells #[.int .u8 0, .int .u8 0, .int .u8 0, .int .u8 0, .int .u8 0, .int .u8 0, .int .u8 0, .int .u8 0] 22)).cell? ⟨b, off + j, none⟩ = some (.int .u8 ((f j : Nat) : Int)) := fun j hj => by
    rw [cell_below (belNew V _) hb, h j hj]
  have k0_ := kc 0 (by omega)
  have k1_ := kc 1 (by omega)
  have k2_ := kc 2 (by omega)
  have k3_ := kc 3 (by omega)
  have k4_ := kc 4 (by omega)
  have k5_ := kc 5 (by omega)
  have k6_ := kc 6 (by omega)
  have k7_ := kc 7 (by omega)
  rw [Nat.add_zero] at k0_
  clear kc h hm hc
  go_enter Try.func30, Try.ntmps30
  go_wp2
  refine bodyPost_ret (results_cell9 (cs := bA 8 f) rfl _ _ V.heap.size 22 (0, 0) _ rfl (heapNew V _) Try.underlying22 rfl (by rw [bA_size]; kernel_rfl)) rfl ⟨rfl, belNew V _⟩
set_option maxRecDepth 100000 in
set_option maxHeartbeats 4000000 in
theorem pans0 (a : Option Addr) (cap : Nat) (V : World) :
    Calls Try.prog 23 #[.slice a 0 cap] V fun e w' => e = .returned (.bool false) ∧ w' = V := by
  go_enter Try.func23, Try.ntmps23
  go_wp2
  go_ret
  exact ⟨rfl, rfl⟩
set_option maxRecDepth 100000 in
set_option maxHeartbeats 4000000 in
theorem pansL (a : Option Addr) (m cap : Nat) (V : World) (h : 41 < m) :
    Calls Try.prog 23 #[.slice a m cap] V fun e w' => e = .returned (.bool false) ∧ w' = V := by
  have h1 : ¬ (((m : Nat) : Int) = 0) := by omega
  have h2 : ((m : Nat) : Int) > 41 := by omega
  go_enter Try.func23, Try.ntmps23
  go_wp2
  go_ret
  exact ⟨rfl, rfl⟩
set_option maxRecDepth 100000 in
set_option maxHeartbeats 4000000 in
theorem pans1 (b off m cap : Nat) (V : World) (h1 : 1 ≤ m) (h2 : m ≤ 41) (hc : V.cell? ⟨b, off, none⟩ = some (.int .u8 ((1 : Nat) : Int))) :
    Calls Try.prog 23 #[.slice (some ⟨b, off, none⟩) m cap] V fun e w' => e = .returned (.bool true) ∧ w' = V := by
  have q1 : ¬ (((m : Nat) : Int) = 0) := by omega
  have q2 : ¬ (((m : Nat) : Int) > 41) := by omega
  have q3 : (0 : Int) < ((m : Nat) : Int) := by omega
  go_enter Try.func23, Try.ntmps23
  go_wp2
  go_ret
  exact ⟨rfl, rfl⟩
set_option maxRecDepth 100000 in
set_option maxHeartbeats 4000000 in
theorem pans0a (b off m cap : Nat) (V : World) (h1 : 1 ≤ m) (h2 : m ≤ 41) (hc : V.cell? ⟨b, off, none⟩ = some (.int .u8 ((0 : Nat) : Int))) :
    Calls Try.prog 23 #[.slice (some ⟨b, off, none⟩) m cap] V fun e w' => e = .returned (.bool (decide (m = 1))) ∧ w' = V := by
  have q1 : ¬ (((m : Nat) : Int) = 0) := by omega
  have q2 : ¬ (((m : Nat) : Int) > 41) := by omega
  have q3 : (0 : Int) < ((m : Nat) : Int) := by omega
  have em : ((((m : Nat) : Int)) == 1) = decide (m = 1) := by
    by_cases e : m = 1
    · subst e; rfl
    · rw [decide_eq_false e]
      exact beq_eq_false_iff_ne.2 (by omega)
  rw [← em]
  clear em
  go_enter Try.func23, Try.ntmps23
  go_wp2
  go_ret
  exact ⟨rfl, rfl⟩
set_option maxRecDepth 100000 in
set_option maxHeartbeats 4000000 in
theorem pans2a (b off m cap : Nat) (V : World) (h1 : 1 ≤ m) (h2 : m ≤ 41) (hc : V.cell? ⟨b, off, none⟩ = some (.int .u8 ((2 : Nat) : Int))) :
    Calls Try.prog 23 #[.slice (some ⟨b, off, none⟩) m cap] V fun e w' => e = .returned (.bool (decide (m = 1))) ∧ w' = V := by
  have q1 : ¬ (((m : Nat) : Int) = 0) := by omega
  have q2 : ¬ (((m : Nat) : Int) > 41) := by omega
  have q3 : (0 : Int) < ((m : Nat) : Int) := by omega
  have em : ((((m : Nat) : Int)) == 1) = decide (m = 1) := by
    by_cases e : m = 1
    · subst e; rfl
    · rw [decide_eq_false e]
      exact beq_eq_false_iff_ne.2 (by omega)
  rw [← em]
  clear em
  go_enter Try.func23, Try.ntmps23
  go_wp2
  go_ret
  exact ⟨rfl, rfl⟩
set_option maxRecDepth 100000 in
set_option maxHeartbeats 4000000 in
theorem pans3a (b off m cap : Nat) (V : World) (h1 : 1 ≤ m) (h2 : m ≤ 41) (hc : V.cell? ⟨b, off, none⟩ = some (.int .u8 ((3 : Nat) : Int))) :
    Calls Try.prog 23 #[.slice (some ⟨b, off, none⟩) m cap] V fun e w' => e = .returned (.bool (decide (m = 1))) ∧ w' = V := by
  have q1 : ¬ (((m : Nat) : Int) = 0) := by omega
  have q2 : ¬ (((m : Nat) : Int) > 41) := by omega
  have q3 : (0 : Int) < ((m : Nat) : Int) := by omega
  have em : ((((m : Nat) : Int)) == 1) = decide (m = 1) := by
    by_cases e : m = 1
    · subst e; rfl
    · rw [decide_eq_false e]
      exact beq_eq_false_iff_ne.2 (by omega)
  rw [← em]
  clear em
  go_enter Try.func23, Try.ntmps23
  go_wp2
  go_ret
  exact ⟨rfl, rfl⟩
set_option maxRecDepth 100000 in
set_option maxHeartbeats 4000000 in
theorem pansX (b off m cap : Nat) (x : Nat) (V : World) (h1 : 1 ≤ m) (h2 : m ≤ 41) (hx : 3 < x) (hc : V.cell? ⟨b, off, none⟩ = some (.int .u8 ((x : Nat) : Int))) :
    Calls Try.prog 23 #[.slice (some ⟨b, off, none⟩) m cap] V fun e w' => e = .returned (.bool false) ∧ w' = V := by
  have q1 : ¬ (((m : Nat) : Int) = 0) := by omega
  have q2 : ¬ (((m : Nat) : Int) > 41) := by omega
  have q3 : (0 : Int) < ((m : Nat) : Int) := by omega
  have r0 : ¬ (((x : Nat) : Int) = 0) := by omega
  have r1 : ¬ (((x : Nat) : Int) = 1) := by omega
  have r2 : ¬ (((x : Nat) : Int) = 2) := by omega
  have r3 : ¬ (((x : Nat) : Int) = 3) := by omega
  go_enter Try.func23, Try.ntmps23
  go_wp2
  go_ret
  exact ⟨rfl, rfl⟩
set_option maxRecDepth 100000 in
set_option maxHeartbeats 4000000 in
theorem pans (f : Nat → Nat) (m : Nat) (v : Value) (V : World) (hv : SliceN V v m f) :
    Calls Try.prog 23 #[v] V fun e w' => e = .returned (.bool (anQ m f)) ∧ w' = V := by
  obtain ⟨a, cap, rfl, -, -, hs⟩ := hv.shape
  by_cases h0 : m = 0
  · subst h0
    rw [show anQ 0 f = false from decide_eq_false (by omega)]
    exact pans0 a cap V
  by_cases h1 : 41 < m
  · rw [show anQ m f = false from decide_eq_false (by omega)]
    exact pansL a m cap V h1
  obtain ⟨b, off, rfl, hb, hc⟩ := hs (by omega)
  have hc := hc 0 (by omega)
  rw [Nat.add_zero] at hc
  have e : anQ m f = if f 0 = 1 then true else if f 0 ≤ 3 then decide (m = 1) else false := by
    unfold anQ
    split
    · exact decide_eq_true ⟨by omega, by omega, by omega, Or.inl (by omega)⟩
    · split
      · exact decide_eq_decide.2 ⟨fun h => by omega, fun h => ⟨by omega, by omega, by omega, Or.inr h⟩⟩
      · exact decide_eq_false (by omega)
  rw [e]
  by_cases e1 : f 0 = 1
  · rw [if_pos e1]
    exact pans1 b off m cap V (by omega) (by omega) (by rw [hc, e1])
  rw [if_neg e1]
  by_cases e3 : f 0 ≤ 3
  · rw [if_pos e3]
    have : f 0 = 0 ∨ f 0 = 2 ∨ f 0 = 3 := by omega
    rcases this with q | q | q
    · exact pans0a b off m cap V (by omega) (by omega) (by rw [hc, q])
    · exact pans2a b off m cap V (by omega) (by omega) (by rw [hc, q])
    · exact pans3a b off m cap V (by omega) (by omega) (by rw [hc, q])
  · rw [if_neg e3]
    exact pansX b off m cap (f 0) V (by omega) (by omega) (by omega) hc
end Go.Proofs.Ytcibogmghagpoaa.Dro
