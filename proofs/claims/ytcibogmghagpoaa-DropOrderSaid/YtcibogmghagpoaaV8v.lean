import Derived.Test.YtcibogmghagpoaaV8u
import Derived.WalkKit
import Derived.Handy
namespace Go.Proofs.Ytcibogmghagpoaa.Dro
open Go.RowKit Gf8 Aes By8 Cel Cf Tap Drw
/- The landed drop's lots: with, other. -/

set_option maxRecDepth 100000 in
set_option maxHeartbeats 4000000 in
theorem pother (q a b i : Nat) (V : World) :
    Calls Try.prog 33 #[.agg #[.int .i64 ((q : Nat) : Int), .int .i64 ((a : Nat) : Int), .int .i64 ((b : Nat) : Int)], .int .i64 ((i : Nat) : Int)] V fun e w' => e = .returned (.int .i64 (((if a = i then b else a : Nat)) : Int)) ∧ Below V.heap.size V w' := by
  by_cases h : (a : Int) = (i : Int)
  · have e : (if a = i then b else a) = b := if_pos (by omega)
    rw [e]
    go_enter Try.func33, Try.ntmps33
    go_wp2
    go_ret
    exact ⟨rfl, (Below.refl _ _).alloc (Nat.le_refl _) _⟩
  · have e : (if a = i then b else a) = a := if_neg (by omega)
    rw [e]
    go_enter Try.func33, Try.ntmps33
    go_wp2
    go_ret
    exact ⟨rfl, (Below.refl _ _).alloc (Nat.le_refl _) _⟩
set_option maxRecDepth 100000 in
set_option maxHeartbeats 4000000 in
theorem pwith0 (a b k : Nat) (V : World) :
    Calls Try.prog 32 #[.agg #[.int .i64 0, .int .i64 ((a : Nat) : Int), .int .i64 ((b : Nat) : Int)], .int .i64 ((k : Nat) : Int)] V fun e w' => e = .returned (.agg #[.int .i64 1, .int .i64 ((k : Nat) : Int), .int .i64 ((b : Nat) : Int)]) ∧ Below V.heap.size V w' := by
  go_enter Try.func32, Try.ntmps32
  go_wp2
  refine bodyPost_ret (results_cell9 (cs := #[.int .i64 1, .int .i64 ((k : Nat) : Int), .int .i64 ((b : Nat) : Int)]) rfl _ _ (V.heap.size + 1) 55 (0, 0) _ rfl (two9 V _ _).2 Try.underlying55 rfl (by kernel_rfl)) rfl ⟨rfl, (belNew V _).trans ((belNew _ _).mono (belNew V _).size)⟩
set_option maxRecDepth 100000 in
set_option maxHeartbeats 4000000 in
theorem pwith1 (a b k : Nat) (V : World) :
    Calls Try.prog 32 #[.agg #[.int .i64 1, .int .i64 ((a : Nat) : Int), .int .i64 ((b : Nat) : Int)], .int .i64 ((k : Nat) : Int)] V fun e w' => e = .returned (.agg #[.int .i64 2, .int .i64 ((a : Nat) : Int), .int .i64 ((k : Nat) : Int)]) ∧ Below V.heap.size V w' := by
  go_enter Try.func32, Try.ntmps32
  go_wp2
  refine bodyPost_ret (results_cell9 (cs := #[.int .i64 2, .int .i64 ((a : Nat) : Int), .int .i64 ((k : Nat) : Int)]) rfl _ _ (V.heap.size + 1) 55 (0, 0) _ rfl (two9 V _ _).2 Try.underlying55 rfl (by kernel_rfl)) rfl ⟨rfl, (belNew V _).trans ((belNew _ _).mono (belNew V _).size)⟩
set_option maxRecDepth 100000 in
set_option maxHeartbeats 4000000 in
theorem pwith2 (q a b k : Nat) (V : World) (h : 2 ≤ q) (hq : q < 1000000000) :
    Calls Try.prog 32 #[.agg #[.int .i64 ((q : Nat) : Int), .int .i64 ((a : Nat) : Int), .int .i64 ((b : Nat) : Int)], .int .i64 ((k : Nat) : Int)] V fun e w' => e = .returned (.agg #[.int .i64 ((q + 1 : Nat) : Int), .int .i64 ((a : Nat) : Int), .int .i64 ((b : Nat) : Int)]) ∧ Below V.heap.size V w' := by
  have h2 : ¬ (((q : Nat) : Int) < 2) := by omega
  have h3 : ((q : Nat) : Int) + 1 < 9223372036854775808 := by omega
  go_enter Try.func32, Try.ntmps32
  go_wp2
  refine bodyPost_ret (results_cell9 (cs := #[.int .i64 ((q + 1 : Nat) : Int), .int .i64 ((a : Nat) : Int), .int .i64 ((b : Nat) : Int)]) rfl _ _ (V.heap.size + 1) 55 (0, 0) _ rfl (two9 V _ _).2 Try.underlying55 rfl (by kernel_rfl)) rfl ⟨rfl, (belNew V _).trans ((belNew _ _).mono (belNew V _).size)⟩
end Go.Proofs.Ytcibogmghagpoaa.Dro
