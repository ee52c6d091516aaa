import Derived.Test.YtedjoakpbknflaaDoorRows
import Derived.WalkKit
import Derived.WalkSpells
namespace Go.Proofs.YtedjoakpbknflaaDoor
open Go.RowKit

/-- x turned to the left by m places. -/
def rotl (x : Int) (m : Nat) : Int := bits .or .u32 (x * 2 ^ m % 4294967296) (x / 2 ^ (32 - m))
/-- x turned to the right by n places. -/
def rotr (x : Int) (n : Nat) : Int := rotl x (32 - n)
def xor32 (x y : Int) : Int := bits .xor .u32 x y
def and32 (x y : Int) : Int := bits .and .u32 x y
def or32 (x y : Int) : Int := bits .or .u32 x y
def add32 (x y : Int) : Int := (x + y) % 4294967296
def sig0 (x : Int) : Int := bits .xor .u32 (bits .xor .u32 (rotr x 7) (rotr x 18)) (x / 8)
def sig1 (x : Int) : Int := bits .xor .u32 (bits .xor .u32 (rotr x 17) (rotr x 19)) (x / 1024)
def bsig0 (x : Int) : Int := bits .xor .u32 (bits .xor .u32 (rotr x 2) (rotr x 13)) (rotr x 22)
def bsig1 (x : Int) : Int := bits .xor .u32 (bits .xor .u32 (rotr x 6) (rotr x 11)) (rotr x 25)

theorem neg_and : ∀ n : Fin 32, bits .and .u64 (IntKind.u64.wrap (-(n.val : Int))) 31 = (((32 - n.val) % 32 : Nat) : Int) := by decide +kernel

set_option maxHeartbeats 400000 in
theorem rot_any (x k : Int) (m : Nat) (w : World) (hm : m ≤ 31) (hk : bits .and .u64 (IntKind.u64.wrap k) 31 = (m : Int)) :
    Calls Tryd.prog 47 #[.int .u32 x, .int .i64 k] w fun e w' => e = .returned (.int .u32 (rotl x m)) ∧ w' = w := by
  have h0 : (0 : Int) ≤ (m : Int) := by omega
  have h1 : (0 : Int) ≤ IntKind.u64.wrap (32 - (m : Int)) := by simp [IntKind.wrap, IntKind.bits, IntKind.signed]; omega
  have h2 : IntKind.u64.wrap (32 - (m : Int)) = 32 - (m : Int) := by simp [IntKind.wrap, IntKind.bits, IntKind.signed]; omega
  have h3 : (32 - (m : Int)).toNat = 32 - m := by omega
  have h4 : min m 32 = m := by omega
  have h5 : min (32 - m) 32 = 32 - m := by omega
  go_enter Tryd.func47, Tryd.ntmps47
  go_wp2
  go_ret
  exact ⟨rfl, rfl⟩

set_option maxHeartbeats 400000 in
theorem turned_any (x : Int) (k : Int) (n : Nat) (w : World) (hk : k = (n : Int)) (h1 : 1 ≤ n) (hn : n ≤ 31) :
    Calls Tryd.prog 46 #[.int .u32 x, .int .i64 k] w fun e w' => e = .returned (.int .u32 (rotr x n)) ∧ w' = w := by
  subst hk
  have hw : IntKind.i64.wrap (-(n : Int)) = -(n : Int) := by simp [IntKind.wrap, IntKind.bits, IntKind.signed]; omega
  have h : bits .and .u64 (IntKind.u64.wrap (-(n : Int))) 31 = ((32 - n : Nat) : Int) := by
    have := neg_and ⟨n, by omega⟩
    rw [this]
    simp only
    rw [Nat.mod_eq_of_lt (by omega)]
  have H : Hid (bits .and .u64 (IntKind.u64.wrap (-(n : Int))) 31 = ((32 - n : Nat) : Int)) := h
  clear h
  go_enter Tryd.func46, Tryd.ntmps46
  go_wp2_with (go_at_call 47; refine (rot_any x _ (32 - n) _ (by omega) H.out).mono ?_; rintro e w' ⟨rfl, rfl⟩)
  go_ret
  exact ⟨rfl, rfl⟩

set_option maxHeartbeats 400000 in
theorem sig0_any (x : Int) (w : World) :
    Calls Tryd.prog 45 #[.int .u32 x] w fun e w' => e = .returned (.int .u32 (sig0 x)) ∧ w' = w := by
  go_enter Tryd.func45, Tryd.ntmps45
  go_wp2_with fail
  refine (turned_any x 7 7 _ rfl (by omega) (by omega)).mono ?_
  rintro e w' ⟨rfl, rfl⟩
  go_wp2_with fail
  refine (turned_any x 18 18 _ rfl (by omega) (by omega)).mono ?_
  rintro e w' ⟨rfl, rfl⟩
  go_wp2_with fail
  go_ret
  exact ⟨rfl, rfl⟩
set_option maxHeartbeats 400000 in
theorem sig1_any (x : Int) (w : World) :
    Calls Tryd.prog 44 #[.int .u32 x] w fun e w' => e = .returned (.int .u32 (sig1 x)) ∧ w' = w := by
  go_enter Tryd.func44, Tryd.ntmps44
  go_wp2_with fail
  refine (turned_any x 17 17 _ rfl (by omega) (by omega)).mono ?_
  rintro e w' ⟨rfl, rfl⟩
  go_wp2_with fail
  refine (turned_any x 19 19 _ rfl (by omega) (by omega)).mono ?_
  rintro e w' ⟨rfl, rfl⟩
  go_wp2_with fail
  go_ret
  exact ⟨rfl, rfl⟩
set_option maxHeartbeats 400000 in
theorem bsig0_any (x : Int) (w : World) :
    Calls Tryd.prog 43 #[.int .u32 x] w fun e w' => e = .returned (.int .u32 (bsig0 x)) ∧ w' = w := by
  go_enter Tryd.func43, Tryd.ntmps43
  go_wp2_with fail
  refine (turned_any x 2 2 _ rfl (by omega) (by omega)).mono ?_
  rintro e w' ⟨rfl, rfl⟩
  go_wp2_with fail
  refine (turned_any x 13 13 _ rfl (by omega) (by omega)).mono ?_
  rintro e w' ⟨rfl, rfl⟩
  go_wp2_with fail
  refine (turned_any x 22 22 _ rfl (by omega) (by omega)).mono ?_
  rintro e w' ⟨rfl, rfl⟩
  go_wp2_with fail
  go_ret
  exact ⟨rfl, rfl⟩
set_option maxHeartbeats 400000 in
theorem bsig1_any (x : Int) (w : World) :
    Calls Tryd.prog 42 #[.int .u32 x] w fun e w' => e = .returned (.int .u32 (bsig1 x)) ∧ w' = w := by
  go_enter Tryd.func42, Tryd.ntmps42
  go_wp2_with fail
  refine (turned_any x 6 6 _ rfl (by omega) (by omega)).mono ?_
  rintro e w' ⟨rfl, rfl⟩
  go_wp2_with fail
  refine (turned_any x 11 11 _ rfl (by omega) (by omega)).mono ?_
  rintro e w' ⟨rfl, rfl⟩
  go_wp2_with fail
  refine (turned_any x 25 25 _ rfl (by omega) (by omega)).mono ?_
  rintro e w' ⟨rfl, rfl⟩
  go_wp2_with fail
  go_ret
  exact ⟨rfl, rfl⟩

end Go.Proofs.YtedjoakpbknflaaDoor
