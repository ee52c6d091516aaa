import Derived.Test.YtdddecclajmicaaU0
namespace Go.Proofs.Ytdddecclajmicaa
open Go.RowKit

set_option maxRecDepth 20000 in
set_option maxHeartbeats 400000 in
theorem all_any (a b : Nat) (n : Int) (w : World) (ha : a < 256) (hb : b < 256) (h0 : -9223372036854775808 ≤ n) (h1 : n < 9223372036854775808) :
    Calls Try.prog 3 #[.int .u8 a, .int .u8 b, .int .i64 n] w fun e w' => e = .returned (.bool true) ∧ Below w.heap.size w w' := by
  have H0 : Hid (_) := h0
  have H1 : Hid (_) := h1
  clear h0 h1
  go_enter Try.func3, Try.ntmps3
  go_wp2_with (first
    | (go_at_call 8; refine (awake_any _).mono ?_; rintro e w1 ⟨rfl, b1⟩)
    | (go_at_call 9; refine (add_any a b _ ha hb).mono ?_; rintro e w' ⟨rfl, rfl⟩)
    | (go_at_call 10; refine (radd_any a b _ ha hb).mono ?_; rintro e w' ⟨rfl, rfl⟩)
    | (go_at_call 11; refine (mul_any a b _ ha hb).mono ?_; rintro e w' ⟨rfl, rfl⟩)
    | (go_at_call 12; refine (rmul_any a b _ ha hb).mono ?_; rintro e w' ⟨rfl, rfl⟩)
    | (go_at_call 13; refine (inv_any a _ ha).mono ?_; rintro e w' ⟨rfl, rfl⟩)
    | (go_at_call 14; refine (rinv_any a _ ha).mono ?_; rintro e w' ⟨rfl, rfl⟩)
    | (go_at_call 15; refine (pow_any a n _ ha H0.out H1.out).mono ?_; rintro e w' ⟨rfl, rfl⟩)
    | (go_at_call 16; refine (rpow_any a n _ ha).mono ?_; rintro e w' ⟨rfl, rfl⟩)
    | (go_at_call 17; refine (sub_any a _ ha).mono ?_; rintro e w2 ⟨rfl, b2⟩)
    | (go_at_call 18; refine (rsub_any a _ ha).mono ?_; rintro e w' ⟨rfl, rfl⟩)
    | (go_at_call 19; refine (unsub_any a _ ha).mono ?_; rintro e w3 ⟨rfl, b3⟩)
    | (go_at_call 20; refine (runs_any a _ ha).mono ?_; rintro e w' ⟨rfl, rfl⟩))
  go_ret
  exact ⟨rfl, below_on (below_on b1 b2) b3⟩
end Go.Proofs.Ytdddecclajmicaa
