import Derived.Test.YtdddecclajmicaaS5
import Derived.Test.YtdddecclajmicaaS6
namespace Go.Proofs.Ytdddecclajmicaa
open Go.RowKit

theorem below_on {w w1 w2 : World} (h1 : Below w.heap.size w w1) (h2 : Below w1.heap.size w1 w2) : Below w.heap.size w w2 := h1.trans (h2.mono h1.size)
theorem wf_u8 {z : Int} (h : (Lit.int .u8 z).wf = true) : 0 ≤ z ∧ z < 256 := by
  have a : IntKind.u8.min = 0 := rfl
  have b : IntKind.u8.max = 255 := rfl
  simp [Lit.wf] at h
  omega
theorem wf_i64 {z : Int} (h : (Lit.int .i64 z).wf = true) : -9223372036854775808 ≤ z ∧ z < 9223372036854775808 := by
  have a : IntKind.i64.min = -9223372036854775808 := rfl
  have b : IntKind.i64.max = 9223372036854775807 := rfl
  simp [Lit.wf] at h
  omega
theorem awake_mul : gm 87 131 = 193 := by decide +kernel
set_option maxRecDepth 20000 in
theorem awake_any (w : World) :
    Calls Try.prog 8 #[] w fun e w' => e = .returned (.bool true) ∧ Below w.heap.size w w' := by
  have M : Hid (∀ W : World, Calls Try.prog 11 #[.int .u8 87, .int .u8 131] W fun e w' => e = .returned (.int .u8 193) ∧ w' = W) := by
    intro W
    have h := mul_any 87 131 W (by omega) (by omega)
    rw [awake_mul] at h
    exact h
  have S : Hid (∀ W : World, Calls Try.prog 17 #[.int .u8 0] W fun e w' => e = .returned (.int .u8 99) ∧ Below W.heap.size W w') := fun W => sub_any 0 W (by omega)
  go_enter Try.func8, Try.ntmps8
  go_wp2_with (first
    | (go_at_call 11; refine Calls.mono (M.out _) ?_; rintro e w' ⟨rfl, rfl⟩)
    | (go_at_call 17; refine Calls.mono (S.out _) ?_; rintro e w1 ⟨rfl, b1⟩))
  go_ret
  exact ⟨rfl, b1⟩
end Go.Proofs.Ytdddecclajmicaa
