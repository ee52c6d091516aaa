import Derived.Test.YtppaponnlmjglaaL1
import Derived.Test.YtppaponnlmjglaaR0
import Derived.Test.YtppaponnlmjglaaJ0
namespace Go.Proofs.Ytppaponnlmjglaa.Aes
open Go.RowKit Gf8
/- Arrays of n bytes as rows of memory. -/

theorem size16 (f : Nat → Nat) : (Try.prog.info? 45).map (·.size) = some (bA 16 f).size := by rw [bA_size]; kernel_rfl
theorem zero16 : ∀ w, (zeroValue 45).run Try.prog w = .ok (.agg (bA 16 fun _ => 0)) w :=
  (zero_of_info (n := 16) (by kernel_rfl)).1
section
variable {o : Oper} {a : Act} {w : World}
end
end Go.Proofs.Ytppaponnlmjglaa.Aes
