import Derived.Laws.Bits64
namespace Go.Proofs.Ytcibogmghagpoaa.Gf8
/- The bit operations of bytes and ints, over Nat: they name nothing of a program. -/

theorem wrap_i64_nat {n : Nat} (h : n < 9223372036854775808) : IntKind.i64.wrap (n : Int) = n := by simp [IntKind.wrap, IntKind.bits, IntKind.signed]; omega
end Go.Proofs.Ytcibogmghagpoaa.Gf8
