import Derived.Test.YtldhhfkplongiaaV9l
import Derived.Lib.Bytes
namespace Go.Proofs.Ytldhhfkplongiaa.Tap
open Go.RowKit Gf8 Aes By8 Cel Cf
/- The program's Take with its errors, bytes.Clone, the law's awake. -/

theorem own_none9 (V : World) (p : Nat → Nat) : (V.alloc (.cells #[] 5)).ownsRow V.heap.size 5 1 (.slice (some ⟨V.heap.size, 0, none⟩) 0 0) 0 (bytesL 0 p) :=
  ⟨rfl, .inr ⟨V.heap.size, 0, #[], rfl, Nat.le_refl _, heapNew V _, Nat.le_refl _, by unfold maxLen; omega, rfl, rfl⟩⟩
def l123 : Nat → Nat := fun j => j + 1
theorem slice123 (V : World) : SliceN (V.alloc (.cells #[.int .u8 1, .int .u8 2, .int .u8 3] 5)) (.slice (some ⟨V.heap.size, 0, none⟩) 3 3) 3 l123 :=
  lit_slice (heapNew V _) (fun j hj => by
    match j, hj with
    | 0, _ => rfl
    | 1, _ => rfl
    | 2, _ => rfl
    | k + 3, h => omega) (fun j hj => by unfold l123; omega) (by omega)
theorem slice12 (V : World) : SliceN (V.alloc (.cells #[.int .u8 1, .int .u8 2] 5)) (.slice (some ⟨V.heap.size, 0, none⟩) 2 2) 2 l123 :=
  lit_slice (heapNew V _) (fun j hj => by
    match j, hj with
    | 0, _ => rfl
    | 1, _ => rfl
    | k + 2, h => omega) (fun j hj => by unfold l123; omega) (by omega)
end Go.Proofs.Ytldhhfkplongiaa.Tap
