import Derived.Test.YtnfokemikcigbaaL9c
import Derived.Test.YtnfokemikcigbaaZ9a
import Derived.Test.YtnfokemikcigbaaF9c
import Derived.Test.YtnfokemikcigbaaC9i
namespace Go.Proofs.Ytnfokemikcigbaa.Duc
open Go.RowKit Gf8 Aes By8 Cel Cf Win Drw
/- Stage 18 (duct): a book in memory; what a package of ducts keeps (DImpl). -/

section
variable {P : Program} {fn : Func} {p u v x : Tmp} {ty : TypeId} (tmps : Array Value) (w : World) (g : Nat) (t : TypeId) (cs : Array Value) (fr : Nat × Nat) (d : TypeDesc)
end
section
variable {o : Oper} {a : Act} {w : World}
end
/-- What a package of ducts keeps: R W F v x n cap cl: the duct v holds x 0 .. x (n - 1), its memory is the blocks F. -/
structure DImpl (El : Value → Prop) (zv : Value) (fN fP fT fC fL fK fD fU fE : FuncId) where
  R : World → (Nat → Prop) → Value → (Nat → Value) → Nat → Nat → Bool → Prop
  nil : ∀ W x, R W (fun _ => False) (.pointer none) x 0 0 true
  frame : ∀ {W X F v x n k c}, R W F v x n k c → (∀ b, F b → X.heap[b]? = W.heap[b]?) → W.heap.size ≤ X.heap.size → R X F v x n k c
  lt : ∀ {W F v x n k c}, R W F v x n k c → ∀ b, F b → b < W.heap.size
  cg : ∀ {W F v x y n k c}, R W F v x n k c → (∀ j, j < n → x j = y j) → R W F v y n k c
  le : ∀ {W F v x n k c}, R W F v x n k c → n ≤ k ∧ k ≤ 1024
  ptr : ∀ {W F v x n k c}, R W F v x n k c → ∃ p, v = .pointer p
  new : ∀ (s : Int) (V : World) (x : Nat → Value), Calls Try.prog fN #[.int .i64 s] V fun e w' => ((0 ≤ s ∧ s ≤ 1024 → ∃ b F, e = .returned (.tuple #[.pointer (some ⟨b, 0, none⟩), .int .i64 ((0 : Nat) : Int)]) ∧ R w' F (.pointer (some ⟨b, 0, none⟩)) x 0 s.toNat false ∧ ∀ q, F q → V.heap.size ≤ q) ∧ (¬ (0 ≤ s ∧ s ≤ 1024) → e = .returned (.tuple #[.pointer none, .int .i64 ((2 : Nat) : Int)]))) ∧ Below V.heap.size V w'
  put : ∀ {V F v x n k c u}, R V F v x n k c → El u → Calls Try.prog fP #[v, u] V fun e w' => ∃ F', e = .returned (.tuple #[.bool (decide (c = false ∧ n < k)), .int .i64 (((if c then 180 else 0 : Nat) : Nat) : Int)]) ∧ R w' F' v (up x n u) (if c = false ∧ n < k then n + 1 else n) k c ∧ Saved F V w' ∧ ∀ q, F' q → F q ∨ V.heap.size ≤ q
  take : ∀ {V F v x n k c}, R V F v x n k c → Calls Try.prog fT #[v] V fun e w' => ∃ F', e = .returned (.tuple #[if 0 < n then x 0 else zv, .bool (decide (0 < n)), .int .i64 (((if n = 0 ∧ c = true then 180 else 0 : Nat) : Nat) : Int)]) ∧ R w' F' v (fun j => x (j + 1)) (n - 1) k c ∧ Saved F V w' ∧ ∀ q, F' q → F q ∨ V.heap.size ≤ q
  close : ∀ {V F v x n k c}, R V F v x n k c → Calls Try.prog fC #[v] V fun e w' => ∃ F', e = .returned (.int .i64 (((if c then 180 else 0 : Nat) : Nat) : Int)) ∧ R w' F' v x n k true ∧ Saved F V w' ∧ ∀ q, F' q → F q ∨ V.heap.size ≤ q
  len : ∀ {V F v x n k c}, R V F v x n k c → Calls Try.prog fL #[v] V fun e w' => e = .returned (.int .i64 ((n : Nat) : Int)) ∧ Below V.heap.size V w'
  cap : ∀ {V F v x n k c}, R V F v x n k c → Calls Try.prog fK #[v] V fun e w' => e = .returned (.int .i64 ((k : Nat) : Int)) ∧ Below V.heap.size V w'
  closed : ∀ {V F v x n k c}, R V F v x n k c → Calls Try.prog fD #[v] V fun e w' => e = .returned (.bool c) ∧ Below V.heap.size V w'
  canPut : ∀ {V F v x n k c}, R V F v x n k c → Calls Try.prog fU #[v] V fun e w' => e = .returned (.bool (decide (c = false ∧ n < k))) ∧ Below V.heap.size V w'
  canTake : ∀ {V F v x n k c}, R V F v x n k c → Calls Try.prog fE #[v] V fun e w' => e = .returned (.bool (decide (0 < n))) ∧ Below V.heap.size V w'
end Go.Proofs.Ytnfokemikcigbaa.Duc
