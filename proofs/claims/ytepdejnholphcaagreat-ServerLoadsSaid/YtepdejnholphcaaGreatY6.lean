import Derived.Test.YtepdejnholphcaaGreatY0
import Derived.Laws.BytesArg
import Derived.Laws.AppendOwnNone
import Derived.WalkKit
import Derived.Laws.AppendOwn
namespace Go.Proofs.YtepdejnholphcaaGreat.By8
open Go.RowKit Gf8 Aes

/-- A piece of a []byte. -/
theorem SliceN.sub {w : World} {a : Option Addr} {len cap : Nat} {p : Nat → Nat} (hv : SliceN w (.slice a len cap) len p) (l h : Nat) (h1 : l ≤ h) (h2 : h ≤ len) :
    SliceN w (sliced a l h cap 1) (h - l) (fun j => p (l + j)) := by
  obtain ⟨⟨a', cap', e, e1, e2, e3⟩, hp⟩ := hv
  obtain ⟨rfl, _, rfl⟩ : a = a' ∧ len = len ∧ cap = cap' := by
    injection e with x y z
    exact ⟨x, rfl, z⟩
  refine ⟨⟨_, cap - l, rfl, by omega, by omega, fun h0 => ?_⟩, fun j hj => hp (l + j) (by omega)⟩
  obtain ⟨b, off, rfl, hb, hc⟩ := e3 (by omega)
  rw [if_neg (by omega)]
  refine ⟨b, off + l, ?_, hb, fun j hj => ?_⟩
  · simp [Addr.add]
  · rw [Nat.add_assoc]; exact hc (l + j) (by omega)
section
variable {o : Oper} {a : Act} {w : World}
theorem execSubI {x y : Operand} {p q : Nat} (ho : o.op = .binOp .sub 3 x y 3) (hx : a.eval x = .int .i64 p) (hy : a.eval y = .int .i64 q) (h : q ≤ p) (hp : p < 9223372036854775808) : (execOp a.eval o).run Tryz.prog w = .ok (.value (.int .i64 (p - q : Nat))) w := by
  have e2 : IntKind.i64.wrap ((p : Int) - q) = ((p - q : Nat) : Int) := by rw [show (p : Int) - q = ((p - q : Nat) : Int) by omega]; exact wrap_i64_nat (by omega)
  unfold execOp
  simp only [ho, hx, hy]
  simp [go_sem, e2]
end
end Go.Proofs.YtepdejnholphcaaGreat.By8

namespace Go.Proofs.YtepdejnholphcaaGreat.By8
open Go.RowKit

section
variable {P : Program} (w : World)
end
end Go.Proofs.YtepdejnholphcaaGreat.By8
namespace Go.Proofs.YtepdejnholphcaaGreat.Aes
open Go.RowKit Gf8 By8
theorem execLenV {o : Oper} {a : Act} {w : World} {x : Operand} {v : Value} {len : Nat} (ho : o.op = .call { callee := .builtin .len, args := #[x], argTypes := #[22] }) (hx : a.eval x = v) (hv : ∃ ao c, v = .slice ao len c) : (execOp a.eval o).run Tryz.prog w = .ok (.value (.int .i64 (len : Int))) w := by
  obtain ⟨ao, c, rfl⟩ := hv
  unfold execOp
  simp only [ho, resolve, invoke, builtin, Sem.run_bind, Sem.run_pure, Result.andThen_ok, List.map_toArray, List.map_cons, List.map_nil, hx]
  simp [go_sem]
/-- Two lists that share no row. -/
def Dis (u v : Value) : Prop := ∀ k, u.ownBlock = some k → v.ownBlock ≠ some k
theorem Dis.symm {u v : Value} (h : Dis u v) : Dis v u := fun k h1 h2 => h k h2 h1
theorem own_base {W : World} {B C n : Nat} {v : Value} {xs : List Value} (h : W.ownsRow C 5 1 v n xs) (hB : B ≤ C) : W.ownsRow B 5 1 v n xs := by
  refine ⟨h.1, ?_⟩
  rcases h.2 with h | ⟨g, cap, cur, e, hC, h2⟩
  · exact Or.inl h
  · exact Or.inr ⟨g, cap, cur, e, Nat.le_trans hB hC, h2⟩
theorem dis_new {W W' : World} {B n m : Nat} {u r : Value} {xs ys : List Value} (h : W.ownsRow B 5 1 u n xs) (h' : W'.ownsRow W.heap.size 5 1 r m ys) : Dis u r := by
  intro k hk hr
  have h1 := (h.lt k hk).2
  have h2 := (h'.lt k hr).1
  omega
end Go.Proofs.YtepdejnholphcaaGreat.Aes
