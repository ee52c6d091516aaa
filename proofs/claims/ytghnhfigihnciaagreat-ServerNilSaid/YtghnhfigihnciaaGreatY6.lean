import Derived.Test.YtghnhfigihnciaaGreatY0
import Derived.Laws.AppendOwnNone
import Derived.Laws.BytesArg
import Derived.WalkKit
import Derived.Laws.AppendOwn
namespace Go.Proofs.YtghnhfigihnciaaGreat.By8
open Go.RowKit

section
variable {P : Program} (w : World)
end
end Go.Proofs.YtghnhfigihnciaaGreat.By8
namespace Go.Proofs.YtghnhfigihnciaaGreat.Aes
open Go.RowKit Gf8 By8
theorem execLenV {o : Oper} {a : Act} {w : World} {x : Operand} {v : Value} {len : Nat} (ho : o.op = .call { callee := .builtin .len, args := #[x], argTypes := #[26] }) (hx : a.eval x = v) (hv : ∃ ao c, v = .slice ao len c) : (execOp a.eval o).run Tryz.prog w = .ok (.value (.int .i64 (len : Int))) w := by
  obtain ⟨ao, c, rfl⟩ := hv
  unfold execOp
  simp only [ho, resolve, invoke, builtin, Sem.run_bind, Sem.run_pure, Result.andThen_ok, List.map_toArray, List.map_cons, List.map_nil, hx]
  simp [go_sem]
/-- Two lists that share no row. -/
def Dis (u v : Value) : Prop := ∀ k, u.ownBlock = some k → v.ownBlock ≠ some k
theorem Dis.symm {u v : Value} (h : Dis u v) : Dis v u := fun k h1 h2 => h k h2 h1
theorem own_base {W : World} {B C n : Nat} {v : Value} {xs : List Value} (h : W.ownsRow C 5 1 v n xs) (hB : B ≤ C) : W.ownsRow B 5 1 v n xs := by
  refine ⟨h.1, ?_⟩
  rcases h.2 with h | ⟨g, cap, cur, e, hC, h2⟩
  · exact Or.inl h
  · exact Or.inr ⟨g, cap, cur, e, Nat.le_trans hB hC, h2⟩
theorem dis_new {W W' : World} {B n m : Nat} {u r : Value} {xs ys : List Value} (h : W.ownsRow B 5 1 u n xs) (h' : W'.ownsRow W.heap.size 5 1 r m ys) : Dis u r := by
  intro k hk hr
  have h1 := (h.lt k hk).2
  have h2 := (h'.lt k hr).1
  omega
end Go.Proofs.YtghnhfigihnciaaGreat.Aes
