import Derived.Test.YtnfokemikcigbaaX7b
import Derived.Test.YtnfokemikcigbaaX7f
import Derived.Test.YtnfokemikcigbaaO0
import Derived.Deep.RegionHeld
namespace Go.Proofs.Ytnfokemikcigbaa.Cf
open Go.RowKit Gf8 Aes By8 Cel
/- Closed frames: operations of bytes, ints, lists of bytes and lists of these. Gathered by tools/mkE9a.py. -/

section
variable {o : Oper} {a : Act} {w W : World}
theorem execAsgB {P : Program} {o : Oper} {a : Act} {w : World} {x : Operand} {v : Value} (ho : o.op = .assign x) (hx : a.eval x = v) : (execOp a.eval o).run P w = .ok (.value v) w := by
  unfold execOp
  simp only [ho, hx]
  rfl
theorem execExtT {x : Operand} {k : Nat} {arr : Array Value} {v : Value} (ho : o.op = .extract x k) (hx : a.eval x = .tuple arr) (hk : arr[k]? = some v) : (execOp a.eval o).run Try.prog w = .ok (.value v) w := by
  unfold execOp
  simp only [ho, hx]
  simp [go_sem, hk]
theorem execLtW {x y : Operand} {p q : Nat} (ho : o.op = .binOp .lss 3 x y 3) (hx : a.eval x = .int .i64 (p : Int)) (hy : a.eval y = .int .i64 (q : Int)) : (execOp a.eval o).run Try.prog w = .ok (.value (.bool (decide (p < q)))) w := by
  unfold execOp
  simp only [ho, hx, hy]
  simp [go_sem]
theorem execAd8 {x y : Operand} {p q : Nat} (ho : o.op = .binOp .add 3 x y 3) (hx : a.eval x = .int .i64 (p : Int)) (hy : a.eval y = .int .i64 (q : Int)) (h : p + q < 9223372036854775808) : (execOp a.eval o).run Try.prog w = .ok (.value (.int .i64 ((p + q : Nat) : Int))) w := by
  have e : IntKind.i64.wrap ((p : Int) + (q : Int)) = ((p + q : Nat) : Int) := by rw [← Int.natCast_add]; exact wrap_i64_nat h
  unfold execOp
  simp only [ho, hx, hy]
  simp [go_sem, e]
theorem execNot8 {x : Operand} {b : Bool} (ho : o.op = .unOp .not 4 x) (hx : a.eval x = .bool b) : (execOp a.eval o).run Try.prog w = .ok (.value (.bool (!b))) w := by
  unfold execOp
  simp only [ho, hx]
  simp [go_sem]
/-- append to a row of one's own: the operation. -/
theorem execAppO {s x : Operand} {T e : TypeId} {i : TypeInfo} {z : Value} {size bytes B n m c : Nat} {v : Value} {xs news : List Value} {ad : Addr}
    (ho : o.op = .call { callee := .builtin .append, args := #[s, x], argTypes := #[T, T] }) (ht : Try.prog.underlying T = some (.slice e)) (hi : Try.prog.info? e = some i) (hz : i.zero = some z) (hsize : i.size = size) (hby : i.bytes = bytes) (hzs : z.cells.size = size) (hsz : 0 < size)
    (hs : a.eval s = v) (hown : W.ownsRow B e size v n xs) (hx : a.eval x = .slice (some ad) m c) (hl : news.length = m * size) (hnews : ∀ j u, news[j]? = some u → W.cell? (ad.add j) = some u) (h1 : ∀ u ∈ news, u.oneCell' = true) (h63 : n + m ≤ maxLen) (hbytes : (n + m) * bytes ≤ 140737488355328) (hB : B ≤ W.heap.size) :
    ∃ v' W', (execOp a.eval o).run Try.prog W = .ok (.value v') W' ∧ W'.ownsRow B e size v' (n + m) (xs ++ news) ∧ W.grownBy W' v.ownBlock := by
  obtain ⟨v', w', hr, q1, q2, _⟩ := run_append_own (P := Try.prog) W B T o.type e i z size bytes ht hi hz hsize hby hzs hsz v n xs hown ad m c news hl hnews h1 h63 hbytes hB
  refine ⟨v', w', ?_, q1, q2⟩
  unfold execOp
  simp only [ho, resolve, invoke, builtin, Sem.run_bind, Sem.run_pure, Result.andThen_ok, List.map_toArray, List.map_cons, List.map_nil, hs, hx, hr]
end
theorem ret_then {K : Act → World → Prop} {Q : Exit → Act → World → Prop} {a : Act} {w : World} (h : Q .ret a w) : Exit.then K Q .ret a w := h
theorem ret_in {id : Nat} {Q : Exit → Act → World → Prop} {a : Act} {w : World} (h : Q .ret a w) : Exit.inBlock id Q .ret a w := h
/-- A row of one's own stays where another block is grown. -/
theorem ownW_grown {W W' : World} {B n s : Nat} {t : TypeId} {v : Value} {xs : List Value} {b : Option Nat} (h : W.ownsRow B t s v n xs) (hg : W.grownBy W' b) (hne : ∀ k, v.ownBlock = some k → b ≠ some k) : W'.ownsRow B t s v n xs := by
  refine ⟨h.1, ?_⟩
  rcases h.2 with h | ⟨g, cap, cur, e, hB, hgr, h1, h2, h3, h4⟩
  · exact Or.inl h
  · refine Or.inr ⟨g, cap, cur, e, hB, ?_, h1, h2, h3, h4⟩
    rw [hg.block g (Array.getElem?_eq_some_iff.1 hgr).1 (fun q => hne g (by rw [e]; rfl) q.symm)]
    exact hgr
section
variable {o : Oper} {a : Act} {w W : World}
/-- pick where the value that is not taken does not matter. -/
theorem execPickT {x y z : Operand} {v : Value} (ho : o.op = .pick x y z) (hx : a.eval x = .bool true) (hy : a.eval y = v) : (execOp a.eval o).run Try.prog w = .ok (.value v) w := by
  unfold execOp
  simp only [ho, hx, hy]
  simp [go_sem]
theorem execPickF {x y z : Operand} {v : Value} (ho : o.op = .pick x y z) (hx : a.eval x = .bool false) (hz : a.eval z = v) : (execOp a.eval o).run Try.prog w = .ok (.value v) w := by
  unfold execOp
  simp only [ho, hx, hz]
  simp [go_sem]
end
end Go.Proofs.Ytnfokemikcigbaa.Cf
