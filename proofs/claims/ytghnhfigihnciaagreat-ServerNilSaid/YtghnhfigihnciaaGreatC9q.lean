import Derived.Test.YtghnhfigihnciaaGreatC9o
namespace Go.Proofs.YtghnhfigihnciaaGreat.Win
open Go.RowKit Gf8 Aes By8 Cel Cf
/- The laws' tag and some; what the program's package keeps. Written by tools/mkC9q.py. -/

/-- A window that is handed in. -/
structure Wd (V : World) (nw : Int) (ev : Value) (n : Nat) (nu : Nat → Int) (tw : Nat → Value) (ln : Nat → Nat) (t : Nat → Nat → Nat → Nat) : Prop where
  eps : Eps V ev n nu tw ln t
  n32 : n * 32 ≤ 140737488351232
  ln16 : ∀ j, j < n → ln j * 16 ≤ 140737488351232
  num : I64 nw
theorem Wd.on {V W : World} {nw : Int} {ev : Value} {n : Nat} {nu : Nat → Int} {tw : Nat → Value} {ln : Nat → Nat} {t : Nat → Nat → Nat → Nat} (h : Wd V nw ev n nu tw ln t) (hb : Below V.heap.size V W) : Wd W nw ev n nu tw ln t := ⟨h.eps.on hb, h.n32, h.ln16, h.num⟩
/-- What the program's package keeps. -/
structure Impl : Prop where
  check : ∀ (nw s r : Int) (ev : Value) (n : Nat) (nu : Nat → Int) (tw : Nat → Value) (ln : Nat → Nat) (t : Nat → Nat → Nat → Nat) (V : World), Wd V nw ev n nu tw ln t → I64 s → I64 r → Calls Tryz.prog 130 #[.agg (wC nw ev), .int .i64 s, .int .i64 r] V fun e w' => e = .returned (.int .i64 ((wChk (nw, esL n nu ln t) s r : Nat) : Int)) ∧ Below V.heap.size V w'
  len : ∀ (nw : Int) (ev : Value) (n : Nat) (nu : Nat → Int) (tw : Nat → Value) (ln : Nat → Nat) (t : Nat → Nat → Nat → Nat) (V : World), Wd V nw ev n nu tw ln t → Calls Tryz.prog 178 #[.agg (wC nw ev)] V fun e w' => e = .returned (.int .i64 (sW ln n)) ∧ Below V.heap.size V w'
  has : ∀ (nw : Int) (ev : Value) (n : Nat) (nu : Nat → Int) (tw : Nat → Value) (ln : Nat → Nat) (t : Nat → Nat → Nat → Nat) (f : Nat → Nat) (V : World), (∀ i, i < 16 → f i < 256) → Wd V nw ev n nu tw ln t → Calls Tryz.prog 137 #[.agg (wC nw ev), .agg (bA 16 f)] V fun e w' => e = .returned (.bool (decide (tv f 16 ∈ wAll (esL n nu ln t)))) ∧ Below V.heap.size V w'
  open_ : ∀ (nw ep s : Int) (ev : Value) (n : Nat) (nu : Nat → Int) (tw : Nat → Value) (ln : Nat → Nat) (t : Nat → Nat → Nat → Nat) (V : World), Wd V nw ev n nu tw ln t → I64 s → I64 ep → Calls Tryz.prog 134 #[.agg (wC nw ev), .int .i64 ep, .int .i64 s] V fun e w' => OpP V (wOpen (nw, esL n nu ln t) ep s) e w' ∧ Below V.heap.size V w'
  add : ∀ (nw ep r : Int) (ev : Value) (n : Nat) (nu : Nat → Int) (tw : Nat → Value) (ln : Nat → Nat) (t : Nat → Nat → Nat → Nat) (V : World) (v : Value) (m : Nat) (tg : Nat → Nat → Nat), Wd V nw ev n nu tw ln t → I64 ep → I64 r → Tgs V v m tg → m * 16 ≤ 140737488351232 → Calls Tryz.prog 144 #[.agg (wC nw ev), .int .i64 ep, v, .int .i64 r] V fun e w' => OpP V (wAdd (nw, esL n nu ln t) ep (tgL m tg) r) e w' ∧ Below V.heap.size V w'
section
variable {o : Oper} {a : Act} {w : World}
theorem execEqE {x y : Operand} {p q : Nat} (ho : o.op = .binOp .eql 40 x y 40) (hx : a.eval x = .int .i64 (p : Int)) (hy : a.eval y = .int .i64 (q : Int)) : (execOp a.eval o).run Tryz.prog w = .ok (.value (.bool (decide (p = q)))) w := by
  unfold execOp
  simp only [ho, hx, hy]
  by_cases h : p = q
  · subst h
    simp [go_sem]
  · have h2 : ¬ (p : Int) = q := by omega
    simp [go_sem, h, h2]
end
end Go.Proofs.YtghnhfigihnciaaGreat.Win
