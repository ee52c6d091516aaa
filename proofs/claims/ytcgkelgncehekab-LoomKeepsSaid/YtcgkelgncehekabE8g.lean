import Derived.Test.YtcgkelgncehekabC9c
import Derived.Test.YtcgkelgncehekabJ8
import Derived.Test.YtcgkelgncehekabE8f
import Derived.Test.YtcgkelgncehekabN9b
import Derived.Test.YtcgkelgncehekabF9c
namespace Go.Proofs.Ytcgkelgncehekab.Win
open Go.RowKit Gf8 Aes By8 Cel Cf
/- Rows of tags; the reference's all. Written by tools/mkC9f.py. -/

/-- One behind the other. -/
def catT (n : Nat) (t s : Nat → Nat → Nat) (k : Nat) : Nat → Nat := if k < n then t k else s (k - n)
theorem cat_hi {n k : Nat} {t s : Nat → Nat → Nat} : catT n t s (n + k) = s k := by
  unfold catT
  rw [if_neg (by omega), Nat.add_sub_cancel_left]
section
variable {W W' : World} {B n : Nat} {v : Value} {t : Nat → Nat → Nat}
end
end Go.Proofs.Ytcgkelgncehekab.Win

namespace Go.Proofs.Ytcgkelgncehekab.Win
open Go.RowKit Gf8 Aes By8 Cel Cf
/- Two lists in order made one; halves; what the reference's sorted needs. Written by tools/mkC9g.py. -/

section
variable {A B : Nat → Nat} {ma mb i j : Nat} {o : List Nat}
end
section
variable {W : World} {b off n c h : Nat} {t : Nat → Nat → Nat}
theorem Tgs.take {v : Value} (q : Tgs W v n t) (e : v = .slice (some ⟨b, off, none⟩) n c) (hh : h ≤ n) : Tgs W (.slice (some ⟨b, off, none⟩) h c) h t := by
  subst e
  obtain ⟨⟨a, c', e', h1, h2, h3⟩, hb, _⟩ := q
  injection e' with e1 _ e3
  subst e1 e3
  refine ⟨⟨_, _, rfl, by omega, h2, fun h0 => ?_⟩, fun j hj => hb j (by omega), fun l c e => by cases e⟩
  obtain ⟨b', o', e4, e5, e6⟩ := h3 (by omega)
  exact ⟨b', o', e4, e5, fun j hj => e6 j (by omega)⟩
theorem Tgs.drop {v : Value} (q : Tgs W v n t) (e : v = .slice (some ⟨b, off, none⟩) n c) (hh : h ≤ n) : Tgs W (.slice (some ⟨b, off + h * 16, none⟩) (n - h) (c - h)) (n - h) fun k => t (h + k) := by
  subst e
  obtain ⟨⟨a, c', e', h1, h2, h3⟩, hb, _⟩ := q
  injection e' with e1 _ e3
  subst e1 e3
  refine ⟨⟨_, _, rfl, by omega, by omega, fun h0 => ?_⟩, fun j hj => hb _ (by omega), fun l c e => by cases e⟩
  obtain ⟨b', o', e4, e5, e6⟩ := h3 (by omega)
  injection e4 with e4
  injection e4 with e7 e8 _
  subst e7 e8
  exact ⟨b, off + h * 16, rfl, e5, fun j hj i hi => by
    have := e6 (h + j) (by omega) i hi
    rw [show off + h * 16 + j * 16 + i = off + (h + j) * 16 + i by omega]
    exact this⟩
end
section
variable {o : Oper} {a : Act} {w : World}
end
end Go.Proofs.Ytcgkelgncehekab.Win

namespace Go.Proofs.Ytcgkelgncehekab.Win
open Go.RowKit Gf8 Aes By8 Cel Cf
/- What the reference's Check needs. Written by tools/mkC9i.py. -/

section
variable {o : Oper} {a : Act} {w : World}
theorem exIlss3 {x y : Operand} {p q : Int} (ho : o.op = .binOp .lss 3 x y 3) (hx : a.eval x = .int .i64 p) (hy : a.eval y = .int .i64 q) : (execOp a.eval o).run Try.prog w = .ok (.value (.bool (decide (p < q)))) w := by
  unfold execOp
  simp only [ho, hx, hy]
  simp [go_sem]
theorem exIgtr3 {x y : Operand} {p q : Int} (ho : o.op = .binOp .gtr 3 x y 3) (hx : a.eval x = .int .i64 p) (hy : a.eval y = .int .i64 q) : (execOp a.eval o).run Try.prog w = .ok (.value (.bool (decide (p > q)))) w := by
  unfold execOp
  simp only [ho, hx, hy]
  simp [go_sem]
theorem exIleq3 {x y : Operand} {p q : Int} (ho : o.op = .binOp .leq 3 x y 3) (hx : a.eval x = .int .i64 p) (hy : a.eval y = .int .i64 q) : (execOp a.eval o).run Try.prog w = .ok (.value (.bool (decide (p ≤ q)))) w := by
  unfold execOp
  simp only [ho, hx, hy]
  simp [go_sem]
theorem exIgeq3 {x y : Operand} {p q : Int} (ho : o.op = .binOp .geq 3 x y 3) (hx : a.eval x = .int .i64 p) (hy : a.eval y = .int .i64 q) : (execOp a.eval o).run Try.prog w = .ok (.value (.bool (decide (p ≥ q)))) w := by
  unfold execOp
  simp only [ho, hx, hy]
  simp [go_sem]
theorem exIeql3 {x y : Operand} {p q : Int} (ho : o.op = .binOp .eql 3 x y 3) (hx : a.eval x = .int .i64 p) (hy : a.eval y = .int .i64 q) : (execOp a.eval o).run Try.prog w = .ok (.value (.bool (decide (p = q)))) w := by
  unfold execOp
  simp only [ho, hx, hy]
  by_cases h : p = q
  · subst h; simp [go_sem]
  · simp [go_sem, h]
theorem exIneq3 {x y : Operand} {p q : Int} (ho : o.op = .binOp .neq 3 x y 3) (hx : a.eval x = .int .i64 p) (hy : a.eval y = .int .i64 q) : (execOp a.eval o).run Try.prog w = .ok (.value (.bool (decide (p ≠ q)))) w := by
  unfold execOp
  simp only [ho, hx, hy]
  by_cases h : p = q
  · subst h; simp [go_sem]
  · simp [go_sem, h]
theorem execGtN {x y : Operand} {p q : Nat} (ho : o.op = .binOp .gtr 3 x y 3) (hx : a.eval x = .int .i64 (p : Int)) (hy : a.eval y = .int .i64 (q : Int)) : (execOp a.eval o).run Try.prog w = .ok (.value (.bool (decide (q < p)))) w := by
  unfold execOp
  simp only [ho, hx, hy]
  simp [go_sem]
end
end Go.Proofs.Ytcgkelgncehekab.Win

namespace Go.Proofs.Ytcgkelgncehekab.Loo
open Go.RowKit Gf8 Aes By8 Cel Cf Win Drw Prm
/- Stage 19 (loom): plans and histories in memory; what a package of looms keeps (LImpl). -/

/-- A []api.Op. -/
structure SliceO (w : World) (v : Value) (len : Nat) (o : Nat → Op3) : Prop where
  shape : ∃ a cap, v = .slice a len cap ∧ (0 < len → ∃ b off, a = some ⟨b, off, none⟩ ∧ b < w.heap.size ∧ ∀ j, j < len → w.cell? ⟨b, off + j * 3, none⟩ = some (.int .i64 (o j).k) ∧ w.cell? ⟨b, off + j * 3 + 1, none⟩ = some (.int .i64 (o j).a) ∧ w.cell? ⟨b, off + j * 3 + 2, none⟩ = some (.int .i64 (o j).b))
  fits : ∀ j, j < len → I64 (o j).k ∧ I64 (o j).a ∧ I64 (o j).b
/-- A list of things of one cell, read. -/
def SliceV (w : World) (v : Value) (n : Nat) (x : Nat → Value) : Prop := ∃ a cap, v = .slice a n cap ∧ (0 < n → ∃ b off, a = some ⟨b, off, none⟩ ∧ b < w.heap.size ∧ ∀ t, t < n → w.cell? ⟨b, off + t, none⟩ = some (x t))
/-- A []loom.Task. -/
def SliceK (w : World) (v : Value) (n : Nat) (x y : Nat → Value) : Prop := ∃ a cap, v = .slice a n cap ∧ (0 < n → ∃ b off, a = some ⟨b, off, none⟩ ∧ b < w.heap.size ∧ ∀ t, t < n → w.cell? ⟨b, off + t * 2, none⟩ = some (x t) ∧ w.cell? ⟨b, off + t * 2 + 1, none⟩ = some (y t))
/-- A plan. -/
def PlA (w : World) (v : Value) (p : Pl) : Prop := ∃ cv tv x, v = .agg #[cv, tv] ∧ SliceI w cv p.d p.cap ∧ SliceV w tv p.n x ∧ ∀ t, t < p.n → SliceO w (x t) (p.ln t) (p.op t)
section
variable {w w' : World} {v : Value} {n : Nat}
theorem SliceO.on {o : Nat → Op3} (h : SliceO w v n o) (hb : Below w.heap.size w w') : SliceO w' v n o := by
  obtain ⟨⟨a, cap, e, h3⟩, hp⟩ := h
  refine ⟨⟨a, cap, e, fun h0 => ?_⟩, hp⟩
  obtain ⟨b, off, e1, e2, e3⟩ := h3 h0
  exact ⟨b, off, e1, Nat.lt_of_lt_of_le e2 hb.size, fun j hj => by rw [cell_below hb e2, cell_below hb e2, cell_below hb e2]; exact e3 j hj⟩
theorem SliceV.on {x : Nat → Value} (h : SliceV w v n x) (hb : Below w.heap.size w w') : SliceV w' v n x := by
  obtain ⟨a, cap, e, h3⟩ := h
  refine ⟨a, cap, e, fun h0 => ?_⟩
  obtain ⟨b, off, e1, e2, e3⟩ := h3 h0
  exact ⟨b, off, e1, Nat.lt_of_lt_of_le e2 hb.size, fun j hj => by rw [cell_below hb e2]; exact e3 j hj⟩
theorem PlA.on {p : Pl} (h : PlA w v p) (hb : Below w.heap.size w w') : PlA w' v p := by
  obtain ⟨cv, tv, x, e, h1, h2, h3⟩ := h
  exact ⟨cv, tv, x, e, h1.on hb, h2.on hb, fun t ht => (h3 t ht).on hb⟩
theorem SliceV.shp {x : Nat → Value} (h : SliceV w v n x) : ∃ a c, v = .slice a n c := by
  obtain ⟨a, c, e, _⟩ := h
  exact ⟨a, c, e⟩
theorem SliceV.cg {x y : Nat → Value} (h : SliceV w v n x) (e : ∀ t, t < n → x t = y t) : SliceV w v n y := by
  obtain ⟨a, cap, q, h3⟩ := h
  refine ⟨a, cap, q, fun h0 => ?_⟩
  obtain ⟨b, off, e1, e2, e3⟩ := h3 h0
  exact ⟨b, off, e1, e2, fun t ht => by rw [e3 t ht, e t ht]⟩
theorem own_vals {B : Nat} {T : TypeId} {x : Nat → Value} (h : w.ownsRow B T 1 v n (lL x n)) : SliceV w v n x := by
  rcases h.2 with ⟨rfl, rfl⟩ | ⟨g, cap, cur, rfl, _, hg, h1, h2, h3, h4⟩
  · exact ⟨_, _, rfl, fun h => by omega⟩
  · refine ⟨_, _, rfl, fun _ => ⟨g, 0, rfl, (Array.getElem?_eq_some_iff.1 hg).1, fun j hj => ?_⟩⟩
    rw [cell_of_row _ _ _ _ _ _ hg, Nat.zero_add, ← Array.getElem?_toList]
    have := lL_get x n j hj
    rw [← h4, List.getElem?_take, if_pos (by omega)] at this
    exact this
end
/-- The cells of a history. -/
def hC (pk : Value) (mst : Nat) (en st : Bool) (lt : Nat) (tk : Value) : Array Value := #[pk, .int .i64 ((mst : Nat) : Int), .bool en, .bool st, .int .i64 ((lt : Nat) : Int), tk]
def cns (pk : Value) (tv : Nat → Value) : Nat → Value
  | 0 => pk
  | i + 1 => tv i
def hN (N : Nat) (tl : Nat → List Int) : Nat → Nat
  | 0 => N
  | i + 1 => (tl i).length
def hF (pf : Nat → Int) (tl : Nat → List Int) : Nat → Nat → Int
  | 0 => pf
  | i + 1 => fun j => (tl i).getD j 0
/-- The lists of a history in memory of their own. -/
structure His (B : Nat) (W : World) (pk tk : Value) (tv : Nat → Value) (N n : Nat) (pf : Nat → Int) (tl : Nat → List Int) : Prop where
  fm : FmI B (n + 1) (cns pk tv) (hN N tl) (hF pf tl) W
  tk : W.ownsRow B 22 1 tk n (lL tv n)
  pfit : ∀ j, j < N → I64 (pf j)
  tfit : ∀ t, t < n → ∀ x ∈ tl t, I64 x
section
variable {B N n : Nat} {W X : World} {pk tk : Value} {tv : Nat → Value} {pf : Nat → Int} {tl : Nat → List Int}
theorem His.on (h : His B W pk tk tv N n pf tl) (hb : Below W.heap.size W X) : His B X pk tk tv N n pf tl := ⟨h.fm.on hb, ownD_below h.tk hb, h.pfit, h.tfit⟩
theorem His.picks (h : His B W pk tk tv N n pf tl) : SliceI W pk N pf := own_ints (h.fm.rows 0 (by omega)) h.pfit
theorem His.taken (h : His B W pk tk tv N n pf tl) {t : Nat} (ht : t < n) : SliceI W (tv t) (tl t).length (fun j => (tl t).getD j 0) :=
  own_ints (h.fm.rows (t + 1) (by omega)) fun j hj => h.tfit t ht _ (by
    show (tl t).getD j 0 ∈ tl t
    have hj' : j < (tl t).length := hj
    rw [List.getD_eq_getElem?_getD, List.getElem?_eq_getElem hj']
    exact List.getElem_mem hj')
theorem His.lists (h : His B W pk tk tv N n pf tl) : SliceV W tk n tv := own_vals h.tk
end
def scr (m : Nat) (sc : Nat → Int) (k : Nat) : Int := if k < m then sc k else 0
/-- A function that a call of a value enters. -/
def CanCall (f : FuncId) : Prop := ∃ fn, Try.prog.funcs[f]? = some fn ∧ (fn.name == "runtime.NumGoroutine") = false ∧ fn.body.isSome = true
/-- Functions that answer by a state of their own (their memory: the blocks F). -/
structure Sys (σ : Type) where
  R : World → (Nat → Prop) → σ → Prop
  frame : ∀ {W X F x}, R W F x → (∀ b, F b → X.heap[b]? = W.heap[b]?) → W.heap.size ≤ X.heap.size → R X F x
  lt : ∀ {W F x}, R W F x → ∀ b, F b → b < W.heap.size
  n : Nat
  rf : Nat → Option (FuncId × Array Value)
  sf : Nat → Option (FuncId × Array Value)
  ra : σ → Nat → Bool × σ
  sa : σ → Nat → Bool × σ
  rok : ∀ {t f c}, t < n → rf t = some (f, c) → CanCall f
  sok : ∀ {t f c}, t < n → sf t = some (f, c) → CanCall f
  ready : ∀ {V F x t f c}, t < n → rf t = some (f, c) → R V F x → Calls Try.prog f c V fun e w' => ∃ F', e = .returned (.bool (ra x t).1) ∧ R w' F' (ra x t).2 ∧ Saved F V w' ∧ ∀ q, F' q → F q ∨ V.heap.size ≤ q
  step : ∀ {V F x t f c}, t < n → sf t = some (f, c) → R V F x → Calls Try.prog f c V fun e w' => ∃ F', e = .returned (.bool (sa x t).1) ∧ R w' F' (sa x t).2 ∧ Saved F V w' ∧ ∀ q, F' q → F q ∨ V.heap.size ≤ q
def fvl : Option (FuncId × Array Value) → Value
  | none => .nilFunc
  | some (f, c) => .func (.func f) #[] c
section
variable {σ : Type} (S : Sys σ)
/-- Who may be picked, asked one behind the other. -/
def Sys.ask (en : Nat → Bool) : Nat → σ → List Nat × σ
  | 0, x => ([], x)
  | t + 1, x =>
    let (l, y) := Sys.ask en t x
    if en t = true then (l, y) else match S.rf t with
      | none => (l ++ [t], y)
      | some _ => if (S.ra y t).1 = true then (l ++ [t], (S.ra y t).2) else (l, (S.ra y t).2)
def Sys.alive (en : Nat → Bool) : Bool := (List.range S.n).any fun t => !en t
/-- Picks, one behind the other: at most so many; what was picked (the last first), who has ended, the functions' state, who may be picked at the end. -/
def Sys.go (sc : Nat → Int) : Nat → Nat → (Nat → Bool) → σ → List Nat → List Nat × (Nat → Bool) × σ × List Nat
  | 0, _, en, x, l => (l, en, (S.ask en S.n x).2, (S.ask en S.n x).1)
  | m + 1, k, en, x, l =>
    let (ml, y) := S.ask en S.n x
    if ml = [] then (l, en, y, []) else
      let t := ml.getD (chn (sc k) ml.length) 0
      Sys.go sc m (k + 1) (upf en t (S.sa y t).1) (S.sa y t).2 (l ++ [t])
end
def Sys.en0 {σ : Type} (S : Sys σ) (t : Nat) : Bool := (S.sf t).isNone
/-- What Run answers and leaves. -/
structure RunE {σ : Type} (S : Sys σ) (sc : Nat → Int) (most : Nat) (x : σ) (V : World) (F : Nat → Prop) (pk : Value) (F' : Nat → Prop) (e : Ending) (W : World) : Prop where
  ans : e = .returned (.agg (hC pk 0 (!S.alive (S.go sc most 0 S.en0 x []).2.1) (S.alive (S.go sc most 0 S.en0 x []).2.1 && decide ((S.go sc most 0 S.en0 x []).2.2.2 = [])) 0 (.slice none 0 0)))
  own : W.ownsRow V.heap.size 3 1 pk (S.go sc most 0 S.en0 x []).1.length (intsL (S.go sc most 0 S.en0 x []).1.length (fun i => ((S.go sc most 0 S.en0 x []).1.getD i 0 : Int)))
  R : S.R W F' (S.go sc most 0 S.en0 x []).2.2.1
  sv : Saved F V W
  fF : ∀ q, F' q → F q ∨ V.heap.size ≤ q
  off : ∀ b, pk.ownBlock = some b → ¬ F' b
/-- What a package of looms keeps. -/
structure LImpl where
  check : ∀ (p : Pl) (v : Value) (V : World), PlA V v p → Calls Try.prog 8 #[v] V fun e w' => e = .returned (.int .i64 ((chk p : Nat) : Int)) ∧ Below V.heap.size V w'
  play : ∀ (p : Pl) (v sv : Value) (m : Nat) (sc : Nat → Int) (V : World), PlA V v p → SliceI V sv m sc → Calls Try.prog 6 #[v, sv] V fun e w' => ((chk p ≠ 0 → e = .returned (.tuple #[.agg (hC (.slice none 0 0) 0 false false 0 (.slice none 0 0)), .int .i64 ((chk p : Nat) : Int)])) ∧ (chk p = 0 → ∃ pk tk tv N, Run p (scr m sc) N ∧ e = .returned (.tuple #[.agg (hC pk (mx p (scr m sc) N) (!live p (rk p (scr m sc) N)) (live p (rk p (scr m sc) N) && decide (mayL p (rk p (scr m sc) N) = [])) (rk p (scr m sc) N).lt tk), .int .i64 ((0 : Nat) : Int)]) ∧ His V.heap.size w' pk tk tv N p.n (fun i => (Loo.pk p (scr m sc) i : Int)) (rk p (scr m sc) N).tk)) ∧ Below V.heap.size V w'
  run : ∀ {σ : Type} (S : Sys σ) (tv sv : Value) (m : Nat) (sc : Nat → Int) (most : Int) (x : σ) (F : Nat → Prop) (V : World), SliceK V tv S.n (fun t => fvl (S.rf t)) (fun t => fvl (S.sf t)) → SliceI V sv m sc → S.R V F x → (∀ a n c, tv = .slice (some a) n c → ¬ F a.block) → (∀ a n c, sv = .slice (some a) n c → ¬ F a.block) → I64 most → S.n ≤ 1000 → most ≤ 1000 → Calls Try.prog 12 #[tv, sv, .int .i64 most] V fun e w' => ∃ pk F', RunE S (scr m sc) most.toNat x V F pk F' e w'
end Go.Proofs.Ytcgkelgncehekab.Loo
