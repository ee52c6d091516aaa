import Derived.Test.YtcgkelgncehekabL9c
import Derived.Test.YtcgkelgncehekabZ9a
import Derived.Test.YtcgkelgncehekabF9c
import Derived.Test.YtcgkelgncehekabE8g
import Derived.Test.YtcgkelgncehekabN9a
import Derived.WalkKit
namespace Go.Proofs.Ytcgkelgncehekab.Duc
open Go.RowKit Gf8 Aes By8 Cel Cf Win Drw
/- Stage 18 (duct): a book in memory; what a package of ducts keeps (DImpl). -/

section
variable {P : Program} {fn : Func} {p u v x : Tmp} {ty : TypeId} (tmps : Array Value) (w : World) (g : Nat) (t : TypeId) (cs : Array Value) (fr : Nat × Nat) (d : TypeDesc)
theorem res_c1 (h : fn.results = #[.cell p ty, .tmp u]) (hp : tmps.getD p undef = .pointer (some ⟨g, 0, none⟩)) (hg : w.heap[g]? = some (.cells cs t fr)) (hu : P.underlying ty = some d) (hd : (match d with | .struct _ | .array _ _ => true | _ => false) = true) (hi : (P.info? ty).map (·.size) = some cs.size) :
    (results fn tmps).run P w = .ok (.tuple #[.agg cs, tmps.getD u undef]) w := by
  have hp' : tmps[p]?.getD undef = .pointer (some ⟨g, 0, none⟩) := by simpa using hp
  simp [results, h, hp', asAddr, run_loadVar_row w g t ty cs fr d hg hu hd hi]
end
theorem grR18 {W : World} {g : Nat} {c : Array Value} : W.grownBy (W.setRow g c) (some g) := by
  have hb : Below g W (W.setRow g c) := below4 (Below.refl _ _) (Nat.le_refl _) c
  refine ⟨hb.os, hb.tape, hb.output, hb.size, fun b hbs hne => ?_⟩
  rw [setRow_other _ _ _ _ (fun e => hne (by rw [e]))]
/-- A block of another type outlives what a row grows by. -/
theorem keep_over {W X : World} {B n g s : Nat} {v : Value} {xs : List Value} {t u : TypeId} {c : Array Value} (hg : W.heap[g]? = some (.cells c t)) (own : W.ownsRow B u s v n xs) (gr : W.grownBy X v.ownBlock) (ht : t ≠ u) : X.heap[g]? = some (.cells c t) := by
  rw [gr.block g (Array.getElem?_eq_some_iff.1 hg).1 (fun e => ?_)]
  · exact hg
  · rcases own.2 with ⟨e1, _⟩ | ⟨k, cap, cur, e1, _, hk, _⟩
    · rw [e1] at e; cases e
    · rw [e1] at e
      cases e
      rw [hg] at hk
      cases hk
      exact ht rfl
section
variable {o : Oper} {a : Act} {w : World}
theorem execEqBB {x y : Operand} {b : Bool} (ho : o.op = .binOp .eql 4 x y 4) (hx : a.eval x = .bool b) (hy : a.eval y = .bool b) : (execOp a.eval o).run Try.prog w = .ok (.value (.bool true)) w := by
  unfold execOp
  simp only [ho, hx, hy]
  simp [go_sem]
end
/-- What a package of ducts keeps: R W F v x n cap cl: the duct v holds x 0 .. x (n - 1), its memory is the blocks F. -/
structure DImpl (El : Value → Prop) (zv : Value) (fN fP fT fC fL fK fD fU fE : FuncId) where
  R : World → (Nat → Prop) → Value → (Nat → Value) → Nat → Nat → Bool → Prop
  nil : ∀ W x, R W (fun _ => False) (.pointer none) x 0 0 true
  frame : ∀ {W X F v x n k c}, R W F v x n k c → (∀ b, F b → X.heap[b]? = W.heap[b]?) → W.heap.size ≤ X.heap.size → R X F v x n k c
  lt : ∀ {W F v x n k c}, R W F v x n k c → ∀ b, F b → b < W.heap.size
  cg : ∀ {W F v x y n k c}, R W F v x n k c → (∀ j, j < n → x j = y j) → R W F v y n k c
  le : ∀ {W F v x n k c}, R W F v x n k c → n ≤ k ∧ k ≤ 1024
  ptr : ∀ {W F v x n k c}, R W F v x n k c → ∃ p, v = .pointer p
  new : ∀ (s : Int) (V : World) (x : Nat → Value), Calls Try.prog fN #[.int .i64 s] V fun e w' => ((0 ≤ s ∧ s ≤ 1024 → ∃ b F, e = .returned (.tuple #[.pointer (some ⟨b, 0, none⟩), .int .i64 ((0 : Nat) : Int)]) ∧ R w' F (.pointer (some ⟨b, 0, none⟩)) x 0 s.toNat false ∧ ∀ q, F q → V.heap.size ≤ q) ∧ (¬ (0 ≤ s ∧ s ≤ 1024) → e = .returned (.tuple #[.pointer none, .int .i64 ((2 : Nat) : Int)]))) ∧ Below V.heap.size V w'
  put : ∀ {V F v x n k c u}, R V F v x n k c → El u → Calls Try.prog fP #[v, u] V fun e w' => ∃ F', e = .returned (.tuple #[.bool (decide (c = false ∧ n < k)), .int .i64 (((if c then 180 else 0 : Nat) : Nat) : Int)]) ∧ R w' F' v (up x n u) (if c = false ∧ n < k then n + 1 else n) k c ∧ Saved F V w' ∧ ∀ q, F' q → F q ∨ V.heap.size ≤ q
  take : ∀ {V F v x n k c}, R V F v x n k c → Calls Try.prog fT #[v] V fun e w' => ∃ F', e = .returned (.tuple #[if 0 < n then x 0 else zv, .bool (decide (0 < n)), .int .i64 (((if n = 0 ∧ c = true then 180 else 0 : Nat) : Nat) : Int)]) ∧ R w' F' v (fun j => x (j + 1)) (n - 1) k c ∧ Saved F V w' ∧ ∀ q, F' q → F q ∨ V.heap.size ≤ q
  close : ∀ {V F v x n k c}, R V F v x n k c → Calls Try.prog fC #[v] V fun e w' => ∃ F', e = .returned (.int .i64 (((if c then 180 else 0 : Nat) : Nat) : Int)) ∧ R w' F' v x n k true ∧ Saved F V w' ∧ ∀ q, F' q → F q ∨ V.heap.size ≤ q
  len : ∀ {V F v x n k c}, R V F v x n k c → Calls Try.prog fL #[v] V fun e w' => e = .returned (.int .i64 ((n : Nat) : Int)) ∧ Below V.heap.size V w'
  cap : ∀ {V F v x n k c}, R V F v x n k c → Calls Try.prog fK #[v] V fun e w' => e = .returned (.int .i64 ((k : Nat) : Int)) ∧ Below V.heap.size V w'
  closed : ∀ {V F v x n k c}, R V F v x n k c → Calls Try.prog fD #[v] V fun e w' => e = .returned (.bool c) ∧ Below V.heap.size V w'
  canPut : ∀ {V F v x n k c}, R V F v x n k c → Calls Try.prog fU #[v] V fun e w' => e = .returned (.bool (decide (c = false ∧ n < k))) ∧ Below V.heap.size V w'
  canTake : ∀ {V F v x n k c}, R V F v x n k c → Calls Try.prog fE #[v] V fun e w' => e = .returned (.bool (decide (0 < n))) ∧ Below V.heap.size V w'
abbrev ElI (v : Value) : Prop := ∃ z : Int, v = .int .i64 z ∧ I64 z
abbrev ImplI := DImpl ElI (.int .i64 0) 22 51 53 49 43 44 36 37 45
end Go.Proofs.Ytcgkelgncehekab.Duc

namespace Go.Proofs.Ytcgkelgncehekab.Duc
open Go.RowKit Gf8 Aes By8 Cel Cf Win Drw Prm
/- The reference's New, Put, Take, Close. Written by tools/mkP8b.py. -/

theorem grC18 {W : World} {g k : Nat} {u : Value} : W.grownBy (W.setCell ⟨g, k, none⟩ u) (some g) := by
  have hb : Below g W (W.setCell ⟨g, k, none⟩ u) := (Below.refl _ _).setCell (p := ⟨g, k, none⟩) (Nat.le_refl _) u
  refine ⟨hb.os, hb.tape, hb.output, hb.size, fun b hbs hne => ?_⟩
  have hn : b ≠ g := fun e => hne (by rw [e])
  simp [World.setCell, Array.getElem?_modify, hn.symm]
theorem keepT {W X : World} {g k : Nat} {c d : Array Value} {t u : TypeId} (h : W.heap[k]? = some (.cells d u)) (hg : W.heap[g]? = some (.cells c t)) (ht : t ≠ u) (gr : W.grownBy X (some g)) : X.heap[k]? = some (.cells d u) := by
  rw [gr.block k (Array.getElem?_eq_some_iff.1 h).1 (fun e => by cases e; rw [h] at hg; cases hg; exact ht rfl)]
  exact h
theorem own_shp {W : World} {B n : Nat} {v : Value} {xs : List Value} {t : TypeId} {s : Nat} (h : W.ownsRow B t s v n xs) : ∃ ao c, v = .slice ao n c := by
  rcases h.2 with ⟨rfl, rfl⟩ | ⟨g, cap, cur, rfl, _⟩
  · exact ⟨_, _, rfl⟩
  · exact ⟨_, _, rfl⟩
theorem cat0 {W : World} {B n : Nat} {v : Value} {z : Nat → Int} (h : W.ownsRow B 3 1 v (0 + n) (intsL (0 + n) (catI 0 z z))) : W.ownsRow B 3 1 v n (intsL n z) := by
  rw [Nat.zero_add] at h
  rw [intsL_congr (g := z) (fun j hj => by rw [show j = 0 + j by omega, catI_hi, Nat.zero_add])] at h
  exact h
end Go.Proofs.Ytcgkelgncehekab.Duc

namespace Go.Proofs.Ytcgkelgncehekab.Duc
open Go.RowKit Gf8 Aes By8 Cel Cf Win Drw Prm
/- What the law asks of a duct, by its contract. Written by tools/mkP8c.py. -/

section
variable {El : Value → Prop} {zv : Value} {fN fP fT fC fL fK fD fU fE : FuncId} (I : DImpl El zv fN fP fT fC fL fK fD fU fE) {V W X : World} {F : Nat → Prop} {v u : Value} {x : Nat → Value} {n k : Nat} {c : Bool}
theorem DImpl.on (h : I.R V F v x n k c) (hb : Below V.heap.size V X) : I.R X F v x n k c := I.frame h (fun b hF => hb.block b (I.lt h b hF)) hb.size
end
end Go.Proofs.Ytcgkelgncehekab.Duc

namespace Go.Proofs.Ytcgkelgncehekab.Duc
open Go.RowKit Gf8 Aes By8 Cel Cf Win Drw Prm
/- Comparisons of ducts and errors; awake, place. Written by tools/mkP8d.py. -/

section
variable {o : Oper} {a : Act} {w : World}
theorem execDIeqln {x : Operand} (ho : o.op = .binOp .eql 64 x (.const (.pointer none)) 64) (hx : a.eval x = .pointer none) : (execOp a.eval o).run Try.prog w = .ok (.value (.bool true)) w := by
  unfold execOp
  simp only [ho, hx]
  simp [go_sem]
theorem execDIeqls {x : Operand} {b k : Nat} (ho : o.op = .binOp .eql 64 x (.const (.pointer none)) 64) (hx : a.eval x = .pointer (some ⟨b, k, none⟩)) : (execOp a.eval o).run Try.prog w = .ok (.value (.bool false)) w := by
  unfold execOp
  simp only [ho, hx]
  simp [go_sem]
theorem execEreql {x : Operand} {p q : Nat} (ho : o.op = .binOp .eql 30 x (.const (.int .i64 ((q : Nat) : Int))) 30) (hx : a.eval x = .int .i64 ((p : Nat) : Int)) : (execOp a.eval o).run Try.prog w = .ok (.value (.bool (decide (p = q)))) w := by
  unfold execOp
  simp only [ho, hx]
  by_cases h : p = q
  · subst h
    simp [go_sem]
  · have h2 : ¬ (p : Int) = q := by omega
    simp [go_sem, h, h2]
theorem execErneq {x : Operand} {p q : Nat} (ho : o.op = .binOp .neq 30 x (.const (.int .i64 ((q : Nat) : Int))) 30) (hx : a.eval x = .int .i64 ((p : Nat) : Int)) : (execOp a.eval o).run Try.prog w = .ok (.value (.bool (decide (p ≠ q)))) w := by
  unfold execOp
  simp only [ho, hx]
  by_cases h : p = q
  · subst h
    simp [go_sem]
  · have h2 : ¬ (p : Int) = q := by omega
    simp [go_sem, h, h2]
end
section
variable {El : Value → Prop} {zv : Value} {fN fP fT fC fL fK fD fU fE : FuncId} (I : DImpl El zv fN fP fT fC fL fK fD fU fE) {V W X : World} {F : Nat → Prop} {v u : Value} {x : Nat → Value} {n k : Nat} {c : Bool}
end
end Go.Proofs.Ytcgkelgncehekab.Duc

namespace Go.Proofs.Ytcgkelgncehekab.Duc
open Go.RowKit Gf8 Aes By8 Cel Cf Win Drw Prm
/- Steps in memory; place; what `played` leaves. Written by tools/mkP8e.py. -/

def xL (k d x : Int) : List Value := [.int .i64 k, .int .i64 d, .int .i64 x]
/-- A script. -/
structure Sp3 (W : World) (v : Value) (n : Nat) (kd wh ix : Nat → Int) : Prop where
  shape : ∃ a c, v = .slice a n c ∧ (0 < n → ∃ b q, a = some ⟨b, q, none⟩ ∧ b < W.heap.size ∧ ∀ j, j < n → W.rangeAt b (q + j * 3) (xL (kd j) (wh j) (ix j)))
  num : ∀ j, j < n → I64 (wh j) ∧ I64 (ix j)
section
variable {W W' : World} {v : Value} {n : Nat} {kd wh ix : Nat → Int}
theorem range18 {b q : Nat} {l : List Value} (h : W.rangeAt b q l) (hb : Below W.heap.size W W') (hl : b < W.heap.size) : W'.rangeAt b q l := fun j x hx => by
  rw [cell_below hb hl]
  exact h j x hx
theorem Sp3.on (h : Sp3 W v n kd wh ix) (hb : Below W.heap.size W W') : Sp3 W' v n kd wh ix := by
  obtain ⟨⟨a, c, e, h3⟩, h1⟩ := h
  refine ⟨⟨a, c, e, fun h0 => ?_⟩, h1⟩
  obtain ⟨b, q, e1, e2, e3⟩ := h3 h0
  exact ⟨b, q, e1, Nat.lt_of_lt_of_le e2 hb.size, fun j hj => range18 (e3 j hj) hb e2⟩
theorem Sp3.shp (h : Sp3 W v n kd wh ix) : ∃ a c, v = .slice a n c := by
  obtain ⟨a, c, e, _⟩ := h.shape
  exact ⟨a, c, e⟩
theorem Sp3.at (h : Sp3 W v n kd wh ix) (h0 : 0 < n) : ∃ b q c, v = .slice (some ⟨b, q, none⟩) n c ∧ b < W.heap.size ∧ ∀ j, j < n → W.rangeAt b (q + j * 3) (xL (kd j) (wh j) (ix j)) := by
  obtain ⟨a, c, e, h3⟩ := h.shape
  obtain ⟨b, q, e1, e2, e3⟩ := h3 h0
  exact ⟨b, q, c, by rw [e, e1], e2, e3⟩
end
section
variable {o : Oper} {a : Act} {w : World}
end
section
variable {I : ImplI} {U V X Y : World} {F F' : Nat → Prop} {v : Value} {x : Nat → Value} {n k : Nat} {c : Bool}
end
end Go.Proofs.Ytcgkelgncehekab.Duc
