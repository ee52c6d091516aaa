import Derived.Test.YtgmomkkhlcigbaaG9a
import Derived.Test.YtgmomkkhlcigbaaF9b
import Derived.Test.YtgmomkkhlcigbaaF9a
import Derived.Test.YtgmomkkhlcigbaaZ9a
import Derived.Test.YtgmomkkhlcigbaaP9b
import Derived.Test.YtgmomkkhlcigbaaF9c
namespace Go.Proofs.Ytgmomkkhlcigbaa.Tap
open Go.RowKit Gf8 Aes By8 Cel Cf
/- The law's awake, TapeJoins. Written by tools/mkV9o.py. -/
theorem ne9 {X : World} {g : Nat} {c : Obj} (h : X.heap[g]? = some c) : g ≠ X.heap.size := by have := (Array.getElem?_eq_some_iff.1 h).1; omega
theorem execDec {o : Oper} {a : Act} {P : Program} {w w' : World} {b c : Bool} (h : (execOp a.eval o).run P w = .ok (.value (.bool b)) w') (e : b = c) : (execOp a.eval o).run P w = .ok (.value (.bool c)) w' := by rw [h, e]
end Go.Proofs.Ytgmomkkhlcigbaa.Tap

namespace Go.Proofs.Ytgmomkkhlcigbaa.Prm
open Go.RowKit Gf8 Aes By8 Cel Cf Tap Drw
/- Stage 11's reference: Check, Identity, Bounds, Put. Written by tools/mkP9c.py. -/
def pE (f : Nat → Int) (n : Nat) : Nat := if okQ f n n = true then 0 else 110
def gN (f : Nat → Int) : Nat → Nat := fun i => (f i).toNat
theorem okQ_succ {f : Nat → Int} {n i : Nat} (h : okQ f n i = true) (h1 : ¬ f i < 0) (h2 : ¬ (n : Int) ≤ f i) (h3 : ¬ inI f (f i) i = true) : okQ f n (i + 1) = true := by
 simp only [okQ, h, Bool.true_and, Bool.and_eq_true, decide_eq_true_eq, Bool.not_eq_true', Bool.eq_false_iff.2 h3, and_true]
 omega
theorem pE_bad {f : Nat → Int} {n i : Nat} (hi : i < n) (h : f i < 0 ∨ (n : Int) ≤ f i ∨ inI f (f i) i = true) : pE f n = 110 := if_neg fun q => by
 obtain ⟨h1, h2⟩ := okQ_iff.1 q
 have := h1 i hi
 rcases h with h | h | h
 ·omega
 ·omega
 ·obtain ⟨j, hj, e⟩ := inI_iff.1 h
  have := h2 j i (by omega) hi e
  omega
def boolsL (n : Nat) (s : Nat → Bool) : List Value := (List.range n).map fun j => .bool (s j)
theorem boolsL_len (n : Nat) (s : Nat → Bool) : (boolsL n s).length = n := by simp [boolsL]
theorem boolsL_get {n j : Nat} {s : Nat → Bool} (h : j < n) : (boolsL n s)[j]? = some (.bool (s j)) := by simp [boolsL, h]
theorem boolsL_congr {n : Nat} {f g : Nat → Bool} (h : ∀ j, j < n → f j = g j) : boolsL n f = boolsL n g := by
 unfold boolsL
 apply List.map_congr_left
 intro i hi
 rw [h i (List.mem_range.1 hi)]
theorem infoBl : ∃ i, Try.prog.info? 4 = some i ∧ i.zero = some (.bool false) ∧ i.size = 1 ∧ i.bytes = 1 := by
 have h : (Try.prog.info? 4).map (fun i => (i.zero, i.size, i.bytes)) = some (some (.bool false), 1, 1) := by kernel_rfl
 cases hq : Try.prog.info? 4 with
 | none => rw [hq] at h; cases h
 | some i =>
  rw [hq] at h
  simp only [Option.map_some, Option.some.injEq, Prod.mk.injEq] at h
  exact ⟨i, rfl, h.1, h.2.1, h.2.2⟩
section
variable {o : Oper} {a : Act} {w : World}
theorem execMkBl {x y : Operand} {n : Nat} (ho : o.op = .makeSlice 66 x y) (hx : a.eval x = .int .i64 (n : Int)) (hy : a.eval y = .int .i64 (n : Int)) (hn : n ≤ 140737488355328) : (execOp a.eval o).run Try.prog w = .ok (.value (.slice (some ⟨w.heap.size, 0, none⟩) n n)) (w.alloc (.cells (madeCells #[.bool false] n) 4)) := by
 obtain ⟨i, h1, h2, h3, h4⟩ := infoBl
 have h := run_make (P := Try.prog) w 66 4 i (.bool false) Try.underlying66 h1 h2 .i64 .i64 (n : Int) (n : Int) (by omega) (by omega) (by rw [h4]; omega) (by omega)
 rw [h3, Int.toNat_natCast, Nat.mul_one] at h
 unfold execOp
 simp only [ho, hx, hy, Sem.run_bind, h, Result.andThen_ok, Sem.run_pure]
 rfl
theorem execIdxBl {x i : Operand} {b off n cap k : Nat} (ho : o.op = .indexAddr 66 x i) (hx : a.eval x = .slice (some ⟨b, off, none⟩) n cap) (hi : a.eval i = .int .i64 (k : Int)) (hk : k < n) : (execOp a.eval o).run Try.prog w = .ok (.value (.pointer (some ⟨b, off + k, none⟩))) w := by
 have h1 : (k : Int) < n := by omega
 unfold execOp
 simp only [ho, hx, hi]
 simp [go_sem, h1, Addr.add_mid]
theorem execLdBl {x : Operand} {b f : Nat} {v : Bool} (ho : o.op = .load 4 x) (hx : a.eval x = .pointer (some ⟨b, f, none⟩)) (hc : w.cell? ⟨b, f, none⟩ = some (.bool v)) : (execOp a.eval o).run Try.prog w = .ok (.value (.bool v)) w := by
 unfold execOp
 simp only [ho, hx]
 simp [go_sem, hc]
theorem execStBl {x y : Operand} {b k : Nat} {z : Bool} {old : Value} (ho : o.op = .store 4 x y) (hx : a.eval x = .pointer (some ⟨b, k, none⟩)) (hy : a.eval y = .bool z) (hc : w.cell? ⟨b, k, none⟩ = some old) (hf : w.frozen? ⟨b, k, none⟩ = false) : (execOp a.eval o).run Try.prog w = .ok .skip (w.setCell ⟨b, k, none⟩ (.bool z)) := by
 unfold execOp
 simp only [ho, hx, hy]
 simp [go_sem, hc, hf]
theorem execSubIg {x y : Operand} {p q z : Int} (ho : o.op = .binOp .sub 3 x y 3) (hx : a.eval x = .int .i64 p) (hy : a.eval y = .int .i64 q) (h : z = p - q) (h1 : -9223372036854775808 ≤ z) (h2 : z < 9223372036854775808) : (execOp a.eval o).run Try.prog w = .ok (.value (.int .i64 z)) w := by
 subst h
 unfold execOp
 simp only [ho, hx, hy]
 simp [go_sem, IntKind.wrap, show IntKind.i64.signed = true from rfl]
 omega
end
theorem own_mkBl (W : World) (n : Nat) (s : Nat → Bool) (hn : n ≤ 140737488355328) (hs : ∀ j, j < n → s j = false) : (W.alloc (.cells (madeCells #[.bool false] n) 4)).ownsRow W.heap.size 4 1 (.slice (some ⟨W.heap.size, 0, none⟩) n n) n (boolsL n s) := by
 refine ⟨by rw [boolsL_len, Nat.mul_one], Or.inr ⟨W.heap.size, n, _, rfl, Nat.le_refl _, heapNew W _, Nat.le_refl _, by unfold maxLen; omega, by simp [madeCells], ?_⟩⟩
 apply List.ext_getElem?
 intro j
 by_cases h : j < n
 ·simp [madeCells, boolsL, h, hs j h, Nat.mod_one]
 ·simp [madeCells, boolsL, h]
theorem own_cellBl {W : World} {B n g cap j : Nat} {s : Nat → Bool} (h : W.ownsRow B 4 1 (.slice (some ⟨g, 0, none⟩) n cap) n (boolsL n s)) (hj : j < n) : W.cell? ⟨g, 0 + j, none⟩ = some (.bool (s j)) ∧ W.frozen? ⟨g, 0 + j, none⟩ = false := by
 rw [Nat.zero_add]
 rcases h.2 with ⟨e, _⟩ | ⟨g', cap', cur, e, _, hg, h1, h2, h3, h4⟩
 ·cases e
 ·injection e with e1 _ _
  injection e1 with e1
  injection e1 with e1 _ _
  subst e1
  refine ⟨?_, frozen4 hg⟩
  rw [cell_of_row _ _ _ _ _ _ hg, ← Array.getElem?_toList]
  have h5 : (cur.toList.take (n * 1))[j]? = some (.bool (s j)) := by rw [h4]; exact boolsL_get hj
  rw [List.getElem?_take_of_lt (by omega)] at h5
  exact h5
theorem own_setBl {W : World} {B n g cap k : Nat} {s : Nat → Bool} (z : Bool) (h : W.ownsRow B 4 1 (.slice (some ⟨g, 0, none⟩) n cap) n (boolsL n s)) : (W.setCell ⟨g, 0 + k, none⟩ (.bool z)).ownsRow B 4 1 (.slice (some ⟨g, 0, none⟩) n cap) n (boolsL n (fun j => if j = k then z else s j)) := by
 rw [Nat.zero_add]
 refine ⟨by rw [boolsL_len, Nat.mul_one], ?_⟩
 rcases h.2 with ⟨e, _⟩ | ⟨g', cap', cur, e, hB, hg, h1, h2, h3, h4⟩
 ·cases e
 ·injection e with e1 e2 e3
  injection e1 with e1
  injection e1 with e1 _ _
  subst e1
  subst e3
  refine Or.inr ⟨g, cap, cur.setIfInBounds k (.bool z), rfl, hB, heap4 _ hg, h1, h2, by simpa using h3, ?_⟩
  apply List.ext_getElem?
  intro j
  have h5 : (cur.toList.take (n * 1))[j]? = (boolsL n s)[j]? := by rw [h4]
  by_cases hj : j < n
  ·rw [List.getElem?_take_of_lt (by omega), boolsL_get hj] at h5
   rw [List.getElem?_take_of_lt (by omega), boolsL_get hj, Array.getElem?_toList, Array.getElem?_setIfInBounds]
   by_cases hk : k = j
   ·subst hk
    rw [if_pos rfl, if_pos rfl, if_pos (by simp at h3; omega)]
   ·rw [if_neg hk, if_neg (fun q => hk q.symm), ← Array.getElem?_toList]
    exact h5
  ·rw [List.getElem?_eq_none (by simp; omega), List.getElem?_eq_none (by rw [boolsL_len]; omega)]
theorem seen_set {W : World} {B n g cap i w : Nat} {f : Nat → Int} (h : W.ownsRow B 4 1 (.slice (some ⟨g, 0, none⟩) n cap) n (boolsL n (fun j => inI f (j : Int) i))) (e : f i = (w : Int)) : (W.setCell ⟨g, 0 + w, none⟩ (.bool true)).ownsRow B 4 1 (.slice (some ⟨g, 0, none⟩) n cap) n (boolsL n (fun j => inI f (j : Int) (i + 1))) := by
 have h2 := own_setBl (k := w) true h
 rw [boolsL_congr (g := fun j => inI f (j : Int) (i + 1)) (fun j _ => ?_)] at h2
 ·exact h2
 ·show _ = (inI f (j : Int) i || decide (f i = (j : Int)))
  by_cases q : j = w
  ·subst q
   rw [if_pos rfl, decide_eq_true e, Bool.or_true]
  ·rw [if_neg q, decide_eq_false (by omega), Bool.or_false]
end Go.Proofs.Ytgmomkkhlcigbaa.Prm

namespace Go.Proofs.Ytgmomkkhlcigbaa.Prm
open Go.RowKit Gf8 Aes By8 Cel Cf Tap Drw
/- Stage 11's reference: Inverse, Compose, Apply, Fit, From. Written by tools/mkP9d.py. -/
def zl (E L : Nat) : Nat := if E = 0 then L else 0
theorem zl_ok {L : Nat} : zl 0 L = L := rfl
theorem zl_no {E L : Nat} (h : E ≠ 0) : zl E L = 0 := if_neg h
theorem pE_ok {f : Nat → Int} {n : Nat} (h : okQ f n n = true) : pE f n = 0 := if_pos h
theorem pE_no {f : Nat → Int} {n : Nat} (h : ¬ okQ f n n = true) : pE f n = 110 := if_neg h
def apE (f : Nat → Int) (n m : Nat) : Nat := if pE f n = 0 ∧ n = m then 0 else 110
def fitQ (d : Nat → Int) (N : Nat) : Nat → Bool
 | 0 => true
 | k + 1 => fitQ d N k && decide (0 ≤ d k ∧ d k < (N : Int) - k)
theorem fitQ_iff {d : Nat → Int} {N : Nat} : ∀ {k}, fitQ d N k = true ↔ ∀ i, i < k → 0 ≤ d i ∧ d i < (N : Int) - i
 | 0 => ⟨(fun _ i h => absurd h (Nat.not_lt_zero _)), (fun _ => rfl)⟩
 | k + 1 => by
  simp only [fitQ, Bool.and_eq_true, decide_eq_true_eq, fitQ_iff (k := k)]
  constructor
  ·rintro ⟨h1, h2⟩ i hi
   by_cases q : i = k
   ·subst q; exact h2
   ·exact h1 i (by omega)
  ·exact fun h => ⟨fun i hi => h i (by omega), h k (by omega)⟩
theorem fitQ_succ {d : Nat → Int} {N i : Nat} (h : fitQ d N i = true) (h1 : 0 ≤ d i ∧ d i < (N : Int) - i) : fitQ d N (i + 1) = true := by
 simp only [fitQ, h, Bool.true_and, decide_eq_true_eq]
 exact h1
theorem fitQ_bad {d : Nat → Int} {N m i : Nat} (hi : i < m) (h : ¬ (0 ≤ d i ∧ d i < (N : Int) - i)) : fitQ d N m = false := Bool.eq_false_iff.2 fun q => h (fitQ_iff.1 q i hi)
def frE (n : Int) (d : Nat → Int) (m : Nat) : Nat := if n < 0 then 2 else if m = n.toNat - 1 ∧ fitQ d n.toNat m = true then 0 else 110
theorem frE_ok {N : Nat} {d : Nat → Int} {m : Nat} (h1 : m = N - 1) (h2 : fitQ d N m = true) : frE (N : Int) d m = 0 := by
 unfold frE
 rw [if_neg (by omega), Int.toNat_natCast, if_pos ⟨h1, h2⟩]
theorem frE_no {N : Nat} {d : Nat → Int} {m : Nat} (h : ¬ (m = N - 1 ∧ fitQ d N m = true)) : frE (N : Int) d m = 110 := by
 unfold frE
 rw [if_neg (by omega), Int.toNat_natCast, if_neg h]
theorem shpO {W : World} {B n : Nat} {t : TypeId} {v : Value} {xs : List Value} (h : W.ownsRow B t 1 v n xs) : ∃ g c, v = .slice g n c := by
 rcases h.2 with ⟨rfl, rfl⟩ | ⟨g, cap, cur, rfl, _⟩
 ·exact ⟨_, _, rfl⟩
 ·exact ⟨_, _, rfl⟩
end Go.Proofs.Ytgmomkkhlcigbaa.Prm

namespace Go.Proofs.Ytgmomkkhlcigbaa.Prm
open Go.RowKit Gf8 Aes By8 Cel Cf Tap Drw
/- Stage 11's reference: find, Rank. Written by tools/mkP9e.py. -/
theorem execSlLg {o : Oper} {a : Act} {w : World} {x l : Operand} {ty : TypeId} {v vl r : Value} (ho : o.op = .slice ty x (some l) none none) (hx : a.eval x = v) (hl : a.eval l = vl)
  (hr : (Instr.sliceAt ty v (some vl) none none).run Try.prog w = .ok r w) : (execOp a.eval o).run Try.prog w = .ok (.value r) w := by
 unfold execOp
 simp only [ho, hx, hl, Option.map_some, Option.map_none, Sem.run_bind, hr, Result.andThen_ok, Sem.run_pure]
theorem sl_lIg (g len cap l : Nat) (h1 : l ≤ len) (W : World) : (Instr.sliceAt 25 (.slice (some ⟨g, 0, none⟩) len cap) (some (.int .i64 (l : Int))) none none).run Try.prog W = .ok (sliced (some ⟨g, 0, none⟩) l len cap 1) W := by
 have e1 : (l : Int) ≤ len := by omega
 obtain ⟨i, i1, _, i3, _⟩ := infoI
 simp [Instr.sliceAt, Instr.slice, run_underlying Try.underlying25, Instr.sliceBounds, run_sliceBound, sliced, h1, sizeOf, typeInfo, i1, i3]
theorem sl_no {A : Addr} {l h m x y : Nat} (e : sliced (some A) l h m 1 = .slice none x y) : y = 0 := by
 unfold sliced at e
 by_cases q : m = l
 ·rw [if_pos q] at e; cases e
 ·rw [if_neg q] at e; cases e
theorem SliceI.sub {w : World} {a : Option Addr} {len cap : Nat} {p : Nat → Int} (hv : SliceI w (.slice a len cap) len p) (l h : Nat) (h1 : l ≤ h) (h2 : h ≤ len) :
  SliceI w (sliced a l h cap 1) (h - l) (fun j => p (l + j)) := by
 obtain ⟨⟨a', cap', e, e1, e2, e3⟩, hp⟩ := hv
 obtain ⟨rfl, _, rfl⟩ : a = a' ∧ len = len ∧ cap = cap' := by
  injection e with x y z
  exact ⟨x, rfl, z⟩
 refine ⟨⟨_, cap - l, rfl, by omega, by omega, fun h0 => ?_⟩, fun j hj => hp (l + j) (by omega)⟩
 obtain ⟨b, off, rfl, hb, hc⟩ := e3 (by omega)
 rw [if_neg (by omega)]
 refine ⟨b, off + l, ?_, hb, fun j hj => ?_⟩
 ·simp [Addr.add]
 ·rw [Nat.add_assoc]; exact hc (l + j) (by omega)
structure Two (V W : World) (u : Value) (nu : Nat) (fu : Nat → Int) (lv : Value) (nl : Nat) (fl : Nat → Int) : Prop where
 ru : W.ownsRow V.heap.size 3 1 u nu (intsL nu fu)
 rl : W.ownsRow V.heap.size 3 1 lv nl (intsL nl fl)
 ap : ∀ k, u.ownBlock = some k → lv.ownBlock ≠ some k
section
variable {V W W' : World} {u lv : Value} {nu nl : Nat} {fu fl : Nat → Int}
theorem Two.on (h : Two V W u nu fu lv nl fl) (b : Below W.heap.size W W') : Two V W' u nu fu lv nl fl := ⟨ownD_below h.ru b, ownD_below h.rl b, h.ap⟩
theorem Two.over {C m : Nat} {v2 : Value} {ys : List Value} (h : Two V W u nu fu lv nl fl) (hu : ∀ k, u.ownBlock = some k → k < C) (hl : ∀ k, lv.ownBlock = some k → k < C) (h2 : W.ownsRow C 3 1 v2 m ys) (gr : W.grownBy W' v2.ownBlock) : Two V W' u nu fu lv nl fl :=
 ⟨own_overB h.ru hu h2 gr, own_overB h.rl hl h2 gr, h.ap⟩
theorem Two.new {C m nl' : Nat} {v' : Value} {f' fl' : Nat → Int} (h : Two V W u nu fu lv nl fl) (hu : ∀ k, u.ownBlock = some k → k < C) (own : W.ownsRow C 3 1 v' m (intsL m f')) (hC : V.heap.size ≤ C) (em : m = nl') (ef : ∀ j, j < nl' → f' j = fl' j) : Two V W u nu fu v' nl' fl' := by
 subst em
 refine ⟨h.ru, ?_, fun k e q => ?_⟩
 ·rw [← intsL_congr ef]
  exact ownD_base own hC
 ·have a1 := hu k e
  have a2 := (own.lt k q).1
  omega
theorem Two.lo {g c k : Nat} (h : Two V W u nu fu (.slice (some ⟨g, 0, none⟩) nl c) nl fl) (hf : ∀ j, j < nl → -9223372036854775808 ≤ fl j ∧ fl j < 9223372036854775808) (hk : k < nl) : SliceI W (.slice (some ⟨g, 0, none⟩) k c) k fl := by
 have h2 := SliceI.sub (own_ints h.rl hf) 0 k (Nat.zero_le _) (by omega)
 rw [sliced_0, Nat.sub_zero] at h2
 exact h2.cg fun j _ => by rw [Nat.zero_add]
theorem Two.hi {g c k : Nat} (h : Two V W u nu fu (.slice (some ⟨g, 0, none⟩) nl c) nl fl) (hf : ∀ j, j < nl → -9223372036854775808 ≤ fl j ∧ fl j < 9223372036854775808) (hk : k < nl) : SliceI W (sliced (some ⟨g, 0, none⟩) (k + 1) nl c 1) (nl - (k + 1)) (fun j => fl (k + 1 + j)) :=
 SliceI.sub (own_ints h.rl hf) (k + 1) nl hk (Nat.le_refl _)
end
end Go.Proofs.Ytgmomkkhlcigbaa.Prm

namespace Go.Proofs.Ytgmomkkhlcigbaa.Prm
open Go.RowKit Gf8 Aes By8 Cel Cf Tap Drw
/- Stage 11's reference: Draws. Written by tools/mkP9g.py. -/
theorem own_offB {W : World} {B n s g k : Nat} {t : TypeId} {v z : Value} {xs : List Value} (h : W.ownsRow B t s v n xs) (hv : v.ownBlock ≠ some g) : (W.setCell ⟨g, k, none⟩ z).ownsRow B t s v n xs := by
 refine ⟨h.1, ?_⟩
 rcases h.2 with h | ⟨g1, cap, cur, e, hB, h1, hr⟩
 ·exact Or.inl h
 ·refine Or.inr ⟨g1, cap, cur, e, hB, ?_, hr⟩
  subst e
  rw [Below.heap_setCell _ _ _ _ (fun q => hv (by show some g1 = some g; have q2 : g1 = g := q; rw [q2]))]
  exact h1
structure Thr (V W : World) (va vt : Value) (n : Nat) (fa ft : Nat → Int) (u : Value) (nu : Nat) (fu : Nat → Int) : Prop where
 ra : W.ownsRow V.heap.size 3 1 va n (intsL n fa)
 rt : W.ownsRow V.heap.size 3 1 vt n (intsL n ft)
 ru : W.ownsRow V.heap.size 3 1 u nu (intsL nu fu)
 nat : ∀ k, va.ownBlock = some k → vt.ownBlock ≠ some k
 nau : ∀ k, u.ownBlock = some k → va.ownBlock ≠ some k ∧ vt.ownBlock ≠ some k
section
variable {V W W' : World} {va vt u : Value} {n nu g c : Nat} {fa ft fu : Nat → Int}
theorem Thr.on (h : Thr V W va vt n fa ft u nu fu) (b : Below W.heap.size W W') : Thr V W' va vt n fa ft u nu fu := ⟨ownD_below h.ra b, ownD_below h.rt b, ownD_below h.ru b, h.nat, h.nau⟩
theorem Thr.atA {j : Nat} (h : Thr V W va vt n fa ft u nu fu) (e : va = .slice (some ⟨g, 0, none⟩) n c) (hj : j < n) : W.cell? ⟨g, 0 + j, none⟩ = some (.int .i64 (fa j)) ∧ W.frozen? ⟨g, 0 + j, none⟩ = false := by
 have h1 := h.ra
 rw [e] at h1
 exact own_cellI h1 hj
theorem Thr.atT {j : Nat} (h : Thr V W va vt n fa ft u nu fu) (e : vt = .slice (some ⟨g, 0, none⟩) n c) (hj : j < n) : W.cell? ⟨g, 0 + j, none⟩ = some (.int .i64 (ft j)) ∧ W.frozen? ⟨g, 0 + j, none⟩ = false := by
 have h1 := h.rt
 rw [e] at h1
 exact own_cellI h1 hj
theorem Thr.setT {j : Nat} (h : Thr V W va vt n fa ft u nu fu) (e : vt = .slice (some ⟨g, 0, none⟩) n c) (z : Int) : Thr V (W.setCell ⟨g, 0 + j, none⟩ (.int .i64 z)) va vt n fa (fun i => if i = j then z else ft i) u nu fu := by
 have hb : vt.ownBlock = some g := by rw [e]; rfl
 refine ⟨own_offB h.ra (fun q => h.nat g q hb), ?_, own_offB h.ru (fun q => (h.nau g q).2 hb), h.nat, h.nau⟩
 have h1 := h.rt
 rw [e] at h1 ⊢
 exact own_setF z h1
theorem Thr.cgT {ft' : Nat → Int} (h : Thr V W va vt n fa ft u nu fu) (e : ∀ j, j < n → ft j = ft' j) : Thr V W va vt n fa ft' u nu fu := ⟨h.ra, by rw [← intsL_congr e]; exact h.rt, h.ru, h.nat, h.nau⟩
end
end Go.Proofs.Ytgmomkkhlcigbaa.Prm

namespace Go.Proofs.Ytgmomkkhlcigbaa.Prm
open Go.RowKit Gf8 Aes By8 Cel Cf Tap Drw
/- What the program's package keeps (Impl); the laws' same, awake; PermChecks, PermMakes, PermPairs over any Impl. Written by tools/mkP9h.py. -/
theorem zl_le (E L : Nat) : zl E L ≤ L := by
 unfold zl
 by_cases h : E = 0
 ·rw [if_pos h]; exact Nat.le_refl _
 ·rw [if_neg h]; exact Nat.zero_le _
end Go.Proofs.Ytgmomkkhlcigbaa.Prm
