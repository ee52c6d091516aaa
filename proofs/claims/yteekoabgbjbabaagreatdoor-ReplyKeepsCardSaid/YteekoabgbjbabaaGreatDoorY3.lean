import Derived.Test.YteekoabgbjbabaaGreatDoorRows
import Derived.WalkKit
import Derived.WalkSpells
import Derived.Deep.QuietTactic
import Derived.Deep.WholeRow
import Derived.BigQuiet
import Derived.Test.YteekoabgbjbabaaGreatDoorL2
import Derived.Test.YteekoabgbjbabaaGreatDoorX2
import Derived.Test.YteekoabgbjbabaaGreatDoorK7
import Derived.Deep.MidRow
import Derived.Laws.CopyRow
import Derived.Laws.AppendOwnNone
import Derived.Laws.BytesArg
namespace Go.Proofs.YteekoabgbjbabaaGreatDoor.Gf8
open Go.RowKit
/- Rows of bytes, ints and bytes in the walk: of types it names bytes and ints alone. -/

theorem belowD {B : Nat} {a w : World} (h : Below B a w) (n : Nat) : Below B a (w.drewN n) := ⟨h.os, h.tape, h.output, h.size, h.block⟩
/-- A column of which the first k bytes are laid. -/
def uptoC (g : Nat → Nat) (k : Nat) : Nat → Nat := fun i => if i < k then g i else 0
theorem atLoad {P : Program} {ops : Array Oper} {rest : List Oper} {o : Oper} {a : Act} {w : World} {Q : Exit → Act → World → Prop} (ty : TypeId) (x : Operand) (_ : o.op = .load ty x) (h : wpList P ops Q (o :: rest) a w) : wpList P ops Q (o :: rest) a w := h
theorem atStore {P : Program} {ops : Array Oper} {rest : List Oper} {o : Oper} {a : Act} {w : World} {Q : Exit → Act → World → Prop} (ty : TypeId) (x y : Operand) (_ : o.op = .store ty x y) (h : wpList P ops Q (o :: rest) a w) : wpList P ops Q (o :: rest) a w := h
theorem frozen4 {W : World} {b o : Nat} {c : Array Value} {t : TypeId} (h : W.heap[b]? = some (.cells c t)) : W.frozen? ⟨b, o, none⟩ = false := by simp [World.frozen?, h]
theorem below4 {B : Nat} {a w : World} (h : Below B a w) {g : Nat} (hg : B ≤ g) (c : Array Value) : Below B a (w.setRow g c) :=
  h.trans ⟨rfl, rfl, rfl, by simp, fun k hk => setRow_other w g k c (by omega)⟩
theorem heap4 {W : World} {b k : Nat} {c : Array Value} {t : TypeId} (v : Value) (h : W.heap[b]? = some (.cells c t)) : (W.setCell ⟨b, k, none⟩ v).heap[b]? = some (.cells (c.setIfInBounds k v) t) := by
  rw [setCell_eq_setRow W b k c t _ v h]; exact setRow_heap _ _ _ _ _ _ h
theorem heap4o {W : World} {b k i : Nat} {c : Array Value} {t : TypeId} (v : Value) (h : W.heap[b]? = some (.cells c t)) (hi : i ≠ b) : (W.setCell ⟨b, k, none⟩ v).heap[i]? = W.heap[i]? := by
  rw [setCell_eq_setRow W b k c t _ v h]; exact setRow_other _ _ _ _ (by omega)
theorem heap3c (w : World) (A B C : Obj) : (((w.alloc A).alloc B).alloc C).heap[w.heap.size]? = some A ∧ (((w.alloc A).alloc B).alloc C).heap[w.heap.size + 1]? = some B ∧ (((w.alloc A).alloc B).alloc C).heap[w.heap.size + 2]? = some C := by
  have hs : ∀ (v : World) (o : Obj), (v.alloc o).heap = v.heap.push o := fun _ _ => rfl
  simp only [hs, Array.getElem?_push, Array.size_push]
  refine ⟨?_, ?_, ?_⟩
  · rw [if_neg (by omega), if_neg (by omega), if_pos trivial]
  · rw [if_neg (by omega), if_pos trivial]
  · rw [if_pos trivial]
theorem below3c (w : World) (A B C : Obj) : Below w.heap.size w (((w.alloc A).alloc B).alloc C) :=
  (((Below.refl _ _).alloc (Nat.le_refl _) _).alloc (by simp) _).alloc (by simp; omega) _
end Go.Proofs.YteekoabgbjbabaaGreatDoor.Gf8
namespace Go.Proofs.YteekoabgbjbabaaGreatDoor.Aes
open Go.RowKit Gf8

def bA (n : Nat) (f : Nat → Nat) : Array Value := (bytesL n f).toArray
theorem bA_size (n : Nat) (f : Nat → Nat) : (bA n f).size = n := by simp [bA, bytesL_len]
theorem bA_at (n : Nat) (f : Nat → Nat) {i : Nat} (h : i < n) : (bA n f)[i]? = some (.int .u8 (f i)) := by
  rw [bA, List.getElem?_toArray]; exact bytesL_at n f h
theorem bA_one (n : Nat) (f : Nat → Nat) : (bA n f).all Value.oneCell' = true := by simp [bA, bytesL, Value.oneCell']
theorem bA_congr {n : Nat} {f g : Nat → Nat} (h : ∀ i, i < n → f i = g i) : bA n f = bA n g := by
  unfold bA bytesL
  congr 1
  apply List.map_congr_left
  intro i hi
  rw [h i (List.mem_range.1 hi)]
def updN (f : Nat → Nat) (k v : Nat) : Nat → Nat := fun i => if i = k then v else f i
theorem bA_set (n : Nat) (f : Nat → Nat) (k v : Nat) : (bA n f).setIfInBounds k (.int .u8 v) = bA n (updN f k v) := by
  apply Array.ext_getElem?
  intro i
  rw [Array.getElem?_setIfInBounds]
  by_cases hi : i < n
  · rw [bA_at n _ hi, bA_at n _ hi, bA_size]
    unfold updN
    by_cases h : k = i
    · subst h; rw [if_pos rfl, if_pos hi, if_pos rfl]
    · rw [if_neg h, if_neg (fun e => h e.symm)]
  · rw [Array.getElem?_eq_none (by rw [bA_size]; omega), Array.getElem?_eq_none (by rw [bA_size]; omega)]
    by_cases h : k = i
    · rw [if_pos h, if_neg (by rw [bA_size]; omega)]
    · rw [if_neg h]
theorem updN_upto (g : Nat → Nat) (k : Nat) : updN (uptoC g k) k (g k) = uptoC g (k + 1) := by
  funext i
  simp only [updN, uptoC]
  by_cases h : i = k
  · subst h; simp
  · by_cases h2 : i < k
    · simp [h, h2, show i < k + 1 by omega]
    · simp [h, h2, show ¬ i < k + 1 by omega]
/-- A block of which the first k places are new. -/
def mixU (g f : Nat → Nat) (k : Nat) : Nat → Nat := fun i => if i < k then g i else f i
theorem updN_mixU (g f : Nat → Nat) (k : Nat) : updN (mixU g f k) k (g k) = mixU g f (k + 1) := by
  funext i
  simp only [updN, mixU]
  by_cases h : i = k
  · subst h; simp
  · by_cases h2 : i < k
    · simp [h, h2, show i < k + 1 by omega]
    · simp [h, h2, show ¬ i < k + 1 by omega]
theorem cellN {W : World} {b k n : Nat} {f : Nat → Nat} {t : TypeId} (h : W.heap[b]? = some (.cells (bA n f) t)) (hk : k < n) : W.cell? ⟨b, k, none⟩ = some (.int .u8 (f k)) := by
  rw [cell_of_row _ _ _ _ _ _ h]; exact bA_at n f hk
theorem heapNew (W : World) (o : Obj) : (W.alloc o).heap[W.heap.size]? = some o := by show (W.heap.push _)[W.heap.size]? = _; rw [Array.getElem?_push_size]
theorem heapOld (W : World) (o : Obj) {k : Nat} (h : k < W.heap.size) : (W.alloc o).heap[k]? = W.heap[k]? := by
  show (W.heap.push _)[k]? = _
  rw [Array.getElem?_push, if_neg (by omega)]
theorem belNew (W : World) (o : Obj) : Below W.heap.size W (W.alloc o) := (Below.refl _ _).alloc (Nat.le_refl _) _
theorem heap2c (w : World) (A B : Obj) : ((w.alloc A).alloc B).heap[w.heap.size]? = some A ∧ ((w.alloc A).alloc B).heap[w.heap.size + 1]? = some B := by
  have hs : ∀ (v : World) (o : Obj), (v.alloc o).heap = v.heap.push o := fun _ _ => rfl
  simp only [hs, Array.getElem?_push, Array.size_push]
  exact ⟨by rw [if_neg (by omega), if_pos trivial], by rw [if_pos trivial]⟩
theorem below2c (w : World) (A B : Obj) : Below w.heap.size w ((w.alloc A).alloc B) := ((Below.refl _ _).alloc (Nat.le_refl _) _).alloc (by simp) _
section
variable {o : Oper} {a : Act} {w : World}
theorem execLdB {x : Operand} {b f : Nat} {v : Value} (ho : o.op = .load 5 x) (hx : a.eval x = .pointer (some ⟨b, f, none⟩)) (hc : w.cell? ⟨b, f, none⟩ = some v) : (execOp a.eval o).run Tryz.prog w = .ok (.value v) w := by
  unfold execOp
  simp only [ho, hx]
  simp [go_sem, hc]
theorem execStB {x y : Operand} {b f : Nat} {v : Int} {u : Value} (ho : o.op = .store 5 x y) (hx : a.eval x = .pointer (some ⟨b, f, none⟩)) (hy : a.eval y = .int .u8 v) (hc : w.cell? ⟨b, f, none⟩ = some u) (hz : w.frozen? ⟨b, f, none⟩ = false) : (execOp a.eval o).run Tryz.prog w = .ok .skip (w.setCell ⟨b, f, none⟩ (.int .u8 v)) := by
  unfold execOp
  simp only [ho, hx, hy]
  simp [go_sem, hc, hz]
theorem execMvB {P : Program} {x : Operand} {v : Value} (ho : o.op = .move x) (hx : a.eval x = v) : (execOp a.eval o).run P w = .ok (.value v) w := by
  rw [← hx]; exact execMove ho
theorem execXor5 {x y : Operand} {p q : Nat} (ho : o.op = .binOp .xor 5 x y 5) (hx : a.eval x = .int .u8 p) (hy : a.eval y = .int .u8 q) (hp : p < 256) (hq : q < 256) : (execOp a.eval o).run Tryz.prog w = .ok (.value (.int .u8 (p ^^^ q : Nat))) w := by
  have e := xor_u8 hp hq
  unfold execOp
  simp only [ho, hx, hy]
  simp [go_sem, e]
theorem execAddI {x y : Operand} {p q : Nat} (ho : o.op = .binOp .add 3 x y 3) (hx : a.eval x = .int .i64 p) (hy : a.eval y = .int .i64 q) (h : p + q < 9223372036854775808) : (execOp a.eval o).run Tryz.prog w = .ok (.value (.int .i64 (p + q : Nat))) w := by
  have e : IntKind.i64.wrap ((p : Int) + q) = (p : Int) + q := by have := wrap_i64_nat h; simpa using this
  unfold execOp
  simp only [ho, hx, hy]
  simp [go_sem, e]
theorem execMulI {x y : Operand} {p q : Nat} (ho : o.op = .binOp .mul 3 x y 3) (hx : a.eval x = .int .i64 p) (hy : a.eval y = .int .i64 q) (h : p * q < 9223372036854775808) : (execOp a.eval o).run Tryz.prog w = .ok (.value (.int .i64 (p * q : Nat))) w := by
  have e : IntKind.i64.wrap ((p : Int) * q) = (p : Int) * q := by have := wrap_i64_nat h; simpa using this
  unfold execOp
  simp only [ho, hx, hy]
  simp [go_sem, e]
theorem execRemI {x y : Operand} {p q : Nat} (ho : o.op = .binOp .rem 3 x y 3) (hx : a.eval x = .int .i64 p) (hy : a.eval y = .int .i64 q) (h : q ≠ 0) : (execOp a.eval o).run Tryz.prog w = .ok (.value (.int .i64 (p % q : Nat))) w := by
  have e : (p : Int).tmod q = ((p % q : Nat) : Int) := by rw [Int.tmod_eq_emod_of_nonneg (by omega)]; omega
  unfold execOp
  simp only [ho, hx, hy]
  simp [go_sem, h, e]
end
end Go.Proofs.YteekoabgbjbabaaGreatDoor.Aes

namespace Go.Proofs.YteekoabgbjbabaaGreatDoor.Aes
open Go.RowKit Gf8
/- One operation by what it yields; pieces of rows; copy. -/

section
variable {P : Program} {ops : Array Oper} {rest : List Oper} {o : Oper} {a : Act} {w w' : World} {Q : Exit → Act → World → Prop}
/-- One operation, by what it yields. -/
theorem wpList_ex {v : Value} (hw : Region.wanted o (yielded ops a.tmps) = true) (he : (execOp a.eval o).run P w = .ok (.value v) w') (h : wpList P ops Q rest (a.put o.dst v) w') : wpList P ops Q (o :: rest) a w :=
  BigFrame.wpList_want hw fun K hK => by unfold Oper.wp; rw [he]; exact hK _ _ h
theorem execCutLH {ty : TypeId} {x l h : Operand} {v vl vh r : Value} (ho : o.op = .slice ty x (some l) (some h) none) (hx : a.eval x = v) (hl : a.eval l = vl) (hh : a.eval h = vh)
    (hr : (Instr.sliceAt ty v (some vl) (some vh) none).run P w = .ok r w) : (execOp a.eval o).run P w = .ok (.value r) w := by
  unfold execOp
  simp only [ho, hx, hl, hh, Option.map_some, Option.map_none, Sem.run_bind, hr, Result.andThen_ok, Sem.run_pure]
theorem execCutL {ty : TypeId} {x l : Operand} {v vl r : Value} (ho : o.op = .slice ty x (some l) none none) (hx : a.eval x = v) (hl : a.eval l = vl)
    (hr : (Instr.sliceAt ty v (some vl) none none).run P w = .ok r w) : (execOp a.eval o).run P w = .ok (.value r) w := by
  unfold execOp
  simp only [ho, hx, hl, Option.map_some, Option.map_none, Sem.run_bind, hr, Result.andThen_ok, Sem.run_pure]
/-- A whole array out of the middle of a row. -/
theorem execLoadMid {ty : TypeId} {x : Operand} {b f : Nat} {cs : List Value} {d : TypeDesc} (ho : o.op = .load ty x) (hx : a.eval x = .pointer (some ⟨b, f, none⟩)) (hc : w.rangeAt b f cs) (hu : P.underlying ty = some d) (hd : d.isRow = true) (hi : (P.info? ty).map (·.size) = some cs.length) :
    (execOp a.eval o).run P w = .ok (.value (.agg cs.toArray)) w := by
  unfold execOp
  simp only [ho, hx, Sem.run_bind, run_loadAt_mid w b f ty cs d hc hu hd hi, Result.andThen_ok, Sem.run_pure]
/-- copy of bytes into a row that is known whole. -/
theorem execCopyB {x y : Operand} {g f n c m c2 : Nat} {ad : Addr} {cur : Array Value} {t : TypeId} {cs : List Value} (ho : o.op = .call { callee := .builtin .copy, args := #[x, y], argTypes := #[24, 24] })
    (hx : a.eval x = .slice (some ⟨g, f, none⟩) n c) (hy : a.eval y = .slice (some ad) m c2) (hg : w.heap[g]? = some (.cells cur t)) (hn : cs.length = Nat.min m n)
    (hs : ∀ j v, cs[j]? = some v → w.cell? (ad.add j) = some v) (hf : f + cs.length ≤ cur.size) (h1 : ∀ v ∈ cs, v.oneCell' = true) :
    (execOp a.eval o).run Tryz.prog w = .ok (.value (.int .i64 (cs.length : Int))) (w.setRow g (cur.toList.take f ++ cs ++ cur.toList.drop (f + cs.length)).toArray) := by
  have h := run_copy_row Tryz.prog w 24 24 o.type 5 g f n c ad m c2 cur t cs Tryz.underlying24 (by kernel_rfl) hg hn hs hf h1
  unfold execOp
  simp only [ho, resolve, invoke, builtin, Sem.run_bind, Sem.run_pure, Result.andThen_ok, List.map_toArray, List.map_cons, List.map_nil, hx, hy, h]
  rfl
/-- A whole array into the middle of a row. -/
theorem execStMid {ty : TypeId} {x y : Operand} {g f : Nat} {cells cur : Array Value} {t : TypeId} (ho : o.op = .store ty x y) (hx : a.eval x = .pointer (some ⟨g, f, none⟩)) (hy : a.eval y = .agg cells) (hg : w.heap[g]? = some (.cells cur t)) (hf : f + cells.size ≤ cur.size) (hi : (P.info? ty).map (·.size) = some cells.size) (h1 : cells.all (·.oneCell') = true) :
    (execOp a.eval o).run P w = .ok .skip (w.setRow g (cur.toList.take f ++ cells.toList ++ cur.toList.drop (f + cells.size)).toArray) := by
  have this := run_storeCells_at P g f t cells.toList 0 cur w hg (by simpa using hf) (fun v hv => (Array.all_eq_true_iff_forall_mem.1 h1) v (by simpa using hv))
  simp only [Nat.add_zero, Array.length_toList] at this
  unfold execOp
  cases hq : P.info? ty with
  | none => simp [hq] at hi
  | some i =>
    have hs : cells.size = i.size := by simp [hq] at hi; omega
    simp only [ho, hx, hy, Instr.storeAt, Instr.sureAddr, Sem.run_bind, Sem.run_pure, Result.andThen_ok]
    simp [storeVar, sizeOf, typeInfo, hq, Value.cells, ← hs, this]
theorem wpList_exS (hw : Region.wanted o (yielded ops a.tmps) = true) (he : (execOp a.eval o).run P w = .ok .skip w') (h : wpList P ops Q rest (a.put o.dst undef) w') : wpList P ops Q (o :: rest) a w :=
  BigFrame.wpList_want hw fun K hK => by unfold Oper.wp; rw [he]; exact hK _ _ h
end
/-- A row of which m places from n on are h's. -/
def spl (f : Nat → Nat) (n m : Nat) (h : Nat → Nat) : Nat → Nat := fun i => if n ≤ i ∧ i < n + m then h (i - n) else f i
theorem bA_splice (N n m : Nat) (f h : Nat → Nat) (hn : n + m ≤ N) : ((bA N f).toList.take n ++ bytesL m h ++ (bA N f).toList.drop (n + m)).toArray = bA N (spl f n m h) := by
  apply Array.ext_getElem?
  intro i
  have hl : ((bA N f).toList.take n).length = n := by simp [bA_size]; omega
  rw [List.getElem?_toArray, List.append_assoc]
  by_cases h1 : i < n
  · rw [List.getElem?_append_left (by omega), List.getElem?_take, if_pos h1, Array.getElem?_toList, bA_at N f (by omega), bA_at N _ (by omega)]
    unfold spl; rw [if_neg (by omega)]
  · rw [List.getElem?_append_right (by omega), hl]
    by_cases h2 : i < n + m
    · rw [List.getElem?_append_left (by rw [bytesL_len]; omega), bytesL_at m h (by omega), bA_at N _ (by omega)]
      unfold spl; rw [if_pos ⟨by omega, h2⟩]
    · rw [List.getElem?_append_right (by rw [bytesL_len]; omega), bytesL_len, List.getElem?_drop, Array.getElem?_toList]
      rw [show n + m + (i - n - m) = i by omega]
      by_cases h3 : i < N
      · rw [bA_at N f h3, bA_at N _ h3]; unfold spl; rw [if_neg (by omega)]
      · rw [Array.getElem?_eq_none (by rw [bA_size]; omega), Array.getElem?_eq_none (by rw [bA_size]; omega)]
theorem stepU {P : Program} {ops : Array Oper} {Q : Exit → Act → World → Prop} {j : Nat} {o : Oper} {a : Act} {w : World} {K : Act → World → Prop} (ho : ops[j]? = some o) (hw : Region.wanted o (yielded ops a.tmps) = false) (hK : K (a.put o.dst undef) w) : wpOp P ops Q j K a w := by
  unfold wpOp
  rw [ho]
  simp only [hw]
  exact hK
theorem unwantedNo {ops : Array Oper} {o : Oper} {tmps : Array Value} {k : Nat} {b : Bool} (hg : o.guard = some (k, b)) (hy : yielded ops tmps k = none) : Region.wanted o (yielded ops tmps) = false := by
  simp [Region.wanted, hg, hy]
theorem yieldedNo {ops : Array Oper} {a : Act} {k d : Nat} {o : Oper} (ho : ops[k]? = some o) (hd : o.dst = some d) (hv : a.eval (.tmp d) = undef) : yielded ops a.tmps k = none := by
  simp only [Act.eval, Array.getD_eq_getD_getElem?] at hv
  cases hq : a.tmps[d]? with
  | none => simp [yielded, ho, hd, hq]
  | some v =>
    rw [hq] at hv
    simp at hv
    simp [yielded, ho, hd, hq, hv, undef]
end Go.Proofs.YteekoabgbjbabaaGreatDoor.Aes

namespace Go.Proofs.YteekoabgbjbabaaGreatDoor.By8
open Go.RowKit Gf8 Aes
/- Lists of bytes ([]byte), the bytes as whole numbers. -/

/-- A []byte of len bytes p. -/
structure SliceN (w : World) (v : Value) (len : Nat) (p : Nat → Nat) : Prop where
  shape : ∃ a cap, v = .slice a len cap ∧ len ≤ cap ∧ cap < 9223372036854775808 ∧ (0 < len → ∃ b off, a = some ⟨b, off, none⟩ ∧ b < w.heap.size ∧ ∀ j, j < len → w.cell? ⟨b, off + j, none⟩ = some (.int .u8 (p j)))
  bytes : ∀ j, j < len → p j < 256
theorem cell_below {B : Nat} {w w' : World} (h : Below B w w') {b o : Nat} (hb : b < B) : w'.cell? ⟨b, o, none⟩ = w.cell? ⟨b, o, none⟩ := h.cell (p := ⟨b, o, none⟩) hb
theorem SliceN.on {w w' : World} {v : Value} {len : Nat} {p : Nat → Nat} (h : SliceN w v len p) (hb : Below w.heap.size w w') : SliceN w' v len p := by
  obtain ⟨⟨a, cap, e, h1, h2, h3⟩, hp⟩ := h
  refine ⟨⟨a, cap, e, h1, h2, fun h0 => ?_⟩, hp⟩
  obtain ⟨b, off, e1, e2, e3⟩ := h3 h0
  exact ⟨b, off, e1, Nat.lt_of_lt_of_le e2 hb.size, fun j hj => by rw [cell_below hb e2]; exact e3 j hj⟩
theorem info5 : ∃ i, Tryz.prog.info? 5 = some i ∧ i.zero = some (.int .u8 0) ∧ i.size = 1 ∧ i.bytes = 1 := by
  have h : (Tryz.prog.info? 5).map (fun i => (i.zero, i.size, i.bytes)) = some (some (.int .u8 0), 1, 1) := by kernel_rfl
  cases hq : Tryz.prog.info? 5 with
  | none => rw [hq] at h; cases h
  | some i =>
    rw [hq] at h
    simp only [Option.map_some, Option.some.injEq, Prod.mk.injEq] at h
    exact ⟨i, rfl, h.1, h.2.1, h.2.2⟩
/-- The first n bytes of p, as cells. -/
theorem bytesL_succ (p : Nat → Nat) (n : Nat) : bytesL n p ++ [.int .u8 (p n)] = bytesL (n + 1) p := by
  unfold bytesL
  rw [List.range_succ, List.map_append]
  rfl
theorem bytesL_one (n : Nat) (p : Nat → Nat) : ∀ u ∈ bytesL n p, u.oneCell' = true := by
  intro u hu
  simp only [bytesL, List.mem_map] at hu
  obtain ⟨z, _, rfl⟩ := hu
  rfl
theorem made8 (n : Nat) : madeCells (Value.int .u8 0).cells n = bA n (fun _ => 0) := by
  apply Array.ext_getElem?
  intro i
  by_cases h : i < n
  · rw [bA_at n _ h]; simp [madeCells, Value.cells, h, Nat.mod_one]
  · rw [Array.getElem?_eq_none (by simp [madeCells]; omega), Array.getElem?_eq_none (by rw [bA_size]; omega)]
/-- make([]byte, l, n). -/
theorem run_mk (l n : Nat) (hl : l ≤ n) (hn : n ≤ 281474976710656) (W : World) : (Instr.makeSlice 24 (.int .i64 (l : Int)) (.int .i64 (n : Int))).run Tryz.prog W = .ok (.slice (some ⟨W.heap.size, 0, none⟩) l n) (W.alloc (.cells (bA n (fun _ => 0)) 5)) := by
  obtain ⟨i, h1, h2, h3, h4⟩ := info5
  have h := run_make (P := Tryz.prog) W 24 5 i (.int .u8 0) Tryz.underlying24 h1 h2 .i64 .i64 (l : Int) (n : Int) (by omega) (by omega) (by rw [h4]; omega) (by omega)
  rw [h3, Int.toNat_natCast, Int.toNat_natCast, Nat.mul_one, made8] at h
  exact h
theorem execMk {o : Oper} {a : Act} {w : World} {l n : Nat} {x y : Operand} (ho : o.op = .makeSlice 24 x y) (hx : a.eval x = .int .i64 (l : Int)) (hy : a.eval y = .int .i64 (n : Int)) (hl : l ≤ n) (hn : n ≤ 281474976710656) :
    (execOp a.eval o).run Tryz.prog w = .ok (.value (.slice (some ⟨w.heap.size, 0, none⟩) l n)) (w.alloc (.cells (bA n (fun _ => 0)) 5)) := by
  unfold execOp
  simp only [ho, hx, hy, Sem.run_bind, run_mk l n hl hn, Result.andThen_ok, Sem.run_pure]
/-- Made with room and nothing in it yet: a row of one's own. -/
theorem own_made (W : World) {B n : Nat} (hB : B ≤ W.heap.size) (hn : n ≤ 140737488355328) : (W.alloc (.cells (bA n (fun _ => 0)) 5)).ownsRow B 5 1 (.slice (some ⟨W.heap.size, 0, none⟩) 0 n) 0 (bytesL 0 (fun _ => 0)) := by
  refine ⟨rfl, Or.inr ⟨W.heap.size, n, bA n (fun _ => 0), rfl, hB, ?_, by omega, by unfold maxLen; omega, by rw [bA_size, Nat.mul_one], rfl⟩⟩
  show (W.heap.push _)[W.heap.size]? = _
  rw [Array.getElem?_push_size]
/-- A row of one's own is a list. -/
theorem own_slice {W : World} {B n : Nat} {v : Value} {p : Nat → Nat} (h : W.ownsRow B 5 1 v n (bytesL n p)) (hp : ∀ j, j < n → p j < 256) : SliceN W v n p := by
  refine ⟨?_, hp⟩
  rcases h.2 with ⟨rfl, rfl⟩ | ⟨g, cap, cur, rfl, hB, hg, hn, hm, hs, ht⟩
  · exact ⟨_, _, rfl, Nat.le_refl _, by omega, fun h => by omega⟩
  · refine ⟨_, cap, rfl, hn, by unfold maxLen at hm; omega, fun _ => ⟨g, 0, rfl, (Array.getElem?_eq_some_iff.1 hg).1, fun j hj => ?_⟩⟩
    rw [cell_of_row _ _ _ _ _ _ hg, Nat.zero_add]
    have h2 : (cur.toList.take (n * 1))[j]? = some (.int .u8 (p j)) := by rw [ht]; exact bytesL_at n p hj
    rw [Nat.mul_one, List.getElem?_take, if_pos hj, Array.getElem?_toList] at h2
    exact h2
/-- append of one byte that the call laid. -/
theorem wpList_app1 {ops : Array Oper} {rest : List Oper} {o : Oper} {a : Act} {W : World} {Q : Exit → Act → World → Prop} {B n g : Nat} {v : Value} {p : Nat → Nat} {w0 : World} (hgd : o.guard = none) (s x : Operand)
    (ho : o.op = .call { callee := .builtin .append, args := #[s, x], argTypes := #[24, 24] })
    (hs : a.eval s = v) (hx : a.eval x = .slice (some ⟨g, 0, none⟩) 1 1) (hown : W.ownsRow B 5 1 v n (bytesL n p)) (hsrc : W.heap[g]? = some (.cells #[.int .u8 (p n)] 5))
    (hbig : n + 1 ≤ 140737488355328) (hb : Below B w0 W) (hB : B ≤ W.heap.size)
    (h : ∀ v' W', W'.ownsRow B 5 1 v' (n + 1) (bytesL (n + 1) p) → W.grownBy W' v.ownBlock → Below B w0 W' → B ≤ W'.heap.size → wpList Tryz.prog ops Q rest (a.put o.dst v') W') : wpList Tryz.prog ops Q (o :: rest) a W := by
  obtain ⟨i, h1, h2, h3, h4⟩ := info5
  refine wpList_append_own W hgd s x 24 ho B 5 i (.int .u8 0) 1 1 Tryz.underlying24 h1 h2 h3 h4 rfl (by decide) v n (bytesL n p) hs hown ⟨g, 0, none⟩ 1 1 [.int .u8 (p n)] hx rfl ?_ ?_ (by unfold maxLen; omega) (by omega) hB ?_
  · intro j u hu
    have hj : j = 0 := by have := (List.getElem?_eq_some_iff.1 hu).1; simpa using this
    subst hj
    rw [show (⟨g, 0, none⟩ : Addr).add 0 = ⟨g, 0, none⟩ from rfl, cell_of_row _ _ _ _ _ _ hsrc]
    simpa using hu
  · intro u hu
    simp only [List.mem_singleton] at hu
    subst hu
    rfl
  · intro v' W' hown' hg _
    rw [bytesL_succ] at hown'
    exact h v' W' hown' hg (hb.grown hg hB (fun k hk => (hown.lt k hk).1)) (Nat.le_trans hB hg.size)
end Go.Proofs.YteekoabgbjbabaaGreatDoor.By8
namespace Go.Proofs.YteekoabgbjbabaaGreatDoor.Aes
open Go.RowKit Gf8 By8
theorem own_ne {W : World} {B n R : Nat} {v : Value} {xs : List Value} {c : Array Value} {t : TypeId} (h : W.ownsRow B 5 1 v n xs) (hr : W.heap[R]? = some (.cells c t)) (ht : t ≠ 5) : some R ≠ v.ownBlock := by
  rcases h.2 with ⟨rfl, _⟩ | ⟨g, cap, cur, rfl, _, hg, _⟩
  · simp [Value.ownBlock]
  · intro e
    simp only [Value.ownBlock, Option.some.injEq] at e
    subst e
    rw [hr] at hg
    simp only [Option.some.injEq, Obj.cells.injEq] at hg
    exact ht hg.2.1
theorem ownsRow_below {W W' : World} {B n : Nat} {v : Value} {xs : List Value} (h : W.ownsRow B 5 1 v n xs) (hb : Below W.heap.size W W') : W'.ownsRow B 5 1 v n xs := by
  refine ⟨h.1, ?_⟩
  rcases h.2 with h | ⟨g, cap, cur, e, hB, hg, h1, h2, h3, h4⟩
  · exact Or.inl h
  · exact Or.inr ⟨g, cap, cur, e, hB, by rw [hb.block _ (Array.getElem?_eq_some_iff.1 hg).1]; exact hg, h1, h2, h3, h4⟩
theorem ownsRow_row {W : World} {B n R : Nat} {v : Value} {xs : List Value} (h : W.ownsRow B 5 1 v n xs) {c : Array Value} {t : TypeId} (hr : W.heap[R]? = some (.cells c t)) (ht : t ≠ 5) (d : Array Value) : (W.setRow R d).ownsRow B 5 1 v n xs := by
  refine ⟨h.1, ?_⟩
  have ne := own_ne h hr ht
  rcases h.2 with h | ⟨g, cap, cur, e, hB, hg, h1, h2, h3, h4⟩
  · exact Or.inl h
  · subst e
    have hne : g ≠ R := fun q => ne (by simp [Value.ownBlock, q])
    exact Or.inr ⟨g, cap, cur, rfl, hB, by rw [setRow_other _ _ _ _ (by omega)]; exact hg, h1, h2, h3, h4⟩
/-- A row that is known whole, as a row of one's own. -/
theorem own_full {W : World} {B g n : Nat} {f : Nat → Nat} (h : W.heap[g]? = some (.cells (bA n f) 5)) (hB : B ≤ g) (hn : n ≤ 140737488355328) : W.ownsRow B 5 1 (.slice (some ⟨g, 0, none⟩) n n) n (bytesL n f) := by
  refine ⟨by rw [bytesL_len, Nat.mul_one], Or.inr ⟨g, n, bA n f, rfl, hB, h, Nat.le_refl _, by unfold maxLen; omega, by rw [bA_size, Nat.mul_one], ?_⟩⟩
  rw [Nat.mul_one, List.take_of_length_le (by rw [Array.length_toList, bA_size]; omega)]
  rfl
section
variable {o : Oper} {a : Act} {w : World}
theorem execIdxS {x i : Operand} {b off n cap k : Nat} (ho : o.op = .indexAddr 24 x i) (hx : a.eval x = .slice (some ⟨b, off, none⟩) n cap) (hi : a.eval i = .int .i64 (k : Int)) (hk : k < n) : (execOp a.eval o).run Tryz.prog w = .ok (.value (.pointer (some ⟨b, off + k, none⟩))) w := by
  have h1 : (k : Int) < n := by omega
  unfold execOp
  simp only [ho, hx, hi]
  simp [go_sem, h1]
theorem execOne {x : Operand} {z : Int} (ho : o.op = .buildSlice 24 1 #[(0, x)]) (hx : a.eval x = .int .u8 z) : (execOp a.eval o).run Tryz.prog w = .ok (.value (.slice (some ⟨w.heap.size, 0, none⟩) 1 1)) (w.alloc (.cells #[.int .u8 z] 5)) := by
  unfold execOp
  simp only [ho, List.map_toArray, List.map_cons, List.map_nil, hx]
  simp [go_sem]
end
theorem execIdxS0 {o : Oper} {a : Act} {w : World} {x i : Operand} {b n cap k : Nat} (ho : o.op = .indexAddr 24 x i) (hx : a.eval x = .slice (some ⟨b, 0, none⟩) n cap) (hi : a.eval i = .int .i64 (k : Int)) (hk : k < n) : (execOp a.eval o).run Tryz.prog w = .ok (.value (.pointer (some ⟨b, k, none⟩))) w := by
  have h := execIdxS (w := w) ho hx hi hk
  rwa [Nat.zero_add] at h
end Go.Proofs.YteekoabgbjbabaaGreatDoor.Aes

namespace Go.Proofs.YteekoabgbjbabaaGreatDoor.By8
open Go.RowKit Gf8 Aes

/-- The bytes as numbers. -/
def numL (p : Nat → Nat) (n : Nat) : List Int := (List.range n).map fun i => (p i : Int)
theorem numL_congr {p q : Nat → Nat} {n : Nat} (h : ∀ i, i < n → p i = q i) : numL p n = numL q n := by
  unfold numL
  apply List.map_congr_left
  intro i hi
  rw [h i (List.mem_range.1 hi)]
/-- The string of a list's bytes. -/
def strN (p : Nat → Nat) (n : Nat) : ByteArray := strOfNums (numL p n)
theorem strN_congr {p q : Nat → Nat} {n : Nat} (h : ∀ i, i < n → p i = q i) : strN p n = strN q n := by unfold strN; rw [numL_congr h]
theorem conv_str {w : World} {v : Value} {l : Nat} {p : Nat → Nat} (h : SliceN w v l p) : (convert 24 9 v).run Tryz.prog w = .ok (.string (strN p l)) w := by
  obtain ⟨⟨a, cap, rfl, h1, h2, h3⟩, hp⟩ := h
  by_cases h0 : 0 < l
  · obtain ⟨b, off, rfl, _, hc⟩ := h3 h0
    refine run_convert_bytes_arg w 24 5 Tryz.underlying24 Tryz.underlying5 b off l cap (numL p l) (by simp [numL]) (fun i hi => ?_) 9 Tryz.underlying9
    rw [hc i hi]
    simp [numL, hi]
  · obtain rfl : l = 0 := by omega
    cases a with
    | none => exact run_convert_bytes_nil w 24 5 Tryz.underlying24 Tryz.underlying5 0 cap 9 Tryz.underlying9
    | some ad =>
      have hl : (loadCells ad 0).run Tryz.prog w = .ok (([] : List Int).map (Value.int .u8)).toArray w := by simpa using run_loadCells_list (P := Tryz.prog) w ad [] (by simp)
      rw [run_convert_bytes_string w 24 9 5 _ 0 cap Tryz.underlying24 Tryz.underlying5 Tryz.underlying9, run_bytesToString w _ 0 cap [] hl]
      rfl
section
variable {o : Oper} {a : Act} {w : World}
theorem execStr {x : Operand} {v : Value} {l : Nat} {p : Nat → Nat} (ho : o.op = .convert 24 9 x) (hx : a.eval x = v) (h : SliceN w v l p) : (execOp a.eval o).run Tryz.prog w = .ok (.value (.string (strN p l))) w := by
  unfold execOp
  simp only [ho, hx, Sem.run_bind, conv_str h, Result.andThen_ok, Sem.run_pure]
theorem execNeqS {x y : Operand} {s : ByteArray} (ho : o.op = .binOp .neq 9 x y 9) (hx : a.eval x = .string s) (hy : a.eval y = .string s) : (execOp a.eval o).run Tryz.prog w = .ok (.value (.bool false)) w := by
  unfold execOp
  simp only [ho, hx, hy]
  simp [go_sem]
theorem execEqlS {x y : Operand} {s : ByteArray} (ho : o.op = .binOp .eql 9 x y 9) (hx : a.eval x = .string s) (hy : a.eval y = .string s) : (execOp a.eval o).run Tryz.prog w = .ok (.value (.bool true)) w := by
  unfold execOp
  simp only [ho, hx, hy]
  simp [go_sem]
end
end Go.Proofs.YteekoabgbjbabaaGreatDoor.By8

namespace Go.Proofs.YteekoabgbjbabaaGreatDoor.By8
open Go.RowKit Gf8 Aes

/-- A piece of a []byte. -/
theorem SliceN.sub {w : World} {a : Option Addr} {len cap : Nat} {p : Nat → Nat} (hv : SliceN w (.slice a len cap) len p) (l h : Nat) (h1 : l ≤ h) (h2 : h ≤ len) :
    SliceN w (sliced a l h cap 1) (h - l) (fun j => p (l + j)) := by
  obtain ⟨⟨a', cap', e, e1, e2, e3⟩, hp⟩ := hv
  obtain ⟨rfl, _, rfl⟩ : a = a' ∧ len = len ∧ cap = cap' := by
    injection e with x y z
    exact ⟨x, rfl, z⟩
  refine ⟨⟨_, cap - l, rfl, by omega, by omega, fun h0 => ?_⟩, fun j hj => hp (l + j) (by omega)⟩
  obtain ⟨b, off, rfl, hb, hc⟩ := e3 (by omega)
  rw [if_neg (by omega)]
  refine ⟨b, off + l, ?_, hb, fun j hj => ?_⟩
  · simp [Addr.add]
  · rw [Nat.add_assoc]; exact hc (l + j) (by omega)
theorem slice_lh (a : Option Addr) (len cap l h : Nat) (h1 : l ≤ h) (h2 : h ≤ cap) (W : World) : (Instr.sliceAt 24 (.slice a len cap) (some (.int .i64 (l : Int))) (some (.int .i64 (h : Int))) none).run Tryz.prog W = .ok (sliced a l h cap 1) W := by
  have e1 : (l : Int) ≤ h := by omega
  have e2 : (h : Int) ≤ cap := by omega
  simp [Instr.sliceAt, Instr.slice, run_underlying Tryz.underlying24, Instr.sliceBounds, run_sliceBound, sliced, h1, h2]
theorem slice_h (a : Option Addr) (len cap h : Nat) (h2 : h ≤ cap) (W : World) : (Instr.sliceAt 24 (.slice a len cap) none (some (.int .i64 (h : Int))) none).run Tryz.prog W = .ok (sliced a 0 h cap 1) W := by
  have e2 : (h : Int) ≤ cap := by omega
  simp [Instr.sliceAt, Instr.slice, run_underlying Tryz.underlying24, Instr.sliceBounds, run_sliceBound, sliced, h2]
theorem slice_l (a : Option Addr) (len cap l : Nat) (h1 : l ≤ len) (W : World) : (Instr.sliceAt 24 (.slice a len cap) (some (.int .i64 (l : Int))) none none).run Tryz.prog W = .ok (sliced a l len cap 1) W := by
  have e1 : (l : Int) ≤ len := by omega
  simp [Instr.sliceAt, Instr.slice, run_underlying Tryz.underlying24, Instr.sliceBounds, run_sliceBound, sliced, h1]
section
variable {o : Oper} {a : Act} {w : World}
theorem execSlLH {x l h : Operand} {v vl vh r : Value} (ho : o.op = .slice 24 x (some l) (some h) none) (hx : a.eval x = v) (hl : a.eval l = vl) (hh : a.eval h = vh)
    (hr : (Instr.sliceAt 24 v (some vl) (some vh) none).run Tryz.prog w = .ok r w) : (execOp a.eval o).run Tryz.prog w = .ok (.value r) w := by
  unfold execOp
  simp only [ho, hx, hl, hh, Option.map_some, Option.map_none, Sem.run_bind, hr, Result.andThen_ok, Sem.run_pure]
theorem execSlH {x h : Operand} {ty : TypeId} {v vh r : Value} (ho : o.op = .slice ty x none (some h) none) (hx : a.eval x = v) (hh : a.eval h = vh)
    (hr : (Instr.sliceAt ty v none (some vh) none).run Tryz.prog w = .ok r w) : (execOp a.eval o).run Tryz.prog w = .ok (.value r) w := by
  unfold execOp
  simp only [ho, hx, hh, Option.map_some, Option.map_none, Sem.run_bind, hr, Result.andThen_ok, Sem.run_pure]
theorem execSlL {x l : Operand} {v vl r : Value} (ho : o.op = .slice 24 x (some l) none none) (hx : a.eval x = v) (hl : a.eval l = vl)
    (hr : (Instr.sliceAt 24 v (some vl) none none).run Tryz.prog w = .ok r w) : (execOp a.eval o).run Tryz.prog w = .ok (.value r) w := by
  unfold execOp
  simp only [ho, hx, hl, Option.map_some, Option.map_none, Sem.run_bind, hr, Result.andThen_ok, Sem.run_pure]
theorem execQuoI {x y : Operand} {p q : Nat} (ho : o.op = .binOp .quo 3 x y 3) (hx : a.eval x = .int .i64 p) (hy : a.eval y = .int .i64 q) (h : q ≠ 0) (hp : p < 9223372036854775808) : (execOp a.eval o).run Tryz.prog w = .ok (.value (.int .i64 (p / q : Nat))) w := by
  have e : (p : Int).tdiv q = ((p / q : Nat) : Int) := by rw [Int.tdiv_eq_ediv_of_nonneg (by omega)]; simp
  have h2 : p / q < 9223372036854775808 := Nat.lt_of_le_of_lt (Nat.div_le_self _ _) hp
  have e2 : IntKind.i64.wrap ((p : Int) / q) = (p : Int) / q := by have := wrap_i64_nat h2; simpa using this
  unfold execOp
  simp only [ho, hx, hy]
  simp [go_sem, h, e, e2]
theorem execSubI {x y : Operand} {p q : Nat} (ho : o.op = .binOp .sub 3 x y 3) (hx : a.eval x = .int .i64 p) (hy : a.eval y = .int .i64 q) (h : q ≤ p) (hp : p < 9223372036854775808) : (execOp a.eval o).run Tryz.prog w = .ok (.value (.int .i64 (p - q : Nat))) w := by
  have e2 : IntKind.i64.wrap ((p : Int) - q) = ((p - q : Nat) : Int) := by rw [show (p : Int) - q = ((p - q : Nat) : Int) by omega]; exact wrap_i64_nat (by omega)
  unfold execOp
  simp only [ho, hx, hy]
  simp [go_sem, e2]
end
end Go.Proofs.YteekoabgbjbabaaGreatDoor.By8
