import Derived.Test.YtmfaapbhehhlpaaY0
import Derived.Laws.BytesArg
import Derived.Laws.AppendOwnNone
import Derived.WalkKit
import Derived.Laws.AppendOwn
namespace Go.Proofs.Ytmfaapbhehhlpaa.By8
open Go.RowKit Gf8 Aes

/-- The bytes as numbers. -/
def numL (p : Nat → Nat) (n : Nat) : List Int := (List.range n).map fun i => (p i : Int)
/-- The string of a list's bytes. -/
def strN (p : Nat → Nat) (n : Nat) : ByteArray := strOfNums (numL p n)
theorem conv_str {w : World} {v : Value} {l : Nat} {p : Nat → Nat} (h : SliceN w v l p) : (convert 31 9 v).run Try.prog w = .ok (.string (strN p l)) w := by
  obtain ⟨⟨a, cap, rfl, h1, h2, h3⟩, hp⟩ := h
  by_cases h0 : 0 < l
  · obtain ⟨b, off, rfl, _, hc⟩ := h3 h0
    refine run_convert_bytes_arg w 31 5 Try.underlying31 Try.underlying5 b off l cap (numL p l) (by simp [numL]) (fun i hi => ?_) 9 Try.underlying9
    rw [hc i hi]
    simp [numL, hi]
  · obtain rfl : l = 0 := by omega
    cases a with
    | none => exact run_convert_bytes_nil w 31 5 Try.underlying31 Try.underlying5 0 cap 9 Try.underlying9
    | some ad =>
      have hl : (loadCells ad 0).run Try.prog w = .ok (([] : List Int).map (Value.int .u8)).toArray w := by simpa using run_loadCells_list (P := Try.prog) w ad [] (by simp)
      rw [run_convert_bytes_string w 31 9 5 _ 0 cap Try.underlying31 Try.underlying5 Try.underlying9, run_bytesToString w _ 0 cap [] hl]
      rfl
section
variable {o : Oper} {a : Act} {w : World}
theorem execStr {x : Operand} {v : Value} {l : Nat} {p : Nat → Nat} (ho : o.op = .convert 31 9 x) (hx : a.eval x = v) (h : SliceN w v l p) : (execOp a.eval o).run Try.prog w = .ok (.value (.string (strN p l))) w := by
  unfold execOp
  simp only [ho, hx, Sem.run_bind, conv_str h, Result.andThen_ok, Sem.run_pure]
theorem execEqlS {x y : Operand} {s : ByteArray} (ho : o.op = .binOp .eql 9 x y 9) (hx : a.eval x = .string s) (hy : a.eval y = .string s) : (execOp a.eval o).run Try.prog w = .ok (.value (.bool true)) w := by
  unfold execOp
  simp only [ho, hx, hy]
  simp [go_sem]
end
end Go.Proofs.Ytmfaapbhehhlpaa.By8

namespace Go.Proofs.Ytmfaapbhehhlpaa.By8
open Go.RowKit Gf8 Aes

/-- A piece of a []byte. -/
theorem SliceN.sub {w : World} {a : Option Addr} {len cap : Nat} {p : Nat → Nat} (hv : SliceN w (.slice a len cap) len p) (l h : Nat) (h1 : l ≤ h) (h2 : h ≤ len) :
    SliceN w (sliced a l h cap 1) (h - l) (fun j => p (l + j)) := by
  obtain ⟨⟨a', cap', e, e1, e2, e3⟩, hp⟩ := hv
  obtain ⟨rfl, _, rfl⟩ : a = a' ∧ len = len ∧ cap = cap' := by
    injection e with x y z
    exact ⟨x, rfl, z⟩
  refine ⟨⟨_, cap - l, rfl, by omega, by omega, fun h0 => ?_⟩, fun j hj => hp (l + j) (by omega)⟩
  obtain ⟨b, off, rfl, hb, hc⟩ := e3 (by omega)
  rw [if_neg (by omega)]
  refine ⟨b, off + l, ?_, hb, fun j hj => ?_⟩
  · simp [Addr.add]
  · rw [Nat.add_assoc]; exact hc (l + j) (by omega)
theorem slice_lh (a : Option Addr) (len cap l h : Nat) (h1 : l ≤ h) (h2 : h ≤ cap) (W : World) : (Instr.sliceAt 31 (.slice a len cap) (some (.int .i64 (l : Int))) (some (.int .i64 (h : Int))) none).run Try.prog W = .ok (sliced a l h cap 1) W := by
  have e1 : (l : Int) ≤ h := by omega
  have e2 : (h : Int) ≤ cap := by omega
  simp [Instr.sliceAt, Instr.slice, run_underlying Try.underlying31, Instr.sliceBounds, run_sliceBound, sliced, h1, h2]
theorem slice_h (a : Option Addr) (len cap h : Nat) (h2 : h ≤ cap) (W : World) : (Instr.sliceAt 31 (.slice a len cap) none (some (.int .i64 (h : Int))) none).run Try.prog W = .ok (sliced a 0 h cap 1) W := by
  have e2 : (h : Int) ≤ cap := by omega
  simp [Instr.sliceAt, Instr.slice, run_underlying Try.underlying31, Instr.sliceBounds, run_sliceBound, sliced, h2]
theorem slice_l (a : Option Addr) (len cap l : Nat) (h1 : l ≤ len) (W : World) : (Instr.sliceAt 31 (.slice a len cap) (some (.int .i64 (l : Int))) none none).run Try.prog W = .ok (sliced a l len cap 1) W := by
  have e1 : (l : Int) ≤ len := by omega
  simp [Instr.sliceAt, Instr.slice, run_underlying Try.underlying31, Instr.sliceBounds, run_sliceBound, sliced, h1]
section
variable {o : Oper} {a : Act} {w : World}
theorem execSlLH {x l h : Operand} {v vl vh r : Value} (ho : o.op = .slice 31 x (some l) (some h) none) (hx : a.eval x = v) (hl : a.eval l = vl) (hh : a.eval h = vh)
    (hr : (Instr.sliceAt 31 v (some vl) (some vh) none).run Try.prog w = .ok r w) : (execOp a.eval o).run Try.prog w = .ok (.value r) w := by
  unfold execOp
  simp only [ho, hx, hl, hh, Option.map_some, Option.map_none, Sem.run_bind, hr, Result.andThen_ok, Sem.run_pure]
theorem execSlH {x h : Operand} {ty : TypeId} {v vh r : Value} (ho : o.op = .slice ty x none (some h) none) (hx : a.eval x = v) (hh : a.eval h = vh)
    (hr : (Instr.sliceAt ty v none (some vh) none).run Try.prog w = .ok r w) : (execOp a.eval o).run Try.prog w = .ok (.value r) w := by
  unfold execOp
  simp only [ho, hx, hh, Option.map_some, Option.map_none, Sem.run_bind, hr, Result.andThen_ok, Sem.run_pure]
theorem execSlL {x l : Operand} {v vl r : Value} (ho : o.op = .slice 31 x (some l) none none) (hx : a.eval x = v) (hl : a.eval l = vl)
    (hr : (Instr.sliceAt 31 v (some vl) none none).run Try.prog w = .ok r w) : (execOp a.eval o).run Try.prog w = .ok (.value r) w := by
  unfold execOp
  simp only [ho, hx, hl, Option.map_some, Option.map_none, Sem.run_bind, hr, Result.andThen_ok, Sem.run_pure]
end
end Go.Proofs.Ytmfaapbhehhlpaa.By8

namespace Go.Proofs.Ytmfaapbhehhlpaa.By8
open Go.RowKit

section
variable {P : Program} (w : World)
end
theorem bytesL_app (p : Nat → Nat) (n m : Nat) : bytesL n p ++ bytesL m (fun j => p (n + j)) = bytesL (n + m) p := by
  unfold bytesL
  rw [List.range_add, List.map_append, List.map_map]
  rfl
end Go.Proofs.Ytmfaapbhehhlpaa.By8
namespace Go.Proofs.Ytmfaapbhehhlpaa.Aes
open Go.RowKit Gf8 By8
theorem sliceN_cg {W : World} {v : Value} {len : Nat} {p q : Nat → Nat} (h : SliceN W v len p) (e : ∀ j, j < len → p j = q j) : SliceN W v len q := by
  obtain ⟨⟨a, cap, rfl, h1, h2, h3⟩, hp⟩ := h
  refine ⟨⟨a, cap, rfl, h1, h2, fun h0 => ?_⟩, fun j hj => by rw [← e j hj]; exact hp j hj⟩
  obtain ⟨b, off, e1, e2, e3⟩ := h3 h0
  exact ⟨b, off, e1, e2, fun j hj => by rw [← e j hj]; exact e3 j hj⟩
theorem execLenV {o : Oper} {a : Act} {w : World} {x : Operand} {v : Value} {len : Nat} (ho : o.op = .call { callee := .builtin .len, args := #[x], argTypes := #[31] }) (hx : a.eval x = v) (hv : ∃ ao c, v = .slice ao len c) : (execOp a.eval o).run Try.prog w = .ok (.value (.int .i64 (len : Int))) w := by
  obtain ⟨ao, c, rfl⟩ := hv
  unfold execOp
  simp only [ho, resolve, invoke, builtin, Sem.run_bind, Sem.run_pure, Result.andThen_ok, List.map_toArray, List.map_cons, List.map_nil, hx]
  simp [go_sem]
theorem sliced_0 (F len cap : Nat) : sliced (some ⟨F, 0, none⟩) 0 len cap 1 = .slice (some ⟨F, 0, none⟩) len cap := by
  unfold sliced
  by_cases h : cap = 0
  · rw [if_pos h]; rfl
  · rw [if_neg h]
    simp [Addr.add]
/-- Two lists that share no row. -/
def Dis (u v : Value) : Prop := ∀ k, u.ownBlock = some k → v.ownBlock ≠ some k
theorem Dis.symm {u v : Value} (h : Dis u v) : Dis v u := fun k h1 h2 => h k h2 h1
theorem own_base {W : World} {B C n : Nat} {v : Value} {xs : List Value} (h : W.ownsRow C 5 1 v n xs) (hB : B ≤ C) : W.ownsRow B 5 1 v n xs := by
  refine ⟨h.1, ?_⟩
  rcases h.2 with h | ⟨g, cap, cur, e, hC, h2⟩
  · exact Or.inl h
  · exact Or.inr ⟨g, cap, cur, e, Nat.le_trans hB hC, h2⟩
theorem dis_new {W W' : World} {B n m : Nat} {u r : Value} {xs ys : List Value} (h : W.ownsRow B 5 1 u n xs) (h' : W'.ownsRow W.heap.size 5 1 r m ys) : Dis u r := by
  intro k hk hr
  have h1 := (h.lt k hk).2
  have h2 := (h'.lt k hr).1
  omega
theorem own_off {W : World} {B n F k : Nat} {v : Value} {xs : List Value} (h : W.ownsRow B 5 1 v n xs) (hF : F < B) (z : Value) : (W.setCell ⟨F, k, none⟩ z).ownsRow B 5 1 v n xs := by
  refine ⟨h.1, ?_⟩
  rcases h.2 with h | ⟨g, cap, cur, e, hB, hg, h2⟩
  · exact Or.inl h
  · exact Or.inr ⟨g, cap, cur, e, hB, by rw [Below.heap_setCell _ _ _ _ (by show g ≠ F; omega)]; exact hg, h2⟩
theorem own_none (W : World) (q : Nat → Nat) : (W.alloc (.cells #[] 5)).ownsRow W.heap.size 5 1 (.slice (some ⟨W.heap.size, 0, none⟩) 0 0) 0 (bytesL 0 q) := own_made W (n := 0) (Nat.le_refl _) (by omega)
end Go.Proofs.Ytmfaapbhehhlpaa.Aes

namespace Go.Proofs.Ytmfaapbhehhlpaa.By8
open Go.RowKit Gf8 Aes
/- All but some blocks as they were; rows of lists. -/

/-- All but the blocks G is as it was. -/
structure Saved (G : Nat → Prop) (w w' : World) : Prop where
  os : w'.os = w.os
  tape : w'.tape = w.tape
  output : w'.output = w.output
  size : w.heap.size ≤ w'.heap.size
  block : ∀ k, k < w.heap.size → ¬ G k → w'.heap[k]? = w.heap[k]?
theorem Saved.refl (G : Nat → Prop) (w : World) : Saved G w w := ⟨rfl, rfl, rfl, Nat.le_refl _, fun _ _ _ => rfl⟩
theorem Saved.below {G : Nat → Prop} {w w' w'' : World} {B : Nat} (h : Saved G w w') (hb : Below B w' w'') (hB : w.heap.size ≤ B) : Saved G w w'' :=
  ⟨hb.os.trans h.os, hb.tape.trans h.tape, hb.output.trans h.output, Nat.le_trans h.size hb.size, fun k hk hG => by rw [hb.block k (by omega), h.block k hk hG]⟩
theorem Saved.cell {G : Nat → Prop} {w w' : World} (h : Saved G w w') {b o : Nat} (v : Value) (hG : w.heap.size ≤ b ∨ G b) : Saved G w (w'.setCell ⟨b, o, none⟩ v) := by
  have hb : Below b w' (w'.setCell ⟨b, o, none⟩ v) := (Below.refl _ _).setCell (p := ⟨b, o, none⟩) (Nat.le_refl _) v
  refine ⟨hb.os.trans h.os, hb.tape.trans h.tape, hb.output.trans h.output, Nat.le_trans h.size hb.size, fun k hk hk2 => ?_⟩
  rw [Below.heap_setCell _ _ _ _ (fun e => by subst e; rcases hG with h | h; omega; exact hk2 h), h.block k hk hk2]
theorem Saved.grown {G : Nat → Prop} {w w' w'' : World} {row : Option Nat} (h : Saved G w w') (hg : w'.grownBy w'' row) (hG : ∀ k, row = some k → w.heap.size ≤ k ∨ G k) : Saved G w w'' :=
  ⟨hg.os.trans h.os, hg.tape.trans h.tape, hg.output.trans h.output, Nat.le_trans h.size hg.size, fun k hk hk2 => by
    rw [hg.block k (Nat.lt_of_lt_of_le hk h.size) (fun e => by rcases hG k e.symm with h | h; omega; exact hk2 h), h.block k hk hk2]⟩
theorem bytesL_congr {n : Nat} {f g : Nat → Nat} (h : ∀ j, j < n → f j = g j) : bytesL n f = bytesL n g := by
  unfold bytesL
  refine List.map_congr_left fun j hj => ?_
  rw [h j (List.mem_range.1 hj)]
theorem infoB : ∃ i, Try.prog.info? 31 = some i ∧ i.zero = some (.slice none 0 0) ∧ i.size = 1 ∧ i.bytes = 24 := by
  have h : (Try.prog.info? 31).map (fun i => (i.zero, i.size, i.bytes)) = some (some (.slice none 0 0), 1, 24) := by kernel_rfl
  cases hq : Try.prog.info? 31 with
  | none => rw [hq] at h; cases h
  | some i =>
    rw [hq] at h
    simp only [Option.map_some, Option.some.injEq, Prod.mk.injEq] at h
    exact ⟨i, rfl, h.1, h.2.1, h.2.2⟩
/-- A row of one's own stays where a cell of another block is set. -/
theorem own_stays {W : World} {B n b k : Nat} {v u : Value} {xs : List Value} {c : Array Value} {ty : TypeId} (h : W.ownsRow B 5 1 v n xs) (hb : W.heap[b]? = some (.cells c ty)) (hv : v.ownBlock ≠ some b) : (W.setCell ⟨b, k, none⟩ u).ownsRow B 5 1 v n xs :=
  h.kept (row := some b) ⟨rfl, rfl, rfl, by simp, fun i _ hi => heap4o _ hb (fun e => hi (by rw [e]))⟩ (.inr hv)
end Go.Proofs.Ytmfaapbhehhlpaa.By8
