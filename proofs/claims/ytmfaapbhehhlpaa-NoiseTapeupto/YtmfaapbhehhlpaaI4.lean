import Derived.Test.YtmfaapbhehhlpaaL0
import Derived.Test.YtmfaapbhehhlpaaL3
import Derived.Test.YtmfaapbhehhlpaaJ0
import Derived.Test.YtmfaapbhehhlpaaY0
namespace Go.Proofs.Ytmfaapbhehhlpaa.Aes
open Go.RowKit Gf8
/- Arrays of n bytes as rows of memory. -/

theorem size16 (f : Nat → Nat) : (Try.prog.info? 55).map (·.size) = some (bA 16 f).size := by rw [bA_size]; kernel_rfl
theorem zero16 : ∀ w, (zeroValue 55).run Try.prog w = .ok (.agg (bA 16 fun _ => 0)) w :=
  (zero_of_info (n := 16) (by kernel_rfl)).1
section
variable {o : Oper} {a : Act} {w : World}
theorem execIdx16 {x i : Operand} {g k : Nat} (ho : o.op = .indexAddr 55 x i) (hx : a.eval x = .pointer (some ⟨g, 0, none⟩)) (hi : a.eval i = .int .i64 (k : Int)) (hk : k < 16) : (execOp a.eval o).run Try.prog w = .ok (.value (.pointer (some ⟨g, k, none⟩))) w := by
  have h1 : (k : Int) < 16 := by omega
  unfold execOp
  simp only [ho, hx, hi]
  simp [go_sem, h1]
end
end Go.Proofs.Ytmfaapbhehhlpaa.Aes

namespace Go.Proofs.Ytmfaapbhehhlpaa.Aes
open Go.RowKit Gf8

section
variable {ops : Array Oper} {rest : List Oper} {o : Oper} {a : Act} {w : World} {Q : Exit → Act → World → Prop}
end
theorem zero256 : ∀ w, (zeroValue 75).run Try.prog w = .ok (.agg (bA 256 fun _ => 0)) w :=
  (zero_of_info (n := 256) (by kernel_rfl)).1
end Go.Proofs.Ytmfaapbhehhlpaa.Aes

namespace Go.Proofs.Ytmfaapbhehhlpaa.Aes
open Go.RowKit Gf8

/-- The number behind n, its last m bytes laid. -/
def nxF (n m : Nat) : Nat → Nat := fun j => if 16 ≤ j + m then be (n + 1) j else be n j
theorem nxF_step (n : Nat) {m : Nat} (h : m < 16) : updN (nxF n m) (15 - m) (be (n + 1) (15 - m)) = nxF n (m + 1) := by
  funext j
  unfold updN nxF
  by_cases e : j = 15 - m
  · subst e; rw [if_pos rfl, if_pos (by omega)]
  · rw [if_neg e]
    by_cases h2 : 16 ≤ j + m
    · rw [if_pos h2, if_pos (by omega)]
    · rw [if_neg h2, if_neg (by omega)]
theorem nxF_done {n m : Nat} (h : ¬ 256 ^ m ∣ n + 1) : Eq16 (nxF n m) (be (n + 1)) := fun j hj => by
  unfold nxF
  by_cases h2 : 16 ≤ j + m
  · rw [if_pos h2]
  · rw [if_neg h2, be_next, if_neg (carry_less h (by omega))]
theorem nxF_all (n : Nat) : Eq16 (nxF n 16) (be (n + 1)) := fun j _ => by unfold nxF; rw [if_pos (by omega)]

end Go.Proofs.Ytmfaapbhehhlpaa.Aes

namespace Go.Proofs.Ytmfaapbhehhlpaa.Aes
open Go.RowKit Gf8

/-- The rows of Keys: the key, the answer's place, the bytes so far. -/
structure KyT (A n : Nat) (key : Nat → Nat) (V : World) (W : World) : Prop where
  kk : W.heap[A]? = some (.cells (bA 16 key) 55)
  rr : W.heap[A + 1]? = some (.cells (bA 176 fun _ => 0) 72)
  ww : W.heap[A + 2]? = some (.cells (bA 176 (uptoC (kw key) n)) 72)
  bel : Below A V W
theorem KyT.set {A n : Nat} {key : Nat → Nat} {V W : World} (h : KyT A n key V W) {z : Nat} (hz : kw key n = z) : KyT A (n + 1) key V (W.setCell ⟨A + 2, n, none⟩ (.int .u8 z)) := by
  refine ⟨?_, ?_, ?_, h.bel.setCell (by simp) _⟩
  · rw [heap4o _ h.ww (by omega)]; exact h.kk
  · rw [heap4o _ h.ww (by omega)]; exact h.rr
  · rw [heap4 _ h.ww, bA_set, ← hz, updN_upto]
theorem KyT.at {A n : Nat} {key : Nat → Nat} {V W : World} (h : KyT A n key V W) {j y : Nat} (hj : j < n) (h2 : j < 176) (hy : kw key j = y) : W.cell? ⟨A + 2, j, none⟩ = some (.int .u8 y) := by
  rw [cellN h.ww h2]
  unfold uptoC
  rw [if_pos hj, hy]
theorem KyT.new {A n : Nat} {key : Nat → Nat} {V W : World} (h : KyT A n key V W) {j : Nat} (hj : n ≤ j) (h2 : j < 176) : W.cell? ⟨A + 2, j, none⟩ = some (.int .u8 0) := by
  rw [cellN h.ww h2]
  unfold uptoC
  rw [if_neg (by omega)]
  rfl
theorem KyT.drewN {A n : Nat} {key : Nat → Nat} {V W : World} (h : KyT A n key V W) (m : Nat) : KyT A n key V (W.drewN m) := ⟨h.kk, h.rr, h.ww, belowD h.bel m⟩
theorem execAsgB {P : Program} {o : Oper} {a : Act} {w : World} {x : Operand} {v : Value} (ho : o.op = .assign x) (hx : a.eval x = v) : (execOp a.eval o).run P w = .ok (.value v) w := by
  unfold execOp
  simp only [ho, hx]
  rfl

end Go.Proofs.Ytmfaapbhehhlpaa.Aes

namespace Go.Proofs.Ytmfaapbhehhlpaa.Aes
open Go.RowKit Gf8

/-- The rows of With: the round keys, the block, the answer's place. -/
structure WtT (A : Nat) (w st : Nat → Nat) (V W : World) : Prop where
  ww : W.heap[A]? = some (.cells (bA 176 w) 72)
  bb : W.heap[A + 1]? = some (.cells (bA 16 st) 55)
  rr : W.heap[A + 2]? = some (.cells (bA 16 fun _ => 0) 55)
  bel : Below A V W
theorem WtT.lt {A : Nat} {w st : Nat → Nat} {V W : World} (h : WtT A w st V W) : A + 2 < W.heap.size := (Array.getElem?_eq_some_iff.1 h.rr).1
theorem WtT.on {A : Nat} {w st : Nat → Nat} {V W W' : World} (h : WtT A w st V W) (hb : Below W.heap.size W W') : WtT A w st V W' := by
  have l := h.lt
  exact ⟨by rw [hb.block _ (by omega)]; exact h.ww, by rw [hb.block _ (by omega)]; exact h.bb, by rw [hb.block _ (by omega)]; exact h.rr, h.bel.trans (hb.mono (by omega))⟩
theorem WtT.setB {A : Nat} {w st : Nat → Nat} {V W : World} (h : WtT A w st V W) (g : Nat → Nat) : WtT A w g V (W.setRow (A + 1) (bA 16 g)) := by
  refine ⟨?_, setRow_heap _ _ _ _ _ _ h.bb, ?_, below4 h.bel (by omega) _⟩
  · rw [setRow_other _ _ _ _ (by omega)]; exact h.ww
  · rw [setRow_other _ _ _ _ (by omega)]; exact h.rr
theorem WtT.cell {A T : Nat} {w st : Nat → Nat} {V W : World} (h : WtT A w st V W) (hT : A + 2 < T) {f : Nat → Nat} {t : TypeId} (g : W.heap[T]? = some (.cells (bA 16 f) t)) (k : Nat) (v : Value) : WtT A w st V (W.setCell ⟨T, k, none⟩ v) := by
  refine ⟨?_, ?_, ?_, h.bel.setCell (by simp; omega) _⟩
  · rw [heap4o _ g (by omega)]; exact h.ww
  · rw [heap4o _ g (by omega)]; exact h.bb
  · rw [heap4o _ g (by omega)]; exact h.rr

end Go.Proofs.Ytmfaapbhehhlpaa.Aes

namespace Go.Proofs.Ytmfaapbhehhlpaa.Aes
open Go.RowKit Gf8

/-- The first three rows of a call, as they were. -/
structure R3 (A : Nat) (x y z : Obj) (V W : World) : Prop where
  x : W.heap[A]? = some x
  y : W.heap[A + 1]? = some y
  z : W.heap[A + 2]? = some z
  bel : Below A V W
theorem R3.lt {A : Nat} {x y z : Obj} {V W : World} (h : R3 A x y z V W) : A + 2 < W.heap.size := (Array.getElem?_eq_some_iff.1 h.z).1
theorem R3.on {A : Nat} {x y z : Obj} {V W W' : World} (h : R3 A x y z V W) (hb : Below W.heap.size W W') : R3 A x y z V W' := by
  have l := h.lt
  exact ⟨by rw [hb.block _ (by omega)]; exact h.x, by rw [hb.block _ (by omega)]; exact h.y, by rw [hb.block _ (by omega)]; exact h.z, h.bel.trans (hb.mono (by omega))⟩
theorem R3.row {A : Nat} {x y z : Obj} {V W : World} (h : R3 A x y z V W) {T : Nat} (hT : A + 2 < T) (c : Array Value) : R3 A x y z V (W.setRow T c) :=
  ⟨by rw [setRow_other _ _ _ _ (by omega)]; exact h.x, by rw [setRow_other _ _ _ _ (by omega)]; exact h.y, by rw [setRow_other _ _ _ _ (by omega)]; exact h.z, below4 h.bel (by omega) _⟩

end Go.Proofs.Ytmfaapbhehhlpaa.Aes

namespace Go.Proofs.Ytmfaapbhehhlpaa.Aes
open Go.RowKit Gf8

/-- The rows of Decrypt. -/
structure DcT (A B C : Nat) (w st : Nat → Nat) (V W : World) : Prop where
  bb : W.heap[A + 1]? = some (.cells (bA 16 st) 55)
  rr : W.heap[A + 2]? = some (.cells (bA 16 fun _ => 0) 55)
  ww : W.heap[B]? = some (.cells (bA 176 w) 72)
  tt : W.heap[C]? = some (.cells (bA 256 guns) 75)
  ab : A + 2 < B
  bc : B < C
  bel : Below A V W
theorem DcT.lt {A B C : Nat} {w st : Nat → Nat} {V W : World} (h : DcT A B C w st V W) : C < W.heap.size := (Array.getElem?_eq_some_iff.1 h.tt).1
theorem DcT.on {A B C : Nat} {w st : Nat → Nat} {V W W' : World} (h : DcT A B C w st V W) (hb : Below W.heap.size W W') : DcT A B C w st V W' := by
  have l := h.lt
  have l1 := h.ab
  have l2 := h.bc
  exact ⟨by rw [hb.block _ (by omega)]; exact h.bb, by rw [hb.block _ (by omega)]; exact h.rr, by rw [hb.block _ (by omega)]; exact h.ww, by rw [hb.block _ (by omega)]; exact h.tt, l1, l2, h.bel.trans (hb.mono (by omega))⟩
theorem DcT.setB {A B C : Nat} {w st : Nat → Nat} {V W : World} (h : DcT A B C w st V W) (g : Nat → Nat) : DcT A B C w g V (W.setRow (A + 1) (bA 16 g)) := by
  have l1 := h.ab
  have l2 := h.bc
  refine ⟨setRow_heap _ _ _ _ _ _ h.bb, ?_, ?_, ?_, l1, l2, below4 h.bel (by omega) _⟩
  · rw [setRow_other _ _ _ _ (by omega)]; exact h.rr
  · rw [setRow_other _ _ _ _ (by omega)]; exact h.ww
  · rw [setRow_other _ _ _ _ (by omega)]; exact h.tt
theorem DcT.cell {A B C T : Nat} {w st : Nat → Nat} {V W : World} (h : DcT A B C w st V W) (hT : C < T) {f : Nat → Nat} {t : TypeId} (g : W.heap[T]? = some (.cells (bA 16 f) t)) (k : Nat) (v : Value) : DcT A B C w st V (W.setCell ⟨T, k, none⟩ v) := by
  have l1 := h.ab
  have l2 := h.bc
  refine ⟨?_, ?_, ?_, ?_, l1, l2, h.bel.setCell (by simp; omega) _⟩
  · rw [heap4o _ g (by omega)]; exact h.bb
  · rw [heap4o _ g (by omega)]; exact h.rr
  · rw [heap4o _ g (by omega)]; exact h.ww
  · rw [heap4o _ g (by omega)]; exact h.tt

end Go.Proofs.Ytmfaapbhehhlpaa.Aes

namespace Go.Proofs.Ytmfaapbhehhlpaa.Aes
open Go.RowKit Gf8 By8

/-- p with the key stream laid over it. -/
def maskF (w : Nat → Nat) (s : Nat) (p : Nat → Nat) : Nat → Nat := fun i => p i ^^^ enc w (be (s + i / 16)) (i % 16)
section
variable {o : Oper} {a : Act} {w : World}
end
/-- Mask's rows ahead of byte k: the next start, the round keys, the stream's block, the answer so far. -/
structure MkT (A B S k c : Nat) (w f : Nat → Nat) (s0 : Nat) (p : Nat → Nat) (u : Value) (V W : World) : Prop where
  st : W.heap[A + 1]? = some (.cells (bA 16 (be (s0 + c))) 55)
  ww : W.heap[B]? = some (.cells (bA 176 w) 72)
  ss : W.heap[S]? = some (.cells (bA 16 f) 55)
  own : W.ownsRow A 5 1 u k (bytesL k (maskF w s0 p))
  ab : A + 1 < B
  bs : B < S
  bel : Below A V W
theorem MkT.lt {A B S k c : Nat} {w f : Nat → Nat} {s0 : Nat} {p : Nat → Nat} {u : Value} {V W : World} (h : MkT A B S k c w f s0 p u V W) : S < W.heap.size := (Array.getElem?_eq_some_iff.1 h.ss).1
theorem MkT.on {A B S k c : Nat} {w f : Nat → Nat} {s0 : Nat} {p : Nat → Nat} {u : Value} {V W W' : World} (h : MkT A B S k c w f s0 p u V W) (hb : Below W.heap.size W W') : MkT A B S k c w f s0 p u V W' := by
  have l := h.lt
  have l1 := h.ab
  have l2 := h.bs
  exact ⟨by rw [hb.block _ (by omega)]; exact h.st, by rw [hb.block _ (by omega)]; exact h.ww, by rw [hb.block _ (by omega)]; exact h.ss, ownsRow_below h.own hb, l1, l2, h.bel.trans (hb.mono (by omega))⟩
theorem MkT.setT {A B S k c : Nat} {w f : Nat → Nat} {s0 : Nat} {p : Nat → Nat} {u : Value} {V W : World} (h : MkT A B S k c w f s0 p u V W) : MkT A B S k (c + 1) w f s0 p u V (W.setRow (A + 1) (bA 16 (be (s0 + c + 1)))) := by
  have l1 := h.ab
  have l2 := h.bs
  exact ⟨setRow_heap _ _ _ _ _ _ h.st, by rw [setRow_other _ _ _ _ (by omega)]; exact h.ww, by rw [setRow_other _ _ _ _ (by omega)]; exact h.ss, ownsRow_row h.own h.st (by decide) _, l1, l2, below4 h.bel (by omega) _⟩
end Go.Proofs.Ytmfaapbhehhlpaa.Aes

namespace Go.Proofs.Ytmfaapbhehhlpaa.Aes
open Go.RowKit Gf8 By8

/-- How many bytes a stream of n has. -/
def slen (n : Int) : Nat := if 0 ≤ n ∧ n ≤ 65536 then n.toNat else 0
end Go.Proofs.Ytmfaapbhehhlpaa.Aes
