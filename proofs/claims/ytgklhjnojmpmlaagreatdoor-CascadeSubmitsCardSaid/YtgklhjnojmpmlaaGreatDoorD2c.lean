import Derived.Test.YtgklhjnojmpmlaaGreatDoorD2b
namespace Go.Proofs.YtgklhjnojmpmlaaGreatDoor.Frm
open Go.RowKit Gf8 Aes By8 Cel
/- A Feed's cells; its small functions. -/

/-- What a Feed holds. -/
structure FSt where
  f : Nat
  part : Nat → Nat
  hv : Nat
  pl : Nat
  sa : Nat
  sb : Nat
  rd : Int
  ep : Int
  lf : Int
  cl : Int
  ft : Nat
def fT (s : FSt) : List Value := [.int .i64 (s.hv : Int), .int .i64 (s.pl : Int), .int .u32 (s.sa : Int), .int .u32 (s.sb : Int), .int .i64 s.rd, .int .i64 s.ep, .int .i64 s.lf, .int .i64 s.cl, .int .i64 (s.ft : Int)]
def fC (s : FSt) : Array Value := (.int .i64 (s.f : Int) :: (bytesL 320 s.part ++ fT s)).toArray
theorem consN_size (x : Value) (l : List Value) (N : Nat) (p : Nat → Nat) : (x :: (bytesL N p ++ l)).toArray.size = N + l.length + 1 := by
  rw [List.size_toArray, List.length_cons, List.length_append, bytesL_len]
theorem fT_len (s : FSt) : (fT s).length = 9 := rfl
theorem fC_size (s : FSt) : (fC s).size = 330 := (consN_size (.int .i64 (s.f : Int)) (fT s) 320 s.part).trans (by rw [fT_len])
theorem fC_0 (s : FSt) : (fC s)[0]? = some (.int .i64 (s.f : Int)) := by rw [fC, List.getElem?_toArray, List.getElem?_cons_zero]
theorem fC_p (s : FSt) {i : Nat} (h : i < 320) : (fC s)[1 + i]? = some (.int .u8 (s.part i)) := by
  rw [fC, List.getElem?_toArray, Nat.add_comm, List.getElem?_cons_succ, List.getElem?_append_left (by rw [bytesL_len]; exact h)]
  exact bytesL_at 320 _ h
theorem fC_t (s : FSt) (j : Nat) : (fC s)[321 + j]? = (fT s)[j]? := by
  rw [fC, List.getElem?_toArray, show 321 + j = (320 + j) + 1 by omega, List.getElem?_cons_succ, List.getElem?_append_right (by rw [bytesL_len]; omega), bytesL_len, show 320 + j - 320 = j by omega]
theorem fC_ext {c : Array Value} {s : FSt} (hs : c.size = 330) (h0 : c[0]? = some (.int .i64 (s.f : Int))) (hp : ∀ i, i < 320 → c[1 + i]? = some (.int .u8 (s.part i))) (ht : ∀ j, j < 9 → c[321 + j]? = (fT s)[j]?) : c = fC s := by
  apply Array.ext_getElem?
  intro i
  by_cases e : i = 0
  · rw [e, h0, fC_0]
  · by_cases h1 : i < 321
    · obtain ⟨j, rfl⟩ : ∃ j, i = 1 + j := ⟨i - 1, by omega⟩
      rw [hp j (by omega), fC_p s (by omega)]
    · by_cases h2 : i < 330
      · obtain ⟨j, rfl⟩ : ∃ j, i = 321 + j := ⟨i - 321, by omega⟩
        rw [ht j (by omega), fC_t]
      · rw [Array.getElem?_eq_none (by omega), Array.getElem?_eq_none (by rw [fC_size]; omega)]
/-- Another value at a place of the tail. -/
theorem fC_set {s s' : FSt} {j : Nat} {v : Value} (hj : j < 9) (hf : s'.f = s.f) (hp : s'.part = s.part) (ht : (fT s).set j v = fT s') : (fC s).setIfInBounds (321 + j) v = fC s' := by
  refine fC_ext (by simp [fC_size]) ?_ ?_ ?_
  · rw [Array.getElem?_setIfInBounds, if_neg (by omega), fC_0, hf]
  · intro i hi
    rw [Array.getElem?_setIfInBounds, if_neg (by omega), fC_p s hi, hp]
  · intro i hi
    rw [Array.getElem?_setIfInBounds, ← ht, List.getElem?_set]
    by_cases e : j = i
    · subst e
      rw [if_pos rfl, if_pos rfl, if_pos (by rw [fC_size]; omega), if_pos (by simp [fT]; omega)]
    · rw [if_neg (by omega), if_neg e, fC_t]
theorem fC_setF (s : FSt) (v : Nat) : (fC s).setIfInBounds 0 (.int .i64 (v : Int)) = fC { s with f := v } := by
  refine fC_ext (by simp [fC_size]) ?_ ?_ ?_
  · rw [Array.getElem?_setIfInBounds, if_pos rfl, if_pos (by rw [fC_size]; omega)]
  · intro i hi
    rw [Array.getElem?_setIfInBounds, if_neg (by omega), fC_p s hi]
  · intro i hi
    rw [Array.getElem?_setIfInBounds, if_neg (by omega), fC_t]
    rfl
/-- Bytes laid into the part. -/
theorem fC_splice (s : FSt) (n m : Nat) (h : Nat → Nat) (hn : n + m ≤ 320) : ((fC s).toList.take (1 + n) ++ bytesL m h ++ (fC s).toList.drop (1 + n + m)).toArray = fC { s with part := spl s.part n m h } := by
  have l1 : (List.take (1 + n) (fC s).toList).length = 1 + n := by simp [fC_size]; omega
  refine fC_ext ?_ ?_ ?_ ?_
  · simp only [List.size_toArray, List.length_append, l1, bytesL_len, List.length_drop, Array.length_toList, fC_size]
    omega
  · rw [List.getElem?_toArray, List.append_assoc, List.getElem?_append_left (by omega), List.getElem?_take, if_pos (by omega), Array.getElem?_toList, fC_0]
  · intro i hi
    rw [List.getElem?_toArray, List.append_assoc]
    show _ = some (Value.int .u8 ((spl s.part n m h i : Nat) : Int))
    unfold spl
    by_cases a : i < n
    · rw [List.getElem?_append_left (by omega), List.getElem?_take, if_pos (by omega), Array.getElem?_toList, fC_p s hi, if_neg (by omega)]
    · rw [List.getElem?_append_right (by omega), l1]
      by_cases b : i < n + m
      · rw [List.getElem?_append_left (by rw [bytesL_len]; omega), bytesL_at m h (by omega), if_pos (by omega)]
        rw [show 1 + i - (1 + n) = i - n by omega]
      · rw [List.getElem?_append_right (by rw [bytesL_len]; omega), bytesL_len, List.getElem?_drop, Array.getElem?_toList, if_neg (by omega), show 1 + n + m + (1 + i - (1 + n) - m) = 1 + i by omega, fC_p s hi]
  · intro i hi
    rw [List.getElem?_toArray, List.append_assoc, List.getElem?_append_right (by omega), l1, List.getElem?_append_right (by rw [bytesL_len]; omega), bytesL_len, List.getElem?_drop, Array.getElem?_toList, show 1 + n + m + (321 + i - (1 + n) - m) = 321 + i by omega, fC_t]
    rfl
/-- The Feed in block F, and the rules. -/
structure FAt (F : Nat) (s : FSt) (W : World) : Prop where
  row : W.heap[F]? = some (.cells (fC s) 93)
structure Rules (w : World) : Prop where
  sz : 0 < w.heap.size
  z : ∀ f, f < 10 → w.cell? ⟨0, f * 4, none⟩ = some (.int .i64 (fsz f : Nat))
  lo : ∀ f, f < 10 → w.cell? ⟨0, f * 4 + 1, none⟩ = some (.int .u64 (low f : Nat))
  hi : ∀ f, f < 10 → w.cell? ⟨0, f * 4 + 2, none⟩ = some (.int .u64 (high f : Nat))
  ft : ∀ f, f < 10 → w.cell? ⟨0, f * 4 + 3, none⟩ = some (.int .i64 (flt f : Nat))
theorem Rules.on {w w' : World} {B : Nat} (g : Rules w) (h : Below B w w') (hB : 1 ≤ B) : Rules w' :=
  ⟨by have := h.size; have := g.sz; omega, fun f hf => by rw [cell_below h (by omega)]; exact g.z f hf, fun f hf => by rw [cell_below h (by omega)]; exact g.lo f hf, fun f hf => by rw [cell_below h (by omega)]; exact g.hi f hf, fun f hf => by rw [cell_below h (by omega)]; exact g.ft f hf⟩
theorem Rules.row {w : World} (g : Rules w) {F : Nat} (hF : 0 < F) (c : Array Value) : Rules (w.setRow F c) := by
  have e : ∀ k, (w.setRow F c).cell? ⟨0, k, none⟩ = w.cell? ⟨0, k, none⟩ := fun k => by
    simp only [World.cell?]
    rw [setRow_other _ _ _ _ (by omega)]
  exact ⟨by have := g.sz; simpa using this, fun f hf => by rw [e]; exact g.z f hf, fun f hf => by rw [e]; exact g.lo f hf, fun f hf => by rw [e]; exact g.hi f hf, fun f hf => by rw [e]; exact g.ft f hf⟩
section
variable {F : Nat} {s : FSt} {W : World}
theorem FAt.c0 (h : FAt F s W) : W.cell? ⟨F, 0, none⟩ = some (.int .i64 (s.f : Int)) := by rw [cell_of_row _ _ _ _ _ _ h.row]; exact fC_0 s
theorem FAt.cp (h : FAt F s W) {i : Nat} (hi : i < 320) : W.cell? ⟨F, 1 + i, none⟩ = some (.int .u8 (s.part i)) := by rw [cell_of_row _ _ _ _ _ _ h.row]; exact fC_p s hi
theorem FAt.hv (h : FAt F s W) : W.cell? ⟨F, 321, none⟩ = some (.int .i64 (s.hv : Int)) := by rw [cell_of_row _ _ _ _ _ _ h.row]; exact fC_t s 0
theorem FAt.pl (h : FAt F s W) : W.cell? ⟨F, 322, none⟩ = some (.int .i64 (s.pl : Int)) := by rw [cell_of_row _ _ _ _ _ _ h.row]; exact fC_t s 1
theorem FAt.sa (h : FAt F s W) : W.cell? ⟨F, 323, none⟩ = some (.int .u32 (s.sa : Int)) := by rw [cell_of_row _ _ _ _ _ _ h.row]; exact fC_t s 2
theorem FAt.sb (h : FAt F s W) : W.cell? ⟨F, 324, none⟩ = some (.int .u32 (s.sb : Int)) := by rw [cell_of_row _ _ _ _ _ _ h.row]; exact fC_t s 3
theorem FAt.rd (h : FAt F s W) : W.cell? ⟨F, 325, none⟩ = some (.int .i64 s.rd) := by rw [cell_of_row _ _ _ _ _ _ h.row]; exact fC_t s 4
theorem FAt.ep (h : FAt F s W) : W.cell? ⟨F, 326, none⟩ = some (.int .i64 s.ep) := by rw [cell_of_row _ _ _ _ _ _ h.row]; exact fC_t s 5
theorem FAt.lf (h : FAt F s W) : W.cell? ⟨F, 327, none⟩ = some (.int .i64 s.lf) := by rw [cell_of_row _ _ _ _ _ _ h.row]; exact fC_t s 6
theorem FAt.cl (h : FAt F s W) : W.cell? ⟨F, 328, none⟩ = some (.int .i64 s.cl) := by rw [cell_of_row _ _ _ _ _ _ h.row]; exact fC_t s 7
theorem FAt.ft (h : FAt F s W) : W.cell? ⟨F, 329, none⟩ = some (.int .i64 (s.ft : Int)) := by rw [cell_of_row _ _ _ _ _ _ h.row]; exact fC_t s 8
theorem FAt.set (h : FAt F s W) (s' : FSt) : FAt F s' (W.setRow F (fC s')) := ⟨setRow_heap _ _ _ _ _ _ h.row⟩
theorem FAt.lt (h : FAt F s W) : F < W.heap.size := (Array.getElem?_eq_some_iff.1 h.row).1
theorem FAt.on {W' : World} (h : FAt F s W) (hb : Below W.heap.size W W') : FAt F s W' := ⟨by rw [hb.block _ h.lt]; exact h.row⟩
/-- The first n bytes of the part. -/
theorem FAt.slice (h : FAt F s W) {n : Nat} (hn : n ≤ 320) (hb : ∀ j, j < n → s.part j < 256) : SliceN W (.slice (some ⟨F, 1, none⟩) n 320) n s.part :=
  ⟨⟨_, _, rfl, hn, by omega, fun _ => ⟨F, 1, rfl, h.lt, fun j hj => h.cp (by omega)⟩⟩, hb⟩
end
/-- The Feed holds s' now; all else is as it was. -/
structure FTo (F : Nat) (s' : FSt) (V W : World) : Prop where
  at' : FAt F s' W
  sv : Saved (fun k => k = F) V W
theorem FTo.refl {F : Nat} {s : FSt} {V : World} (h : FAt F s V) : FTo F s V V := ⟨h, Saved.refl _ _⟩
theorem FTo.on {F : Nat} {s : FSt} {V W W' : World} (h : FTo F s V W) (hb : Below W.heap.size W W') : FTo F s V W' := ⟨h.at'.on hb, h.sv.below hb h.sv.size⟩
theorem saved_row {G : Nat → Prop} {w w' : World} (h : Saved G w w') {b : Nat} (c : Array Value) (hG : w.heap.size ≤ b ∨ G b) : Saved G w (w'.setRow b c) := by
  refine ⟨h.os, h.tape, h.output, by simpa using h.size, fun k hk hk2 => ?_⟩
  rw [setRow_other _ _ _ _ (fun e => by subst e; rcases hG with h | h; omega; exact hk2 h), h.block k hk hk2]
theorem saved_trans {G : Nat → Prop} {w w' w'' : World} (h : Saved G w w') (h' : Saved G w' w'') : Saved G w w'' :=
  ⟨h'.os.trans h.os, h'.tape.trans h.tape, h'.output.trans h.output, Nat.le_trans h.size h'.size, fun k hk hG => by rw [h'.block k (Nat.lt_of_lt_of_le hk h.size) hG, h.block k hk hG]⟩
theorem FTo.set {F : Nat} {s : FSt} {V W : World} (h : FTo F s V W) (s' : FSt) : FTo F s' V (W.setRow F (fC s')) := ⟨h.at'.set s', saved_row h.sv _ (Or.inr rfl)⟩
theorem FTo.trans {F : Nat} {s s' : FSt} {V W W' : World} (h : FTo F s V W) (h' : FTo F s' W W') : FTo F s' V W' := ⟨h'.at', saved_trans h.sv h'.sv⟩
theorem FTo.rules {F : Nat} {s : FSt} {V W : World} (h : FTo F s V W) (g : Rules V) (hF : 0 < F) : Rules W := by
  have e : ∀ k, W.cell? ⟨0, k, none⟩ = V.cell? ⟨0, k, none⟩ := fun k => by
    simp only [World.cell?]
    rw [h.sv.block 0 g.sz (by omega)]
  exact ⟨Nat.lt_of_lt_of_le g.sz h.sv.size, fun f hf => by rw [e]; exact g.z f hf, fun f hf => by rw [e]; exact g.lo f hf, fun f hf => by rw [e]; exact g.hi f hf, fun f hf => by rw [e]; exact g.ft f hf⟩
/-- A list that does not lie in the Feed. -/
def Off (F : Nat) (v : Value) : Prop := ∀ ad n c, v = .slice (some ad) n c → 0 < n → ad.block ≠ F
theorem Off.slice {F : Nat} {V W : World} {v : Value} {n : Nat} {p : Nat → Nat} (ho : Off F v) (h : SliceN V v n p) (sv : Saved (fun k => k = F) V W) : SliceN W v n p := by
  obtain ⟨⟨a, cap, rfl, h1, h2, h3⟩, hp⟩ := h
  refine ⟨⟨a, cap, rfl, h1, h2, fun h0 => ?_⟩, hp⟩
  obtain ⟨b, off, rfl, hb, hc⟩ := h3 h0
  refine ⟨b, off, rfl, Nat.lt_of_lt_of_le hb sv.size, fun j hj => ?_⟩
  rw [← hc j hj]
  simp only [World.cell?]
  rw [sv.block b hb (ho _ n cap rfl h0)]
theorem Off.sub {F : Nat} {a : Option Addr} {len cap : Nat} (ho : Off F (.slice a len cap)) (l h : Nat) (hh : h ≤ len) : Off F (sliced a l h cap 1) := by
  intro ad n c e hn
  cases a with
  | none => unfold sliced at e; simp at e
  | some ad' =>
    unfold sliced at e
    injection e with e1 e2 e3
    have h0 := ho ad' len cap rfl (by omega)
    by_cases q : cap = l
    · rw [if_pos q] at e1
      injection e1 with e1
      rw [← e1]
      exact h0
    · rw [if_neg q] at e1
      injection e1 with e1
      rw [← e1]
      have : (ad'.add (l * 1)).block = ad'.block := by
        obtain ⟨b, o, m⟩ := ad'
        cases m <;> simp only [Addr.add] <;> split <;> rfl
      rw [this]
      exact h0
/-- A list that lay ahead of the Feed. -/
theorem off_of {F : Nat} {V : World} {v : Value} {n : Nat} {p : Nat → Nat} (h : SliceN V v n p) (hF : V.heap.size ≤ F) : Off F v := by
  intro ad m c e hm
  obtain ⟨⟨a, cap, rfl, _, _, h3⟩, _⟩ := h
  injection e with e1 e2 e3
  obtain ⟨b, off, rfl, hb, _⟩ := h3 (by omega)
  injection e1 with e1
  rw [← e1]
  show b ≠ F
  omega
section
variable {o : Oper} {a : Act} {w : World}
theorem execNil {P : Program} {x : Operand} {ad : Addr} (ho : o.op = .nilCheck x) (hx : a.eval x = .pointer (some ad)) : (execOp a.eval o).run P w = .ok (.value (.pointer (some ad))) w := by
  unfold execOp
  simp only [ho, hx]
  simp [go_sem]
theorem execAsg {P : Program} {x : Operand} {v : Value} (ho : o.op = .assign x) (hx : a.eval x = v) : (execOp a.eval o).run P w = .ok (.value v) w := by
  unfold execOp
  simp only [ho, hx]
  rfl
def foff : Nat → Nat
  | 0 => 0 | 1 => 1 | 2 => 321 | 3 => 322 | 4 => 323 | 5 => 325 | 6 => 328 | _ => 329
theorem execFld {x : Operand} {F k : Nat} (hk : k < 8) (ho : o.op = .fieldAddr 93 x k) (hx : a.eval x = .pointer (some ⟨F, 0, none⟩)) : (execOp a.eval o).run Tryz.prog w = .ok (.value (.pointer (some ⟨F, foff k, none⟩))) w := by
  unfold execOp
  simp only [ho, hx]
  match k, hk with
  | 0, _ => simp [go_sem, foff]
  | 1, _ => simp [go_sem, foff]
  | 2, _ => simp [go_sem, foff]
  | 3, _ => simp [go_sem, foff]
  | 4, _ => simp [go_sem, foff]
  | 5, _ => simp [go_sem, foff]
  | 6, _ => simp [go_sem, foff]
  | 7, _ => simp [go_sem, foff]
theorem execLdI {y : Operand} {b f : Nat} {v : Value} (ho : o.op = .load 3 y) (hx : a.eval y = .pointer (some ⟨b, f, none⟩)) (hc : w.cell? ⟨b, f, none⟩ = some v) : (execOp a.eval o).run Tryz.prog w = .ok (.value v) w := by
  unfold execOp
  simp only [ho, hx]
  simp [go_sem, hc]
theorem execLdF {y : Operand} {b f : Nat} {v : Value} (ho : o.op = .load 87 y) (hx : a.eval y = .pointer (some ⟨b, f, none⟩)) (hc : w.cell? ⟨b, f, none⟩ = some v) : (execOp a.eval o).run Tryz.prog w = .ok (.value v) w := by
  unfold execOp
  simp only [ho, hx]
  simp [go_sem, hc]
theorem execIdxR {i : Operand} {k : Nat} (ho : o.op = .indexAddr 141 (.global 0) i) (hi : a.eval i = .int .i64 (k : Int)) (hk : k < 10) : (execOp a.eval o).run Tryz.prog w = .ok (.value (.pointer (some ⟨0, k * 4, none⟩))) w := by
  have hk' : (k : Int) < 10 := by omega
  unfold execOp
  simp only [ho, hi]
  simp [go_sem, hk']
theorem execFldR {x : Operand} {b f : Nat} (ho : o.op = .fieldAddr 140 x 0) (hx : a.eval x = .pointer (some ⟨b, f, none⟩)) : (execOp a.eval o).run Tryz.prog w = .ok (.value (.pointer (some ⟨b, f, none⟩))) w := by
  unfold execOp
  simp only [ho, hx]
  simp [go_sem]
/-- part[l:h]. -/
theorem slicePart (F l h : Nat) (h1 : l < h) (h2 : h ≤ 320) (W : World) : (Instr.sliceAt 88 (.pointer (some ⟨F, 1, none⟩)) (some (.int .i64 (l : Int))) (some (.int .i64 (h : Int))) none).run Tryz.prog W = .ok (.slice (some ⟨F, 1 + l, none⟩) (h - l) (320 - l)) W := by
  have a1 : (l : Int) ≤ h := by omega
  have a2 : (h : Int) ≤ 320 := by omega
  have a3 : ¬ 320 = l := by omega
  simp [go_sem, a1, a2, a3]
/-- copy into the part. -/
theorem execCopyP {x y : Operand} {F l m m' c : Nat} {s : FSt} {v : Value} {p : Nat → Nat} (ho : o.op = .call { callee := .builtin .copy, args := #[x, y], argTypes := #[24, 24] })
    (hx : a.eval x = .slice (some ⟨F, 1 + l, none⟩) m c) (hy : a.eval y = v) (hF : FAt F s w) (hv : SliceN w v m' p) (hm : l + m ≤ 320) :
    (execOp a.eval o).run Tryz.prog w = .ok (.value (.int .i64 ((min m' m : Nat) : Int))) (w.setRow F (fC { s with part := spl s.part l (min m' m) p })) := by
  obtain ⟨⟨ao, cap, rfl, h1, h2, h3⟩, hp⟩ := hv
  by_cases h0 : 0 < m'
  · obtain ⟨b, off, rfl, hb, hc⟩ := h3 h0
    have h := execCopyB (cs := bytesL (min m' m) p) ho hx hy hF.row (bytesL_len _ _) ?_ (by rw [bytesL_len, fC_size]; omega) (bytesL_one _ _)
    · rw [bytesL_len, fC_splice s l (min m' m) p (by omega)] at h
      exact h
    · intro j v hj
      have hjc : j < min m' m := by have := (List.getElem?_eq_some_iff.1 hj).1; rwa [bytesL_len] at this
      rw [bytesL_at _ _ hjc] at hj
      rw [Addr.add_mid, ← hj]
      exact hc j (by omega)
  · have e0 : m' = 0 := by omega
    subst e0
    have h := run_copy_none (P := Tryz.prog) w 24 24 o.type 5 (some ⟨F, 1 + l, none⟩) ao m c 0 cap Tryz.underlying24 (by kernel_rfl) (by simp)
    have e1 : w.setRow F (fC { s with part := spl s.part l (min 0 m) p }) = w := by
      have : ({ s with part := spl s.part l (min 0 m) p } : FSt) = s := by
        have : spl s.part l (min 0 m) p = s.part := by
          funext i
          unfold spl
          rw [if_neg (by omega)]
        rw [this]
      rw [this]
      exact setRow_self _ _ _ _ _ hF.row
    rw [e1]
    unfold execOp
    simp only [ho, resolve, invoke, builtin, Sem.run_bind, Sem.run_pure, Result.andThen_ok, List.map_toArray, List.map_cons, List.map_nil, hx, hy, h]
    simp
    rfl
/-- clear of bytes in a row that is known whole. -/
theorem execClearP {x : Operand} {F n c : Nat} {s : FSt} (ho : o.op = .call { callee := .builtin .clear, args := #[x], argTypes := #[24] })
    (hx : a.eval x = .slice (some ⟨F, 1, none⟩) n c) (hF : FAt F s w) (h0 : 0 < n) (hn : n ≤ 320) :
    (execOp a.eval o).run Tryz.prog w = .ok (.value (.tuple #[])) (w.setRow F (fC { s with part := spl s.part 0 n fun _ => 0 })) := by
  have hz : ∀ w, (zeroValue 5).run Tryz.prog w = .ok (.int .u8 0) w := by intro w; simp [go_sem]
  have hzc : (Builtin.zeroCells (Value.int .u8 0).cells n).toList = bytesL n fun _ => 0 := by
    have e : (bytesL n fun _ => 0) = List.replicate n (Value.int .u8 0) := by
      apply List.ext_getElem?
      intro i
      by_cases h : i < n
      · rw [bytesL_at n _ h, List.getElem?_replicate, if_pos h]
        rfl
      · rw [List.getElem?_eq_none (by rw [bytesL_len]; omega), List.getElem?_eq_none (by rw [List.length_replicate]; omega)]
    rw [e]
    simp [Builtin.zeroCells, Value.cells]
    apply List.ext_getElem
    · simp
    · intro i h1 h2
      simp [Nat.mod_one]
  have hst := run_storeCells_at Tryz.prog F 1 93 (bytesL n fun _ => 0) 0 (fC s) w hF.row (by rw [bytesL_len, fC_size]; omega) (bytesL_one _ _)
  rw [bytesL_len] at hst
  have sp := fC_splice s 0 n (fun _ => 0) (by omega)
  rw [Nat.add_zero] at sp
  rw [sp] at hst
  obtain ⟨m, rfl⟩ : ∃ m, n = m + 1 := ⟨n - 1, by omega⟩
  unfold execOp
  simp only [ho, resolve, invoke, builtin, Sem.run_bind, Sem.run_pure, Result.andThen_ok, List.map_toArray, List.map_cons, List.map_nil, hx]
  simp [Builtin.clear_, run_underlying Tryz.underlying24, hz, hzc, hst]
end
set_option maxRecDepth 20000 in
theorem whole_any (F : Nat) (s : FSt) (V : World) (h : FAt F s V) (g : Rules V) (hf : s.f < 10) :
    Calls Tryz.prog 47 #[.pointer (some ⟨F, 0, none⟩)] V fun e w' => e = .returned (.bool (decide (s.hv = fsz s.f))) ∧ Below V.heap.size V w' := by
  have c0 := h.c0
  have c1 := h.hv
  have c2 := g.z _ hf
  obtain ⟨f, hf0⟩ : ∃ f, s.f = f := ⟨_, rfl⟩
  obtain ⟨hv, hv0⟩ : ∃ n, s.hv = n := ⟨_, rfl⟩
  rw [hf0] at c0 c2 hf ⊢
  rw [hv0] at c1 ⊢
  have i1 : (f : Int) < 10 := by omega
  clear hf0 hv0 h g
  go_enter Tryz.func47, Tryz.ntmps47
  go_wp2_with fail
  go_quiet (fail)
  go_wp2
  go_ret
  have e : ((hv : Int) == (fsz f : Int)) = decide (hv = fsz f) := by
    rw [Bool.eq_iff_iff]
    simp
    omega
  refine ⟨?_, belowD (Below.refl _ _) _⟩
  rw [← e]
  rfl
set_option maxRecDepth 20000 in
theorem fnumber_any (F : Nat) (s : FSt) (V : World) (h : FAt F s V) (hn : s.hv ≤ 8) (hb : ∀ j, j < s.hv → s.part j < 256) :
    Calls Tryz.prog 70 #[.pointer (some ⟨F, 0, none⟩)] V fun e w' => e = .returned (.int .u64 (nb s.part s.hv : Nat)) ∧ Below V.heap.size V w' := by
  have c1 := h.hv
  have SL : Hid (SliceN V (.slice (some ⟨F, 1, none⟩) s.hv 320) s.hv s.part) := h.slice (by omega) hb
  have HN : Hid (s.hv ≤ 8) := hn
  obtain ⟨hv, hv0⟩ : ∃ n, s.hv = n := ⟨_, rfl⟩
  rw [hv0] at c1 SL HN ⊢
  have i1 : (hv : Int) ≤ 320 := by omega
  clear hv0 h hb
  go_enter Tryz.func70, Tryz.ntmps70
  go_wp2_with fail
  go_quiet ((go_at_call 88; exact Calls.quiet_of_same (pnumber_any s.part hv _ _ (SL.out.on (belowD (Below.refl _ _) _)) HN.out)))
  go_wp2
  go_ret
  exact ⟨rfl, belowD (Below.refl _ _) _⟩
/-- What each operation of filled's first region yields. -/
def flV (F : Nat) (s : FSt) (v : Value) (m : Nat) (j : Nat) : Value :=
  match j with
  | 0 => .pointer (some ⟨F, 0, none⟩) | 1 => .pointer (some ⟨F, 0, none⟩) | 2 => .pointer (some ⟨F, 1, none⟩)
  | 3 => .pointer (some ⟨F, 0, none⟩) | 4 => .pointer (some ⟨F, 0, none⟩) | 5 => .pointer (some ⟨F, 321, none⟩) | 6 => .int .i64 (s.hv : Int)
  | 7 => .pointer (some ⟨F, 0, none⟩) | 8 => .pointer (some ⟨F, 0, none⟩) | 9 => .pointer (some ⟨F, 0, none⟩) | 10 => .int .i64 (s.f : Int)
  | 11 => .pointer (some ⟨0, s.f * 4, none⟩) | 12 => .pointer (some ⟨0, s.f * 4, none⟩) | 13 => .int .i64 (fsz s.f : Nat)
  | 14 => .slice (some ⟨F, 1 + s.hv, none⟩) (fsz s.f - s.hv) (320 - s.hv) | 15 => v | _ => .int .i64 ((min m (fsz s.f - s.hv) : Nat) : Int)
/-- What stands behind filled. -/
def fillS (s : FSt) (p : Nat → Nat) (m : Nat) : FSt := { s with part := spl s.part s.hv (min m (fsz s.f - s.hv)) p, hv := s.hv + min m (fsz s.f - s.hv) }
/-- The rest of a list from place c on. -/
def subV (v : Value) (c : Nat) : Value := match v with | .slice ao m cap => sliced ao c m cap 1 | u => u
theorem subV_slice {W : World} {v : Value} {m c : Nat} {p : Nat → Nat} (h : SliceN W v m p) (hc : c ≤ m) : SliceN W (subV v c) (m - c) fun j => p (c + j) := by
  obtain ⟨ao, cap, rfl, _⟩ := id h.shape
  exact h.sub c m hc (Nat.le_refl _)
theorem subV_off {F : Nat} {v : Value} {c : Nat} (h : Off F v) : Off F (subV v c) := by
  unfold subV
  split
  · exact h.sub _ _ (Nat.le_refl _)
  · exact h
set_option maxRecDepth 20000 in
set_option maxHeartbeats 1000000 in
theorem filled_any (F : Nat) (s : FSt) (p : Nat → Nat) (m : Nat) (v : Value) (V : World) (h : FAt F s V) (g : Rules V) (h0 : 0 < F) (hf : s.f < 10) (hh : s.hv < fsz s.f) (hv : SliceN V v m p) (ho : Off F v) :
    Calls Tryz.prog 46 #[.pointer (some ⟨F, 0, none⟩), v] V fun e w' => e = .returned (subV v (min m (fsz s.f - s.hv))) ∧ FTo F (fillS s p m) V w' := by
  obtain ⟨ao, cap, rfl, hc1, hc2, hc3⟩ := id hv.shape
  obtain ⟨n, hn⟩ : ∃ n, min m (fsz s.f - s.hv) = n := ⟨_, rfl⟩
  have nm : n ≤ m := by omega
  have n1 : (n : Int) ≤ m := by omega
  have sl := slice_l ao m cap n nm
  obtain ⟨r, hr⟩ : ∃ r, sliced ao n m cap 1 = r := ⟨_, rfl⟩
  rw [hr] at sl
  have SUB : Hid (subV (.slice ao m cap) n = r) := hr
  have HB : Hid (FAt F s V ∧ Rules V ∧ 0 < F ∧ s.f < 10 ∧ s.hv < fsz s.f ∧ SliceN V (.slice ao m cap) m p ∧ Off F (.slice ao m cap)) := ⟨h, g, h0, hf, hh, hv, ho⟩
  have HN : Hid (min m (fsz s.f - s.hv) = n) := hn
  have f1 := fsz_le s.f
  have l1 : (s.hv : Int) + n ≤ 320 := by omega
  clear hc1 hc2 hc3 hn h g h0 hf hh hv ho hr f1
  go_enter Tryz.func46, Tryz.ntmps46
  go_wp2_with fail
  refine wp_region_det 34 [(0, 6), (1, 7), (2, 8), (3, 9), (4, 10), (5, 11), (6, 12), (7, 13), (8, 14), (9, 15), (10, 16), (11, 17), (12, 18), (13, 19), (14, 20), (15, 21), (16, 22), (17, 5)] (flV F s (.slice ao m cap) m) (fun l W => ∃ q, FTo F { s with part := q } V W ∧ (l 16 = false → q = s.part) ∧ (l 16 = true → q = spl s.part s.hv n p)) (by kernel_rfl) (by kernel_rfl) rfl (by kernel_rfl) (by decide) (by decide) ?_ ?_ ?_
  · exact ⟨s.part, (FTo.refl HB.out.1).on ((Below.refl _ _).drew), fun _ => rfl, fun q => by cases q⟩
  · intro j hj l a W hl hf hdep hl2 hcl _ hT
    obtain ⟨_, g, h0, hf10, hh, hv, ho⟩ := HB.out
    have f1 := fsz_le s.f
    have hT' := hT
    obtain ⟨q, ft, q1, q2⟩ := hT'
    match j, hj with
    | 0, _ => exact stepV rfl rfl (execMvB rfl (hf 0 (by decide))) ⟨⟨_, rfl, rfl⟩, hT⟩
    | 1, _ => exact stepV rfl rfl (execNil rfl (hdep _ rfl 0 rfl _ rfl _ rfl)) ⟨⟨_, rfl, rfl⟩, hT⟩
    | 2, _ => exact stepV rfl rfl (execFld (k := 1) (by decide) rfl (hdep _ rfl 1 rfl _ rfl _ rfl)) ⟨⟨_, rfl, rfl⟩, hT⟩
    | 3, _ => exact stepV rfl rfl (execMvB rfl (hf 0 (by decide))) ⟨⟨_, rfl, rfl⟩, hT⟩
    | 4, _ => exact stepV rfl rfl (execNil rfl (hdep _ rfl 3 rfl _ rfl _ rfl)) ⟨⟨_, rfl, rfl⟩, hT⟩
    | 5, _ => exact stepV rfl rfl (execFld (k := 2) (by decide) rfl (hdep _ rfl 4 rfl _ rfl _ rfl)) ⟨⟨_, rfl, rfl⟩, hT⟩
    | 6, _ => exact stepV rfl rfl (execLdI rfl (hdep _ rfl 5 rfl _ rfl _ rfl) ft.at'.hv) ⟨⟨_, rfl, rfl⟩, hT⟩
    | 7, _ => exact stepV rfl rfl (execMvB rfl (hf 0 (by decide))) ⟨⟨_, rfl, rfl⟩, hT⟩
    | 8, _ => exact stepV rfl rfl (execNil rfl (hdep _ rfl 7 rfl _ rfl _ rfl)) ⟨⟨_, rfl, rfl⟩, hT⟩
    | 9, _ => exact stepV rfl rfl (execFld (k := 0) (by decide) rfl (hdep _ rfl 8 rfl _ rfl _ rfl)) ⟨⟨_, rfl, rfl⟩, hT⟩
    | 10, _ => exact stepV rfl rfl (execLdF rfl (hdep _ rfl 9 rfl _ rfl _ rfl) ft.at'.c0) ⟨⟨_, rfl, rfl⟩, hT⟩
    | 11, _ => exact stepV rfl rfl (execIdxR rfl (hdep _ rfl 10 rfl _ rfl _ rfl) hf10) ⟨⟨_, rfl, rfl⟩, hT⟩
    | 12, _ => exact stepV rfl rfl (execFldR rfl (hdep _ rfl 11 rfl _ rfl _ rfl)) ⟨⟨_, rfl, rfl⟩, hT⟩
    | 13, _ => exact stepV rfl rfl (execLdI rfl (hdep _ rfl 12 rfl _ rfl _ rfl) ((ft.rules g h0).z _ hf10)) ⟨⟨_, rfl, rfl⟩, hT⟩
    | 14, _ => exact stepV rfl rfl (execCutLH rfl (hdep _ rfl 2 rfl _ rfl _ rfl) (hdep _ rfl 6 rfl _ rfl _ rfl) (hdep _ rfl 13 rfl _ rfl _ rfl) (slicePart F s.hv (fsz s.f) hh f1 W)) ⟨⟨_, rfl, rfl⟩, hT⟩
    | 15, _ => exact stepV rfl rfl (execMvB rfl (hf 1 (by decide))) ⟨⟨_, rfl, rfl⟩, hT⟩
    | 16, _ =>
      have e := q1 hl
      subst e
      refine stepV rfl rfl (execCopyP rfl (hdep _ rfl 14 rfl _ rfl _ rfl) (hdep _ rfl 15 rfl _ rfl _ rfl) ft.at' (ho.slice hv ft.sv) (by omega)) ⟨⟨_, rfl, rfl⟩, ⟨_, ft.set _, (fun q => by cases q), fun _ => ?_⟩⟩
      rw [HN.out]
    | 17, _ => exact stepV rfl rfl (execAsg rfl (hdep _ rfl 16 rfl _ rfl _ rfl)) ⟨⟨_, rfl, rfl⟩, hT⟩
    | n + 18, h => exact absurd h (by simp)
  · intro l W hall hT
    obtain ⟨q, ft, _, q2⟩ := hT
    have e := q2 (hall 16 (by simp))
    subst e
    have FT : Hid (FTo F { s with part := spl s.part s.hv n p } V W) := ft
    have c1 := ft.at'.hv
    have i1 : min (m : Int) ((fsz s.f - s.hv : Nat) : Int) = n := by have := HN.out; omega
    clear hall ft q2 HB
    simp only [putP, flV, HN.out, Act.put, List.setIfInBounds_toArray, List.set_cons_succ, List.set_cons_zero]
    go_wp2_with (first
      | (refine atStore 3 (.tmp 30) (.tmp 28) rfl ?_; go_must (refine wpList_exS rfl (execStV (c' := fC { s with part := spl s.part s.hv n p, hv := s.hv + n }) rfl rfl rfl FT.out.at'.row (by rw [fC_size]; decide) (by kernel_rfl) rfl (fC_set (j := 0) (by decide) rfl rfl rfl)) ?_)))
    go_ret
    refine ⟨?_, ?_⟩
    · rw [HN.out, SUB.out]
      rfl
    · unfold fillS
      rw [HN.out]
      exact FT.out.set _
end Go.Proofs.YtgklhjnojmpmlaaGreatDoor.Frm
