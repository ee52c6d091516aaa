import Derived.Test.YtealknodagdjaaaT2
import Derived.Test.YtealknodagdjaaaT5
import Derived.Test.YtealknodagdjaaaY7
import Derived.Test.YtealknodagdjaaaK8
namespace Go.Proofs.Ytealknodagdjaaa.Aes
open Go.RowKit Gf8 By8

/-- The cells of a Job. -/
def jobL (key st : Nat → Nat) (n : Int) (v : Value) : List Value := bytesL 16 key ++ (bytesL 16 st ++ [.int .i64 n, v])
section
variable {o : Oper} {a : Act} {w : World}
theorem execFdJ {x : Operand} {b i : Nat} {f : Nat} (ho : o.op = .fieldAddr 41 x i) (hx : a.eval x = .pointer (some ⟨b, 0, none⟩)) (hf : (i = 0 ∧ f = 0) ∨ (i = 1 ∧ f = 16) ∨ (i = 2 ∧ f = 32) ∨ (i = 3 ∧ f = 33)) : (execOp a.eval o).run Try.prog w = .ok (.value (.pointer (some ⟨b, f, none⟩))) w := by
  unfold execOp
  simp only [ho, hx]
  rcases hf with ⟨rfl, rfl⟩ | ⟨rfl, rfl⟩ | ⟨rfl, rfl⟩ | ⟨rfl, rfl⟩ <;> simp [go_sem]
theorem execLd16 {x : Operand} {b f : Nat} {g : Nat → Nat} (ho : o.op = .load 23 x) (hx : a.eval x = .pointer (some ⟨b, f, none⟩)) (h : ∀ j, j < 16 → w.cell? ⟨b, f + j, none⟩ = some (.int .u8 (g j))) : (execOp a.eval o).run Try.prog w = .ok (.value (.agg (bA 16 g))) w := by
  unfold execOp
  simp only [ho, hx, Sem.run_bind, run_loadAt_mid (P := Try.prog) w b f 23 (bytesL 16 g) _ (range16 h) Try.underlying23 rfl (len16 g), Result.andThen_ok, Sem.run_pure]
  rfl
theorem execLd3 {x : Operand} {b f : Nat} {v : Value} (ho : o.op = .load 3 x) (hx : a.eval x = .pointer (some ⟨b, f, none⟩)) (hc : w.cell? ⟨b, f, none⟩ = some v) : (execOp a.eval o).run Try.prog w = .ok (.value v) w := by
  unfold execOp
  simp only [ho, hx]
  simp [go_sem, hc]
theorem execLdJ {x : Operand} {b f : Nat} {v : Value} (ho : o.op = .load 25 x) (hx : a.eval x = .pointer (some ⟨b, f, none⟩)) (hc : w.cell? ⟨b, f, none⟩ = some v) : (execOp a.eval o).run Try.prog w = .ok (.value v) w := by
  unfold execOp
  simp only [ho, hx]
  simp [go_sem, hc]
end
theorem jobL_len (key st : Nat → Nat) (n : Int) (v : Value) : (jobL key st n v).length = 34 := by simp [jobL, bytesL_len]
theorem job_cells {W : World} {A : Nat} {key st : Nat → Nat} {n : Int} {v : Value} {t : TypeId} (h : W.heap[A]? = some (.cells (jobL key st n v).toArray t)) :
    (∀ j, j < 16 → W.cell? ⟨A, 0 + j, none⟩ = some (.int .u8 (key j))) ∧ (∀ j, j < 16 → W.cell? ⟨A, 16 + j, none⟩ = some (.int .u8 (st j))) ∧ W.cell? ⟨A, 32, none⟩ = some (.int .i64 n) ∧ W.cell? ⟨A, 33, none⟩ = some v := by
  refine ⟨fun j hj => ?_, fun j hj => ?_, ?_, ?_⟩
  · rw [cell_of_row _ _ _ _ _ _ h, List.getElem?_toArray, Nat.zero_add]
    unfold jobL
    rw [List.getElem?_append_left (by rw [bytesL_len]; omega)]
    exact bytesL_at 16 key hj
  · rw [cell_of_row _ _ _ _ _ _ h, List.getElem?_toArray]
    unfold jobL
    rw [List.getElem?_append_right (by rw [bytesL_len]; omega), bytesL_len, List.getElem?_append_left (by rw [bytesL_len]; omega), show 16 + j - 16 = j by omega]
    exact bytesL_at 16 st hj
  · rw [cell_of_row _ _ _ _ _ _ h, List.getElem?_toArray]; rfl
  · rw [cell_of_row _ _ _ _ _ _ h, List.getElem?_toArray]; rfl
/-- What each operation of BlockMasks' first region tells. -/
def jbS (A : Nat) (key st : Nat → Nat) (n : Int) (v : Value) (j : Nat) (x : Nat → Value) (W : World) : Prop :=
  match j with
  | 0 => x 0 = .pointer (some ⟨A, 0, none⟩) | 1 => x 1 = .agg (bA 16 key) | 2 => x 2 = .pointer (some ⟨A, 16, none⟩) | 3 => x 3 = .agg (bA 16 st) | 4 => x 4 = .pointer (some ⟨A, 32, none⟩) | 5 => x 5 = .int .i64 n | 6 => x 6 = .pointer (some ⟨A, 33, none⟩) | 7 => x 7 = v
  | 8 => ∃ b, x 8 = .pointer (some ⟨b, 0, none⟩) | 9 => ∃ b, x 9 = .pointer (some ⟨b, 0, none⟩)
  | 10 => ∃ b, x 8 = .pointer (some ⟨b, 0, none⟩) ∧ W.heap[b]? = some (.cells (bA 16 key) 23) | 11 => ∃ b, x 9 = .pointer (some ⟨b, 0, none⟩) ∧ W.heap[b]? = some (.cells (bA 16 st) 23)
  | 12 => x 10 = .int .i64 n | _ => x 11 = v
/-- What holds throughout. -/
structure JbC (w1 : World) (x : Nat → Value) (W : World) : Prop where
  bel : Below w1.heap.size w1 W
  r8 : x 8 = undef ∨ ∃ b c, x 8 = .pointer (some ⟨b, 0, none⟩) ∧ w1.heap.size ≤ b ∧ W.heap[b]? = some (.cells (bA 16 c) 23)
  r9 : x 9 = undef ∨ ∃ b c, x 9 = .pointer (some ⟨b, 0, none⟩) ∧ w1.heap.size ≤ b ∧ W.heap[b]? = some (.cells (bA 16 c) 23)
  ne : ∀ b c, x 8 = .pointer (some ⟨b, 0, none⟩) → x 9 = .pointer (some ⟨c, 0, none⟩) → b ≠ c
theorem JbC.upd {w1 : World} {x : Nat → Value} {W : World} (h : JbC w1 x W) {i : Nat} (v : Value) (h8 : i ≠ 8) (h9 : i ≠ 9) : JbC w1 (updS x i v) W := by
  have e8 : updS x i v 8 = x 8 := by unfold updS; rw [if_neg (fun e => h8 e.symm)]
  have e9 : updS x i v 9 = x 9 := by unfold updS; rw [if_neg (fun e => h9 e.symm)]
  exact ⟨h.bel, by rw [e8]; exact h.r8, by rw [e9]; exact h.r9, by rw [e8, e9]; exact h.ne⟩
theorem jbS_upd {A : Nat} {key st : Nat → Nat} {n : Int} {v u : Value} {x : Nat → Value} {W : World} {i k : Nat} (hk : (i < 8 → i = k → False) ∧ (12 ≤ i → i - 2 = k → False)) (h8 : k ≠ 8) (h9 : k ≠ 9) (h : jbS A key st n v i x W) (hi : i < 14) : jbS A key st n v i (updS x k u) W := by
  have e : ∀ t, t ≠ k → updS x k u t = x t := fun t ht => by unfold updS; rw [if_neg ht]
  match i, hi, hk, h with
  | 0, _, hk, h => exact (e 0 (fun q => hk.1 (by omega) q)).trans h
  | 1, _, hk, h => exact (e 1 (fun q => hk.1 (by omega) q)).trans h
  | 2, _, hk, h => exact (e 2 (fun q => hk.1 (by omega) q)).trans h
  | 3, _, hk, h => exact (e 3 (fun q => hk.1 (by omega) q)).trans h
  | 4, _, hk, h => exact (e 4 (fun q => hk.1 (by omega) q)).trans h
  | 5, _, hk, h => exact (e 5 (fun q => hk.1 (by omega) q)).trans h
  | 6, _, hk, h => exact (e 6 (fun q => hk.1 (by omega) q)).trans h
  | 7, _, hk, h => exact (e 7 (fun q => hk.1 (by omega) q)).trans h
  | 8, _, _, h => obtain ⟨b, h⟩ := h; exact ⟨b, (e 8 (fun q => h8 q.symm)).trans h⟩
  | 9, _, _, h => obtain ⟨b, h⟩ := h; exact ⟨b, (e 9 (fun q => h9 q.symm)).trans h⟩
  | 10, _, _, h => obtain ⟨b, h, g⟩ := h; exact ⟨b, (e 8 (fun q => h8 q.symm)).trans h, g⟩
  | 11, _, _, h => obtain ⟨b, h, g⟩ := h; exact ⟨b, (e 9 (fun q => h9 q.symm)).trans h, g⟩
  | 12, _, hk, h => exact (e 10 (fun q => hk.2 (by omega) q)).trans h
  | 13, _, hk, h => exact (e 11 (fun q => hk.2 (by omega) q)).trans h
theorem updS_at (x : Nat → Value) (k : Nat) (v : Value) : updS x k v k = v := by unfold updS; rw [if_pos rfl]
theorem updS_off (x : Nat → Value) {k t : Nat} (v : Value) (h : t ≠ k) : updS x k v t = x t := by unfold updS; rw [if_neg h]
theorem JbC.row8 {w1 : World} {x : Nat → Value} {W : World} (h : JbC w1 x W) {b : Nat} (hb : x 8 = .pointer (some ⟨b, 0, none⟩)) : ∃ c, w1.heap.size ≤ b ∧ W.heap[b]? = some (.cells (bA 16 c) 23) := by
  rcases h.r8 with e | ⟨b', c, e, l, g⟩
  · rw [e] at hb; cases hb
  · rw [e] at hb
    simp only [Value.pointer.injEq, Option.some.injEq, Addr.mk.injEq, and_true] at hb
    subst hb
    exact ⟨c, l, g⟩
theorem JbC.row9 {w1 : World} {x : Nat → Value} {W : World} (h : JbC w1 x W) {b : Nat} (hb : x 9 = .pointer (some ⟨b, 0, none⟩)) : ∃ c, w1.heap.size ≤ b ∧ W.heap[b]? = some (.cells (bA 16 c) 23) := by
  rcases h.r9 with e | ⟨b', c, e, l, g⟩
  · rw [e] at hb; cases hb
  · rw [e] at hb
    simp only [Value.pointer.injEq, Option.some.injEq, Addr.mk.injEq, and_true] at hb
    subst hb
    exact ⟨c, l, g⟩
theorem kept_new {W : World} {b : Nat} {c o : Obj} (h : W.heap[b]? = some c) : (W.alloc o).heap[b]? = some c := by
  rw [heapOld _ _ (Array.getElem?_eq_some_iff.1 h).1]; exact h
theorem ptr_inj {b c : Nat} (h : Value.pointer (some ⟨b, 0, none⟩) = .pointer (some ⟨c, 0, none⟩)) : b = c := by
  simpa using h
theorem JbC.new8 {w1 : World} {x : Nat → Value} {W : World} (h : JbC w1 x W) : JbC w1 (updS x 8 (.pointer (some ⟨W.heap.size, 0, none⟩))) (W.alloc (.cells (bA 16 fun _ => 0) 23)) := by
  refine ⟨h.bel.trans ((belNew W _).mono h.bel.size), .inr ⟨_, _, updS_at _ _ _, h.bel.size, heapNew W _⟩, ?_, fun b c hb hc => ?_⟩
  · rw [updS_off _ _ (by omega)]
    rcases h.r9 with e | ⟨b, c, e, l, g⟩
    · exact .inl e
    · exact .inr ⟨b, c, e, l, kept_new g⟩
  · rw [updS_at] at hb
    rw [updS_off _ _ (by omega)] at hc
    have := ptr_inj hb
    obtain ⟨_, _, g⟩ := h.row9 hc
    have := (Array.getElem?_eq_some_iff.1 g).1
    omega
theorem JbC.new9 {w1 : World} {x : Nat → Value} {W : World} (h : JbC w1 x W) : JbC w1 (updS x 9 (.pointer (some ⟨W.heap.size, 0, none⟩))) (W.alloc (.cells (bA 16 fun _ => 0) 23)) := by
  refine ⟨h.bel.trans ((belNew W _).mono h.bel.size), ?_, .inr ⟨_, _, updS_at _ _ _, h.bel.size, heapNew W _⟩, fun b c hb hc => ?_⟩
  · rw [updS_off _ _ (by omega)]
    rcases h.r8 with e | ⟨b, c, e, l, g⟩
    · exact .inl e
    · exact .inr ⟨b, c, e, l, kept_new g⟩
  · rw [updS_at] at hc
    rw [updS_off _ _ (by omega)] at hb
    have := ptr_inj hc
    obtain ⟨_, _, g⟩ := h.row8 hb
    have := (Array.getElem?_eq_some_iff.1 g).1
    omega
theorem JbC.set8 {w1 : World} {x : Nat → Value} {W : World} (h : JbC w1 x W) {b : Nat} (hb : x 8 = .pointer (some ⟨b, 0, none⟩)) (f : Nat → Nat) : JbC w1 x (W.setRow b (bA 16 f)) := by
  obtain ⟨c, l, g⟩ := h.row8 hb
  refine ⟨below4 h.bel l _, .inr ⟨b, f, hb, l, setRow_heap _ _ _ _ _ _ g⟩, ?_, h.ne⟩
  rcases h.r9 with e | ⟨b', c', e, l', g'⟩
  · exact .inl e
  · exact .inr ⟨b', c', e, l', by rw [setRow_other _ _ _ _ (fun q => h.ne b b' hb e q.symm)]; exact g'⟩
theorem JbC.set9 {w1 : World} {x : Nat → Value} {W : World} (h : JbC w1 x W) {b : Nat} (hb : x 9 = .pointer (some ⟨b, 0, none⟩)) (f : Nat → Nat) : JbC w1 x (W.setRow b (bA 16 f)) := by
  obtain ⟨c, l, g⟩ := h.row9 hb
  refine ⟨below4 h.bel l _, ?_, .inr ⟨b, f, hb, l, setRow_heap _ _ _ _ _ _ g⟩, h.ne⟩
  rcases h.r8 with e | ⟨b', c', e, l', g'⟩
  · exact .inl e
  · exact .inr ⟨b', c', e, l', by rw [setRow_other _ _ _ _ (fun q => h.ne b' b e hb q)]; exact g'⟩
/-- What was told stays where slot k is put anew and the rows that it names stay. -/
theorem jbS_keep {A : Nat} {key st : Nat → Nat} {n : Int} {v : Value} {x x' : Nat → Value} {W W' : World} {i : Nat} (hi : i < 14) (hx : ∀ t, t ≠ 8 → t ≠ 9 → x' t = x t) (h8 : i = 8 ∨ i = 10 → x' 8 = x 8) (h9 : i = 9 ∨ i = 11 → x' 9 = x 9)
    (g8 : i = 10 → ∀ b c, x 8 = .pointer (some ⟨b, 0, none⟩) → W.heap[b]? = some c → W'.heap[b]? = some c) (g9 : i = 11 → ∀ b c, x 9 = .pointer (some ⟨b, 0, none⟩) → W.heap[b]? = some c → W'.heap[b]? = some c)
    (h : jbS A key st n v i x W) : jbS A key st n v i x' W' := by
  match i, hi, h8, h9, g8, g9, h with
  | 0, _, _, _, _, _, h => exact (hx 0 (by omega) (by omega)).trans h
  | 1, _, _, _, _, _, h => exact (hx 1 (by omega) (by omega)).trans h
  | 2, _, _, _, _, _, h => exact (hx 2 (by omega) (by omega)).trans h
  | 3, _, _, _, _, _, h => exact (hx 3 (by omega) (by omega)).trans h
  | 4, _, _, _, _, _, h => exact (hx 4 (by omega) (by omega)).trans h
  | 5, _, _, _, _, _, h => exact (hx 5 (by omega) (by omega)).trans h
  | 6, _, _, _, _, _, h => exact (hx 6 (by omega) (by omega)).trans h
  | 7, _, _, _, _, _, h => exact (hx 7 (by omega) (by omega)).trans h
  | 8, _, h8, _, _, _, h => obtain ⟨b, h⟩ := h; exact ⟨b, (h8 (.inl rfl)).trans h⟩
  | 9, _, _, h9, _, _, h => obtain ⟨b, h⟩ := h; exact ⟨b, (h9 (.inl rfl)).trans h⟩
  | 10, _, h8, _, g8, _, h => obtain ⟨b, h, g⟩ := h; exact ⟨b, (h8 (.inr rfl)).trans h, g8 rfl b _ h g⟩
  | 11, _, _, h9, _, g9, h => obtain ⟨b, h, g⟩ := h; exact ⟨b, (h9 (.inr rfl)).trans h, g9 rfl b _ h g⟩
  | 12, _, _, _, _, _, h => exact (hx 10 (by omega) (by omega)).trans h
  | 13, _, _, _, _, _, h => exact (hx 11 (by omega) (by omega)).trans h
section
variable {P : Program} {ops : Array Oper} {Q : Exit → Act → World → Prop} {j : Nat} {o : Oper} {a : Act} {w : World} {K : Act → World → Prop}
theorem stepR (ho : ops[j]? = some o) (hw : Region.wanted o (yielded ops a.tmps) = true) (ty : TypeId) (x y : Operand) (hop : o.op = .store ty x y) (g : Nat) (cells : Array Value) (hx : a.eval x = .pointer (some ⟨g, 0, none⟩)) (hy : a.eval y = .agg cells)
    (t : TypeId) (old : Array Value) (hg : w.heap[g]? = some (.cells old t (0, 0))) (hi : (P.info? ty).map (·.size) = some cells.size) (hold : old.size = cells.size) (h1 : cells.all (·.oneCell') = true) (hK : K (a.put o.dst undef) (w.setRow g cells)) : wpOp P ops Q j K a w := by
  unfold wpOp
  rw [ho]
  simp only [hw, if_true]
  left
  exact wp_store_row ty x y hop g cells hx hy t old hg hi hold h1 hK
theorem execAsgJ {x : Operand} {v : Value} (ho : o.op = .assign x) (hx : a.eval x = v) : (execOp a.eval o).run P w = .ok (.value v) w := by
  unfold execOp
  simp only [ho, hx, Sem.run_pure]
end
/-- The rows of BlockMasks. -/
structure MaT (X Y : Nat) (key : Nat → Nat) (s0 : Nat) (v : Value) (len : Nat) (p : Nat → Nat) (V W : World) : Prop where
  kk : W.heap[X]? = some (.cells (bA 16 key) 23)
  st : W.heap[Y]? = some (.cells (bA 16 (be s0)) 23)
  sl : SliceN W v len p
  bel : Below V.heap.size V W
theorem MaT.on {X Y : Nat} {key : Nat → Nat} {s0 : Nat} {v : Value} {len : Nat} {p : Nat → Nat} {V W W' : World} (t : MaT X Y key s0 v len p V W) (hb : Below W.heap.size W W') : MaT X Y key s0 v len p V W' := by
  have l (k : Nat) (c : Obj) (hc : W.heap[k]? = some c) : W'.heap[k]? = some c := by rw [hb.block _ (Array.getElem?_eq_some_iff.1 hc).1]; exact hc
  exact ⟨l _ _ t.kk, l _ _ t.st, t.sl.on hb, t.bel.trans (hb.mono t.bel.size)⟩
/-- What each operation of region 5 yields. -/
def stS (key : Nat → Nat) (s0 : Nat) (n : Int) (f : Nat → Nat) (m : Nat) (j : Nat) (r : Value) (W : World) : Prop :=
  match j with
  | 0 => r = .agg (bA 16 key) | 1 => r = .agg (bA 16 (be s0)) | 2 => r = .int .i64 n | 3 => SliceN W r m f | 4 => r = .string (strN f m) | 5 => r = .agg (bA 16 key) | 6 => r = .agg (bA 16 (be s0)) | 7 => r = .int .i64 n | 8 => SliceN W r m f | 9 => r = .string (strN f m) | _ => r = .bool false
theorem stS_on {key : Nat → Nat} {s0 : Nat} {n : Int} {f : Nat → Nat} {m j : Nat} {r : Value} {W W' : World} (h : stS key s0 n f m j r W) (hb : Below W.heap.size W W') : stS key s0 n f m j r W' := by
  by_cases h3 : j = 3
  · subst h3; exact SliceN.on h hb
  by_cases h8 : j = 8
  · subst h8; exact SliceN.on h hb
  unfold stS at h ⊢
  split at h <;> first | exact h | (exfalso; exact h3 rfl) | (exfalso; exact h8 rfl)
theorem sliceN_cg {W : World} {v : Value} {len : Nat} {p q : Nat → Nat} (h : SliceN W v len p) (e : ∀ j, j < len → p j = q j) : SliceN W v len q := by
  obtain ⟨⟨a, cap, rfl, h1, h2, h3⟩, hp⟩ := h
  refine ⟨⟨a, cap, rfl, h1, h2, fun h0 => ?_⟩, fun j hj => by rw [← e j hj]; exact hp j hj⟩
  obtain ⟨b, off, e1, e2, e3⟩ := h3 h0
  exact ⟨b, off, e1, e2, fun j hj => by rw [← e j hj]; exact e3 j hj⟩
/-- p and the two bytes behind it. -/
def fuQ (p : Nat → Nat) (len : Nat) : Nat → Nat := fun j => if j < len then p j else if j = len then 161 else 162
theorem fuQ_lt {p : Nat → Nat} {len : Nat} (hp : ∀ j, j < len → p j < 256) (j : Nat) : fuQ p len j < 256 := by
  unfold fuQ
  split
  · exact hp j (by assumption)
  · split <;> omega
/-- The copy with its two bytes behind, of which all is known that lay in W4. -/
structure FuT (F cap len : Nat) (q : Nat → Nat) (W4 W : World) : Prop where
  bel : Below W4.heap.size W4 W
  cur : ∃ c : Array Value, W.heap[F]? = some (.cells c 5) ∧ c.size = cap ∧ ∀ j, j < len + 2 → c[j]? = some (.int .u8 (q j))
  lF : W4.heap.size ≤ F
  lc : len + 2 ≤ cap
  cb : cap < 9223372036854775808
  qb : ∀ j, q j < 256
theorem FuT.lt {F cap len : Nat} {q : Nat → Nat} {W4 W : World} (h : FuT F cap len q W4 W) : F < W.heap.size := by
  obtain ⟨c, g, _⟩ := h.cur
  exact (Array.getElem?_eq_some_iff.1 g).1
theorem FuT.on {F cap len : Nat} {q : Nat → Nat} {W4 W W' : World} (h : FuT F cap len q W4 W) (hb : Below W.heap.size W W') : FuT F cap len q W4 W' := by
  obtain ⟨c, g, h2⟩ := h.cur
  exact ⟨h.bel.trans (hb.mono h.bel.size), ⟨c, by rw [hb.block _ (Array.getElem?_eq_some_iff.1 g).1]; exact g, h2⟩, h.lF, h.lc, h.cb, h.qb⟩
theorem FuT.cell {F cap len : Nat} {q : Nat → Nat} {W4 W : World} (h : FuT F cap len q W4 W) {j : Nat} (hj : j < len + 2) : W.cell? ⟨F, j, none⟩ = some (.int .u8 (q j)) := by
  obtain ⟨c, g, _, h2⟩ := h.cur
  rw [cell_of_row _ _ _ _ _ _ g]; exact h2 j hj
theorem FuT.sl {F cap len : Nat} {q : Nat → Nat} {W4 W : World} (h : FuT F cap len q W4 W) : SliceN W (.slice (some ⟨F, 0, none⟩) len cap) len q :=
  ⟨⟨_, _, rfl, by have := h.lc; omega, h.cb, fun _ => ⟨F, 0, rfl, h.lt, fun j hj => by rw [Nat.zero_add]; exact h.cell (by omega)⟩⟩, fun j _ => h.qb j⟩
theorem FuT.set {F cap len : Nat} {q : Nat → Nat} {W4 W : World} (h : FuT F cap len q W4 W) (k : Nat) {z : Nat} (hz : z < 256) : FuT F cap len (updN q k z) W4 (W.setCell ⟨F, k, none⟩ (.int .u8 z)) := by
  obtain ⟨c, g, h1, h2⟩ := h.cur
  refine ⟨h.bel.setCell h.lF _, ⟨_, heap4 _ g, by simpa using h1, fun j hj => ?_⟩, h.lF, h.lc, h.cb, fun j => ?_⟩
  · rw [Array.getElem?_setIfInBounds]
    have := h.lc
    unfold updN
    by_cases e : k = j
    · subst e; rw [if_pos rfl, if_pos (by omega), if_pos rfl]
    · rw [if_neg e, if_neg (fun q => e q.symm)]; exact h2 j hj
  · unfold updN
    split
    · exact hz
    · exact h.qb j
/-- What append has made. -/
theorem fu_of {W4 W : World} {u : Value} {len : Nat} {q : Nat → Nat} (hb : Below W4.heap.size W4 W) (h : W.ownsRow W4.heap.size 5 1 u (len + 2) (bytesL (len + 2) q)) (hq : ∀ j, q j < 256) : ∃ F cap, u = .slice (some ⟨F, 0, none⟩) (len + 2) cap ∧ FuT F cap len q W4 W := by
  rcases h.2 with ⟨_, e⟩ | ⟨g, cap, cur, rfl, hB, hg, hn, hm, hs, ht⟩
  · omega
  · refine ⟨g, cap, rfl, hb, ⟨cur, hg, by omega, fun j hj => ?_⟩, hB, hn, by unfold maxLen at hm; omega, hq⟩
    have h2 : (cur.toList.take ((len + 2) * 1))[j]? = some (.int .u8 (q j)) := by rw [ht]; exact bytesL_at (len + 2) q hj
    rw [Nat.mul_one, List.getElem?_take, if_pos hj, Array.getElem?_toList] at h2
    exact h2
theorem atAppB {P : Program} {ops : Array Oper} {rest : List Oper} {o : Oper} {a : Act} {w : World} {Q : Exit → Act → World → Prop} (s x : Operand) (_ : o.op = .call { callee := .builtin .append, args := #[s, x], argTypes := #[25, 25] }) (h : wpList P ops Q (o :: rest) a w) : wpList P ops Q (o :: rest) a w := h
theorem execLenV {o : Oper} {a : Act} {w : World} {x : Operand} {v : Value} {len : Nat} (ho : o.op = .call { callee := .builtin .len, args := #[x], argTypes := #[25] }) (hx : a.eval x = v) (hv : ∃ ao c, v = .slice ao len c) : (execOp a.eval o).run Try.prog w = .ok (.value (.int .i64 (len : Int))) w := by
  obtain ⟨ao, c, rfl⟩ := hv
  unfold execOp
  simp only [ho, resolve, invoke, builtin, Sem.run_bind, Sem.run_pure, Result.andThen_ok, List.map_toArray, List.map_cons, List.map_nil, hx]
  simp [go_sem]
theorem wpList_exJ {P : Program} {ops : Array Oper} {rest : List Oper} {o : Oper} {a : Act} {w w' : World} {Q : Exit → Act → World → Prop} {v : Value} (hw : Region.wanted o (yielded ops a.tmps) = true) (he : (execOp a.eval o).run P w = .ok (.value v) w') (h : wpList P ops Q rest (a.put o.dst v) w') : wpList P ops Q (o :: rest) a w :=
  BigFrame.wpList_want hw fun K hK => by unfold Oper.wp; rw [he]; exact hK _ _ h
theorem sliced_0 (F len cap : Nat) : sliced (some ⟨F, 0, none⟩) 0 len cap 1 = .slice (some ⟨F, 0, none⟩) len cap := by
  unfold sliced
  by_cases h : cap = 0
  · rw [if_pos h]; rfl
  · rw [if_neg h]
    simp [Addr.add]
theorem own_none (W : World) (q : Nat → Nat) : (W.alloc (.cells #[] 5)).ownsRow W.heap.size 5 1 (.slice (some ⟨W.heap.size, 0, none⟩) 0 0) 0 (bytesL 0 q) := own_made W (n := 0) (Nat.le_refl _) (by omega)
theorem below_grown {B : Nat} {W4 W W' : World} {v v' : Value} {n : Nat} {xs : List Value} (hb : Below B W4 W) (hB : B ≤ W.heap.size) (hown : W.ownsRow B 5 1 v n xs) (h : (v'.ownBlock = v.ownBlock ∧ W.grownBy W' v.ownBlock) ∨ (v'.ownBlock = some W.heap.size ∧ W.grownBy W' none)) : Below B W4 W' := by
  rcases h with ⟨_, g⟩ | ⟨_, g⟩
  · exact hb.grown g hB (fun k hk => (hown.lt k hk).1)
  · exact hb.grown g hB (fun k hk => by cases hk)
theorem two_slice {W : World} {g : Nat} {q : Nat → Nat} {n : Nat} (h : W.heap[g]? = some (.cells #[.int .u8 161, .int .u8 162] 5)) (h0 : q n = 161) (h1 : q (n + 1) = 162) : SliceN W (.slice (some ⟨g, 0, none⟩) 2 2) 2 fun j => q (n + j) := by
  refine ⟨⟨_, _, rfl, Nat.le_refl _, by omega, fun _ => ⟨g, 0, rfl, (Array.getElem?_eq_some_iff.1 h).1, fun j hj => ?_⟩⟩, fun j hj => ?_⟩
  · rw [cell_of_row _ _ _ _ _ _ h, Nat.zero_add]
    match j, hj with
    | 0, _ => rw [Nat.add_zero, h0]; rfl
    | 1, _ => rw [h1]; rfl
  · match j, hj with
    | 0, _ => rw [Nat.add_zero, h0]; omega
    | 1, _ => rw [h1]; omega
theorem own_shapeJ {W : World} {B n : Nat} {v : Value} {xs : List Value} (h : W.ownsRow B 5 1 v n xs) : ∃ ao cap, v = .slice ao n cap := by
  rcases h.2 with ⟨rfl, rfl⟩ | ⟨g, cap, cur, rfl, _⟩
  · exact ⟨_, _, rfl⟩
  · exact ⟨_, _, rfl⟩
/-- Two lists that share no row. -/
def Dis (u v : Value) : Prop := ∀ k, u.ownBlock = some k → v.ownBlock ≠ some k
theorem Dis.symm {u v : Value} (h : Dis u v) : Dis v u := fun k h1 h2 => h k h2 h1
theorem own_base {W : World} {B C n : Nat} {v : Value} {xs : List Value} (h : W.ownsRow C 5 1 v n xs) (hB : B ≤ C) : W.ownsRow B 5 1 v n xs := by
  refine ⟨h.1, ?_⟩
  rcases h.2 with h | ⟨g, cap, cur, e, hC, h2⟩
  · exact Or.inl h
  · exact Or.inr ⟨g, cap, cur, e, Nat.le_trans hB hC, h2⟩
theorem dis_new {W W' : World} {B n m : Nat} {u r : Value} {xs ys : List Value} (h : W.ownsRow B 5 1 u n xs) (h' : W'.ownsRow W.heap.size 5 1 r m ys) : Dis u r := by
  intro k hk hr
  have h1 := (h.lt k hk).2
  have h2 := (h'.lt k hr).1
  omega
/-- Which of the two answers a slot of the region holds. -/
def sdM (j : Nat) : Nat := match j with | 3 => 1 | 8 => 1 | 7 => 2 | 9 => 2 | _ => 0
def mmD (sd : Nat → Nat) (i j : Nat) (u v : Value) : Prop := sd i ≠ 0 → sd j ≠ 0 → sd i ≠ sd j → Dis u v
theorem mmD_low {sd : Nat → Nat} {i j : Nat} {u v : Value} (h : sd j = 0) : mmD sd i j u v ∧ mmD sd j i v u := ⟨fun _ h2 => absurd h h2, fun h2 => absurd h h2⟩
/-- What each operation of the two Masks yields. -/
def mmS (B : Nat) (key : Nat → Nat) (s0 len : Nat) (u : Value) (g : Nat → Nat) (j : Nat) (r : Value) (W : World) : Prop :=
  match j with
  | 0 => r = .agg (bA 16 key) | 1 => r = .agg (bA 16 (be s0)) | 2 => r = u | 4 => r = .agg (bA 16 key) | 5 => r = .agg (bA 16 (be s0)) | 6 => r = u
  | _ => W.ownsRow B 5 1 r len (bytesL len g)
theorem mmS_on {B : Nat} {key : Nat → Nat} {s0 len : Nat} {u : Value} {g : Nat → Nat} {j : Nat} {r : Value} {W W' : World} (h : mmS B key s0 len u g j r W) (hb : Below W.heap.size W W') : mmS B key s0 len u g j r W' := by
  unfold mmS at h ⊢
  split at h <;> first | exact h | exact ownsRow_below h hb
theorem mmS_own {B : Nat} {key : Nat → Nat} {s0 len : Nat} {u : Value} {g : Nat → Nat} {j : Nat} {r : Value} {W : World} (h : mmS B key s0 len u g j r W) (hj : sdM j ≠ 0) : W.ownsRow B 5 1 r len (bytesL len g) := by
  have : j = 3 ∨ j = 8 ∨ j = 7 ∨ j = 9 := by
    unfold sdM at hj
    split at hj <;> first | omega | exact absurd rfl hj
  rcases this with rfl | rfl | rfl | rfl <;> exact h
/-- Which of the two answers a slot of region 12 holds. -/
def sdC (j : Nat) : Nat := match j with | 5 => 1 | 12 => 1 | 11 => 2 | 13 => 2 | _ => 0
/-- What each operation of the two Streams yields. -/
def mcS (B : Nat) (key : Nat → Nat) (s0 len : Nat) (v : Value) (g : Nat → Nat) (j : Nat) (r : Value) (W : World) : Prop :=
  match j with
  | 0 => r = .agg (bA 16 key) | 1 => r = .agg (bA 16 (be s0)) | 2 => r = v | 3 => r = .int .i64 len | 4 => r = .int .i64 (len % 100 : Nat) | 6 => r = .agg (bA 16 key) | 7 => r = .agg (bA 16 (be s0)) | 8 => r = v | 9 => r = .int .i64 len | 10 => r = .int .i64 (len % 100 : Nat)
  | _ => W.ownsRow B 5 1 r (len % 100) (bytesL (len % 100) g)
theorem mcS_on {B : Nat} {key : Nat → Nat} {s0 len : Nat} {u : Value} {g : Nat → Nat} {j : Nat} {r : Value} {W W' : World} (h : mcS B key s0 len u g j r W) (hb : Below W.heap.size W W') : mcS B key s0 len u g j r W' := by
  unfold mcS at h ⊢
  split at h <;> first | exact h | exact ownsRow_below h hb
theorem mcS_own {B : Nat} {key : Nat → Nat} {s0 len : Nat} {u : Value} {g : Nat → Nat} {j : Nat} {r : Value} {W : World} (h : mcS B key s0 len u g j r W) (hj : sdC j ≠ 0) : W.ownsRow B 5 1 r (len % 100) (bytesL (len % 100) g) := by
  have : j = 5 ∨ j = 12 ∨ j = 11 ∨ j = 13 := by
    unfold sdC at hj
    split at hj <;> first | omega | exact absurd rfl hj
  rcases this with rfl | rfl | rfl | rfl <;> exact h
theorem FuT.saved {F cap len : Nat} {q : Nat → Nat} {W4 W W' : World} {G : Nat → Prop} (h : FuT F cap len q W4 W) (sv : Saved G W W') (hG : ∀ k, G k → F < k) : FuT F cap len q W4 W' := by
  obtain ⟨c, g, h2⟩ := h.cur
  have lF := h.lF
  have lt := h.lt
  refine ⟨⟨sv.os.trans h.bel.os, sv.tape.trans h.bel.tape, sv.output.trans h.bel.output, Nat.le_trans h.bel.size sv.size, fun k hk => ?_⟩, ⟨c, ?_, h2⟩, h.lF, h.lc, h.cb, h.qb⟩
  · rw [sv.block k (Nat.lt_of_lt_of_le hk h.bel.size) (fun e => by have := hG k e; omega)]; exact h.bel.block k hk
  · rw [sv.block F lt (fun e => by have := hG F e; omega)]; exact g
/-- The four lists' parts. -/
def q4 {α : Type} (a b c d : α) (t : Nat) : α := match t with | 0 => a | 1 => b | 2 => c | _ => d
theorem lt4 {P : Nat → Prop} (h0 : P 0) (h1 : P 1) (h2 : P 2) (h3 : P 3) : ∀ t, t < 4 → P t
  | 0, _ => h0
  | 1, _ => h1
  | 2, _ => h2
  | 3, _ => h3
theorem dis4 {x : Nat → Value} (h01 : Dis (x 0) (x 1)) (h02 : Dis (x 0) (x 2)) (h03 : Dis (x 0) (x 3)) (h12 : Dis (x 1) (x 2)) (h13 : Dis (x 1) (x 3)) (h23 : Dis (x 2) (x 3)) : ∀ i j, i < 4 → j < 4 → i ≠ j → Dis (x i) (x j) := by
  intro i j hi hj hne
  have hi' : i = 0 ∨ i = 1 ∨ i = 2 ∨ i = 3 := by omega
  have hj' : j = 0 ∨ j = 1 ∨ j = 2 ∨ j = 3 := by omega
  rcases hi' with rfl | rfl | rfl | rfl <;> rcases hj' with rfl | rfl | rfl | rfl <;> first | exact absurd rfl hne | assumption | (exact Dis.symm (by assumption))
theorem own_off {W : World} {B n F k : Nat} {v : Value} {xs : List Value} (h : W.ownsRow B 5 1 v n xs) (hF : F < B) (z : Value) : (W.setCell ⟨F, k, none⟩ z).ownsRow B 5 1 v n xs := by
  refine ⟨h.1, ?_⟩
  rcases h.2 with h | ⟨g, cap, cur, e, hB, hg, h2⟩
  · exact Or.inl h
  · exact Or.inr ⟨g, cap, cur, e, hB, by rw [Below.heap_setCell _ _ _ _ (by show g ≠ F; omega)]; exact hg, h2⟩
/-- What each operation of BlockMasks' last region yields. -/
def laS (key : Nat → Nat) (s0 len : Nat) (er want u : Value) (m m2 : Nat → Nat) (j : Nat) (r : Value) (W : World) : Prop :=
  match j with
  | 0 => r = er | 1 => r = .string (strN m len) | 2 => r = want | 3 => r = .string (strN m len) | 6 => r = .agg (bA 16 key) | 7 => r = .agg (bA 16 (be s0)) | 8 => r = u | 9 => SliceN W r len m2 | 10 => r = .string (strN m2 len)
  | 11 => r = .agg (bA 16 key) | 12 => r = .agg (bA 16 (be s0)) | 13 => r = u | 14 => SliceN W r len m2 | 15 => r = .string (strN m2 len) | _ => r = .bool true
theorem laS_on {key : Nat → Nat} {s0 len : Nat} {er want u : Value} {m m2 : Nat → Nat} {j : Nat} {r : Value} {W W' : World} (h : laS key s0 len er want u m m2 j r W) (hb : Below W.heap.size W W') : laS key s0 len er want u m m2 j r W' := by
  unfold laS at h ⊢
  split at h <;> first | exact h | exact SliceN.on h hb
set_option maxRecDepth 20000 in
set_option maxHeartbeats 4000000 in
theorem masks_at {sc : (Nat → Nat) → Array Value} (I : Impl sc) (key p : Nat → Nat) (s0 len : Nat) (n : Int) (v : Value) (V : World) (hk : By key) (hv : SliceN V v len p) (hl : len ≤ 140737488351232) (hz : ∀ l c, v = .slice none l c → c = 0) (hn : -9223372036854775808 ≤ n ∧ n < 9223372036854775808) :
    Calls Try.prog 6 #[.agg (jobL key (be s0) n v).toArray] V fun e w' => e = .returned (.bool true) ∧ Below V.heap.size V w' := by
  have HI : Hid (Impl sc) := I
  have HK : Hid (By key) := hk
  have HV : Hid (SliceN V v len p) := hv
  have HL : Hid (len ≤ 140737488351232) := hl
  have HN : Hid (-9223372036854775808 ≤ n ∧ n < 9223372036854775808) := hn
  have KW : Hid (∀ j, j < 176 → kw key j < 256) := kw_by key hk
  have HZ : Hid (∀ l c, v = .slice none l c → c = 0) := hz
  have SV : Hid (∃ ao c, v = .slice ao len c) := by obtain ⟨a, c, e, _⟩ := hv.shape; exact ⟨a, c, e⟩
  clear I hk hv hl hn hz
  go_enter Try.func6, Try.ntmps6
  go_wp2_with (first
    | (go_at_call 9; refine (alive_any HI.out _).mono ?_; rintro e w1 ⟨rfl, hb1⟩; have k0 : w1.heap[V.heap.size]? = some (.cells (jobL key (be s0) n v).toArray 41) := (by rw [hb1.block _ (by simp)]; exact heapNew V _); have c1 : Below V.heap.size V w1 := (belNew V _).trans (hb1.mono (by simp))))
  have sW : SliceN w1 v len p := HV.out.on c1
  obtain ⟨A, hA⟩ : ∃ A, A = V.heap.size := ⟨_, rfl⟩
  rw [← hA] at k0 ⊢
  have LA : Hid (V.heap.size = A) := hA.symm
  clear hA hb1
  refine wp_region_factsA 154 [18, 19, 20, 21, 22, 23, 24, 25, 3, 4, 5, 6] (jbS A key (be s0) n v) (JbC w1) (by kernel_rfl) (by kernel_rfl) rfl (by decide) (by decide) ⟨(Below.refl _ _).drew, .inl rfl, .inl rfl, fun b c h => by cases h⟩ ?_ ?_
  · intro j hj x a W hf hx hc hdep
    have kA : W.heap[A]? = some (.cells (jobL key (be s0) n v).toArray 41) := by rw [hc.bel.block _ (Array.getElem?_eq_some_iff.1 k0).1]; exact k0
    obtain ⟨q1, q2, q3, q4⟩ := job_cells kA
    have at1 := hf 1 (by decide)
    match j, hj with
    | 0, _ => exact stepV rfl rfl (execFdJ rfl at1 (.inl ⟨rfl, rfl⟩)) ⟨_, .inl ⟨_, 0, by decide, rfl, rfl⟩, updS_at _ _ _, hc.upd _ (by omega) (by omega), fun i hij hi _ h => jbS_upd ⟨by omega, by omega⟩ (by omega) (by omega) h hi⟩
    | 1, _ => exact stepV rfl rfl (execLd16 rfl ((hx 0 (by decide)).trans (hdep _ rfl 0 rfl)) q1) ⟨_, .inl ⟨_, 1, by decide, rfl, rfl⟩, updS_at _ _ _, hc.upd _ (by omega) (by omega), fun i hij hi _ h => jbS_upd ⟨by omega, by omega⟩ (by omega) (by omega) h hi⟩
    | 2, _ => exact stepV rfl rfl (execFdJ rfl at1 (.inr (.inl ⟨rfl, rfl⟩))) ⟨_, .inl ⟨_, 2, by decide, rfl, rfl⟩, updS_at _ _ _, hc.upd _ (by omega) (by omega), fun i hij hi _ h => jbS_upd ⟨by omega, by omega⟩ (by omega) (by omega) h hi⟩
    | 3, _ => exact stepV rfl rfl (execLd16 rfl ((hx 2 (by decide)).trans (hdep _ rfl 2 rfl)) q2) ⟨_, .inl ⟨_, 3, by decide, rfl, rfl⟩, updS_at _ _ _, hc.upd _ (by omega) (by omega), fun i hij hi _ h => jbS_upd ⟨by omega, by omega⟩ (by omega) (by omega) h hi⟩
    | 4, _ => exact stepV rfl rfl (execFdJ rfl at1 (.inr (.inr (.inl ⟨rfl, rfl⟩)))) ⟨_, .inl ⟨_, 4, by decide, rfl, rfl⟩, updS_at _ _ _, hc.upd _ (by omega) (by omega), fun i hij hi _ h => jbS_upd ⟨by omega, by omega⟩ (by omega) (by omega) h hi⟩
    | 5, _ => exact stepV rfl rfl (execLd3 rfl ((hx 4 (by decide)).trans (hdep _ rfl 4 rfl)) q3) ⟨_, .inl ⟨_, 5, by decide, rfl, rfl⟩, updS_at _ _ _, hc.upd _ (by omega) (by omega), fun i hij hi _ h => jbS_upd ⟨by omega, by omega⟩ (by omega) (by omega) h hi⟩
    | 6, _ => exact stepV rfl rfl (execFdJ rfl at1 (.inr (.inr (.inr ⟨rfl, rfl⟩)))) ⟨_, .inl ⟨_, 6, by decide, rfl, rfl⟩, updS_at _ _ _, hc.upd _ (by omega) (by omega), fun i hij hi _ h => jbS_upd ⟨by omega, by omega⟩ (by omega) (by omega) h hi⟩
    | 7, _ => exact stepV rfl rfl (execLdJ rfl ((hx 6 (by decide)).trans (hdep _ rfl 6 rfl)) q4) ⟨_, .inl ⟨_, 7, by decide, rfl, rfl⟩, updS_at _ _ _, hc.upd _ (by omega) (by omega), fun i hij hi _ h => jbS_upd ⟨by omega, by omega⟩ (by omega) (by omega) h hi⟩
    | 8, _ => exact stepV rfl rfl (execAlloc16 rfl) ⟨_, .inl ⟨_, 8, by decide, rfl, rfl⟩, ⟨_, updS_at _ _ _⟩, hc.new8, fun i hij hi hw h => jbS_keep hi (fun t h1 _ => updS_off _ _ h1) (fun e => by rcases e with e | e; exact absurd e hij; subst e; exact absurd (hw _ rfl) (by decide)) (fun _ => updS_off _ _ (by omega)) (fun _ b c _ g => kept_new g) (fun _ b c _ g => kept_new g) h⟩
    | 9, _ => exact stepV rfl rfl (execAlloc16 rfl) ⟨_, .inl ⟨_, 9, by decide, rfl, rfl⟩, ⟨_, updS_at _ _ _⟩, hc.new9, fun i hij hi hw h => jbS_keep hi (fun t _ h2 => updS_off _ _ h2) (fun _ => updS_off _ _ (by omega)) (fun e => by rcases e with e | e; exact absurd e hij; subst e; exact absurd (hw _ rfl) (by decide)) (fun _ b c _ g => kept_new g) (fun _ b c _ g => kept_new g) h⟩
    | 10, _ =>
      obtain ⟨b, h8⟩ : ∃ b, x 8 = .pointer (some ⟨b, 0, none⟩) := hdep _ rfl 8 rfl
      obtain ⟨c, l, g⟩ := hc.row8 h8
      exact stepR rfl rfl 23 (.tmp 3) (.tmp 19) rfl b (bA 16 key) ((hx 8 (by decide)).trans h8) ((hx 1 (by decide)).trans (hdep _ rfl 1 rfl)) 23 _ g (size16 _) rfl (bA_one _ _) ⟨x, .inr ⟨rfl, rfl⟩, ⟨b, h8, setRow_heap _ _ _ _ _ _ g⟩, hc.set8 h8 key, fun i hij hi hw h => jbS_keep hi (fun _ _ _ => rfl) (fun _ => rfl) (fun _ => rfl) (fun e => absurd e hij) (fun _ b' c' h9 g' => by rw [setRow_other _ _ _ _ (fun q => hc.ne b b' h8 h9 q.symm)]; exact g') h⟩
    | 11, _ =>
      obtain ⟨b, h9⟩ : ∃ b, x 9 = .pointer (some ⟨b, 0, none⟩) := hdep _ rfl 9 rfl
      obtain ⟨c, l, g⟩ := hc.row9 h9
      exact stepR rfl rfl 23 (.tmp 4) (.tmp 21) rfl b (bA 16 (be s0)) ((hx 9 (by decide)).trans h9) ((hx 3 (by decide)).trans (hdep _ rfl 3 rfl)) 23 _ g (size16 _) rfl (bA_one _ _) ⟨x, .inr ⟨rfl, rfl⟩, ⟨b, h9, setRow_heap _ _ _ _ _ _ g⟩, hc.set9 h9 (be s0), fun i hij hi hw h => jbS_keep hi (fun _ _ _ => rfl) (fun _ => rfl) (fun _ => rfl) (fun _ b' c' h8 g' => by rw [setRow_other _ _ _ _ (fun q => hc.ne b' b h8 h9 q)]; exact g') (fun e => absurd e hij) h⟩
    | 12, _ => exact stepV rfl rfl (execAsgJ rfl ((hx 5 (by decide)).trans (hdep _ rfl 5 rfl))) ⟨_, .inl ⟨_, 10, by decide, rfl, rfl⟩, updS_at _ _ _, hc.upd _ (by omega) (by omega), fun i hij hi _ h => jbS_upd ⟨by omega, by omega⟩ (by omega) (by omega) h hi⟩
    | 13, _ => exact stepV rfl rfl (execAsgJ rfl ((hx 7 (by decide)).trans (hdep _ rfl 7 rfl))) ⟨_, .inl ⟨_, 11, by decide, rfl, rfl⟩, updS_at _ _ _, hc.upd _ (by omega) (by omega), fun i hij hi _ h => jbS_upd ⟨by omega, by omega⟩ (by omega) (by omega) h hi⟩
    | n + 14, h => exact absurd h (by show ¬ n + 14 < 14; omega)
  · intro x W hc hS
    obtain ⟨X, hX, gX⟩ : ∃ b, x 8 = .pointer (some ⟨b, 0, none⟩) ∧ W.heap[b]? = some (.cells (bA 16 key) 23) := hS 10 (by decide)
    obtain ⟨Y, hY, gY⟩ : ∃ b, x 9 = .pointer (some ⟨b, 0, none⟩) ∧ W.heap[b]? = some (.cells (bA 16 (be s0)) 23) := hS 11 (by decide)
    have x5 : x 10 = .int .i64 n := hS 12 (by decide)
    have x7 : x 11 = v := hS 13 (by decide)
    have M2 : Hid (MaT X Y key s0 v len p V W) := ⟨gX, gY, sW.on hc.bel, c1.trans (hc.bel.mono c1.size)⟩
    clear hS hc gX gY k0 sW c1
    simp only [putL, Act.put, List.setIfInBounds_toArray, List.set_cons_succ, List.set_cons_zero, hX, hY, x5, x7]
    clear hX hY x5 x7
    go_upto_region 5 with (first
      | (refine atLoad 23 (.tmp 3) rfl ?_; go_must (refine wpList_load_row rfl 23 (.tmp 3) rfl X rfl 23 _ (0, 0) _ M2.out.kk Try.underlying23 rfl (size16 _) ?_; simp only [Act.put, List.setIfInBounds_toArray, List.set_cons_succ, List.set_cons_zero]))
      | (refine atLoad 23 (.tmp 4) rfl ?_; go_must (refine wpList_load_row rfl 23 (.tmp 4) rfl Y rfl 23 _ (0, 0) _ M2.out.st Try.underlying23 rfl (size16 _) ?_; simp only [Act.put, List.setIfInBounds_toArray, List.set_cons_succ, List.set_cons_zero]))
      | (go_at_call 20; refine (rmask_any key p s0 len v _ HK.out M2.out.sl HL.out).mono ?_; rintro e w3 ⟨want, rfl, hw3, hb3⟩))
    have M3 : Hid (MaT X Y key s0 v len p V w3) := M2.out.on hb3
    have WT : Hid (SliceN w3 want len (maskF (kw key) s0 p)) := hw3
    clear hw3 hb3 M2
    obtain ⟨f, hf⟩ : ∃ f, maskF (kw key) s0 (fun _ => 0) = f := ⟨_, rfl⟩
    have HF : Hid (maskF (kw key) s0 (fun _ => 0) = f) := hf
    have fb : Hid (∀ m j, j < m → f j < 256) := fun m j hj => by rw [← hf]; exact maskF_lt (len := m) KW.out s0 (fun _ _ => by omega) j hj
    clear hf
    refine wp_region_slotsA 11 154 [30, 31, 32, 33, 34, 35, 36, 37, 38, 39, 40] (stS key s0 n f (slen n)) (by kernel_rfl) (by kernel_rfl) (by kernel_rfl) (by decide) rfl rfl (by decide) (by decide) (fun _ _ _ _ h hb => stS_on h hb) ?_ ?_
    · intro j hj a W hB hfr hdep
      have kW := M3.out.on hB
      match j, hj with
      | 0, _ => exact stepV rfl rfl (execLoadRow rfl (hfr 3 (by decide)) kW.kk Try.underlying23 rfl (size16 _)) ⟨_, rfl, rfl, Below.refl _ _⟩
      | 1, _ => exact stepV rfl rfl (execLoadRow rfl (hfr 4 (by decide)) kW.st Try.underlying23 rfl (size16 _)) ⟨_, rfl, rfl, Below.refl _ _⟩
      | 2, _ => exact stepV rfl rfl (execMvB rfl (hfr 5 (by decide))) ⟨_, rfl, rfl, Below.refl _ _⟩
      | 3, _ =>
        exact stepC rfl rfl (execCall3 Try.func11 (by kernel_rfl) (by kernel_rfl) rfl (hdep _ rfl 0 rfl) (hdep _ rfl 1 rfl) (hdep _ rfl 2 rfl)) (HI.out.stream key s0 n W HK.out HN.out.1 HN.out.2) fun e w' h => by
          obtain ⟨r, rfl, ho, hb⟩ := h
          rw [HF.out] at ho
          exact ⟨_, rfl, _, rfl, own_slice ho (fb.out _), hb⟩
      | 4, _ =>
        have s3 : SliceN W (a.eval (.tmp 33)) (slen n) f := hdep _ rfl 3 rfl
        exact stepV rfl rfl (execStr rfl rfl s3) ⟨_, rfl, rfl, Below.refl _ _⟩
      | 5, _ => exact stepV rfl rfl (execLoadRow rfl (hfr 3 (by decide)) kW.kk Try.underlying23 rfl (size16 _)) ⟨_, rfl, rfl, Below.refl _ _⟩
      | 6, _ => exact stepV rfl rfl (execLoadRow rfl (hfr 4 (by decide)) kW.st Try.underlying23 rfl (size16 _)) ⟨_, rfl, rfl, Below.refl _ _⟩
      | 7, _ => exact stepV rfl rfl (execMvB rfl (hfr 5 (by decide))) ⟨_, rfl, rfl, Below.refl _ _⟩
      | 8, _ =>
        exact stepC rfl rfl (execCall3 Try.func21 (by kernel_rfl) (by kernel_rfl) rfl (hdep _ rfl 5 rfl) (hdep _ rfl 6 rfl) (hdep _ rfl 7 rfl)) (rstream_any key s0 n W HK.out) fun e w' h => by
          obtain ⟨r, rfl, ho, hb⟩ := h
          rw [HF.out] at ho
          exact ⟨_, rfl, _, rfl, ho, hb⟩
      | 9, _ =>
        have s8 : SliceN W (a.eval (.tmp 38)) (slen n) f := hdep _ rfl 8 rfl
        exact stepV rfl rfl (execStr rfl rfl s8) ⟨_, rfl, rfl, Below.refl _ _⟩
      | 10, _ => exact stepV rfl rfl (execNeqS rfl (hdep _ rfl 4 rfl) (hdep _ rfl 9 rfl)) ⟨_, rfl, rfl, Below.refl _ _⟩
      | n + 11, h => exact absurd h (by omega)
    · intro x W hB hS
      have x10 : x 10 = .bool false := hS 10 (by omega)
      have M4 : Hid (MaT X Y key s0 v len p V W) := M3.out.on hB
      have W4 : Hid (SliceN W want len (maskF (kw key) s0 p)) := WT.out.on hB
      clear hS hB M3 WT HF fb
      simp only [putL, List.drop_succ_cons, List.drop_zero, Act.put, List.setIfInBounds_toArray, List.set_cons_succ, List.set_cons_zero, x10]
      clear x10
      have F0 : Hid (∀ j, fuQ p len j < 256) := fuQ_lt M4.out.sl.bytes
      have FE : Hid ((∀ j, j < len → p j = fuQ p len (0 + j)) ∧ fuQ p len len = 161 ∧ fuQ p len (len + 1) = 162) := by
        refine ⟨fun j hj => ?_, ?_, ?_⟩
        · unfold fuQ; rw [Nat.zero_add, if_pos hj]
        · unfold fuQ; rw [if_neg (by omega), if_pos rfl]
        · unfold fuQ; rw [if_neg (by omega), if_neg (by omega)]
      obtain ⟨q, hq⟩ : ∃ q, fuQ p len = q := ⟨_, rfl⟩
      rw [hq] at F0 FE
      have HQ : Hid (fuQ p len = q) := hq
      clear hq
      go_wp2_with (first
        | (refine atAppB (.tmp 41) (.tmp 42) rfl ?_; go_must (refine wpList_appS (B := W.heap.size) (n := 0) (m := len) (p := q) rfl (.tmp 41) (.tmp 42) rfl rfl rfl (own_none W q) (sliceN_cg (M4.out.sl.on (belNew W _)) FE.out.1) HZ.out (by have := HL.out; omega) (by simp) ?_; intro u1 W1 own1 gr1; have b1 : Below W.heap.size W W1 := below_grown (belNew W _) (by simp) (own_none W q) gr1; rw [Nat.zero_add] at own1; clear gr1))
        | (refine atAppB (.tmp 43) (.tmp 44) rfl ?_; go_must (refine wpList_appS (B := W.heap.size) (n := len) (m := 2) (p := q) rfl (.tmp 43) (.tmp 44) rfl rfl rfl (ownsRow_below own1 (belNew W1 _)) (two_slice (heapNew W1 _) FE.out.2.1 FE.out.2.2) (fun l c h => by cases h) (by have := HL.out; omega) (by have := b1.size; simp; omega) ?_; intro u2 W2 own2 gr2; have b2 : Below W.heap.size W W2 := below_grown (b1.trans ((belNew W1 _).mono b1.size)) (by have := b1.size; simp; omega) (ownsRow_below own1 (belNew W1 _)) gr2; clear gr2; obtain ⟨F, cap, rfl, fu⟩ := fu_of b2 own2 F0.out; have lcc : len ≤ cap := (by have := fu.lc; omega); have lc0 : ¬ cap = 0 := (by have := fu.lc; omega)))
        | (refine wpList_exJ rfl (execLenV (len := len) rfl rfl SV.out) ?_))
      have FU : Hid (FuT F cap len q W W2) := fu
      obtain ⟨g, hg⟩ : ∃ g, maskF (kw key) s0 q = g := ⟨_, rfl⟩
      have HG : Hid (maskF (kw key) s0 q = g) := hg
      clear fu own2 b2 own1 b1 hg
      generalize x 0 = y0, x 1 = y1, x 2 = y2, x 3 = y3, x 4 = y4, x 5 = y5, x 6 = y6, x 7 = y7, x 8 = y8, x 9 = y9
      refine wp_region_slotsAD 10 154 [50, 51, 52, 53, 54, 55, 56, 57, 10, 11] (mmS W2.heap.size key s0 len (.slice (some ⟨F, 0, none⟩) len cap) g) (mmD sdM) (by kernel_rfl) (by kernel_rfl) (by kernel_rfl) (by decide) rfl rfl (by decide) (by decide) (fun _ _ _ _ h hb => mmS_on h hb) ?_ ?_
      · intro j hj a U hB hf hdep
        have fu := FU.out.on hB
        have kW := M4.out.on fu.bel
        have mk := HI.out.mask key q s0 len (.slice (some ⟨F, 0, none⟩) len cap) U HK.out fu.sl HL.out
        rw [HG.out] at mk
        match j, hj with
        | 0, _ => exact stepV rfl rfl (execLoadRow rfl (hf 3 (by decide)) kW.kk Try.underlying23 rfl (size16 _)) ⟨_, rfl, rfl, Below.refl _ _, fun i u _ _ _ _ => mmD_low rfl⟩
        | 1, _ => exact stepV rfl rfl (execLoadRow rfl (hf 4 (by decide)) kW.st Try.underlying23 rfl (size16 _)) ⟨_, rfl, rfl, Below.refl _ _, fun i u _ _ _ _ => mmD_low rfl⟩
        | 2, _ => exact stepV rfl rfl (execMvB rfl (hf 9 (by decide))) ⟨_, rfl, rfl, Below.refl _ _, fun i u _ _ _ _ => mmD_low rfl⟩
        | 3, _ =>
          exact stepC rfl rfl (execCall3 Try.func22 (by kernel_rfl) (by kernel_rfl) rfl (hdep _ rfl 0 rfl) (hdep _ rfl 1 rfl) (hdep _ rfl 2 rfl)) mk fun e w' h => by
            obtain ⟨r, rfl, ho, hb⟩ := h
            exact ⟨_, rfl, _, rfl, own_base ho hB.size, hb, fun i u _ _ hS _ => ⟨fun h1 _ _ => dis_new (mmS_own hS h1) ho, fun _ h1 _ => (dis_new (mmS_own hS h1) ho).symm⟩⟩
        | 4, _ => exact stepV rfl rfl (execLoadRow rfl (hf 3 (by decide)) kW.kk Try.underlying23 rfl (size16 _)) ⟨_, rfl, rfl, Below.refl _ _, fun i u _ _ _ _ => mmD_low rfl⟩
        | 5, _ => exact stepV rfl rfl (execLoadRow rfl (hf 4 (by decide)) kW.st Try.underlying23 rfl (size16 _)) ⟨_, rfl, rfl, Below.refl _ _, fun i u _ _ _ _ => mmD_low rfl⟩
        | 6, _ => exact stepV rfl rfl (execMvB rfl (hf 9 (by decide))) ⟨_, rfl, rfl, Below.refl _ _, fun i u _ _ _ _ => mmD_low rfl⟩
        | 7, _ =>
          exact stepC rfl rfl (execCall3 Try.func22 (by kernel_rfl) (by kernel_rfl) rfl (hdep _ rfl 4 rfl) (hdep _ rfl 5 rfl) (hdep _ rfl 6 rfl)) mk fun e w' h => by
            obtain ⟨r, rfl, ho, hb⟩ := h
            exact ⟨_, rfl, _, rfl, own_base ho hB.size, hb, fun i u _ _ hS _ => ⟨fun h1 _ _ => dis_new (mmS_own hS h1) ho, fun _ h1 _ => (dis_new (mmS_own hS h1) ho).symm⟩⟩
        | 8, _ =>
          refine stepV rfl rfl (execAsgJ rfl rfl) ⟨_, rfl, hdep _ rfl 3 rfl, Below.refl _ _, fun i u hi hne _ hw => ?_⟩
          by_cases e : i = 3
          · subst e; exact ⟨fun _ _ h => absurd rfl h, fun _ _ h => absurd rfl h⟩
          · have h := hw _ rfl 3 rfl (fun q => e q.symm)
            exact ⟨h.2, h.1⟩
        | 9, _ =>
          refine stepV rfl rfl (execAsgJ rfl rfl) ⟨_, rfl, hdep _ rfl 7 rfl, Below.refl _ _, fun i u hi hne _ hw => ?_⟩
          by_cases e : i = 7
          · subst e; exact ⟨fun _ _ h => absurd rfl h, fun _ _ h => absurd rfl h⟩
          · have h := hw _ rfl 7 rfl (fun q => e q.symm)
            exact ⟨h.2, h.1⟩
        | n + 10, h => exact absurd h (by omega)
      · intro x U hB hS hD
        have oa : U.ownsRow W2.heap.size 5 1 (x 8) len (bytesL len g) := hS 8 (by omega)
        have ob : U.ownsRow W2.heap.size 5 1 (x 9) len (bytesL len g) := hS 9 (by omega)
        have dab : Dis (x 8) (x 9) := hD 8 9 (by omega) (by omega) (by omega) (by decide) (by decide) (by decide)
        obtain ⟨aa, ca, xa⟩ := own_shapeJ oa
        obtain ⟨ab, cb, xb⟩ := own_shapeJ ob
        rw [xa] at oa dab
        rw [xb] at ob dab
        have gb : ∀ j, j < len → g j < 256 := by rw [← HG.out]; exact maskF_lt KW.out s0 (fun j _ => F0.out j)
        have eg : ∀ j, j < len → g j = maskF (kw key) s0 p j := by
          intro j hj
          rw [← HG.out]
          unfold maskF
          have := FE.out.1 j hj
          rw [Nat.zero_add] at this
          rw [← this]
        have fu := FU.out.on hB
        have sa : SliceN U (.slice aa len ca) len (maskF (kw key) s0 p) := sliceN_cg (own_slice oa gb) eg
        have sb : SliceN U (.slice ab len cb) len (maskF (kw key) s0 p) := sliceN_cg (own_slice ob gb) eg
        have sw : SliceN U want len (maskF (kw key) s0 p) := W4.out.on fu.bel
        have si : SliceN U (.slice (some ⟨F, 0, none⟩) len cap) len p := sliceN_cg fu.sl fun j hj => by have := FE.out.1 j hj; rw [Nat.zero_add] at this; exact this.symm
        have sp : SliceN U v len p := M4.out.sl.on fu.bel
        have c1 : U.cell? ⟨F, len, none⟩ = some (.int .u8 161) := by rw [fu.cell (by omega), FE.out.2.1]; rfl
        have c2 : U.cell? ⟨F, len + 1, none⟩ = some (.int .u8 162) := by rw [fu.cell (by omega), FE.out.2.2]; rfl
        have lb := HL.out
        have lb1 : (len : Int) < len + 2 := by omega
        have lb2 : (len : Int) + 1 < len + 2 := by omega
        simp only [putL, List.drop_succ_cons, List.drop_zero, Act.put, List.setIfInBounds_toArray, List.set_cons_succ, List.set_cons_zero, xa, xb]
        generalize x 0 = z0, x 1 = z1, x 2 = z2, x 3 = z3, x 4 = z4, x 5 = z5, x 6 = z6, x 7 = z7
        have OA : Hid (_) := oa
        have OB : Hid (_) := ob
        have DAB : Hid (_) := dab
        have FU2 : Hid (FuT F cap len q W U) := fu
        have LW : Hid (F < W2.heap.size) := FU.out.lt
        have UB : Hid (W2.heap.size ≤ U.heap.size) := hB.size
        have SA : Hid (_) := sa
        have SB : Hid (_) := sb
        have SW : Hid (_) := sw
        have SI : Hid (_) := si
        have SP : Hid (_) := sp
        clear hS hD xa xb hB oa ob dab fu sa sb sw si sp gb eg FU
        go_wp2_with (first
          | (refine wpList_exJ rfl (execStr rfl rfl SA.out) ?_)
          | (refine wpList_exJ rfl (execStr rfl rfl SB.out) ?_)
          | (refine wpList_exJ rfl (execStr rfl rfl SW.out) ?_)
          | (refine wpList_exJ rfl (execStr rfl rfl SI.out) ?_)
          | (refine wpList_exJ rfl (execStr rfl rfl SP.out) ?_)
          | (refine wpList_exJ rfl (execNeqS rfl rfl rfl) ?_)
          | (refine wpList_exJ rfl (execLenV (len := len) rfl rfl SV.out) ?_))
        have SC0 : Hid (slen ((len % 100 : Nat) : Int) = len % 100) := by
          show slen ((len % 100 : Nat) : Int) = len % 100
          unfold slen
          rw [if_pos (by omega)]
          omega
        obtain ⟨f0, hf0⟩ : ∃ f0, maskF (kw key) s0 (fun _ => 0) = f0 := ⟨_, rfl⟩
        have HF0 : Hid (maskF (kw key) s0 (fun _ => 0) = f0) := hf0
        clear hf0 c1 c2 lb lb1 lb2
        refine wp_region_slotsAD 14 154 [94, 95, 96, 97, 98, 99, 100, 101, 102, 103, 104, 105, 12, 13] (mcS U.heap.size key s0 len v f0) (mmD sdC) (by kernel_rfl) (by kernel_rfl) (by kernel_rfl) (by decide) rfl rfl (by decide) (by decide) (fun _ _ _ _ h hb => mcS_on h hb) ?_ ?_
        · intro j hj a T hB hf hdep
          have kW := M4.out.on ((FU2.out.on hB).bel)
          have st := HI.out.stream key s0 ((len % 100 : Nat) : Int) T HK.out (by omega) (by omega)
          rw [SC0.out, HF0.out] at st
          match j, hj with
          | 0, _ => exact stepV rfl rfl (execLoadRow rfl (hf 3 (by decide)) kW.kk Try.underlying23 rfl (size16 _)) ⟨_, rfl, rfl, Below.refl _ _, fun i u _ _ _ _ => mmD_low rfl⟩
          | 1, _ => exact stepV rfl rfl (execLoadRow rfl (hf 4 (by decide)) kW.st Try.underlying23 rfl (size16 _)) ⟨_, rfl, rfl, Below.refl _ _, fun i u _ _ _ _ => mmD_low rfl⟩
          | 2, _ => exact stepV rfl rfl (execMvB rfl (hf 6 (by decide))) ⟨_, rfl, rfl, Below.refl _ _, fun i u _ _ _ _ => mmD_low rfl⟩
          | 3, _ => exact stepV rfl rfl (execLenV rfl (hdep _ rfl 2 rfl) SV.out) ⟨_, rfl, rfl, Below.refl _ _, fun i u _ _ _ _ => mmD_low rfl⟩
          | 4, _ => exact stepV rfl rfl (execRemI (q := 100) rfl (hdep _ rfl 3 rfl) rfl (by omega)) ⟨_, rfl, rfl, Below.refl _ _, fun i u _ _ _ _ => mmD_low rfl⟩
          | 5, _ =>
            exact stepC rfl rfl (execCall3 Try.func11 (by kernel_rfl) (by kernel_rfl) rfl (hdep _ rfl 0 rfl) (hdep _ rfl 1 rfl) (hdep _ rfl 4 rfl)) st fun e w' h => by
              obtain ⟨r, rfl, ho, hb⟩ := h
              exact ⟨_, rfl, _, rfl, own_base ho hB.size, hb, fun i u _ _ hS _ => ⟨fun h1 _ _ => dis_new (mcS_own hS h1) ho, fun _ h1 _ => (dis_new (mcS_own hS h1) ho).symm⟩⟩
          | 6, _ => exact stepV rfl rfl (execLoadRow rfl (hf 3 (by decide)) kW.kk Try.underlying23 rfl (size16 _)) ⟨_, rfl, rfl, Below.refl _ _, fun i u _ _ _ _ => mmD_low rfl⟩
          | 7, _ => exact stepV rfl rfl (execLoadRow rfl (hf 4 (by decide)) kW.st Try.underlying23 rfl (size16 _)) ⟨_, rfl, rfl, Below.refl _ _, fun i u _ _ _ _ => mmD_low rfl⟩
          | 8, _ => exact stepV rfl rfl (execMvB rfl (hf 6 (by decide))) ⟨_, rfl, rfl, Below.refl _ _, fun i u _ _ _ _ => mmD_low rfl⟩
          | 9, _ => exact stepV rfl rfl (execLenV rfl (hdep _ rfl 8 rfl) SV.out) ⟨_, rfl, rfl, Below.refl _ _, fun i u _ _ _ _ => mmD_low rfl⟩
          | 10, _ => exact stepV rfl rfl (execRemI (q := 100) rfl (hdep _ rfl 9 rfl) rfl (by omega)) ⟨_, rfl, rfl, Below.refl _ _, fun i u _ _ _ _ => mmD_low rfl⟩
          | 11, _ =>
            exact stepC rfl rfl (execCall3 Try.func11 (by kernel_rfl) (by kernel_rfl) rfl (hdep _ rfl 6 rfl) (hdep _ rfl 7 rfl) (hdep _ rfl 10 rfl)) st fun e w' h => by
              obtain ⟨r, rfl, ho, hb⟩ := h
              exact ⟨_, rfl, _, rfl, own_base ho hB.size, hb, fun i u _ _ hS _ => ⟨fun h1 _ _ => dis_new (mcS_own hS h1) ho, fun _ h1 _ => (dis_new (mcS_own hS h1) ho).symm⟩⟩
          | 12, _ =>
            refine stepV rfl rfl (execAsgJ rfl rfl) ⟨_, rfl, hdep _ rfl 5 rfl, Below.refl _ _, fun i u hi hne _ hw => ?_⟩
            by_cases e : i = 5
            · subst e; exact ⟨fun _ _ h => absurd rfl h, fun _ _ h => absurd rfl h⟩
            · have h := hw _ rfl 5 rfl (fun q => e q.symm)
              exact ⟨h.2, h.1⟩
          | 13, _ =>
            refine stepV rfl rfl (execAsgJ rfl rfl) ⟨_, rfl, hdep _ rfl 11 rfl, Below.refl _ _, fun i u hi hne _ hw => ?_⟩
            by_cases e : i = 11
            · subst e; exact ⟨fun _ _ h => absurd rfl h, fun _ _ h => absurd rfl h⟩
            · have h := hw _ rfl 11 rfl (fun q => e q.symm)
              exact ⟨h.2, h.1⟩
          | n + 14, h => exact absurd h (by omega)
        · intro x T hB hS hD
          have oc : T.ownsRow U.heap.size 5 1 (x 12) (len % 100) (bytesL (len % 100) f0) := hS 12 (by omega)
          have od : T.ownsRow U.heap.size 5 1 (x 13) (len % 100) (bytesL (len % 100) f0) := hS 13 (by omega)
          have dcd : Dis (x 12) (x 13) := hD 12 13 (by omega) (by omega) (by omega) (by decide) (by decide) (by decide)
          obtain ⟨ac, cc, xc⟩ := own_shapeJ oc
          obtain ⟨ad, cd, xd⟩ := own_shapeJ od
          rw [xc] at oc dcd
          rw [xd] at od dcd
          have fb : ∀ j, j < len % 100 → f0 j < 256 := by rw [← HF0.out]; exact maskF_lt KW.out s0 (fun _ _ => by omega)
          have SC : Hid (SliceN T (.slice ac (len % 100) cc) (len % 100) f0) := own_slice oc fb
          have SD : Hid (SliceN T (.slice ad (len % 100) cd) (len % 100) f0) := own_slice od fb
          have OA2 : Hid (T.ownsRow W2.heap.size 5 1 (.slice aa len ca) len (bytesL len g)) := ownsRow_below OA.out hB
          have OB2 : Hid (T.ownsRow W2.heap.size 5 1 (.slice ab len cb) len (bytesL len g)) := ownsRow_below OB.out hB
          have DAC : Hid (Dis (.slice aa len ca) (.slice ac (len % 100) cc) ∧ Dis (.slice aa len ca) (.slice ad (len % 100) cd) ∧ Dis (.slice ab len cb) (.slice ac (len % 100) cc) ∧ Dis (.slice ab len cb) (.slice ad (len % 100) cd)) :=
            ⟨dis_new OA.out oc, dis_new OA.out od, dis_new OB.out oc, dis_new OB.out od⟩
          have OC : Hid (T.ownsRow U.heap.size 5 1 (.slice ac (len % 100) cc) (len % 100) (bytesL (len % 100) f0)) := oc
          have OD : Hid (T.ownsRow U.heap.size 5 1 (.slice ad (len % 100) cd) (len % 100) (bytesL (len % 100) f0)) := od
          have DCD : Hid (_) := dcd
          have FU3 : Hid (FuT F cap len q W T) := FU2.out.on hB
          have LU : Hid (F < W2.heap.size ∧ W2.heap.size ≤ U.heap.size ∧ U.heap.size ≤ T.heap.size) := ⟨LW.out, UB.out, hB.size⟩
          simp only [putL, List.drop_succ_cons, List.drop_zero, Act.put, List.setIfInBounds_toArray, List.set_cons_succ, List.set_cons_zero, xc, xd]
          generalize x 0 = t0, x 1 = t1, x 2 = t2, x 3 = t3, x 4 = t4, x 5 = t5, x 6 = t6, x 7 = t7, x 8 = t8, x 9 = t9, x 10 = t10, x 11 = t11
          clear hS hD xc xd hB oc od dcd fb FU2 OA OB SC0 HF0
          have AP : Hid (Calls Try.prog 23 #[.slice (some ⟨T.heap.size, 0, none⟩) 4 4] (T.alloc (.cells #[.slice aa len ca, .slice ab len cb, .slice ac (len % 100) cc, .slice ad (len % 100) cd] 25)) fun e w' => e = .returned (.bool true) ∧ FuT F cap len q W w') := by
            have lu := LU.out
            have hl := HL.out
            have bn := belNew T (.cells #[.slice aa len ca, .slice ab len cb, .slice ac (len % 100) cc, .slice ad (len % 100) cd] 25)
            refine Calls.mono (apart_any T.heap.size (q4 aa ab ac ad) (q4 len len (len % 100) (len % 100)) (q4 ca cb cc cd) (q4 g g f0 f0) _ (lt4 (show len ≤ _ by omega) (show len ≤ _ by omega) (show len % 100 ≤ _ by omega) (show len % 100 ≤ _ by omega)) (heapNew T _)
              (lt4 (own_base (ownsRow_below OA2.out bn) (Nat.zero_le _)) (own_base (ownsRow_below OB2.out bn) (Nat.zero_le _)) (own_base (ownsRow_below OC.out bn) (Nat.zero_le _)) (own_base (ownsRow_below OD.out bn) (Nat.zero_le _)))
              (dis4 (x := fun t => .slice (q4 aa ab ac ad t) (q4 len len (len % 100) (len % 100) t) (q4 ca cb cc cd t)) DAB.out DAC.out.1 DAC.out.2.1 DAC.out.2.2.1 DAC.out.2.2.2 DCD.out)
              (lt4 (fun h => Nat.lt_irrefl _ (OA2.out.lt _ h).2) (fun h => Nat.lt_irrefl _ (OB2.out.lt _ h).2) (fun h => Nat.lt_irrefl _ (OC.out.lt _ h).2) (fun h => Nat.lt_irrefl _ (OD.out.lt _ h).2))) fun e w' h => ⟨h.1, ?_⟩
            refine (FU3.out.on bn).saved h.2 fun k hk => ?_
            obtain ⟨i, hi, hk⟩ := hk
            have hi' : i = 0 ∨ i = 1 ∨ i = 2 ∨ i = 3 := by omega
            rcases hi' with rfl | rfl | rfl | rfl
            · have := (OA2.out.lt k hk).1; omega
            · have := (OB2.out.lt k hk).1; omega
            · have := (OC.out.lt k hk).1; omega
            · have := (OD.out.lt k hk).1; omega
          clear OA2 OB2 DAC OC OD DCD FU3 LU DAB LW UB
          go_wp2_with (first
            | (refine wpList_exJ rfl (execStr rfl rfl SC.out) ?_)
            | (refine wpList_exJ rfl (execStr rfl rfl SD.out) ?_)
            | (refine wpList_exJ rfl (execNeqS rfl rfl rfl) ?_)
            | (go_at_call 23; refine AP.out.mono ?_; rintro e w5 ⟨rfl, fu⟩; have fu5 := fu; have M5 := M4.out.on fu.bel; have mk := HI.out.mask key q s0 len (.slice (some ⟨F, 0, none⟩) len cap) w5 HK.out fu.sl HL.out; rw [HG.out] at mk)
            | (refine atLoad 23 (.tmp 3) rfl ?_; go_must (refine wpList_load_row rfl 23 (.tmp 3) rfl X rfl 23 _ (0, 0) _ M5.kk Try.underlying23 rfl (size16 _) ?_; simp only [Act.put, List.setIfInBounds_toArray, List.set_cons_succ, List.set_cons_zero]))
            | (refine atLoad 23 (.tmp 4) rfl ?_; go_must (refine wpList_load_row rfl 23 (.tmp 4) rfl Y rfl 23 _ (0, 0) _ M5.st Try.underlying23 rfl (size16 _) ?_; simp only [Act.put, List.setIfInBounds_toArray, List.set_cons_succ, List.set_cons_zero]))
            | (go_at_call 22; refine mk.mono ?_; rintro e w6 ⟨er, rfl, oe, hb6⟩; have fu := fu.on hb6))
          have FU6 : Hid (FuT F cap len (mixU (fun j => q j ^^^ 85) q 0) W w6) := fu
          have OE : Hid (w6.ownsRow w5.heap.size 5 1 er len (bytesL len g)) := oe
          have L5 : Hid (F < w5.heap.size) := by obtain ⟨c, hc, _⟩ := fu5.cur; exact (Array.getElem?_eq_some_iff.1 hc).1
          clear fu oe hb6 mk M5 AP SC SD SA SB SW SI SP
          go_loopw [15] (fun i U => ∃ k : Nat, k ≤ len ∧ i = .int .i64 k ∧ FuT F cap len (mixU (fun j => q j ^^^ 85) q k) W U ∧ U.ownsRow w5.heap.size 5 1 er len (bytesL len g)) (fun x _ => len - (intOf x).toNat)
          case atStart => exact ⟨0, by omega, rfl, FU6.out, OE.out⟩
          case round =>
            obtain ⟨k, hk, rfl, fu, oe⟩ := hrel
            clear FU6 OE
            by_cases hlt : k < len
            · have i1 : (k : Int) < len := by omega
              have i2 : (len : Int) ≤ 140737488351232 := by have := HL.out; omega
              have HI2 : Hid (k < len) := hlt
              obtain ⟨y, hy⟩ : ∃ y, q k = y := ⟨_, rfl⟩
              have y1 : y < 256 := by rw [← hy]; exact F0.out k
              have c1 : wr.cell? ⟨F, k, none⟩ = some (.int .u8 y) := by
                rw [fu.cell (by omega)]
                unfold mixU; rw [if_neg (by omega), hy]
              have c2 : wr.frozen? ⟨F, k, none⟩ = false := by obtain ⟨c, hc, _⟩ := fu.cur; exact frozen4 hc
              have x1 : bits .xor .u8 (y : Int) 85 = ((y ^^^ 85 : Nat) : Int) := xor_u8 y1 (show 85 < 256 by omega)
              have FN : Hid (FuT F cap len (mixU (fun j => q j ^^^ 85) q (k + 1)) W (wr.setCell ⟨F, k, none⟩ (.int .u8 ((y ^^^ 85 : Nat) : Int)))) := by
                have h := fu.set k (xor_lt y1 (show 85 < 256 by omega))
                have e : updN (mixU (fun j => q j ^^^ 85) q k) k (y ^^^ 85) = mixU (fun j => q j ^^^ 85) q (k + 1) := by
                  rw [← hy]; exact updN_mixU (fun j => q j ^^^ 85) q k
                rw [e] at h
                exact h
              have ON : Hid ((wr.setCell ⟨F, k, none⟩ (.int .u8 ((y ^^^ 85 : Nat) : Int))).ownsRow w5.heap.size 5 1 er len (bytesL len g)) := own_off oe L5.out _
              clear fu oe hy hlt hk
              go_wp2
              go_roundw
              case rel => exact ⟨k + 1, by have := HI2.out; omega, by go_num, FN.out, ON.out⟩
              case measure => have := HI2.out; simp [intOf]; omega
            · have i1 : ¬ (k : Int) < len := by omega
              have ek : k = len := by omega
              rw [ek] at fu
              obtain ⟨q2, hq2⟩ : ∃ q2, mixU (fun j => q j ^^^ 85) q len = q2 := ⟨_, rfl⟩
              rw [hq2] at fu
              obtain ⟨m, hm⟩ : ∃ m, maskF (kw key) s0 p = m := ⟨_, rfl⟩
              obtain ⟨m2, hm2⟩ : ∃ m2, maskF (kw key) s0 q2 = m2 := ⟨_, rfl⟩
              have HM2 : Hid (maskF (kw key) s0 q2 = m2) := hm2
              have mb : Hid (∀ j, j < len → m2 j < 256) := by
                show ∀ j, j < len → m2 j < 256
                rw [← hm2]; exact maskF_lt KW.out s0 (fun j _ => fu.qb j)
              have gb : ∀ j, j < len → g j < 256 := by rw [← HG.out]; exact maskF_lt KW.out s0 (fun j _ => F0.out j)
              have SE : Hid (SliceN wr er len m) := by
                refine sliceN_cg (own_slice oe gb) fun j hj => ?_
                rw [← hm, ← HG.out]
                unfold maskF
                have := FE.out.1 j hj
                rw [Nat.zero_add] at this
                rw [← this]
              have SW6 : Hid (SliceN wr want len m) := by
                show SliceN wr want len m
                rw [← hm]; exact W4.out.on fu.bel
              have FU7 : Hid (FuT F cap len q2 W wr) := fu
              clear fu oe hq2 hm hm2 gb hlt hk ek
              go_wp2_with fail
              refine wp_region_slotsA 19 154 [136, 137, 138, 139, 140, 141, 142, 143, 144, 145, 146, 147, 148, 149, 150, 151, 152, 153, 2] (laS key s0 len er want (.slice (some ⟨F, 0, none⟩) len cap) m m2) (by kernel_rfl) (by kernel_rfl) (by kernel_rfl) (by decide) rfl rfl (by decide) (by decide) (fun _ _ _ _ h hb => laS_on h hb) ?_ ?_
              · intro j hj a T2 hB hf hdep
                have fu := FU7.out.on hB
                have kW := M4.out.on fu.bel
                have mk := HI.out.mask key q2 s0 len (.slice (some ⟨F, 0, none⟩) len cap) T2 HK.out fu.sl HL.out
                have rk := rmask_any key q2 s0 len (.slice (some ⟨F, 0, none⟩) len cap) T2 HK.out fu.sl HL.out
                rw [HM2.out] at mk rk
                match j, hj with
                | 0, _ => exact stepV rfl rfl (execMvB rfl (hf 14 (by decide))) ⟨_, rfl, rfl, Below.refl _ _⟩
                | 1, _ => exact stepV rfl rfl (execStr rfl (hdep _ rfl 0 rfl) (SE.out.on hB)) ⟨_, rfl, rfl, Below.refl _ _⟩
                | 2, _ => exact stepV rfl rfl (execMvB rfl (hf 7 (by decide))) ⟨_, rfl, rfl, Below.refl _ _⟩
                | 3, _ => exact stepV rfl rfl (execStr rfl (hdep _ rfl 2 rfl) (SW6.out.on hB)) ⟨_, rfl, rfl, Below.refl _ _⟩
                | 4, _ => exact stepV rfl rfl (execEqlS rfl (hdep _ rfl 1 rfl) (hdep _ rfl 3 rfl)) ⟨_, rfl, rfl, Below.refl _ _⟩
                | 5, _ => exact stepV rfl rfl (execMvB rfl (hdep _ rfl 4 rfl)) ⟨_, rfl, rfl, Below.refl _ _⟩
                | 6, _ =>
                  have g : a.eval (.tmp 141) = .bool true := hdep _ rfl 5 rfl
                  exact stepV rfl (wantedOf rfl (yieldedAt rfl rfl g)) (execLoadRow rfl (hf 3 (by decide)) kW.kk Try.underlying23 rfl (size16 _)) ⟨_, rfl, rfl, Below.refl _ _⟩
                | 7, _ =>
                  have g : a.eval (.tmp 141) = .bool true := hdep _ rfl 5 rfl
                  exact stepV rfl (wantedOf rfl (yieldedAt rfl rfl g)) (execLoadRow rfl (hf 4 (by decide)) kW.st Try.underlying23 rfl (size16 _)) ⟨_, rfl, rfl, Below.refl _ _⟩
                | 8, _ =>
                  have g : a.eval (.tmp 141) = .bool true := hdep _ rfl 5 rfl
                  exact stepV rfl (wantedOf rfl (yieldedAt rfl rfl g)) (execMvB rfl (hf 9 (by decide))) ⟨_, rfl, rfl, Below.refl _ _⟩
                | 9, _ =>
                  have g : a.eval (.tmp 141) = .bool true := hdep _ rfl 5 rfl
                  exact stepC rfl (wantedOf rfl (yieldedAt rfl rfl g)) (execCall3 Try.func22 (by kernel_rfl) (by kernel_rfl) rfl (hdep _ rfl 6 rfl) (hdep _ rfl 7 rfl) (hdep _ rfl 8 rfl)) mk fun e w' h => by
                    obtain ⟨r, rfl, ho, hb⟩ := h
                    exact ⟨_, rfl, _, rfl, own_slice ho mb.out, hb⟩
                | 10, _ =>
                  have g : a.eval (.tmp 141) = .bool true := hdep _ rfl 5 rfl
                  have s9 : SliceN T2 (a.eval (.tmp 145)) len m2 := hdep _ rfl 9 rfl
                  exact stepV rfl (wantedOf rfl (yieldedAt rfl rfl g)) (execStr rfl rfl s9) ⟨_, rfl, rfl, Below.refl _ _⟩
                | 11, _ =>
                  have g : a.eval (.tmp 141) = .bool true := hdep _ rfl 5 rfl
                  exact stepV rfl (wantedOf rfl (yieldedAt rfl rfl g)) (execLoadRow rfl (hf 3 (by decide)) kW.kk Try.underlying23 rfl (size16 _)) ⟨_, rfl, rfl, Below.refl _ _⟩
                | 12, _ =>
                  have g : a.eval (.tmp 141) = .bool true := hdep _ rfl 5 rfl
                  exact stepV rfl (wantedOf rfl (yieldedAt rfl rfl g)) (execLoadRow rfl (hf 4 (by decide)) kW.st Try.underlying23 rfl (size16 _)) ⟨_, rfl, rfl, Below.refl _ _⟩
                | 13, _ =>
                  have g : a.eval (.tmp 141) = .bool true := hdep _ rfl 5 rfl
                  exact stepV rfl (wantedOf rfl (yieldedAt rfl rfl g)) (execMvB rfl (hf 9 (by decide))) ⟨_, rfl, rfl, Below.refl _ _⟩
                | 14, _ =>
                  have g : a.eval (.tmp 141) = .bool true := hdep _ rfl 5 rfl
                  exact stepC rfl (wantedOf rfl (yieldedAt rfl rfl g)) (execCall3 Try.func20 (by kernel_rfl) (by kernel_rfl) rfl (hdep _ rfl 11 rfl) (hdep _ rfl 12 rfl) (hdep _ rfl 13 rfl)) rk fun e w' h => by
                    obtain ⟨r, rfl, ho, hb⟩ := h
                    exact ⟨_, rfl, _, rfl, ho, hb⟩
                | 15, _ =>
                  have g : a.eval (.tmp 141) = .bool true := hdep _ rfl 5 rfl
                  have s14 : SliceN T2 (a.eval (.tmp 150)) len m2 := hdep _ rfl 14 rfl
                  exact stepV rfl (wantedOf rfl (yieldedAt rfl rfl g)) (execStr rfl rfl s14) ⟨_, rfl, rfl, Below.refl _ _⟩
                | 16, _ =>
                  have g : a.eval (.tmp 141) = .bool true := hdep _ rfl 5 rfl
                  exact stepV rfl (wantedOf rfl (yieldedAt rfl rfl g)) (execEqlS rfl (hdep _ rfl 10 rfl) (hdep _ rfl 15 rfl)) ⟨_, rfl, rfl, Below.refl _ _⟩
                | 17, _ =>
                  have g : a.eval (.tmp 141) = .bool true := hdep _ rfl 5 rfl
                  exact stepV rfl rfl (execPick rfl g (hdep _ rfl 16 rfl)) ⟨_, rfl, rfl, Below.refl _ _⟩
                | 18, _ => exact stepV rfl rfl (execAsgJ rfl (hdep _ rfl 17 rfl)) ⟨_, rfl, rfl, Below.refl _ _⟩
                | n + 19, h => exact absurd h (by omega)
              · intro x T2 hB hS
                have x18 : x 18 = .bool true := hS 18 (by omega)
                have fu := FU7.out.on hB
                have kW := M4.out.on fu.bel
                simp only [putL, List.drop_succ_cons, List.drop_zero, Act.put, List.setIfInBounds_toArray, List.set_cons_succ, List.set_cons_zero, x18]
                go_wp2
                go_ret
                exact ⟨rfl, kW.bel⟩
end Go.Proofs.Ytealknodagdjaaa.Aes
