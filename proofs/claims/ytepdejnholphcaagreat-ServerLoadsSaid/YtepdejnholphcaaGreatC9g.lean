import Derived.Test.YtepdejnholphcaaGreatC9f
namespace Go.Proofs.YtepdejnholphcaaGreat.Win
open Go.RowKit Gf8 Aes By8 Cel Cf
/- Two lists in order made one; halves; what the reference's sorted needs. Written by tools/mkC9g.py. -/

/-- Two lists in order, gone through side by side. -/
structure MG (A B : Nat → Nat) (ma mb i j : Nat) (o : List Nat) : Prop where
  inc : Inc o
  mem : ∀ x, x ∈ o ↔ (∃ k, k < i ∧ A k = x) ∨ (∃ k, k < j ∧ B k = x)
  la : i < ma → ∀ x ∈ o, x < A i
  lb : j < mb → ∀ x ∈ o, x < B j
section
variable {A B : Nat → Nat} {ma mb i j : Nat} {o : List Nat}
theorem inc_snoc {x : Nat} (h : Inc o) (hx : ∀ y ∈ o, y < x) : Inc (o ++ [x]) := List.pairwise_append.2 ⟨h, List.pairwise_singleton _ _, fun a ha b hb => by rw [List.mem_singleton] at hb; rw [hb]; exact hx a ha⟩
theorem ex_succ {f : Nat → Nat} {x n : Nat} : (∃ k, k < n + 1 ∧ f k = x) ↔ (∃ k, k < n ∧ f k = x) ∨ f n = x := by
  constructor
  · rintro ⟨k, h, e⟩
    by_cases q : k = n
    · subst q; exact Or.inr e
    · exact Or.inl ⟨k, by omega, e⟩
  · rintro (⟨k, h, e⟩ | e)
    · exact ⟨k, by omega, e⟩
    · exact ⟨n, by omega, e⟩
theorem mg_begin : MG A B ma mb 0 0 [] := ⟨Inc.nil, fun x => by simp, fun _ x hx => (List.not_mem_nil hx).elim, fun _ x hx => (List.not_mem_nil hx).elim⟩
theorem MG.takeA (h : MG A B ma mb i j o) (hA : ∀ k, k + 1 < ma → A k < A (k + 1)) (hi : i < ma) (hj : j < mb → A i < B j) : MG A B ma mb (i + 1) j (o ++ [A i]) := by
  refine ⟨inc_snoc h.inc (h.la hi), fun x => ?_, fun q x hx => ?_, fun q x hx => ?_⟩
  · rw [List.mem_append, List.mem_singleton, h.mem x, ex_succ]
    constructor
    · rintro ((h | h) | h)
      · exact Or.inl (Or.inl h)
      · exact Or.inr h
      · exact Or.inl (Or.inr h.symm)
    · rintro ((h | h) | h)
      · exact Or.inl (Or.inl h)
      · exact Or.inr h.symm
      · exact Or.inl (Or.inr h)
  · rcases List.mem_append.1 hx with h1 | h1
    · have := h.la hi x h1
      have := hA i q
      omega
    · rw [List.mem_singleton] at h1
      subst h1
      exact hA i q
  · rcases List.mem_append.1 hx with h1 | h1
    · exact h.lb q x h1
    · rw [List.mem_singleton] at h1
      subst h1
      exact hj q
theorem MG.takeB (h : MG A B ma mb i j o) (hB : ∀ k, k + 1 < mb → B k < B (k + 1)) (hj : j < mb) (hi : i < ma → B j < A i) : MG A B ma mb i (j + 1) (o ++ [B j]) := by
  refine ⟨inc_snoc h.inc (h.lb hj), fun x => ?_, fun q x hx => ?_, fun q x hx => ?_⟩
  · rw [List.mem_append, List.mem_singleton, h.mem x, ex_succ]
    constructor
    · rintro ((h | h) | h)
      · exact Or.inl h
      · exact Or.inr (Or.inl h)
      · exact Or.inr (Or.inr h.symm)
    · rintro (h | h | h)
      · exact Or.inl (Or.inl h)
      · exact Or.inl (Or.inr h)
      · exact Or.inr h.symm
  · rcases List.mem_append.1 hx with h1 | h1
    · exact h.la q x h1
    · rw [List.mem_singleton] at h1
      subst h1
      exact hi q
  · rcases List.mem_append.1 hx with h1 | h1
    · have := h.lb hj x h1
      have := hB j q
      omega
    · rw [List.mem_singleton] at h1
      subst h1
      exact hB j q
theorem MG.takeAB (h : MG A B ma mb i j o) (hA : ∀ k, k + 1 < ma → A k < A (k + 1)) (hB : ∀ k, k + 1 < mb → B k < B (k + 1)) (hi : i < ma) (hj : j < mb) (e : A i = B j) : MG A B ma mb (i + 1) (j + 1) (o ++ [A i]) := by
  refine ⟨inc_snoc h.inc (h.la hi), fun x => ?_, fun q x hx => ?_, fun q x hx => ?_⟩
  · rw [List.mem_append, List.mem_singleton, h.mem x, ex_succ, ex_succ, ← e]
    constructor
    · rintro ((h | h) | h)
      · exact Or.inl (Or.inl h)
      · exact Or.inr (Or.inl h)
      · exact Or.inl (Or.inr h.symm)
    · rintro ((h | h) | (h | h))
      · exact Or.inl (Or.inl h)
      · exact Or.inr h.symm
      · exact Or.inl (Or.inr h)
      · exact Or.inr h.symm
  · rcases List.mem_append.1 hx with h1 | h1
    · have := h.la hi x h1
      have := hA i q
      omega
    · rw [List.mem_singleton] at h1
      subst h1
      exact hA i q
  · rcases List.mem_append.1 hx with h1 | h1
    · have := h.lb hj x h1
      have := hB j q
      omega
    · rw [List.mem_singleton] at h1
      subst h1
      rw [e]
      exact hB j q
end
theorem inc_tgL {n : Nat} {t : Nat → Nat → Nat} (h : Inc (tgL n t)) : ∀ k, k + 1 < n → tv (t k) 16 < tv (t (k + 1)) 16 := fun k hk => by
  have h2 := List.pairwise_iff_getElem.1 h k (k + 1) (by rw [len_tgL]; omega) (by rw [len_tgL]; omega) (by omega)
  simpa [tgL] using h2
theorem mg_end {ta tb t : Nat → Nat → Nat} {ma mb n c : Nat} {o : List Nat} (h : MG (fun k => tv (ta k) 16) (fun k => tv (tb k) 16) ma mb ma mb o) (hc : c ≤ n) (ha : tgL ma ta = srt (tgL c t)) (hb : tgL mb tb = srt (tgL (n - c) fun k => t (c + k))) : o = srt (tgL n t) := by
  refine srt_of h.inc fun x => ?_
  have e : tgL n t = tgL c t ++ tgL (n - c) fun k => t (c + k) := by
    rw [← tgL_cat, show c + (n - c) = n by omega]
    unfold tgL
    refine List.map_congr_left fun k hk => ?_
    unfold catT
    by_cases q : k < c
    · rw [if_pos q]
    · rw [if_neg q]
      show tv (t k) 16 = tv (t (c + (k - c))) 16
      rw [show c + (k - c) = k by omega]
  rw [h.mem x, e, List.mem_append, ← mem_srt (l := tgL c t), ← mem_srt (l := tgL (n - c) fun k => t (c + k)), ← ha, ← hb, mem_tgL, mem_tgL]
theorem tgL_snoc {k : Nat} {t : Nat → Nat → Nat} {f : Nat → Nat} : tgL (k + 1) (catT k t fun _ => f) = tgL k t ++ [tv f 16] := tgL_cat (m := 1)
/-- What sorted answers. -/
def SrtP (V : World) (n : Nat) (t : Nat → Nat → Nat) (e : Ending) (w' : World) : Prop := ∃ r m p, e = .returned r ∧ w'.ownsRow V.heap.size 66 16 r m (tgV p m) ∧ tgL m p = srt (tgL n t) ∧ ∀ j, j < m → ∀ i, i < 16 → p j i < 256
theorem tgL_short {n : Nat} {t : Nat → Nat → Nat} (h : n < 2) : srt (tgL n t) = tgL n t := by
  match n, h with
  | 0, _ => rfl
  | 1, _ => exact srt_inc (inc_cons.2 ⟨fun x hx => (List.not_mem_nil hx).elim, Inc.nil⟩)
section
variable {W : World} {b off n c h : Nat} {t : Nat → Nat → Nat}
theorem Tgs.take {v : Value} (q : Tgs W v n t) (e : v = .slice (some ⟨b, off, none⟩) n c) (hh : h ≤ n) : Tgs W (.slice (some ⟨b, off, none⟩) h c) h t := by
  subst e
  obtain ⟨⟨a, c', e', h1, h2, h3⟩, hb, _⟩ := q
  injection e' with e1 _ e3
  subst e1 e3
  refine ⟨⟨_, _, rfl, by omega, h2, fun h0 => ?_⟩, fun j hj => hb j (by omega), fun l c e => by cases e⟩
  obtain ⟨b', o', e4, e5, e6⟩ := h3 (by omega)
  exact ⟨b', o', e4, e5, fun j hj => e6 j (by omega)⟩
theorem Tgs.drop {v : Value} (q : Tgs W v n t) (e : v = .slice (some ⟨b, off, none⟩) n c) (hh : h ≤ n) : Tgs W (.slice (some ⟨b, off + h * 16, none⟩) (n - h) (c - h)) (n - h) fun k => t (h + k) := by
  subst e
  obtain ⟨⟨a, c', e', h1, h2, h3⟩, hb, _⟩ := q
  injection e' with e1 _ e3
  subst e1 e3
  refine ⟨⟨_, _, rfl, by omega, by omega, fun h0 => ?_⟩, fun j hj => hb _ (by omega), fun l c e => by cases e⟩
  obtain ⟨b', o', e4, e5, e6⟩ := h3 (by omega)
  injection e4 with e4
  injection e4 with e7 e8 _
  subst e7 e8
  exact ⟨b, off + h * 16, rfl, e5, fun j hj i hi => by
    have := e6 (h + j) (by omega) i hi
    rw [show off + h * 16 + j * 16 + i = off + (h + j) * 16 + i by omega]
    exact this⟩
end
theorem sl16_h (b off len cap h : Nat) (hh : h ≤ cap) (W : World) : (Instr.sliceAt 55 (.slice (some ⟨b, off, none⟩) len cap) none (some (.int .i64 ((h : Nat) : Int))) none).run Tryz.prog W = .ok (.slice (some ⟨b, off, none⟩) h cap) W := by
  have e1 : (h : Int) ≤ cap := by omega
  simp [Instr.sliceAt, Instr.slice, run_underlying Tryz.underlying55, Instr.sliceBounds, run_sliceBound, hh, Addr.add_mid]
theorem sl16_l (b off len cap h : Nat) (hh : h ≤ len) (hc : h < cap) (W : World) : (Instr.sliceAt 55 (.slice (some ⟨b, off, none⟩) len cap) (some (.int .i64 ((h : Nat) : Int))) none none).run Tryz.prog W = .ok (.slice (some ⟨b, off + h * 16, none⟩) (len - h) (cap - h)) W := by
  have e1 : (h : Int) ≤ len := by omega
  have e2 : ¬ cap = h := by omega
  simp [Instr.sliceAt, Instr.slice, run_underlying Tryz.underlying55, Instr.sliceBounds, run_sliceBound, e2, hh, Addr.add_mid]
section
variable {o : Oper} {a : Act} {w : World}
theorem execSlH16 {x h : Operand} {v vh r : Value} (ho : o.op = .slice 55 x none (some h) none) (hx : a.eval x = v) (hh : a.eval h = vh) (hr : (Instr.sliceAt 55 v none (some vh) none).run Tryz.prog w = .ok r w) : (execOp a.eval o).run Tryz.prog w = .ok (.value r) w := by
  unfold execOp
  simp only [ho, hx, hh, Option.map_some, Option.map_none, Sem.run_bind, hr, Result.andThen_ok, Sem.run_pure]
theorem execSlL16 {x h : Operand} {v vh r : Value} (ho : o.op = .slice 55 x (some h) none none) (hx : a.eval x = v) (hh : a.eval h = vh) (hr : (Instr.sliceAt 55 v (some vh) none none).run Tryz.prog w = .ok r w) : (execOp a.eval o).run Tryz.prog w = .ok (.value r) w := by
  unfold execOp
  simp only [ho, hx, hh, Option.map_some, Option.map_none, Sem.run_bind, hr, Result.andThen_ok, Sem.run_pure]
theorem execHalf {x : Operand} {p : Nat} (ho : o.op = .binOp .quo 3 x (.const (.int .i64 2)) 3) (hx : a.eval x = .int .i64 ((p : Nat) : Int)) (hp : p < 9223372036854775808) : (execOp a.eval o).run Tryz.prog w = .ok (.value (.int .i64 ((p / 2 : Nat) : Int))) w := by
  have hl : p / 2 ≤ p := Nat.div_le_self _ _
  have hc : a.eval (.const (.int .i64 2)) = .int .i64 2 := rfl
  have ew : IntKind.i64.wrap (((p : Nat) : Int) / 2) = ((p : Nat) : Int) / 2 := by simp [IntKind.wrap, IntKind.bits, IntKind.signed]; omega
  unfold execOp
  simp only [ho, hx, hc]
  simp [go_sem, ew]
theorem run_mk16 (n : Nat) (hn : n * 16 ≤ 140737488355328) (W : World) : (Instr.makeSlice 55 (.int .i64 0) (.int .i64 ((n : Nat) : Int))).run Tryz.prog W = .ok (.slice (some ⟨W.heap.size, 0, none⟩) 0 n) (W.alloc (.cells (madeCells (bA 16 fun _ => 0) (n * 16)) 66)) := by
  obtain ⟨i, h1, h2, h3, h4⟩ := info16
  have h := run_make (P := Tryz.prog) W 55 66 i (.agg (bA 16 fun _ => 0)) Tryz.underlying55 h1 h2 .i64 .i64 0 ((n : Nat) : Int) (by omega) (by omega) (by rw [h4]; omega) (by omega)
  rw [h3, Int.toNat_natCast] at h
  exact h
theorem execMk16 {x y : Operand} {n : Nat} (ho : o.op = .makeSlice 55 x y) (hx : a.eval x = .int .i64 0) (hy : a.eval y = .int .i64 ((n : Nat) : Int)) (hn : n * 16 ≤ 140737488355328) : (execOp a.eval o).run Tryz.prog w = .ok (.value (.slice (some ⟨w.heap.size, 0, none⟩) 0 n)) (w.alloc (.cells (madeCells (bA 16 fun _ => 0) (n * 16)) 66)) := by
  unfold execOp
  simp only [ho, hx, hy, Sem.run_bind, run_mk16 n hn, Result.andThen_ok, Sem.run_pure]
theorem fill16w (f : Nat → Nat) : Instr.fill (fun i => some (i * 16, 16)) ((Array.range (1 * 16)).map ((bA 16 fun _ => 0)[· % (bA 16 fun _ => 0).size]!)) [(0, .agg (bA 16 f))] = some (bA 16 f) := by
  kernel_rfl
theorem execBsT {x : Operand} {f : Nat → Nat} (ho : o.op = .buildSlice 55 1 #[(0, x)]) (hx : a.eval x = .agg (bA 16 f)) : (execOp a.eval o).run Tryz.prog w = .ok (.value (.slice (some ⟨w.heap.size, 0, none⟩) 1 1)) (w.alloc (.cells (bA 16 f) 66)) := by
  have hz : (zeroValue 66).run Tryz.prog w = .ok (.agg (bA 16 fun _ => 0)) w := zero16 w
  have hs : (sizeOf 66).run Tryz.prog w = .ok 16 w := by simp [go_sem]
  have hf := fill16w f
  have e : (#[((0 : Nat), x)] : Array (Nat × Operand)).map (fun (i, y) => (i, a.eval y)) = #[(0, .agg (bA 16 f))] := by simp [hx]
  have hr : (Instr.buildSlice 55 1 #[(0, .agg (bA 16 f))]).run Tryz.prog w = .ok (.slice (some ⟨w.heap.size, 0, none⟩) 1 1) (w.alloc (.cells (bA 16 f) 66)) := by
    simp only [Instr.buildSlice, Sem.run_bind, run_underlying Tryz.underlying55, Result.andThen_ok, hs]
    rw [if_neg (by decide), if_neg (by decide)]
    simp only [Sem.run_bind, Sem.run_pure, Result.andThen_ok, hz, Value.cells, hf]
    simp [newRow]
  unfold execOp
  simp only [ho, e, Sem.run_bind, hr, Result.andThen_ok, Sem.run_pure]
end
theorem own_mk16 (W : World) (n : Nat) (t : Nat → Nat → Nat) (hn : n * 16 ≤ 140737488355328) : (W.alloc (.cells (madeCells (bA 16 fun _ => 0) (n * 16)) 66)).ownsRow W.heap.size 66 16 (.slice (some ⟨W.heap.size, 0, none⟩) 0 n) 0 (tgV t 0) :=
  ⟨rfl, Or.inr ⟨W.heap.size, n, _, rfl, Nat.le_refl _, heapNew W _, Nat.zero_le _, by unfold maxLen; omega, by rw [size_madeCells], rfl⟩⟩
theorem one_tgs (W : World) (f : Nat → Nat) (hf : ∀ i, i < 16 → f i < 256) : Tgs (W.alloc (.cells (bA 16 f) 66)) (.slice (some ⟨W.heap.size, 0, none⟩) 1 1) 1 fun _ => f :=
  ⟨⟨_, _, rfl, Nat.le_refl _, by omega, fun _ => ⟨W.heap.size, 0, rfl, by simp, fun j hj i hi => by
    obtain rfl : j = 0 := by omega
    rw [show 0 + 0 * 16 + i = i by omega]
    exact ld16 (heapNew W _) hi⟩⟩, fun j _ => hf, fun l c e => by cases e⟩
theorem own_base16 {W : World} {B C n s : Nat} {ty : TypeId} {v : Value} {xs : List Value} (h : W.ownsRow C ty s v n xs) (hB : B ≤ C) : W.ownsRow B ty s v n xs := by
  refine ⟨h.1, ?_⟩
  rcases h.2 with h2 | ⟨g, cap, cur, e1, hC, hr⟩
  · exact Or.inl h2
  · exact Or.inr ⟨g, cap, cur, e1, Nat.le_trans hB hC, hr⟩
end Go.Proofs.YtepdejnholphcaaGreat.Win
