import Derived.Test.YtcgkelgncehekaaE8k
namespace Go.Proofs.Ytcgkelgncehekaa.Loo
open Go.RowKit Gf8 Aes By8 Cel Cf Win Drw Prm
/- The laws' about; rows of operations that grow. Written by tools/mkE8l.py. -/

section
variable {o : Oper} {a : Act} {w : World} {x y : Operand} {p q : Int}
theorem wrapZ {z : Int} (h : I64 z) : IntKind.i64.wrap z = z := by
  obtain ⟨h1, h2⟩ := h
  simp [IntKind.wrap, IntKind.bits, IntKind.signed]
  omega
theorem exAddZ (ho : o.op = .binOp .add 3 x y 3) (hx : a.eval x = .int .i64 p) (hy : a.eval y = .int .i64 q) (h : I64 (p + q)) : (execOp a.eval o).run Try.prog w = .ok (.value (.int .i64 (p + q))) w := by
  have e := wrapZ h
  unfold execOp
  simp only [ho, hx, hy]
  simp [go_sem, e]
theorem exSubZ (ho : o.op = .binOp .sub 3 x y 3) (hx : a.eval x = .int .i64 p) (hy : a.eval y = .int .i64 q) (h : I64 (p - q)) : (execOp a.eval o).run Try.prog w = .ok (.value (.int .i64 (p - q))) w := by
  have e := wrapZ h
  unfold execOp
  simp only [ho, hx, hy]
  simp [go_sem, e]
theorem exRemZ (ho : o.op = .binOp .rem 3 x y 3) (hx : a.eval x = .int .i64 p) (hy : a.eval y = .int .i64 q) (h : q ≠ 0) : (execOp a.eval o).run Try.prog w = .ok (.value (.int .i64 (p.tmod q))) w := by
  unfold execOp
  simp only [ho, hx, hy]
  simp [go_sem, h]
end
theorem tmod_in {n m : Int} (h : 0 < m) : -m < n.tmod m ∧ n.tmod m < m ∧ n % m = if n.tmod m < 0 then n.tmod m + m else n.tmod m := by
  have h1 := Int.emod_nonneg n (show m ≠ 0 by omega)
  have h2 := Int.emod_lt_of_pos n h
  have h3 := Int.tmod_lt_of_pos n h
  have h4 : -m < n.tmod m := by
    have := Int.tmod_lt_of_pos (-n) h
    rw [Int.neg_tmod] at this
    omega
  refine ⟨h4, h3, ?_⟩
  have e1 := Int.mul_ediv_add_emod n m
  have e2 := Int.mul_tdiv_add_tmod n m
  have e3 : n % m = (n.tmod m) % m := by
    rw [← e2, Int.mul_add_emod_self_left]
    congr 1
    rw [e2]
  rw [e3]
  split
  · rw [← Int.add_emod_right, Int.emod_eq_of_lt (by omega) (by omega)]
  · exact Int.emod_eq_of_lt (by omega) h3
def opL (n : Nat) (q : Nat → Op3) : List Value := (List.range n).flatMap fun j => [.int .i64 (q j).k, .int .i64 (q j).a, .int .i64 (q j).b]
theorem opL_len (q : Nat → Op3) : ∀ n, (opL n q).length = n * 3
  | 0 => rfl
  | n + 1 => by
    have := opL_len q n
    unfold opL at *
    rw [List.range_succ, List.flatMap_append, List.length_append, this]
    show n * 3 + 3 = _
    omega
theorem opL_add (q : Nat → Op3) (n m : Nat) : opL n q ++ opL m (fun j => q (n + j)) = opL (n + m) q := by
  unfold opL
  rw [List.range_add, List.flatMap_append, List.flatMap_map]
theorem opL_cg {n : Nat} {q r : Nat → Op3} (h : ∀ j, j < n → q j = r j) : opL n q = opL n r := by
  unfold opL
  rw [List.flatMap_def, List.flatMap_def]
  congr 1
  exact List.map_congr_left fun j hj => by rw [h j (List.mem_range.1 hj)]
set_option maxRecDepth 100000 in
theorem infoOp : ∃ i, Try.prog.info? 35 = some i ∧ i.zero = some (.agg (oC 0 0 0)) ∧ i.size = 3 ∧ i.bytes = 24 := by
  have h : (Try.prog.info? 35).map (fun i => (i.zero, i.size, i.bytes)) = some (some (.agg (oC 0 0 0)), 3, 24) := by kernel_rfl
  cases hq : Try.prog.info? 35 with
  | none => rw [hq] at h; cases h
  | some i =>
    rw [hq] at h
    simp only [Option.map_some, Option.some.injEq, Prod.mk.injEq] at h
    exact ⟨i, rfl, h.1, h.2.1, h.2.2⟩
theorem own_ops {W : World} {B n : Nat} {v : Value} {q : Nat → Op3} (h : W.ownsRow B 35 3 v n (opL n q)) (hf : ∀ j, j < n → I64 (q j).k ∧ I64 (q j).a ∧ I64 (q j).b) : SliceO W v n q := by
  rcases h.2 with ⟨rfl, rfl⟩ | ⟨g, cap, cur, rfl, _, hg, h1, h2, h3, h4⟩
  · exact ⟨⟨_, _, rfl, fun h => by omega⟩, hf⟩
  · have hc : ∀ j i, j < n → i < 3 → cur[j * 3 + i]? = [Value.int .i64 (q j).k, .int .i64 (q j).a, .int .i64 (q j).b][i]? := fun j i hj hi => by
      have := flat3 (q := q) n j i hj hi
      have h5 : (opL n q)[j * 3 + i]? = cur[j * 3 + i]? := by rw [← h4, List.getElem?_take, if_pos (by omega), Array.getElem?_toList]
      rw [← h5]
      exact this
    refine ⟨⟨_, _, rfl, fun _ => ⟨g, 0, rfl, (Array.getElem?_eq_some_iff.1 hg).1, fun j hj => ⟨?_, ?_, ?_⟩⟩⟩, hf⟩
    · rw [cell_of_row _ _ _ _ _ _ hg, Nat.zero_add]
      exact hc j 0 hj (by omega)
    · rw [cell_of_row _ _ _ _ _ _ hg, Nat.zero_add]
      exact hc j 1 hj (by omega)
    · rw [cell_of_row _ _ _ _ _ _ hg, Nat.zero_add]
      exact hc j 2 hj (by omega)
theorem SliceO.cg {W : World} {v : Value} {n : Nat} {q r : Nat → Op3} (h : SliceO W v n q) (e : ∀ j, j < n → q j = r j) : SliceO W v n r := by
  obtain ⟨⟨a, cap, e1, h3⟩, hp⟩ := h
  refine ⟨⟨a, cap, e1, fun h0 => ?_⟩, fun j hj => by rw [← e j hj]; exact hp j hj⟩
  obtain ⟨b, off, e2, e3, e4⟩ := h3 h0
  exact ⟨b, off, e2, e3, fun j hj => by rw [← e j hj]; exact e4 j hj⟩
end Go.Proofs.Ytcgkelgncehekaa.Loo

namespace Go.Proofs.Ytcgkelgncehekaa.Loo
open Go.RowKit Gf8 Aes By8 Cel Cf Win Drw Prm
/- LoomOne. Written by tools/mkE8m.py. -/

theorem any_no {l : List Nat} {f : Nat → Bool} (h : ∀ i ∈ l, f i = false) : l.any f ≠ true := by
  rw [Ne, Bool.not_eq_true, List.any_eq_false]
  exact fun i hi => by rw [h i hi]; simp
theorem inB_of {x lo hi : Int} (h1 : lo ≤ x) (h2 : x ≤ hi) : inB x lo hi = true := decide_eq_true ⟨h1, h2⟩
/-- A plan is right, if all is within its bounds. -/
theorem chk_ok {p : Pl} (h1 : p.n ≤ 128) (h2 : p.d ≤ 64) (h3 : ∀ t, t < p.n → p.ln t ≤ 256) (h4 : ∀ i, i < p.d → 0 ≤ p.cap i ∧ p.cap i ≤ 1024) (h5 : ∀ t, t < p.n → ∀ j, j < p.ln t → rgt (p.op t j) (p.ln t) p.d p.n = true) : chk p = 0 := by
  unfold chk
  rw [if_neg (by omega), if_neg, if_neg, if_neg]
  · exact any_no fun t ht => by
      rw [List.any_eq_false]
      exact fun j hj => by rw [h5 t (List.mem_range.1 ht) j (List.mem_range.1 hj)]; simp
  · exact any_no fun i hi => by
      have := h4 i (List.mem_range.1 hi)
      rw [inB_of this.1 this.2]
      rfl
  · exact any_no fun t ht => decide_eq_false (by have := h3 t (List.mem_range.1 ht); omega)
theorem ints_open {W : World} {v : Value} {n : Nat} {f : Nat → Int} (h : SliceI W v n f) (h0 : 0 < n) : ∃ b off c, v = .slice (some ⟨b, off, none⟩) n c ∧ b < W.heap.size ∧ ∀ j, j < n → W.cell? ⟨b, off + j, none⟩ = some (.int .i64 (f j)) := by
  obtain ⟨a, c, e, _, _, h3⟩ := h.shape
  obtain ⟨b, off, e1, e2, e3⟩ := h3 h0
  exact ⟨b, off, c, by rw [e, e1], e2, e3⟩
end Go.Proofs.Ytcgkelgncehekaa.Loo

namespace Go.Proofs.Ytcgkelgncehekaa.Loo
open Go.RowKit Gf8 Aes By8 Cel Cf Win Drw Prm
/- LoomPipes: fit and plan. Written by tools/mkE8n.py. -/

section
variable {o : Oper} {a : Act} {w : World}
end
theorem keep_over {W X : World} {B n g s : Nat} {v : Value} {xs : List Value} {t u : TypeId} {c : Array Value} (hg : W.heap[g]? = some (.cells c t)) (own : W.ownsRow B u s v n xs) (gr : W.grownBy X v.ownBlock) (ht : t ≠ u) : X.heap[g]? = some (.cells c t) := by
  rw [gr.block g (Array.getElem?_eq_some_iff.1 hg).1 (fun e => ?_)]
  · exact hg
  · rcases own.2 with ⟨e1, _⟩ | ⟨k, cap, cur, e1, _, hk, _⟩
    · rw [e1] at e; cases e
    · rw [e1] at e
      cases e
      rw [hg] at hk
      cases hk
      exact ht rfl
set_option maxRecDepth 100000 in
theorem infoOs : ∃ i, Try.prog.info? 36 = some i ∧ i.zero = some (.slice none 0 0) ∧ i.size = 1 ∧ i.bytes = 24 := by
  have h : (Try.prog.info? 36).map (fun i => (i.zero, i.size, i.bytes)) = some (some (.slice none 0 0), 1, 24) := by kernel_rfl
  cases hq : Try.prog.info? 36 with
  | none => rw [hq] at h; cases h
  | some i =>
    rw [hq] at h
    simp only [Option.map_some, Option.some.injEq, Prod.mk.injEq] at h
    exact ⟨i, rfl, h.1, h.2.1, h.2.2⟩
/-- Tasks laid so far (x), the list of them (tl), a further row under way (wv). -/
structure Plg (B : Nat) (W : World) (p : Pl) (n : Nat) (x : Nat → Value) (tl wv : Value) (wn : Nat) (wq : Nat → Op3) : Prop where
  rows : ∀ t, t < n → W.ownsRow B 35 3 (x t) (p.ln t) (opL (p.ln t) (p.op t))
  dis : ∀ t, t < n → ∀ b, (x t).ownBlock = some b → wv.ownBlock ≠ some b
  tl : W.ownsRow B 36 1 tl n (lL x n)
  wt : W.ownsRow B 35 3 wv wn (opL wn wq)
section
variable {B n wn : Nat} {W X : World} {p : Pl} {x : Nat → Value} {tl wv : Value} {wq : Nat → Op3}
theorem Plg.on (h : Plg B W p n x tl wv wn wq) (hb : Below W.heap.size W X) : Plg B X p n x tl wv wn wq :=
  ⟨fun t ht => ownD_below (h.rows t ht) hb, h.dis, ownD_below h.tl hb, ownD_below h.wt hb⟩
theorem Plg.wait (h : Plg B W p n x tl wv wn wq) {wv' : Value} {m : Nat} (own : X.ownsRow B 35 3 wv' m (opL m wq)) (pl : (∃ b c, wv = .slice (some ⟨b, 0, none⟩) wn c ∧ wv' = .slice (some ⟨b, 0, none⟩) m c ∧ W.grownBy X (some b)) ∨ (Below W.heap.size W X ∧ ∀ k, wv'.ownBlock = some k → W.heap.size ≤ k)) : Plg B X p n x tl wv' m wq := by
  rcases pl with ⟨b, c, e1, e2, gr⟩ | ⟨hb, hk⟩
  · have hne : ∀ t, t < n → (x t).ownBlock ≠ some b := fun t ht z => h.dis t ht b z (by rw [e1]; rfl)
    refine ⟨fun t ht => (h.rows t ht).kept gr (Or.inr (hne t ht)), fun t ht q hq z => ?_, own_overT h.tl h.wt (by rw [e1]; exact gr) (by decide), own⟩
    rw [e2] at z
    cases z
    exact hne t ht hq
  · refine ⟨fun t ht => ownD_below (h.rows t ht) hb, fun t ht q hq z => ?_, ownD_below h.tl hb, own⟩
    have h1 := hk q z
    have h2 := ((h.rows t ht).lt q hq).2
    omega
theorem Plg.add (h : Plg B W p n x tl wv wn wq) {u tl' : Value} (hu : W.ownsRow B 35 3 u (p.ln n) (opL (p.ln n) (p.op n))) (hd : ∀ b, u.ownBlock = some b → wv.ownBlock ≠ some b) (ho : X.ownsRow B 36 1 tl' (n + 1) (lL (updX x n u) (n + 1))) (gr : W.grownBy X tl.ownBlock) : Plg B X p (n + 1) (updX x n u) tl' wv wn wq := by
  refine ⟨fun t ht => ?_, fun t ht b hb => ?_, ho, own_overT h.wt h.tl gr (by decide)⟩
  · by_cases e : t = n
    · subst e
      rw [updX_at]
      exact own_overT hu h.tl gr (by decide)
    · rw [updX_lt _ _ (by omega)]
      exact own_overT (h.rows t (by omega)) h.tl gr (by decide)
  · by_cases e : t = n
    · subst e
      rw [updX_at] at hb
      exact hd b hb
    · rw [updX_lt _ _ (by omega)] at hb
      exact h.dis t (by omega) b hb
end
def fdQ (j : Nat) : Op3 := if j % 2 = 0 then ⟨5, 1, 0⟩ else ⟨1, 0, 0⟩
def fdE (I j : Nat) : Op3 := if j = 2 * I then ⟨3, 0, 0⟩ else fdQ j
def wtQ (j : Nat) : Op3 := ⟨9, ((1 + j : Nat) : Int), 0⟩
def wtE (C j : Nat) : Op3 := if j = C then ⟨3, 1, 0⟩ else wtQ j
def carO (j : Nat) : Op3 := if j = 0 then ⟨2, 0, 3⟩ else if j = 1 then ⟨1, 1, 0⟩ else ⟨6, 0, 0⟩
def tkrO (j : Nat) : Op3 := if j = 0 then ⟨2, 1, 2⟩ else ⟨6, 0, 0⟩
section
variable {I C K c0 c1 : Nat}
theorem pip0_at : (pipP I C K c0 c1).ln 0 = 2 * I + 1 ∧ ∀ j, (pipP I C K c0 c1).op 0 j = fdE I j := ⟨rfl, fun _ => rfl⟩
theorem pipC_at {c : Nat} (h : c < C) : (pipP I C K c0 c1).ln (1 + c) = 3 ∧ ∀ j, (pipP I C K c0 c1).op (1 + c) j = carO j := by
  refine ⟨?_, fun j => ?_⟩
  · show (if 1 + c = 0 then 2 * I + 1 else if 1 + c < C + 1 then 3 else _) = _
    rw [if_neg (by omega), if_pos (by omega)]
  · simp only [pipP]
    rw [if_neg (by omega), if_pos (by omega)]
    rfl
theorem pipW_at : (pipP I C K c0 c1).ln (1 + C) = C + 1 ∧ ∀ j, (pipP I C K c0 c1).op (1 + C) j = wtE C j := by
  refine ⟨?_, fun j => ?_⟩
  · show (if 1 + C = 0 then 2 * I + 1 else if 1 + C < C + 1 then 3 else if 1 + C = C + 1 then C + 1 else 2) = _
    rw [if_neg (by omega), if_neg (by omega), if_pos (by omega)]
  · simp only [pipP]
    rw [if_neg (by omega), if_neg (by omega), if_pos (by omega)]
    rfl
theorem pipK_at {k : Nat} : (pipP I C K c0 c1).ln (C + 2 + k) = 2 ∧ ∀ j, (pipP I C K c0 c1).op (C + 2 + k) j = tkrO j := by
  refine ⟨?_, fun j => ?_⟩
  · show (if C + 2 + k = 0 then 2 * I + 1 else if C + 2 + k < C + 1 then 3 else if C + 2 + k = C + 1 then C + 1 else 2) = _
    rw [if_neg (by omega), if_neg (by omega), if_neg (by omega)]
  · simp only [pipP]
    rw [if_neg (by omega), if_neg (by omega), if_neg (by omega)]
    rfl
theorem pip_fit (hC : C ≤ 40) : ∀ t, t < C + 2 + K → ∀ j, j < (pipP I C K c0 c1).ln t → I64 ((pipP I C K c0 c1).op t j).k ∧ I64 ((pipP I C K c0 c1).op t j).a ∧ I64 ((pipP I C K c0 c1).op t j).b := by
  intro t ht j hj
  rcases who ht with rfl | ⟨c, hc, rfl⟩ | rfl | ⟨k, hk, rfl⟩
  · rw [pip0_at.2 j]
    unfold fdE fdQ
    split
    · decide
    · split <;> decide
  · rw [(pipC_at hc).2 j]
    unfold carO
    split
    · decide
    · split <;> decide
  · rw [Nat.add_comm C 1] at hj ⊢
    rw [pipW_at.1] at hj
    rw [pipW_at.2 j]
    unfold wtE wtQ
    split
    · decide
    · exact ⟨(by decide : I64 (9 : Int)), ⟨by show _ ≤ ((1 + j : Nat) : Int); omega, by show ((1 + j : Nat) : Int) < _; omega⟩, (by decide : I64 (0 : Int))⟩
  · rw [pipK_at.2 j]
    unfold tkrO
    split <;> decide
theorem Plg.plan {B : Nat} {W : World} {x : Nat → Value} {tl wv : Value} {wn : Nat} {wq : Nat → Op3} {g : Nat} (hC : C ≤ 40) (h0 : c0 ≤ 1024) (h1 : c1 ≤ 1024) (h : Plg B W (pipP I C K c0 c1) (C + 2 + K) x tl wv wn wq) (hg : W.heap[g]? = some (.cells (iR 2 (fun i => if i = 0 then ((c0 : Nat) : Int) else ((c1 : Nat) : Int))) 3)) : PlA W (.agg #[.slice (some ⟨g, 0, none⟩) 2 2, tl]) (pipP I C K c0 c1) := by
  refine ⟨_, _, x, rfl, (iR_slice hg (by omega) (fun i _ => ?_)).cg (fun j _ => rfl), own_vals h.tl, fun t ht => own_ops (h.rows t ht) (pip_fit hC t ht)⟩
  split <;> exact ⟨by omega, by omega⟩
end
end Go.Proofs.Ytcgkelgncehekaa.Loo
