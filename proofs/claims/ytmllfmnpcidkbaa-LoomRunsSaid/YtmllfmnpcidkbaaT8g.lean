import Derived.Test.YtmllfmnpcidkbaaT8e
import Derived.Test.YtmllfmnpcidkbaaN8s
namespace Go.Proofs.Ytmllfmnpcidkbaa.Loo
open Go.RowKit Gf8 Aes By8 Cel Cf Win Drw Prm
/- LoomRuns: the tasks in memory, what Run is asked. -/

/-- What is known before the tasks are made. -/
structure Rn (V W : World) (g3 g8 g9 ga gb : Nat) (sv pk : Value) (D : Sd) (xa : Lg) (pl : List Nat) (en st : Bool) (Fa Fb : Nat → Prop) : Prop where
  bel : Below V.heap.size V W
  h3 : W.heap[g3]? = some (.cells #[sv] 37)
  h8 : W.heap[g8]? = some (.cells #[.pointer (some ⟨gb, 0, none⟩)] 38)
  h9 : W.heap[g9]? = some (.cells (hC pk 0 en st 0 (.slice none 0 0)) 29)
  la : LgR V.heap.size W Fa ga D.n xa
  lb : LgR V.heap.size W Fb gb D.n lg0
  op : W.ownsRow V.heap.size 3 1 pk pl.length (intsL pl.length (caF pl))
  ab : ∀ b, Fa b → ¬ Fb b
  pa : ∀ b, pk.ownBlock = some b → ¬ Fb b
  o3 : ¬ Fa g3 ∧ ¬ Fb g3
  o8 : ¬ Fa g8 ∧ ¬ Fb g8
  o9 : ¬ Fb g9
  ge : V.heap.size ≤ g3 ∧ V.heap.size ≤ g8
theorem Rn.on {V W X : World} {g3 g8 g9 ga gb : Nat} {sv pk : Value} {D : Sd} {xa : Lg} {pl : List Nat} {en st : Bool} {Fa Fb : Nat → Prop} (h : Rn V W g3 g8 g9 ga gb sv pk D xa pl en st Fa Fb) (b : Below W.heap.size W X) : Rn V X g3 g8 g9 ga gb sv pk D xa pl en st Fa Fb :=
  ⟨h.bel.trans (b.mono h.bel.size), on9 h.h3 b, on9 h.h8 b, on9 h.h9 b, h.la.on b, h.lb.on b, ownD_below h.op b, h.ab, h.pa, h.o3, h.o8, h.o9, h.ge⟩
/-- The tasks' row. -/
def TkM (W : World) (tb n : Nat) (p q : Nat → Value) : Prop := ∃ cs, W.heap[tb]? = some (.cells cs 48) ∧ cs.size = n * 2 ∧ ∀ t, t < n → cs[t * 2]? = some (p t) ∧ cs[t * 2 + 1]? = some (q t)
section
variable {W X : World} {tb n i : Nat} {p q p' q' : Nat → Value} {v : Value}
theorem TkM.on (h : TkM W tb n p q) (b : Below W.heap.size W X) : TkM X tb n p q := by
  obtain ⟨cs, h1, h2⟩ := h
  exact ⟨cs, on9 h1 b, h2⟩
theorem TkM.cg (h : TkM W tb n p q) (hp : ∀ t, t < n → p t = p' t) (hq : ∀ t, t < n → q t = q' t) : TkM W tb n p' q' := by
  obtain ⟨cs, h1, h2, h3⟩ := h
  exact ⟨cs, h1, h2, fun t ht => by rw [← hp t ht, ← hq t ht]; exact h3 t ht⟩
theorem TkM.lt (h : TkM W tb n p q) : tb < W.heap.size := by
  obtain ⟨cs, h1, h2⟩ := h
  exact (Array.getElem?_eq_some_iff.1 h1).1
theorem TkM.set0 (h : TkM W tb n p q) : TkM (W.setCell ⟨tb, 0 + i * 2, none⟩ v) tb n (upf p i v) q := by
  obtain ⟨cs, h1, h2, h3⟩ := h
  rw [Nat.zero_add]
  refine ⟨_, heap4 _ h1, by simpa using h2, fun t ht => ?_⟩
  rw [Array.getElem?_setIfInBounds, Array.getElem?_setIfInBounds]
  refine ⟨?_, ?_⟩
  · by_cases e : t = i
    · rw [e, upf_at, if_pos rfl, if_pos (by omega)]
    · rw [upf_ne _ _ e, if_neg (by omega)]; exact (h3 t ht).1
  · rw [if_neg (by omega)]; exact (h3 t ht).2
theorem TkM.set1 (h : TkM W tb n p q) : TkM (W.setCell ⟨tb, 0 + i * 2 + 1, none⟩ v) tb n p (upf q i v) := by
  obtain ⟨cs, h1, h2, h3⟩ := h
  rw [Nat.zero_add]
  refine ⟨_, heap4 _ h1, by simpa using h2, fun t ht => ?_⟩
  rw [Array.getElem?_setIfInBounds, Array.getElem?_setIfInBounds]
  refine ⟨?_, ?_⟩
  · rw [if_neg (by omega)]; exact (h3 t ht).1
  · by_cases e : t = i
    · rw [e, upf_at, if_pos rfl, if_pos (by omega)]
    · rw [upf_ne _ _ e, if_neg (by omega)]; exact (h3 t ht).2
theorem TkM.slice (h : TkM W tb n p q) : SliceK W (.slice (some ⟨tb, 0, none⟩) n n) n p q := by
  obtain ⟨cs, h1, h2, h3⟩ := h
  refine ⟨_, _, rfl, fun _ => ⟨tb, 0, rfl, (Array.getElem?_eq_some_iff.1 h1).1, fun t ht => ?_⟩⟩
  rw [Nat.zero_add, cell_of_row _ _ _ _ _ _ h1, cell_of_row _ _ _ _ _ _ h1]
  exact h3 t ht
theorem TkM.at (h : TkM W tb n p q) (hi : i < n) : (W.cell? ⟨tb, 0 + i * 2, none⟩ = some (p i) ∧ W.frozen? ⟨tb, 0 + i * 2, none⟩ = false) ∧ (W.cell? ⟨tb, 0 + i * 2 + 1, none⟩ = some (q i) ∧ W.frozen? ⟨tb, 0 + i * 2 + 1, none⟩ = false) := by
  obtain ⟨cs, h1, h2, h3⟩ := h
  rw [Nat.zero_add, cell_of_row _ _ _ _ _ _ h1, cell_of_row _ _ _ _ _ _ h1]
  exact ⟨⟨(h3 i hi).1, frozen4 h1⟩, (h3 i hi).2, frozen4 h1⟩
theorem TkM.new (h : W.heap[tb]? = some (.cells (madeCells #[.nilFunc, .nilFunc] (n * 2)) 48)) : TkM W tb n (fun _ => .nilFunc) (fun _ => .nilFunc) := by
  have hk : ∀ k, k < n * 2 → (madeCells #[.nilFunc, .nilFunc] (n * 2))[k]? = some Value.nilFunc := fun k hk => by
    have e : ∀ m, m < 2 → (#[Value.nilFunc, .nilFunc] : Array Value)[m]! = .nilFunc := by
      intro m hm
      match m, hm with
      | 0, _ => rfl
      | 1, _ => rfl
    unfold madeCells
    have e2 : (Array.range (n * 2))[k]? = some k := by simp [hk]
    rw [Array.getElem?_map, e2]
    show some ((#[Value.nilFunc, .nilFunc] : Array Value)[k % 2]!) = _
    rw [e _ (Nat.mod_lt _ (by omega))]
  exact ⟨_, h, by simp [madeCells], fun t ht => ⟨hk _ (by omega), hk _ (by omega)⟩⟩
end
def tkR (D : Sd) (g8 g3 : Nat) (gt : Nat → Nat) (t : Nat) : Value := fvl (if D.nr t = true then none else some (rF, caps g8 g3 (gt t)))
def tkS (D : Sd) (g8 g3 : Nat) (gt : Nat → Nat) (t : Nat) : Value := fvl (if D.la t = 0 then none else some (sF, caps g8 g3 (gt t)))
set_option maxRecDepth 100000 in
theorem infTk : ∃ i, Try.prog.info? 48 = some i ∧ i.zero = some (.agg #[.nilFunc, .nilFunc]) ∧ i.size = 2 ∧ i.bytes = 16 := ⟨_, rfl, by kernel_rfl, by kernel_rfl, by kernel_rfl⟩
section
variable {o : Oper} {a : Act} {w : World}
theorem execMkTk {x y : Operand} {n : Nat} (ho : o.op = .makeSlice 42 x y) (hx : a.eval x = .int .i64 ((n : Nat) : Int)) (hy : a.eval y = .int .i64 ((n : Nat) : Int)) (hn : n ≤ 1024) : (execOp a.eval o).run Try.prog w = .ok (.value (.slice (some ⟨w.heap.size, 0, none⟩) n n)) (w.alloc (.cells (madeCells #[.nilFunc, .nilFunc] (n * 2)) 48)) := by
  obtain ⟨i, h1, h2, h3, h4⟩ := infTk
  have h := run_make (P := Try.prog) w 42 48 i (.agg #[.nilFunc, .nilFunc]) Try.underlying42 h1 h2 .i64 .i64 (n : Int) (n : Int) (by omega) (by omega) (by rw [h4]; omega) (by omega)
  rw [h3, Int.toNat_natCast] at h
  unfold execOp
  simp only [ho, hx, hy, Sem.run_bind, h, Result.andThen_ok, Sem.run_pure]
  rfl
theorem execStFv {x y : Operand} {b k : Nat} {f : FuncId} {c : Array Value} {old : Value} (ho : o.op = .store 26 x y) (hx : a.eval x = .pointer (some ⟨b, k, none⟩)) (hy : a.eval y = .func (.func f) #[] c) (hc : w.cell? ⟨b, k, none⟩ = some old) (hf : w.frozen? ⟨b, k, none⟩ = false) : (execOp a.eval o).run Try.prog w = .ok .skip (w.setCell ⟨b, k, none⟩ (.func (.func f) #[] c)) := by
  unfold execOp
  simp only [ho, hx, hy]
  simp [go_sem, run_store _ _ _ _ _ (show (Value.func (.func f) #[] c).oneCell' = true from rfl), hc, hf]
theorem execMkF3 {x y z : Operand} {g : Nat} {u v r : Value} (ho : o.op = .makeFunc (.func g) #[] #[x, y, z]) (hx : a.eval x = u) (hy : a.eval y = v) (hz : a.eval z = r) : (execOp a.eval o).run Try.prog w = .ok (.value (.func (.func g) #[] #[u, v, r])) w := by
  unfold execOp
  simp only [ho, List.map_toArray, List.map_cons, List.map_nil, hx, hy, hz]
  simp [go_sem]
end
section
variable {S S' : Sys Lg} {D : Sd} {sc : Nat → Int}
theorem ask_cg (H : ShS S D) (H' : ShS S' D) {en : Nat → Bool} {x : Lg} : ∀ t, t ≤ D.n → S.ask en t x = S'.ask en t x
  | 0, _ => rfl
  | t + 1, ht => by
    have ih := ask_cg H H' (en := en) (x := x) t (by omega)
    cases he : en t with
    | true => rw [ask_e he, ask_e he, ih]
    | false =>
      cases hn : D.nr t with
      | true => rw [ask_n H (by omega) he hn, ask_n H' (by omega) he hn, ih]
      | false => rw [ask_s H (by omega) he hn, ask_s H' (by omega) he hn, ih]
theorem go_cg (H : ShS S D) (H' : ShS S' D) : ∀ m k en x l, S.go sc m k en x l = S'.go sc m k en x l
  | 0, k, en, x, l => by
    have e := ask_cg H H' (en := en) (x := x) D.n (Nat.le_refl _)
    show (l, en, (S.ask en S.n x).2, (S.ask en S.n x).1) = (l, en, (S'.ask en S'.n x).2, (S'.ask en S'.n x).1)
    rw [H.n, H'.n, e]
  | m + 1, k, en, x, l => by
    have e := ask_cg H H' (en := en) (x := x) D.n (Nat.le_refl _)
    rcases hm : S'.ask en D.n x with ⟨ml, y⟩
    rw [hm] at e
    unfold Sys.go
    rw [H.n, H'.n, e, hm]
    show (if ml = [] then _ else _) = if ml = [] then _ else _
    split
    · rfl
    · obtain ⟨t, et⟩ : ∃ t, ml.getD (chn (sc k) ml.length) 0 = t := ⟨_, rfl⟩
      rw [et]
      show S.go sc m (k + 1) (upf en t (S.sa y t).1) (S.sa y t).2 (l ++ [t]) = S'.go sc m (k + 1) (upf en t (S'.sa y t).1) (S'.sa y t).2 (l ++ [t])
      rw [H.sa, H'.sa]
      exact go_cg H H' m _ _ _ _
theorem ask_ca (H : ShS S D) {en : Nat → Bool} {x : Lg} : ∀ t, t ≤ D.n → ∀ z ∈ (S.ask en t x).2.ca, z ∈ x.ca ∨ z < 2 * t
  | 0, _, z, hz => Or.inl hz
  | t + 1, ht, z, hz => by
    have ih := ask_ca H (en := en) (x := x) t (by omega)
    have key : z ∈ (S.ask en t x).2.ca ∨ z = 2 * t := by
      cases he : en t with
      | true => rw [ask_e he] at hz; exact Or.inl hz
      | false =>
        cases hn : D.nr t with
        | true => rw [ask_n H (by omega) he hn] at hz; exact Or.inl hz
        | false =>
          rw [ask_s H (by omega) he hn] at hz
          have hz2 : z ∈ (rdA D (S.ask en t x).2 t).2.ca := by
            split at hz <;> exact hz
          have hz3 : z ∈ (S.ask en t x).2.ca ++ [2 * t] := hz2
          rcases List.mem_append.1 hz3 with h | h
          · exact Or.inl h
          · exact Or.inr (List.mem_singleton.1 h)
    rcases key with h | h
    · rcases ih z h with h | h
      · exact Or.inl h
      · exact Or.inr (by omega)
    · exact Or.inr (by omega)
theorem go_fit (H : ShS S D) : ∀ m k en x l, (∀ z ∈ x.ca, z < 2 * D.n + 2) → (∀ z ∈ l, z < D.n) → (∀ z ∈ (S.go sc m k en x l).2.2.1.ca, z < 2 * D.n + 2) ∧ (∀ z ∈ (S.go sc m k en x l).1, z < D.n) ∧ (S.go sc m k en x l).1.length ≤ l.length + m ∧ (S.go sc m k en x l).2.2.1.ca.length ≤ x.ca.length + (m + 1) * (D.n + 1)
  | 0, k, en, x, l, hx, hl => by
    have hb := (ask_bnd H (en := en) (x := x) D.n (Nat.le_refl _)).1
    refine ⟨fun z hz => ?_, hl, Nat.le_refl _, ?_⟩
    · have hz2 : z ∈ (S.ask en S.n x).2.ca := hz
      rw [H.n] at hz2
      rcases ask_ca H D.n (Nat.le_refl _) z hz2 with h | h
      · exact hx z h
      · omega
    · show (S.ask en S.n x).2.ca.length ≤ _
      rw [H.n]
      omega
  | m + 1, k, en, x, l, hx, hl => by
    obtain ⟨b1, _, _, _, _, b6⟩ := ask_bnd H (en := en) (x := x) D.n (Nat.le_refl _)
    have hc := ask_ca H (en := en) (x := x) D.n (Nat.le_refl _)
    rw [← H.n] at b1 b6 hc
    rcases hm : S.ask en S.n x with ⟨ml, y⟩
    rw [hm] at b1 b6 hc
    have hy : ∀ z ∈ y.ca, z < 2 * D.n + 2 := fun z hz => (hc z hz).elim (hx z) (fun h => by rw [H.n] at h; omega)
    have b1' : y.ca.length ≤ x.ca.length + D.n := by have := b1; rw [H.n] at this; exact this
    have em : (m + 1 + 1) * (D.n + 1) = (m + 1) * (D.n + 1) + (D.n + 1) := by rw [Nat.add_mul (m + 1) 1, Nat.one_mul]
    by_cases hml : ml = []
    · subst hml
      have eg : S.go sc (m + 1) k en x l = (l, en, y, []) := by
        conv => lhs; unfold Sys.go
        rw [hm]
        show (if ([] : List Nat) = [] then _ else _) = _
        rw [if_pos rfl]
      rw [eg]
      exact ⟨hy, hl, Nat.le_add_right _ _, by show y.ca.length ≤ _; omega⟩
    · have ht : ml.getD (chn (sc k) ml.length) 0 < D.n := by
        rw [← H.n]
        exact ml_get b6 (chn_lt (List.length_pos_iff.2 hml))
      obtain ⟨t, et⟩ : ∃ t, ml.getD (chn (sc k) ml.length) 0 = t := ⟨_, rfl⟩
      rw [et] at ht
      have h := go_fit H m (k + 1) (upf en t (S.sa y t).1) (S.sa y t).2 (l ++ [t]) (fun z hz => by
        rw [H.sa] at hz
        have hz2 : z ∈ y.ca ++ [2 * t + 1] := hz
        rcases List.mem_append.1 hz2 with h | h
        · exact hy z h
        · have := List.mem_singleton.1 h; omega) (fun z hz => by
        rcases List.mem_append.1 hz with h | h
        · exact hl z h
        · rw [List.mem_singleton.1 h]; exact ht)
      have eg : S.go sc (m + 1) k en x l = S.go sc m (k + 1) (upf en t (S.sa y t).1) (S.sa y t).2 (l ++ [t]) := by
        conv => lhs; unfold Sys.go
        rw [hm]
        show (if ml = [] then _ else _) = _
        rw [if_neg hml, et]
      rw [eg]
      refine ⟨h.1, h.2.1, ?_, ?_⟩
      · have := h.2.2.1
        rw [List.length_append] at this
        simp only [List.length_singleton] at this
        omega
      · have h4 := h.2.2.2
        have : (S.sa y t).2.ca.length = y.ca.length + 1 := by
          rw [H.sa]
          show (y.ca ++ [2 * t + 1]).length = _
          rw [List.length_append]; rfl
        omega
end
theorem caF_fit {l : List Nat} {M : Nat} (h : ∀ z ∈ l, z < M) (hM : M ≤ 1000000) : ∀ j, j < l.length → -9223372036854775808 ≤ caF l j ∧ caF l j < 9223372036854775808 := fun j hj => by
  have := h (l.getD j 0) (by rw [List.getD_eq_getElem?_getD, List.getElem?_eq_getElem hj]; exact List.getElem_mem hj)
  unfold caF
  omega
end Go.Proofs.Ytmllfmnpcidkbaa.Loo

namespace Go.Proofs.Ytmllfmnpcidkbaa.Loo
open Go.RowKit Gf8 Aes By8 Cel Cf Win Drw Prm
/- LoomRuns: what Run answers. -/

section
variable {V : World} {gb g8 g3 : Nat} {gt gt' : Nat → Nat} {sv : Value} {D : Sd} {hP : ShL V sv D} {hn : D.n ≤ 1000}
theorem en0_cg : (shS V gb g8 g3 gt sv D hP hn).en0 = (shS V gb g8 g3 gt' sv D hP hn).en0 := by
  funext t
  show (if D.la t = 0 then none else some (sF, caps g8 g3 (gt t)) : Option (FuncId × Array Value)).isNone = (if D.la t = 0 then none else some (sF, caps g8 g3 (gt' t)) : Option (FuncId × Array Value)).isNone
  split <;> rfl
end
/-- What is picked, who has ended, the log, who may be picked. -/
def gO (V : World) (gb g8 g3 : Nat) (sv : Value) (D : Sd) (hP : ShL V sv D) (hn : D.n ≤ 1000) (m : Nat) (sc : Nat → Int) (most : Int) : List Nat × (Nat → Bool) × Lg × List Nat := (shS V gb g8 g3 (fun _ => 0) sv D hP hn).go (scr m sc) most.toNat 0 (shS V gb g8 g3 (fun _ => 0) sv D hP hn).en0 lg0 []
def gE (D : Sd) (x : List Nat × (Nat → Bool) × Lg × List Nat) : Bool := !((List.range D.n).any fun t => !x.2.1 t)
def gS (D : Sd) (x : List Nat × (Nat → Bool) × Lg × List Nat) : Bool := ((List.range D.n).any fun t => !x.2.1 t) && decide (x.2.2.2 = [])
/-- What is known behind Run. -/
structure Af (V W : World) (g8 g9 ga gb : Nat) (pk pk2 : Value) (n : Nat) (xa xb : Lg) (pl ql : List Nat) (en st : Bool) : Prop where
  bel : Below V.heap.size V W
  h8 : W.heap[g8]? = some (.cells #[.pointer (some ⟨gb, 0, none⟩)] 38)
  h9 : W.heap[g9]? = some (.cells (hC pk 0 en st 0 (.slice none 0 0)) 29)
  la : ∃ F, LgR V.heap.size W F ga n xa
  lb : ∃ F, LgR V.heap.size W F gb n xb
  p1 : W.ownsRow V.heap.size 3 1 pk pl.length (intsL pl.length (caF pl))
  p2 : W.ownsRow V.heap.size 3 1 pk2 ql.length (intsL ql.length (caF ql))
theorem Af.on {V W X : World} {g8 g9 ga gb : Nat} {pk pk2 : Value} {n : Nat} {xa xb : Lg} {pl ql : List Nat} {en st : Bool} (h : Af V W g8 g9 ga gb pk pk2 n xa xb pl ql en st) (b : Below W.heap.size W X) : Af V X g8 g9 ga gb pk pk2 n xa xb pl ql en st :=
  ⟨h.bel.trans (b.mono h.bel.size), on9 h.h8 b, on9 h.h9 b, (by obtain ⟨F, q⟩ := h.la; exact ⟨F, q.on b⟩), (by obtain ⟨F, q⟩ := h.lb; exact ⟨F, q.on b⟩), ownD_below h.p1 b, ownD_below h.p2 b⟩
theorem own_cap {W : World} {B n : Nat} {v : Value} {xs : List Value} (h : W.ownsRow B 3 1 v n xs) {b : Nat} (hb : v.ownBlock = some b) : ∃ cur, W.heap[b]? = some (.cells cur 3) := by
  rcases h.2 with ⟨e, _⟩ | ⟨g, cap, cur, e, _, hg, _⟩
  · rw [e] at hb; cases hb
  · rw [e] at hb; cases hb; exact ⟨cur, hg⟩
section
variable {V Y W : World} {g3 g8 g9 ga gb tb m : Nat} {gt : Nat → Nat} {sv pk cv : Value} {D : Sd} {xa : Lg} {pl : List Nat} {en st : Bool} {Fa Fb : Nat → Prop} {sc : Nat → Int} {most : Int}
set_option maxHeartbeats 1000000 in
theorem runs_run (hR : Rn V Y g3 g8 g9 ga gb sv pk D xa pl en st Fa Fb) (hP : ShL V sv D) (hn : D.n ≤ 1000) (hb : Below Y.heap.size Y W) (hT : TkM W tb D.n (tkR D g8 g3 gt) (tkS D g8 g3 gt)) (hv : ∀ t, t < D.n → W.heap[gt t]? = some (.cells #[.int .i64 ((t : Nat) : Int)] 3) ∧ Y.heap.size ≤ gt t) (hS : SliceI V cv m sc) (hm2 : most ≤ 1000) :
    Calls Try.prog 14 #[.slice (some ⟨tb, 0, none⟩) D.n D.n, cv, .int .i64 most] W fun e w' => ∃ pk2, e = .returned (.agg (hC pk2 0 (gE D (gO V gb g8 g3 sv D hP hn m sc most)) (gS D (gO V gb g8 g3 sv D hP hn m sc most)) 0 (.slice none 0 0))) ∧ Af V w' g8 g9 ga gb pk pk2 D.n xa (gO V gb g8 g3 sv D hP hn m sc most).2.2.1 pl (gO V gb g8 g3 sv D hP hn m sc most).1 en st := by
  have hW := hR.on hb
  have l3 := (Array.getElem?_eq_some_iff.1 hR.h3).1
  have l8 := (Array.getElem?_eq_some_iff.1 hR.h8).1
  have l9 := (Array.getElem?_eq_some_iff.1 hR.h9).1
  have hgo : (shS V gb g8 g3 gt sv D hP hn).go (scr m sc) most.toNat 0 (shS V gb g8 g3 gt sv D hP hn).en0 lg0 [] = gO V gb g8 g3 sv D hP hn m sc most := by
    unfold gO
    rw [go_cg (shS_is (gt := gt)) (shS_is (gt := fun _ => 0)), en0_cg (gt := gt) (gt' := fun _ => 0)]
  obtain ⟨F, hF⟩ : ∃ F : Nat → Prop, ∀ b, F b ↔ Fb b ∨ b = g8 ∨ b = g3 ∨ ∃ t, t < D.n ∧ b = gt t := ⟨_, fun b => Iff.rfl⟩
  have hSR : (shS V gb g8 g3 gt sv D hP hn).R W F lg0 := ⟨Fb, hW.lb, hW.h8, hW.h3, fun t ht => (hv t ht).1, hF, ⟨hW.o8.2, hW.o3.2, fun t ht w => by have := hR.lb.lt _ w; have := (hv t ht).2; omega⟩, fun b hb2 => hW.bel.block b hb2, hW.bel.size⟩
  have hFge : ∀ b, F b → V.heap.size ≤ b := fun b w => by
    rcases (hF b).1 w with w | rfl | rfl | ⟨t, ht, rfl⟩
    · exact hW.lb.ge b w
    · exact hR.ge.2
    · exact hR.ge.1
    · exact Nat.le_trans hR.bel.size (hv t ht).2
  have hoff : ∀ b, b < Y.heap.size → ¬ Fb b → b ≠ g8 → b ≠ g3 → ¬ F b := fun b h1 h2 h3 h4 w => by
    rcases (hF b).1 w with w | w | w | ⟨t, ht, w⟩
    · exact h2 w
    · exact h3 w
    · exact h4 w
    · have := (hv t ht).2; omega
  have oFa : ∀ b, Fa b → ¬ F b := fun b w => hoff b (hR.la.lt b w) (hR.ab b w) (fun e => hR.o8.1 (e ▸ w)) (fun e => hR.o3.1 (e ▸ w))
  have o9 : ¬ F g9 := hoff g9 l9 hR.o9 (fun e => by have h8 := hR.h8; rw [← e, hR.h9] at h8; injection h8 with h8; injection h8 with _ h8 _; exact absurd h8 (by decide)) (fun e => by have h3 := hR.h3; rw [← e, hR.h9] at h3; injection h3 with h3; injection h3 with _ h3 _; exact absurd h3 (by decide))
  have oP : ∀ b, pk.ownBlock = some b → ¬ F b := fun b w => by
    obtain ⟨cur, hc⟩ := own_cap hR.op w
    refine hoff b (hR.op.lt b w).2 (hR.pa b w) (fun e => ?_) (fun e => ?_)
    · have h8 := hR.h8; rw [← e, hc] at h8; injection h8 with h8; injection h8 with _ h8 _; exact absurd h8 (by decide)
    · have h3 := hR.h3; rw [← e, hc] at h3; injection h3 with h3; injection h3 with _ h3 _; exact absurd h3 (by decide)
  refine Calls.mono (prun (shS V gb g8 g3 gt sv D hP hn) (.slice (some ⟨tb, 0, none⟩) D.n D.n) cv m sc most lg0 F W hT.slice (hS.on hW.bel) hSR (fun h0 a n c ev w => ?_) hn hm2 _ (shS_hold (by omega))) ?_
  · obtain ⟨b, off, c2, e3, e4, _⟩ := ints_open hS h0
    rw [ev] at e3
    injection e3 with e3
    injection e3 with e3
    have h5 : a.block = b := by rw [e3]
    have := hFge _ w
    omega
  · rintro e w' ⟨pk2, F', h⟩
    obtain ⟨F0, hR2⟩ := h.R
    have sv1 := h.sv
    refine ⟨pk2, ?_, sv_bel3 hW.bel sv1 hFge, hR2.hb, bk_sv19 hW.h9 sv1 o9, ⟨Fa, hW.la.keep fun b w => sv1.block b (hW.la.lt b w) (oFa b w)⟩, ⟨F0, ?_⟩, own_sv19 hW.op sv1 oP, ?_⟩
    · have := h.ans
      rw [hgo] at this
      exact this
    · have := hR2.lg
      rw [hgo] at this
      exact this
    · have := h.own
      rw [hgo] at this
      exact ownD_base this hW.bel.size
end
end Go.Proofs.Ytmllfmnpcidkbaa.Loo
