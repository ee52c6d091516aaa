import Derived.Test.YtmfaapbhehhlpaaB9i
import Derived.Test.YtmfaapbhehhlpaaB9l
namespace Go.Proofs.Ytmfaapbhehhlpaa.Noi
open Go.RowKit Gf8 Aes By8 Cel Cf Tap Drw Prm Brd
/- Stage 15's NoiseCells. Written by tools/mkB9m.py. -/

/-- The blocks of a list of cells. -/
def In15 (v : Value) (y : Nat → Value) (n k : Nat) : Prop := v.ownBlock = some k ∨ ∃ t, t < n ∧ (y t).ownBlock = some k
/-- A list of cells in memory of its own. -/
structure CL (B : Nat) (W : World) (v : Value) (n : Nat) (y : Nat → Value) (f : Nat → Nat → Nat) : Prop where
  own : W.ownsRow B 31 1 v n (lL y n)
  fam : Fam B n y (fun _ => 320) f W
  byt : ∀ t, t < n → ∀ j, j < 320 → f t j < 256
theorem own_heap {W W' : World} {B n s : Nat} {t : TypeId} {v : Value} {xs : List Value} (h : W.ownsRow B t s v n xs) (e : ∀ k, v.ownBlock = some k → W'.heap[k]? = W.heap[k]?) : W'.ownsRow B t s v n xs := by
  refine ⟨h.1, ?_⟩
  rcases h.2 with h2 | ⟨g, cap, cur, e1, hB, hg, hr⟩
  · exact Or.inl h2
  · exact Or.inr ⟨g, cap, cur, e1, hB, by rw [e g (by rw [e1]; rfl)]; exact hg, hr⟩
theorem own_lower {W : World} {B C n s : Nat} {t : TypeId} {v : Value} {xs : List Value} (h : W.ownsRow C t s v n xs) (hB : B ≤ C) : W.ownsRow B t s v n xs := by
  refine ⟨h.1, ?_⟩
  rcases h.2 with h2 | ⟨g, cap, cur, e1, hC, hr⟩
  · exact Or.inl h2
  · exact Or.inr ⟨g, cap, cur, e1, Nat.le_trans hB hC, hr⟩
section
variable {B C n : Nat} {W W' : World} {v : Value} {y : Nat → Value} {f : Nat → Nat → Nat}
theorem CL.heap (h : CL B W v n y f) (e : ∀ k, In15 v y n k → W'.heap[k]? = W.heap[k]?) : CL B W' v n y f :=
  ⟨own_heap h.own fun k hk => e k (Or.inl hk), ⟨fun t ht => own_heap (h.fam.rows t ht) fun k hk => e k (Or.inr ⟨t, ht, hk⟩), h.fam.dis⟩, h.byt⟩
theorem CL.lt (h : CL B W v n y f) {k : Nat} (hk : In15 v y n k) : B ≤ k ∧ k < W.heap.size := by
  rcases hk with hk | ⟨t, ht, hk⟩
  · exact h.own.lt k hk
  · exact (h.fam.rows t ht).lt k hk
theorem CL.on (h : CL B W v n y f) (hb : Below W.heap.size W W') : CL B W' v n y f := h.heap fun k hk => hb.block k (h.lt hk).2
theorem CL.base (h : CL C W v n y f) (hB : B ≤ C) : CL B W v n y f := ⟨own_lower h.own hB, ⟨fun t ht => own_lower (h.fam.rows t ht) hB, h.fam.dis⟩, h.byt⟩
theorem CL.lb (h : CL B W v n y f) : LB W v n y f := lb_of h.own h.fam h.byt
theorem CL.one (h : CL B W v n y f) : ∀ z ∈ lL y n, z.oneCell' = true := fun z hz => by
  obtain ⟨i, hi⟩ := List.getElem?_of_mem hz
  have hl : i < n := by have := (List.getElem?_eq_some_iff.1 hi).1; rw [lL_len] at this; exact this
  rw [lL_get y n i hl] at hi
  injection hi with hi
  subst hi
  exact one_shpB (shpB (h.fam.rows i hl))
theorem cl_of {X : World} (hk1 : W.ownsRow X.heap.size 31 1 v n (lL y n)) (hk2 : Fam X.heap.size n y (fun _ => 320) f W) (hb : ∀ t, t < n → ∀ j, j < 320 → f t j < 256) (hB : B ≤ X.heap.size) : CL B W v n y f := (CL.mk hk1 hk2 hb).base hB
end
/-- What was wanted, the two answers: one behind the other. -/
structure CC (bw ba bb C : Nat) (W : World) (n : Nat) (f : Nat → Nat → Nat) (vw va vb : Value) (yw ya yb : Nat → Value) : Prop where
  w : CL bw W vw n yw f
  a : CL ba W va n ya f
  b : CL bb W vb n yb f
  lw : ∀ k, In15 vw yw n k → k < ba
  la : ∀ k, In15 va ya n k → k < bb
  lb : ∀ k, In15 vb yb n k → k < C
  z1 : bw ≤ ba
  z2 : ba ≤ bb
  z3 : bb ≤ C
  z4 : C ≤ W.heap.size
section
variable {bw ba bb C n : Nat} {W W' : World} {f : Nat → Nat → Nat} {vw va vb : Value} {yw ya yb : Nat → Value}
theorem CC.keep (h : CC bw ba bb C W n f vw va vb yw ya yb) (hz : C ≤ W'.heap.size) (e : ∀ k, bw ≤ k → k < C → W'.heap[k]? = W.heap[k]?) : CC bw ba bb C W' n f vw va vb yw ya yb := by
  have z1 := h.z1
  have z2 := h.z2
  have z3 := h.z3
  refine ⟨h.w.heap fun k hk => ?_, h.a.heap fun k hk => ?_, h.b.heap fun k hk => ?_, h.lw, h.la, h.lb, z1, z2, z3, hz⟩
  · have q1 := (h.w.lt hk).1
    have q2 := h.lw k hk
    exact e k q1 (by omega)
  · have q1 := (h.a.lt hk).1
    have q2 := h.la k hk
    exact e k (by omega) (by omega)
  · have q1 := (h.b.lt hk).1
    have q2 := h.lb k hk
    exact e k (by omega) q2
theorem CC.on (h : CC bw ba bb C W n f vw va vb yw ya yb) (hb : Below W.heap.size W W') : CC bw ba bb C W' n f vw va vb yw ya yb :=
  h.keep (Nat.le_trans h.z4 hb.size) fun k _ hk => hb.block k (Nat.lt_of_lt_of_le hk h.z4)
theorem CC.set {g j : Nat} {u : Value} (h : CC bw ba bb C W n f vw va vb yw ya yb) (hg : g < bw) : CC bw ba bb C (W.setCell ⟨g, j, none⟩ u) n f vw va vb yw ya yb :=
  h.keep (Nat.le_trans h.z4 ((Below.refl g W).setCell (p := ⟨g, j, none⟩) (Nat.le_refl _) u).size) fun k hk _ => Below.heap_setCell _ _ _ _ (fun e => by have e2 : k = g := e; omega)
theorem CC.grown {row : Option Nat} (h : CC bw ba bb C W n f vw va vb yw ya yb) (hg : W.grownBy W' row) (hr : ∀ k, row = some k → C ≤ k) : CC bw ba bb C W' n f vw va vb yw ya yb :=
  h.keep (Nat.le_trans h.z4 hg.size) fun k _ hk => hg.block k (Nat.lt_of_lt_of_le hk h.z4) (fun e => by have := hr k e.symm; omega)
theorem CC.low {S g : Nat} (h : CC bw ba bb C W n f vw va vb yw ya yb) (h1 : S ≤ g) (h2 : g < bw) : S ≤ ba := by
  have := h.z1
  omega
theorem cat15 (x y : Nat → Value) (m : Nat) : ∀ k, lL x m ++ lL y k = lL (fun t => if t < m then x t else y (t - m)) (m + k)
  | 0 => by
    simp only [lL, List.append_nil, Nat.add_zero]
    exact lL_congr m fun i hi => by rw [if_pos hi]
  | k + 1 => by
    rw [← Nat.add_assoc]
    simp only [lL]
    rw [← cat15 x y m k, List.append_assoc, if_neg (by omega), Nat.add_sub_cancel_left]
theorem CC.fam (h : CC bw ba bb C W n f vw va vb yw ya yb) : Fam ba (n + n) (fun t => if t < n then ya t else yb (t - n)) (fun _ => 320) (fun t => if t < n then f t else f (t - n)) W := by
  have z2 := h.z2
  have far : ∀ s t, s < n → t < n → Dis (ya s) (yb t) := fun s t hs ht k h1 h2 => by
    have q1 := h.la k (Or.inr ⟨s, hs, h1⟩)
    have q2 := ((h.b.fam.rows t ht).lt k h2).1
    omega
  refine ⟨fun t ht => ?_, fun s t hs ht hst => ?_⟩
  · by_cases q : t < n
    · simp only [if_pos q]; exact h.a.fam.rows t q
    · simp only [if_neg q]; exact own_lower (h.b.fam.rows (t - n) (by omega)) z2
  · by_cases q1 : s < n
    · by_cases q2 : t < n
      · simp only [if_pos q1, if_pos q2]; exact h.a.fam.dis s t q1 q2 hst
      · simp only [if_pos q1, if_neg q2]; exact far s (t - n) q1 (by omega)
    · by_cases q2 : t < n
      · simp only [if_neg q1, if_pos q2]; exact (far t (s - n) q2 (by omega)).symm
      · simp only [if_neg q1, if_neg q2]; exact h.b.fam.dis (s - n) (t - n) (by omega) (by omega) (by omega)
theorem apart_cc {g : Nat} (v : Value) (own : W.ownsRow g 31 1 v (0 + n + n) ([] ++ lL ya n ++ lL yb n)) (hv : v ≠ .slice none 0 0) (M : CC bw ba bb C W n f vw va vb yw ya yb) (hn : n ≤ 16) :
    Calls Try.prog 17 #[v] W fun e w' => e = .returned (.bool true) ∧ CL bw w' vw n yw f ∧ Below ba W w' := by
  rw [Nat.zero_add, List.nil_append, cat15] at own
  obtain ⟨lg, lc, rfl⟩ : ∃ lg lc, v = .slice (some ⟨lg, 0, none⟩) (n + n) lc := by
    rcases own.2 with ⟨e, _⟩ | ⟨g', c', cur, e, _⟩
    · exact absurd e hv
    · exact ⟨g', c', e⟩
  have z2 := M.z2
  have z3 := M.z3
  have z4 := M.z4
  have far : ∀ k, k < ba → ¬ Gx (n + n) (fun t => if t < n then ya t else yb (t - n)) k := fun k hk ⟨t, ht, q⟩ => by
    have := ((M.fam.rows t ht).lt k q).1
    omega
  refine Calls.mono (apart15 ba g (n + n) lg lc (fun _ => 320) _ _ W own M.fam (by omega) (fun _ _ => by omega) (by omega)) fun e w' ⟨h1, h2⟩ => ⟨h1, M.w.heap fun k hk => ?_, ⟨h2.os, h2.tape, h2.output, h2.size, fun k hk => ?_⟩⟩
  · exact h2.block k (M.w.lt hk).2 (far k (M.lw k hk))
  · exact h2.block k (by omega) (far k hk)
end
/-- append of a list of cells. -/
theorem stepAppLL {ops : Array Oper} {Q : Exit → Act → World → Prop} {K : Act → World → Prop} {j : Nat} {o : Oper} {a : Act} {W : World} {s x : Operand} {B C n m : Nat} {v u : Value} {xs : List Value} {y : Nat → Value} (hos : ops[j]? = some o) (hgd : Region.wanted o (yielded ops a.tmps) = true)
    (ho : o.op = .call { callee := .builtin .append, args := #[s, x], argTypes := #[39, 39] }) (hs : a.eval s = v) (hx : a.eval x = u) (own : W.ownsRow B 31 1 v n xs) (hv : v ≠ .slice none 0 0) (src : W.ownsRow C 31 1 u m (lL y m)) (h1 : ∀ z ∈ lL y m, z.oneCell' = true) (hn : n + m ≤ 1000000) (hB : B ≤ W.heap.size)
    (hK : ∀ v' W', W'.ownsRow B 31 1 v' (n + m) (xs ++ lL y m) → v' ≠ .slice none 0 0 → W.grownBy W' v.ownBlock → K (a.put o.dst v') W') : wpOp Try.prog ops Q j K a W := by
  obtain ⟨i, i1, i2, i3, i4⟩ := infoB
  rcases src.2 with ⟨rfl, rfl⟩ | ⟨g, cap, cur, rfl, _⟩
  · have hr := run_append_owned_none (P := Try.prog) W B 39 o.type 31 i 1 Try.underlying39 i1 v n xs own
    refine stepV hos hgd (v := v) (w' := W) ?_ (hK v W (by simpa [lL] using own) hv ⟨rfl, rfl, rfl, Nat.le_refl _, fun _ _ _ => rfl⟩)
    unfold execOp
    simp only [ho, resolve, invoke, builtin, Sem.run_bind, Sem.run_pure, Result.andThen_ok, List.map_toArray, List.map_cons, List.map_nil, hs, hx, hr]
  · obtain ⟨v', w', hr, q1, q2, q3⟩ := run_append_own (P := Try.prog) W B 39 o.type 31 i (.slice none 0 0) 1 24 Try.underlying39 i1 i2 i3 i4 (by simp [Value.cells]) (by decide) v n xs own ⟨g, 0, none⟩ m cap (lL y m) (by rw [lL_len, Nat.mul_one]) (src.cells (g := g) rfl) h1 (by unfold maxLen; omega) (by omega) hB
    refine stepV hos hgd (v := v') (w' := w') ?_ (hK v' w' q1 (fun e => hv (q3.1 e).1) q2)
    unfold execOp
    simp only [ho, resolve, invoke, builtin, Sem.run_bind, Sem.run_pure, Result.andThen_ok, List.map_toArray, List.map_cons, List.map_nil, hs, hx, hr]
section
variable {o : Oper} {a : Act} {w : World}
theorem execBs0L (ho : o.op = .buildSlice 39 0 #[]) : (execOp a.eval o).run Try.prog w = .ok (.value (.slice (some ⟨w.heap.size, 0, none⟩) 0 0)) (w.alloc (.cells #[] 31)) := by
  unfold execOp
  simp only [ho]
  simp [go_sem]
theorem execEq102 {x : Operand} (ho : o.op = .binOp .eql 5 x (.const (.int .u8 0)) 5) (hx : a.eval x = .int .u8 ((102 : Nat) : Int)) : (execOp a.eval o).run Try.prog w = .ok (.value (.bool false)) w := by
  have hc : a.eval (.const (.int .u8 0)) = .int .u8 0 := rfl
  unfold execOp
  simp only [ho, hx, hc]
  simp [go_sem]
end
theorem own_ls0 (W : World) : (W.alloc (.cells #[] 31)).ownsRow W.heap.size 31 1 (.slice (some ⟨W.heap.size, 0, none⟩) 0 0) 0 [] :=
  ⟨rfl, Or.inr ⟨W.heap.size, 0, #[], rfl, Nat.le_refl _, heapNew W _, Nat.le_refl _, by unfold maxLen; omega, rfl, rfl⟩⟩
theorem cl_aw : clE 18 ((2 : Nat) : Int) ((1 : Nat) : Int) = 0 := by decide
theorem st_first (p : Nat → Nat) : stC p 0 = enc (kw fun j => p (2 + j)) (be 0) 0 := by
  unfold stC maskF
  show (0 ^^^ _) = _
  rw [Nat.zero_xor]
theorem cl_first (p : Nat → Nat) : clC p 1 0 0 = stC p 0 := by
  have e : 0 * szC 1 + (0 - (if (1 : Nat) = 0 then 1 else 0)) = 0 := rfl
  unfold clC cellF
  rw [if_neg (by decide), if_pos (by decide)]
  show stC p (0 * szC 1 + (0 - (if (1 : Nat) = 0 then 1 else 0))) = _
  rw [e]
theorem cl_aw0 : clC (fun _ => 0) 1 0 0 = 102 :=
  (cl_first _).trans ((st_first _).trans (ks_eval (key := fun j => (fun _ => 0) (2 + j)) fun i hi => by
    have h : ∀ i : Fin 16, (0 : Nat) = kf i.val := by decide
    exact h ⟨i, hi⟩))
def xF (f : Nat → Nat) (i j : Nat) : Nat := if j < i then f j ^^^ 255 else f j
theorem xF_0 {f : Nat → Nat} (j : Nat) : xF f 0 j = f j := if_neg (by omega)
theorem xF_at {f : Nat → Nat} {i : Nat} : xF f i i = f i := if_neg (by omega)
theorem xF_set {f : Nat → Nat} {i : Nat} (l : Nat) : (if l = i then f i ^^^ 255 else xF f i l) = xF f (i + 1) l := by
  unfold xF
  by_cases h : l = i
  · subst h; rw [if_pos rfl, if_pos (by omega)]
  · rw [if_neg h]
    by_cases h2 : l < i
    · rw [if_pos h2, if_pos (by omega)]
    · rw [if_neg h2, if_neg (by omega)]
set_option maxRecDepth 100000 in
set_option maxHeartbeats 4000000 in
/-- NoiseCells. -/
theorem cells15 (I : Impl) (p : Nat → Nat) (L : Nat) (na nd nm nc nl : Int) (pv : Value) (V : World) (FP : SliceN V pv L p) (hl : L ≤ 140737488351232) (hz : ∀ l c, pv = .slice none l c → c = 0) (_hna : I64 na) (_hnd : I64 nd) (_hnm : I64 nm) (hnc : I64 nc) (hnl : I64 nl) :
    Calls Try.prog 5 #[.agg (anC pv na nd nm nc nl)] V fun e w' => e = .returned (.bool true) ∧ Below V.heap.size V w' := by
  go_enter Try.func5, Try.ntmps5
  refine wo_ 171 [(0, .agg (anC pv na nd nm nc nl))] ?_
  rintro a A ⟨t0, -⟩
  have BW : Below V.heap.size V V := Below.refl _ _
  refine wp_seq ?_
  obtain ⟨gq, eggq⟩ : ∃ z_ : Nat, V.heap.size = z_ := ⟨_, rfl⟩
  refine wi_ A (h1_ t0) (rs_ 0 (fun a ee => ?_))
  refine stepV rfl rfl (execBoxAn rfl (ee _)) ⟨.pointer (some ⟨gq, 0, none⟩), ⟨_, rfl, by subst eggq; rfl⟩, fun X0 hX => ?_⟩
  have bQ : Below V.heap.size V X0 := by subst hX eggq; exact (belNew V _)
  have FQ : (X0.heap[gq]? = some (.cells (anC pv na nd nm nc nl) 33)) := by subst hX eggq; exact heapNew V _
  have bX := bQ
  clear bQ hX eggq ee a
  refine rg_ [(1, .pointer (some ⟨gq, 0, none⟩))] ?_
  rintro a A ⟨t1, -⟩
  replace FP := (FP.on bX)
  have ZX0 := bX.size
  replace BW := BW.trans (bX.mono BW.size)
  clear bX
  refine wp_seq ?_
  obtain ⟨g15, egg15⟩ : ∃ z_ : Nat, X0.heap.size = z_ := ⟨_, rfl⟩
  refine wi_ A (h1_ t1) (rs_ 0 (fun a ee => ?_))
  refine stepV rfl rfl (execMk (l := 18) (n := 18) rfl rfl rfl (by omega) (by omega)) ⟨.slice (some ⟨g15, 0, none⟩) 18 18, ⟨_, rfl, by subst egg15; rfl⟩, fun X1_1 hX => ?_⟩
  have bQ : Below X0.heap.size X0 X1_1 := by subst hX egg15; exact (belNew X0 _)
  have FXs : SliceN X1_1 (.slice (some ⟨g15, 0, none⟩) 18 18) (18) (fun _ => 0) := by subst hX egg15; exact own_slice (own_mkE X0) (fun _ _ => by decide)
  have bX := bQ
  clear bQ hX egg15 ee a
  refine rc_ 1 (I.cells (fun _ => 0) 18 ((2 : Nat) : Int) ((1 : Nat) : Int) _ X1_1 FXs (by omega) (by omega) (by omega)) fun e X1 hh => ?_
  obtain ⟨v16, y16, he, hk1, hk2, hb⟩ := hh
  refine ⟨_, he, ?_⟩
  have bQ : Below X1_1.heap.size X1_1 X1 := hb
  have Fv16 : (LB X1 v16 (zl (clE 18 ((2 : Nat) : Int) ((1 : Nat) : Int)) (((2 : Nat) : Int)).toNat) y16 (clC (fun _ => 0) (((1 : Nat) : Int)).toNat)) := lb_of hk1 hk2 (fun t ht => cl_byte (FXs).bytes ht)
  replace FXs := (FXs.on bQ)
  replace bX := bX.trans (bQ.mono bX.size)
  clear bQ
  refine rf_ [(3, v16), (4, .int .i64 ((clE 18 ((2 : Nat) : Int) ((1 : Nat) : Int) : Nat) : Int))] (h1_ t1) ?_
  rintro a A ⟨t3, t4, -⟩ ⟨t1, -⟩
  replace FP := (FP.on bX)
  replace FQ := (on9 FQ bX)
  have ZX1 := bX.size
  replace BW := BW.trans (bX.mono BW.size)
  clear bX
  rw [cl_aw] at t4
  rw [cl_aw, zl_ok] at Fv16
  clear FXs
  replace Fv16 : LB X1 v16 2 y16 (clC (fun _ => 0) 1) := Fv16
  obtain ⟨lb, lo, lc, elv, hlb, hlcc⟩ := Fv16.at (by omega)
  obtain ⟨cb, co, cc, ecv, hcb, hcc⟩ := open_slB (Fv16.lists 0 (by omega)) (by omega)
  have cV : X1.cell? ⟨lb, lo + 0, none⟩ = some (y16 0) := hlcc 0 (by omega)
  have cC : X1.cell? ⟨cb, co + 0, none⟩ = some (.int .u8 ((102 : Nat) : Int)) := by rw [hcc 0 (by omega), cl_aw0]
  have sY := shpN (Fv16.lists 0 (by omega))
  refine wp_seq ?_
  refine wp_seq ?_
  refine wi_ A (h3_ t1 t3 t4) (rv_ 1 (.bool false) (fun a ee => execDec (execNeE (p := 0) (q := 0) rfl (ee _) rfl) (decide_eq_false (by decide))) (rv_ 4 (.int .i64 ((2 : Nat) : Int)) (fun a ee => execLenLs (len := 2) rfl (ee _) ⟨_, _, elv⟩) (rv_ 5 (.bool false) (fun a ee => execDec (execNeN (p := 2) (q := 2) rfl (ee _) rfl) (decide_eq_false (by decide))) (rv_ 9 (.pointer (some ⟨lb, lo + 0, none⟩)) (fun a ee => Cf.execIdxL (k := 0) rfl ((ee _).trans elv) rfl (by decide)) (rv_ 10 (y16 0) (fun a ee => execLdL rfl (ee _) cV) (rv_ 11 (.int .i64 ((320 : Nat) : Int)) (fun a ee => execLenV (len := 320) rfl (ee _) sY) (rv_ 12 (.bool false) (fun a ee => execDec (execNeN (p := 320) (q := 320) rfl (ee _) rfl) (decide_eq_false (by decide))) (rv_ 16 (.pointer (some ⟨lb, lo + 0, none⟩)) (fun a ee => Cf.execIdxL (k := 0) rfl ((ee _).trans elv) rfl (by decide)) (rv_ 17 (y16 0) (fun a ee => execLdL rfl (ee _) cV) (rv_ 18 (.pointer (some ⟨cb, co + 0, none⟩)) (fun a ee => execIdxB9 (k := 0) rfl ((ee _).trans ecv) rfl (by decide)) (rv_ 19 (.int .u8 ((102 : Nat) : Int)) (fun a ee => execLdB rfl (ee _) cC) (rv_ 20 (.bool false) (fun a ee => execEq102 rfl (ee _)) (rf_ [(56, .bool false)] (h1_ t1) ?_)))))))))))))
  rintro a A ⟨t56, -⟩ ⟨t1, -⟩
  refine wp_cond_false t56 ?_
  refine wp_skip ?_
  clear t56
  clear Fv16 elv hlb hlcc ecv hcb hcc cV cC sY
  have BB : Below X1.heap.size X1 X1 := Below.refl _ _
  refine wp_seq ?_
  obtain ⟨g57, egg57⟩ : ∃ z_ : Nat, X1.heap.size = z_ := ⟨_, rfl⟩
  refine wi_ A (h1_ t1) (rs_ 0 (fun a ee => ?_))
  refine stepV rfl rfl (execBs0 rfl) ⟨.slice (some ⟨g57, 0, none⟩) 0 0, ⟨_, rfl, by subst egg57; rfl⟩, fun X4_1 hX => ?_⟩
  have bQ : Below X1.heap.size X1 X4_1 := by subst hX egg57; exact (belNew X1 _)
  have F57 : (X4_1.ownsRow X1.heap.size 5 1 (.slice (some ⟨g57, 0, none⟩) 0 0) (0) (bytesL (0) (pY p L))) := by subst hX egg57; exact own_base (own_none X1 _) (BB).size
  replace BB := BB.trans (bQ.mono BB.size)
  clear bQ hX egg57 ee a
  refine rv_ 1 (.pointer (some ⟨gq, 0, none⟩)) (fun a ee => execFldAn (k := 0) rfl (ee _) rfl) (rv_ 2 (pv) (fun a ee => execLdL rfl (ee _) (an_at0 (on9 FQ BB))) (rs_ 3 (fun a ee => ?_)))
  refine stepAppN (n := 0) (m := L) (p := pY p L) rfl rfl rfl (ee _) (ee _) F57 (sliceN_cg (FP.on BB) (fun j hj => (pY_lo hj).symm)) hz (by omega) (BB).size fun v60 X4_2 own' gr => ⟨_, ⟨_, rfl, rfl⟩, eqw ?_⟩
  obtain ⟨BB, F60⟩ : Below X1.heap.size X1 X4_2 ∧ (X4_2.ownsRow X1.heap.size 5 1 v60 (0 + L) (bytesL (0 + L) (pY p L))) := ⟨(BB).grown gr (BB).size (fun k hk => (F57.lt k hk).1), own'⟩
  clear F57 ee a
  obtain ⟨g61, egg61⟩ : ∃ z_ : Nat, X4_2.heap.size = z_ := ⟨_, rfl⟩
  refine rs_ 4 (fun a ee => ?_)
  refine stepV rfl rfl (execBsU2 rfl) ⟨.slice (some ⟨g61, 0, none⟩) 2 2, ⟨_, rfl, by subst egg61; rfl⟩, fun X4_3 hX => ?_⟩
  have bQ : Below X4_2.heap.size X4_2 X4_3 := by subst hX egg61; exact (belNew X4_2 _)
  have F61 : (SliceN X4_3 (.slice (some ⟨g61, 0, none⟩) 2 2) 2 (fun j => pY p L (0 + L + j))) := by subst hX egg61; exact pY_two X4_2 p L
  replace F60 := (ownsRow_below F60 bQ)
  replace BB := BB.trans (bQ.mono BB.size)
  clear bQ hX egg61 ee a
  refine rs_ 5 (fun a ee => ?_)
  refine stepAppN (n := 0 + L) (m := 2) (p := pY p L) rfl rfl rfl (ee _) (ee _) F60 F61 (fun _ _ e => by cases e) (by omega) (BB).size fun v62 X4 own' gr => ⟨_, ⟨_, rfl, rfl⟩, eqw ?_⟩
  obtain ⟨BB, F62⟩ : Below X1.heap.size X1 X4 ∧ (X4.ownsRow X1.heap.size 5 1 v62 (0 + L + 2) (bytesL (0 + L + 2) (pY p L))) := ⟨(BB).grown gr (BB).size (fun k hk => (F60.lt k hk).1), own'⟩
  clear F60 F61 ee a
  refine rf_ [(5, v62)] (h1_ t1) ?_
  rintro a A ⟨t5, -⟩ ⟨t1, -⟩
  rw [Nat.zero_add] at F62
  obtain ⟨gp, cp, epp, hgp, -⟩ := ownL_some9 F62 (by omega)
  have hcp : L + 2 ≤ cp := own_room (epp ▸ F62)
  have FO := F62
  clear F62
  subst epp
  have hn16 : zl (clE L nc nl) nc.toNat ≤ 16 := cl_len
  have hby : ∀ t, t < zl (clE L nc nl) nc.toNat → ∀ j, j < 320 → clC p nl.toNat t j < 256 := fun t ht => cl_byte FP.bytes ht
  have hpb : ∀ j, j < L → p j < 256 := FP.bytes
  have FZ4 : X4.heap.size ≤ X4.heap.size := Nat.le_refl _
  have hgw : gp < X4.heap.size := (FO.lt gp rfl).2
  refine wp_seq ?_
  refine wi_ A (h2_ t1 t5) (rv_ 0 (.pointer (some ⟨gq, 0, none⟩)) (fun a ee => execFldAn (k := 0) rfl (ee _) rfl) (rv_ 1 (pv) (fun a ee => execLdL rfl (ee _) (an_at0 (on9 FQ BB))) (rv_ 2 (.pointer (some ⟨gq, 4, none⟩)) (fun a ee => execFldAn (k := 4) rfl (ee _) rfl) (rv_ 3 (.int .i64 nc) (fun a ee => execLd3 rfl (ee _) (an_at4 (on9 FQ BB))) (rv_ 4 (.pointer (some ⟨gq, 5, none⟩)) (fun a ee => execFldAn (k := 5) rfl (ee _) rfl) (rv_ 5 (.int .i64 nl) (fun a ee => execLd3 rfl (ee _) (an_at5 (on9 FQ BB))) (rc_ 6 (rcells p L nc nl _ X4 (FP.on BB)) fun e X5 hh => ?_)))))))
  obtain ⟨v70, y70, he, hk1, hk2, hb⟩ := hh
  refine ⟨_, he, ?_⟩
  have bQ : Below X4.heap.size X4 X5 := hb
  have FCw : (CL X4.heap.size X5 v70 (zl (clE L nc nl) nc.toNat) y70 (clC p nl.toNat)) := cl_of hk1 hk2 hby FZ4
  replace FO := (ownsRow_below FO bQ)
  replace FZ4 := (Nat.le_trans FZ4 bQ.size)
  replace BB := BB.trans (bQ.mono BB.size)
  clear bQ
  refine rf_ [(6, v70), (7, .int .i64 ((clE L nc nl : Nat) : Int))] (h2_ t1 t5) ?_
  rintro a A ⟨t6, t7, -⟩ ⟨t1, t5, -⟩
  have FZ5 : X5.heap.size ≤ X5.heap.size := Nat.le_refl _
  have hlw : ∀ k, In15 v70 y70 (zl (clE L nc nl) nc.toNat) k → k < X5.heap.size := fun k hk => (FCw.lt hk).2
  have hz45 := FZ4
  refine wp_seq ?_
  refine wj_ [0, 1, 2, 3, 4, 5, 6, 7, 8, 9, 10, 11, 12, 13, 14] [9] [2, 3, 6, 8] [] A (h4_ t1 t5 t6 t7) (fun X6_0 bD => ?_)
  refine dw_ 1 (.pointer (some ⟨gq, 0, none⟩)) (fun a X ee => execFldAn (k := 0) rfl (ee _) rfl) (dv_ 2 (pv) (fun a X ee hb => execLdL rfl (ee _) (an_at0 (on9 FQ (BB.trans (hb.mono BB.size))))) (dv_ 3 (.int .i64 ((L : Nat) : Int)) (fun a X ee hb => execLenV (len := L) rfl (ee _) (shp9 (FP.on (BB.trans (hb.mono BB.size))))) (dw_ 4 (.slice (some ⟨gp, 0, none⟩) L cp) (fun a X ee => By8.execSlH rfl (ee _) (ee _) (sl_h8 gp (L + 2) cp L (by omega) X)) (dw_ 5 (.pointer (some ⟨gq, 4, none⟩)) (fun a X ee => execFldAn (k := 4) rfl (ee _) rfl) (dv_ 6 (.int .i64 nc) (fun a X ee hb => execLd3 rfl (ee _) (an_at4 (on9 FQ (BB.trans (hb.mono BB.size))))) (dw_ 7 (.pointer (some ⟨gq, 5, none⟩)) (fun a X ee => execFldAn (k := 5) rfl (ee _) rfl) (dv_ 8 (.int .i64 nl) (fun a X ee hb => execLd3 rfl (ee _) (an_at5 (on9 FQ (BB.trans (hb.mono BB.size))))) (dc_ 9 (I.cells p L nc nl _ X6_0 (ip_slice rfl (ownsRow_below FO bD) FP.bytes) (by omega) hnc hnl) fun e X6 hh => ?_))))))))
  obtain ⟨v83, y83, he, hk1, hk2, hb⟩ := hh
  refine ⟨_, he, ?_⟩
  have bQ : Below X6_0.heap.size X6_0 X6 := hb
  have FCa : (CL X5.heap.size X6 v83 (zl (clE L nc nl) nc.toNat) y83 (clC p nl.toNat)) := cl_of hk1 hk2 hby (Nat.le_trans FZ5 bD.size)
  replace bD := bD.trans (bQ.mono bD.size)
  clear bQ
  refine ⟨Or.inr bD, ?_⟩
  refine dz_ [(4, .int .i64 ((clE L nc nl : Nat) : Int)), (8, v83)] (h4_ t1 t5 t6 t7) ?_
  rintro a A ⟨t4, t8, -⟩ ⟨t1, t5, t6, t7, -⟩
  replace FO := (ownsRow_below FO bD)
  replace FZ4 := (Nat.le_trans FZ4 bD.size)
  replace FCw := (FCw.on bD)
  replace FZ5 := (Nat.le_trans FZ5 bD.size)
  replace BB := BB.trans (bD.mono BB.size)
  clear bD
  have FZ6 : X6.heap.size ≤ X6.heap.size := Nat.le_refl _
  have hla : ∀ k, In15 v83 y83 (zl (clE L nc nl) nc.toNat) k → k < X6.heap.size := fun k hk => (FCa.lt hk).2
  have hz56 := FZ5
  refine wp_seq ?_
  refine wj_ [0, 1, 2, 3, 4, 5, 6, 7, 8, 9, 10, 11, 12, 13, 14] [9] [2, 3, 6, 8] [] A (h6_ t1 t4 t5 t6 t7 t8) (fun X7_0 bD => ?_)
  refine dw_ 1 (.pointer (some ⟨gq, 0, none⟩)) (fun a X ee => execFldAn (k := 0) rfl (ee _) rfl) (dv_ 2 (pv) (fun a X ee hb => execLdL rfl (ee _) (an_at0 (on9 FQ (BB.trans (hb.mono BB.size))))) (dv_ 3 (.int .i64 ((L : Nat) : Int)) (fun a X ee hb => execLenV (len := L) rfl (ee _) (shp9 (FP.on (BB.trans (hb.mono BB.size))))) (dw_ 4 (.slice (some ⟨gp, 0, none⟩) L cp) (fun a X ee => By8.execSlH rfl (ee _) (ee _) (sl_h8 gp (L + 2) cp L (by omega) X)) (dw_ 5 (.pointer (some ⟨gq, 4, none⟩)) (fun a X ee => execFldAn (k := 4) rfl (ee _) rfl) (dv_ 6 (.int .i64 nc) (fun a X ee hb => execLd3 rfl (ee _) (an_at4 (on9 FQ (BB.trans (hb.mono BB.size))))) (dw_ 7 (.pointer (some ⟨gq, 5, none⟩)) (fun a X ee => execFldAn (k := 5) rfl (ee _) rfl) (dv_ 8 (.int .i64 nl) (fun a X ee hb => execLd3 rfl (ee _) (an_at5 (on9 FQ (BB.trans (hb.mono BB.size))))) (dc_ 9 (I.cells p L nc nl _ X7_0 (ip_slice rfl (ownsRow_below FO bD) FP.bytes) (by omega) hnc hnl) fun e X7 hh => ?_))))))))
  obtain ⟨v96, y96, he, hk1, hk2, hb⟩ := hh
  refine ⟨_, he, ?_⟩
  have bQ : Below X7_0.heap.size X7_0 X7 := hb
  have FCb : (CL X6.heap.size X7 v96 (zl (clE L nc nl) nc.toNat) y96 (clC p nl.toNat)) := cl_of hk1 hk2 hby (Nat.le_trans FZ6 bD.size)
  replace bD := bD.trans (bQ.mono bD.size)
  clear bQ
  refine ⟨Or.inr bD, ?_⟩
  refine dz_ [(9, v96), (10, .int .i64 ((clE L nc nl : Nat) : Int))] (h6_ t1 t4 t5 t6 t7 t8) ?_
  rintro a A ⟨t9, t10, -⟩ ⟨t1, t4, t5, t6, t7, t8, -⟩
  replace FO := (ownsRow_below FO bD)
  replace FZ4 := (Nat.le_trans FZ4 bD.size)
  replace FCw := (FCw.on bD)
  replace FZ5 := (Nat.le_trans FZ5 bD.size)
  replace FCa := (FCa.on bD)
  replace FZ6 := (Nat.le_trans FZ6 bD.size)
  replace BB := BB.trans (bD.mono BB.size)
  clear bD
  have FM : CC X4.heap.size X5.heap.size X6.heap.size X7.heap.size X7 (zl (clE L nc nl) nc.toNat) (clC p nl.toNat) v70 v83 v96 y70 y83 y96 := ⟨FCw, FCa, FCb, hlw, hla, fun k hk => (FCb.lt hk).2, hz45, hz56, FZ6, Nat.le_refl _⟩
  clear FCw FCa FCb hlw hla hz45 hz56 FZ4 FZ5 FZ6
  refine wp_seq ?_
  refine wp_seq ?_
  refine wi_ A (h8_ t1 t4 t5 t6 t7 t8 t9 t10) (rv_ 2 (.bool false) (fun a ee => execDec (execNeN (p := clE L nc nl) (q := clE L nc nl) rfl (ee _) (ee _)) (decide_eq_false (by omega))) (rv_ 6 (.bool false) (fun a ee => execDec (execNeN (p := clE L nc nl) (q := clE L nc nl) rfl (ee _) (ee _)) (decide_eq_false (by omega))) (rc_ 11 (alike15 _ _ _ _ (zl (clE L nc nl) nc.toNat) _ _ X7 FM.a.lb FM.w.lb (fun _ _ _ _ => rfl) (by omega)) (cb_ fun X8_1 bQ => ?_))))
  replace FO := (ownsRow_below FO bQ)
  replace FM := (FM.on bQ)
  replace BB := BB.trans (bQ.mono BB.size)
  clear bQ
  refine rv_ 12 (.bool false) (fun a ee => execNot8 (b := true) rfl (ee _)) (rc_ 17 (alike15 _ _ _ _ (zl (clE L nc nl) nc.toNat) _ _ X8_1 FM.b.lb FM.w.lb (fun _ _ _ _ => rfl) (by omega)) (cb_ fun X8 bQ => ?_))
  replace FO := (ownsRow_below FO bQ)
  replace FM := (FM.on bQ)
  replace BB := BB.trans (bQ.mono BB.size)
  clear bQ
  refine rv_ 18 (.bool false) (fun a ee => execNot8 (b := true) rfl (ee _)) (rv_ 22 (.string (strN (pY p L) (L + 2))) (fun a ee => By8.execStr rfl (ee _) (own_slice FO (fun j _ => pY_byte FP.bytes j))) (rv_ 23 (.pointer (some ⟨gq, 0, none⟩)) (fun a ee => execFldAn (k := 0) rfl (ee _) rfl) (rv_ 24 (pv) (fun a ee => execLdL rfl (ee _) (an_at0 (on9 FQ BB))) (rv_ 25 (.string (strN p L)) (fun a ee => By8.execStr rfl (ee _) (FP.on BB)) (rv_ 26 (.string (strN (pY p L) (L + 2))) (fun a ee => execCat2 rfl (ee _) (by omega)) (rv_ 27 (.bool false) (fun a ee => By8.execNeqS rfl (ee _) (ee _)) (rf_ [(127, .bool false)] (h6_ t1 t5 t6 t7 t8 t9) ?_)))))))
  rintro a A ⟨t127, -⟩ ⟨t1, t5, t6, t7, t8, t9, -⟩
  refine wp_cond_false t127 ?_
  refine wp_skip ?_
  clear t127
  refine wp_seq ?_
  refine wp_seq ?_
  refine wi_ A (h6_ t1 t5 t6 t7 t8 t9) (rv_ 1 (.int .i64 ((L + 2 : Nat) : Int)) (fun a ee => execLenV (len := L + 2) rfl (ee _) ⟨_, _, rfl⟩) (rf_ [(128, .slice (some ⟨gp, 0, none⟩) (L + 2) cp), (129, .int .i64 ((L + 2 : Nat) : Int)), (130, .int .i64 ((0 : Nat) : Int))] (h6_ t1 t5 t6 t7 t8 t9) ?_))
  rintro a A ⟨t128, t129, t130, -⟩ ⟨t1, t5, t6, t7, t8, t9, -⟩
  have FO0 : (X8.ownsRow X1.heap.size 5 1 (.slice (some ⟨gp, 0, none⟩) (L + 2) cp) (L + 2) (bytesL (L + 2) (xF (pY p L) 0))) := by rw [bytesL_congr (f := xF (pY p L) 0) (g := pY p L) (fun j _ => xF_0 j)]; exact FO
  clear FO
  have FO := FO0
  clear FO0
  clear t128
  refine wp_block ?_
  refine wp_loop (fun a W => ∃ (i : Nat), i ≤ L + 2 ∧ (a.tmps.size = 171 ∧ a.defers = []) ∧ a.eval (.tmp 1) = .pointer (some ⟨gq, 0, none⟩) ∧ a.eval (.tmp 5) = .slice (some ⟨gp, 0, none⟩) (L + 2) cp ∧ a.eval (.tmp 6) = v70 ∧ a.eval (.tmp 7) = .int .i64 ((clE L nc nl : Nat) : Int) ∧ a.eval (.tmp 8) = v83 ∧ a.eval (.tmp 9) = v96 ∧ a.eval (.tmp 129) = .int .i64 ((L + 2 : Nat) : Int) ∧ a.eval (.tmp 130) = .int .i64 ((i : Nat) : Int) ∧ Below X1.heap.size X1 W ∧ (W.ownsRow X1.heap.size 5 1 (.slice (some ⟨gp, 0, none⟩) (L + 2) cp) (L + 2) (bytesL (L + 2) (xF (pY p L) i))) ∧ (CC X4.heap.size X5.heap.size X6.heap.size X7.heap.size W (zl (clE L nc nl) nc.toNat) (clC p nl.toNat) v70 v83 v96 y70 y83 y96)) (fun a _ => L + 2 - (intOf (a.eval (.tmp 130))).toNat) ⟨0, Nat.zero_le _, A, t1, t5, t6, t7, t8, t9, t129, t130, BB, FO, FM⟩ ?_
  clear A t1 t5 t6 t7 t8 t9 t129 t130 BB FO FM a
  rintro a XL11 ⟨i, hi, A, t1, t5, t6, t7, t8, t9, t129, t130, BB, FO, FM⟩
  have esi := t130
  refine wp_seq ?_
  refine wi_ A (h8_ t1 t5 t6 t7 t8 t9 t129 t130) (rv_ 0 (.bool (decide (i < L + 2))) (fun a ee => execLtW (p := i) (q := L + 2) rfl (ee _) (ee _)) (rf_ [(131, .bool (decide (i < L + 2)))] (h8_ t1 t5 t6 t7 t8 t9 t129 t130) ?_))
  rintro a A ⟨t131, -⟩ ⟨t1, t5, t6, t7, t8, t9, t129, t130, -⟩
  refine wp_seq ?_
  by_cases lti : i < L + 2
  · rw [decide_eq_true lti] at t131
    refine wp_cond_true t131 ?_
    refine wp_skip ?_
    clear t131
    refine wp_seq ?_
    refine wp_block ?_
    refine wp_seq ?_
    refine wi_ A (h8_ t1 t5 t6 t7 t8 t9 t129 t130) (rf_ [(11, .int .i64 ((i : Nat) : Int))] (h8_ t1 t5 t6 t7 t8 t9 t129 t130) ?_)
    rintro a A ⟨t11, -⟩ ⟨t1, t5, t6, t7, t8, t9, t129, t130, -⟩
    refine wi_ A (h9_ t1 t5 t6 t7 t8 t9 t129 t11 t130) (rv_ 2 (.pointer (some ⟨gp, 0 + i, none⟩)) (fun a ee => execIdxB9 (k := i) rfl ((ee _).trans rfl) (ee _) lti) (rv_ 3 (.int .u8 ((pY p L i : Nat) : Int)) (fun a ee => execLdB rfl (ee _) ((own_cell15 FO lti).1.trans (by rw [xF_at]))) (rv_ 4 (.int .u8 ((pY p L i ^^^ 255 : Nat) : Int)) (fun a ee => execXor5 rfl (ee _) rfl (pY_byte hpb i) (by decide)) (rv_ 5 (.pointer (some ⟨gp, 0 + i, none⟩)) (fun a ee => execIdxB9 (k := i) rfl ((ee _).trans rfl) (ee _) lti) (rs_ 6 (fun a ee => ?_))))))
    obtain ⟨hc_, hf_⟩ := own_cell15 FO lti
    refine stepS rfl rfl (execStB rfl (ee _) (ee _) hc_ hf_) ⟨_, ⟨_, rfl, rfl⟩, fun X13 hX => ?_⟩
    obtain ⟨BB, FM, FO2⟩ : Below X1.heap.size X1 X13 ∧ (CC X4.heap.size X5.heap.size X6.heap.size X7.heap.size X13 (zl (clE L nc nl) nc.toNat) (clC p nl.toNat) v70 v83 v96 y70 y83 y96) ∧ (X13.ownsRow X1.heap.size 5 1 (.slice (some ⟨gp, 0, none⟩) (L + 2) cp) (L + 2) (bytesL (L + 2) (xF (pY p L) (i + 1)))) := by subst hX; exact ⟨(BB).setCell hgp _, (FM.set hgw), (by rw [Nat.zero_add, ← bytesL_congr (fun l _ => xF_set l)]; exact own_set8 _ FO)⟩
    clear FO hX ee a
    refine rf_ [] (h8_ t1 t5 t6 t7 t8 t9 t129 t130) ?_
    rintro a A - ⟨t1, t5, t6, t7, t8, t9, t129, t130, -⟩
    refine wi_ A (h8_ t1 t5 t6 t7 t8 t9 t129 t130) (rv_ 0 (.int .i64 ((i + 1 : Nat) : Int)) (fun a ee => execAd8 (p := i) (q := 1) rfl (ee _) rfl (by omega)) (rf_ [(130, .int .i64 ((i + 1 : Nat) : Int))] (h7_ t1 t5 t6 t7 t8 t9 t129) ?_))
    rintro a A ⟨t130, -⟩ ⟨t1, t5, t6, t7, t8, t9, t129, -⟩
    exact ⟨⟨i + 1, lti, A, t1, t5, t6, t7, t8, t9, t129, t130, BB, FO2, FM⟩, by show L + 2 - (intOf (a.eval (.tmp 130))).toNat < L + 2 - (intOf (Act.eval _ (.tmp 130))).toNat; rw [t130, esi]; show L + 2 - (i + 1) < L + 2 - i; omega⟩
  · rw [decide_eq_false lti] at t131
    refine wp_cond_false t131 ?_
    refine wp_exit ?_
    first | with_reducible refine exit_in ?_ | with_reducible refine exit_then (exit_in ?_) | with_reducible refine exit_then (exit_then (exit_in ?_)) | refine exit_in ?_ | refine exit_then (exit_in ?_) | refine exit_then (exit_then (exit_in ?_))
    clear t131 esi
    clear t129 t130 t5 FO
    have hS7 : X1.heap.size ≤ X7.heap.size := by have h1 := FM.z1; have h2 := FM.z2; have h3 := FM.z3; omega
    refine wp_seq ?_
    refine wp_seq ?_
    refine wi_ A (h5_ t1 t6 t7 t8 t9) (rc_ 2 (alike15 _ _ _ _ (zl (clE L nc nl) nc.toNat) _ _ XL11 FM.a.lb FM.w.lb (fun _ _ _ _ => rfl) (by omega)) (cb_ fun X15_1 bQ => ?_))
    replace FM := (FM.on bQ)
    replace BB := BB.trans (bQ.mono BB.size)
    clear bQ
    obtain ⟨g145, egg145⟩ : ∃ z_ : Nat, X15_1.heap.size = z_ := ⟨_, rfl⟩
    refine rv_ 3 (.bool false) (fun a ee => execNot8 (b := true) rfl (ee _)) (rs_ 5 (fun a ee => ?_))
    refine stepV rfl (wy rfl rfl rfl (ee _)) (execBs0L rfl) ⟨.slice (some ⟨g145, 0, none⟩) 0 0, ⟨_, rfl, by subst egg145; rfl⟩, fun X15_2 hX => ?_⟩
    have bQ : Below X15_1.heap.size X15_1 X15_2 := by subst hX egg145; exact (belNew X15_1 _)
    have FL0 : (X15_2.ownsRow g145 31 1 (.slice (some ⟨g145, 0, none⟩) 0 0) (0) ([])) := by subst hX egg145; exact own_ls0 X15_1
    have FG : (X7.heap.size ≤ g145) := by subst hX egg145; exact FM.z4
    have FH : (g145 ≤ X15_2.heap.size) := by subst hX egg145; exact (belNew X15_1 _).size
    replace FM := (FM.on bQ)
    replace BB := BB.trans (bQ.mono BB.size)
    clear bQ hX egg145 ee a
    refine rs_ 7 (fun a ee => ?_)
    refine stepAppLL rfl (wy rfl rfl rfl (ee _)) rfl (ee _) (ee _) FL0 (fun h_ => by cases h_) FM.a.own FM.a.one (by omega) FH fun v147 X15_3 own' hv' gr => ⟨_, ⟨_, rfl, rfl⟩, eqw ?_⟩
    obtain ⟨BB, FM, FH, FL1, FL1v⟩ : Below X1.heap.size X1 X15_3 ∧ (CC X4.heap.size X5.heap.size X6.heap.size X7.heap.size X15_3 (zl (clE L nc nl) nc.toNat) (clC p nl.toNat) v70 v83 v96 y70 y83 y96) ∧ (g145 ≤ X15_3.heap.size) ∧ (X15_3.ownsRow g145 31 1 v147 (0 + zl (clE L nc nl) nc.toNat) ([] ++ lL y83 (zl (clE L nc nl) nc.toNat))) ∧ (v147 ≠ .slice none 0 0) := ⟨(BB).grown gr (BB).size (fun k hk => Nat.le_trans hS7 (Nat.le_trans FG (FL0.lt k hk).1)), (FM.grown gr (fun k hk => Nat.le_trans FG (FL0.lt k hk).1)), (Nat.le_trans FH gr.size), own', hv'⟩
    clear FL0 ee a
    refine rs_ 9 (fun a ee => ?_)
    refine stepAppLL rfl (wy rfl rfl rfl (ee _)) rfl (ee _) (ee _) FL1 FL1v FM.b.own FM.b.one (by omega) FH fun v149 X15_4 own' hv' gr => ⟨_, ⟨_, rfl, rfl⟩, eqw ?_⟩
    obtain ⟨BB, FM, FH, FL2, FL2v⟩ : Below X1.heap.size X1 X15_4 ∧ (CC X4.heap.size X5.heap.size X6.heap.size X7.heap.size X15_4 (zl (clE L nc nl) nc.toNat) (clC p nl.toNat) v70 v83 v96 y70 y83 y96) ∧ (g145 ≤ X15_4.heap.size) ∧ (X15_4.ownsRow g145 31 1 v149 (0 + zl (clE L nc nl) nc.toNat + zl (clE L nc nl) nc.toNat) ([] ++ lL y83 (zl (clE L nc nl) nc.toNat) ++ lL y96 (zl (clE L nc nl) nc.toNat))) ∧ (v149 ≠ .slice none 0 0) := ⟨(BB).grown gr (BB).size (fun k hk => Nat.le_trans hS7 (Nat.le_trans FG (FL1.lt k hk).1)), (FM.grown gr (fun k hk => Nat.le_trans FG (FL1.lt k hk).1)), (Nat.le_trans FH gr.size), own', hv'⟩
    clear FL1 ee a
    refine rc_ 10 (apart_cc _ FL2 FL2v FM hn16) fun e X15 hh => ?_
    obtain ⟨he, hk, hb⟩ := hh
    refine ⟨_, he, ?_⟩
    obtain ⟨BB, FW⟩ : Below X1.heap.size X1 X15 ∧ (CL X4.heap.size X15 v70 (zl (clE L nc nl) nc.toNat) y70 (clC p nl.toNat)) := ⟨(BB).trans (hb.mono (FM.low hgp hgw)), hk⟩
    clear FM FG FH FL1v FL2 FL2v
    refine rv_ 11 (.bool false) (fun a ee => execNot8 (b := true) rfl (ee _)) (rf_ [(152, .bool false)] (h3_ t1 t6 t7) ?_)
    rintro a A ⟨t152, -⟩ ⟨t1, t6, t7, -⟩
    refine wp_cond_false t152 ?_
    refine wp_skip ?_
    clear t152
    refine wp_seq ?_
    refine wi_ A (h3_ t1 t6 t7) (rv_ 0 (.pointer (some ⟨gq, 0, none⟩)) (fun a ee => execFldAn (k := 0) rfl (ee _) rfl) (rv_ 1 (pv) (fun a ee => execLdL rfl (ee _) (an_at0 (on9 FQ BB))) (rv_ 2 (.pointer (some ⟨gq, 4, none⟩)) (fun a ee => execFldAn (k := 4) rfl (ee _) rfl) (rv_ 3 (.int .i64 nc) (fun a ee => execLd3 rfl (ee _) (an_at4 (on9 FQ BB))) (rv_ 4 (.pointer (some ⟨gq, 5, none⟩)) (fun a ee => execFldAn (k := 5) rfl (ee _) rfl) (rv_ 5 (.int .i64 nl) (fun a ee => execLd3 rfl (ee _) (an_at5 (on9 FQ BB))) (rc_ 6 (I.cells p L nc nl _ X15 (FP.on BB) (by omega) hnc hnl) fun e X17 hh => ?_)))))))
    obtain ⟨v160, y160, he, hk1, hk2, hb⟩ := hh
    refine ⟨_, he, ?_⟩
    have bQ : Below X15.heap.size X15 X17 := hb
    have Fv160 : (LB X17 v160 (zl (clE L nc nl) (nc).toNat) y160 (clC p (nl).toNat)) := lb_of hk1 hk2 (fun t ht => cl_byte ((FP.on BB)).bytes ht)
    replace FW := (FW.on bQ)
    replace BB := BB.trans (bQ.mono BB.size)
    clear bQ
    refine rf_ [(12, v160), (13, .int .i64 ((clE L nc nl : Nat) : Int))] (h3_ t1 t6 t7) ?_
    rintro a A ⟨t12, t13, -⟩ ⟨t1, t6, t7, -⟩
    have BW2 := BW.trans (BB.mono BW.size)
    refine wp_seq ?_
    refine wi_ A (h5_ t1 t6 t7 t12 t13) (rv_ 2 (.bool true) (fun a ee => execDec (execEqN (p := clE L nc nl) (q := clE L nc nl) rfl (ee _) (ee _)) (decide_eq_true (by rfl))) (rc_ 6 (alike15 _ _ _ _ (zl (clE L nc nl) nc.toNat) _ _ X17 Fv160 FW.lb (fun _ _ _ _ => rfl) (by omega)) (cb_ fun X18 bQ => ?_)))
    replace FW := (FW.on bQ)
    replace Fv160 := (Fv160.on bQ)
    replace BB := BB.trans (bQ.mono BB.size)
    clear bQ
    refine rg_ [(2, .bool true)] ?_
    rintro a A ⟨t2, -⟩
    have BW3 := BW.trans (BB.mono BW.size)
    refine wp_ret ?_
    refine bodyPost_ret (results_tmp rfl _ _ _) A.2 ⟨?_, BW3⟩
    show Ending.returned (a.eval (.tmp 2)) = _
    rw [t2]
end Go.Proofs.Ytmfaapbhehhlpaa.Noi
