import Derived.Test.YtdecmmcphcomhaaU9a
import Derived.Test.YtdecmmcphcomhaaQ9v
namespace Go.Proofs.Ytdecmmcphcomhaa.Brd
open Go.RowKit Gf8 Aes By8 Cel Cf Tap Drw Prm
/- Stage 12's BraidWeaves. Written by tools/mkU9b.py. -/

def abS (j : Nat) : ByteArray := if j = 0 then ⟨#[97]⟩ else ⟨#[98]⟩
def cS (_ : Nat) : ByteArray := ⟨#[99]⟩
def lnS (j : Nat) : Nat := if j = 0 then 2 else 1
def ggS0 (j : Nat) : Nat → ByteArray := if j = 0 then abS else cS
def wS3 (j : Nat) : ByteArray := ggS0 (gN (fun j => if j = 0 then 1 else if j = 1 then 0 else 0) j) (cntC (gN (fun j => if j = 0 then 1 else if j = 1 then 0 else 0)) (gN (fun j => if j = 0 then 1 else if j = 1 then 0 else 0) j) j)
section
variable {o : Oper} {a : Act} {w : World}
theorem execBsS2 (ho : o.op = .buildSlice 45 2 #[(0, .const (.string ⟨#[97]⟩)), (1, .const (.string ⟨#[98]⟩))]) : (execOp a.eval o).run Try.prog w = .ok (.value (.slice (some ⟨w.heap.size, 0, none⟩) 2 2)) (w.alloc (.cells #[.string ⟨#[97]⟩, .string ⟨#[98]⟩] 9)) := by
  unfold execOp
  simp only [ho]
  simp [go_sem, Act.eval]
theorem execBsS1 (ho : o.op = .buildSlice 45 1 #[(0, .const (.string ⟨#[99]⟩))]) : (execOp a.eval o).run Try.prog w = .ok (.value (.slice (some ⟨w.heap.size, 0, none⟩) 1 1)) (w.alloc (.cells #[.string ⟨#[99]⟩] 9)) := by
  unfold execOp
  simp only [ho]
  simp [go_sem, Act.eval]
theorem execBsLS {x y : Operand} {b c : Nat} (ho : o.op = .buildSlice 48 2 #[(0, x), (1, y)]) (hx : a.eval x = .slice (some ⟨b, 0, none⟩) 2 2) (hy : a.eval y = .slice (some ⟨c, 0, none⟩) 1 1) : (execOp a.eval o).run Try.prog w = .ok (.value (.slice (some ⟨w.heap.size, 0, none⟩) 2 2)) (w.alloc (.cells #[.slice (some ⟨b, 0, none⟩) 2 2, .slice (some ⟨c, 0, none⟩) 1 1] 45)) := by
  unfold execOp
  simp only [ho, List.map_toArray, List.map_cons, List.map_nil, hx, hy]
  simp [go_sem]
theorem execNeSf {x y : Operand} {s : ByteArray} (ho : o.op = .binOp .neq 9 x y 9) (hx : a.eval x = .string s) (hy : a.eval y = .string s) : (execOp a.eval o).run Try.prog w = .ok (.value (.bool false)) w := by
  unfold execOp
  simp only [ho, hx, hy]
  simp [go_sem]
theorem execNeTh2 {x y : Operand} {p q r s : Int} (ho : o.op = .binOp .neq 59 x y 59) (hx : a.eval x = .agg (thC p q)) (hy : a.eval y = .agg (thC r s)) (e1 : p = r) (e2 : q = s) : (execOp a.eval o).run Try.prog w = .ok (.value (.bool false)) w := by
  subst e1
  subst e2
  exact execNeTh ho hx hy
theorem execBs2Th {x y : Operand} {p q r s : Int} (ho : o.op = .buildSlice 55 2 #[(0, x), (1, y)]) (hx : a.eval x = .agg (thC p q)) (hy : a.eval y = .agg (thC r s)) : (execOp a.eval o).run Try.prog w = .ok (.value (.slice (some ⟨w.heap.size, 0, none⟩) 2 2)) (w.alloc (.cells #[.int .i64 p, .int .i64 q, .int .i64 r, .int .i64 s] 59)) := by
  unfold execOp
  simp only [ho, List.map_toArray, List.map_cons, List.map_nil, hx, hy]
  simp [go_sem, thC]
theorem execAllTh (ho : o.op = .alloc 59) : (execOp a.eval o).run Try.prog w = .ok (.value (.pointer (some ⟨w.heap.size, 0, none⟩))) (w.alloc (.cells (thC 0 0) 59)) := by
  unfold execOp thC
  simp only [ho]
  simp [go_sem]
theorem execStTh1 {x y : Operand} {g : Nat} {p q p0 q0 : Int} (ho : o.op = .store 59 x y) (hx : a.eval x = .pointer (some ⟨g, 0, none⟩)) (hy : a.eval y = .agg (thC p q)) (hg : w.heap[g]? = some (.cells (thC p0 q0) 59)) : (execOp a.eval o).run Try.prog w = .ok .skip (w.setRow g (thC p q)) := by
  have h := execStMid (P := Try.prog) ho hx hy hg (by show 0 + 2 ≤ 2; omega) (size_Th p q) (by simp [thC, Value.oneCell'])
  exact h
end
theorem th_at0 {W : World} {g : Nat} {p q : Int} {t : TypeId} (h : W.heap[g]? = some (.cells (thC p q) t)) : W.cell? ⟨g, 0, none⟩ = some (.int .i64 p) := by rw [cell_of_row _ _ _ _ _ _ h]; rfl
theorem th_at1 {W : World} {g : Nat} {p q : Int} {t : TypeId} (h : W.heap[g]? = some (.cells (thC p q) t)) : W.cell? ⟨g, 0 + 1, none⟩ = some (.int .i64 q) := by rw [cell_of_row _ _ _ _ _ _ h]; rfl
theorem litS2 (X : World) : SliceS (X.alloc (.cells #[.string ⟨#[97]⟩, .string ⟨#[98]⟩] 9)) (.slice (some ⟨X.heap.size, 0, none⟩) 2 2) 2 abS := by
  refine ⟨⟨_, _, rfl, Nat.le_refl _, by unfold maxLen; omega, fun _ => ⟨X.heap.size, 0, rfl, by simp, fun j hj => ?_⟩⟩⟩
  rw [cell_of_row _ _ _ _ _ _ (heapNew X _)]
  match j, hj with
  | 0, _ => rfl
  | 1, _ => rfl
  | j + 2, h => omega
theorem litS1 (X : World) : SliceS (X.alloc (.cells #[.string ⟨#[99]⟩] 9)) (.slice (some ⟨X.heap.size, 0, none⟩) 1 1) 1 cS := by
  refine ⟨⟨_, _, rfl, Nat.le_refl _, by unfold maxLen; omega, fun _ => ⟨X.heap.size, 0, rfl, by simp, fun j hj => ?_⟩⟩⟩
  rw [cell_of_row _ _ _ _ _ _ (heapNew X _)]
  match j, hj with
  | 0, _ => rfl
  | j + 1, h => omega
theorem lls_lit {X : World} {b c : Nat} (h0 : SliceS (X.alloc (.cells #[.slice (some ⟨b, 0, none⟩) 2 2, .slice (some ⟨c, 0, none⟩) 1 1] 45)) (.slice (some ⟨b, 0, none⟩) 2 2) 2 abS) (h1 : SliceS (X.alloc (.cells #[.slice (some ⟨b, 0, none⟩) 2 2, .slice (some ⟨c, 0, none⟩) 1 1] 45)) (.slice (some ⟨c, 0, none⟩) 1 1) 1 cS) :
    LLS (X.alloc (.cells #[.slice (some ⟨b, 0, none⟩) 2 2, .slice (some ⟨c, 0, none⟩) 1 1] 45)) (.slice (some ⟨X.heap.size, 0, none⟩) 2 2) 2 (x2 (.slice (some ⟨b, 0, none⟩) 2 2) (.slice (some ⟨c, 0, none⟩) 1 1)) lnS ggS0 := by
  refine ⟨⟨_, _, rfl, fun _ => ⟨X.heap.size, 0, rfl, by simp, fun j hj => ?_⟩⟩, fun j hj => ?_⟩
  · rw [cell_of_row _ _ _ _ _ _ (heapNew X _)]
    match j, hj with
    | 0, _ => rfl
    | 1, _ => rfl
    | j + 2, h => omega
  · match j, hj with
    | 0, _ => exact h0
    | 1, _ => exact h1
    | j + 2, h => omega
theorem FmT.base {B C k : Nat} {gb cp ln : Nat → Nat} {hh : Nat → Nat → Int} {W : World} (h : FmT C k gb cp ln hh W) (hB : B ≤ C) : FmT B k gb cp ln hh W := ⟨fun t ht => ownD_base (h.rows t ht) hB, h.dis⟩
theorem ownL_cellT {W : World} {B n g cap j : Nat} {y : Nat → Value} (h : W.ownsRow B 55 1 (.slice (some ⟨g, 0, none⟩) n cap) n (lL y n)) (hj : j < n) : W.cell? ⟨g, 0 + j, none⟩ = some (y j) := by
  rw [Nat.zero_add]
  rcases h.2 with ⟨e, _⟩ | ⟨g', cap', cur, e, _, hg, h1, h2, h3, h4⟩
  · cases e
  · injection e with e1 _ _
    injection e1 with e1
    injection e1 with e1 _ _
    subst e1
    rw [cell_of_row _ _ _ _ _ _ hg, ← Array.getElem?_toList]
    have h5 : (cur.toList.take (n * 1))[j]? = some (y j) := by rw [h4]; exact lL_get _ _ _ hj
    rw [List.getElem?_take_of_lt (by omega)] at h5
    exact h5
theorem llt_of {W : World} {B C J : Nat} {p : Value} {gb cp ln : Nat → Nat} {hh : Nat → Nat → Int} (hm : FmT B J gb cp ln hh W) (hp : W.ownsRow C 55 1 p J (lL (xT gb cp ln) J)) : LLT W p J (xT gb cp ln) ln hh := by
  refine ⟨?_, fun j hj => th_take (hm.rows j hj) (by omega)⟩
  obtain ⟨a, c, e⟩ := shpO hp
  refine ⟨a, c, e, fun h0 => ?_⟩
  obtain ⟨g, c', e2, _, hg⟩ := ownL_some9 hp h0
  rw [e] at e2
  injection e2 with q1 _ q3
  refine ⟨g, 0, q1, hg, fun j hj => ?_⟩
  rw [e, q1] at hp
  exact ownL_cellT hp hj
theorem we_len {cf lf : Nat → Int} {n J : Nat} (hG : GoodL lf J) : zl (weE cf n (gN lf) J) n ≤ 1048576 := by
  unfold weE
  by_cases h : stQ cf n (fun j => (gN lf j : Int)) J = true
  · rw [if_pos h, zl_ok]
    have h1 : n = sumN (gN lf) J := stQ_len (we_st hG h)
    have := hG.2
    omega
  · rw [if_neg h, zl_no (by decide)]
    omega
theorem wv_rw (cf : Nat → Int) {lf : Nat → Int} {n J : Nat} (hG : GoodL lf J) {t : Nat} (ht : t < zl (weE cf n (gN lf) J) n * 2) : wvH cf (chH (gN lf)) t = rwH cf t := by
  unfold weE at ht
  by_cases h : stQ cf n (fun j => (gN lf j : Int)) J = true
  · rw [if_pos h, zl_ok] at ht
    have hp : IsPat (gN lf) J n (gN cf) := stQ_pat (we_st hG h)
    have hv := hp.vis (k := t / 2) (by omega)
    unfold wvH rwH
    by_cases e : t % 2 = 0
    · rw [if_pos e, e]
      exact chH_0 hv
    · rw [if_neg e, show t % 2 = 1 by omega]
      exact chH_1 hv
  · rw [if_neg h, zl_no (by decide)] at ht
    omega
def zA (cf : Nat → Int) (i t : Nat) : Int := if t < i * 2 then -5 else rwH cf t
theorem zA_0 (cf : Nat → Int) (t : Nat) : zA cf 0 t = rwH cf t := if_neg (by omega)
theorem zA_at (cf : Nat → Int) {i t : Nat} (h : i * 2 ≤ t) : zA cf i t = rwH cf t := if_neg (by omega)
theorem zA_next (cf : Nat → Int) (i t : Nat) : setT (zA cf i) i (-5) (-5) t = zA cf (i + 1) t := by
  unfold setT zA
  by_cases h0 : t = i * 2
  · rw [if_pos h0, if_pos (by omega)]
  · rw [if_neg h0]
    by_cases h1 : t = i * 2 + 1
    · rw [if_pos h1, if_pos (by omega)]
    · rw [if_neg h1]
      by_cases h2 : t < i * 2
      · rw [if_pos h2, if_pos (by omega)]
      · rw [if_neg h2, if_neg (by omega)]
/-- What lies while the woven lists are looked at: b, what was wanted, the chunks. -/
structure WvB (V U W : World) (bv wv p : Value) (M J : Nat) (gb cp ln : Nat → Nat) (hw : Nat → Int) (hh : Nat → Nat → Int) : Prop where
  rb : W.ownsRow U.heap.size 59 2 bv M (intsL (M * 2) hw)
  rw : W.ownsRow V.heap.size 58 2 wv M (intsL (M * 2) hw)
  ft : FmT V.heap.size J gb cp ln hh W
  fp : W.ownsRow V.heap.size 55 1 p J (lL (xT gb cp ln) J)
  gl : ∀ t, t < J → gb t < U.heap.size
  hv : V.heap.size ≤ U.heap.size
/-- And a. -/
structure WvS (V U W : World) (av bv wv p : Value) (M J : Nat) (gb cp ln : Nat → Nat) (ha hw : Nat → Int) (hh : Nat → Nat → Int) : Prop where
  ra : W.ownsRow U.heap.size 59 2 av M (intsL (M * 2) ha)
  rb : W.ownsRow U.heap.size 59 2 bv M (intsL (M * 2) hw)
  rw : W.ownsRow V.heap.size 58 2 wv M (intsL (M * 2) hw)
  ft : FmT V.heap.size J gb cp ln hh W
  fp : W.ownsRow V.heap.size 55 1 p J (lL (xT gb cp ln) J)
  ab : ∀ k, av.ownBlock = some k → bv.ownBlock ≠ some k
  gl : ∀ t, t < J → gb t < U.heap.size
  hv : V.heap.size ≤ U.heap.size
  sz : U.heap.size ≤ W.heap.size
def updH (hh : Nat → Nat → Int) (j : Nat) (h : Nat → Int) : Nat → Nat → Int := fun s => if s = j then h else hh s
theorem updH_at {hh : Nat → Nat → Int} {j : Nat} {h : Nat → Int} : updH hh j h j = h := if_pos rfl
theorem updH_o {hh : Nat → Nat → Int} {j s : Nat} {h : Nat → Int} (e : s ≠ j) : updH hh j h s = hh s := if_neg e
section
variable {V U W W' : World} {av bv wv p : Value} {M J : Nat} {gb cp ln : Nat → Nat} {ha hw : Nat → Int} {hh : Nat → Nat → Int}
theorem WvS.on (h : WvS V U W av bv wv p M J gb cp ln ha hw hh) (b : Below W.heap.size W W') : WvS V U W' av bv wv p M J gb cp ln ha hw hh :=
  ⟨ownD_below h.ra b, ownD_below h.rb b, ownD_below h.rw b, h.ft.on b, ownD_below h.fp b, h.ab, h.gl, h.hv, Nat.le_trans h.sz b.size⟩
theorem WvB.on (h : WvB V U W bv wv p M J gb cp ln hw hh) (b : Below W.heap.size W W') : WvB V U W' bv wv p M J gb cp ln hw hh :=
  ⟨ownD_below h.rb b, ownD_below h.rw b, h.ft.on b, ownD_below h.fp b, h.gl, h.hv⟩
theorem WvS.cgA {ha' : Nat → Int} (h : WvS V U W av bv wv p M J gb cp ln ha hw hh) (e : ∀ t, t < M * 2 → ha t = ha' t) : WvS V U W av bv wv p M J gb cp ln ha' hw hh :=
  ⟨th_cg h.ra e, h.rb, h.rw, h.ft, h.fp, h.ab, h.gl, h.hv, h.sz⟩
theorem WvS.setA {g c : Nat} {ha' : Nat → Int} (h : WvS V U W av bv wv p M J gb cp ln ha hw hh) (e : av = .slice (some ⟨g, 0, none⟩) M c) (own : W'.ownsRow U.heap.size 59 2 (.slice (some ⟨g, 0, none⟩) M c) M (intsL (M * 2) ha')) (gr : W.grownBy W' (some g)) : WvS V U W' av bv wv p M J gb cp ln ha' hw hh := by
  subst e
  have hg := (h.ra.lt g rfl).1
  exact ⟨own, ownW_grown h.rb gr (fun k q z => h.ab g rfl (q.trans z.symm)), own_overT h.rw h.ra gr (by decide), h.ft.grown gr (fun t ht z => by have a1 := h.gl t ht; have a2 := Option.some.inj z; omega), own_overT h.fp h.ra gr (by decide), h.ab, h.gl, h.hv, Nat.le_trans h.sz gr.size⟩
theorem WvS.noA (h : WvS V U W av bv wv p M J gb cp ln ha hw hh) (gr : W.grownBy W' av.ownBlock) : WvB V U W' bv wv p M J gb cp ln hw hh :=
  ⟨ownW_grown h.rb gr (fun k q z => h.ab k z q), own_overT h.rw h.ra gr (by decide), h.ft.over h.gl h.ra gr, own_overT h.fp h.ra gr (by decide), h.gl, h.hv⟩
theorem WvB.setC {j : Nat} {h' : Nat → Int} (h : WvB V U W bv wv p M J gb cp ln hw hh) (hj : j < J) (own : W'.ownsRow V.heap.size 59 2 (.slice (some ⟨gb j, 0, none⟩) (ln j + 1) (cp j)) (ln j + 1) (intsL ((ln j + 1) * 2) h')) (gr : W.grownBy W' (some (gb j))) : WvB V U W' bv wv p M J gb cp ln hw (updH hh j h') := by
  have hr := h.ft.rows j hj
  refine ⟨ownW_grown h.rb gr (fun k q z => ?_), own_overT h.rw hr gr (by decide), ⟨fun t ht => ?_, h.ft.dis⟩, own_overT h.fp hr gr (by decide), h.gl, h.hv⟩
  · have a1 := (h.rb.lt k q).1
    have a2 := h.gl j hj
    have a3 := Option.some.inj z
    omega
  · by_cases e : t = j
    · subst e
      rw [updH_at]
      exact own
    · rw [updH_o e]
      exact ownW_grown (h.ft.rows t ht) gr (fun k q z => by
        have a1 : gb t = k := Option.some.inj q
        have a2 := Option.some.inj z
        exact h.ft.dis t j ht hj e (a1.trans a2.symm))
end
/-- append of two things; of what comes of it the length alone is told. -/
theorem stepApp2Th {ops : Array Oper} {Q : Exit → Act → World → Prop} {K : Act → World → Prop} {j : Nat} {o : Oper} {a : Act} {W : World} {s x : Operand} {B n g : Nat} {v : Value} {xs : List Value} {p q r t : Int} (hos : ops[j]? = some o) (hgd : Region.wanted o (yielded ops a.tmps) = true)
    (ho : o.op = .call { callee := .builtin .append, args := #[s, x], argTypes := #[55, 55] }) (hs : a.eval s = v) (hx : a.eval x = .slice (some ⟨g, 0, none⟩) 2 2) (hown : W.ownsRow B 59 2 v n xs) (hg : W.heap[g]? = some (.cells #[.int .i64 p, .int .i64 q, .int .i64 r, .int .i64 t] 59)) (hn : n + 2 ≤ 8000000000000) (hB : B ≤ W.heap.size)
    (hK : ∀ v' W', (∃ g c, v' = .slice g (n + 2) c) → W.grownBy W' v.ownBlock → K (a.put o.dst v') W') : wpOp Try.prog ops Q j K a W := by
  obtain ⟨i, i1, i2, i3, i4⟩ := infoTh
  obtain ⟨v', W', run, q1, q2⟩ := execAppO (W := W) (m := 2) (c := 2) (news := [.int .i64 p, .int .i64 q, .int .i64 r, .int .i64 t]) ho Try.underlying55 i1 i2 i3 i4 (by simp [Value.cells, thC]) (by decide) hs hown hx (by simp) (fun j u hu => by
    rw [Go.WideShapes.add_plain, cell_of_row _ _ _ _ _ _ hg, Nat.zero_add, ← Array.getElem?_toList]
    exact hu) (fun u hu => by
    simp at hu
    rcases hu with rfl | rfl | rfl | rfl <;> rfl) (by unfold maxLen; omega) (by omega) hB
  refine stepV hos hgd run (hK v' W' ?_ q2)
  obtain ⟨g', c', e, _, _⟩ := ownL_some9 q1 (by omega)
  exact ⟨_, c', e⟩
set_option maxRecDepth 100000 in
set_option maxHeartbeats 4000000 in
/-- BraidWeaves. -/
theorem weaves_any (cf lf : Nat → Int) (n J : Nat) (u0 v : Value) (V : World) (FC : SliceI V u0 n cf) (hn17 : n ≤ 17592186043904) (hz : ∀ l c, u0 = .slice none l c → c = 0) (FI : SliceI V v J lf) (hJ17 : J ≤ 17592186043904) :
    Calls Try.prog 5 #[u0, v] V fun e w' => e = .returned (.bool true) ∧ Below V.heap.size V w' := by
  have FIV := FI
  go_enter Try.func5, Try.ntmps5
  refine wp_seq ?_
  refine wp_region_sqK 232 [(0, 4)] (fun i_ => match i_ with | 0 => .bool false | _ => undef) rfl (by kernel_rfl) (by decide) (by decide) ?_ ?_
  · intro i_ hi_ a hf hv hn
    match i_, hi_ with
    | 0, _ => exact stepV rfl rfl (execAsgB rfl rfl) ⟨⟨_, rfl, rfl⟩, rfl⟩
    | k_ + 1, h_ => exact absurd h_ (by simp)
  intro a h1 h2 h3 h4
  have t0 : a.eval (.tmp 0) = u0 := (h3 0 (by decide)).trans rfl
  have t1 : a.eval (.tmp 1) = v := (h3 1 (by decide)).trans rfl
  have A : a.tmps.size = 232 ∧ a.defers = [] := ⟨h1, h2⟩
  have BW : Below V.heap.size V V := Below.refl _ _
  clear h1 h2 h3 h4
  refine wp_seq ?_
  refine wp_region_sq (σ := Nat × Nat × Nat × Nat × Value) 232 [(0, 24), (1, 25), (2, 26), (3, 27), (4, 28), (5, 23), (6, 29), (7, 30), (8, 5), (9, 6)] (fun j_ s X => match j_ with | 0 => Below V.heap.size V X | 1 => Below V.heap.size V X ∧ (SliceI X (.slice (some ⟨s.1, 0, none⟩) 3 3) (3) (fun j => if j = 0 then 1 else if j = 1 then 0 else 0)) | 2 => Below V.heap.size V X ∧ (SliceI X (.slice (some ⟨s.1, 0, none⟩) 3 3) (3) (fun j => if j = 0 then 1 else if j = 1 then 0 else 0)) ∧ (SliceS X (.slice (some ⟨s.2.1, 0, none⟩) 2 2) 2 abS) | 3 => Below V.heap.size V X ∧ (SliceI X (.slice (some ⟨s.1, 0, none⟩) 3 3) (3) (fun j => if j = 0 then 1 else if j = 1 then 0 else 0)) ∧ (SliceS X (.slice (some ⟨s.2.1, 0, none⟩) 2 2) 2 abS) ∧ (SliceS X (.slice (some ⟨s.2.2.1, 0, none⟩) 1 1) 1 cS) | 4 => Below V.heap.size V X ∧ (SliceI X (.slice (some ⟨s.1, 0, none⟩) 3 3) (3) (fun j => if j = 0 then 1 else if j = 1 then 0 else 0)) ∧ (SliceS X (.slice (some ⟨s.2.1, 0, none⟩) 2 2) 2 abS) ∧ (SliceS X (.slice (some ⟨s.2.2.1, 0, none⟩) 1 1) 1 cS) ∧ (LLS X (.slice (some ⟨s.2.2.2.1, 0, none⟩) 2 2) 2 (x2 (.slice (some ⟨s.2.1, 0, none⟩) 2 2) (.slice (some ⟨s.2.2.1, 0, none⟩) 1 1)) lnS ggS0) | 5 => Below V.heap.size V X ∧ (SliceI X (.slice (some ⟨s.1, 0, none⟩) 3 3) (3) (fun j => if j = 0 then 1 else if j = 1 then 0 else 0)) ∧ (SliceS X (.slice (some ⟨s.2.1, 0, none⟩) 2 2) 2 abS) ∧ (SliceS X (.slice (some ⟨s.2.2.1, 0, none⟩) 1 1) 1 cS) ∧ (LLS X (.slice (some ⟨s.2.2.2.1, 0, none⟩) 2 2) 2 (x2 (.slice (some ⟨s.2.1, 0, none⟩) 2 2) (.slice (some ⟨s.2.2.1, 0, none⟩) 1 1)) lnS ggS0) ∧ (SliceS X s.2.2.2.2 3 wS3) | 6 => Below V.heap.size V X ∧ (SliceI X (.slice (some ⟨s.1, 0, none⟩) 3 3) (3) (fun j => if j = 0 then 1 else if j = 1 then 0 else 0)) ∧ (SliceS X (.slice (some ⟨s.2.1, 0, none⟩) 2 2) 2 abS) ∧ (SliceS X (.slice (some ⟨s.2.2.1, 0, none⟩) 1 1) 1 cS) ∧ (LLS X (.slice (some ⟨s.2.2.2.1, 0, none⟩) 2 2) 2 (x2 (.slice (some ⟨s.2.1, 0, none⟩) 2 2) (.slice (some ⟨s.2.2.1, 0, none⟩) 1 1)) lnS ggS0) ∧ (SliceS X s.2.2.2.2 3 wS3) | 7 => Below V.heap.size V X ∧ (SliceI X (.slice (some ⟨s.1, 0, none⟩) 3 3) (3) (fun j => if j = 0 then 1 else if j = 1 then 0 else 0)) ∧ (SliceS X (.slice (some ⟨s.2.1, 0, none⟩) 2 2) 2 abS) ∧ (SliceS X (.slice (some ⟨s.2.2.1, 0, none⟩) 1 1) 1 cS) ∧ (LLS X (.slice (some ⟨s.2.2.2.1, 0, none⟩) 2 2) 2 (x2 (.slice (some ⟨s.2.1, 0, none⟩) 2 2) (.slice (some ⟨s.2.2.1, 0, none⟩) 1 1)) lnS ggS0) ∧ (SliceS X s.2.2.2.2 3 wS3) | 8 => Below V.heap.size V X ∧ (SliceI X (.slice (some ⟨s.1, 0, none⟩) 3 3) (3) (fun j => if j = 0 then 1 else if j = 1 then 0 else 0)) ∧ (SliceS X (.slice (some ⟨s.2.1, 0, none⟩) 2 2) 2 abS) ∧ (SliceS X (.slice (some ⟨s.2.2.1, 0, none⟩) 1 1) 1 cS) ∧ (LLS X (.slice (some ⟨s.2.2.2.1, 0, none⟩) 2 2) 2 (x2 (.slice (some ⟨s.2.1, 0, none⟩) 2 2) (.slice (some ⟨s.2.2.1, 0, none⟩) 1 1)) lnS ggS0) ∧ (SliceS X s.2.2.2.2 3 wS3) | 9 => Below V.heap.size V X ∧ (SliceI X (.slice (some ⟨s.1, 0, none⟩) 3 3) (3) (fun j => if j = 0 then 1 else if j = 1 then 0 else 0)) ∧ (SliceS X (.slice (some ⟨s.2.1, 0, none⟩) 2 2) 2 abS) ∧ (SliceS X (.slice (some ⟨s.2.2.1, 0, none⟩) 1 1) 1 cS) ∧ (LLS X (.slice (some ⟨s.2.2.2.1, 0, none⟩) 2 2) 2 (x2 (.slice (some ⟨s.2.1, 0, none⟩) 2 2) (.slice (some ⟨s.2.2.1, 0, none⟩) 1 1)) lnS ggS0) ∧ (SliceS X s.2.2.2.2 3 wS3) | _ => Below V.heap.size V X ∧ (SliceI X (.slice (some ⟨s.1, 0, none⟩) 3 3) (3) (fun j => if j = 0 then 1 else if j = 1 then 0 else 0)) ∧ (SliceS X (.slice (some ⟨s.2.1, 0, none⟩) 2 2) 2 abS) ∧ (SliceS X (.slice (some ⟨s.2.2.1, 0, none⟩) 1 1) 1 cS) ∧ (LLS X (.slice (some ⟨s.2.2.2.1, 0, none⟩) 2 2) 2 (x2 (.slice (some ⟨s.2.1, 0, none⟩) 2 2) (.slice (some ⟨s.2.2.1, 0, none⟩) 1 1)) lnS ggS0) ∧ (SliceS X s.2.2.2.2 3 wS3)) (fun s => fun i_ => match i_ with | 0 => .slice (some ⟨s.1, 0, none⟩) 3 3 | 1 => .slice (some ⟨s.2.1, 0, none⟩) 2 2 | 2 => .slice (some ⟨s.2.2.1, 0, none⟩) 1 1 | 3 => .slice (some ⟨s.2.2.2.1, 0, none⟩) 2 2 | 4 => .tuple #[s.2.2.2.2, .int .i64 ((0 : Nat) : Int)] | 5 => .tuple #[s.2.2.2.2, .int .i64 ((0 : Nat) : Int)] | 6 => s.2.2.2.2 | 7 => .int .i64 ((0 : Nat) : Int) | 8 => s.2.2.2.2 | 9 => .int .i64 ((0 : Nat) : Int) | _ => undef) (0, 0, 0, 0, undef) A.1 (by kernel_rfl) (by decide) (by decide) (Below.refl _ _) ?_ ?_
  · intro i_ hi_ s a X hf hv hn hS
    match i_, hi_ with
    | 0, _ =>
      refine stepV rfl rfl (execBsI3 (x := 1) (y := 0) (z := 0) rfl) ⟨(X.heap.size, s.2.1, s.2.2.1, s.2.2.2.1, s.2.2.2.2), ⟨_, rfl, rfl⟩, ⟨(hS).trans (((belNew X _)).mono (hS).size), sliceI3 X 1 0 0 (by omega) (by omega) (by omega)⟩, fun i hi => ?_⟩
      omega
    | 1, _ =>
      refine stepV rfl rfl (execBsS2 rfl) ⟨(s.1, X.heap.size, s.2.2.1, s.2.2.2.1, s.2.2.2.2), ⟨_, rfl, rfl⟩, ⟨(hS.1).trans (((belNew X _)).mono (hS.1).size), (hS.2.on (belNew X _)), litS2 X⟩, fun i hi => ?_⟩
      match i, hi with
      | 0, _ => rfl
      | n_ + 1, h_ => omega
    | 2, _ =>
      refine stepV rfl rfl (execBsS1 rfl) ⟨(s.1, s.2.1, X.heap.size, s.2.2.2.1, s.2.2.2.2), ⟨_, rfl, rfl⟩, ⟨(hS.1).trans (((belNew X _)).mono (hS.1).size), (hS.2.1.on (belNew X _)), (hS.2.2.on (belNew X _)), litS1 X⟩, fun i hi => ?_⟩
      match i, hi with
      | 0, _ => rfl
      | 1, _ => rfl
      | n_ + 2, h_ => omega
    | 3, _ =>
      refine stepV rfl rfl (execBsLS rfl (hv 1 (by decide) _ rfl _ rfl) (hv 2 (by decide) _ rfl _ rfl)) ⟨(s.1, s.2.1, s.2.2.1, X.heap.size, s.2.2.2.2), ⟨_, rfl, rfl⟩, ⟨(hS.1).trans (((belNew X _)).mono (hS.1).size), (hS.2.1.on (belNew X _)), (hS.2.2.1.on (belNew X _)), (hS.2.2.2.on (belNew X _)), lls_lit (hS.2.2.1.on (belNew X _)) (hS.2.2.2.on (belNew X _))⟩, fun i hi => ?_⟩
      match i, hi with
      | 0, _ => rfl
      | 1, _ => rfl
      | 2, _ => rfl
      | n_ + 3, h_ => omega
    | 4, _ =>
      refine stepC rfl rfl (execCall2 Try.func22 (by kernel_rfl) (by kernel_rfl) rfl (hv 0 (by decide) _ rfl _ rfl) (hv 3 (by decide) _ rfl _ rfl)) (pweaveS (fun j => if j = 0 then 1 else if j = 1 then 0 else 0) 3 2 _ lnS ggS0 _ _ X hS.2.1 (by omega) hS.2.2.2.2 (by omega) (by decide)) fun e w' hh => ?_
      obtain ⟨r0_, he, hk, hb⟩ := hh
      rw [show weE (fun j => if j = 0 then 1 else if j = 1 then 0 else 0) 3 lnS 2 = 0 by decide] at he
      rw [show weE (fun j => if j = 0 then 1 else if j = 1 then 0 else 0) 3 lnS 2 = 0 by decide, zl_ok] at hk
      refine ⟨_, he, (s.1, s.2.1, s.2.2.1, s.2.2.2.1, r0_), ⟨_, rfl, rfl⟩, ⟨(hS.1).trans ((hb).mono (hS.1).size), (hS.2.1.on hb), (hS.2.2.1.on hb), (hS.2.2.2.1.on hb), (hS.2.2.2.2.on hb), own_strs hk⟩, fun i hi => ?_⟩
      match i, hi with
      | 0, _ => rfl
      | 1, _ => rfl
      | 2, _ => rfl
      | 3, _ => rfl
      | n_ + 4, h_ => omega
    | 5, _ => exact stepV rfl rfl (execMvB rfl (hv 4 (by decide) _ rfl _ rfl)) ⟨s, ⟨_, rfl, rfl⟩, hS, fun _ _ => rfl⟩
    | 6, _ => exact stepV rfl rfl (execExtT rfl (hv 5 (by decide) _ rfl _ rfl) rfl) ⟨s, ⟨_, rfl, rfl⟩, hS, fun _ _ => rfl⟩
    | 7, _ => exact stepV rfl rfl (execExtT rfl (hv 5 (by decide) _ rfl _ rfl) rfl) ⟨s, ⟨_, rfl, rfl⟩, hS, fun _ _ => rfl⟩
    | 8, _ => exact stepV rfl rfl (execAsgB rfl (hv 6 (by decide) _ rfl _ rfl)) ⟨s, ⟨_, rfl, rfl⟩, hS, fun _ _ => rfl⟩
    | 9, _ => exact stepV rfl rfl (execAsgB rfl (hv 7 (by decide) _ rfl _ rfl)) ⟨s, ⟨_, rfl, rfl⟩, hS, fun _ _ => rfl⟩
    | k_ + 10, h_ => exact absurd h_ (by simp)
  rintro ⟨g24, g25, g26, g27, l28⟩ a X1 h1 h2 h3 h4 hS
  replace hS : Below V.heap.size V X1 ∧ (SliceI X1 (.slice (some ⟨g24, 0, none⟩) 3 3) (3) (fun j => if j = 0 then 1 else if j = 1 then 0 else 0)) ∧ (SliceS X1 (.slice (some ⟨g25, 0, none⟩) 2 2) 2 abS) ∧ (SliceS X1 (.slice (some ⟨g26, 0, none⟩) 1 1) 1 cS) ∧ (LLS X1 (.slice (some ⟨g27, 0, none⟩) 2 2) 2 (x2 (.slice (some ⟨g25, 0, none⟩) 2 2) (.slice (some ⟨g26, 0, none⟩) 1 1)) lnS ggS0) ∧ (SliceS X1 l28 3 wS3) := hS
  obtain ⟨bX, Fg24, Fg25, Fg26, Fg27, Fl28⟩ := hS
  replace t0 := (h3 0 (by decide)).trans t0
  replace t1 := (h3 1 (by decide)).trans t1
  have t5 : a.eval (.tmp 5) = l28 := h4 8 _ rfl _ rfl
  have t6 : a.eval (.tmp 6) = .int .i64 ((0 : Nat) : Int) := h4 9 _ rfl _ rfl
  replace FC := (FC.on bX)
  replace FI := (FI.on bX)
  have ZX1 := bX.size
  replace BW := BW.trans (bX.mono BW.size)
  clear bX
  replace A := (⟨h1, h2.trans A.2⟩ : a.tmps.size = 232 ∧ a.defers = [])
  clear h1 h2 h3 h4
  clear Fg24
  clear Fg25
  clear Fg26
  clear Fg27
  obtain ⟨sb, so, sc, es, hsb, hsc⟩ := open_ss Fl28 (by omega)
  have cS : ∀ X, Below X1.heap.size X1 X → ∀ k, k < 3 → X.cell? ⟨sb, so + k, none⟩ = some (.string (wS3 k)) := fun X hX k hk => by rw [cell_below hX hsb]; exact hsc k hk
  refine wp_seq ?_
  refine wp_seq ?_
  refine wp_region_sq (σ := Unit) 232 [(0, 31), (1, 32), (2, 33), (3, 34), (4, 35), (5, 36), (6, 37), (7, 38), (8, 39), (9, 40), (10, 41), (11, 42), (12, 43), (13, 44), (14, 45), (15, 46), (16, 47), (17, 48), (18, 49), (19, 50), (20, 51), (21, 52), (22, 53), (23, 54), (24, 55)] (fun j_ s X => match j_ with | 0 => Below X1.heap.size X1 X | 1 => Below X1.heap.size X1 X | 2 => Below X1.heap.size X1 X | 3 => Below X1.heap.size X1 X | 4 => Below X1.heap.size X1 X | 5 => Below X1.heap.size X1 X | 6 => Below X1.heap.size X1 X | 7 => Below X1.heap.size X1 X | 8 => Below X1.heap.size X1 X | 9 => Below X1.heap.size X1 X | 10 => Below X1.heap.size X1 X | 11 => Below X1.heap.size X1 X | 12 => Below X1.heap.size X1 X | 13 => Below X1.heap.size X1 X | 14 => Below X1.heap.size X1 X | 15 => Below X1.heap.size X1 X | 16 => Below X1.heap.size X1 X | 17 => Below X1.heap.size X1 X | 18 => Below X1.heap.size X1 X | 19 => Below X1.heap.size X1 X | 20 => Below X1.heap.size X1 X | 21 => Below X1.heap.size X1 X | 22 => Below X1.heap.size X1 X | 23 => Below X1.heap.size X1 X | 24 => Below X1.heap.size X1 X | _ => Below X1.heap.size X1 X) (fun s => fun i_ => match i_ with | 0 => .int .i64 ((0 : Nat) : Int) | 1 => .bool false | 2 => .bool false | 3 => l28 | 4 => .int .i64 ((3 : Nat) : Int) | 5 => .bool false | 6 => .bool false | 7 => .bool false | 8 => l28 | 9 => .pointer (some ⟨sb, so + 0, none⟩) | 10 => .string ⟨#[99]⟩ | 11 => .bool false | 12 => .bool false | 13 => .bool false | 14 => l28 | 15 => .pointer (some ⟨sb, so + 1, none⟩) | 16 => .string ⟨#[97]⟩ | 17 => .bool false | 18 => .bool false | 19 => .bool false | 20 => l28 | 21 => .pointer (some ⟨sb, so + 2, none⟩) | 22 => .string ⟨#[98]⟩ | 23 => .bool false | 24 => .bool false | _ => undef) () A.1 (by kernel_rfl) (by decide) (by decide) (Below.refl _ _) ?_ ?_
  · intro i_ hi_ s a X hf hv hn hS
    match i_, hi_ with
    | 0, _ => exact stepV rfl rfl (execMvB rfl ((hf 6 (by decide)).trans t6)) ⟨s, ⟨_, rfl, rfl⟩, hS, fun _ _ => rfl⟩
    | 1, _ => exact stepV rfl rfl (execDec (execNeE (p := 0) (q := 0) rfl (hv 0 (by decide) _ rfl _ rfl) rfl) (decide_eq_false (by decide))) ⟨s, ⟨_, rfl, rfl⟩, hS, fun _ _ => rfl⟩
    | 2, _ => exact stepV rfl rfl (execMvB rfl (hv 1 (by decide) _ rfl _ rfl)) ⟨s, ⟨_, rfl, rfl⟩, hS, fun _ _ => rfl⟩
    | 3, _ => exact stepV rfl (wantedOf rfl (yieldedAt rfl rfl (show a.eval (.tmp 33) = .bool false from (hv 2 (by decide) _ rfl _ rfl)))) (execMvB rfl ((hf 5 (by decide)).trans t5)) ⟨s, ⟨_, rfl, rfl⟩, hS, fun _ _ => rfl⟩
    | 4, _ => exact stepV rfl (wantedOf rfl (yieldedAt rfl rfl (show a.eval (.tmp 33) = .bool false from (hv 2 (by decide) _ rfl _ rfl)))) (execLenS (len := 3) rfl (hv 3 (by decide) _ rfl _ rfl) Fl28.shp) ⟨s, ⟨_, rfl, rfl⟩, hS, fun _ _ => rfl⟩
    | 5, _ => exact stepV rfl (wantedOf rfl (yieldedAt rfl rfl (show a.eval (.tmp 33) = .bool false from (hv 2 (by decide) _ rfl _ rfl)))) (execDec (execNeN (p := 3) (q := 3) rfl (hv 4 (by decide) _ rfl _ rfl) rfl) (decide_eq_false (by decide))) ⟨s, ⟨_, rfl, rfl⟩, hS, fun _ _ => rfl⟩
    | 6, _ => exact stepV rfl rfl (execPickF rfl (hv 2 (by decide) _ rfl _ rfl) (hv 5 (by decide) _ rfl _ rfl)) ⟨s, ⟨_, rfl, rfl⟩, hS, fun _ _ => rfl⟩
    | 7, _ => exact stepV rfl rfl (execMvB rfl (hv 6 (by decide) _ rfl _ rfl)) ⟨s, ⟨_, rfl, rfl⟩, hS, fun _ _ => rfl⟩
    | 8, _ => exact stepV rfl (wantedOf rfl (yieldedAt rfl rfl (show a.eval (.tmp 38) = .bool false from (hv 7 (by decide) _ rfl _ rfl)))) (execMvB rfl ((hf 5 (by decide)).trans t5)) ⟨s, ⟨_, rfl, rfl⟩, hS, fun _ _ => rfl⟩
    | 9, _ => exact stepV rfl (wantedOf rfl (yieldedAt rfl rfl (show a.eval (.tmp 38) = .bool false from (hv 7 (by decide) _ rfl _ rfl)))) (execIdxS (k := 0) rfl ((hv 8 (by decide) _ rfl _ rfl).trans es) rfl (by omega)) ⟨s, ⟨_, rfl, rfl⟩, hS, fun _ _ => rfl⟩
    | 10, _ => exact stepV rfl (wantedOf rfl (yieldedAt rfl rfl (show a.eval (.tmp 38) = .bool false from (hv 7 (by decide) _ rfl _ rfl)))) (execLdS rfl (hv 9 (by decide) _ rfl _ rfl) (cS X hS 0 (by omega))) ⟨s, ⟨_, rfl, rfl⟩, hS, fun _ _ => rfl⟩
    | 11, _ => exact stepV rfl (wantedOf rfl (yieldedAt rfl rfl (show a.eval (.tmp 38) = .bool false from (hv 7 (by decide) _ rfl _ rfl)))) (execNeSf rfl (hv 10 (by decide) _ rfl _ rfl) rfl) ⟨s, ⟨_, rfl, rfl⟩, hS, fun _ _ => rfl⟩
    | 12, _ => exact stepV rfl rfl (execPickF rfl (hv 7 (by decide) _ rfl _ rfl) (hv 11 (by decide) _ rfl _ rfl)) ⟨s, ⟨_, rfl, rfl⟩, hS, fun _ _ => rfl⟩
    | 13, _ => exact stepV rfl rfl (execMvB rfl (hv 12 (by decide) _ rfl _ rfl)) ⟨s, ⟨_, rfl, rfl⟩, hS, fun _ _ => rfl⟩
    | 14, _ => exact stepV rfl (wantedOf rfl (yieldedAt rfl rfl (show a.eval (.tmp 44) = .bool false from (hv 13 (by decide) _ rfl _ rfl)))) (execMvB rfl ((hf 5 (by decide)).trans t5)) ⟨s, ⟨_, rfl, rfl⟩, hS, fun _ _ => rfl⟩
    | 15, _ => exact stepV rfl (wantedOf rfl (yieldedAt rfl rfl (show a.eval (.tmp 44) = .bool false from (hv 13 (by decide) _ rfl _ rfl)))) (execIdxS (k := 1) rfl ((hv 14 (by decide) _ rfl _ rfl).trans es) rfl (by omega)) ⟨s, ⟨_, rfl, rfl⟩, hS, fun _ _ => rfl⟩
    | 16, _ => exact stepV rfl (wantedOf rfl (yieldedAt rfl rfl (show a.eval (.tmp 44) = .bool false from (hv 13 (by decide) _ rfl _ rfl)))) (execLdS rfl (hv 15 (by decide) _ rfl _ rfl) (cS X hS 1 (by omega))) ⟨s, ⟨_, rfl, rfl⟩, hS, fun _ _ => rfl⟩
    | 17, _ => exact stepV rfl (wantedOf rfl (yieldedAt rfl rfl (show a.eval (.tmp 44) = .bool false from (hv 13 (by decide) _ rfl _ rfl)))) (execNeSf rfl (hv 16 (by decide) _ rfl _ rfl) rfl) ⟨s, ⟨_, rfl, rfl⟩, hS, fun _ _ => rfl⟩
    | 18, _ => exact stepV rfl rfl (execPickF rfl (hv 13 (by decide) _ rfl _ rfl) (hv 17 (by decide) _ rfl _ rfl)) ⟨s, ⟨_, rfl, rfl⟩, hS, fun _ _ => rfl⟩
    | 19, _ => exact stepV rfl rfl (execMvB rfl (hv 18 (by decide) _ rfl _ rfl)) ⟨s, ⟨_, rfl, rfl⟩, hS, fun _ _ => rfl⟩
    | 20, _ => exact stepV rfl (wantedOf rfl (yieldedAt rfl rfl (show a.eval (.tmp 50) = .bool false from (hv 19 (by decide) _ rfl _ rfl)))) (execMvB rfl ((hf 5 (by decide)).trans t5)) ⟨s, ⟨_, rfl, rfl⟩, hS, fun _ _ => rfl⟩
    | 21, _ => exact stepV rfl (wantedOf rfl (yieldedAt rfl rfl (show a.eval (.tmp 50) = .bool false from (hv 19 (by decide) _ rfl _ rfl)))) (execIdxS (k := 2) rfl ((hv 20 (by decide) _ rfl _ rfl).trans es) rfl (by omega)) ⟨s, ⟨_, rfl, rfl⟩, hS, fun _ _ => rfl⟩
    | 22, _ => exact stepV rfl (wantedOf rfl (yieldedAt rfl rfl (show a.eval (.tmp 50) = .bool false from (hv 19 (by decide) _ rfl _ rfl)))) (execLdS rfl (hv 21 (by decide) _ rfl _ rfl) (cS X hS 2 (by omega))) ⟨s, ⟨_, rfl, rfl⟩, hS, fun _ _ => rfl⟩
    | 23, _ => exact stepV rfl (wantedOf rfl (yieldedAt rfl rfl (show a.eval (.tmp 50) = .bool false from (hv 19 (by decide) _ rfl _ rfl)))) (execNeSf rfl (hv 22 (by decide) _ rfl _ rfl) rfl) ⟨s, ⟨_, rfl, rfl⟩, hS, fun _ _ => rfl⟩
    | 24, _ => exact stepV rfl rfl (execPickF rfl (hv 19 (by decide) _ rfl _ rfl) (hv 23 (by decide) _ rfl _ rfl)) ⟨s, ⟨_, rfl, rfl⟩, hS, fun _ _ => rfl⟩
    | k_ + 25, h_ => exact absurd h_ (by simp)
  rintro _ a X2 h1 h2 h3 h4 hS
  replace hS : Below X1.heap.size X1 X2 := hS
  have bX := hS
  clear hS
  replace t0 := (h3 0 (by decide)).trans t0
  replace t1 := (h3 1 (by decide)).trans t1
  have t55 : a.eval (.tmp 55) = .bool false := h4 24 _ rfl _ rfl
  replace FC := (FC.on bX)
  replace FI := (FI.on bX)
  replace Fl28 := (Fl28.on bX)
  have ZX2 := bX.size
  replace BW := BW.trans (bX.mono BW.size)
  clear bX
  replace A := (⟨h1, h2.trans A.2⟩ : a.tmps.size = 232 ∧ a.defers = [])
  clear h1 h2 h3 h4
  clear t5 t6
  refine wp_cond_false t55 ?_
  refine wp_skip ?_
  clear t55
  clear cS es hsc hsb Fl28
  refine wp_seq ?_
  refine wp_seq ?_
  refine wp_region_sq (σ := Bool) 232 [(0, 56), (1, 57)] (fun j_ s X => match j_ with | 0 => Below X2.heap.size X2 X | 1 => Below X2.heap.size X2 X | _ => Below X2.heap.size X2 X ∧ (s = false → GoodL lf J)) (fun s => fun i_ => match i_ with | 0 => v | 1 => .bool s | _ => undef) false A.1 (by kernel_rfl) (by decide) (by decide) (Below.refl _ _) ?_ ?_
  · intro i_ hi_ s a X hf hv hn hS
    match i_, hi_ with
    | 0, _ => exact stepV rfl rfl (execMvB rfl ((hf 1 (by decide)).trans t1)) ⟨s, ⟨_, rfl, rfl⟩, hS, fun _ _ => rfl⟩
    | 1, _ =>
      refine stepC rfl rfl (execCall1 Try.func23 (by kernel_rfl) (by kernel_rfl) rfl (hv 0 (by decide) _ rfl _ rfl)) (great_any lf J _ X (FI.on hS) (by omega)) fun e w' hh => ?_
      obtain ⟨r0_, he, hk, hb⟩ := hh
      refine ⟨_, he, r0_, ⟨_, rfl, rfl⟩, ⟨(hS).trans ((hb).mono (hS).size), hk⟩, fun i hi => ?_⟩
      match i, hi with
      | 0, _ => rfl
      | n_ + 1, h_ => omega
    | k_ + 2, h_ => exact absurd h_ (by simp)
  rintro b57 a X4 h1 h2 h3 h4 hS
  replace hS : Below X2.heap.size X2 X4 ∧ (b57 = false → GoodL lf J) := hS
  obtain ⟨bX, Fb57⟩ := hS
  replace t0 := (h3 0 (by decide)).trans t0
  replace t1 := (h3 1 (by decide)).trans t1
  have t57 : a.eval (.tmp 57) = .bool b57 := h4 1 _ rfl _ rfl
  replace FC := (FC.on bX)
  replace FI := (FI.on bX)
  have ZX4 := bX.size
  replace BW := BW.trans (bX.mono BW.size)
  clear bX
  replace A := (⟨h1, h2.trans A.2⟩ : a.tmps.size = 232 ∧ a.defers = [])
  clear h1 h2 h3 h4
  cases b57 with
  | true =>
    refine wp_cond_true t57 ?_
    refine wp_seq ?_
    refine wp_region_sq (σ := Unit) 232 [(0, 4)] (fun j_ s X => match j_ with | 0 => Below X4.heap.size X4 X | _ => Below X4.heap.size X4 X) (fun s => fun i_ => match i_ with | 0 => .bool true | _ => undef) () A.1 (by kernel_rfl) (by decide) (by decide) (Below.refl _ _) ?_ ?_
    · intro i_ hi_ s a X hf hv hn hS
      match i_, hi_ with
      | 0, _ => exact stepV rfl rfl (execAsgB rfl rfl) ⟨s, ⟨_, rfl, rfl⟩, hS, fun _ _ => rfl⟩
      | k_ + 1, h_ => exact absurd h_ (by simp)
    rintro _ a X5 h1 h2 h3 h4 hS
    replace hS : Below X4.heap.size X4 X5 := hS
    have bX := hS
    clear hS
    have t4 : a.eval (.tmp 4) = .bool true := h4 0 _ rfl _ rfl
    replace FC := (FC.on bX)
    replace FI := (FI.on bX)
    have ZX5 := bX.size
    replace BW := BW.trans (bX.mono BW.size)
    clear bX
    replace A := (⟨h1, h2.trans A.2⟩ : a.tmps.size = 232 ∧ a.defers = [])
    clear h1 h2 h3 h4
    clear t0 t1
    refine wp_ret ?_
    repeat (first | with_reducible refine ret_in ?_ | with_reducible refine ret_then ?_)
    refine bodyPost_ret (results_tmp rfl _ _ _) A.2 ⟨?_, BW⟩
    show Ending.returned (a.eval (.tmp 4)) = _
    rw [t4]
  | false =>
    refine wp_cond_false t57 ?_
    refine wp_skip ?_
    clear t57
    have hG := Fb57 rfl
    clear Fb57
    have hJ20 : J ≤ 1048576 := by have := hG.2; omega
    have hfc := FC.fits
    refine wp_seq ?_
    refine wp_region_sq (σ := Nat × Nat) 232 [(0, 59), (1, 60), (2, 58), (3, 61), (4, 62), (5, 7), (6, 8)] (fun j_ s X => match j_ with | 0 => Below X4.heap.size X4 X | 1 => Below X4.heap.size X4 X | 2 => Below X4.heap.size X4 X ∧ (X.ownsRow V.heap.size 3 1 (.slice (some ⟨s.1, 0, none⟩) (n + 2) s.2) (n + 2) (intsL (n + 2) (CT cf n))) | 3 => Below X4.heap.size X4 X ∧ (X.ownsRow V.heap.size 3 1 (.slice (some ⟨s.1, 0, none⟩) (n + 2) s.2) (n + 2) (intsL (n + 2) (CT cf n))) | 4 => Below X4.heap.size X4 X ∧ (X.ownsRow V.heap.size 3 1 (.slice (some ⟨s.1, 0, none⟩) (n + 2) s.2) (n + 2) (intsL (n + 2) (CT cf n))) | 5 => Below X4.heap.size X4 X ∧ (X.ownsRow V.heap.size 3 1 (.slice (some ⟨s.1, 0, none⟩) (n + 2) s.2) (n + 2) (intsL (n + 2) (CT cf n))) | 6 => Below X4.heap.size X4 X ∧ (X.ownsRow V.heap.size 3 1 (.slice (some ⟨s.1, 0, none⟩) (n + 2) s.2) (n + 2) (intsL (n + 2) (CT cf n))) | _ => Below X4.heap.size X4 X ∧ (X.ownsRow V.heap.size 3 1 (.slice (some ⟨s.1, 0, none⟩) (n + 2) s.2) (n + 2) (intsL (n + 2) (CT cf n)))) (fun s => fun i_ => match i_ with | 0 => u0 | 1 => .tuple #[.slice (some ⟨s.1, 0, none⟩) n s.2, .slice (some ⟨s.1, 0, none⟩) (n + 2) s.2] | 2 => .tuple #[.slice (some ⟨s.1, 0, none⟩) n s.2, .slice (some ⟨s.1, 0, none⟩) (n + 2) s.2] | 3 => .slice (some ⟨s.1, 0, none⟩) n s.2 | 4 => .slice (some ⟨s.1, 0, none⟩) (n + 2) s.2 | 5 => .slice (some ⟨s.1, 0, none⟩) n s.2 | 6 => .slice (some ⟨s.1, 0, none⟩) (n + 2) s.2 | _ => undef) (0, 0) A.1 (by kernel_rfl) (by decide) (by decide) (Below.refl _ _) ?_ ?_
    · intro i_ hi_ s a X hf hv hn hS
      match i_, hi_ with
      | 0, _ => exact stepV rfl rfl (execMvB rfl ((hf 0 (by decide)).trans t0)) ⟨s, ⟨_, rfl, rfl⟩, hS, fun _ _ => rfl⟩
      | 1, _ =>
        refine stepC rfl rfl (execCall1 Try.func16 (by kernel_rfl) (by kernel_rfl) rfl (hv 0 (by decide) _ rfl _ rfl)) (lent_any cf n _ X (FC.on hS) hz (by omega)) fun e w' hh => ?_
        obtain ⟨r0_, r1_, he, hk, hb⟩ := hh
        refine ⟨_, he, (r0_, r1_), ⟨_, rfl, rfl⟩, ⟨(hS).trans ((hb).mono (hS).size), ownD_base hk (Nat.le_trans BW.size (hS).size)⟩, fun i hi => ?_⟩
        match i, hi with
        | 0, _ => rfl
        | n_ + 1, h_ => omega
      | 2, _ => exact stepV rfl rfl (execMvB rfl (hv 1 (by decide) _ rfl _ rfl)) ⟨s, ⟨_, rfl, rfl⟩, hS, fun _ _ => rfl⟩
      | 3, _ => exact stepV rfl rfl (execExtT rfl (hv 2 (by decide) _ rfl _ rfl) rfl) ⟨s, ⟨_, rfl, rfl⟩, hS, fun _ _ => rfl⟩
      | 4, _ => exact stepV rfl rfl (execExtT rfl (hv 2 (by decide) _ rfl _ rfl) rfl) ⟨s, ⟨_, rfl, rfl⟩, hS, fun _ _ => rfl⟩
      | 5, _ => exact stepV rfl rfl (execAsgB rfl (hv 3 (by decide) _ rfl _ rfl)) ⟨s, ⟨_, rfl, rfl⟩, hS, fun _ _ => rfl⟩
      | 6, _ => exact stepV rfl rfl (execAsgB rfl (hv 4 (by decide) _ rfl _ rfl)) ⟨s, ⟨_, rfl, rfl⟩, hS, fun _ _ => rfl⟩
      | k_ + 7, h_ => exact absurd h_ (by simp)
    rintro ⟨g60, c60⟩ a X6 h1 h2 h3 h4 hS
    replace hS : Below X4.heap.size X4 X6 ∧ (X6.ownsRow V.heap.size 3 1 (.slice (some ⟨g60, 0, none⟩) (n + 2) c60) (n + 2) (intsL (n + 2) (CT cf n))) := hS
    obtain ⟨bX, FR⟩ := hS
    replace t0 := (h3 0 (by decide)).trans t0
    replace t1 := (h3 1 (by decide)).trans t1
    have t7 : a.eval (.tmp 7) = .slice (some ⟨g60, 0, none⟩) n c60 := h4 5 _ rfl _ rfl
    have t8 : a.eval (.tmp 8) = .slice (some ⟨g60, 0, none⟩) (n + 2) c60 := h4 6 _ rfl _ rfl
    replace FC := (FC.on bX)
    replace FI := (FI.on bX)
    have ZX6 := bX.size
    replace BW := BW.trans (bX.mono BW.size)
    clear bX
    replace A := (⟨h1, h2.trans A.2⟩ : a.tmps.size = 232 ∧ a.defers = [])
    clear h1 h2 h3 h4
    refine wp_seq ?_
    refine wp_region_sq (σ := Value × (Nat → Nat) × (Nat → Nat)) 232 [(0, 63), (1, 64), (2, 9)] (fun j_ s X => match j_ with | 0 => Below X6.heap.size X6 X | 1 => Below X6.heap.size X6 X | 2 => Below X6.heap.size X6 X ∧ (FmT V.heap.size J s.2.1 s.2.2 (gN lf) (chH (gN lf)) X) ∧ (X.ownsRow V.heap.size 55 1 s.1 J (lL (xT s.2.1 s.2.2 (gN lf)) J)) | _ => Below X6.heap.size X6 X ∧ (FmT V.heap.size J s.2.1 s.2.2 (gN lf) (chH (gN lf)) X) ∧ (X.ownsRow V.heap.size 55 1 s.1 J (lL (xT s.2.1 s.2.2 (gN lf)) J))) (fun s => fun i_ => match i_ with | 0 => v | 1 => s.1 | 2 => s.1 | _ => undef) (undef, fun _ => 0, fun _ => 0) A.1 (by kernel_rfl) (by decide) (by decide) (Below.refl _ _) ?_ ?_
    · intro i_ hi_ s a X hf hv hn hS
      match i_, hi_ with
      | 0, _ => exact stepV rfl rfl (execMvB rfl ((hf 1 (by decide)).trans t1)) ⟨s, ⟨_, rfl, rfl⟩, hS, fun _ _ => rfl⟩
      | 1, _ =>
        refine stepC rfl rfl (execCall1 Try.func24 (by kernel_rfl) (by kernel_rfl) rfl (hv 0 (by decide) _ rfl _ rfl)) (chunksOf_any lf J _ X (FI.on hS) hG) fun e w' hh => ?_
        obtain ⟨r0_, r1_, r2_, he, hk, hk2, hb⟩ := hh
        refine ⟨_, he, (r0_, r1_, r2_), ⟨_, rfl, rfl⟩, ⟨(hS).trans ((hb).mono (hS).size), hk.base (Nat.le_trans BW.size (hS).size), ownD_base hk2 (Nat.le_trans BW.size (hS).size)⟩, fun i hi => ?_⟩
        match i, hi with
        | 0, _ => rfl
        | n_ + 1, h_ => omega
      | 2, _ => exact stepV rfl rfl (execAsgB rfl (hv 1 (by decide) _ rfl _ rfl)) ⟨s, ⟨_, rfl, rfl⟩, hS, fun _ _ => rfl⟩
      | k_ + 3, h_ => exact absurd h_ (by simp)
    rintro ⟨p64, gb, cp⟩ a X7 h1 h2 h3 h4 hS
    replace hS : Below X6.heap.size X6 X7 ∧ (FmT V.heap.size J gb cp (gN lf) (chH (gN lf)) X7) ∧ (X7.ownsRow V.heap.size 55 1 p64 J (lL (xT gb cp (gN lf)) J)) := hS
    obtain ⟨bX, FT, FP⟩ := hS
    replace t0 := (h3 0 (by decide)).trans t0
    replace t1 := (h3 1 (by decide)).trans t1
    replace t7 := (h3 7 (by decide)).trans t7
    replace t8 := (h3 8 (by decide)).trans t8
    have t9 : a.eval (.tmp 9) = p64 := h4 2 _ rfl _ rfl
    replace FC := (FC.on bX)
    replace FI := (FI.on bX)
    replace FR := (ownD_below FR bX)
    have ZX7 := bX.size
    replace BW := BW.trans (bX.mono BW.size)
    clear bX
    replace A := (⟨h1, h2.trans A.2⟩ : a.tmps.size = 232 ∧ a.defers = [])
    clear h1 h2 h3 h4
    refine wp_seq ?_
    refine wp_region_sq (σ := Value) 232 [(0, 66), (1, 67), (2, 68), (3, 65), (4, 69), (5, 70), (6, 10), (7, 11)] (fun j_ s X => match j_ with | 0 => Below X7.heap.size X7 X | 1 => Below X7.heap.size X7 X | 2 => Below X7.heap.size X7 X | 3 => Below X7.heap.size X7 X ∧ (X.ownsRow V.heap.size 58 2 s (zl (weE cf n (gN lf) J) n) (intsL (zl (weE cf n (gN lf) J) n * 2) (rwH cf))) | 4 => Below X7.heap.size X7 X ∧ (X.ownsRow V.heap.size 58 2 s (zl (weE cf n (gN lf) J) n) (intsL (zl (weE cf n (gN lf) J) n * 2) (rwH cf))) | 5 => Below X7.heap.size X7 X ∧ (X.ownsRow V.heap.size 58 2 s (zl (weE cf n (gN lf) J) n) (intsL (zl (weE cf n (gN lf) J) n * 2) (rwH cf))) | 6 => Below X7.heap.size X7 X ∧ (X.ownsRow V.heap.size 58 2 s (zl (weE cf n (gN lf) J) n) (intsL (zl (weE cf n (gN lf) J) n * 2) (rwH cf))) | 7 => Below X7.heap.size X7 X ∧ (X.ownsRow V.heap.size 58 2 s (zl (weE cf n (gN lf) J) n) (intsL (zl (weE cf n (gN lf) J) n * 2) (rwH cf))) | _ => Below X7.heap.size X7 X ∧ (X.ownsRow V.heap.size 58 2 s (zl (weE cf n (gN lf) J) n) (intsL (zl (weE cf n (gN lf) J) n * 2) (rwH cf)))) (fun s => fun i_ => match i_ with | 0 => u0 | 1 => v | 2 => .tuple #[s, .int .i64 ((weE cf n (gN lf) J : Nat) : Int)] | 3 => .tuple #[s, .int .i64 ((weE cf n (gN lf) J : Nat) : Int)] | 4 => s | 5 => .int .i64 ((weE cf n (gN lf) J : Nat) : Int) | 6 => s | 7 => .int .i64 ((weE cf n (gN lf) J : Nat) : Int) | _ => undef) undef A.1 (by kernel_rfl) (by decide) (by decide) (Below.refl _ _) ?_ ?_
    · intro i_ hi_ s a X hf hv hn hS
      match i_, hi_ with
      | 0, _ => exact stepV rfl rfl (execMvB rfl ((hf 0 (by decide)).trans t0)) ⟨s, ⟨_, rfl, rfl⟩, hS, fun _ _ => rfl⟩
      | 1, _ => exact stepV rfl rfl (execMvB rfl ((hf 1 (by decide)).trans t1)) ⟨s, ⟨_, rfl, rfl⟩, hS, fun _ _ => rfl⟩
      | 2, _ =>
        refine stepC rfl rfl (execCall2 Try.func25 (by kernel_rfl) (by kernel_rfl) rfl (hv 0 (by decide) _ rfl _ rfl) (hv 1 (by decide) _ rfl _ rfl)) (rweave cf lf n J _ _ X (FC.on hS) (by omega) (FI.on hS) hG) fun e w' hh => ?_
        obtain ⟨r0_, he, hk, hb⟩ := hh
        refine ⟨_, he, r0_, ⟨_, rfl, rfl⟩, ⟨(hS).trans ((hb).mono (hS).size), ownD_base hk (Nat.le_trans BW.size (hS).size)⟩, fun i hi => ?_⟩
        match i, hi with
        | 0, _ => rfl
        | 1, _ => rfl
        | n_ + 2, h_ => omega
      | 3, _ => exact stepV rfl rfl (execMvB rfl (hv 2 (by decide) _ rfl _ rfl)) ⟨s, ⟨_, rfl, rfl⟩, hS, fun _ _ => rfl⟩
      | 4, _ => exact stepV rfl rfl (execExtT rfl (hv 3 (by decide) _ rfl _ rfl) rfl) ⟨s, ⟨_, rfl, rfl⟩, hS, fun _ _ => rfl⟩
      | 5, _ => exact stepV rfl rfl (execExtT rfl (hv 3 (by decide) _ rfl _ rfl) rfl) ⟨s, ⟨_, rfl, rfl⟩, hS, fun _ _ => rfl⟩
      | 6, _ => exact stepV rfl rfl (execAsgB rfl (hv 4 (by decide) _ rfl _ rfl)) ⟨s, ⟨_, rfl, rfl⟩, hS, fun _ _ => rfl⟩
      | 7, _ => exact stepV rfl rfl (execAsgB rfl (hv 5 (by decide) _ rfl _ rfl)) ⟨s, ⟨_, rfl, rfl⟩, hS, fun _ _ => rfl⟩
      | k_ + 8, h_ => exact absurd h_ (by simp)
    rintro r68 a X8 h1 h2 h3 h4 hS
    replace hS : Below X7.heap.size X7 X8 ∧ (X8.ownsRow V.heap.size 58 2 r68 (zl (weE cf n (gN lf) J) n) (intsL (zl (weE cf n (gN lf) J) n * 2) (rwH cf))) := hS
    obtain ⟨bX, FW⟩ := hS
    replace t0 := (h3 0 (by decide)).trans t0
    replace t1 := (h3 1 (by decide)).trans t1
    replace t7 := (h3 7 (by decide)).trans t7
    replace t8 := (h3 8 (by decide)).trans t8
    replace t9 := (h3 9 (by decide)).trans t9
    have t10 : a.eval (.tmp 10) = r68 := h4 6 _ rfl _ rfl
    have t11 : a.eval (.tmp 11) = .int .i64 ((weE cf n (gN lf) J : Nat) : Int) := h4 7 _ rfl _ rfl
    replace FC := (FC.on bX)
    replace FI := (FI.on bX)
    replace FR := (ownD_below FR bX)
    replace FT := (FT.on bX)
    replace FP := (ownD_below FP bX)
    have ZX8 := bX.size
    replace BW := BW.trans (bX.mono BW.size)
    clear bX
    replace A := (⟨h1, h2.trans A.2⟩ : a.tmps.size = 232 ∧ a.defers = [])
    clear h1 h2 h3 h4
    have hVB := BW.size
    have hgl : ∀ t, t < J → gb t < X8.heap.size := fun t ht => ((FT.rows t ht).lt (gb t) rfl).2
    have FXs : X8.heap.size ≤ X8.heap.size := Nat.le_refl _
    refine wp_seq ?_
    refine wp_region_sq (σ := Value) 232 [(0, 72), (1, 73), (2, 74), (3, 71), (4, 75), (5, 76), (6, 12), (7, 13)] (fun j_ s X => match j_ with | 0 => Below X8.heap.size X8 X | 1 => Below X8.heap.size X8 X | 2 => Below X8.heap.size X8 X | 3 => Below X8.heap.size X8 X ∧ (X.ownsRow X8.heap.size 59 2 s (zl (weE cf n (gN lf) J) n) (intsL (zl (weE cf n (gN lf) J) n * 2) (wvH cf (chH (gN lf))))) | 4 => Below X8.heap.size X8 X ∧ (X.ownsRow X8.heap.size 59 2 s (zl (weE cf n (gN lf) J) n) (intsL (zl (weE cf n (gN lf) J) n * 2) (wvH cf (chH (gN lf))))) | 5 => Below X8.heap.size X8 X ∧ (X.ownsRow X8.heap.size 59 2 s (zl (weE cf n (gN lf) J) n) (intsL (zl (weE cf n (gN lf) J) n * 2) (wvH cf (chH (gN lf))))) | 6 => Below X8.heap.size X8 X ∧ (X.ownsRow X8.heap.size 59 2 s (zl (weE cf n (gN lf) J) n) (intsL (zl (weE cf n (gN lf) J) n * 2) (wvH cf (chH (gN lf))))) | 7 => Below X8.heap.size X8 X ∧ (X.ownsRow X8.heap.size 59 2 s (zl (weE cf n (gN lf) J) n) (intsL (zl (weE cf n (gN lf) J) n * 2) (wvH cf (chH (gN lf))))) | _ => Below X8.heap.size X8 X ∧ (X.ownsRow X8.heap.size 59 2 s (zl (weE cf n (gN lf) J) n) (intsL (zl (weE cf n (gN lf) J) n * 2) (wvH cf (chH (gN lf)))))) (fun s => fun i_ => match i_ with | 0 => .slice (some ⟨g60, 0, none⟩) n c60 | 1 => p64 | 2 => .tuple #[s, .int .i64 ((weE cf n (gN lf) J : Nat) : Int)] | 3 => .tuple #[s, .int .i64 ((weE cf n (gN lf) J : Nat) : Int)] | 4 => s | 5 => .int .i64 ((weE cf n (gN lf) J : Nat) : Int) | 6 => s | 7 => .int .i64 ((weE cf n (gN lf) J : Nat) : Int) | _ => undef) undef A.1 (by kernel_rfl) (by decide) (by decide) (Below.refl _ _) ?_ ?_
    · intro i_ hi_ s a X hf hv hn hS
      match i_, hi_ with
      | 0, _ => exact stepV rfl rfl (execMvB rfl ((hf 7 (by decide)).trans t7)) ⟨s, ⟨_, rfl, rfl⟩, hS, fun _ _ => rfl⟩
      | 1, _ => exact stepV rfl rfl (execMvB rfl ((hf 9 (by decide)).trans t9)) ⟨s, ⟨_, rfl, rfl⟩, hS, fun _ _ => rfl⟩
      | 2, _ =>
        refine stepC rfl rfl (execCall2 Try.func26 (by kernel_rfl) (by kernel_rfl) rfl (hv 0 (by decide) _ rfl _ rfl) (hv 1 (by decide) _ rfl _ rfl)) (pweaveT cf n J (xT gb cp (gN lf)) (gN lf) (chH (gN lf)) _ _ X (lent_in (ownD_below FR hS) hfc) (by omega) (llt_of (FT.on hS) (ownD_below FP hS)) (by omega) (by have := hG.2; omega)) fun e w' hh => ?_
        obtain ⟨r0_, he, hk, hb⟩ := hh
        refine ⟨_, he, r0_, ⟨_, rfl, rfl⟩, ⟨(hS).trans ((hb).mono (hS).size), ownD_base hk (Nat.le_trans FXs (hS).size)⟩, fun i hi => ?_⟩
        match i, hi with
        | 0, _ => rfl
        | 1, _ => rfl
        | n_ + 2, h_ => omega
      | 3, _ => exact stepV rfl rfl (execMvB rfl (hv 2 (by decide) _ rfl _ rfl)) ⟨s, ⟨_, rfl, rfl⟩, hS, fun _ _ => rfl⟩
      | 4, _ => exact stepV rfl rfl (execExtT rfl (hv 3 (by decide) _ rfl _ rfl) rfl) ⟨s, ⟨_, rfl, rfl⟩, hS, fun _ _ => rfl⟩
      | 5, _ => exact stepV rfl rfl (execExtT rfl (hv 3 (by decide) _ rfl _ rfl) rfl) ⟨s, ⟨_, rfl, rfl⟩, hS, fun _ _ => rfl⟩
      | 6, _ => exact stepV rfl rfl (execAsgB rfl (hv 4 (by decide) _ rfl _ rfl)) ⟨s, ⟨_, rfl, rfl⟩, hS, fun _ _ => rfl⟩
      | 7, _ => exact stepV rfl rfl (execAsgB rfl (hv 5 (by decide) _ rfl _ rfl)) ⟨s, ⟨_, rfl, rfl⟩, hS, fun _ _ => rfl⟩
      | k_ + 8, h_ => exact absurd h_ (by simp)
    rintro a74 a X9 h1 h2 h3 h4 hS
    replace hS : Below X8.heap.size X8 X9 ∧ (X9.ownsRow X8.heap.size 59 2 a74 (zl (weE cf n (gN lf) J) n) (intsL (zl (weE cf n (gN lf) J) n * 2) (wvH cf (chH (gN lf))))) := hS
    obtain ⟨bX, Fa74⟩ := hS
    replace t0 := (h3 0 (by decide)).trans t0
    replace t1 := (h3 1 (by decide)).trans t1
    replace t7 := (h3 7 (by decide)).trans t7
    replace t8 := (h3 8 (by decide)).trans t8
    replace t9 := (h3 9 (by decide)).trans t9
    replace t10 := (h3 10 (by decide)).trans t10
    replace t11 := (h3 11 (by decide)).trans t11
    have t12 : a.eval (.tmp 12) = a74 := h4 6 _ rfl _ rfl
    have t13 : a.eval (.tmp 13) = .int .i64 ((weE cf n (gN lf) J : Nat) : Int) := h4 7 _ rfl _ rfl
    replace FC := (FC.on bX)
    replace FI := (FI.on bX)
    replace FR := (ownD_below FR bX)
    replace FT := (FT.on bX)
    replace FP := (ownD_below FP bX)
    replace FW := (ownD_below FW bX)
    replace FXs := (Nat.le_trans FXs (bX).size)
    have ZX9 := bX.size
    replace BW := BW.trans (bX.mono BW.size)
    clear bX
    replace A := (⟨h1, h2.trans A.2⟩ : a.tmps.size = 232 ∧ a.defers = [])
    clear h1 h2 h3 h4
    refine wp_seq ?_
    refine wp_region_sq (σ := Value) 232 [(0, 78), (1, 79), (2, 80), (3, 77), (4, 81), (5, 82), (6, 14), (7, 15)] (fun j_ s X => match j_ with | 0 => Below X9.heap.size X9 X | 1 => Below X9.heap.size X9 X | 2 => Below X9.heap.size X9 X | 3 => Below X9.heap.size X9 X ∧ (X.ownsRow X8.heap.size 59 2 s (zl (weE cf n (gN lf) J) n) (intsL (zl (weE cf n (gN lf) J) n * 2) (wvH cf (chH (gN lf))))) ∧ (∀ k, a74.ownBlock = some k → s.ownBlock ≠ some k) | 4 => Below X9.heap.size X9 X ∧ (X.ownsRow X8.heap.size 59 2 s (zl (weE cf n (gN lf) J) n) (intsL (zl (weE cf n (gN lf) J) n * 2) (wvH cf (chH (gN lf))))) ∧ (∀ k, a74.ownBlock = some k → s.ownBlock ≠ some k) | 5 => Below X9.heap.size X9 X ∧ (X.ownsRow X8.heap.size 59 2 s (zl (weE cf n (gN lf) J) n) (intsL (zl (weE cf n (gN lf) J) n * 2) (wvH cf (chH (gN lf))))) ∧ (∀ k, a74.ownBlock = some k → s.ownBlock ≠ some k) | 6 => Below X9.heap.size X9 X ∧ (X.ownsRow X8.heap.size 59 2 s (zl (weE cf n (gN lf) J) n) (intsL (zl (weE cf n (gN lf) J) n * 2) (wvH cf (chH (gN lf))))) ∧ (∀ k, a74.ownBlock = some k → s.ownBlock ≠ some k) | 7 => Below X9.heap.size X9 X ∧ (X.ownsRow X8.heap.size 59 2 s (zl (weE cf n (gN lf) J) n) (intsL (zl (weE cf n (gN lf) J) n * 2) (wvH cf (chH (gN lf))))) ∧ (∀ k, a74.ownBlock = some k → s.ownBlock ≠ some k) | _ => Below X9.heap.size X9 X ∧ (X.ownsRow X8.heap.size 59 2 s (zl (weE cf n (gN lf) J) n) (intsL (zl (weE cf n (gN lf) J) n * 2) (wvH cf (chH (gN lf))))) ∧ (∀ k, a74.ownBlock = some k → s.ownBlock ≠ some k)) (fun s => fun i_ => match i_ with | 0 => .slice (some ⟨g60, 0, none⟩) n c60 | 1 => p64 | 2 => .tuple #[s, .int .i64 ((weE cf n (gN lf) J : Nat) : Int)] | 3 => .tuple #[s, .int .i64 ((weE cf n (gN lf) J : Nat) : Int)] | 4 => s | 5 => .int .i64 ((weE cf n (gN lf) J : Nat) : Int) | 6 => s | 7 => .int .i64 ((weE cf n (gN lf) J : Nat) : Int) | _ => undef) undef A.1 (by kernel_rfl) (by decide) (by decide) (Below.refl _ _) ?_ ?_
    · intro i_ hi_ s a X hf hv hn hS
      match i_, hi_ with
      | 0, _ => exact stepV rfl rfl (execMvB rfl ((hf 7 (by decide)).trans t7)) ⟨s, ⟨_, rfl, rfl⟩, hS, fun _ _ => rfl⟩
      | 1, _ => exact stepV rfl rfl (execMvB rfl ((hf 9 (by decide)).trans t9)) ⟨s, ⟨_, rfl, rfl⟩, hS, fun _ _ => rfl⟩
      | 2, _ =>
        refine stepC rfl rfl (execCall2 Try.func26 (by kernel_rfl) (by kernel_rfl) rfl (hv 0 (by decide) _ rfl _ rfl) (hv 1 (by decide) _ rfl _ rfl)) (pweaveT cf n J (xT gb cp (gN lf)) (gN lf) (chH (gN lf)) _ _ X (lent_in (ownD_below FR hS) hfc) (by omega) (llt_of (FT.on hS) (ownD_below FP hS)) (by omega) (by have := hG.2; omega)) fun e w' hh => ?_
        obtain ⟨r0_, he, hk, hb⟩ := hh
        refine ⟨_, he, r0_, ⟨_, rfl, rfl⟩, ⟨(hS).trans ((hb).mono (hS).size), ownD_base hk (Nat.le_trans FXs (hS).size), fun k q1 q2 => by have a1 := ((ownD_below Fa74 hS).lt k q1).2; have a2 := (hk.lt k q2).1; omega⟩, fun i hi => ?_⟩
        match i, hi with
        | 0, _ => rfl
        | 1, _ => rfl
        | n_ + 2, h_ => omega
      | 3, _ => exact stepV rfl rfl (execMvB rfl (hv 2 (by decide) _ rfl _ rfl)) ⟨s, ⟨_, rfl, rfl⟩, hS, fun _ _ => rfl⟩
      | 4, _ => exact stepV rfl rfl (execExtT rfl (hv 3 (by decide) _ rfl _ rfl) rfl) ⟨s, ⟨_, rfl, rfl⟩, hS, fun _ _ => rfl⟩
      | 5, _ => exact stepV rfl rfl (execExtT rfl (hv 3 (by decide) _ rfl _ rfl) rfl) ⟨s, ⟨_, rfl, rfl⟩, hS, fun _ _ => rfl⟩
      | 6, _ => exact stepV rfl rfl (execAsgB rfl (hv 4 (by decide) _ rfl _ rfl)) ⟨s, ⟨_, rfl, rfl⟩, hS, fun _ _ => rfl⟩
      | 7, _ => exact stepV rfl rfl (execAsgB rfl (hv 5 (by decide) _ rfl _ rfl)) ⟨s, ⟨_, rfl, rfl⟩, hS, fun _ _ => rfl⟩
      | k_ + 8, h_ => exact absurd h_ (by simp)
    rintro b80 a X10 h1 h2 h3 h4 hS
    replace hS : Below X9.heap.size X9 X10 ∧ (X10.ownsRow X8.heap.size 59 2 b80 (zl (weE cf n (gN lf) J) n) (intsL (zl (weE cf n (gN lf) J) n * 2) (wvH cf (chH (gN lf))))) ∧ (∀ k, a74.ownBlock = some k → b80.ownBlock ≠ some k) := hS
    obtain ⟨bX, Fb80, Fd⟩ := hS
    replace t0 := (h3 0 (by decide)).trans t0
    replace t1 := (h3 1 (by decide)).trans t1
    replace t8 := (h3 8 (by decide)).trans t8
    replace t9 := (h3 9 (by decide)).trans t9
    replace t10 := (h3 10 (by decide)).trans t10
    replace t11 := (h3 11 (by decide)).trans t11
    replace t12 := (h3 12 (by decide)).trans t12
    replace t13 := (h3 13 (by decide)).trans t13
    have t14 : a.eval (.tmp 14) = b80 := h4 6 _ rfl _ rfl
    have t15 : a.eval (.tmp 15) = .int .i64 ((weE cf n (gN lf) J : Nat) : Int) := h4 7 _ rfl _ rfl
    replace FC := (FC.on bX)
    replace FI := (FI.on bX)
    replace FR := (ownD_below FR bX)
    replace FT := (FT.on bX)
    replace FP := (ownD_below FP bX)
    replace FW := (ownD_below FW bX)
    replace FXs := (Nat.le_trans FXs (bX).size)
    replace Fa74 := (ownD_below Fa74 bX)
    have ZX10 := bX.size
    replace BW := BW.trans (bX.mono BW.size)
    clear bX
    replace A := (⟨h1, h2.trans A.2⟩ : a.tmps.size = 232 ∧ a.defers = [])
    clear h1 h2 h3 h4
    clear t7
    have hMl := we_len (cf := cf) (n := n) hG
    replace Fa74 := th_cg Fa74 (fun t ht => wv_rw cf hG ht)
    replace Fb80 := th_cg Fb80 (fun t ht => wv_rw cf hG ht)
    obtain ⟨M, eM⟩ : ∃ M, zl (weE cf n (gN lf) J) n = M := ⟨_, rfl⟩
    rw [eM] at Fa74 Fb80 FW hMl
    refine wp_seq ?_
    refine wp_seq ?_
    refine wp_region_sq (σ := Unit) 232 [(0, 83), (1, 84), (2, 85), (3, 86), (4, 87), (5, 88), (6, 89), (7, 90), (8, 91), (9, 92), (10, 93), (11, 94), (12, 95), (13, 96), (14, 97), (15, 98), (16, 99), (17, 100), (18, 101), (19, 102), (20, 103), (21, 104), (22, 105), (23, 106), (24, 107), (25, 108), (26, 109), (27, 110)] (fun j_ s X => match j_ with | 0 => Below X10.heap.size X10 X | 1 => Below X10.heap.size X10 X | 2 => Below X10.heap.size X10 X | 3 => Below X10.heap.size X10 X | 4 => Below X10.heap.size X10 X | 5 => Below X10.heap.size X10 X | 6 => Below X10.heap.size X10 X | 7 => Below X10.heap.size X10 X | 8 => Below X10.heap.size X10 X | 9 => Below X10.heap.size X10 X | 10 => Below X10.heap.size X10 X | 11 => Below X10.heap.size X10 X | 12 => Below X10.heap.size X10 X | 13 => Below X10.heap.size X10 X | 14 => Below X10.heap.size X10 X | 15 => Below X10.heap.size X10 X | 16 => Below X10.heap.size X10 X | 17 => Below X10.heap.size X10 X | 18 => Below X10.heap.size X10 X | 19 => Below X10.heap.size X10 X | 20 => Below X10.heap.size X10 X | 21 => Below X10.heap.size X10 X | 22 => Below X10.heap.size X10 X | 23 => Below X10.heap.size X10 X | 24 => Below X10.heap.size X10 X | 25 => Below X10.heap.size X10 X | 26 => Below X10.heap.size X10 X | 27 => Below X10.heap.size X10 X | _ => Below X10.heap.size X10 X) (fun s => fun i_ => match i_ with | 0 => .int .i64 ((weE cf n (gN lf) J : Nat) : Int) | 1 => .int .i64 ((weE cf n (gN lf) J : Nat) : Int) | 2 => .bool false | 3 => .bool false | 4 => .int .i64 ((weE cf n (gN lf) J : Nat) : Int) | 5 => .int .i64 ((weE cf n (gN lf) J : Nat) : Int) | 6 => .bool false | 7 => .bool false | 8 => .bool false | 9 => a74 | 10 => .int .i64 ((M : Nat) : Int) | 11 => r68 | 12 => .int .i64 ((M : Nat) : Int) | 13 => .bool false | 14 => .bool false | 15 => .bool false | 16 => b80 | 17 => .int .i64 ((M : Nat) : Int) | 18 => r68 | 19 => .int .i64 ((M : Nat) : Int) | 20 => .bool false | 21 => .bool false | 22 => .bool false | 23 => .slice (some ⟨g60, 0, none⟩) (n + 2) c60 | 24 => u0 | 25 => .bool true | 26 => .bool false | 27 => .bool false | _ => undef) () A.1 (by kernel_rfl) (by decide) (by decide) (Below.refl _ _) ?_ ?_
    · intro i_ hi_ s a X hf hv hn hS
      match i_, hi_ with
      | 0, _ => exact stepV rfl rfl (execMvB rfl ((hf 13 (by decide)).trans t13)) ⟨s, ⟨_, rfl, rfl⟩, hS, fun _ _ => rfl⟩
      | 1, _ => exact stepV rfl rfl (execMvB rfl ((hf 11 (by decide)).trans t11)) ⟨s, ⟨_, rfl, rfl⟩, hS, fun _ _ => rfl⟩
      | 2, _ => exact stepV rfl rfl (execDec (execNeN (p := weE cf n (gN lf) J) (q := weE cf n (gN lf) J) rfl (hv 0 (by decide) _ rfl _ rfl) (hv 1 (by decide) _ rfl _ rfl)) (decide_eq_false (by omega))) ⟨s, ⟨_, rfl, rfl⟩, hS, fun _ _ => rfl⟩
      | 3, _ => exact stepV rfl rfl (execMvB rfl (hv 2 (by decide) _ rfl _ rfl)) ⟨s, ⟨_, rfl, rfl⟩, hS, fun _ _ => rfl⟩
      | 4, _ => exact stepV rfl (wantedOf rfl (yieldedAt rfl rfl (show a.eval (.tmp 86) = .bool false from (hv 3 (by decide) _ rfl _ rfl)))) (execMvB rfl ((hf 15 (by decide)).trans t15)) ⟨s, ⟨_, rfl, rfl⟩, hS, fun _ _ => rfl⟩
      | 5, _ => exact stepV rfl (wantedOf rfl (yieldedAt rfl rfl (show a.eval (.tmp 86) = .bool false from (hv 3 (by decide) _ rfl _ rfl)))) (execMvB rfl ((hf 11 (by decide)).trans t11)) ⟨s, ⟨_, rfl, rfl⟩, hS, fun _ _ => rfl⟩
      | 6, _ => exact stepV rfl (wantedOf rfl (yieldedAt rfl rfl (show a.eval (.tmp 86) = .bool false from (hv 3 (by decide) _ rfl _ rfl)))) (execDec (execNeN (p := weE cf n (gN lf) J) (q := weE cf n (gN lf) J) rfl (hv 4 (by decide) _ rfl _ rfl) (hv 5 (by decide) _ rfl _ rfl)) (decide_eq_false (by omega))) ⟨s, ⟨_, rfl, rfl⟩, hS, fun _ _ => rfl⟩
      | 7, _ => exact stepV rfl rfl (execPickF rfl (hv 3 (by decide) _ rfl _ rfl) (hv 6 (by decide) _ rfl _ rfl)) ⟨s, ⟨_, rfl, rfl⟩, hS, fun _ _ => rfl⟩
      | 8, _ => exact stepV rfl rfl (execMvB rfl (hv 7 (by decide) _ rfl _ rfl)) ⟨s, ⟨_, rfl, rfl⟩, hS, fun _ _ => rfl⟩
      | 9, _ => exact stepV rfl (wantedOf rfl (yieldedAt rfl rfl (show a.eval (.tmp 91) = .bool false from (hv 8 (by decide) _ rfl _ rfl)))) (execMvB rfl ((hf 12 (by decide)).trans t12)) ⟨s, ⟨_, rfl, rfl⟩, hS, fun _ _ => rfl⟩
      | 10, _ => exact stepV rfl (wantedOf rfl (yieldedAt rfl rfl (show a.eval (.tmp 91) = .bool false from (hv 8 (by decide) _ rfl _ rfl)))) (execLenTh (len := M) rfl (hv 9 (by decide) _ rfl _ rfl) (own_th Fa74).shp) ⟨s, ⟨_, rfl, rfl⟩, hS, fun _ _ => rfl⟩
      | 11, _ => exact stepV rfl (wantedOf rfl (yieldedAt rfl rfl (show a.eval (.tmp 91) = .bool false from (hv 8 (by decide) _ rfl _ rfl)))) (execMvB rfl ((hf 10 (by decide)).trans t10)) ⟨s, ⟨_, rfl, rfl⟩, hS, fun _ _ => rfl⟩
      | 12, _ => exact stepV rfl (wantedOf rfl (yieldedAt rfl rfl (show a.eval (.tmp 91) = .bool false from (hv 8 (by decide) _ rfl _ rfl)))) (execLenPr (len := M) rfl (hv 11 (by decide) _ rfl _ rfl) (own_th FW).shp) ⟨s, ⟨_, rfl, rfl⟩, hS, fun _ _ => rfl⟩
      | 13, _ => exact stepV rfl (wantedOf rfl (yieldedAt rfl rfl (show a.eval (.tmp 91) = .bool false from (hv 8 (by decide) _ rfl _ rfl)))) (execDec (execNeN (p := M) (q := M) rfl (hv 10 (by decide) _ rfl _ rfl) (hv 12 (by decide) _ rfl _ rfl)) (decide_eq_false (by omega))) ⟨s, ⟨_, rfl, rfl⟩, hS, fun _ _ => rfl⟩
      | 14, _ => exact stepV rfl rfl (execPickF rfl (hv 8 (by decide) _ rfl _ rfl) (hv 13 (by decide) _ rfl _ rfl)) ⟨s, ⟨_, rfl, rfl⟩, hS, fun _ _ => rfl⟩
      | 15, _ => exact stepV rfl rfl (execMvB rfl (hv 14 (by decide) _ rfl _ rfl)) ⟨s, ⟨_, rfl, rfl⟩, hS, fun _ _ => rfl⟩
      | 16, _ => exact stepV rfl (wantedOf rfl (yieldedAt rfl rfl (show a.eval (.tmp 98) = .bool false from (hv 15 (by decide) _ rfl _ rfl)))) (execMvB rfl ((hf 14 (by decide)).trans t14)) ⟨s, ⟨_, rfl, rfl⟩, hS, fun _ _ => rfl⟩
      | 17, _ => exact stepV rfl (wantedOf rfl (yieldedAt rfl rfl (show a.eval (.tmp 98) = .bool false from (hv 15 (by decide) _ rfl _ rfl)))) (execLenTh (len := M) rfl (hv 16 (by decide) _ rfl _ rfl) (own_th Fb80).shp) ⟨s, ⟨_, rfl, rfl⟩, hS, fun _ _ => rfl⟩
      | 18, _ => exact stepV rfl (wantedOf rfl (yieldedAt rfl rfl (show a.eval (.tmp 98) = .bool false from (hv 15 (by decide) _ rfl _ rfl)))) (execMvB rfl ((hf 10 (by decide)).trans t10)) ⟨s, ⟨_, rfl, rfl⟩, hS, fun _ _ => rfl⟩
      | 19, _ => exact stepV rfl (wantedOf rfl (yieldedAt rfl rfl (show a.eval (.tmp 98) = .bool false from (hv 15 (by decide) _ rfl _ rfl)))) (execLenPr (len := M) rfl (hv 18 (by decide) _ rfl _ rfl) (own_th FW).shp) ⟨s, ⟨_, rfl, rfl⟩, hS, fun _ _ => rfl⟩
      | 20, _ => exact stepV rfl (wantedOf rfl (yieldedAt rfl rfl (show a.eval (.tmp 98) = .bool false from (hv 15 (by decide) _ rfl _ rfl)))) (execDec (execNeN (p := M) (q := M) rfl (hv 17 (by decide) _ rfl _ rfl) (hv 19 (by decide) _ rfl _ rfl)) (decide_eq_false (by omega))) ⟨s, ⟨_, rfl, rfl⟩, hS, fun _ _ => rfl⟩
      | 21, _ => exact stepV rfl rfl (execPickF rfl (hv 15 (by decide) _ rfl _ rfl) (hv 20 (by decide) _ rfl _ rfl)) ⟨s, ⟨_, rfl, rfl⟩, hS, fun _ _ => rfl⟩
      | 22, _ => exact stepV rfl rfl (execMvB rfl (hv 21 (by decide) _ rfl _ rfl)) ⟨s, ⟨_, rfl, rfl⟩, hS, fun _ _ => rfl⟩
      | 23, _ => exact stepV rfl (wantedOf rfl (yieldedAt rfl rfl (show a.eval (.tmp 105) = .bool false from (hv 22 (by decide) _ rfl _ rfl)))) (execMvB rfl ((hf 8 (by decide)).trans t8)) ⟨s, ⟨_, rfl, rfl⟩, hS, fun _ _ => rfl⟩
      | 24, _ => exact stepV rfl (wantedOf rfl (yieldedAt rfl rfl (show a.eval (.tmp 105) = .bool false from (hv 22 (by decide) _ rfl _ rfl)))) (execMvB rfl ((hf 0 (by decide)).trans t0)) ⟨s, ⟨_, rfl, rfl⟩, hS, fun _ _ => rfl⟩
      | 25, _ => exact stepC rfl (wantedOf rfl (yieldedAt rfl rfl (show a.eval (.tmp 105) = .bool false from (hv 22 (by decide) _ rfl _ rfl)))) (execCall2 Try.func21 (by kernel_rfl) (by kernel_rfl) rfl (hv 23 (by decide) _ rfl _ rfl) (hv 24 (by decide) _ rfl _ rfl)) (whole_lent (ownD_below FR hS) (FC.on hS) (by omega)) fun e w' hh => ⟨_, hh.1, s, ⟨_, rfl, rfl⟩, (hS).trans ((hh.2).mono (hS).size), fun _ _ => rfl⟩
      | 26, _ => exact stepV rfl (wantedOf rfl (yieldedAt rfl rfl (show a.eval (.tmp 105) = .bool false from (hv 22 (by decide) _ rfl _ rfl)))) (execNot8 rfl (hv 25 (by decide) _ rfl _ rfl)) ⟨s, ⟨_, rfl, rfl⟩, hS, fun _ _ => rfl⟩
      | 27, _ => exact stepV rfl rfl (execPickF rfl (hv 22 (by decide) _ rfl _ rfl) (hv 26 (by decide) _ rfl _ rfl)) ⟨s, ⟨_, rfl, rfl⟩, hS, fun _ _ => rfl⟩
      | k_ + 28, h_ => exact absurd h_ (by simp)
    rintro _ a X11 h1 h2 h3 h4 hS
    replace hS : Below X10.heap.size X10 X11 := hS
    have bX := hS
    clear hS
    replace t1 := (h3 1 (by decide)).trans t1
    replace t9 := (h3 9 (by decide)).trans t9
    replace t10 := (h3 10 (by decide)).trans t10
    replace t12 := (h3 12 (by decide)).trans t12
    replace t14 := (h3 14 (by decide)).trans t14
    have t110 : a.eval (.tmp 110) = .bool false := h4 27 _ rfl _ rfl
    replace FC := (FC.on bX)
    replace FI := (FI.on bX)
    replace FR := (ownD_below FR bX)
    replace FT := (FT.on bX)
    replace FP := (ownD_below FP bX)
    replace FW := (ownD_below FW bX)
    replace FXs := (Nat.le_trans FXs (bX).size)
    replace Fa74 := (ownD_below Fa74 bX)
    replace Fb80 := (ownD_below Fb80 bX)
    have ZX11 := bX.size
    replace BW := BW.trans (bX.mono BW.size)
    clear bX
    replace A := (⟨h1, h2.trans A.2⟩ : a.tmps.size = 232 ∧ a.defers = [])
    clear h1 h2 h3 h4
    clear t0 t8 t11 t13 t15
    refine wp_cond_false t110 ?_
    refine wp_skip ?_
    clear t110
    have FZ : WvS V X8 X11 a74 b80 r68 p64 M J gb cp (gN lf) (rwH cf) (rwH cf) (chH (gN lf)) := ⟨Fa74, Fb80, FW, FT, FP, Fd, hgl, hVB, FXs⟩
    clear FXs Fa74 Fb80 FW FT FP Fd FR FC FI
    have BB := BW
    clear BW
    refine wp_seq ?_
    refine wp_seq ?_
    refine wp_region_sq (σ := Unit) 232 [(0, 111), (1, 112), (2, 113)] (fun j_ s X => match j_ with | 0 => Below V.heap.size V X ∧ (WvS V X8 X a74 b80 r68 p64 M J gb cp (gN lf) (rwH cf) (rwH cf) (chH (gN lf))) | 1 => Below V.heap.size V X ∧ (WvS V X8 X a74 b80 r68 p64 M J gb cp (gN lf) (rwH cf) (rwH cf) (chH (gN lf))) | 2 => Below V.heap.size V X ∧ (WvS V X8 X a74 b80 r68 p64 M J gb cp (gN lf) (rwH cf) (rwH cf) (chH (gN lf))) | _ => Below V.heap.size V X ∧ (WvS V X8 X a74 b80 r68 p64 M J gb cp (gN lf) (rwH cf) (rwH cf) (chH (gN lf)))) (fun s => fun i_ => match i_ with | 0 => a74 | 1 => .int .i64 ((M : Nat) : Int) | 2 => .int .i64 ((0 : Nat) : Int) | _ => undef) () A.1 (by kernel_rfl) (by decide) (by decide) ⟨BB, FZ⟩ ?_ ?_
    · intro i_ hi_ s a X hf hv hn hS
      match i_, hi_ with
      | 0, _ => exact stepV rfl rfl (execMvB rfl ((hf 12 (by decide)).trans t12)) ⟨s, ⟨_, rfl, rfl⟩, hS, fun _ _ => rfl⟩
      | 1, _ => exact stepV rfl rfl (execLenTh (len := M) rfl (hv 0 (by decide) _ rfl _ rfl) (own_th hS.2.ra).shp) ⟨s, ⟨_, rfl, rfl⟩, hS, fun _ _ => rfl⟩
      | 2, _ => exact stepV rfl rfl (execMvB rfl rfl) ⟨s, ⟨_, rfl, rfl⟩, hS, fun _ _ => rfl⟩
      | k_ + 3, h_ => exact absurd h_ (by simp)
    rintro _ a X13 h1 h2 h3 h4 hS
    clear BB
    clear FZ
    replace hS : Below V.heap.size V X13 ∧ (WvS V X8 X13 a74 b80 r68 p64 M J gb cp (gN lf) (rwH cf) (rwH cf) (chH (gN lf))) := hS
    obtain ⟨BB, FZ⟩ := hS
    replace t1 := (h3 1 (by decide)).trans t1
    replace t9 := (h3 9 (by decide)).trans t9
    replace t10 := (h3 10 (by decide)).trans t10
    replace t12 := (h3 12 (by decide)).trans t12
    replace t14 := (h3 14 (by decide)).trans t14
    have t111 : a.eval (.tmp 111) = a74 := h4 0 _ rfl _ rfl
    have t112 : a.eval (.tmp 112) = .int .i64 ((M : Nat) : Int) := h4 1 _ rfl _ rfl
    have t113 : a.eval (.tmp 113) = .int .i64 ((0 : Nat) : Int) := h4 2 _ rfl _ rfl
    replace A := (⟨h1, h2.trans A.2⟩ : a.tmps.size = 232 ∧ a.defers = [])
    clear h1 h2 h3 h4
    replace FZ : (WvS V X8 X13 a74 b80 r68 p64 M J gb cp (gN lf) (zA cf 0) (rwH cf) (chH (gN lf))) := FZ.cgA (fun t _ => (zA_0 cf t).symm)
    refine wp_block ?_
    refine wp_loop (fun a W => ∃ (i : Nat), i ≤ M ∧ (a.tmps.size = 232 ∧ a.defers = []) ∧ a.eval (.tmp 1) = v ∧ a.eval (.tmp 9) = p64 ∧ a.eval (.tmp 10) = r68 ∧ a.eval (.tmp 12) = a74 ∧ a.eval (.tmp 14) = b80 ∧ a.eval (.tmp 111) = a74 ∧ a.eval (.tmp 112) = .int .i64 ((M : Nat) : Int) ∧ a.eval (.tmp 113) = .int .i64 ((i : Nat) : Int) ∧ Below V.heap.size V W ∧ (WvS V X8 W a74 b80 r68 p64 M J gb cp (gN lf) (zA cf i) (rwH cf) (chH (gN lf)))) (fun a _ => M - (intOf (a.eval (.tmp 113))).toNat) ⟨0, Nat.zero_le _, A, t1, t9, t10, t12, t14, t111, t112, t113, BB, FZ⟩ ?_
    clear A t1 t9 t10 t12 t14 t111 t112 t113 BB FZ a
    rintro a XL14 ⟨i, hi, A, t1, t9, t10, t12, t14, t111, t112, t113, BB, FZ⟩
    have esi := t113
    refine wp_seq ?_
    refine wp_region_sq (σ := Unit) 232 [(0, 114)] (fun j_ s X => match j_ with | 0 => Below V.heap.size V X ∧ (WvS V X8 X a74 b80 r68 p64 M J gb cp (gN lf) (zA cf i) (rwH cf) (chH (gN lf))) | _ => Below V.heap.size V X ∧ (WvS V X8 X a74 b80 r68 p64 M J gb cp (gN lf) (zA cf i) (rwH cf) (chH (gN lf)))) (fun s => fun i_ => match i_ with | 0 => .bool (decide (i < M)) | _ => undef) () A.1 (by kernel_rfl) (by decide) (by decide) ⟨BB, FZ⟩ ?_ ?_
    · intro i_ hi_ s a X hf hv hn hS
      match i_, hi_ with
      | 0, _ => exact stepV rfl rfl (execLtW (p := i) (q := M) rfl ((hf 113 (by decide)).trans t113) ((hf 112 (by decide)).trans t112)) ⟨s, ⟨_, rfl, rfl⟩, hS, fun _ _ => rfl⟩
      | k_ + 1, h_ => exact absurd h_ (by simp)
    rintro _ a X14 h1 h2 h3 h4 hS
    clear BB
    clear FZ
    replace hS : Below V.heap.size V X14 ∧ (WvS V X8 X14 a74 b80 r68 p64 M J gb cp (gN lf) (zA cf i) (rwH cf) (chH (gN lf))) := hS
    obtain ⟨BB, FZ⟩ := hS
    replace t1 := (h3 1 (by decide)).trans t1
    replace t9 := (h3 9 (by decide)).trans t9
    replace t10 := (h3 10 (by decide)).trans t10
    replace t12 := (h3 12 (by decide)).trans t12
    replace t14 := (h3 14 (by decide)).trans t14
    replace t111 := (h3 111 (by decide)).trans t111
    replace t112 := (h3 112 (by decide)).trans t112
    replace t113 := (h3 113 (by decide)).trans t113
    have t114 : a.eval (.tmp 114) = .bool (decide (i < M)) := h4 0 _ rfl _ rfl
    replace A := (⟨h1, h2.trans A.2⟩ : a.tmps.size = 232 ∧ a.defers = [])
    clear h1 h2 h3 h4
    refine wp_seq ?_
    by_cases lti : i < M
    · rw [decide_eq_true lti] at t114
      refine wp_cond_true t114 ?_
      refine wp_skip ?_
      clear t114
      refine wp_seq ?_
      refine wp_block ?_
      obtain ⟨ga, ca, ea, hBa, _⟩ := ownL_some9 FZ.ra (by omega)
      obtain ⟨gc, cc, ecb, _, _⟩ := ownL_some9 FZ.rb (by omega)
      obtain ⟨gw, cw, ew, _, _⟩ := ownL_some9 FZ.rw (by omega)
      refine wp_seq ?_
      refine wp_region_sq (σ := Unit) 232 [(0, 115), (1, 16)] (fun j_ s X => match j_ with | 0 => Below V.heap.size V X ∧ (WvS V X8 X a74 b80 r68 p64 M J gb cp (gN lf) (zA cf i) (rwH cf) (chH (gN lf))) | 1 => Below V.heap.size V X ∧ (WvS V X8 X a74 b80 r68 p64 M J gb cp (gN lf) (zA cf i) (rwH cf) (chH (gN lf))) | _ => Below V.heap.size V X ∧ (WvS V X8 X a74 b80 r68 p64 M J gb cp (gN lf) (zA cf i) (rwH cf) (chH (gN lf)))) (fun s => fun i_ => match i_ with | 0 => .int .i64 ((i : Nat) : Int) | 1 => .int .i64 ((i : Nat) : Int) | _ => undef) () A.1 (by kernel_rfl) (by decide) (by decide) ⟨BB, FZ⟩ ?_ ?_
      · intro i_ hi_ s a X hf hv hn hS
        match i_, hi_ with
        | 0, _ => exact stepV rfl rfl (execMvB rfl ((hf 113 (by decide)).trans t113)) ⟨s, ⟨_, rfl, rfl⟩, hS, fun _ _ => rfl⟩
        | 1, _ => exact stepV rfl rfl (execAsgB rfl (hv 0 (by decide) _ rfl _ rfl)) ⟨s, ⟨_, rfl, rfl⟩, hS, fun _ _ => rfl⟩
        | k_ + 2, h_ => exact absurd h_ (by simp)
      rintro _ a X15 h1 h2 h3 h4 hS
      clear BB
      clear FZ
      replace hS : Below V.heap.size V X15 ∧ (WvS V X8 X15 a74 b80 r68 p64 M J gb cp (gN lf) (zA cf i) (rwH cf) (chH (gN lf))) := hS
      obtain ⟨BB, FZ⟩ := hS
      replace t1 := (h3 1 (by decide)).trans t1
      replace t9 := (h3 9 (by decide)).trans t9
      replace t10 := (h3 10 (by decide)).trans t10
      replace t12 := (h3 12 (by decide)).trans t12
      replace t14 := (h3 14 (by decide)).trans t14
      replace t111 := (h3 111 (by decide)).trans t111
      replace t112 := (h3 112 (by decide)).trans t112
      replace t113 := (h3 113 (by decide)).trans t113
      have t16 : a.eval (.tmp 16) = .int .i64 ((i : Nat) : Int) := h4 1 _ rfl _ rfl
      replace A := (⟨h1, h2.trans A.2⟩ : a.tmps.size = 232 ∧ a.defers = [])
      clear h1 h2 h3 h4
      refine wp_seq ?_
      refine wp_seq ?_
      refine wp_region_detA 232 [(0, 116), (1, 117), (2, 118), (3, 119), (4, 120), (5, 121), (6, 122), (7, 123), (8, 124), (9, 125), (10, 126), (11, 127), (12, 128), (13, 129), (14, 130), (15, 131), (16, 132), (17, 133), (18, 134), (19, 135)] (fun i_ => match i_ with | 0 => a74 | 1 => .int .i64 ((i : Nat) : Int) | 2 => .pointer (some ⟨ga, 0 + i * 2, none⟩) | 3 => .agg (thC (rwH cf (i * 2)) (rwH cf (i * 2 + 1))) | 4 => r68 | 5 => .int .i64 ((i : Nat) : Int) | 6 => .pointer (some ⟨gw, 0 + i * 2, none⟩) | 7 => .agg (thC (rwH cf (i * 2)) (rwH cf (i * 2 + 1))) | 8 => .bool false | 9 => .bool false | 10 => b80 | 11 => .int .i64 ((i : Nat) : Int) | 12 => .pointer (some ⟨gc, 0 + i * 2, none⟩) | 13 => .agg (thC (rwH cf (i * 2)) (rwH cf (i * 2 + 1))) | 14 => a74 | 15 => .int .i64 ((i : Nat) : Int) | 16 => .pointer (some ⟨ga, 0 + i * 2, none⟩) | 17 => .agg (thC (rwH cf (i * 2)) (rwH cf (i * 2 + 1))) | 18 => .bool false | 19 => .bool false | _ => undef) (fun _ X => Below V.heap.size V X ∧ (WvS V X8 X a74 b80 r68 p64 M J gb cp (gN lf) (zA cf i) (rwH cf) (chH (gN lf)))) (by kernel_rfl) (by kernel_rfl) A.1 (by kernel_rfl) (by decide) (by decide) ⟨BB.drew, (FZ.on (Below.refl _ _).drew)⟩ ?_ ?_
      · intro i_ hi_ l_ a X hl_ hf hdep hl2 hcl hno hT
        match i_, hi_ with
        | 0, _ => exact stepV rfl rfl (execMvB rfl ((hf 12 (by decide)).trans t12)) ⟨⟨_, rfl, rfl⟩, hT⟩
        | 1, _ => exact stepV rfl rfl (execMvB rfl ((hf 16 (by decide)).trans t16)) ⟨⟨_, rfl, rfl⟩, hT⟩
        | 2, _ => exact stepV rfl rfl (execIdxTh (k := i) rfl ((hdep _ rfl 0 rfl _ rfl _ rfl).trans ea) (hdep _ rfl 1 rfl _ rfl _ rfl) lti) ⟨⟨_, rfl, rfl⟩, hT⟩
        | 3, _ => exact stepV rfl rfl (execLdTh rfl (hdep _ rfl 2 rfl _ rfl _ rfl) ((th_cell (by have h_ := hT.2.ra; rw [ea] at h_; exact h_) (show i * 2 < M * 2 by omega)).trans (by rw [zA_at cf (by omega)])) ((th_cell (by have h_ := hT.2.ra; rw [ea] at h_; exact h_) (show i * 2 + 1 < M * 2 by omega)).trans (by rw [zA_at cf (by omega)]))) ⟨⟨_, rfl, rfl⟩, hT⟩
        | 4, _ => exact stepV rfl rfl (execMvB rfl ((hf 10 (by decide)).trans t10)) ⟨⟨_, rfl, rfl⟩, hT⟩
        | 5, _ => exact stepV rfl rfl (execMvB rfl ((hf 16 (by decide)).trans t16)) ⟨⟨_, rfl, rfl⟩, hT⟩
        | 6, _ => exact stepV rfl rfl (execIdxPr (k := i) rfl ((hdep _ rfl 4 rfl _ rfl _ rfl).trans ew) (hdep _ rfl 5 rfl _ rfl _ rfl) lti) ⟨⟨_, rfl, rfl⟩, hT⟩
        | 7, _ => exact stepV rfl rfl (execLdPr rfl (hdep _ rfl 6 rfl _ rfl _ rfl) (th_cell (by have h_ := hT.2.rw; rw [ew] at h_; exact h_) (show i * 2 < M * 2 by omega)) (th_cell (by have h_ := hT.2.rw; rw [ew] at h_; exact h_) (show i * 2 + 1 < M * 2 by omega))) ⟨⟨_, rfl, rfl⟩, hT⟩
        | 8, _ => exact stepV rfl rfl (execNeTh2 rfl (hdep _ rfl 3 rfl _ rfl _ rfl) (hdep _ rfl 7 rfl _ rfl _ rfl) rfl rfl) ⟨⟨_, rfl, rfl⟩, hT⟩
        | 9, _ => exact stepV rfl rfl (execMvB rfl (hdep _ rfl 8 rfl _ rfl _ rfl)) ⟨⟨_, rfl, rfl⟩, hT⟩
        | 10, _ => exact stepV rfl (wantedOf rfl (yieldedAt rfl rfl (show a.eval (.tmp 125) = .bool false from (hdep _ rfl 9 rfl _ rfl _ rfl)))) (execMvB rfl ((hf 14 (by decide)).trans t14)) ⟨⟨_, rfl, rfl⟩, hT⟩
        | 11, _ => exact stepV rfl (wantedOf rfl (yieldedAt rfl rfl (show a.eval (.tmp 125) = .bool false from (hdep _ rfl 9 rfl _ rfl _ rfl)))) (execMvB rfl ((hf 16 (by decide)).trans t16)) ⟨⟨_, rfl, rfl⟩, hT⟩
        | 12, _ => exact stepV rfl (wantedOf rfl (yieldedAt rfl rfl (show a.eval (.tmp 125) = .bool false from (hdep _ rfl 9 rfl _ rfl _ rfl)))) (execIdxTh (k := i) rfl ((hdep _ rfl 10 rfl _ rfl _ rfl).trans ecb) (hdep _ rfl 11 rfl _ rfl _ rfl) lti) ⟨⟨_, rfl, rfl⟩, hT⟩
        | 13, _ => exact stepV rfl (wantedOf rfl (yieldedAt rfl rfl (show a.eval (.tmp 125) = .bool false from (hdep _ rfl 9 rfl _ rfl _ rfl)))) (execLdTh rfl (hdep _ rfl 12 rfl _ rfl _ rfl) (th_cell (by have h_ := hT.2.rb; rw [ecb] at h_; exact h_) (show i * 2 < M * 2 by omega)) (th_cell (by have h_ := hT.2.rb; rw [ecb] at h_; exact h_) (show i * 2 + 1 < M * 2 by omega))) ⟨⟨_, rfl, rfl⟩, hT⟩
        | 14, _ => exact stepV rfl (wantedOf rfl (yieldedAt rfl rfl (show a.eval (.tmp 125) = .bool false from (hdep _ rfl 9 rfl _ rfl _ rfl)))) (execMvB rfl ((hf 12 (by decide)).trans t12)) ⟨⟨_, rfl, rfl⟩, hT⟩
        | 15, _ => exact stepV rfl (wantedOf rfl (yieldedAt rfl rfl (show a.eval (.tmp 125) = .bool false from (hdep _ rfl 9 rfl _ rfl _ rfl)))) (execMvB rfl ((hf 16 (by decide)).trans t16)) ⟨⟨_, rfl, rfl⟩, hT⟩
        | 16, _ => exact stepV rfl (wantedOf rfl (yieldedAt rfl rfl (show a.eval (.tmp 125) = .bool false from (hdep _ rfl 9 rfl _ rfl _ rfl)))) (execIdxTh (k := i) rfl ((hdep _ rfl 14 rfl _ rfl _ rfl).trans ea) (hdep _ rfl 15 rfl _ rfl _ rfl) lti) ⟨⟨_, rfl, rfl⟩, hT⟩
        | 17, _ => exact stepV rfl (wantedOf rfl (yieldedAt rfl rfl (show a.eval (.tmp 125) = .bool false from (hdep _ rfl 9 rfl _ rfl _ rfl)))) (execLdTh rfl (hdep _ rfl 16 rfl _ rfl _ rfl) ((th_cell (by have h_ := hT.2.ra; rw [ea] at h_; exact h_) (show i * 2 < M * 2 by omega)).trans (by rw [zA_at cf (by omega)])) ((th_cell (by have h_ := hT.2.ra; rw [ea] at h_; exact h_) (show i * 2 + 1 < M * 2 by omega)).trans (by rw [zA_at cf (by omega)]))) ⟨⟨_, rfl, rfl⟩, hT⟩
        | 18, _ => exact stepV rfl (wantedOf rfl (yieldedAt rfl rfl (show a.eval (.tmp 125) = .bool false from (hdep _ rfl 9 rfl _ rfl _ rfl)))) (execNeTh2 rfl (hdep _ rfl 13 rfl _ rfl _ rfl) (hdep _ rfl 17 rfl _ rfl _ rfl) rfl rfl) ⟨⟨_, rfl, rfl⟩, hT⟩
        | 19, _ => exact stepV rfl rfl (execPickF rfl (hdep _ rfl 9 rfl _ rfl _ rfl) (hdep _ rfl 18 rfl _ rfl _ rfl)) ⟨⟨_, rfl, rfl⟩, hT⟩
        | k_ + 20, h_ => exact absurd h_ (by simp)
      intro l_ a X16 h1 h2 h3 h4 hall hT
      clear hall
      clear BB
      clear FZ
      obtain ⟨BB, FZ⟩ := hT
      replace t1 := (h3 1 (by decide)).trans t1
      replace t9 := (h3 9 (by decide)).trans t9
      replace t10 := (h3 10 (by decide)).trans t10
      replace t12 := (h3 12 (by decide)).trans t12
      replace t14 := (h3 14 (by decide)).trans t14
      replace t111 := (h3 111 (by decide)).trans t111
      replace t112 := (h3 112 (by decide)).trans t112
      replace t113 := (h3 113 (by decide)).trans t113
      replace t16 := (h3 16 (by decide)).trans t16
      have t135 : a.eval (.tmp 135) = .bool false := h4 (19, 135) (by decide)
      replace A := (⟨h1, h2.trans A.2⟩ : a.tmps.size = 232 ∧ a.defers = [])
      clear h1 h2 h3 h4
      refine wp_cond_false t135 ?_
      refine wp_skip ?_
      clear t135
      refine wp_region_sq (σ := Unit) 232 [(0, 136), (1, 137), (2, 138), (3, 139)] (fun j_ s X => match j_ with | 0 => Below V.heap.size V X ∧ (WvS V X8 X a74 b80 r68 p64 M J gb cp (gN lf) (zA cf i) (rwH cf) (chH (gN lf))) | 1 => Below V.heap.size V X ∧ (WvS V X8 X a74 b80 r68 p64 M J gb cp (gN lf) (zA cf i) (rwH cf) (chH (gN lf))) | 2 => Below V.heap.size V X ∧ (WvS V X8 X a74 b80 r68 p64 M J gb cp (gN lf) (zA cf i) (rwH cf) (chH (gN lf))) | 3 => Below V.heap.size V X ∧ (WvS V X8 X a74 b80 r68 p64 M J gb cp (gN lf) (zA cf i) (rwH cf) (chH (gN lf))) | 4 => Below V.heap.size V X ∧ (WvS V X8 X a74 b80 r68 p64 M J gb cp (gN lf) (zA cf i) (rwH cf) (chH (gN lf))) | _ => Below V.heap.size V X ∧ (WvS V X8 X a74 b80 r68 p64 M J gb cp (gN lf) (zA cf (i + 1)) (rwH cf) (chH (gN lf)))) (fun s => fun i_ => match i_ with | 0 => a74 | 1 => .int .i64 ((i : Nat) : Int) | 2 => .agg (thC (-5) (-5)) | 3 => .pointer (some ⟨ga, 0 + i * 2, none⟩) | 4 => undef | _ => undef) () A.1 (by kernel_rfl) (by decide) (by decide) ⟨BB, FZ⟩ ?_ ?_
      · intro i_ hi_ s a X hf hv hn hS
        match i_, hi_ with
        | 0, _ => exact stepV rfl rfl (execMvB rfl ((hf 12 (by decide)).trans t12)) ⟨s, ⟨_, rfl, rfl⟩, hS, fun _ _ => rfl⟩
        | 1, _ => exact stepV rfl rfl (execMvB rfl ((hf 16 (by decide)).trans t16)) ⟨s, ⟨_, rfl, rfl⟩, hS, fun _ _ => rfl⟩
        | 2, _ => exact stepV rfl rfl (execBdTh (p := -5) (q := -5) rfl rfl rfl) ⟨s, ⟨_, rfl, rfl⟩, hS, fun _ _ => rfl⟩
        | 3, _ => exact stepV rfl rfl (execIdxTh (k := i) rfl ((hv 0 (by decide) _ rfl _ rfl).trans ea) (hv 1 (by decide) _ rfl _ rfl) lti) ⟨s, ⟨_, rfl, rfl⟩, hS, fun _ _ => rfl⟩
        | 4, _ =>
          refine stepStTh rfl rfl rfl (hv 3 (by decide) _ rfl _ rfl) (hv 2 (by decide) _ rfl _ rfl) (by have h_ := hS.2.ra; rw [ea] at h_; exact h_) lti fun W' own' gr => ⟨s, ⟨_, rfl, rfl⟩, ⟨(hS.1).grown gr (hS.1).size (fun k hk => by rw [← Option.some.inj hk]; exact Nat.le_trans hVB hBa), (hS.2.setA ea own' gr).cgA (fun t _ => zA_next cf i t)⟩, fun i hi => ?_⟩
          match i, hi with
          | 0, _ => rfl
          | 1, _ => rfl
          | 2, _ => rfl
          | 3, _ => rfl
          | n_ + 4, h_ => omega
        | k_ + 5, h_ => exact absurd h_ (by simp)
      rintro _ a X18 h1 h2 h3 h4 hS
      clear BB
      clear FZ
      replace hS : Below V.heap.size V X18 ∧ (WvS V X8 X18 a74 b80 r68 p64 M J gb cp (gN lf) (zA cf (i + 1)) (rwH cf) (chH (gN lf))) := hS
      obtain ⟨BB, FZ2⟩ := hS
      replace t1 := (h3 1 (by decide)).trans t1
      replace t9 := (h3 9 (by decide)).trans t9
      replace t10 := (h3 10 (by decide)).trans t10
      replace t12 := (h3 12 (by decide)).trans t12
      replace t14 := (h3 14 (by decide)).trans t14
      replace t111 := (h3 111 (by decide)).trans t111
      replace t112 := (h3 112 (by decide)).trans t112
      replace t113 := (h3 113 (by decide)).trans t113
      replace A := (⟨h1, h2.trans A.2⟩ : a.tmps.size = 232 ∧ a.defers = [])
      clear h1 h2 h3 h4
      clear t16
      refine wp_region_sq (σ := Unit) 232 [(0, 140), (1, 113)] (fun j_ s X => match j_ with | 0 => Below V.heap.size V X ∧ (WvS V X8 X a74 b80 r68 p64 M J gb cp (gN lf) (zA cf (i + 1)) (rwH cf) (chH (gN lf))) | 1 => Below V.heap.size V X ∧ (WvS V X8 X a74 b80 r68 p64 M J gb cp (gN lf) (zA cf (i + 1)) (rwH cf) (chH (gN lf))) | _ => Below V.heap.size V X ∧ (WvS V X8 X a74 b80 r68 p64 M J gb cp (gN lf) (zA cf (i + 1)) (rwH cf) (chH (gN lf)))) (fun s => fun i_ => match i_ with | 0 => .int .i64 ((i + 1 : Nat) : Int) | 1 => .int .i64 ((i + 1 : Nat) : Int) | _ => undef) () A.1 (by kernel_rfl) (by decide) (by decide) ⟨BB, FZ2⟩ ?_ ?_
      · intro i_ hi_ s a X hf hv hn hS
        match i_, hi_ with
        | 0, _ => exact stepV rfl rfl (execAd8 (p := i) (q := 1) rfl ((hn 1 (by decide) _ rfl _ rfl).trans t113) rfl (by omega)) ⟨s, ⟨_, rfl, rfl⟩, hS, fun _ _ => rfl⟩
        | 1, _ => exact stepV rfl rfl (execMvB rfl (hv 0 (by decide) _ rfl _ rfl)) ⟨s, ⟨_, rfl, rfl⟩, hS, fun _ _ => rfl⟩
        | k_ + 2, h_ => exact absurd h_ (by simp)
      rintro _ a X19 h1 h2 h3 h4 hS
      clear BB
      clear FZ2
      replace hS : Below V.heap.size V X19 ∧ (WvS V X8 X19 a74 b80 r68 p64 M J gb cp (gN lf) (zA cf (i + 1)) (rwH cf) (chH (gN lf))) := hS
      obtain ⟨BB, FZ2⟩ := hS
      replace t1 := (h3 1 (by decide)).trans t1
      replace t9 := (h3 9 (by decide)).trans t9
      replace t10 := (h3 10 (by decide)).trans t10
      replace t12 := (h3 12 (by decide)).trans t12
      replace t14 := (h3 14 (by decide)).trans t14
      replace t111 := (h3 111 (by decide)).trans t111
      replace t112 := (h3 112 (by decide)).trans t112
      replace t113 : a.eval (.tmp 113) = .int .i64 ((i + 1 : Nat) : Int) := h4 1 _ rfl _ rfl
      replace A := (⟨h1, h2.trans A.2⟩ : a.tmps.size = 232 ∧ a.defers = [])
      clear h1 h2 h3 h4
      exact ⟨⟨i + 1, lti, A, t1, t9, t10, t12, t14, t111, t112, t113, BB, FZ2⟩, by show M - (intOf (a.eval (.tmp 113))).toNat < M - (intOf (Act.eval _ (.tmp 113))).toNat; rw [t113, esi]; show M - (i + 1) < M - i; omega⟩
    · rw [decide_eq_false lti] at t114
      refine wp_cond_false t114 ?_
      refine wp_exit ?_
      first | with_reducible refine exit_in ?_ | with_reducible refine exit_then (exit_in ?_) | with_reducible refine exit_then (exit_then (exit_in ?_)) | refine exit_in ?_ | refine exit_then (exit_in ?_) | refine exit_then (exit_then (exit_in ?_))
      clear t114 esi
      have hiM : i = M := by omega
      clear t111 t112 t113
      refine wp_seq ?_
      refine wp_region_sq (σ := Nat × Value) 232 [(0, 141), (1, 142), (2, 143), (3, 144), (4, 145), (5, 12)] (fun j_ s X => match j_ with | 0 => Below V.heap.size V X ∧ (WvS V X8 X a74 b80 r68 p64 M J gb cp (gN lf) (zA cf i) (rwH cf) (chH (gN lf))) | 1 => Below V.heap.size V X ∧ (WvS V X8 X a74 b80 r68 p64 M J gb cp (gN lf) (zA cf i) (rwH cf) (chH (gN lf))) | 2 => Below V.heap.size V X ∧ (WvS V X8 X a74 b80 r68 p64 M J gb cp (gN lf) (zA cf i) (rwH cf) (chH (gN lf))) | 3 => Below V.heap.size V X ∧ (WvS V X8 X a74 b80 r68 p64 M J gb cp (gN lf) (zA cf i) (rwH cf) (chH (gN lf))) | 4 => Below V.heap.size V X ∧ (WvS V X8 X a74 b80 r68 p64 M J gb cp (gN lf) (zA cf i) (rwH cf) (chH (gN lf))) ∧ (X.heap[s.1]? = some (.cells #[.int .i64 (-6), .int .i64 (-6), .int .i64 (-6), .int .i64 (-6)] 59)) | 5 => Below V.heap.size V X ∧ (WvB V X8 X b80 r68 p64 M J gb cp (gN lf) (rwH cf) (chH (gN lf))) ∧ (∃ g c, s.2 = .slice g (M + 2) c) | _ => Below V.heap.size V X ∧ (WvB V X8 X b80 r68 p64 M J gb cp (gN lf) (rwH cf) (chH (gN lf))) ∧ (∃ g c, s.2 = .slice g (M + 2) c)) (fun s => fun i_ => match i_ with | 0 => a74 | 1 => .agg (thC (-6) (-6)) | 2 => .agg (thC (-6) (-6)) | 3 => .slice (some ⟨s.1, 0, none⟩) 2 2 | 4 => s.2 | 5 => s.2 | _ => undef) (0, undef) A.1 (by kernel_rfl) (by decide) (by decide) ⟨BB, FZ⟩ ?_ ?_
      · intro i_ hi_ s a X hf hv hn hS
        match i_, hi_ with
        | 0, _ => exact stepV rfl rfl (execMvB rfl ((hn 5 (by decide) _ rfl _ rfl).trans t12)) ⟨s, ⟨_, rfl, rfl⟩, hS, fun _ _ => rfl⟩
        | 1, _ => exact stepV rfl rfl (execBdTh (p := -6) (q := -6) rfl rfl rfl) ⟨s, ⟨_, rfl, rfl⟩, hS, fun _ _ => rfl⟩
        | 2, _ => exact stepV rfl rfl (execBdTh (p := -6) (q := -6) rfl rfl rfl) ⟨s, ⟨_, rfl, rfl⟩, hS, fun _ _ => rfl⟩
        | 3, _ =>
          refine stepV rfl rfl (execBs2Th rfl (hv 1 (by decide) _ rfl _ rfl) (hv 2 (by decide) _ rfl _ rfl)) ⟨(X.heap.size, s.2), ⟨_, rfl, rfl⟩, ⟨(hS.1).trans (((belNew X _)).mono (hS.1).size), (hS.2.on (belNew X _)), heapNew X _⟩, fun i hi => ?_⟩
          match i, hi with
          | 0, _ => rfl
          | 1, _ => rfl
          | 2, _ => rfl
          | n_ + 3, h_ => omega
        | 4, _ =>
          refine stepApp2Th rfl rfl rfl (hv 0 (by decide) _ rfl _ rfl) (hv 3 (by decide) _ rfl _ rfl) hS.2.1.ra hS.2.2 (by omega) hS.2.1.sz fun v' W' sh' gr => ⟨(s.1, v'), ⟨_, rfl, rfl⟩, ⟨(hS.1).grown gr (hS.1).size (fun k hk => Nat.le_trans hVB (hS.2.1.ra.lt k hk).1), hS.2.1.noA gr, sh'⟩, fun i hi => ?_⟩
          match i, hi with
          | 0, _ => rfl
          | 1, _ => rfl
          | 2, _ => rfl
          | 3, _ => rfl
          | n_ + 4, h_ => omega
        | 5, _ => exact stepV rfl rfl (execAsgB rfl (hv 4 (by decide) _ rfl _ rfl)) ⟨s, ⟨_, rfl, rfl⟩, hS, fun _ _ => rfl⟩
        | k_ + 6, h_ => exact absurd h_ (by simp)
      rintro ⟨g144, v145⟩ a X20 h1 h2 h3 h4 hS
      clear BB
      clear FZ
      replace hS : Below V.heap.size V X20 ∧ (WvB V X8 X20 b80 r68 p64 M J gb cp (gN lf) (rwH cf) (chH (gN lf))) ∧ (∃ g c, v145 = .slice g (M + 2) c) := hS
      obtain ⟨BB, FY, Fsh⟩ := hS
      replace t1 := (h3 1 (by decide)).trans t1
      replace t9 := (h3 9 (by decide)).trans t9
      replace t10 := (h3 10 (by decide)).trans t10
      replace t12 : a.eval (.tmp 12) = v145 := h4 5 _ rfl _ rfl
      replace t14 := (h3 14 (by decide)).trans t14
      replace A := (⟨h1, h2.trans A.2⟩ : a.tmps.size = 232 ∧ a.defers = [])
      clear h1 h2 h3 h4
      clear hiM lti hi
      refine wp_seq ?_
      refine wp_seq ?_
      refine wp_region_sq (σ := Unit) 232 [(0, 146), (1, 147), (2, 148)] (fun j_ s X => match j_ with | 0 => Below V.heap.size V X ∧ (WvB V X8 X b80 r68 p64 M J gb cp (gN lf) (rwH cf) (chH (gN lf))) | 1 => Below V.heap.size V X ∧ (WvB V X8 X b80 r68 p64 M J gb cp (gN lf) (rwH cf) (chH (gN lf))) | 2 => Below V.heap.size V X ∧ (WvB V X8 X b80 r68 p64 M J gb cp (gN lf) (rwH cf) (chH (gN lf))) | _ => Below V.heap.size V X ∧ (WvB V X8 X b80 r68 p64 M J gb cp (gN lf) (rwH cf) (chH (gN lf)))) (fun s => fun i_ => match i_ with | 0 => b80 | 1 => .int .i64 ((M : Nat) : Int) | 2 => .int .i64 ((0 : Nat) : Int) | _ => undef) () A.1 (by kernel_rfl) (by decide) (by decide) ⟨BB, FY⟩ ?_ ?_
      · intro i_ hi_ s a X hf hv hn hS
        match i_, hi_ with
        | 0, _ => exact stepV rfl rfl (execMvB rfl ((hf 14 (by decide)).trans t14)) ⟨s, ⟨_, rfl, rfl⟩, hS, fun _ _ => rfl⟩
        | 1, _ => exact stepV rfl rfl (execLenTh (len := M) rfl (hv 0 (by decide) _ rfl _ rfl) (own_th hS.2.rb).shp) ⟨s, ⟨_, rfl, rfl⟩, hS, fun _ _ => rfl⟩
        | 2, _ => exact stepV rfl rfl (execMvB rfl rfl) ⟨s, ⟨_, rfl, rfl⟩, hS, fun _ _ => rfl⟩
        | k_ + 3, h_ => exact absurd h_ (by simp)
      rintro _ a X21 h1 h2 h3 h4 hS
      clear BB
      clear FY
      replace hS : Below V.heap.size V X21 ∧ (WvB V X8 X21 b80 r68 p64 M J gb cp (gN lf) (rwH cf) (chH (gN lf))) := hS
      obtain ⟨BB, FY⟩ := hS
      replace t1 := (h3 1 (by decide)).trans t1
      replace t9 := (h3 9 (by decide)).trans t9
      replace t10 := (h3 10 (by decide)).trans t10
      replace t12 := (h3 12 (by decide)).trans t12
      replace t14 := (h3 14 (by decide)).trans t14
      have t146 : a.eval (.tmp 146) = b80 := h4 0 _ rfl _ rfl
      have t147 : a.eval (.tmp 147) = .int .i64 ((M : Nat) : Int) := h4 1 _ rfl _ rfl
      have t148 : a.eval (.tmp 148) = .int .i64 ((0 : Nat) : Int) := h4 2 _ rfl _ rfl
      replace A := (⟨h1, h2.trans A.2⟩ : a.tmps.size = 232 ∧ a.defers = [])
      clear h1 h2 h3 h4
      refine wp_block ?_
      refine wp_loop (fun a W => ∃ (i : Nat), i ≤ M ∧ (a.tmps.size = 232 ∧ a.defers = []) ∧ a.eval (.tmp 1) = v ∧ a.eval (.tmp 9) = p64 ∧ a.eval (.tmp 10) = r68 ∧ a.eval (.tmp 12) = v145 ∧ a.eval (.tmp 14) = b80 ∧ a.eval (.tmp 146) = b80 ∧ a.eval (.tmp 147) = .int .i64 ((M : Nat) : Int) ∧ a.eval (.tmp 148) = .int .i64 ((i : Nat) : Int) ∧ Below V.heap.size V W ∧ (WvB V X8 W b80 r68 p64 M J gb cp (gN lf) (rwH cf) (chH (gN lf)))) (fun a _ => M - (intOf (a.eval (.tmp 148))).toNat) ⟨0, Nat.zero_le _, A, t1, t9, t10, t12, t14, t146, t147, t148, BB, FY⟩ ?_
      clear A t1 t9 t10 t12 t14 t146 t147 t148 BB FY a
      rintro a XL22 ⟨i, hi, A, t1, t9, t10, t12, t14, t146, t147, t148, BB, FY⟩
      have esi := t148
      refine wp_seq ?_
      refine wp_region_sq (σ := Unit) 232 [(0, 149)] (fun j_ s X => match j_ with | 0 => Below V.heap.size V X ∧ (WvB V X8 X b80 r68 p64 M J gb cp (gN lf) (rwH cf) (chH (gN lf))) | _ => Below V.heap.size V X ∧ (WvB V X8 X b80 r68 p64 M J gb cp (gN lf) (rwH cf) (chH (gN lf)))) (fun s => fun i_ => match i_ with | 0 => .bool (decide (i < M)) | _ => undef) () A.1 (by kernel_rfl) (by decide) (by decide) ⟨BB, FY⟩ ?_ ?_
      · intro i_ hi_ s a X hf hv hn hS
        match i_, hi_ with
        | 0, _ => exact stepV rfl rfl (execLtW (p := i) (q := M) rfl ((hf 148 (by decide)).trans t148) ((hf 147 (by decide)).trans t147)) ⟨s, ⟨_, rfl, rfl⟩, hS, fun _ _ => rfl⟩
        | k_ + 1, h_ => exact absurd h_ (by simp)
      rintro _ a X22 h1 h2 h3 h4 hS
      clear BB
      clear FY
      replace hS : Below V.heap.size V X22 ∧ (WvB V X8 X22 b80 r68 p64 M J gb cp (gN lf) (rwH cf) (chH (gN lf))) := hS
      obtain ⟨BB, FY⟩ := hS
      replace t1 := (h3 1 (by decide)).trans t1
      replace t9 := (h3 9 (by decide)).trans t9
      replace t10 := (h3 10 (by decide)).trans t10
      replace t12 := (h3 12 (by decide)).trans t12
      replace t14 := (h3 14 (by decide)).trans t14
      replace t146 := (h3 146 (by decide)).trans t146
      replace t147 := (h3 147 (by decide)).trans t147
      replace t148 := (h3 148 (by decide)).trans t148
      have t149 : a.eval (.tmp 149) = .bool (decide (i < M)) := h4 0 _ rfl _ rfl
      replace A := (⟨h1, h2.trans A.2⟩ : a.tmps.size = 232 ∧ a.defers = [])
      clear h1 h2 h3 h4
      refine wp_seq ?_
      by_cases lti : i < M
      · rw [decide_eq_true lti] at t149
        refine wp_cond_true t149 ?_
        refine wp_skip ?_
        clear t149
        refine wp_seq ?_
        refine wp_block ?_
        obtain ⟨gc, cc, ecb, _, _⟩ := ownL_some9 FY.rb (by omega)
        obtain ⟨gw, cw, ew, _, _⟩ := ownL_some9 FY.rw (by omega)
        refine wp_seq ?_
        refine wp_region_sq (σ := Unit) 232 [(0, 150), (1, 17)] (fun j_ s X => match j_ with | 0 => Below V.heap.size V X ∧ (WvB V X8 X b80 r68 p64 M J gb cp (gN lf) (rwH cf) (chH (gN lf))) | 1 => Below V.heap.size V X ∧ (WvB V X8 X b80 r68 p64 M J gb cp (gN lf) (rwH cf) (chH (gN lf))) | _ => Below V.heap.size V X ∧ (WvB V X8 X b80 r68 p64 M J gb cp (gN lf) (rwH cf) (chH (gN lf)))) (fun s => fun i_ => match i_ with | 0 => .int .i64 ((i : Nat) : Int) | 1 => .int .i64 ((i : Nat) : Int) | _ => undef) () A.1 (by kernel_rfl) (by decide) (by decide) ⟨BB, FY⟩ ?_ ?_
        · intro i_ hi_ s a X hf hv hn hS
          match i_, hi_ with
          | 0, _ => exact stepV rfl rfl (execMvB rfl ((hf 148 (by decide)).trans t148)) ⟨s, ⟨_, rfl, rfl⟩, hS, fun _ _ => rfl⟩
          | 1, _ => exact stepV rfl rfl (execAsgB rfl (hv 0 (by decide) _ rfl _ rfl)) ⟨s, ⟨_, rfl, rfl⟩, hS, fun _ _ => rfl⟩
          | k_ + 2, h_ => exact absurd h_ (by simp)
        rintro _ a X23 h1 h2 h3 h4 hS
        clear BB
        clear FY
        replace hS : Below V.heap.size V X23 ∧ (WvB V X8 X23 b80 r68 p64 M J gb cp (gN lf) (rwH cf) (chH (gN lf))) := hS
        obtain ⟨BB, FY⟩ := hS
        replace t1 := (h3 1 (by decide)).trans t1
        replace t9 := (h3 9 (by decide)).trans t9
        replace t10 := (h3 10 (by decide)).trans t10
        replace t12 := (h3 12 (by decide)).trans t12
        replace t14 := (h3 14 (by decide)).trans t14
        replace t146 := (h3 146 (by decide)).trans t146
        replace t147 := (h3 147 (by decide)).trans t147
        replace t148 := (h3 148 (by decide)).trans t148
        have t17 : a.eval (.tmp 17) = .int .i64 ((i : Nat) : Int) := h4 1 _ rfl _ rfl
        replace A := (⟨h1, h2.trans A.2⟩ : a.tmps.size = 232 ∧ a.defers = [])
        clear h1 h2 h3 h4
        refine wp_seq ?_
        refine wp_region_detA 232 [(0, 151), (1, 152), (2, 153), (3, 154), (4, 155), (5, 156), (6, 157), (7, 158), (8, 159)] (fun i_ => match i_ with | 0 => b80 | 1 => .int .i64 ((i : Nat) : Int) | 2 => .pointer (some ⟨gc, 0 + i * 2, none⟩) | 3 => .agg (thC (rwH cf (i * 2)) (rwH cf (i * 2 + 1))) | 4 => r68 | 5 => .int .i64 ((i : Nat) : Int) | 6 => .pointer (some ⟨gw, 0 + i * 2, none⟩) | 7 => .agg (thC (rwH cf (i * 2)) (rwH cf (i * 2 + 1))) | 8 => .bool false | _ => undef) (fun _ X => Below V.heap.size V X ∧ (WvB V X8 X b80 r68 p64 M J gb cp (gN lf) (rwH cf) (chH (gN lf)))) (by kernel_rfl) (by kernel_rfl) A.1 (by kernel_rfl) (by decide) (by decide) ⟨BB.drew, (FY.on (Below.refl _ _).drew)⟩ ?_ ?_
        · intro i_ hi_ l_ a X hl_ hf hdep hl2 hcl hno hT
          match i_, hi_ with
          | 0, _ => exact stepV rfl rfl (execMvB rfl ((hf 14 (by decide)).trans t14)) ⟨⟨_, rfl, rfl⟩, hT⟩
          | 1, _ => exact stepV rfl rfl (execMvB rfl ((hf 17 (by decide)).trans t17)) ⟨⟨_, rfl, rfl⟩, hT⟩
          | 2, _ => exact stepV rfl rfl (execIdxTh (k := i) rfl ((hdep _ rfl 0 rfl _ rfl _ rfl).trans ecb) (hdep _ rfl 1 rfl _ rfl _ rfl) lti) ⟨⟨_, rfl, rfl⟩, hT⟩
          | 3, _ => exact stepV rfl rfl (execLdTh rfl (hdep _ rfl 2 rfl _ rfl _ rfl) (th_cell (by have h_ := hT.2.rb; rw [ecb] at h_; exact h_) (show i * 2 < M * 2 by omega)) (th_cell (by have h_ := hT.2.rb; rw [ecb] at h_; exact h_) (show i * 2 + 1 < M * 2 by omega))) ⟨⟨_, rfl, rfl⟩, hT⟩
          | 4, _ => exact stepV rfl rfl (execMvB rfl ((hf 10 (by decide)).trans t10)) ⟨⟨_, rfl, rfl⟩, hT⟩
          | 5, _ => exact stepV rfl rfl (execMvB rfl ((hf 17 (by decide)).trans t17)) ⟨⟨_, rfl, rfl⟩, hT⟩
          | 6, _ => exact stepV rfl rfl (execIdxPr (k := i) rfl ((hdep _ rfl 4 rfl _ rfl _ rfl).trans ew) (hdep _ rfl 5 rfl _ rfl _ rfl) lti) ⟨⟨_, rfl, rfl⟩, hT⟩
          | 7, _ => exact stepV rfl rfl (execLdPr rfl (hdep _ rfl 6 rfl _ rfl _ rfl) (th_cell (by have h_ := hT.2.rw; rw [ew] at h_; exact h_) (show i * 2 < M * 2 by omega)) (th_cell (by have h_ := hT.2.rw; rw [ew] at h_; exact h_) (show i * 2 + 1 < M * 2 by omega))) ⟨⟨_, rfl, rfl⟩, hT⟩
          | 8, _ => exact stepV rfl rfl (execNeTh2 rfl (hdep _ rfl 3 rfl _ rfl _ rfl) (hdep _ rfl 7 rfl _ rfl _ rfl) rfl rfl) ⟨⟨_, rfl, rfl⟩, hT⟩
          | k_ + 9, h_ => exact absurd h_ (by simp)
        intro l_ a X24 h1 h2 h3 h4 hall hT
        clear hall
        clear BB
        clear FY
        obtain ⟨BB, FY⟩ := hT
        replace t1 := (h3 1 (by decide)).trans t1
        replace t9 := (h3 9 (by decide)).trans t9
        replace t10 := (h3 10 (by decide)).trans t10
        replace t12 := (h3 12 (by decide)).trans t12
        replace t14 := (h3 14 (by decide)).trans t14
        replace t146 := (h3 146 (by decide)).trans t146
        replace t147 := (h3 147 (by decide)).trans t147
        replace t148 := (h3 148 (by decide)).trans t148
        have t159 : a.eval (.tmp 159) = .bool false := h4 (8, 159) (by decide)
        replace A := (⟨h1, h2.trans A.2⟩ : a.tmps.size = 232 ∧ a.defers = [])
        clear h1 h2 h3 h4
        clear t17
        refine wp_cond_false t159 ?_
        refine wp_skip ?_
        clear t159
        refine wp_region_sq (σ := Unit) 232 [(0, 160), (1, 148)] (fun j_ s X => match j_ with | 0 => Below V.heap.size V X ∧ (WvB V X8 X b80 r68 p64 M J gb cp (gN lf) (rwH cf) (chH (gN lf))) | 1 => Below V.heap.size V X ∧ (WvB V X8 X b80 r68 p64 M J gb cp (gN lf) (rwH cf) (chH (gN lf))) | _ => Below V.heap.size V X ∧ (WvB V X8 X b80 r68 p64 M J gb cp (gN lf) (rwH cf) (chH (gN lf)))) (fun s => fun i_ => match i_ with | 0 => .int .i64 ((i + 1 : Nat) : Int) | 1 => .int .i64 ((i + 1 : Nat) : Int) | _ => undef) () A.1 (by kernel_rfl) (by decide) (by decide) ⟨BB, FY⟩ ?_ ?_
        · intro i_ hi_ s a X hf hv hn hS
          match i_, hi_ with
          | 0, _ => exact stepV rfl rfl (execAd8 (p := i) (q := 1) rfl ((hn 1 (by decide) _ rfl _ rfl).trans t148) rfl (by omega)) ⟨s, ⟨_, rfl, rfl⟩, hS, fun _ _ => rfl⟩
          | 1, _ => exact stepV rfl rfl (execMvB rfl (hv 0 (by decide) _ rfl _ rfl)) ⟨s, ⟨_, rfl, rfl⟩, hS, fun _ _ => rfl⟩
          | k_ + 2, h_ => exact absurd h_ (by simp)
        rintro _ a X26 h1 h2 h3 h4 hS
        clear BB
        clear FY
        replace hS : Below V.heap.size V X26 ∧ (WvB V X8 X26 b80 r68 p64 M J gb cp (gN lf) (rwH cf) (chH (gN lf))) := hS
        obtain ⟨BB, FY⟩ := hS
        replace t1 := (h3 1 (by decide)).trans t1
        replace t9 := (h3 9 (by decide)).trans t9
        replace t10 := (h3 10 (by decide)).trans t10
        replace t12 := (h3 12 (by decide)).trans t12
        replace t14 := (h3 14 (by decide)).trans t14
        replace t146 := (h3 146 (by decide)).trans t146
        replace t147 := (h3 147 (by decide)).trans t147
        replace t148 : a.eval (.tmp 148) = .int .i64 ((i + 1 : Nat) : Int) := h4 1 _ rfl _ rfl
        replace A := (⟨h1, h2.trans A.2⟩ : a.tmps.size = 232 ∧ a.defers = [])
        clear h1 h2 h3 h4
        exact ⟨⟨i + 1, lti, A, t1, t9, t10, t12, t14, t146, t147, t148, BB, FY⟩, by show M - (intOf (a.eval (.tmp 148))).toNat < M - (intOf (Act.eval _ (.tmp 148))).toNat; rw [t148, esi]; show M - (i + 1) < M - i; omega⟩
      · rw [decide_eq_false lti] at t149
        refine wp_cond_false t149 ?_
        refine wp_exit ?_
        first | with_reducible refine exit_in ?_ | with_reducible refine exit_then (exit_in ?_) | with_reducible refine exit_then (exit_then (exit_in ?_)) | refine exit_in ?_ | refine exit_then (exit_in ?_) | refine exit_then (exit_then (exit_in ?_))
        clear t149 esi
        clear t146 t147 t148
        clear lti hi
        refine wp_seq ?_
        refine wp_seq ?_
        refine wp_region_sq (σ := Unit) 232 [(0, 161), (1, 162), (2, 163)] (fun j_ s X => match j_ with | 0 => Below V.heap.size V X ∧ (WvB V X8 X b80 r68 p64 M J gb cp (gN lf) (rwH cf) (chH (gN lf))) | 1 => Below V.heap.size V X ∧ (WvB V X8 X b80 r68 p64 M J gb cp (gN lf) (rwH cf) (chH (gN lf))) | 2 => Below V.heap.size V X ∧ (WvB V X8 X b80 r68 p64 M J gb cp (gN lf) (rwH cf) (chH (gN lf))) | _ => Below V.heap.size V X ∧ (WvB V X8 X b80 r68 p64 M J gb cp (gN lf) (rwH cf) (chH (gN lf)))) (fun s => fun i_ => match i_ with | 0 => v | 1 => .int .i64 ((J : Nat) : Int) | 2 => .int .i64 ((0 : Nat) : Int) | _ => undef) () A.1 (by kernel_rfl) (by decide) (by decide) ⟨BB, FY⟩ ?_ ?_
        · intro i_ hi_ s a X hf hv hn hS
          match i_, hi_ with
          | 0, _ => exact stepV rfl rfl (execMvB rfl ((hf 1 (by decide)).trans t1)) ⟨s, ⟨_, rfl, rfl⟩, hS, fun _ _ => rfl⟩
          | 1, _ => exact stepV rfl rfl (execLenI (len := J) rfl (hv 0 (by decide) _ rfl _ rfl) ((FIV.on hS.1)).shp) ⟨s, ⟨_, rfl, rfl⟩, hS, fun _ _ => rfl⟩
          | 2, _ => exact stepV rfl rfl (execMvB rfl rfl) ⟨s, ⟨_, rfl, rfl⟩, hS, fun _ _ => rfl⟩
          | k_ + 3, h_ => exact absurd h_ (by simp)
        rintro _ a X27 h1 h2 h3 h4 hS
        clear BB
        clear FY
        replace hS : Below V.heap.size V X27 ∧ (WvB V X8 X27 b80 r68 p64 M J gb cp (gN lf) (rwH cf) (chH (gN lf))) := hS
        obtain ⟨BB, FY⟩ := hS
        replace t9 := (h3 9 (by decide)).trans t9
        replace t10 := (h3 10 (by decide)).trans t10
        replace t12 := (h3 12 (by decide)).trans t12
        replace t14 := (h3 14 (by decide)).trans t14
        have t161 : a.eval (.tmp 161) = v := h4 0 _ rfl _ rfl
        have t162 : a.eval (.tmp 162) = .int .i64 ((J : Nat) : Int) := h4 1 _ rfl _ rfl
        have t163 : a.eval (.tmp 163) = .int .i64 ((0 : Nat) : Int) := h4 2 _ rfl _ rfl
        replace A := (⟨h1, h2.trans A.2⟩ : a.tmps.size = 232 ∧ a.defers = [])
        clear h1 h2 h3 h4
        clear t1
        refine wp_block ?_
        refine wp_loop (fun a W => ∃ (j : Nat) (hh : Nat → Nat → Int), j ≤ J ∧ (∀ s, j ≤ s → hh s = chH (gN lf) s) ∧ (a.tmps.size = 232 ∧ a.defers = []) ∧ a.eval (.tmp 9) = p64 ∧ a.eval (.tmp 10) = r68 ∧ a.eval (.tmp 12) = v145 ∧ a.eval (.tmp 14) = b80 ∧ a.eval (.tmp 161) = v ∧ a.eval (.tmp 162) = .int .i64 ((J : Nat) : Int) ∧ a.eval (.tmp 163) = .int .i64 ((j : Nat) : Int) ∧ Below V.heap.size V W ∧ (WvB V X8 W b80 r68 p64 M J gb cp (gN lf) (rwH cf) (hh))) (fun a _ => J - (intOf (a.eval (.tmp 163))).toNat) ⟨0, chH (gN lf), Nat.zero_le _, fun _ _ => rfl, A, t9, t10, t12, t14, t161, t162, t163, BB, FY⟩ ?_
        clear A t9 t10 t12 t14 t161 t162 t163 BB FY a
        rintro a XL28 ⟨j, hh, hj, hhj, A, t9, t10, t12, t14, t161, t162, t163, BB, FY⟩
        have esj := t163
        refine wp_seq ?_
        refine wp_region_sq (σ := Unit) 232 [(0, 164)] (fun j_ s X => match j_ with | 0 => Below V.heap.size V X ∧ (WvB V X8 X b80 r68 p64 M J gb cp (gN lf) (rwH cf) (hh)) | _ => Below V.heap.size V X ∧ (WvB V X8 X b80 r68 p64 M J gb cp (gN lf) (rwH cf) (hh))) (fun s => fun i_ => match i_ with | 0 => .bool (decide (j < J)) | _ => undef) () A.1 (by kernel_rfl) (by decide) (by decide) ⟨BB, FY⟩ ?_ ?_
        · intro i_ hi_ s a X hf hv hn hS
          match i_, hi_ with
          | 0, _ => exact stepV rfl rfl (execLtW (p := j) (q := J) rfl ((hf 163 (by decide)).trans t163) ((hf 162 (by decide)).trans t162)) ⟨s, ⟨_, rfl, rfl⟩, hS, fun _ _ => rfl⟩
          | k_ + 1, h_ => exact absurd h_ (by simp)
        rintro _ a X28 h1 h2 h3 h4 hS
        clear BB
        clear FY
        replace hS : Below V.heap.size V X28 ∧ (WvB V X8 X28 b80 r68 p64 M J gb cp (gN lf) (rwH cf) (hh)) := hS
        obtain ⟨BB, FY⟩ := hS
        replace t9 := (h3 9 (by decide)).trans t9
        replace t10 := (h3 10 (by decide)).trans t10
        replace t12 := (h3 12 (by decide)).trans t12
        replace t14 := (h3 14 (by decide)).trans t14
        replace t161 := (h3 161 (by decide)).trans t161
        replace t162 := (h3 162 (by decide)).trans t162
        replace t163 := (h3 163 (by decide)).trans t163
        have t164 : a.eval (.tmp 164) = .bool (decide (j < J)) := h4 0 _ rfl _ rfl
        replace A := (⟨h1, h2.trans A.2⟩ : a.tmps.size = 232 ∧ a.defers = [])
        clear h1 h2 h3 h4
        refine wp_seq ?_
        by_cases ltj : j < J
        · rw [decide_eq_true ltj] at t164
          refine wp_cond_true t164 ?_
          refine wp_skip ?_
          clear t164
          refine wp_seq ?_
          refine wp_block ?_
          obtain ⟨llb, llo, llc, ell, hllb, hllc⟩ := open_sl FIV (by omega)
          have cll : ∀ k, k < J → ∀ X, Below V.heap.size V X → X.cell? ⟨llb, llo + k, none⟩ = some (.int .i64 ((lf) k)) := fun k hk X hX => by rw [cell_below hX hllb]; exact hllc k hk
          obtain ⟨m, em⟩ : ∃ m : Nat, gN lf j = m := ⟨_, rfl⟩
          have em0 : lf j = (m : Int) := by rw [good_eq hG ltj, em]
          have hm16 : m ≤ 65536 := by have := hG.1 j ltj; omega
          obtain ⟨gp, cpp, ep, _, _⟩ := ownL_some9 FY.fp (show 0 < J by omega)
          have hcp : m + 1 ≤ cp j := by have h_ := th_len (FY.ft.rows j ltj); rw [em] at h_; exact h_
          refine wp_seq ?_
          refine wp_region_sq (σ := Unit) 232 [(0, 165), (1, 166), (2, 167), (3, 18), (4, 19)] (fun j_ s X => match j_ with | 0 => Below V.heap.size V X ∧ (WvB V X8 X b80 r68 p64 M J gb cp (gN lf) (rwH cf) (hh)) | 1 => Below V.heap.size V X ∧ (WvB V X8 X b80 r68 p64 M J gb cp (gN lf) (rwH cf) (hh)) | 2 => Below V.heap.size V X ∧ (WvB V X8 X b80 r68 p64 M J gb cp (gN lf) (rwH cf) (hh)) | 3 => Below V.heap.size V X ∧ (WvB V X8 X b80 r68 p64 M J gb cp (gN lf) (rwH cf) (hh)) | 4 => Below V.heap.size V X ∧ (WvB V X8 X b80 r68 p64 M J gb cp (gN lf) (rwH cf) (hh)) | _ => Below V.heap.size V X ∧ (WvB V X8 X b80 r68 p64 M J gb cp (gN lf) (rwH cf) (hh))) (fun s => fun i_ => match i_ with | 0 => .int .i64 ((j : Nat) : Int) | 1 => .pointer (some ⟨llb, llo + j, none⟩) | 2 => .int .i64 ((m : Nat) : Int) | 3 => .int .i64 ((j : Nat) : Int) | 4 => .int .i64 ((m : Nat) : Int) | _ => undef) () A.1 (by kernel_rfl) (by decide) (by decide) ⟨BB, FY⟩ ?_ ?_
          · intro i_ hi_ s a X hf hv hn hS
            match i_, hi_ with
            | 0, _ => exact stepV rfl rfl (execMvB rfl ((hf 163 (by decide)).trans t163)) ⟨s, ⟨_, rfl, rfl⟩, hS, fun _ _ => rfl⟩
            | 1, _ => exact stepV rfl rfl (execIdxN (k := j) rfl (((hf 161 (by decide)).trans t161).trans ell) ((hf 163 (by decide)).trans t163) ltj) ⟨s, ⟨_, rfl, rfl⟩, hS, fun _ _ => rfl⟩
            | 2, _ => exact stepV rfl rfl (execLd3 rfl (hv 1 (by decide) _ rfl _ rfl) ((cll j ltj X hS.1).trans (by rw [em0]))) ⟨s, ⟨_, rfl, rfl⟩, hS, fun _ _ => rfl⟩
            | 3, _ => exact stepV rfl rfl (execAsgB rfl (hv 0 (by decide) _ rfl _ rfl)) ⟨s, ⟨_, rfl, rfl⟩, hS, fun _ _ => rfl⟩
            | 4, _ => exact stepV rfl rfl (execAsgB rfl (hv 2 (by decide) _ rfl _ rfl)) ⟨s, ⟨_, rfl, rfl⟩, hS, fun _ _ => rfl⟩
            | k_ + 5, h_ => exact absurd h_ (by simp)
          rintro _ a X29 h1 h2 h3 h4 hS
          clear BB
          clear FY
          replace hS : Below V.heap.size V X29 ∧ (WvB V X8 X29 b80 r68 p64 M J gb cp (gN lf) (rwH cf) (hh)) := hS
          obtain ⟨BB, FY⟩ := hS
          replace t9 := (h3 9 (by decide)).trans t9
          replace t10 := (h3 10 (by decide)).trans t10
          replace t12 := (h3 12 (by decide)).trans t12
          replace t14 := (h3 14 (by decide)).trans t14
          replace t161 := (h3 161 (by decide)).trans t161
          replace t162 := (h3 162 (by decide)).trans t162
          replace t163 := (h3 163 (by decide)).trans t163
          have t18 : a.eval (.tmp 18) = .int .i64 ((j : Nat) : Int) := h4 3 _ rfl _ rfl
          have t19 : a.eval (.tmp 19) = .int .i64 ((m : Nat) : Int) := h4 4 _ rfl _ rfl
          replace A := (⟨h1, h2.trans A.2⟩ : a.tmps.size = 232 ∧ a.defers = [])
          clear h1 h2 h3 h4
          refine wp_seq ?_
          refine wp_region_sq (σ := Unit) 232 [(0, 168), (1, 169), (2, 170), (3, 171), (4, 172), (5, 173), (6, 174), (7, 175), (8, 176)] (fun j_ s X => match j_ with | 0 => Below V.heap.size V X ∧ (WvB V X8 X b80 r68 p64 M J gb cp (gN lf) (rwH cf) (hh)) | 1 => Below V.heap.size V X ∧ (WvB V X8 X b80 r68 p64 M J gb cp (gN lf) (rwH cf) (hh)) | 2 => Below V.heap.size V X ∧ (WvB V X8 X b80 r68 p64 M J gb cp (gN lf) (rwH cf) (hh)) | 3 => Below V.heap.size V X ∧ (WvB V X8 X b80 r68 p64 M J gb cp (gN lf) (rwH cf) (hh)) | 4 => Below V.heap.size V X ∧ (WvB V X8 X b80 r68 p64 M J gb cp (gN lf) (rwH cf) (hh)) | 5 => Below V.heap.size V X ∧ (WvB V X8 X b80 r68 p64 M J gb cp (gN lf) (rwH cf) (hh)) | 6 => Below V.heap.size V X ∧ (WvB V X8 X b80 r68 p64 M J gb cp (gN lf) (rwH cf) (hh)) | 7 => Below V.heap.size V X ∧ (WvB V X8 X b80 r68 p64 M J gb cp (gN lf) (rwH cf) (hh)) | 8 => Below V.heap.size V X ∧ (WvB V X8 X b80 r68 p64 M J gb cp (gN lf) (rwH cf) (hh)) | _ => Below V.heap.size V X ∧ (WvB V X8 X b80 r68 p64 M J gb cp (gN lf) (rwH cf) (hh))) (fun s => fun i_ => match i_ with | 0 => p64 | 1 => .int .i64 ((j : Nat) : Int) | 2 => .pointer (some ⟨gp, 0 + j, none⟩) | 3 => .slice (some ⟨gb j, 0, none⟩) m (cp j) | 4 => .int .i64 ((m : Nat) : Int) | 5 => .int .i64 ((m + 1 : Nat) : Int) | 6 => .slice (some ⟨gb j, 0, none⟩) (m + 1) (cp j) | 7 => .int .i64 ((m + 1 : Nat) : Int) | 8 => .int .i64 ((0 : Nat) : Int) | _ => undef) () A.1 (by kernel_rfl) (by decide) (by decide) ⟨BB, FY⟩ ?_ ?_
          · intro i_ hi_ s a X hf hv hn hS
            match i_, hi_ with
            | 0, _ => exact stepV rfl rfl (execMvB rfl ((hf 9 (by decide)).trans t9)) ⟨s, ⟨_, rfl, rfl⟩, hS, fun _ _ => rfl⟩
            | 1, _ => exact stepV rfl rfl (execMvB rfl ((hf 18 (by decide)).trans t18)) ⟨s, ⟨_, rfl, rfl⟩, hS, fun _ _ => rfl⟩
            | 2, _ => exact stepV rfl rfl (execIdxLLT (k := j) rfl ((hv 0 (by decide) _ rfl _ rfl).trans ep) (hv 1 (by decide) _ rfl _ rfl) ltj) ⟨s, ⟨_, rfl, rfl⟩, hS, fun _ _ => rfl⟩
            | 3, _ => exact stepV rfl rfl (execLdLLT (v := .slice (some ⟨gb j, 0, none⟩) m (cp j)) rfl (hv 2 (by decide) _ rfl _ rfl) ((ownL_cellT (by have h_ := hS.2.fp; rw [ep] at h_; exact h_) ltj).trans (by unfold xT; rw [em]))) ⟨s, ⟨_, rfl, rfl⟩, hS, fun _ _ => rfl⟩
            | 4, _ => exact stepV rfl rfl (execMvB rfl ((hf 19 (by decide)).trans t19)) ⟨s, ⟨_, rfl, rfl⟩, hS, fun _ _ => rfl⟩
            | 5, _ => exact stepV rfl rfl (execAd8 (p := m) (q := 1) rfl (hv 4 (by decide) _ rfl _ rfl) rfl (by omega)) ⟨s, ⟨_, rfl, rfl⟩, hS, fun _ _ => rfl⟩
            | 6, _ => exact stepV rfl rfl (By8.execSlH rfl (hv 3 (by decide) _ rfl _ rfl) (hv 5 (by decide) _ rfl _ rfl) (sl_hT (gb j) _ (cp j) (m + 1) hcp X)) ⟨s, ⟨_, rfl, rfl⟩, hS, fun _ _ => rfl⟩
            | 7, _ => exact stepV rfl rfl (execLenTh (len := m + 1) rfl (hv 6 (by decide) _ rfl _ rfl) ⟨_, _, rfl⟩) ⟨s, ⟨_, rfl, rfl⟩, hS, fun _ _ => rfl⟩
            | 8, _ => exact stepV rfl rfl (execMvB rfl rfl) ⟨s, ⟨_, rfl, rfl⟩, hS, fun _ _ => rfl⟩
            | k_ + 9, h_ => exact absurd h_ (by simp)
          rintro _ a X30 h1 h2 h3 h4 hS
          clear BB
          clear FY
          replace hS : Below V.heap.size V X30 ∧ (WvB V X8 X30 b80 r68 p64 M J gb cp (gN lf) (rwH cf) (hh)) := hS
          obtain ⟨BB, FY⟩ := hS
          replace t9 := (h3 9 (by decide)).trans t9
          replace t10 := (h3 10 (by decide)).trans t10
          replace t12 := (h3 12 (by decide)).trans t12
          replace t14 := (h3 14 (by decide)).trans t14
          replace t161 := (h3 161 (by decide)).trans t161
          replace t162 := (h3 162 (by decide)).trans t162
          replace t163 := (h3 163 (by decide)).trans t163
          replace t18 := (h3 18 (by decide)).trans t18
          replace t19 := (h3 19 (by decide)).trans t19
          have t174 : a.eval (.tmp 174) = .slice (some ⟨gb j, 0, none⟩) (m + 1) (cp j) := h4 6 _ rfl _ rfl
          have t175 : a.eval (.tmp 175) = .int .i64 ((m + 1 : Nat) : Int) := h4 7 _ rfl _ rfl
          have t176 : a.eval (.tmp 176) = .int .i64 ((0 : Nat) : Int) := h4 8 _ rfl _ rfl
          replace A := (⟨h1, h2.trans A.2⟩ : a.tmps.size = 232 ∧ a.defers = [])
          clear h1 h2 h3 h4
          have hkj : ∀ t, 0 * 2 ≤ t → hh j t = chH (gN lf) j t := fun t _ => by rw [hhj j (Nat.le_refl _)]
          have hko : ∀ s, j + 1 ≤ s → hh s = chH (gN lf) s := fun s hs => hhj s (by omega)
          clear hhj
          refine wp_block ?_
          refine wp_loop (fun a W => ∃ (k : Nat) (hh : Nat → Nat → Int), k ≤ m + 1 ∧ (∀ t, k * 2 ≤ t → hh j t = chH (gN lf) j t) ∧ (∀ s, j + 1 ≤ s → hh s = chH (gN lf) s) ∧ (a.tmps.size = 232 ∧ a.defers = []) ∧ a.eval (.tmp 9) = p64 ∧ a.eval (.tmp 10) = r68 ∧ a.eval (.tmp 12) = v145 ∧ a.eval (.tmp 14) = b80 ∧ a.eval (.tmp 161) = v ∧ a.eval (.tmp 162) = .int .i64 ((J : Nat) : Int) ∧ a.eval (.tmp 163) = .int .i64 ((j : Nat) : Int) ∧ a.eval (.tmp 18) = .int .i64 ((j : Nat) : Int) ∧ a.eval (.tmp 19) = .int .i64 ((m : Nat) : Int) ∧ a.eval (.tmp 174) = .slice (some ⟨gb j, 0, none⟩) (m + 1) (cp j) ∧ a.eval (.tmp 175) = .int .i64 ((m + 1 : Nat) : Int) ∧ a.eval (.tmp 176) = .int .i64 ((k : Nat) : Int) ∧ Below V.heap.size V W ∧ (WvB V X8 W b80 r68 p64 M J gb cp (gN lf) (rwH cf) (hh))) (fun a _ => m + 1 - (intOf (a.eval (.tmp 176))).toNat) ⟨0, hh, Nat.zero_le _, hkj, hko, A, t9, t10, t12, t14, t161, t162, t163, t18, t19, t174, t175, t176, BB, FY⟩ ?_
          clear A t9 t10 t12 t14 t161 t162 t163 t18 t19 t174 t175 t176 BB FY a
          rintro a XL31 ⟨k, hh, hk, hkj, hko, A, t9, t10, t12, t14, t161, t162, t163, t18, t19, t174, t175, t176, BB, FY⟩
          have esk := t176
          refine wp_seq ?_
          refine wp_region_sq (σ := Unit) 232 [(0, 177)] (fun j_ s X => match j_ with | 0 => Below V.heap.size V X ∧ (WvB V X8 X b80 r68 p64 M J gb cp (gN lf) (rwH cf) (hh)) | _ => Below V.heap.size V X ∧ (WvB V X8 X b80 r68 p64 M J gb cp (gN lf) (rwH cf) (hh))) (fun s => fun i_ => match i_ with | 0 => .bool (decide (k < m + 1)) | _ => undef) () A.1 (by kernel_rfl) (by decide) (by decide) ⟨BB, FY⟩ ?_ ?_
          · intro i_ hi_ s a X hf hv hn hS
            match i_, hi_ with
            | 0, _ => exact stepV rfl rfl (execLtW (p := k) (q := m + 1) rfl ((hf 176 (by decide)).trans t176) ((hf 175 (by decide)).trans t175)) ⟨s, ⟨_, rfl, rfl⟩, hS, fun _ _ => rfl⟩
            | k_ + 1, h_ => exact absurd h_ (by simp)
          rintro _ a X31 h1 h2 h3 h4 hS
          clear BB
          clear FY
          replace hS : Below V.heap.size V X31 ∧ (WvB V X8 X31 b80 r68 p64 M J gb cp (gN lf) (rwH cf) (hh)) := hS
          obtain ⟨BB, FY⟩ := hS
          replace t9 := (h3 9 (by decide)).trans t9
          replace t10 := (h3 10 (by decide)).trans t10
          replace t12 := (h3 12 (by decide)).trans t12
          replace t14 := (h3 14 (by decide)).trans t14
          replace t161 := (h3 161 (by decide)).trans t161
          replace t162 := (h3 162 (by decide)).trans t162
          replace t163 := (h3 163 (by decide)).trans t163
          replace t18 := (h3 18 (by decide)).trans t18
          replace t19 := (h3 19 (by decide)).trans t19
          replace t174 := (h3 174 (by decide)).trans t174
          replace t175 := (h3 175 (by decide)).trans t175
          replace t176 := (h3 176 (by decide)).trans t176
          have t177 : a.eval (.tmp 177) = .bool (decide (k < m + 1)) := h4 0 _ rfl _ rfl
          replace A := (⟨h1, h2.trans A.2⟩ : a.tmps.size = 232 ∧ a.defers = [])
          clear h1 h2 h3 h4
          refine wp_seq ?_
          by_cases ltk : k < m + 1
          · rw [decide_eq_true ltk] at t177
            refine wp_cond_true t177 ?_
            refine wp_skip ?_
            clear t177
            refine wp_seq ?_
            refine wp_block ?_
            have Fhrow := FY.ft.rows j ltj
            rw [em] at Fhrow
            have BW := BB
            clear BB
            refine wp_seq ?_
            refine wp_region_sq (σ := Nat) 232 [(0, 178), (1, 179), (2, 180), (3, 21), (4, 20)] (fun j_ s X => match j_ with | 0 => Below X31.heap.size X31 X | 1 => Below X31.heap.size X31 X | 2 => Below X31.heap.size X31 X | 3 => Below X31.heap.size X31 X | 4 => Below X31.heap.size X31 X ∧ (X.heap[s]? = some (.cells (thC 0 0) 59)) ∧ (X31.heap.size ≤ s) | 5 => Below X31.heap.size X31 X ∧ (X.heap[s]? = some (.cells (thC 0 0) 59)) ∧ (X31.heap.size ≤ s) | _ => Below X31.heap.size X31 X ∧ (X31.heap.size ≤ s) ∧ (X.heap[s]? = some (.cells (thC (hh j (k * 2)) (hh j (k * 2 + 1))) 59))) (fun s => fun i_ => match i_ with | 0 => .int .i64 ((k : Nat) : Int) | 1 => .pointer (some ⟨(gb j), 0 + k * 2, none⟩) | 2 => .agg (thC (hh j (k * 2)) (hh j (k * 2 + 1))) | 3 => .pointer (some ⟨s, 0, none⟩) | 4 => .int .i64 ((k : Nat) : Int) | 5 => undef | _ => undef) 0 A.1 (by kernel_rfl) (by decide) (by decide) (Below.refl _ _) ?_ ?_
            · intro i_ hi_ s a X hf hv hn hS
              match i_, hi_ with
              | 0, _ => exact stepV rfl rfl (execMvB rfl ((hf 176 (by decide)).trans t176)) ⟨s, ⟨_, rfl, rfl⟩, hS, fun _ _ => rfl⟩
              | 1, _ => exact stepV rfl rfl (execIdxTh (k := k) rfl ((hf 174 (by decide)).trans t174) ((hf 176 (by decide)).trans t176) ltk) ⟨s, ⟨_, rfl, rfl⟩, hS, fun _ _ => rfl⟩
              | 2, _ => exact stepV rfl rfl (execLdTh rfl (hv 1 (by decide) _ rfl _ rfl) (th_cell (ownD_below Fhrow hS) (show k * 2 < (m + 1) * 2 by omega)) (th_cell (ownD_below Fhrow hS) (show k * 2 + 1 < (m + 1) * 2 by omega))) ⟨s, ⟨_, rfl, rfl⟩, hS, fun _ _ => rfl⟩
              | 3, _ =>
                refine stepV rfl rfl (execAllTh rfl) ⟨X.heap.size, ⟨_, rfl, rfl⟩, ⟨(hS).trans (((belNew X _)).mono (hS).size), heapNew X _, (hS).size⟩, fun i hi => ?_⟩
                match i, hi with
                | 0, _ => rfl
                | 1, _ => rfl
                | 2, _ => rfl
                | n_ + 3, h_ => omega
              | 4, _ => exact stepV rfl rfl (execAsgB rfl (hv 0 (by decide) _ rfl _ rfl)) ⟨s, ⟨_, rfl, rfl⟩, hS, fun _ _ => rfl⟩
              | 5, _ =>
                refine stepS rfl rfl (execStTh1 rfl (hv 3 (by decide) _ rfl _ rfl) (hv 2 (by decide) _ rfl _ rfl) hS.2.1) ⟨s, ⟨_, rfl, rfl⟩, ⟨below4 hS.1 hS.2.2 _, hS.2.2, setRow_heap _ _ _ _ _ _ hS.2.1⟩, fun i hi => ?_⟩
                match i, hi with
                | 0, _ => rfl
                | 1, _ => rfl
                | 2, _ => rfl
                | 3, _ => rfl
                | 4, _ => rfl
                | n_ + 5, h_ => omega
              | k_ + 6, h_ => exact absurd h_ (by simp)
            rintro g21 a X32 h1 h2 h3 h4 hS
            replace hS : Below X31.heap.size X31 X32 ∧ (X31.heap.size ≤ g21) ∧ (X32.heap[g21]? = some (.cells (thC (hh j (k * 2)) (hh j (k * 2 + 1))) 59)) := hS
            obtain ⟨bX, F21g, F22⟩ := hS
            replace t9 := (h3 9 (by decide)).trans t9
            replace t10 := (h3 10 (by decide)).trans t10
            replace t12 := (h3 12 (by decide)).trans t12
            replace t14 := (h3 14 (by decide)).trans t14
            replace t161 := (h3 161 (by decide)).trans t161
            replace t162 := (h3 162 (by decide)).trans t162
            replace t163 := (h3 163 (by decide)).trans t163
            replace t18 := (h3 18 (by decide)).trans t18
            replace t19 := (h3 19 (by decide)).trans t19
            replace t174 := (h3 174 (by decide)).trans t174
            replace t175 := (h3 175 (by decide)).trans t175
            replace t176 := (h3 176 (by decide)).trans t176
            have t20 : a.eval (.tmp 20) = .int .i64 ((k : Nat) : Int) := h4 4 _ rfl _ rfl
            have t21 : a.eval (.tmp 21) = .pointer (some ⟨g21, 0, none⟩) := h4 3 _ rfl _ rfl
            replace FY := (FY.on bX)
            replace Fhrow := (ownD_below Fhrow bX)
            have ZX32 := bX.size
            replace BW := BW.trans (bX.mono BW.size)
            clear bX
            replace A := (⟨h1, h2.trans A.2⟩ : a.tmps.size = 232 ∧ a.defers = [])
            clear h1 h2 h3 h4
            clear F21g
            refine wp_seq ?_
            refine wp_seq ?_
            by_cases hkm : k < m
            · have hP : hh j (k * 2) = ((j : Nat) : Int) := by rw [hkj _ (by omega)]; exact chH_0 (by omega)
              have hQ : hh j (k * 2 + 1) = ((k : Nat) : Int) := by rw [hkj _ (by omega)]; exact chH_1 (by omega)
              refine wp_region_sq (σ := Unit) 232 [(0, 181), (1, 182), (2, 183), (3, 184), (4, 185), (5, 186), (6, 187), (7, 188), (8, 189), (9, 190), (10, 191), (11, 192), (12, 193), (13, 194), (14, 195), (15, 196), (16, 197), (17, 198), (18, 199), (19, 200)] (fun j_ s X => match j_ with | 0 => Below X32.heap.size X32 X | 1 => Below X32.heap.size X32 X | 2 => Below X32.heap.size X32 X | 3 => Below X32.heap.size X32 X | 4 => Below X32.heap.size X32 X | 5 => Below X32.heap.size X32 X | 6 => Below X32.heap.size X32 X | 7 => Below X32.heap.size X32 X | 8 => Below X32.heap.size X32 X | 9 => Below X32.heap.size X32 X | 10 => Below X32.heap.size X32 X | 11 => Below X32.heap.size X32 X | 12 => Below X32.heap.size X32 X | 13 => Below X32.heap.size X32 X | 14 => Below X32.heap.size X32 X | 15 => Below X32.heap.size X32 X | 16 => Below X32.heap.size X32 X | 17 => Below X32.heap.size X32 X | 18 => Below X32.heap.size X32 X | 19 => Below X32.heap.size X32 X | _ => Below X32.heap.size X32 X) (fun s => fun i_ => match i_ with | 0 => .int .i64 ((k : Nat) : Int) | 1 => .int .i64 ((m : Nat) : Int) | 2 => .bool true | 3 => .bool true | 4 => .agg (thC (hh j (k * 2)) (hh j (k * 2 + 1))) | 5 => .int .i64 ((j : Nat) : Int) | 6 => .int .i64 ((k : Nat) : Int) | 7 => .agg (thC (((j : Nat) : Int)) (((k : Nat) : Int))) | 8 => .bool false | 9 => .bool false | 10 => .bool false | 11 => .int .i64 ((k : Nat) : Int) | 12 => .int .i64 ((m : Nat) : Int) | 13 => .bool false | 14 => .bool false | 15 => undef | 16 => undef | 17 => undef | 18 => .bool false | 19 => .bool false | _ => undef) () A.1 (by kernel_rfl) (by decide) (by decide) (Below.refl _ _) ?_ ?_
              · intro i_ hi_ s a X hf hv hn hS
                match i_, hi_ with
                | 0, _ => exact stepV rfl rfl (execMvB rfl ((hf 20 (by decide)).trans t20)) ⟨s, ⟨_, rfl, rfl⟩, hS, fun _ _ => rfl⟩
                | 1, _ => exact stepV rfl rfl (execMvB rfl ((hf 19 (by decide)).trans t19)) ⟨s, ⟨_, rfl, rfl⟩, hS, fun _ _ => rfl⟩
                | 2, _ => exact stepV rfl rfl (execDec (execLtW (p := k) (q := m) rfl (hv 0 (by decide) _ rfl _ rfl) (hv 1 (by decide) _ rfl _ rfl)) (decide_eq_true (by omega))) ⟨s, ⟨_, rfl, rfl⟩, hS, fun _ _ => rfl⟩
                | 3, _ => exact stepV rfl rfl (execMvB rfl (hv 2 (by decide) _ rfl _ rfl)) ⟨s, ⟨_, rfl, rfl⟩, hS, fun _ _ => rfl⟩
                | 4, _ => exact stepV rfl (wantedOf rfl (yieldedAt rfl rfl (show a.eval (.tmp 184) = .bool true from (hv 3 (by decide) _ rfl _ rfl)))) (execLdTh rfl ((hf 21 (by decide)).trans t21) (th_at0 (on9 F22 hS)) (th_at1 (on9 F22 hS))) ⟨s, ⟨_, rfl, rfl⟩, hS, fun _ _ => rfl⟩
                | 5, _ => exact stepV rfl (wantedOf rfl (yieldedAt rfl rfl (show a.eval (.tmp 184) = .bool true from (hv 3 (by decide) _ rfl _ rfl)))) (execMvB rfl ((hf 18 (by decide)).trans t18)) ⟨s, ⟨_, rfl, rfl⟩, hS, fun _ _ => rfl⟩
                | 6, _ => exact stepV rfl (wantedOf rfl (yieldedAt rfl rfl (show a.eval (.tmp 184) = .bool true from (hv 3 (by decide) _ rfl _ rfl)))) (execMvB rfl ((hf 20 (by decide)).trans t20)) ⟨s, ⟨_, rfl, rfl⟩, hS, fun _ _ => rfl⟩
                | 7, _ => exact stepV rfl (wantedOf rfl (yieldedAt rfl rfl (show a.eval (.tmp 184) = .bool true from (hv 3 (by decide) _ rfl _ rfl)))) (execBdTh (p := ((j : Nat) : Int)) (q := ((k : Nat) : Int)) rfl (hv 5 (by decide) _ rfl _ rfl) (hv 6 (by decide) _ rfl _ rfl)) ⟨s, ⟨_, rfl, rfl⟩, hS, fun _ _ => rfl⟩
                | 8, _ => exact stepV rfl (wantedOf rfl (yieldedAt rfl rfl (show a.eval (.tmp 184) = .bool true from (hv 3 (by decide) _ rfl _ rfl)))) (execNeTh2 rfl (hv 4 (by decide) _ rfl _ rfl) (hv 7 (by decide) _ rfl _ rfl) hP hQ) ⟨s, ⟨_, rfl, rfl⟩, hS, fun _ _ => rfl⟩
                | 9, _ => exact stepV rfl rfl (execPickT rfl (hv 3 (by decide) _ rfl _ rfl) (hv 8 (by decide) _ rfl _ rfl)) ⟨s, ⟨_, rfl, rfl⟩, hS, fun _ _ => rfl⟩
                | 10, _ => exact stepV rfl rfl (execMvB rfl (hv 9 (by decide) _ rfl _ rfl)) ⟨s, ⟨_, rfl, rfl⟩, hS, fun _ _ => rfl⟩
                | 11, _ => exact stepV rfl (wantedOf rfl (yieldedAt rfl rfl (show a.eval (.tmp 191) = .bool false from (hv 10 (by decide) _ rfl _ rfl)))) (execMvB rfl ((hf 20 (by decide)).trans t20)) ⟨s, ⟨_, rfl, rfl⟩, hS, fun _ _ => rfl⟩
                | 12, _ => exact stepV rfl (wantedOf rfl (yieldedAt rfl rfl (show a.eval (.tmp 191) = .bool false from (hv 10 (by decide) _ rfl _ rfl)))) (execMvB rfl ((hf 19 (by decide)).trans t19)) ⟨s, ⟨_, rfl, rfl⟩, hS, fun _ _ => rfl⟩
                | 13, _ => exact stepV rfl (wantedOf rfl (yieldedAt rfl rfl (show a.eval (.tmp 191) = .bool false from (hv 10 (by decide) _ rfl _ rfl)))) (execDec (execEqN (p := k) (q := m) rfl (hv 11 (by decide) _ rfl _ rfl) (hv 12 (by decide) _ rfl _ rfl)) (decide_eq_false (by omega))) ⟨s, ⟨_, rfl, rfl⟩, hS, fun _ _ => rfl⟩
                | 14, _ => exact stepV rfl (wantedOf rfl (yieldedAt rfl rfl (show a.eval (.tmp 191) = .bool false from (hv 10 (by decide) _ rfl _ rfl)))) (execMvB rfl (hv 13 (by decide) _ rfl _ rfl)) ⟨s, ⟨_, rfl, rfl⟩, hS, fun _ _ => rfl⟩
                | 15, _ => exact stepU rfl (unwantedOf rfl (yieldedAt rfl rfl (show a.eval (.tmp 195) = .bool (!true) from (hv 14 (by decide) _ rfl _ rfl)))) ⟨s, ⟨_, rfl, rfl⟩, hS, fun _ _ => rfl⟩
                | 16, _ => exact stepU rfl (unwantedOf rfl (yieldedAt rfl rfl (show a.eval (.tmp 195) = .bool (!true) from (hv 14 (by decide) _ rfl _ rfl)))) ⟨s, ⟨_, rfl, rfl⟩, hS, fun _ _ => rfl⟩
                | 17, _ => exact stepU rfl (unwantedOf rfl (yieldedAt rfl rfl (show a.eval (.tmp 195) = .bool (!true) from (hv 14 (by decide) _ rfl _ rfl)))) ⟨s, ⟨_, rfl, rfl⟩, hS, fun _ _ => rfl⟩
                | 18, _ => exact stepV rfl (wantedOf rfl (yieldedAt rfl rfl (show a.eval (.tmp 191) = .bool false from (hv 10 (by decide) _ rfl _ rfl)))) (execPickF rfl (hv 14 (by decide) _ rfl _ rfl) rfl) ⟨s, ⟨_, rfl, rfl⟩, hS, fun _ _ => rfl⟩
                | 19, _ => exact stepV rfl rfl (execPickF rfl (hv 10 (by decide) _ rfl _ rfl) (hv 18 (by decide) _ rfl _ rfl)) ⟨s, ⟨_, rfl, rfl⟩, hS, fun _ _ => rfl⟩
                | k_ + 20, h_ => exact absurd h_ (by simp)
              rintro _ a X33 h1 h2 h3 h4 hS
              replace hS : Below X32.heap.size X32 X33 := hS
              have bX := hS
              clear hS
              replace t9 := (h3 9 (by decide)).trans t9
              replace t10 := (h3 10 (by decide)).trans t10
              replace t12 := (h3 12 (by decide)).trans t12
              replace t14 := (h3 14 (by decide)).trans t14
              replace t161 := (h3 161 (by decide)).trans t161
              replace t162 := (h3 162 (by decide)).trans t162
              replace t163 := (h3 163 (by decide)).trans t163
              replace t18 := (h3 18 (by decide)).trans t18
              replace t19 := (h3 19 (by decide)).trans t19
              replace t174 := (h3 174 (by decide)).trans t174
              replace t175 := (h3 175 (by decide)).trans t175
              replace t176 := (h3 176 (by decide)).trans t176
              replace t20 := (h3 20 (by decide)).trans t20
              have t200 : a.eval (.tmp 200) = .bool false := h4 19 _ rfl _ rfl
              replace FY := (FY.on bX)
              replace Fhrow := (ownD_below Fhrow bX)
              replace F22 := (on9 F22 bX)
              have ZX33 := bX.size
              replace BW := BW.trans (bX.mono BW.size)
              clear bX
              replace A := (⟨h1, h2.trans A.2⟩ : a.tmps.size = 232 ∧ a.defers = [])
              clear h1 h2 h3 h4
              clear t21
              refine wp_cond_false t200 ?_
              refine wp_skip ?_
              clear t200
              clear F22
              have BB := BW
              clear BW
              refine wp_region_sq (σ := Unit) 232 [(0, 201), (1, 202), (2, 203), (3, 204), (4, 205), (5, 206), (6, 207), (7, 208), (8, 209), (9, 210), (10, 211)] (fun j_ s X => match j_ with | 0 => Below V.heap.size V X ∧ (WvB V X8 X b80 r68 p64 M J gb cp (gN lf) (rwH cf) (hh)) ∧ (X.ownsRow V.heap.size 59 2 (.slice (some ⟨gb j, 0, none⟩) (m + 1) (cp j)) (m + 1) (intsL ((m + 1) * 2) (hh j))) | 1 => Below V.heap.size V X ∧ (WvB V X8 X b80 r68 p64 M J gb cp (gN lf) (rwH cf) (hh)) ∧ (X.ownsRow V.heap.size 59 2 (.slice (some ⟨gb j, 0, none⟩) (m + 1) (cp j)) (m + 1) (intsL ((m + 1) * 2) (hh j))) | 2 => Below V.heap.size V X ∧ (WvB V X8 X b80 r68 p64 M J gb cp (gN lf) (rwH cf) (hh)) ∧ (X.ownsRow V.heap.size 59 2 (.slice (some ⟨gb j, 0, none⟩) (m + 1) (cp j)) (m + 1) (intsL ((m + 1) * 2) (hh j))) | 3 => Below V.heap.size V X ∧ (WvB V X8 X b80 r68 p64 M J gb cp (gN lf) (rwH cf) (hh)) ∧ (X.ownsRow V.heap.size 59 2 (.slice (some ⟨gb j, 0, none⟩) (m + 1) (cp j)) (m + 1) (intsL ((m + 1) * 2) (hh j))) | 4 => Below V.heap.size V X ∧ (WvB V X8 X b80 r68 p64 M J gb cp (gN lf) (rwH cf) (hh)) ∧ (X.ownsRow V.heap.size 59 2 (.slice (some ⟨gb j, 0, none⟩) (m + 1) (cp j)) (m + 1) (intsL ((m + 1) * 2) (hh j))) | 5 => Below V.heap.size V X ∧ (WvB V X8 X b80 r68 p64 M J gb cp (gN lf) (rwH cf) (hh)) ∧ (X.ownsRow V.heap.size 59 2 (.slice (some ⟨gb j, 0, none⟩) (m + 1) (cp j)) (m + 1) (intsL ((m + 1) * 2) (hh j))) | 6 => Below V.heap.size V X ∧ (WvB V X8 X b80 r68 p64 M J gb cp (gN lf) (rwH cf) (hh)) ∧ (X.ownsRow V.heap.size 59 2 (.slice (some ⟨gb j, 0, none⟩) (m + 1) (cp j)) (m + 1) (intsL ((m + 1) * 2) (hh j))) | 7 => Below V.heap.size V X ∧ (WvB V X8 X b80 r68 p64 M J gb cp (gN lf) (rwH cf) (hh)) ∧ (X.ownsRow V.heap.size 59 2 (.slice (some ⟨gb j, 0, none⟩) (m + 1) (cp j)) (m + 1) (intsL ((m + 1) * 2) (hh j))) | 8 => Below V.heap.size V X ∧ (WvB V X8 X b80 r68 p64 M J gb cp (gN lf) (rwH cf) (hh)) ∧ (X.ownsRow V.heap.size 59 2 (.slice (some ⟨gb j, 0, none⟩) (m + 1) (cp j)) (m + 1) (intsL ((m + 1) * 2) (hh j))) | 9 => Below V.heap.size V X ∧ (WvB V X8 X b80 r68 p64 M J gb cp (gN lf) (rwH cf) (hh)) ∧ (X.ownsRow V.heap.size 59 2 (.slice (some ⟨gb j, 0, none⟩) (m + 1) (cp j)) (m + 1) (intsL ((m + 1) * 2) (hh j))) | 10 => Below V.heap.size V X ∧ (WvB V X8 X b80 r68 p64 M J gb cp (gN lf) (rwH cf) (hh)) ∧ (X.ownsRow V.heap.size 59 2 (.slice (some ⟨gb j, 0, none⟩) (m + 1) (cp j)) (m + 1) (intsL ((m + 1) * 2) (hh j))) | 11 => Below V.heap.size V X ∧ (WvB V X8 X b80 r68 p64 M J gb cp (gN lf) (rwH cf) (hh)) ∧ (X.ownsRow V.heap.size 59 2 (.slice (some ⟨gb j, 0, none⟩) (m + 1) (cp j)) (m + 1) (intsL ((m + 1) * 2) (hh j))) | _ => Below V.heap.size V X ∧ (WvB V X8 X b80 r68 p64 M J gb cp (gN lf) (rwH cf) (updH hh j (setT (hh j) k (-9) ((k : Nat) : Int))))) (fun s => fun i_ => match i_ with | 0 => p64 | 1 => .int .i64 ((j : Nat) : Int) | 2 => .pointer (some ⟨gp, 0 + j, none⟩) | 3 => .slice (some ⟨gb j, 0, none⟩) m (cp j) | 4 => .int .i64 ((m : Nat) : Int) | 5 => .int .i64 ((m + 1 : Nat) : Int) | 6 => .slice (some ⟨gb j, 0, none⟩) (m + 1) (cp j) | 7 => .int .i64 ((k : Nat) : Int) | 8 => .int .i64 ((k : Nat) : Int) | 9 => .agg (thC (-9) (((k : Nat) : Int))) | 10 => .pointer (some ⟨(gb j), 0 + k * 2, none⟩) | 11 => undef | _ => undef) () A.1 (by kernel_rfl) (by decide) (by decide) ⟨BB, FY, Fhrow⟩ ?_ ?_
              · intro i_ hi_ s a X hf hv hn hS
                match i_, hi_ with
                | 0, _ => exact stepV rfl rfl (execMvB rfl ((hf 9 (by decide)).trans t9)) ⟨s, ⟨_, rfl, rfl⟩, hS, fun _ _ => rfl⟩
                | 1, _ => exact stepV rfl rfl (execMvB rfl ((hf 18 (by decide)).trans t18)) ⟨s, ⟨_, rfl, rfl⟩, hS, fun _ _ => rfl⟩
                | 2, _ => exact stepV rfl rfl (execIdxLLT (k := j) rfl ((hv 0 (by decide) _ rfl _ rfl).trans ep) (hv 1 (by decide) _ rfl _ rfl) ltj) ⟨s, ⟨_, rfl, rfl⟩, hS, fun _ _ => rfl⟩
                | 3, _ => exact stepV rfl rfl (execLdLLT (v := .slice (some ⟨gb j, 0, none⟩) m (cp j)) rfl (hv 2 (by decide) _ rfl _ rfl) ((ownL_cellT (by have h_ := hS.2.1.fp; rw [ep] at h_; exact h_) ltj).trans (by unfold xT; rw [em]))) ⟨s, ⟨_, rfl, rfl⟩, hS, fun _ _ => rfl⟩
                | 4, _ => exact stepV rfl rfl (execMvB rfl ((hf 19 (by decide)).trans t19)) ⟨s, ⟨_, rfl, rfl⟩, hS, fun _ _ => rfl⟩
                | 5, _ => exact stepV rfl rfl (execAd8 (p := m) (q := 1) rfl (hv 4 (by decide) _ rfl _ rfl) rfl (by omega)) ⟨s, ⟨_, rfl, rfl⟩, hS, fun _ _ => rfl⟩
                | 6, _ => exact stepV rfl rfl (By8.execSlH rfl (hv 3 (by decide) _ rfl _ rfl) (hv 5 (by decide) _ rfl _ rfl) (sl_hT (gb j) _ (cp j) (m + 1) hcp X)) ⟨s, ⟨_, rfl, rfl⟩, hS, fun _ _ => rfl⟩
                | 7, _ => exact stepV rfl rfl (execMvB rfl ((hf 20 (by decide)).trans t20)) ⟨s, ⟨_, rfl, rfl⟩, hS, fun _ _ => rfl⟩
                | 8, _ => exact stepV rfl rfl (execMvB rfl ((hf 20 (by decide)).trans t20)) ⟨s, ⟨_, rfl, rfl⟩, hS, fun _ _ => rfl⟩
                | 9, _ => exact stepV rfl rfl (execBdTh (p := -9) (q := ((k : Nat) : Int)) rfl rfl (hv 8 (by decide) _ rfl _ rfl)) ⟨s, ⟨_, rfl, rfl⟩, hS, fun _ _ => rfl⟩
                | 10, _ => exact stepV rfl rfl (execIdxTh (k := k) rfl (hv 6 (by decide) _ rfl _ rfl) (hv 7 (by decide) _ rfl _ rfl) ltk) ⟨s, ⟨_, rfl, rfl⟩, hS, fun _ _ => rfl⟩
                | 11, _ =>
                  refine stepStTh rfl rfl rfl (hv 10 (by decide) _ rfl _ rfl) (hv 9 (by decide) _ rfl _ rfl) hS.2.2 ltk fun W' own' gr => ⟨s, ⟨_, rfl, rfl⟩, ⟨(hS.1).grown gr (hS.1).size (fun k hk => by rw [← Option.some.inj hk]; exact (hS.2.2.lt _ rfl).1), hS.2.1.setC ltj (by rw [em]; exact own') gr⟩, fun i hi => ?_⟩
                  match i, hi with
                  | 0, _ => rfl
                  | 1, _ => rfl
                  | 2, _ => rfl
                  | 3, _ => rfl
                  | 4, _ => rfl
                  | 5, _ => rfl
                  | 6, _ => rfl
                  | 7, _ => rfl
                  | 8, _ => rfl
                  | 9, _ => rfl
                  | 10, _ => rfl
                  | n_ + 11, h_ => omega
                | k_ + 12, h_ => exact absurd h_ (by simp)
              rintro _ a X35 h1 h2 h3 h4 hS
              clear BB
              clear FY
              clear Fhrow
              replace hS : Below V.heap.size V X35 ∧ (WvB V X8 X35 b80 r68 p64 M J gb cp (gN lf) (rwH cf) (updH hh j (setT (hh j) k (-9) ((k : Nat) : Int)))) := hS
              obtain ⟨BB, FY2⟩ := hS
              replace t9 := (h3 9 (by decide)).trans t9
              replace t10 := (h3 10 (by decide)).trans t10
              replace t12 := (h3 12 (by decide)).trans t12
              replace t14 := (h3 14 (by decide)).trans t14
              replace t161 := (h3 161 (by decide)).trans t161
              replace t162 := (h3 162 (by decide)).trans t162
              replace t163 := (h3 163 (by decide)).trans t163
              replace t18 := (h3 18 (by decide)).trans t18
              replace t19 := (h3 19 (by decide)).trans t19
              replace t174 := (h3 174 (by decide)).trans t174
              replace t175 := (h3 175 (by decide)).trans t175
              replace t176 := (h3 176 (by decide)).trans t176
              replace A := (⟨h1, h2.trans A.2⟩ : a.tmps.size = 232 ∧ a.defers = [])
              clear h1 h2 h3 h4
              clear t20
              have hkj2 : ∀ t, (k + 1) * 2 ≤ t → updH hh j (setT (hh j) k (-9) ((k : Nat) : Int)) j t = chH (gN lf) j t := fun t ht => by rw [updH_at]; unfold setT; rw [if_neg (by omega), if_neg (by omega)]; exact hkj t (by omega)
              have hko2 : ∀ s, j + 1 ≤ s → updH hh j (setT (hh j) k (-9) ((k : Nat) : Int)) s = chH (gN lf) s := fun s hs => by rw [updH_o (by omega)]; exact hko s hs
              refine wp_region_sq (σ := Unit) 232 [(0, 212), (1, 176)] (fun j_ s X => match j_ with | 0 => Below V.heap.size V X ∧ (WvB V X8 X b80 r68 p64 M J gb cp (gN lf) (rwH cf) (updH hh j (setT (hh j) k (-9) ((k : Nat) : Int)))) | 1 => Below V.heap.size V X ∧ (WvB V X8 X b80 r68 p64 M J gb cp (gN lf) (rwH cf) (updH hh j (setT (hh j) k (-9) ((k : Nat) : Int)))) | _ => Below V.heap.size V X ∧ (WvB V X8 X b80 r68 p64 M J gb cp (gN lf) (rwH cf) (updH hh j (setT (hh j) k (-9) ((k : Nat) : Int))))) (fun s => fun i_ => match i_ with | 0 => .int .i64 ((k + 1 : Nat) : Int) | 1 => .int .i64 ((k + 1 : Nat) : Int) | _ => undef) () A.1 (by kernel_rfl) (by decide) (by decide) ⟨BB, FY2⟩ ?_ ?_
              · intro i_ hi_ s a X hf hv hn hS
                match i_, hi_ with
                | 0, _ => exact stepV rfl rfl (execAd8 (p := k) (q := 1) rfl ((hn 1 (by decide) _ rfl _ rfl).trans t176) rfl (by omega)) ⟨s, ⟨_, rfl, rfl⟩, hS, fun _ _ => rfl⟩
                | 1, _ => exact stepV rfl rfl (execMvB rfl (hv 0 (by decide) _ rfl _ rfl)) ⟨s, ⟨_, rfl, rfl⟩, hS, fun _ _ => rfl⟩
                | k_ + 2, h_ => exact absurd h_ (by simp)
              rintro _ a X36 h1 h2 h3 h4 hS
              clear BB
              clear FY2
              replace hS : Below V.heap.size V X36 ∧ (WvB V X8 X36 b80 r68 p64 M J gb cp (gN lf) (rwH cf) (updH hh j (setT (hh j) k (-9) ((k : Nat) : Int)))) := hS
              obtain ⟨BB, FY2⟩ := hS
              replace t9 := (h3 9 (by decide)).trans t9
              replace t10 := (h3 10 (by decide)).trans t10
              replace t12 := (h3 12 (by decide)).trans t12
              replace t14 := (h3 14 (by decide)).trans t14
              replace t161 := (h3 161 (by decide)).trans t161
              replace t162 := (h3 162 (by decide)).trans t162
              replace t163 := (h3 163 (by decide)).trans t163
              replace t18 := (h3 18 (by decide)).trans t18
              replace t19 := (h3 19 (by decide)).trans t19
              replace t174 := (h3 174 (by decide)).trans t174
              replace t175 := (h3 175 (by decide)).trans t175
              replace t176 : a.eval (.tmp 176) = .int .i64 ((k + 1 : Nat) : Int) := h4 1 _ rfl _ rfl
              replace A := (⟨h1, h2.trans A.2⟩ : a.tmps.size = 232 ∧ a.defers = [])
              clear h1 h2 h3 h4
              exact ⟨⟨k + 1, updH hh j (setT (hh j) k (-9) ((k : Nat) : Int)), ltk, hkj2, hko2, A, t9, t10, t12, t14, t161, t162, t163, t18, t19, t174, t175, t176, BB, FY2⟩, by show m + 1 - (intOf (a.eval (.tmp 176))).toNat < m + 1 - (intOf (Act.eval _ (.tmp 176))).toNat; rw [t176, esk]; show m + 1 - (k + 1) < m + 1 - k; omega⟩
            · have hP : hh j (k * 2) = -1 := by rw [hkj _ (by omega)]; exact (by rw [show k = m by omega]; exact chH_n em)
              have hQ : hh j (k * 2 + 1) = -1 := by rw [hkj _ (by omega)]; exact (by rw [show k = m by omega]; exact chH_m em)
              refine wp_region_sq (σ := Unit) 232 [(0, 181), (1, 182), (2, 183), (3, 184), (4, 185), (5, 186), (6, 187), (7, 188), (8, 189), (9, 190), (10, 191), (11, 192), (12, 193), (13, 194), (14, 195), (15, 196), (16, 197), (17, 198), (18, 199), (19, 200)] (fun j_ s X => match j_ with | 0 => Below X32.heap.size X32 X | 1 => Below X32.heap.size X32 X | 2 => Below X32.heap.size X32 X | 3 => Below X32.heap.size X32 X | 4 => Below X32.heap.size X32 X | 5 => Below X32.heap.size X32 X | 6 => Below X32.heap.size X32 X | 7 => Below X32.heap.size X32 X | 8 => Below X32.heap.size X32 X | 9 => Below X32.heap.size X32 X | 10 => Below X32.heap.size X32 X | 11 => Below X32.heap.size X32 X | 12 => Below X32.heap.size X32 X | 13 => Below X32.heap.size X32 X | 14 => Below X32.heap.size X32 X | 15 => Below X32.heap.size X32 X | 16 => Below X32.heap.size X32 X | 17 => Below X32.heap.size X32 X | 18 => Below X32.heap.size X32 X | 19 => Below X32.heap.size X32 X | _ => Below X32.heap.size X32 X) (fun s => fun i_ => match i_ with | 0 => .int .i64 ((k : Nat) : Int) | 1 => .int .i64 ((m : Nat) : Int) | 2 => .bool false | 3 => .bool false | 4 => undef | 5 => undef | 6 => undef | 7 => undef | 8 => undef | 9 => .bool false | 10 => .bool false | 11 => .int .i64 ((k : Nat) : Int) | 12 => .int .i64 ((m : Nat) : Int) | 13 => .bool true | 14 => .bool true | 15 => .agg (thC (hh j (k * 2)) (hh j (k * 2 + 1))) | 16 => .agg (thC (-1) (-1)) | 17 => .bool false | 18 => .bool false | 19 => .bool false | _ => undef) () A.1 (by kernel_rfl) (by decide) (by decide) (Below.refl _ _) ?_ ?_
              · intro i_ hi_ s a X hf hv hn hS
                match i_, hi_ with
                | 0, _ => exact stepV rfl rfl (execMvB rfl ((hf 20 (by decide)).trans t20)) ⟨s, ⟨_, rfl, rfl⟩, hS, fun _ _ => rfl⟩
                | 1, _ => exact stepV rfl rfl (execMvB rfl ((hf 19 (by decide)).trans t19)) ⟨s, ⟨_, rfl, rfl⟩, hS, fun _ _ => rfl⟩
                | 2, _ => exact stepV rfl rfl (execDec (execLtW (p := k) (q := m) rfl (hv 0 (by decide) _ rfl _ rfl) (hv 1 (by decide) _ rfl _ rfl)) (decide_eq_false (by omega))) ⟨s, ⟨_, rfl, rfl⟩, hS, fun _ _ => rfl⟩
                | 3, _ => exact stepV rfl rfl (execMvB rfl (hv 2 (by decide) _ rfl _ rfl)) ⟨s, ⟨_, rfl, rfl⟩, hS, fun _ _ => rfl⟩
                | 4, _ => exact stepU rfl (unwantedOf rfl (yieldedAt rfl rfl (show a.eval (.tmp 184) = .bool (!true) from (hv 3 (by decide) _ rfl _ rfl)))) ⟨s, ⟨_, rfl, rfl⟩, hS, fun _ _ => rfl⟩
                | 5, _ => exact stepU rfl (unwantedOf rfl (yieldedAt rfl rfl (show a.eval (.tmp 184) = .bool (!true) from (hv 3 (by decide) _ rfl _ rfl)))) ⟨s, ⟨_, rfl, rfl⟩, hS, fun _ _ => rfl⟩
                | 6, _ => exact stepU rfl (unwantedOf rfl (yieldedAt rfl rfl (show a.eval (.tmp 184) = .bool (!true) from (hv 3 (by decide) _ rfl _ rfl)))) ⟨s, ⟨_, rfl, rfl⟩, hS, fun _ _ => rfl⟩
                | 7, _ => exact stepU rfl (unwantedOf rfl (yieldedAt rfl rfl (show a.eval (.tmp 184) = .bool (!true) from (hv 3 (by decide) _ rfl _ rfl)))) ⟨s, ⟨_, rfl, rfl⟩, hS, fun _ _ => rfl⟩
                | 8, _ => exact stepU rfl (unwantedOf rfl (yieldedAt rfl rfl (show a.eval (.tmp 184) = .bool (!true) from (hv 3 (by decide) _ rfl _ rfl)))) ⟨s, ⟨_, rfl, rfl⟩, hS, fun _ _ => rfl⟩
                | 9, _ => exact stepV rfl rfl (execPickF rfl (hv 3 (by decide) _ rfl _ rfl) rfl) ⟨s, ⟨_, rfl, rfl⟩, hS, fun _ _ => rfl⟩
                | 10, _ => exact stepV rfl rfl (execMvB rfl (hv 9 (by decide) _ rfl _ rfl)) ⟨s, ⟨_, rfl, rfl⟩, hS, fun _ _ => rfl⟩
                | 11, _ => exact stepV rfl (wantedOf rfl (yieldedAt rfl rfl (show a.eval (.tmp 191) = .bool false from (hv 10 (by decide) _ rfl _ rfl)))) (execMvB rfl ((hf 20 (by decide)).trans t20)) ⟨s, ⟨_, rfl, rfl⟩, hS, fun _ _ => rfl⟩
                | 12, _ => exact stepV rfl (wantedOf rfl (yieldedAt rfl rfl (show a.eval (.tmp 191) = .bool false from (hv 10 (by decide) _ rfl _ rfl)))) (execMvB rfl ((hf 19 (by decide)).trans t19)) ⟨s, ⟨_, rfl, rfl⟩, hS, fun _ _ => rfl⟩
                | 13, _ => exact stepV rfl (wantedOf rfl (yieldedAt rfl rfl (show a.eval (.tmp 191) = .bool false from (hv 10 (by decide) _ rfl _ rfl)))) (execDec (execEqN (p := k) (q := m) rfl (hv 11 (by decide) _ rfl _ rfl) (hv 12 (by decide) _ rfl _ rfl)) (decide_eq_true (by omega))) ⟨s, ⟨_, rfl, rfl⟩, hS, fun _ _ => rfl⟩
                | 14, _ => exact stepV rfl (wantedOf rfl (yieldedAt rfl rfl (show a.eval (.tmp 191) = .bool false from (hv 10 (by decide) _ rfl _ rfl)))) (execMvB rfl (hv 13 (by decide) _ rfl _ rfl)) ⟨s, ⟨_, rfl, rfl⟩, hS, fun _ _ => rfl⟩
                | 15, _ => exact stepV rfl (wantedOf rfl (yieldedAt rfl rfl (show a.eval (.tmp 195) = .bool true from (hv 14 (by decide) _ rfl _ rfl)))) (execLdTh rfl ((hf 21 (by decide)).trans t21) (th_at0 (on9 F22 hS)) (th_at1 (on9 F22 hS))) ⟨s, ⟨_, rfl, rfl⟩, hS, fun _ _ => rfl⟩
                | 16, _ => exact stepV rfl (wantedOf rfl (yieldedAt rfl rfl (show a.eval (.tmp 195) = .bool true from (hv 14 (by decide) _ rfl _ rfl)))) (execBdTh (p := -1) (q := -1) rfl rfl rfl) ⟨s, ⟨_, rfl, rfl⟩, hS, fun _ _ => rfl⟩
                | 17, _ => exact stepV rfl (wantedOf rfl (yieldedAt rfl rfl (show a.eval (.tmp 195) = .bool true from (hv 14 (by decide) _ rfl _ rfl)))) (execNeTh2 rfl (hv 15 (by decide) _ rfl _ rfl) (hv 16 (by decide) _ rfl _ rfl) hP hQ) ⟨s, ⟨_, rfl, rfl⟩, hS, fun _ _ => rfl⟩
                | 18, _ => exact stepV rfl (wantedOf rfl (yieldedAt rfl rfl (show a.eval (.tmp 191) = .bool false from (hv 10 (by decide) _ rfl _ rfl)))) (execPickT rfl (hv 14 (by decide) _ rfl _ rfl) (hv 17 (by decide) _ rfl _ rfl)) ⟨s, ⟨_, rfl, rfl⟩, hS, fun _ _ => rfl⟩
                | 19, _ => exact stepV rfl rfl (execPickF rfl (hv 10 (by decide) _ rfl _ rfl) (hv 18 (by decide) _ rfl _ rfl)) ⟨s, ⟨_, rfl, rfl⟩, hS, fun _ _ => rfl⟩
                | k_ + 20, h_ => exact absurd h_ (by simp)
              rintro _ a X33 h1 h2 h3 h4 hS
              replace hS : Below X32.heap.size X32 X33 := hS
              have bX := hS
              clear hS
              replace t9 := (h3 9 (by decide)).trans t9
              replace t10 := (h3 10 (by decide)).trans t10
              replace t12 := (h3 12 (by decide)).trans t12
              replace t14 := (h3 14 (by decide)).trans t14
              replace t161 := (h3 161 (by decide)).trans t161
              replace t162 := (h3 162 (by decide)).trans t162
              replace t163 := (h3 163 (by decide)).trans t163
              replace t18 := (h3 18 (by decide)).trans t18
              replace t19 := (h3 19 (by decide)).trans t19
              replace t174 := (h3 174 (by decide)).trans t174
              replace t175 := (h3 175 (by decide)).trans t175
              replace t176 := (h3 176 (by decide)).trans t176
              replace t20 := (h3 20 (by decide)).trans t20
              have t200 : a.eval (.tmp 200) = .bool false := h4 19 _ rfl _ rfl
              replace FY := (FY.on bX)
              replace Fhrow := (ownD_below Fhrow bX)
              replace F22 := (on9 F22 bX)
              have ZX33 := bX.size
              replace BW := BW.trans (bX.mono BW.size)
              clear bX
              replace A := (⟨h1, h2.trans A.2⟩ : a.tmps.size = 232 ∧ a.defers = [])
              clear h1 h2 h3 h4
              clear t21
              refine wp_cond_false t200 ?_
              refine wp_skip ?_
              clear t200
              clear F22
              have BB := BW
              clear BW
              refine wp_region_sq (σ := Unit) 232 [(0, 201), (1, 202), (2, 203), (3, 204), (4, 205), (5, 206), (6, 207), (7, 208), (8, 209), (9, 210), (10, 211)] (fun j_ s X => match j_ with | 0 => Below V.heap.size V X ∧ (WvB V X8 X b80 r68 p64 M J gb cp (gN lf) (rwH cf) (hh)) ∧ (X.ownsRow V.heap.size 59 2 (.slice (some ⟨gb j, 0, none⟩) (m + 1) (cp j)) (m + 1) (intsL ((m + 1) * 2) (hh j))) | 1 => Below V.heap.size V X ∧ (WvB V X8 X b80 r68 p64 M J gb cp (gN lf) (rwH cf) (hh)) ∧ (X.ownsRow V.heap.size 59 2 (.slice (some ⟨gb j, 0, none⟩) (m + 1) (cp j)) (m + 1) (intsL ((m + 1) * 2) (hh j))) | 2 => Below V.heap.size V X ∧ (WvB V X8 X b80 r68 p64 M J gb cp (gN lf) (rwH cf) (hh)) ∧ (X.ownsRow V.heap.size 59 2 (.slice (some ⟨gb j, 0, none⟩) (m + 1) (cp j)) (m + 1) (intsL ((m + 1) * 2) (hh j))) | 3 => Below V.heap.size V X ∧ (WvB V X8 X b80 r68 p64 M J gb cp (gN lf) (rwH cf) (hh)) ∧ (X.ownsRow V.heap.size 59 2 (.slice (some ⟨gb j, 0, none⟩) (m + 1) (cp j)) (m + 1) (intsL ((m + 1) * 2) (hh j))) | 4 => Below V.heap.size V X ∧ (WvB V X8 X b80 r68 p64 M J gb cp (gN lf) (rwH cf) (hh)) ∧ (X.ownsRow V.heap.size 59 2 (.slice (some ⟨gb j, 0, none⟩) (m + 1) (cp j)) (m + 1) (intsL ((m + 1) * 2) (hh j))) | 5 => Below V.heap.size V X ∧ (WvB V X8 X b80 r68 p64 M J gb cp (gN lf) (rwH cf) (hh)) ∧ (X.ownsRow V.heap.size 59 2 (.slice (some ⟨gb j, 0, none⟩) (m + 1) (cp j)) (m + 1) (intsL ((m + 1) * 2) (hh j))) | 6 => Below V.heap.size V X ∧ (WvB V X8 X b80 r68 p64 M J gb cp (gN lf) (rwH cf) (hh)) ∧ (X.ownsRow V.heap.size 59 2 (.slice (some ⟨gb j, 0, none⟩) (m + 1) (cp j)) (m + 1) (intsL ((m + 1) * 2) (hh j))) | 7 => Below V.heap.size V X ∧ (WvB V X8 X b80 r68 p64 M J gb cp (gN lf) (rwH cf) (hh)) ∧ (X.ownsRow V.heap.size 59 2 (.slice (some ⟨gb j, 0, none⟩) (m + 1) (cp j)) (m + 1) (intsL ((m + 1) * 2) (hh j))) | 8 => Below V.heap.size V X ∧ (WvB V X8 X b80 r68 p64 M J gb cp (gN lf) (rwH cf) (hh)) ∧ (X.ownsRow V.heap.size 59 2 (.slice (some ⟨gb j, 0, none⟩) (m + 1) (cp j)) (m + 1) (intsL ((m + 1) * 2) (hh j))) | 9 => Below V.heap.size V X ∧ (WvB V X8 X b80 r68 p64 M J gb cp (gN lf) (rwH cf) (hh)) ∧ (X.ownsRow V.heap.size 59 2 (.slice (some ⟨gb j, 0, none⟩) (m + 1) (cp j)) (m + 1) (intsL ((m + 1) * 2) (hh j))) | 10 => Below V.heap.size V X ∧ (WvB V X8 X b80 r68 p64 M J gb cp (gN lf) (rwH cf) (hh)) ∧ (X.ownsRow V.heap.size 59 2 (.slice (some ⟨gb j, 0, none⟩) (m + 1) (cp j)) (m + 1) (intsL ((m + 1) * 2) (hh j))) | 11 => Below V.heap.size V X ∧ (WvB V X8 X b80 r68 p64 M J gb cp (gN lf) (rwH cf) (hh)) ∧ (X.ownsRow V.heap.size 59 2 (.slice (some ⟨gb j, 0, none⟩) (m + 1) (cp j)) (m + 1) (intsL ((m + 1) * 2) (hh j))) | _ => Below V.heap.size V X ∧ (WvB V X8 X b80 r68 p64 M J gb cp (gN lf) (rwH cf) (updH hh j (setT (hh j) k (-9) ((k : Nat) : Int))))) (fun s => fun i_ => match i_ with | 0 => p64 | 1 => .int .i64 ((j : Nat) : Int) | 2 => .pointer (some ⟨gp, 0 + j, none⟩) | 3 => .slice (some ⟨gb j, 0, none⟩) m (cp j) | 4 => .int .i64 ((m : Nat) : Int) | 5 => .int .i64 ((m + 1 : Nat) : Int) | 6 => .slice (some ⟨gb j, 0, none⟩) (m + 1) (cp j) | 7 => .int .i64 ((k : Nat) : Int) | 8 => .int .i64 ((k : Nat) : Int) | 9 => .agg (thC (-9) (((k : Nat) : Int))) | 10 => .pointer (some ⟨(gb j), 0 + k * 2, none⟩) | 11 => undef | _ => undef) () A.1 (by kernel_rfl) (by decide) (by decide) ⟨BB, FY, Fhrow⟩ ?_ ?_
              · intro i_ hi_ s a X hf hv hn hS
                match i_, hi_ with
                | 0, _ => exact stepV rfl rfl (execMvB rfl ((hf 9 (by decide)).trans t9)) ⟨s, ⟨_, rfl, rfl⟩, hS, fun _ _ => rfl⟩
                | 1, _ => exact stepV rfl rfl (execMvB rfl ((hf 18 (by decide)).trans t18)) ⟨s, ⟨_, rfl, rfl⟩, hS, fun _ _ => rfl⟩
                | 2, _ => exact stepV rfl rfl (execIdxLLT (k := j) rfl ((hv 0 (by decide) _ rfl _ rfl).trans ep) (hv 1 (by decide) _ rfl _ rfl) ltj) ⟨s, ⟨_, rfl, rfl⟩, hS, fun _ _ => rfl⟩
                | 3, _ => exact stepV rfl rfl (execLdLLT (v := .slice (some ⟨gb j, 0, none⟩) m (cp j)) rfl (hv 2 (by decide) _ rfl _ rfl) ((ownL_cellT (by have h_ := hS.2.1.fp; rw [ep] at h_; exact h_) ltj).trans (by unfold xT; rw [em]))) ⟨s, ⟨_, rfl, rfl⟩, hS, fun _ _ => rfl⟩
                | 4, _ => exact stepV rfl rfl (execMvB rfl ((hf 19 (by decide)).trans t19)) ⟨s, ⟨_, rfl, rfl⟩, hS, fun _ _ => rfl⟩
                | 5, _ => exact stepV rfl rfl (execAd8 (p := m) (q := 1) rfl (hv 4 (by decide) _ rfl _ rfl) rfl (by omega)) ⟨s, ⟨_, rfl, rfl⟩, hS, fun _ _ => rfl⟩
                | 6, _ => exact stepV rfl rfl (By8.execSlH rfl (hv 3 (by decide) _ rfl _ rfl) (hv 5 (by decide) _ rfl _ rfl) (sl_hT (gb j) _ (cp j) (m + 1) hcp X)) ⟨s, ⟨_, rfl, rfl⟩, hS, fun _ _ => rfl⟩
                | 7, _ => exact stepV rfl rfl (execMvB rfl ((hf 20 (by decide)).trans t20)) ⟨s, ⟨_, rfl, rfl⟩, hS, fun _ _ => rfl⟩
                | 8, _ => exact stepV rfl rfl (execMvB rfl ((hf 20 (by decide)).trans t20)) ⟨s, ⟨_, rfl, rfl⟩, hS, fun _ _ => rfl⟩
                | 9, _ => exact stepV rfl rfl (execBdTh (p := -9) (q := ((k : Nat) : Int)) rfl rfl (hv 8 (by decide) _ rfl _ rfl)) ⟨s, ⟨_, rfl, rfl⟩, hS, fun _ _ => rfl⟩
                | 10, _ => exact stepV rfl rfl (execIdxTh (k := k) rfl (hv 6 (by decide) _ rfl _ rfl) (hv 7 (by decide) _ rfl _ rfl) ltk) ⟨s, ⟨_, rfl, rfl⟩, hS, fun _ _ => rfl⟩
                | 11, _ =>
                  refine stepStTh rfl rfl rfl (hv 10 (by decide) _ rfl _ rfl) (hv 9 (by decide) _ rfl _ rfl) hS.2.2 ltk fun W' own' gr => ⟨s, ⟨_, rfl, rfl⟩, ⟨(hS.1).grown gr (hS.1).size (fun k hk => by rw [← Option.some.inj hk]; exact (hS.2.2.lt _ rfl).1), hS.2.1.setC ltj (by rw [em]; exact own') gr⟩, fun i hi => ?_⟩
                  match i, hi with
                  | 0, _ => rfl
                  | 1, _ => rfl
                  | 2, _ => rfl
                  | 3, _ => rfl
                  | 4, _ => rfl
                  | 5, _ => rfl
                  | 6, _ => rfl
                  | 7, _ => rfl
                  | 8, _ => rfl
                  | 9, _ => rfl
                  | 10, _ => rfl
                  | n_ + 11, h_ => omega
                | k_ + 12, h_ => exact absurd h_ (by simp)
              rintro _ a X35 h1 h2 h3 h4 hS
              clear BB
              clear FY
              clear Fhrow
              replace hS : Below V.heap.size V X35 ∧ (WvB V X8 X35 b80 r68 p64 M J gb cp (gN lf) (rwH cf) (updH hh j (setT (hh j) k (-9) ((k : Nat) : Int)))) := hS
              obtain ⟨BB, FY2⟩ := hS
              replace t9 := (h3 9 (by decide)).trans t9
              replace t10 := (h3 10 (by decide)).trans t10
              replace t12 := (h3 12 (by decide)).trans t12
              replace t14 := (h3 14 (by decide)).trans t14
              replace t161 := (h3 161 (by decide)).trans t161
              replace t162 := (h3 162 (by decide)).trans t162
              replace t163 := (h3 163 (by decide)).trans t163
              replace t18 := (h3 18 (by decide)).trans t18
              replace t19 := (h3 19 (by decide)).trans t19
              replace t174 := (h3 174 (by decide)).trans t174
              replace t175 := (h3 175 (by decide)).trans t175
              replace t176 := (h3 176 (by decide)).trans t176
              replace A := (⟨h1, h2.trans A.2⟩ : a.tmps.size = 232 ∧ a.defers = [])
              clear h1 h2 h3 h4
              clear t20
              have hkj2 : ∀ t, (k + 1) * 2 ≤ t → updH hh j (setT (hh j) k (-9) ((k : Nat) : Int)) j t = chH (gN lf) j t := fun t ht => by rw [updH_at]; unfold setT; rw [if_neg (by omega), if_neg (by omega)]; exact hkj t (by omega)
              have hko2 : ∀ s, j + 1 ≤ s → updH hh j (setT (hh j) k (-9) ((k : Nat) : Int)) s = chH (gN lf) s := fun s hs => by rw [updH_o (by omega)]; exact hko s hs
              refine wp_region_sq (σ := Unit) 232 [(0, 212), (1, 176)] (fun j_ s X => match j_ with | 0 => Below V.heap.size V X ∧ (WvB V X8 X b80 r68 p64 M J gb cp (gN lf) (rwH cf) (updH hh j (setT (hh j) k (-9) ((k : Nat) : Int)))) | 1 => Below V.heap.size V X ∧ (WvB V X8 X b80 r68 p64 M J gb cp (gN lf) (rwH cf) (updH hh j (setT (hh j) k (-9) ((k : Nat) : Int)))) | _ => Below V.heap.size V X ∧ (WvB V X8 X b80 r68 p64 M J gb cp (gN lf) (rwH cf) (updH hh j (setT (hh j) k (-9) ((k : Nat) : Int))))) (fun s => fun i_ => match i_ with | 0 => .int .i64 ((k + 1 : Nat) : Int) | 1 => .int .i64 ((k + 1 : Nat) : Int) | _ => undef) () A.1 (by kernel_rfl) (by decide) (by decide) ⟨BB, FY2⟩ ?_ ?_
              · intro i_ hi_ s a X hf hv hn hS
                match i_, hi_ with
                | 0, _ => exact stepV rfl rfl (execAd8 (p := k) (q := 1) rfl ((hn 1 (by decide) _ rfl _ rfl).trans t176) rfl (by omega)) ⟨s, ⟨_, rfl, rfl⟩, hS, fun _ _ => rfl⟩
                | 1, _ => exact stepV rfl rfl (execMvB rfl (hv 0 (by decide) _ rfl _ rfl)) ⟨s, ⟨_, rfl, rfl⟩, hS, fun _ _ => rfl⟩
                | k_ + 2, h_ => exact absurd h_ (by simp)
              rintro _ a X36 h1 h2 h3 h4 hS
              clear BB
              clear FY2
              replace hS : Below V.heap.size V X36 ∧ (WvB V X8 X36 b80 r68 p64 M J gb cp (gN lf) (rwH cf) (updH hh j (setT (hh j) k (-9) ((k : Nat) : Int)))) := hS
              obtain ⟨BB, FY2⟩ := hS
              replace t9 := (h3 9 (by decide)).trans t9
              replace t10 := (h3 10 (by decide)).trans t10
              replace t12 := (h3 12 (by decide)).trans t12
              replace t14 := (h3 14 (by decide)).trans t14
              replace t161 := (h3 161 (by decide)).trans t161
              replace t162 := (h3 162 (by decide)).trans t162
              replace t163 := (h3 163 (by decide)).trans t163
              replace t18 := (h3 18 (by decide)).trans t18
              replace t19 := (h3 19 (by decide)).trans t19
              replace t174 := (h3 174 (by decide)).trans t174
              replace t175 := (h3 175 (by decide)).trans t175
              replace t176 : a.eval (.tmp 176) = .int .i64 ((k + 1 : Nat) : Int) := h4 1 _ rfl _ rfl
              replace A := (⟨h1, h2.trans A.2⟩ : a.tmps.size = 232 ∧ a.defers = [])
              clear h1 h2 h3 h4
              exact ⟨⟨k + 1, updH hh j (setT (hh j) k (-9) ((k : Nat) : Int)), ltk, hkj2, hko2, A, t9, t10, t12, t14, t161, t162, t163, t18, t19, t174, t175, t176, BB, FY2⟩, by show m + 1 - (intOf (a.eval (.tmp 176))).toNat < m + 1 - (intOf (Act.eval _ (.tmp 176))).toNat; rw [t176, esk]; show m + 1 - (k + 1) < m + 1 - k; omega⟩
          · rw [decide_eq_false ltk] at t177
            refine wp_cond_false t177 ?_
            refine wp_exit ?_
            first | with_reducible refine exit_in ?_ | with_reducible refine exit_then (exit_in ?_) | with_reducible refine exit_then (exit_then (exit_in ?_)) | refine exit_in ?_ | refine exit_then (exit_in ?_) | refine exit_then (exit_then (exit_in ?_))
            clear t177 esk
            clear t174 t175 t176 t18 t19
            clear hkj
            refine wp_region_sq (σ := Unit) 232 [(0, 213), (1, 163)] (fun j_ s X => match j_ with | 0 => Below V.heap.size V X ∧ (WvB V X8 X b80 r68 p64 M J gb cp (gN lf) (rwH cf) (hh)) | 1 => Below V.heap.size V X ∧ (WvB V X8 X b80 r68 p64 M J gb cp (gN lf) (rwH cf) (hh)) | _ => Below V.heap.size V X ∧ (WvB V X8 X b80 r68 p64 M J gb cp (gN lf) (rwH cf) (hh))) (fun s => fun i_ => match i_ with | 0 => .int .i64 ((j + 1 : Nat) : Int) | 1 => .int .i64 ((j + 1 : Nat) : Int) | _ => undef) () A.1 (by kernel_rfl) (by decide) (by decide) ⟨BB, FY⟩ ?_ ?_
            · intro i_ hi_ s a X hf hv hn hS
              match i_, hi_ with
              | 0, _ => exact stepV rfl rfl (execAd8 (p := j) (q := 1) rfl ((hn 1 (by decide) _ rfl _ rfl).trans t163) rfl (by omega)) ⟨s, ⟨_, rfl, rfl⟩, hS, fun _ _ => rfl⟩
              | 1, _ => exact stepV rfl rfl (execMvB rfl (hv 0 (by decide) _ rfl _ rfl)) ⟨s, ⟨_, rfl, rfl⟩, hS, fun _ _ => rfl⟩
              | k_ + 2, h_ => exact absurd h_ (by simp)
            rintro _ a X37 h1 h2 h3 h4 hS
            clear BB
            clear FY
            replace hS : Below V.heap.size V X37 ∧ (WvB V X8 X37 b80 r68 p64 M J gb cp (gN lf) (rwH cf) (hh)) := hS
            obtain ⟨BB, FY⟩ := hS
            replace t9 := (h3 9 (by decide)).trans t9
            replace t10 := (h3 10 (by decide)).trans t10
            replace t12 := (h3 12 (by decide)).trans t12
            replace t14 := (h3 14 (by decide)).trans t14
            replace t161 := (h3 161 (by decide)).trans t161
            replace t162 := (h3 162 (by decide)).trans t162
            replace t163 : a.eval (.tmp 163) = .int .i64 ((j + 1 : Nat) : Int) := h4 1 _ rfl _ rfl
            replace A := (⟨h1, h2.trans A.2⟩ : a.tmps.size = 232 ∧ a.defers = [])
            clear h1 h2 h3 h4
            exact ⟨⟨j + 1, hh, ltj, hko, A, t9, t10, t12, t14, t161, t162, t163, BB, FY⟩, by show J - (intOf (a.eval (.tmp 163))).toNat < J - (intOf (Act.eval _ (.tmp 163))).toNat; rw [t163, esj]; show J - (j + 1) < J - j; omega⟩
        · rw [decide_eq_false ltj] at t164
          refine wp_cond_false t164 ?_
          refine wp_exit ?_
          first | with_reducible refine exit_in ?_ | with_reducible refine exit_then (exit_in ?_) | with_reducible refine exit_then (exit_then (exit_in ?_)) | refine exit_in ?_ | refine exit_then (exit_in ?_) | refine exit_then (exit_then (exit_in ?_))
          clear t164 esj
          clear t9 t161 t162 t163 ltj hj hhj
          refine wp_seq ?_
          refine wp_seq ?_
          refine wp_region_sq (σ := Unit) 232 [(0, 214), (1, 215), (2, 216)] (fun j_ s X => match j_ with | 0 => Below V.heap.size V X ∧ (WvB V X8 X b80 r68 p64 M J gb cp (gN lf) (rwH cf) (hh)) | 1 => Below V.heap.size V X ∧ (WvB V X8 X b80 r68 p64 M J gb cp (gN lf) (rwH cf) (hh)) | 2 => Below V.heap.size V X ∧ (WvB V X8 X b80 r68 p64 M J gb cp (gN lf) (rwH cf) (hh)) | _ => Below V.heap.size V X ∧ (WvB V X8 X b80 r68 p64 M J gb cp (gN lf) (rwH cf) (hh))) (fun s => fun i_ => match i_ with | 0 => b80 | 1 => .int .i64 ((M : Nat) : Int) | 2 => .int .i64 ((0 : Nat) : Int) | _ => undef) () A.1 (by kernel_rfl) (by decide) (by decide) ⟨BB, FY⟩ ?_ ?_
          · intro i_ hi_ s a X hf hv hn hS
            match i_, hi_ with
            | 0, _ => exact stepV rfl rfl (execMvB rfl ((hf 14 (by decide)).trans t14)) ⟨s, ⟨_, rfl, rfl⟩, hS, fun _ _ => rfl⟩
            | 1, _ => exact stepV rfl rfl (execLenTh (len := M) rfl (hv 0 (by decide) _ rfl _ rfl) (own_th hS.2.rb).shp) ⟨s, ⟨_, rfl, rfl⟩, hS, fun _ _ => rfl⟩
            | 2, _ => exact stepV rfl rfl (execMvB rfl rfl) ⟨s, ⟨_, rfl, rfl⟩, hS, fun _ _ => rfl⟩
            | k_ + 3, h_ => exact absurd h_ (by simp)
          rintro _ a X38 h1 h2 h3 h4 hS
          clear BB
          clear FY
          replace hS : Below V.heap.size V X38 ∧ (WvB V X8 X38 b80 r68 p64 M J gb cp (gN lf) (rwH cf) (hh)) := hS
          obtain ⟨BB, FY⟩ := hS
          replace t10 := (h3 10 (by decide)).trans t10
          replace t12 := (h3 12 (by decide)).trans t12
          replace t14 := (h3 14 (by decide)).trans t14
          have t214 : a.eval (.tmp 214) = b80 := h4 0 _ rfl _ rfl
          have t215 : a.eval (.tmp 215) = .int .i64 ((M : Nat) : Int) := h4 1 _ rfl _ rfl
          have t216 : a.eval (.tmp 216) = .int .i64 ((0 : Nat) : Int) := h4 2 _ rfl _ rfl
          replace A := (⟨h1, h2.trans A.2⟩ : a.tmps.size = 232 ∧ a.defers = [])
          clear h1 h2 h3 h4
          refine wp_block ?_
          refine wp_loop (fun a W => ∃ (i : Nat), i ≤ M ∧ (a.tmps.size = 232 ∧ a.defers = []) ∧ a.eval (.tmp 10) = r68 ∧ a.eval (.tmp 12) = v145 ∧ a.eval (.tmp 14) = b80 ∧ a.eval (.tmp 214) = b80 ∧ a.eval (.tmp 215) = .int .i64 ((M : Nat) : Int) ∧ a.eval (.tmp 216) = .int .i64 ((i : Nat) : Int) ∧ Below V.heap.size V W ∧ (WvB V X8 W b80 r68 p64 M J gb cp (gN lf) (rwH cf) (hh))) (fun a _ => M - (intOf (a.eval (.tmp 216))).toNat) ⟨0, Nat.zero_le _, A, t10, t12, t14, t214, t215, t216, BB, FY⟩ ?_
          clear A t10 t12 t14 t214 t215 t216 BB FY a
          rintro a XL39 ⟨i, hi, A, t10, t12, t14, t214, t215, t216, BB, FY⟩
          have esi := t216
          refine wp_seq ?_
          refine wp_region_sq (σ := Unit) 232 [(0, 217)] (fun j_ s X => match j_ with | 0 => Below V.heap.size V X ∧ (WvB V X8 X b80 r68 p64 M J gb cp (gN lf) (rwH cf) (hh)) | _ => Below V.heap.size V X ∧ (WvB V X8 X b80 r68 p64 M J gb cp (gN lf) (rwH cf) (hh))) (fun s => fun i_ => match i_ with | 0 => .bool (decide (i < M)) | _ => undef) () A.1 (by kernel_rfl) (by decide) (by decide) ⟨BB, FY⟩ ?_ ?_
          · intro i_ hi_ s a X hf hv hn hS
            match i_, hi_ with
            | 0, _ => exact stepV rfl rfl (execLtW (p := i) (q := M) rfl ((hf 216 (by decide)).trans t216) ((hf 215 (by decide)).trans t215)) ⟨s, ⟨_, rfl, rfl⟩, hS, fun _ _ => rfl⟩
            | k_ + 1, h_ => exact absurd h_ (by simp)
          rintro _ a X39 h1 h2 h3 h4 hS
          clear BB
          clear FY
          replace hS : Below V.heap.size V X39 ∧ (WvB V X8 X39 b80 r68 p64 M J gb cp (gN lf) (rwH cf) (hh)) := hS
          obtain ⟨BB, FY⟩ := hS
          replace t10 := (h3 10 (by decide)).trans t10
          replace t12 := (h3 12 (by decide)).trans t12
          replace t14 := (h3 14 (by decide)).trans t14
          replace t214 := (h3 214 (by decide)).trans t214
          replace t215 := (h3 215 (by decide)).trans t215
          replace t216 := (h3 216 (by decide)).trans t216
          have t217 : a.eval (.tmp 217) = .bool (decide (i < M)) := h4 0 _ rfl _ rfl
          replace A := (⟨h1, h2.trans A.2⟩ : a.tmps.size = 232 ∧ a.defers = [])
          clear h1 h2 h3 h4
          refine wp_seq ?_
          by_cases lti : i < M
          · rw [decide_eq_true lti] at t217
            refine wp_cond_true t217 ?_
            refine wp_skip ?_
            clear t217
            refine wp_seq ?_
            refine wp_block ?_
            obtain ⟨gc, cc, ecb, _, _⟩ := ownL_some9 FY.rb (by omega)
            obtain ⟨gw, cw, ew, _, _⟩ := ownL_some9 FY.rw (by omega)
            refine wp_seq ?_
            refine wp_region_sq (σ := Unit) 232 [(0, 218), (1, 22)] (fun j_ s X => match j_ with | 0 => Below V.heap.size V X ∧ (WvB V X8 X b80 r68 p64 M J gb cp (gN lf) (rwH cf) (hh)) | 1 => Below V.heap.size V X ∧ (WvB V X8 X b80 r68 p64 M J gb cp (gN lf) (rwH cf) (hh)) | _ => Below V.heap.size V X ∧ (WvB V X8 X b80 r68 p64 M J gb cp (gN lf) (rwH cf) (hh))) (fun s => fun i_ => match i_ with | 0 => .int .i64 ((i : Nat) : Int) | 1 => .int .i64 ((i : Nat) : Int) | _ => undef) () A.1 (by kernel_rfl) (by decide) (by decide) ⟨BB, FY⟩ ?_ ?_
            · intro i_ hi_ s a X hf hv hn hS
              match i_, hi_ with
              | 0, _ => exact stepV rfl rfl (execMvB rfl ((hf 216 (by decide)).trans t216)) ⟨s, ⟨_, rfl, rfl⟩, hS, fun _ _ => rfl⟩
              | 1, _ => exact stepV rfl rfl (execAsgB rfl (hv 0 (by decide) _ rfl _ rfl)) ⟨s, ⟨_, rfl, rfl⟩, hS, fun _ _ => rfl⟩
              | k_ + 2, h_ => exact absurd h_ (by simp)
            rintro _ a X40 h1 h2 h3 h4 hS
            clear BB
            clear FY
            replace hS : Below V.heap.size V X40 ∧ (WvB V X8 X40 b80 r68 p64 M J gb cp (gN lf) (rwH cf) (hh)) := hS
            obtain ⟨BB, FY⟩ := hS
            replace t10 := (h3 10 (by decide)).trans t10
            replace t12 := (h3 12 (by decide)).trans t12
            replace t14 := (h3 14 (by decide)).trans t14
            replace t214 := (h3 214 (by decide)).trans t214
            replace t215 := (h3 215 (by decide)).trans t215
            replace t216 := (h3 216 (by decide)).trans t216
            have t22 : a.eval (.tmp 22) = .int .i64 ((i : Nat) : Int) := h4 1 _ rfl _ rfl
            replace A := (⟨h1, h2.trans A.2⟩ : a.tmps.size = 232 ∧ a.defers = [])
            clear h1 h2 h3 h4
            refine wp_seq ?_
            refine wp_region_detA 232 [(0, 219), (1, 220), (2, 221), (3, 222), (4, 223), (5, 224), (6, 225), (7, 226), (8, 227)] (fun i_ => match i_ with | 0 => b80 | 1 => .int .i64 ((i : Nat) : Int) | 2 => .pointer (some ⟨gc, 0 + i * 2, none⟩) | 3 => .agg (thC (rwH cf (i * 2)) (rwH cf (i * 2 + 1))) | 4 => r68 | 5 => .int .i64 ((i : Nat) : Int) | 6 => .pointer (some ⟨gw, 0 + i * 2, none⟩) | 7 => .agg (thC (rwH cf (i * 2)) (rwH cf (i * 2 + 1))) | 8 => .bool false | _ => undef) (fun _ X => Below V.heap.size V X ∧ (WvB V X8 X b80 r68 p64 M J gb cp (gN lf) (rwH cf) (hh))) (by kernel_rfl) (by kernel_rfl) A.1 (by kernel_rfl) (by decide) (by decide) ⟨BB.drew, (FY.on (Below.refl _ _).drew)⟩ ?_ ?_
            · intro i_ hi_ l_ a X hl_ hf hdep hl2 hcl hno hT
              match i_, hi_ with
              | 0, _ => exact stepV rfl rfl (execMvB rfl ((hf 14 (by decide)).trans t14)) ⟨⟨_, rfl, rfl⟩, hT⟩
              | 1, _ => exact stepV rfl rfl (execMvB rfl ((hf 22 (by decide)).trans t22)) ⟨⟨_, rfl, rfl⟩, hT⟩
              | 2, _ => exact stepV rfl rfl (execIdxTh (k := i) rfl ((hdep _ rfl 0 rfl _ rfl _ rfl).trans ecb) (hdep _ rfl 1 rfl _ rfl _ rfl) lti) ⟨⟨_, rfl, rfl⟩, hT⟩
              | 3, _ => exact stepV rfl rfl (execLdTh rfl (hdep _ rfl 2 rfl _ rfl _ rfl) (th_cell (by have h_ := hT.2.rb; rw [ecb] at h_; exact h_) (show i * 2 < M * 2 by omega)) (th_cell (by have h_ := hT.2.rb; rw [ecb] at h_; exact h_) (show i * 2 + 1 < M * 2 by omega))) ⟨⟨_, rfl, rfl⟩, hT⟩
              | 4, _ => exact stepV rfl rfl (execMvB rfl ((hf 10 (by decide)).trans t10)) ⟨⟨_, rfl, rfl⟩, hT⟩
              | 5, _ => exact stepV rfl rfl (execMvB rfl ((hf 22 (by decide)).trans t22)) ⟨⟨_, rfl, rfl⟩, hT⟩
              | 6, _ => exact stepV rfl rfl (execIdxPr (k := i) rfl ((hdep _ rfl 4 rfl _ rfl _ rfl).trans ew) (hdep _ rfl 5 rfl _ rfl _ rfl) lti) ⟨⟨_, rfl, rfl⟩, hT⟩
              | 7, _ => exact stepV rfl rfl (execLdPr rfl (hdep _ rfl 6 rfl _ rfl _ rfl) (th_cell (by have h_ := hT.2.rw; rw [ew] at h_; exact h_) (show i * 2 < M * 2 by omega)) (th_cell (by have h_ := hT.2.rw; rw [ew] at h_; exact h_) (show i * 2 + 1 < M * 2 by omega))) ⟨⟨_, rfl, rfl⟩, hT⟩
              | 8, _ => exact stepV rfl rfl (execNeTh2 rfl (hdep _ rfl 3 rfl _ rfl _ rfl) (hdep _ rfl 7 rfl _ rfl _ rfl) rfl rfl) ⟨⟨_, rfl, rfl⟩, hT⟩
              | k_ + 9, h_ => exact absurd h_ (by simp)
            intro l_ a X41 h1 h2 h3 h4 hall hT
            clear hall
            clear BB
            clear FY
            obtain ⟨BB, FY⟩ := hT
            replace t10 := (h3 10 (by decide)).trans t10
            replace t12 := (h3 12 (by decide)).trans t12
            replace t14 := (h3 14 (by decide)).trans t14
            replace t214 := (h3 214 (by decide)).trans t214
            replace t215 := (h3 215 (by decide)).trans t215
            replace t216 := (h3 216 (by decide)).trans t216
            have t227 : a.eval (.tmp 227) = .bool false := h4 (8, 227) (by decide)
            replace A := (⟨h1, h2.trans A.2⟩ : a.tmps.size = 232 ∧ a.defers = [])
            clear h1 h2 h3 h4
            clear t22
            refine wp_cond_false t227 ?_
            refine wp_skip ?_
            clear t227
            refine wp_region_sq (σ := Unit) 232 [(0, 228), (1, 216)] (fun j_ s X => match j_ with | 0 => Below V.heap.size V X ∧ (WvB V X8 X b80 r68 p64 M J gb cp (gN lf) (rwH cf) (hh)) | 1 => Below V.heap.size V X ∧ (WvB V X8 X b80 r68 p64 M J gb cp (gN lf) (rwH cf) (hh)) | _ => Below V.heap.size V X ∧ (WvB V X8 X b80 r68 p64 M J gb cp (gN lf) (rwH cf) (hh))) (fun s => fun i_ => match i_ with | 0 => .int .i64 ((i + 1 : Nat) : Int) | 1 => .int .i64 ((i + 1 : Nat) : Int) | _ => undef) () A.1 (by kernel_rfl) (by decide) (by decide) ⟨BB, FY⟩ ?_ ?_
            · intro i_ hi_ s a X hf hv hn hS
              match i_, hi_ with
              | 0, _ => exact stepV rfl rfl (execAd8 (p := i) (q := 1) rfl ((hn 1 (by decide) _ rfl _ rfl).trans t216) rfl (by omega)) ⟨s, ⟨_, rfl, rfl⟩, hS, fun _ _ => rfl⟩
              | 1, _ => exact stepV rfl rfl (execMvB rfl (hv 0 (by decide) _ rfl _ rfl)) ⟨s, ⟨_, rfl, rfl⟩, hS, fun _ _ => rfl⟩
              | k_ + 2, h_ => exact absurd h_ (by simp)
            rintro _ a X43 h1 h2 h3 h4 hS
            clear BB
            clear FY
            replace hS : Below V.heap.size V X43 ∧ (WvB V X8 X43 b80 r68 p64 M J gb cp (gN lf) (rwH cf) (hh)) := hS
            obtain ⟨BB, FY⟩ := hS
            replace t10 := (h3 10 (by decide)).trans t10
            replace t12 := (h3 12 (by decide)).trans t12
            replace t14 := (h3 14 (by decide)).trans t14
            replace t214 := (h3 214 (by decide)).trans t214
            replace t215 := (h3 215 (by decide)).trans t215
            replace t216 : a.eval (.tmp 216) = .int .i64 ((i + 1 : Nat) : Int) := h4 1 _ rfl _ rfl
            replace A := (⟨h1, h2.trans A.2⟩ : a.tmps.size = 232 ∧ a.defers = [])
            clear h1 h2 h3 h4
            exact ⟨⟨i + 1, lti, A, t10, t12, t14, t214, t215, t216, BB, FY⟩, by show M - (intOf (a.eval (.tmp 216))).toNat < M - (intOf (Act.eval _ (.tmp 216))).toNat; rw [t216, esi]; show M - (i + 1) < M - i; omega⟩
          · rw [decide_eq_false lti] at t217
            refine wp_cond_false t217 ?_
            refine wp_exit ?_
            first | with_reducible refine exit_in ?_ | with_reducible refine exit_then (exit_in ?_) | with_reducible refine exit_then (exit_then (exit_in ?_)) | refine exit_in ?_ | refine exit_then (exit_in ?_) | refine exit_then (exit_then (exit_in ?_))
            clear t217 esi
            clear t214 t215 t216
            clear lti hi
            clear t10 t14 FY
            have BW := BB
            clear BB
            refine wp_seq ?_
            refine wp_region_sq (σ := Unit) 232 [(0, 229), (1, 230), (2, 231), (3, 4)] (fun j_ s X => match j_ with | 0 => Below X39.heap.size X39 X | 1 => Below X39.heap.size X39 X | 2 => Below X39.heap.size X39 X | 3 => Below X39.heap.size X39 X | _ => Below X39.heap.size X39 X) (fun s => fun i_ => match i_ with | 0 => v145 | 1 => .int .i64 ((M + 2 : Nat) : Int) | 2 => .bool true | 3 => .bool true | _ => undef) () A.1 (by kernel_rfl) (by decide) (by decide) (Below.refl _ _) ?_ ?_
            · intro i_ hi_ s a X hf hv hn hS
              match i_, hi_ with
              | 0, _ => exact stepV rfl rfl (execMvB rfl ((hf 12 (by decide)).trans t12)) ⟨s, ⟨_, rfl, rfl⟩, hS, fun _ _ => rfl⟩
              | 1, _ => exact stepV rfl rfl (execLenTh (len := M + 2) rfl (hv 0 (by decide) _ rfl _ rfl) Fsh) ⟨s, ⟨_, rfl, rfl⟩, hS, fun _ _ => rfl⟩
              | 2, _ => exact stepV rfl rfl (execDec (execGe8 (p := M + 2) (q := 2) rfl (hv 1 (by decide) _ rfl _ rfl) rfl) (decide_eq_true (by omega))) ⟨s, ⟨_, rfl, rfl⟩, hS, fun _ _ => rfl⟩
              | 3, _ => exact stepV rfl rfl (execAsgB rfl (hv 2 (by decide) _ rfl _ rfl)) ⟨s, ⟨_, rfl, rfl⟩, hS, fun _ _ => rfl⟩
              | k_ + 4, h_ => exact absurd h_ (by simp)
            rintro _ a X44 h1 h2 h3 h4 hS
            replace hS : Below X39.heap.size X39 X44 := hS
            have bX := hS
            clear hS
            have t4 : a.eval (.tmp 4) = .bool true := h4 3 _ rfl _ rfl
            have ZX44 := bX.size
            replace BW := BW.trans (bX.mono BW.size)
            clear bX
            replace A := (⟨h1, h2.trans A.2⟩ : a.tmps.size = 232 ∧ a.defers = [])
            clear h1 h2 h3 h4
            clear t12
            refine wp_ret ?_
            repeat (first | with_reducible refine ret_in ?_ | with_reducible refine ret_then ?_)
            refine bodyPost_ret (results_tmp rfl _ _ _) A.2 ⟨?_, BW⟩
            show Ending.returned (a.eval (.tmp 4)) = _
            rw [t4]
end Go.Proofs.Ytdecmmcphcomhaa.Brd
