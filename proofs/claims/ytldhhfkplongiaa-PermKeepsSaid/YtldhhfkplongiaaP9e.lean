import Derived.Test.YtldhhfkplongiaaP9d
namespace Go.Proofs.Ytldhhfkplongiaa.Prm
open Go.RowKit Gf8 Aes By8 Cel Cf Tap Drw
/- Stage 11's reference: find, Rank. Written by tools/mkP9e.py. -/

theorem execEqIgt {o : Oper} {a : Act} {w : World} {x y : Operand} {p q : Int} (ho : o.op = .binOp .eql 3 x y 3) (hx : a.eval x = .int .i64 p) (hy : a.eval y = .int .i64 q) (h : p = q) : (execOp a.eval o).run Try.prog w = .ok (.value (.bool true)) w := by
  unfold execOp
  simp only [ho, hx, hy]
  simp [go_sem, h]
theorem execEqIgf {o : Oper} {a : Act} {w : World} {x y : Operand} {p q : Int} (ho : o.op = .binOp .eql 3 x y 3) (hx : a.eval x = .int .i64 p) (hy : a.eval y = .int .i64 q) (h : ¬ p = q) : (execOp a.eval o).run Try.prog w = .ok (.value (.bool false)) w := by
  unfold execOp
  simp only [ho, hx, hy]
  simp [go_sem, h]
theorem execSlLg {o : Oper} {a : Act} {w : World} {x l : Operand} {ty : TypeId} {v vl r : Value} (ho : o.op = .slice ty x (some l) none none) (hx : a.eval x = v) (hl : a.eval l = vl)
    (hr : (Instr.sliceAt ty v (some vl) none none).run Try.prog w = .ok r w) : (execOp a.eval o).run Try.prog w = .ok (.value r) w := by
  unfold execOp
  simp only [ho, hx, hl, Option.map_some, Option.map_none, Sem.run_bind, hr, Result.andThen_ok, Sem.run_pure]
theorem sl_lIg (g len cap l : Nat) (h1 : l ≤ len) (W : World) : (Instr.sliceAt 22 (.slice (some ⟨g, 0, none⟩) len cap) (some (.int .i64 (l : Int))) none none).run Try.prog W = .ok (sliced (some ⟨g, 0, none⟩) l len cap 1) W := by
  have e1 : (l : Int) ≤ len := by omega
  obtain ⟨i, i1, _, i3, _⟩ := infoI
  simp [Instr.sliceAt, Instr.slice, run_underlying Try.underlying22, Instr.sliceBounds, run_sliceBound, sliced, h1, sizeOf, typeInfo, i1, i3]
theorem sl_lI (g len cap l : Nat) (h1 : l < len) (W : World) : (Instr.sliceAt 22 (.slice (some ⟨g, 0, none⟩) len cap) (some (.int .i64 ((l + 1 : Nat) : Int))) none none).run Try.prog W = .ok (sliced (some ⟨g, 0, none⟩) (l + 1) len cap 1) W := sl_lIg g len cap (l + 1) h1 W
theorem sl_no {A : Addr} {l h m x y : Nat} (e : sliced (some A) l h m 1 = .slice none x y) : y = 0 := by
  unfold sliced at e
  by_cases q : m = l
  · rw [if_pos q] at e; cases e
  · rw [if_neg q] at e; cases e
theorem SliceI.sub {w : World} {a : Option Addr} {len cap : Nat} {p : Nat → Int} (hv : SliceI w (.slice a len cap) len p) (l h : Nat) (h1 : l ≤ h) (h2 : h ≤ len) :
    SliceI w (sliced a l h cap 1) (h - l) (fun j => p (l + j)) := by
  obtain ⟨⟨a', cap', e, e1, e2, e3⟩, hp⟩ := hv
  obtain ⟨rfl, _, rfl⟩ : a = a' ∧ len = len ∧ cap = cap' := by
    injection e with x y z
    exact ⟨x, rfl, z⟩
  refine ⟨⟨_, cap - l, rfl, by omega, by omega, fun h0 => ?_⟩, fun j hj => hp (l + j) (by omega)⟩
  obtain ⟨b, off, rfl, hb, hc⟩ := e3 (by omega)
  rw [if_neg (by omega)]
  refine ⟨b, off + l, ?_, hb, fun j hj => ?_⟩
  · simp [Addr.add]
  · rw [Nat.add_assoc]; exact hc (l + j) (by omega)
/-- Two rows of one's own, apart. -/
structure Two (V W : World) (u : Value) (nu : Nat) (fu : Nat → Int) (lv : Value) (nl : Nat) (fl : Nat → Int) : Prop where
  ru : W.ownsRow V.heap.size 3 1 u nu (intsL nu fu)
  rl : W.ownsRow V.heap.size 3 1 lv nl (intsL nl fl)
  ap : ∀ k, u.ownBlock = some k → lv.ownBlock ≠ some k
section
variable {V W W' : World} {u lv : Value} {nu nl : Nat} {fu fl : Nat → Int}
theorem Two.on (h : Two V W u nu fu lv nl fl) (b : Below W.heap.size W W') : Two V W' u nu fu lv nl fl := ⟨ownD_below h.ru b, ownD_below h.rl b, h.ap⟩
theorem Two.over {C m : Nat} {v2 : Value} {ys : List Value} (h : Two V W u nu fu lv nl fl) (hu : ∀ k, u.ownBlock = some k → k < C) (hl : ∀ k, lv.ownBlock = some k → k < C) (h2 : W.ownsRow C 3 1 v2 m ys) (gr : W.grownBy W' v2.ownBlock) : Two V W' u nu fu lv nl fl :=
  ⟨own_overB h.ru hu h2 gr, own_overB h.rl hl h2 gr, h.ap⟩
theorem Two.new {C m nl' : Nat} {v' : Value} {f' fl' : Nat → Int} (h : Two V W u nu fu lv nl fl) (hu : ∀ k, u.ownBlock = some k → k < C) (own : W.ownsRow C 3 1 v' m (intsL m f')) (hC : V.heap.size ≤ C) (em : m = nl') (ef : ∀ j, j < nl' → f' j = fl' j) : Two V W u nu fu v' nl' fl' := by
  subst em
  refine ⟨h.ru, ?_, fun k e q => ?_⟩
  · rw [← intsL_congr ef]
    exact ownD_base own hC
  · have a1 := hu k e
    have a2 := (own.lt k q).1
    omega
theorem Two.lo {g c k : Nat} (h : Two V W u nu fu (.slice (some ⟨g, 0, none⟩) nl c) nl fl) (hf : ∀ j, j < nl → -9223372036854775808 ≤ fl j ∧ fl j < 9223372036854775808) (hk : k < nl) : SliceI W (.slice (some ⟨g, 0, none⟩) k c) k fl := by
  have h2 := SliceI.sub (own_ints h.rl hf) 0 k (Nat.zero_le _) (by omega)
  rw [sliced_0, Nat.sub_zero] at h2
  exact h2.cg fun j _ => by rw [Nat.zero_add]
theorem Two.hi {g c k : Nat} (h : Two V W u nu fu (.slice (some ⟨g, 0, none⟩) nl c) nl fl) (hf : ∀ j, j < nl → -9223372036854775808 ≤ fl j ∧ fl j < 9223372036854775808) (hk : k < nl) : SliceI W (sliced (some ⟨g, 0, none⟩) (k + 1) nl c 1) (nl - (k + 1)) (fun j => fl (k + 1 + j)) :=
  SliceI.sub (own_ints h.rl hf) (k + 1) nl hk (Nat.le_refl _)
end
/-- append to the first of them. -/
theorem stepAppU {V W : World} {u lv : Value} {nu nl g : Nat} {fu fl : Nat → Int} {ops : Array Oper} {Q : Exit → Act → World → Prop} {K : Act → World → Prop} {j : Nat} {o : Oper} {a : Act} {s x : Operand} (hos : ops[j]? = some o) (hgd : Region.wanted o (yielded ops a.tmps) = true)
    (ho : o.op = .call { callee := .builtin .append, args := #[s, x], argTypes := #[22, 22] }) (hs : a.eval s = u) (hx : a.eval x = .slice (some ⟨g, 0, none⟩) 1 1) (h : Two V W u nu fu lv nl fl) (hg : W.heap[g]? = some (.cells #[.int .i64 (fu nu)] 3)) (hn : nu + 1 ≤ 17592186044416) (hB : V.heap.size ≤ W.heap.size)
    (hK : ∀ v' W', Two V W' v' (nu + 1) fu lv nl fl → W.grownBy W' u.ownBlock → K (a.put o.dst v') W') : wpOp Try.prog ops Q j K a W := by
  obtain ⟨i, i1, i2, i3, i4⟩ := infoI
  obtain ⟨v', W', run, q1, q2⟩ := execAppO (W := W) (news := [.int .i64 (fu nu)]) ho Try.underlying22 i1 i2 i3 i4 rfl (by decide) hs h.ru hx rfl (fun j u hu => by
    rw [Go.WideShapes.add_plain, cell_of_row _ _ _ _ _ _ hg, Nat.zero_add, ← Array.getElem?_toList]
    exact hu) (fun u hu => by
    obtain rfl := List.mem_singleton.1 hu
    rfl) (by unfold maxLen; omega) (by omega) hB
  obtain ⟨v2, W2, r2, pl⟩ := run_placeI W o.type _ nu g u fu (fu nu) h.ru hg hn
  have r3 : (execOp a.eval o).run Try.prog W = .ok (.value v2) W2 := by
    unfold execOp
    simp only [ho, resolve, invoke, builtin, Sem.run_bind, Sem.run_pure, Result.andThen_ok, List.map_toArray, List.map_cons, List.map_nil, hs, hx, r2]
  have r4 := run.symm.trans r3
  injection r4 with e1 e2
  injection e1 with e1
  subst e1
  rw [← intsL_succ] at q1
  refine stepV hos hgd run (hK v' W' ⟨q1, ownW_grown h.rl q2 (fun k e q => h.ap k q e), fun k e q => ?_⟩ q2)
  rcases pl k e with e3 | e3
  · exact h.ap k e3 q
  · have := (h.rl.lt k q).2
    omega
theorem lf_lt {f : Nat → Nat} {n i j : Nat} (hi : i ≤ n) (hj : j < n - i) : lf f n i j < n := by
  rw [lf_ul]
  obtain ⟨k, hk, e⟩ := ul_sub (n := n) (d := rkD f n) (i := 0) (j := i) (Nat.zero_le _) hi (fun k hk => rkD_lt (by omega)) ⟨j, hj, rfl⟩
  rw [← e]
  exact hk
theorem lf_next (f : Nat → Nat) (n i j : Nat) : catI (rkD f n i) (fun j => (lf f n i j : Int)) (fun j_1 => (fun j => (lf f n i j : Int)) (rkD f n i + 1 + j_1)) j = (lf f n (i + 1) j : Int) := by
  show _ = ((rem (lf f n i) (rkD f n i) j : Nat) : Int)
  by_cases q : j < rkD f n i
  · rw [catI_lo q, rem_lo q]
  · unfold catI
    rw [if_neg q, rem_hi (by omega)]
    show ((lf f n i (rkD f n i + 1 + (j - rkD f n i)) : Nat) : Int) = _
    rw [show rkD f n i + 1 + (j - rkD f n i) = j + 1 by omega]
end Go.Proofs.Ytldhhfkplongiaa.Prm
