import Derived.Test.YtcgkelgncehekabZ9a
import Derived.Test.YtcgkelgncehekabY2
import Derived.Test.YtcgkelgncehekabX2
import Derived.Test.YtcgkelgncehekabE8t
import Derived.Lib.SmallJoins
import Derived.Test.YtcgkelgncehekabE8u
import Derived.Deep.Slices
import Derived.ChangeSame
import Derived.Test.YtcgkelgncehekabS8b
import Derived.Test.YtcgkelgncehekabE8z
namespace Go.Proofs.Ytcgkelgncehekab.Drw
open Go.ChangeShapes Go.WideShapes Go.ChangeAt Go.RowKit Gf8 Aes By8 Cel Cf Tap
/- A []int as an argument. -/

theorem bytesI : Try.prog.bytesOf 3 = 8 := by kernel_rfl
/-- A []int that reads is one. -/
theorem ints_read {H : Type} {enc : TypeId × Value → H} {W : World} {v : Value} {d : DataW H} {p : List MemPlace} (h : ∃ fuel, DataW.trod enc Try.prog W 0 (fun _ => true) true fuel 22 v.cells.toList = some (d, p))
    (hw : ∀ n ∈ d.weights Try.prog 22, n ≤ reachBytes) (hs : ∃ a l c, v = .slice a l c) : ∃ (len : Nat) (f : Nat → Int), SliceI W v len f ∧ len ≤ 17592186043904 := by
  obtain ⟨a0, len0, cap0, rfl⟩ := hs
  obtain ⟨fuel, hf⟩ := h
  have hr : reachBytes = 140737488351232 := rfl
  rcases open_ints Try.underlying22 Try.underlying3 (by kernel_rfl) hf with ⟨hcs, _⟩ | ⟨x, l, c, zs, hcs, _, hl, hm, hz, hx, hcell, hwz⟩
  · simp [Value.cells] at hcs
    obtain ⟨rfl, rfl, rfl⟩ := hcs
    exact ⟨0, fun _ => 0, slice_nilI, by omega⟩
  · simp [Value.cells] at hcs
    obtain ⟨rfl, rfl, rfl⟩ := hcs
    simp only [Prod.mk.injEq] at hx
    obtain ⟨rfl, rfl⟩ := hx
    have hzl : zs.length = cap0 := by simpa using hz
    have hb : 8 * cap0 ≤ 140737488351232 := by
      have := hw _ (by simp only [DataW.weights, Try.underlying22]; exact List.mem_cons_self)
      rw [bytesI] at this
      simp only [lits, List.length_map, List.length_take, List.length_drop] at this
      omega
    have key : ∀ j, j < len0 → -9223372036854775808 ≤ zs.getD j 0 ∧ zs.getD j 0 < 9223372036854775808 := fun j hj => wf_i64 (hwz _ (by rw [List.getD_eq_getElem?_getD, List.getElem?_eq_getElem (by omega)]; exact List.getElem_mem _))
    refine ⟨len0, fun j => zs.getD j 0, ⟨⟨_, _, rfl, hl, by unfold maxLen; omega, fun h => ?_⟩, fun j hj => key j hj⟩, by omega⟩
    obtain ⟨b, off, rfl, hc⟩ := ints_at hcell (by omega)
    exact ⟨b, off, rfl, World.block_lt_of_cell? W _ (hc 0 (by omega)), fun j hj => hc j (by omega)⟩
end Go.Proofs.Ytcgkelgncehekab.Drw

namespace Go.Proofs.Ytcgkelgncehekab.Loo
open Go.ChangeShapes Go.WideShapes Go.ChangeAt Go.RowKit Gf8 Aes By8 Cel Cf Drw Prm
/- A Pipe as an argument. -/

set_option maxRecDepth 100000

theorem ints_readJ {H : Type} {enc : TypeId × Value → H} {W : World} {v : Value} {y : DataW H × List MemPlace} {fuel : Nat} (hf : DataW.trod enc Try.prog W 0 (fun _ => true) true fuel 22 [v] = some y)
    (hw : ∀ n ∈ y.1.weights Try.prog 22, n ≤ reachBytes) : ∃ (len : Nat) (f : Nat → Int), SliceI W v len f ∧ len ≤ 17592186043904 := by
  have hs : ∃ a l c, v = .slice a l c := by
    rcases open_ints Try.underlying22 Try.underlying3 (by kernel_rfl) hf with ⟨hcs, _⟩ | ⟨x, l, c, zs, hcs, _⟩
    · exact ⟨_, _, _, by simpa using hcs⟩
    · exact ⟨_, _, _, by simpa using hcs⟩
  obtain ⟨a, l, c, rfl⟩ := hs
  exact ints_read (d := y.1) (p := y.2) ⟨fuel, hf⟩ hw ⟨_, _, _, rfl⟩
end Go.Proofs.Ytcgkelgncehekab.Loo

namespace Go.Proofs.Ytcgkelgncehekab.Loo
open Go.ChangeShapes Go.WideShapes Go.ChangeAt Go.RowKit Gf8 Aes By8 Cel Cf Win Drw Prm
/- A plan, and a []api.Plan, as an argument. -/

set_option maxRecDepth 100000

theorem opCells : Try.prog.cellsOf 38 = 3 := by kernel_rfl
theorem planCells : Try.prog.cellsOf 25 = 2 := by kernel_rfl
theorem cs19 : Try.prog.cellsOf 3 = 1 := by kernel_rfl
theorem trod_3 {H : Type} {enc : TypeId × Value → H} {P : Program} {w : World} {base : Nat} {spare : Nat → Bool} {held : Bool} {t : TypeId} {f0 f1 f2 : Field} {fuel : Nat} {cs : List Value} {x : DataW H × List MemPlace} (ht : P.underlying t = some (.struct #[f0, f1, f2])) (h : DataW.trod enc P w base spare held fuel t cs = some x) :
    ∃ y0 y1 y2 n, cs.length = P.cellsOf t ∧ DataW.trod enc P w base spare held n f0.type ((cs.drop f0.offset).take (P.cellsOf f0.type)) = some y0 ∧ DataW.trod enc P w base spare held n f1.type ((cs.drop f1.offset).take (P.cellsOf f1.type)) = some y1 ∧ DataW.trod enc P w base spare held n f2.type ((cs.drop f2.offset).take (P.cellsOf f2.type)) = some y2 := by
  obtain ⟨xs, n, _, rfl, hl, hlen, hf⟩ := DataW.trod_struct ht h
  match xs, hlen with
  | [y0, y1, y2], _ => exact ⟨y0, y1, y2, n, hl, by simpa using hf 0 f0 rfl, by simpa using hf 1 f1 rfl, by simpa using hf 2 f2 rfl⟩
theorem ops_read {H : Type} {enc : TypeId × Value → H} {W : World} {v : Value} {y : DataW H × List MemPlace} {fuel : Nat} (hf : DataW.trod enc Try.prog W 0 (fun _ => true) true fuel 36 [v] = some y) : ∃ n o, SliceO W v n o := by
  rcases Deep.open_slice Try.underlying36 hf with ⟨hcs, _⟩ | ⟨a, len, cap, m, fu, D, Pl, hcs, _, hl, hm, hmm, hx, hel⟩
  · obtain rfl : v = .slice none 0 0 := by simpa using hcs
    exact ⟨0, fun _ => ⟨0, 0, 0⟩, ⟨_, _, rfl, fun h => absurd h (Nat.lt_irrefl _)⟩, fun j hj => absurd hj (Nat.not_lt_zero j)⟩
  · obtain rfl : v = .slice (some a) len cap := by simpa using hcs
    simp only [if_true] at hmm
    have each : ∀ i, i < len → ∃ q : Op3, (W.cell? (a.add (i * 3)) = some (.int .i64 q.k) ∧ W.cell? (a.add (i * 3 + 1)) = some (.int .i64 q.a) ∧ W.cell? (a.add (i * 3 + 2)) = some (.int .i64 q.b)) ∧ I64 q.k ∧ I64 q.a ∧ I64 q.b := by
      intro i hi
      obtain ⟨cs', h1, h2⟩ := hel i (by omega)
      rw [opCells] at h1
      obtain ⟨_, hlen, hcell⟩ := World.cells?_some h1
      obtain ⟨y0, y1, y2, k, _, t0, t1, t2⟩ := trod_3 Try.underlying38 h2
      simp only [cs19] at t0 t1 t2
      obtain ⟨z0, e0, _, w0⟩ := DataW.trod_int Try.underlying3 t0
      obtain ⟨z1, e1, _, w1⟩ := DataW.trod_int Try.underlying3 t1
      obtain ⟨z2, e2, _, w2⟩ := DataW.trod_int Try.underlying3 t2
      match cs', hlen with
      | [v0, v1, v2], _ =>
        have c0 := hcell 0 (by omega)
        have c1 := hcell 1 (by omega)
        have c2 := hcell 2 (by omega)
        rw [Deep.add_add] at c0 c1 c2
        simp at e0 e1 e2 c0 c1 c2
        subst e0 e1 e2
        exact ⟨⟨z0, z1, z2⟩, ⟨c0, c1, c2⟩, wf_i64 w0, wf_i64 w1, wf_i64 w2⟩
    haveI : Inhabited Op3 := ⟨⟨0, 0, 0⟩⟩
    haveI : Inhabited Loo.Pl := ⟨⟨0, 0, fun _ => 0, fun _ => 0, fun _ _ => ⟨0, 0, 0⟩⟩⟩
    obtain ⟨q, hq⟩ := Deep.choose_lt each
    refine ⟨len, q, ⟨_, _, rfl, fun hp => ?_⟩, fun i hi => (hq i hi).2⟩
    obtain ⟨b, off, spot⟩ := a
    have hc0 := (hq 0 hp).1.1
    have hspot : spot = none := by simpa [Addr.add] using World.cell?_spot hc0
    subst hspot
    refine ⟨b, off, rfl, World.block_lt_of_cell? W _ hc0, fun i hi => ?_⟩
    have h1 := (hq i hi).1
    simp only [Go.WideShapes.add_plain, ← Nat.add_assoc] at h1
    exact h1
theorem plan_agg {W : World} {base : Nat} {v : Value} (h : Value.okWide Try.prog W .any base 25 v) : ∃ xs, v = .agg xs := by
  simp only [Value.okWide, Try.underlying25] at h
  obtain ⟨xs, e, _⟩ := h
  exact ⟨xs, e⟩
end Go.Proofs.Ytcgkelgncehekab.Loo

namespace Go.Proofs.Ytcgkelgncehekab.Loo
open Go.RowKit Gf8 Aes By8 Cel Cf Win Drw Prm
/- LoomKeeps: appends of operations and of ints to rows of one's own. -/

theorem nextcap0 {m : Nat} (h : 0 < m) : Builtin.nextslicecap m 0 = m := by
  unfold Builtin.nextslicecap
  rw [if_pos (by omega)]
/-- append of operations to an empty row of one's own. -/
theorem run_app0O (W : World) (ty : TypeId) (B g m : Nat) (q : Nat → Op3) (u : Value) (hg : W.heap[g]? = some (.cells #[] 38)) (hB : B ≤ g) (hu : SliceO W u m q) (hnil : ∀ l c, u = .slice none l c → c = 0) (hm : m ≤ 100000) :
    ∃ v' W', (Builtin.append_ #[36, 36] ty #[.slice (some ⟨g, 0, none⟩) 0 0, u]).run Try.prog W = .ok v' W' ∧ W'.ownsRow B 38 3 v' m (opL m q) ∧ Below W.heap.size W W' := by
  obtain ⟨i, i1, i2, i3, i4⟩ := infoOp
  have hu0 := hu
  obtain ⟨⟨ao, cap, rfl, hcu⟩, hfu⟩ := hu
  have lg := (Array.getElem?_eq_some_iff.1 hg).1
  have own0 : ∀ X : World, X.heap[g]? = some (.cells #[] 38) → X.ownsRow B 38 3 (.slice (some ⟨g, 0, none⟩) 0 0) 0 (opL 0 q) := fun X hX => ⟨rfl, Or.inr ⟨g, 0, #[], rfl, hB, hX, Nat.le_refl _, Nat.zero_le _, rfl, rfl⟩⟩
  cases ao with
  | none =>
    obtain rfl : m = 0 := by
      rcases Nat.eq_zero_or_pos m with e | e
      · exact e
      · obtain ⟨_, _, e', _⟩ := hcu e
        cases e'
    obtain rfl := hnil _ _ rfl
    refine ⟨.slice (some ⟨g, 0, none⟩) 0 0, W, ?_, own0 W hg, Below.refl _ _⟩
    simp [Builtin.append_, run_underlying Try.underlying36, sizeOf, typeInfo, i1, Builtin.lenOf, Builtin.firstCells, loadCells, storeCells, Addr.add_mid]
  | some ad =>
    have hnews : ∀ j z, (opL m q)[j]? = some z → W.cell? (ad.add j) = some z := fun j z hz => by
      have hj : j < m * 3 := by have := (List.getElem?_eq_some_iff.1 hz).1; rw [opL_len] at this; exact this
      obtain ⟨b, off, e, _, _⟩ := hcu (by omega)
      obtain rfl : ad = ⟨b, off, none⟩ := Option.some.inj e
      obtain ⟨c0, c1, c2⟩ := SliceO.at hu0 rfl (show j / 3 < m by omega)
      have hf : (opL m q)[j / 3 * 3 + j % 3]? = _ := flat3 (q := q) m (j / 3) (j % 3) (by omega) (by omega)
      rw [show j / 3 * 3 + j % 3 = j by omega, hz] at hf
      rw [Go.WideShapes.add_plain]
      have h3 : j % 3 < 3 := Nat.mod_lt _ (by omega)
      have ej : off + j = off + j / 3 * 3 + j % 3 := by omega
      rw [ej]
      generalize j % 3 = k at hf h3
      match k, h3, hf with
      | 0, _, hf => rw [Nat.add_zero, c0]; exact hf.symm
      | 1, _, hf => rw [c1]; exact hf.symm
      | 2, _, hf => rw [c2]; exact hf.symm
      | k + 3, h, _ => omega
    by_cases hm0 : m = 0
    · subst hm0
      have hr := run_append_room (P := Try.prog) W 36 ty 38 i Try.underlying36 i1 g 0 0 #[] hg ad 0 cap (opL 0 q) (by rw [opL_len, i3]) hnews opL_one (by omega) (by rw [opL_len, i3]; exact Nat.zero_le _)
      have e1 : (((#[] : Array Value).toList.take (0 * i.size) ++ opL 0 q ++ (#[] : Array Value).toList.drop (0 * i.size + (opL 0 q).length)).toArray) = #[] := by
        rw [show opL 0 q = [] from rfl]
        simp
      rw [e1] at hr
      have hgs := setRow_heap W g #[] #[] 38 (0, 0) hg
      have hb : Below W.heap.size W (W.setRow g #[]) := by
        have hb0 : Below g W (W.setRow g #[]) := below4 (Below.refl _ _) (Nat.le_refl _) _
        refine ⟨hb0.os, hb0.tape, hb0.output, hb0.size, fun b _ => ?_⟩
        by_cases w : b = g
        · rw [w, setRow_heap _ _ _ _ _ _ hg, hg]
        · rw [setRow_other _ _ _ _ w]
      exact ⟨_, _, hr, own0 _ hgs, hb⟩
    · have hr := run_append_grow (P := Try.prog) W 36 ty 38 i (.agg (oC 0 0 0)) Try.underlying36 i1 i2 ⟨g, 0, none⟩ 0 0 (opL 0 q) (by rw [opL_len, i3]) (fun j z hz => by cases hz) ad m cap (opL m q) (by rw [opL_len, i3]) hnews (by omega) (by omega) (by rw [i4, Nat.zero_add, nextcap0 (by omega)]; omega)
      have hge := grownCap_ge W (0 + m) 0 38
      have hge2 := grownCap_ge W m 0 38
      refine ⟨_, _, hr, ⟨opL_len _ _, Or.inr ⟨W.heap.size, _, _, by rw [Nat.zero_add], by omega, heapNew W.drew _, by omega, grownCap_le_maxLen W (0 + m) 0 38 (by unfold maxLen; omega), ?_, ?_⟩⟩, ((Below.refl W.heap.size W).drew).alloc (Nat.le_refl _) _⟩
      · simp [opL_len, Builtin.zeroCells, Value.cells, oC]
        omega
      · rw [show opL 0 q = [] from rfl]
        simp [opL_len]
section
variable {ops : Array Oper} {Q : Exit → Act → World → Prop} {K : Act → World → Prop} {j : Nat} {o : Oper} {a : Act} {W : World} {s x : Operand} {B g m n : Nat} {u v : Value} {f h : Nat → Int} {q : Nat → Op3}
theorem stepApp0O (hos : ops[j]? = some o) (hgd : Region.wanted o (yielded ops a.tmps) = true)
    (ho : o.op = .call { callee := .builtin .append, args := #[s, x], argTypes := #[36, 36] }) (hs : a.eval s = .slice (some ⟨g, 0, none⟩) 0 0) (hx : a.eval x = u) (hg : W.heap[g]? = some (.cells #[] 38)) (hB : B ≤ g) (hu : SliceO W u m q) (hnil : ∀ l c, u = .slice none l c → c = 0) (hm : m ≤ 100000)
    (hK : ∀ v' W', W'.ownsRow B 38 3 v' m (opL m q) → Below W.heap.size W W' → K (a.put o.dst v') W') : wpOp Try.prog ops Q j K a W := by
  obtain ⟨v', W', hr, q1, q2⟩ := run_app0O W o.type B g m q u hg hB hu hnil hm
  refine stepV hos hgd (v := v') (w' := W') ?_ (hK v' W' q1 q2)
  unfold execOp
  simp only [ho, resolve, invoke, builtin, Sem.run_bind, Sem.run_pure, Result.andThen_ok, List.map_toArray, List.map_cons, List.map_nil, hs, hx, hr]
/-- append of ints that are there to a row of one's own. -/
theorem stepApp2 (hos : ops[j]? = some o) (hgd : Region.wanted o (yielded ops a.tmps) = true)
    (ho : o.op = .call { callee := .builtin .append, args := #[s, x], argTypes := #[22, 22] }) (hs : a.eval s = v) (hx : a.eval x = u) (hown : W.ownsRow B 3 1 v n (intsL n f)) (hu : SliceI W u m h) (hsome : ∃ ad c', u = .slice (some ad) m c') (hm : 0 < m) (hn : n + m ≤ 17592186044416) (hB : B ≤ W.heap.size)
    (hK : ∀ v' W', W'.ownsRow B 3 1 v' (n + m) (intsL (n + m) (catI n f h)) → W.grownBy W' v.ownBlock → K (a.put o.dst v') W') : wpOp Try.prog ops Q j K a W := by
  obtain ⟨v', W', hr, q1, q3⟩ := Brd.run_app2L W o.type B n m v u f h hown hu hsome hm hn hB
  refine stepV hos hgd (v := v') (w' := W') ?_ (hK v' W' q1 ?_)
  · unfold execOp
    simp only [ho, resolve, invoke, builtin, Sem.run_bind, Sem.run_pure, Result.andThen_ok, List.map_toArray, List.map_cons, List.map_nil, hs, hx, hr]
  · rcases q3 with ⟨b, c, e1, _, gr⟩ | ⟨hb, _⟩
    · rw [e1]
      exact gr
    · exact ⟨hb.os, hb.tape, hb.output, hb.size, fun j hj _ => hb.block j hj⟩
theorem execBs0O {w : World} (ho : o.op = .buildSlice 36 0 #[]) : (execOp a.eval o).run Try.prog w = .ok (.value (.slice (some ⟨w.heap.size, 0, none⟩) 0 0)) (w.alloc (.cells #[] 38)) := by
  unfold execOp
  simp only [ho, List.map_toArray, List.map_nil]
  simp [go_sem]
end
end Go.Proofs.Ytcgkelgncehekab.Loo

namespace Go.Proofs.Ytcgkelgncehekab.Loo
open Go.ChangeShapes Go.WideShapes Go.ChangeAt Go.RowKit Gf8 Aes By8 Cel Cf Win Drw Prm
/- A plan as an argument; nil has no room. -/

set_option maxRecDepth 100000

def Nz (v : Value) : Prop := ∀ l c, v = .slice none l c → c = 0
theorem nz_none : Nz (.slice none 0 0) := fun l c e => by injection e with _ _ e; exact e.symm
theorem nz_some {a : Addr} {l c : Nat} : Nz (.slice (some a) l c) := fun l c e => by cases e
/-- A plan in memory, nil without room. -/
def PlZ (W : World) (v : Value) (p : Pl) : Prop := ∃ cv tv x, v = .agg #[cv, tv] ∧ SliceI W cv p.d p.cap ∧ SliceV W tv p.n x ∧ (∀ t, t < p.n → SliceO W (x t) (p.ln t) (p.op t)) ∧ Nz cv ∧ ∀ t, t < p.n → Nz (x t)
theorem ops_nz {H : Type} {enc : TypeId × Value → H} {W : World} {v : Value} {y : DataW H × List MemPlace} {fuel : Nat} (hf : DataW.trod enc Try.prog W 0 (fun _ => true) true fuel 36 [v] = some y) : Nz v := by
  rcases Deep.open_slice Try.underlying36 hf with ⟨hcs, _⟩ | ⟨a, len, cap, m, fu, D, Pl, hcs, _, hl, hm, hmm, hx, hel⟩
  · obtain rfl : v = .slice none 0 0 := by simpa using hcs
    exact nz_none
  · obtain rfl : v = .slice (some a) len cap := by simpa using hcs
    exact nz_some
theorem ints_nz {H : Type} {enc : TypeId × Value → H} {W : World} {v : Value} {y : DataW H × List MemPlace} {fuel : Nat} (hf : DataW.trod enc Try.prog W 0 (fun _ => true) true fuel 22 [v] = some y) : Nz v := by
  rcases Deep.open_slice Try.underlying22 hf with ⟨hcs, _⟩ | ⟨a, len, cap, m, fu, D, Pl, hcs, _, hl, hm, hmm, hx, hel⟩
  · obtain rfl : v = .slice none 0 0 := by simpa using hcs
    exact nz_none
  · obtain rfl : v = .slice (some a) len cap := by simpa using hcs
    exact nz_some
theorem tasks_readZ {H : Type} {enc : TypeId × Value → H} {W : World} {v : Value} {y : DataW H × List MemPlace} {fuel : Nat} (hf : DataW.trod enc Try.prog W 0 (fun _ => true) true fuel 23 [v] = some y) : ∃ (n : Nat) (x : Nat → Value) (ln : Nat → Nat) (op : Nat → Nat → Op3), SliceV W v n x ∧ (∀ t, t < n → SliceO W (x t) (ln t) (op t)) ∧ ∀ t, t < n → Nz (x t) := by
  rcases Deep.open_slice1 Try.underlying23 (by kernel_rfl) hf with ⟨hcs, _⟩ | ⟨a, len, cap, m, fu, U, D, Pl, hcs, _, hl, hm, hmm, hx, hel⟩
  · obtain rfl : v = .slice none 0 0 := by simpa using hcs
    exact ⟨0, fun _ => .slice none 0 0, fun _ => 0, fun _ _ => ⟨0, 0, 0⟩, ⟨_, _, rfl, fun h => absurd h (Nat.lt_irrefl _)⟩, fun j hj => absurd hj (Nat.not_lt_zero j), fun j hj => absurd hj (Nat.not_lt_zero j)⟩
  · obtain rfl : v = .slice (some a) len cap := by simpa using hcs
    simp only [if_true] at hmm
    have each : ∀ i, i < len → ∃ q : Nat × (Nat → Op3), SliceO W (U i) q.1 q.2 ∧ Nz (U i) := fun i hi => by
      obtain ⟨n, o, h⟩ := ops_read (hel i (by omega)).2
      exact ⟨(n, o), h, ops_nz (hel i (by omega)).2⟩
    haveI : Inhabited Op3 := ⟨⟨0, 0, 0⟩⟩
    haveI : Inhabited Loo.Pl := ⟨⟨0, 0, fun _ => 0, fun _ => 0, fun _ _ => ⟨0, 0, 0⟩⟩⟩
    obtain ⟨q, hq⟩ := Deep.choose_lt each
    refine ⟨len, U, fun i => (q i).1, fun i => (q i).2, ⟨_, _, rfl, fun hp => ?_⟩, fun i hi => (hq i hi).1, fun i hi => (hq i hi).2⟩
    obtain ⟨b, off, spot⟩ := a
    have hc0 := (hel 0 (by omega)).1
    have hspot : spot = none := by simpa [Addr.add] using World.cell?_spot hc0
    subst hspot
    refine ⟨b, off, rfl, World.block_lt_of_cell? W _ hc0, fun i hi => ?_⟩
    have h1 := (hel i (by omega)).1
    rw [Go.WideShapes.add_plain] at h1
    exact h1
/-- A plan that reads is one. -/
theorem plan_readZ {H : Type} {enc : TypeId × Value → H} {W : World} {v : Value} {d : DataW H} {p : List MemPlace} (h : ∃ fuel, DataW.trod enc Try.prog W 0 (fun _ => true) true fuel 25 v.cells.toList = some (d, p))
    (hw : ∀ n ∈ d.weights Try.prog 25, n ≤ reachBytes) (hs : ∃ xs, v = .agg xs) : ∃ q, PlZ W v q := by
  obtain ⟨xs, rfl⟩ := hs
  obtain ⟨fuel, hf⟩ := h
  obtain ⟨y0, y1, k, hy, hl, t0, t1⟩ := trod_struct2 Try.underlying25 hf
  rw [planCells] at hl
  obtain ⟨l⟩ := xs
  have hl2 : l.length = 2 := hl
  have k1 : Try.prog.cellsOf 22 = 1 := by kernel_rfl
  have k2 : Try.prog.cellsOf 23 = 1 := by kernel_rfl
  match l, hl2, t0, t1 with
  | [cv, tv], _, t0, t1 =>
    simp [Value.cells, k1, k2] at t0 t1
    have h0 : ∀ n ∈ y0.1.weights Try.prog 22, n ≤ reachBytes := fun n hn => hw n (by
      have hy' : d = _ := congrArg Prod.fst hy
      rw [hy']
      simp only [DataW.weights, Try.underlying25]
      simp [DataW.weightsEach, hn])
    obtain ⟨l0, f0, s0, _⟩ := ints_readJ t0 h0
    obtain ⟨n, x, ln, op, s1, s2, s3⟩ := tasks_readZ t1
    exact ⟨⟨l0, n, f0, ln, op⟩, cv, tv, x, rfl, s0, s1, s2, ints_nz t0, s3⟩
end Go.Proofs.Ytcgkelgncehekab.Loo
