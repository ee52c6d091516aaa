import Derived.Test.YtcgkelgncehekaaE8q
import Derived.Test.YtcgkelgncehekaaE8u
import Derived.Test.YtcgkelgncehekaaX2
import Derived.Deep.Slices
import Derived.ChangeSame
import Derived.Test.YtcgkelgncehekaaE8k
namespace Go.Proofs.Ytcgkelgncehekaa.Loo
open Go.ChangeShapes Go.WideShapes Go.ChangeAt Go.RowKit Gf8 Aes By8 Cel Cf Win Drw Prm
/- A plan, and a []api.Plan, as an argument. -/

set_option maxRecDepth 100000

theorem opCells : Try.prog.cellsOf 35 = 3 := by kernel_rfl
theorem planCells : Try.prog.cellsOf 32 = 2 := by kernel_rfl
theorem cs19 : Try.prog.cellsOf 3 = 1 := by kernel_rfl
theorem trod_3 {H : Type} {enc : TypeId × Value → H} {P : Program} {w : World} {base : Nat} {spare : Nat → Bool} {held : Bool} {t : TypeId} {f0 f1 f2 : Field} {fuel : Nat} {cs : List Value} {x : DataW H × List MemPlace} (ht : P.underlying t = some (.struct #[f0, f1, f2])) (h : DataW.trod enc P w base spare held fuel t cs = some x) :
    ∃ y0 y1 y2 n, cs.length = P.cellsOf t ∧ DataW.trod enc P w base spare held n f0.type ((cs.drop f0.offset).take (P.cellsOf f0.type)) = some y0 ∧ DataW.trod enc P w base spare held n f1.type ((cs.drop f1.offset).take (P.cellsOf f1.type)) = some y1 ∧ DataW.trod enc P w base spare held n f2.type ((cs.drop f2.offset).take (P.cellsOf f2.type)) = some y2 := by
  obtain ⟨xs, n, _, rfl, hl, hlen, hf⟩ := DataW.trod_struct ht h
  match xs, hlen with
  | [y0, y1, y2], _ => exact ⟨y0, y1, y2, n, hl, by simpa using hf 0 f0 rfl, by simpa using hf 1 f1 rfl, by simpa using hf 2 f2 rfl⟩
theorem weightsAll_in {H : Type} {P : Program} {e : TypeId} : ∀ {ds : List (DataW H)} {d : DataW H}, d ∈ ds → ∀ n ∈ d.weights P e, n ∈ DataW.weightsAll P e ds
  | d0 :: ds, d, hd, n, hn => by
    simp only [DataW.weightsAll, List.mem_append]
    rcases List.mem_cons.1 hd with rfl | h
    · exact Or.inl hn
    · exact Or.inr (weightsAll_in h n hn)
  | [], _, hd, _, _ => by cases hd
theorem ops_read {H : Type} {enc : TypeId × Value → H} {W : World} {v : Value} {y : DataW H × List MemPlace} {fuel : Nat} (hf : DataW.trod enc Try.prog W 0 (fun _ => true) true fuel 36 [v] = some y) : ∃ n o, SliceO W v n o := by
  rcases Deep.open_slice Try.underlying36 hf with ⟨hcs, _⟩ | ⟨a, len, cap, m, fu, D, Pl, hcs, _, hl, hm, hmm, hx, hel⟩
  · obtain rfl : v = .slice none 0 0 := by simpa using hcs
    exact ⟨0, fun _ => ⟨0, 0, 0⟩, ⟨_, _, rfl, fun h => absurd h (Nat.lt_irrefl _)⟩, fun j hj => absurd hj (Nat.not_lt_zero j)⟩
  · obtain rfl : v = .slice (some a) len cap := by simpa using hcs
    simp only [if_true] at hmm
    have each : ∀ i, i < len → ∃ q : Op3, (W.cell? (a.add (i * 3)) = some (.int .i64 q.k) ∧ W.cell? (a.add (i * 3 + 1)) = some (.int .i64 q.a) ∧ W.cell? (a.add (i * 3 + 2)) = some (.int .i64 q.b)) ∧ I64 q.k ∧ I64 q.a ∧ I64 q.b := by
      intro i hi
      obtain ⟨cs', h1, h2⟩ := hel i (by omega)
      rw [opCells] at h1
      obtain ⟨_, hlen, hcell⟩ := World.cells?_some h1
      obtain ⟨y0, y1, y2, k, _, t0, t1, t2⟩ := trod_3 Try.underlying35 h2
      simp only [cs19] at t0 t1 t2
      obtain ⟨z0, e0, _, w0⟩ := DataW.trod_int Try.underlying3 t0
      obtain ⟨z1, e1, _, w1⟩ := DataW.trod_int Try.underlying3 t1
      obtain ⟨z2, e2, _, w2⟩ := DataW.trod_int Try.underlying3 t2
      match cs', hlen with
      | [v0, v1, v2], _ =>
        have c0 := hcell 0 (by omega)
        have c1 := hcell 1 (by omega)
        have c2 := hcell 2 (by omega)
        rw [Deep.add_add] at c0 c1 c2
        simp at e0 e1 e2 c0 c1 c2
        subst e0 e1 e2
        exact ⟨⟨z0, z1, z2⟩, ⟨c0, c1, c2⟩, wf_i64 w0, wf_i64 w1, wf_i64 w2⟩
    haveI : Inhabited Op3 := ⟨⟨0, 0, 0⟩⟩
    haveI : Inhabited Loo.Pl := ⟨⟨0, 0, fun _ => 0, fun _ => 0, fun _ _ => ⟨0, 0, 0⟩⟩⟩
    obtain ⟨q, hq⟩ := Deep.choose_lt each
    refine ⟨len, q, ⟨_, _, rfl, fun hp => ?_⟩, fun i hi => (hq i hi).2⟩
    obtain ⟨b, off, spot⟩ := a
    have hc0 := (hq 0 hp).1.1
    have hspot : spot = none := by simpa [Addr.add] using World.cell?_spot hc0
    subst hspot
    refine ⟨b, off, rfl, World.block_lt_of_cell? W _ hc0, fun i hi => ?_⟩
    have h1 := (hq i hi).1
    simp only [Go.WideShapes.add_plain, ← Nat.add_assoc] at h1
    exact h1
theorem tasks_read {H : Type} {enc : TypeId × Value → H} {W : World} {v : Value} {y : DataW H × List MemPlace} {fuel : Nat} (hf : DataW.trod enc Try.prog W 0 (fun _ => true) true fuel 30 [v] = some y) : ∃ (n : Nat) (x : Nat → Value) (ln : Nat → Nat) (op : Nat → Nat → Op3), SliceV W v n x ∧ ∀ t, t < n → SliceO W (x t) (ln t) (op t) := by
  rcases Deep.open_slice1 Try.underlying30 (by kernel_rfl) hf with ⟨hcs, _⟩ | ⟨a, len, cap, m, fu, U, D, Pl, hcs, _, hl, hm, hmm, hx, hel⟩
  · obtain rfl : v = .slice none 0 0 := by simpa using hcs
    exact ⟨0, fun _ => .slice none 0 0, fun _ => 0, fun _ _ => ⟨0, 0, 0⟩, ⟨_, _, rfl, fun h => absurd h (Nat.lt_irrefl _)⟩, fun j hj => absurd hj (Nat.not_lt_zero j)⟩
  · obtain rfl : v = .slice (some a) len cap := by simpa using hcs
    simp only [if_true] at hmm
    have each : ∀ i, i < len → ∃ q : Nat × (Nat → Op3), SliceO W (U i) q.1 q.2 := fun i hi => by
      obtain ⟨n, o, h⟩ := ops_read (hel i (by omega)).2
      exact ⟨(n, o), h⟩
    haveI : Inhabited Op3 := ⟨⟨0, 0, 0⟩⟩
    haveI : Inhabited Loo.Pl := ⟨⟨0, 0, fun _ => 0, fun _ => 0, fun _ _ => ⟨0, 0, 0⟩⟩⟩
    obtain ⟨q, hq⟩ := Deep.choose_lt each
    refine ⟨len, U, fun i => (q i).1, fun i => (q i).2, ⟨_, _, rfl, fun hp => ?_⟩, hq⟩
    obtain ⟨b, off, spot⟩ := a
    have hc0 := (hel 0 (by omega)).1
    have hspot : spot = none := by simpa [Addr.add] using World.cell?_spot hc0
    subst hspot
    refine ⟨b, off, rfl, World.block_lt_of_cell? W _ hc0, fun i hi => ?_⟩
    have h1 := (hel i (by omega)).1
    rw [Go.WideShapes.add_plain] at h1
    exact h1
theorem plan_readJ {H : Type} {enc : TypeId × Value → H} {W : World} {cs : List Value} {y : DataW H × List MemPlace} {fuel : Nat} (hf : DataW.trod enc Try.prog W 0 (fun _ => true) true fuel 32 cs = some y)
    (hw : ∀ n ∈ y.1.weights Try.prog 32, n ≤ reachBytes) : ∃ cv tv p, cs = [cv, tv] ∧ PlA W (.agg #[cv, tv]) p := by
  obtain ⟨y0, y1, k, hy, hl, t0, t1⟩ := trod_struct2 Try.underlying32 hf
  rw [planCells] at hl
  match cs, hl with
  | [cv, tv], _ =>
    have k1 : Try.prog.cellsOf 23 = 1 := by kernel_rfl
    have k2 : Try.prog.cellsOf 30 = 1 := by kernel_rfl
    simp [k1, k2] at t0 t1
    have h0 : ∀ n ∈ y0.1.weights Try.prog 23, n ≤ reachBytes := fun n hn => hw n (by
      rw [hy]
      simp only [DataW.weights, Try.underlying32]
      simp [DataW.weightsEach, hn])
    obtain ⟨l0, f0, s0, _⟩ := ints_readJ t0 h0
    obtain ⟨n, x, ln, op, s1, s2⟩ := tasks_read t1
    exact ⟨cv, tv, ⟨l0, n, f0, ln, op⟩, rfl, cv, tv, x, rfl, s0, s1, s2⟩
/-- A []api.Plan. -/
structure PlL (W : World) (v : Value) (n : Nat) (cv tv : Nat → Value) (p : Nat → Pl) : Prop where
  shape : ∃ a cap, v = .slice a n cap ∧ (0 < n → ∃ b off, a = some ⟨b, off, none⟩ ∧ b < W.heap.size ∧ ∀ i, i < n → W.cell? ⟨b, off + i * 2, none⟩ = some (cv i) ∧ W.cell? ⟨b, off + i * 2 + 1, none⟩ = some (tv i))
  plans : ∀ i, i < n → PlA W (.agg #[cv i, tv i]) (p i)
  size : n ≤ 17592186044416
theorem planBytes : Try.prog.bytesOf 32 = 48 := by kernel_rfl
theorem plans_read {H : Type} {enc : TypeId × Value → H} {W : World} {v : Value} {d : DataW H} {p : List MemPlace} (h : ∃ fuel, DataW.trod enc Try.prog W 0 (fun _ => true) true fuel 39 v.cells.toList = some (d, p))
    (hw : ∀ n ∈ d.weights Try.prog 39, n ≤ reachBytes) (hsl : ∃ a l c, v = .slice a l c) : ∃ n cv tv q, PlL W v n cv tv q := by
  obtain ⟨a0, len0, cap0, rfl⟩ := hsl
  obtain ⟨fuel, hf⟩ := h
  have hr : reachBytes = 140737488351232 := rfl
  rcases Deep.open_slice Try.underlying39 hf with ⟨hcs, _⟩ | ⟨a, len, cap, m, fu, D, Pl, hcs, _, hl, hm, hmm, hx, hel⟩
  · simp [Value.cells] at hcs
    obtain ⟨rfl, rfl, rfl⟩ := hcs
    exact ⟨0, fun _ => .slice none 0 0, fun _ => .slice none 0 0, fun _ => ⟨0, 0, fun _ => 0, fun _ => 0, fun _ _ => ⟨0, 0, 0⟩⟩, ⟨_, _, rfl, fun h => absurd h (Nat.lt_irrefl _)⟩, fun i hi => absurd hi (Nat.not_lt_zero i), by omega⟩
  · simp [Value.cells] at hcs
    obtain ⟨rfl, rfl, rfl⟩ := hcs
    simp only [Prod.mk.injEq] at hx
    obtain ⟨rfl, rfl⟩ := hx
    simp only [if_true] at hmm
    have hn : (len0 + (m - len0)) * 48 ≤ reachBytes := by
      refine hw _ ?_
      simp only [DataW.weights, Try.underlying39, planBytes]
      exact List.mem_cons.2 (Or.inl (by simp))
    have each : ∀ i, i < len0 → ∃ q : Value × Value × Loo.Pl, (W.cell? (a.add (i * 2)) = some q.1 ∧ W.cell? (a.add (i * 2 + 1)) = some q.2.1) ∧ PlA W (.agg #[q.1, q.2.1]) q.2.2 := by
      intro i hi
      obtain ⟨cs', h1, h2⟩ := hel i (by omega)
      rw [planCells] at h1
      obtain ⟨_, hlen, hcell⟩ := World.cells?_some h1
      obtain ⟨cv, tv, q, rfl, hp⟩ := plan_readJ h2 (fun n hn => hw n (by
        simp only [DataW.weights, Try.underlying39]
        exact List.mem_cons_of_mem _ (List.mem_append_left _ (weightsAll_in (d := D i) (List.mem_map.2 ⟨i, List.mem_range.2 hi, rfl⟩) n hn))))
      have c0 := hcell 0 (by omega)
      have c1 := hcell 1 (by omega)
      rw [Deep.add_add] at c0 c1
      exact ⟨(cv, tv, q), ⟨c0, c1⟩, hp⟩
    haveI : Inhabited Op3 := ⟨⟨0, 0, 0⟩⟩
    haveI : Inhabited Loo.Pl := ⟨⟨0, 0, fun _ => 0, fun _ => 0, fun _ _ => ⟨0, 0, 0⟩⟩⟩
    obtain ⟨q, hq⟩ := Deep.choose_lt each
    refine ⟨len0, fun i => (q i).1, fun i => (q i).2.1, fun i => (q i).2.2, ⟨_, _, rfl, fun hp => ?_⟩, fun i hi => (hq i hi).2, by omega⟩
    obtain ⟨b, off, spot⟩ := a
    have hc0 := (hq 0 hp).1.1
    have hspot : spot = none := by simpa [Addr.add] using World.cell?_spot hc0
    subst hspot
    refine ⟨b, off, rfl, World.block_lt_of_cell? W _ hc0, fun i hi => ?_⟩
    have h1 := (hq i hi).1
    simp only [Go.WideShapes.add_plain, ← Nat.add_assoc] at h1
    exact h1
end Go.Proofs.Ytcgkelgncehekaa.Loo

namespace Go.Proofs.Ytcgkelgncehekaa.Loo
open Go.RowKit Gf8 Aes By8 Cel Cf Win Drw Prm
/- LoomChecks. Written by tools/mkE8w.py. -/

section
variable {o : Oper} {a : Act} {w : World}
theorem execLnPl {x : Operand} {v : Value} {len : Nat} (ho : o.op = .call { callee := .builtin .len, args := #[x], argTypes := #[39] }) (hx : a.eval x = v) (hv : ∃ ao c, v = .slice ao len c) : (execOp a.eval o).run Try.prog w = .ok (.value (.int .i64 ((len : Nat) : Int))) w := by
  obtain ⟨ao, c, rfl⟩ := hv
  unfold execOp
  simp only [ho, resolve, invoke, builtin, Sem.run_bind, Sem.run_pure, Result.andThen_ok, List.map_toArray, List.map_cons, List.map_nil, hx]
  simp [go_sem]
theorem execIxPl {x i : Operand} {g off n cap k : Nat} (ho : o.op = .indexAddr 39 x i) (hx : a.eval x = .slice (some ⟨g, off, none⟩) n cap) (hi : a.eval i = .int .i64 (k : Int)) (hk : k < n) : (execOp a.eval o).run Try.prog w = .ok (.value (.pointer (some ⟨g, off + k * 2, none⟩))) w := by
  have h1 : (k : Int) < n := by omega
  unfold execOp
  simp only [ho, hx, hi]
  simp [go_sem, h1]
theorem execLdPl {x : Operand} {g f : Nat} {u v : Value} (ho : o.op = .load 32 x) (hx : a.eval x = .pointer (some ⟨g, f, none⟩)) (h : w.cell? ⟨g, f, none⟩ = some u ∧ w.cell? ⟨g, f + 1, none⟩ = some v) : (execOp a.eval o).run Try.prog w = .ok (.value (.agg #[u, v])) w := by
  have h := execLoadMid (P := Try.prog) (cs := [u, v]) ho hx (fun j z hz => by
    match j, hz with
    | 0, hz => exact h.1.trans hz
    | 1, hz => exact h.2.trans hz
    | j + 2, hz => cases hz) Try.underlying32 rfl (by show _ = some 2; kernel_rfl)
  exact h
end
section
variable {W X : World} {v : Value} {n : Nat} {cv tv : Nat → Value} {p : Nat → Pl}
theorem PlL.shp (h : PlL W v n cv tv p) : ∃ a c, v = .slice a n c := by
  obtain ⟨a, c, e, _⟩ := h.shape
  exact ⟨a, c, e⟩
theorem PlL.open (h : PlL W v n cv tv p) (h0 : 0 < n) : ∃ b off c, v = .slice (some ⟨b, off, none⟩) n c ∧ ∀ X, Below W.heap.size W X → ∀ i, i < n → X.cell? ⟨b, off + i * 2, none⟩ = some (cv i) ∧ X.cell? ⟨b, off + i * 2 + 1, none⟩ = some (tv i) := by
  obtain ⟨a, cap, e1, h1⟩ := h.shape
  obtain ⟨b, off, e2, e3, e4⟩ := h1 h0
  exact ⟨b, off, cap, by rw [e1, e2], fun X hX i hi => by rw [cell_below hX e3, cell_below hX e3]; exact e4 i hi⟩
end
set_option maxRecDepth 100000 in
set_option maxHeartbeats 4000000 in
/-- LoomChecks. -/
theorem checks19 (I : LImpl) (v : Value) (n : Nat) (cv tv : Nat → Value) (p : Nat → Pl) (V : World) (hp : PlL V v n cv tv p) :
    Calls Try.prog 4 #[v] V fun e w' => e = .returned (.bool true) ∧ Below V.heap.size V w' := by
  have hsz := hp.size
  go_enter Try.func4, Try.ntmps4
  refine wo_ 23 [(0, v)] ?_
  rintro a A ⟨t0, -⟩
  have BW : Below V.heap.size V V := Below.refl _ _
  have BB : Below V.heap.size V V := Below.refl _ _
  refine wp_seq ?_
  refine wi_ A (h1_ t0) (rf_ [] (h1_ t0) ?_)
  rintro a A - ⟨t0, -⟩
  refine wp_seq ?_
  refine wp_seq ?_
  refine wi_ A (h1_ t0) (rc_ 0 (alive19 I V) (cb_ fun X1 bQ => ?_))
  replace BB := BB.trans (bQ.mono BB.size)
  clear bQ
  refine rv_ 1 (.bool false) (fun a ee => execNot8 (b := true) rfl (ee _)) (rf_ [(5, .bool false)] (h1_ t0) ?_)
  rintro a A ⟨t5, -⟩ ⟨t0, -⟩
  refine wp_cond_false t5 ?_
  refine wp_skip ?_
  clear t5
  refine wp_seq ?_
  refine wp_seq ?_
  refine wi_ A (h1_ t0) (rf_ [(3, .int .i64 ((0 : Nat) : Int))] (h1_ t0) ?_)
  rintro a A ⟨t3, -⟩ ⟨t0, -⟩
  refine wp_block ?_
  refine wp_loop (fun a W => ∃ (i : Nat), i ≤ n ∧ (a.tmps.size = 23 ∧ a.defers = []) ∧ a.eval (.tmp 0) = v ∧ a.eval (.tmp 3) = .int .i64 ((i : Nat) : Int) ∧ Below V.heap.size V W) (fun a _ => n - (intOf (a.eval (.tmp 3))).toNat) ⟨0, Nat.zero_le _, A, t0, t3, BB⟩ ?_
  clear A t0 t3 BB a
  rintro a XL4 ⟨i, hi, A, t0, t3, BB⟩
  have esi := t3
  refine wp_seq ?_
  refine wp_seq ?_
  refine wi_ A (h2_ t0 t3) (rv_ 2 (.int .i64 ((n : Nat) : Int)) (fun a ee => execLnPl (len := n) rfl (ee _) hp.shp) (rv_ 3 (.bool (decide (i < n))) (fun a ee => execLtW (p := i) (q := n) rfl (ee _) (ee _)) (rf_ [(9, .bool (decide (i < n)))] (h2_ t0 t3) ?_)))
  rintro a A ⟨t9, -⟩ ⟨t0, t3, -⟩
  by_cases lti : i < n
  · rw [decide_eq_true lti] at t9
    refine wp_cond_true t9 ?_
    refine wp_skip ?_
    clear t9
    refine wp_seq ?_
    refine wp_block ?_
    obtain ⟨pb, po, pc, ep, hcl⟩ := hp.open (by omega)
    refine wp_seq ?_
    refine wj_ [0, 1, 2, 3, 5, 6, 7, 8, 4, 9, 10] [4, 9] [3, 8] [] A (h2_ t0 t3) (fun X6_0 bD => ?_)
    refine dw_ 2 (.pointer (some ⟨pb, po + i * 2, none⟩)) (fun a X ee => execIxPl (k := i) rfl ((ee _).trans ep) (ee _) lti) (dv_ 3 (.agg #[cv i, tv i]) (fun a X ee hb => execLdPl rfl (ee _) (hcl X (BB.trans (hb.mono BB.size)) i lti)) (dw_ 7 (.pointer (some ⟨pb, po + i * 2, none⟩)) (fun a X ee => execIxPl (k := i) rfl ((ee _).trans ep) (ee _) lti) (dv_ 8 (.agg #[cv i, tv i]) (fun a X ee hb => execLdPl rfl (ee _) (hcl X (BB.trans (hb.mono BB.size)) i lti)) (dc_ 4 (I.check (p i) _ X6_0 ((hp.plans i lti).on (BB.trans (bD.mono BB.size)))) (cb_ fun X6_1 bQ => ?_)))))
    replace bD := bD.trans (bQ.mono bD.size)
    clear bQ
    refine ⟨Or.inr bD, ?_⟩
    refine dc_ 9 (rcheck19 (p i) _ X6_1 ((hp.plans i lti).on (BB.trans (bD.mono BB.size)))) (cb_ fun X6 bQ => ?_)
    replace bD := bD.trans (bQ.mono bD.size)
    clear bQ
    refine ⟨Or.inr bD, ?_⟩
    refine dw_ 10 (.bool false) (fun a X ee => execDec (execNeN (p := chk (p i)) (q := chk (p i)) rfl (ee _) (ee _)) (decide_eq_false (by omega))) (dz_ [(22, .bool false)] (h2_ t0 t3) ?_)
    rintro a A ⟨t22, -⟩ ⟨t0, t3, -⟩
    replace BB := BB.trans (bD.mono BB.size)
    clear bD
    refine wp_cond_false t22 ?_
    refine wp_skip ?_
    clear t22
    refine wi_ A (h2_ t0 t3) (rv_ 1 (.int .i64 (((i : Nat) : Int) + 1)) (fun a ee => exAddZ (p := ((i : Nat) : Int)) (q := 1) rfl (ee _) rfl ⟨by omega, by omega⟩) (rf_ [(3, .int .i64 (((i : Nat) : Int) + 1))] (h1_ t0) ?_))
    rintro a A ⟨t3, -⟩ ⟨t0, -⟩
    exact ⟨⟨i + 1, lti, A, t0, t3, BB⟩, by show n - (intOf (a.eval (.tmp 3))).toNat < n - (intOf (Act.eval _ (.tmp 3))).toNat; rw [t3, esi]; show n - (i + 1) < n - i; omega⟩
  · rw [decide_eq_false lti] at t9
    refine wp_cond_false t9 ?_
    refine wp_exit ?_
    first | with_reducible refine exit_in ?_ | with_reducible refine exit_then (exit_in ?_) | with_reducible refine exit_then (exit_then (exit_in ?_)) | refine exit_in ?_ | refine exit_then (exit_in ?_) | refine exit_then (exit_then (exit_in ?_))
    clear t9 esi
    refine wp_seq ?_
    refine wi_ A (h1_ t0) (rg_ [(2, .bool true)] ?_)
    rintro a A ⟨t2, -⟩
    refine wp_ret ?_
    repeat (first | with_reducible refine ret_in ?_ | with_reducible refine ret_then ?_)
    refine bodyPost_ret (results_tmp rfl _ _ _) A.2 ⟨?_, BB⟩
    show Ending.returned (a.eval (.tmp 2)) = _
    rw [t2]
end Go.Proofs.Ytcgkelgncehekaa.Loo
