import Derived.Test.YtedjoakpbknflaaDoorH3
import Derived.Test.YtedjoakpbknflaaDoorK6
import Derived.Deep.Strs
import Derived.Deep.SlicePairs
namespace Go.Proofs.YtedjoakpbknflaaDoor
open Go.ChangeShapes Go.WideShapes Go.ChangeAt Go.RowKit

theorem stepBytes : Tryd.prog.bytesOf 41 = 40 := by kernel_rfl
theorem stepCells : Tryd.prog.cellsOf 41 = 3 := by kernel_rfl
theorem weightsAll_in {H : Type} {P : Program} {e : TypeId} : ∀ {ds : List (DataW H)} {d : DataW H}, d ∈ ds → ∀ n ∈ d.weights P e, n ∈ DataW.weightsAll P e ds
  | d0 :: ds, d, hd, n, hn => by
    simp only [DataW.weightsAll, List.mem_append]
    rcases List.mem_cons.1 hd with rfl | h
    · exact Or.inl hn
    · exact Or.inr (weightsAll_in h n hn)
  | [], _, hd, _, _ => by cases hd
/-- A []Step that reads is a script. -/
theorem scr_of {H : Type} {enc : TypeId × Value → H} {W : World} {fuel : Nat} {v : Value} {d : DataW H} {p : List MemPlace} (h : DataW.trod enc Tryd.prog W 0 (fun _ => true) true fuel 37 v.cells.toList = some (d, p))
    (hw : ∀ n ∈ d.weights Tryd.prog 37, n ≤ reachBytes) (hsl : ∃ a l c, v = .slice a l c) : ∃ n fr ask pv pl pp, Hs.Scr W v n fr ask pv pl pp := by
  obtain ⟨a0, len0, cap0, rfl⟩ := hsl
  have hr : reachBytes = 140737488351232 := rfl
  rcases Deep.open_slice Tryd.underlying37 h with ⟨hcs, _⟩ | ⟨a, len, cap, m, fu, D, Pl, hcs, _, hl, hm, hmm, hx, hel⟩
  · simp [Value.cells] at hcs
    obtain ⟨rfl, rfl, rfl⟩ := hcs
    exact ⟨0, fun _ => 0, fun _ => false, fun _ => .slice none 0 0, fun _ => 0, fun _ _ => 0, ⟨⟨_, _, rfl, by omega, fun h => by omega⟩, fun i hi => by omega, fun i hi => by omega, fun i hi => by omega, fun i hi => by omega⟩⟩
  · simp [Value.cells] at hcs
    obtain ⟨rfl, rfl, rfl⟩ := hcs
    simp only [Prod.mk.injEq] at hx
    obtain ⟨rfl, rfl⟩ := hx
    simp only [if_true] at hmm
    have hn : (len0 + (m - len0)) * 40 ≤ reachBytes := by
      refine hw _ ?_
      simp only [DataW.weights, Tryd.underlying37, stepBytes]
      exact List.mem_cons.2 (Or.inl (by simp))
    have each : ∀ i, i < len0 → ∃ q : Int × Bool × Value × Nat × (Nat → Int), W.cell? (a.add (i * 3)) = some (.int .i64 q.1) ∧ W.cell? (a.add (i * 3 + 1)) = some (.bool q.2.1) ∧ W.cell? (a.add (i * 3 + 2)) = some q.2.2.1 ∧ (Lit.int .i64 q.1).wf = true ∧ SliceB W q.2.2.1 q.2.2.2.1 q.2.2.2.2 ∧ q.2.2.2.1 ≤ 140737488351232 ∧ ∀ cap, q.2.2.1 = .slice none q.2.2.2.1 cap → cap = 0 := by
      intro i hi
      obtain ⟨cs', h1, h2⟩ := hel i (by omega)
      rw [stepCells] at h1
      obtain ⟨_, hlen, hcell⟩ := World.cells?_some h1
      obtain ⟨y0, y1, y2, k, hy, _, t0, t1, t2⟩ := Deep.trod_struct3 Tryd.underlying41 h2
      match cs', hlen with
      | [v0, v1, v2], _ =>
        have e0 := hcell 0 (by omega)
        have e1 := hcell 1 (by omega)
        have e2 := hcell 2 (by omega)
        rw [Deep.add_add] at e0 e1 e2
        have k3 : Tryd.prog.cellsOf 3 = 1 := by kernel_rfl
        have k4 : Tryd.prog.cellsOf 4 = 1 := by kernel_rfl
        have k33 : Tryd.prog.cellsOf 33 = 1 := by kernel_rfl
        simp [k3, k4, k33] at t0 t1 t2 e0 e1 e2
        obtain ⟨z, hz, wz⟩ := int_read1 t0
        obtain ⟨bb, hbb, _⟩ := DataW.trod_bool Tryd.underlying4 t1
        simp at hbb
        have hD : D i = .agg [y0.1, y1.1, y2.1] := by simpa using (Prod.mk.inj hy).1
        obtain ⟨pl, pp, s1, s2, s3⟩ := bytes_read1 t2 (fun n hn => hw n (by
          simp only [DataW.weights, Tryd.underlying37]
          refine List.mem_cons_of_mem _ (List.mem_append_left _ (weightsAll_in (d := D i) (List.mem_map.2 ⟨i, List.mem_range.2 hi, rfl⟩) n ?_))
          rw [hD]
          simp only [DataW.weights, Tryd.underlying41]
          simp [DataW.weightsEach, hn]))
        exact ⟨(z, bb, v2, pl, pp), by rw [e0, hz], by rw [e1, hbb], e2, wz, s1, s2, s3⟩
    obtain ⟨q, hq⟩ := Deep.choose_lt each
    refine ⟨len0, fun i => (q i).1, fun i => (q i).2.1, fun i => (q i).2.2.1, fun i => (q i).2.2.2.1, fun i => (q i).2.2.2.2, ⟨⟨_, _, rfl, by omega, fun hp => ?_⟩, fun i hi => ?_, fun i hi => (hq i hi).2.2.2.2.1, fun i hi => (hq i hi).2.2.2.2.2.2, fun i hi => (hq i hi).2.2.2.2.2.1⟩⟩
    · obtain ⟨b, off, spot⟩ := a
      have hc0 := (hq 0 hp).1
      have hspot : spot = none := by simpa [Addr.add] using World.cell?_spot hc0
      subst hspot
      refine ⟨b, off, rfl, World.block_lt_of_cell? W _ hc0, fun i hi => ?_⟩
      obtain ⟨h1, h2, h3, _⟩ := hq i hi
      rw [Go.WideShapes.add_plain] at h1 h2 h3
      exact ⟨h1, by rw [← Nat.add_assoc] at h2; exact h2, by rw [← Nat.add_assoc] at h3; exact h3⟩
    · have := wfI64 (hq i hi).2.2.2.1
      simp [IntKind.wrap, IntKind.bits, IntKind.signed]
      omega

set_option maxRecDepth 100000 in
theorem scripts_contract (H : Type) (enc : TypeId × Value → H) (W : World) (base : Nat) (args : Array Value) (ds gs : List (DataW H)) (before : List MemPlace)
    (hval : ∀ (j : Nat) t v, Tryd.f5.params[j]? = some t → args[j]? = some v → Value.okWide Tryd.prog W .any base t v)
    (hW : DataW.Whole enc Tryd.prog Tryd.f5.params.toList Rows.hashScriptsSpec.vars false W args.toList ds gs before)
    (hsz : (DataW.weightsEach Tryd.prog (Tryd.f5.params.toList ++ (OpenSpec.ofChange Rows.hashScriptsSpec).bare.plain.varTypes Tryd.prog) (ds ++ gs)).all (· ≤ reachBytes) = true)
    (hL : laidMetH Tryd.prog laidList W) :
    Calls Tryd.prog 5 args W fun e W' => ∃ v, e = .returned v ∧ Rows.hashScriptsSpec.post enc Tryd.prog Tryd.f5 false true false false W args v W' := by
  have hW' := hW
  obtain ⟨p, q, hA0, hV, rfl, hfz, hnd⟩ := hW
  have hA : DataW.TrodAll enc Tryd.prog W 0 (fun _ => true) true Tryd.f5.params.toList args.toList ds p := hA0
  rw [Tryd.params5] at hA hval hsz
  obtain ⟨v0, vs0, d0, ds0, p0, q0, hargs, rfl, rfl, h0, r0⟩ := trodAll_cons hA
  obtain ⟨rfl, rfl, rfl⟩ := trodAll_nil r0
  obtain rfl : args = #[v0] := by cases args; simp_all
  obtain ⟨rfl, rfl⟩ := trodVars_none hV
  have hs0 := okWide_slice Tryd.underlying37 (hval 0 37 v0 rfl rfl)
  have k0 := h0
  have lt0 : ∀ x ∈ p0, x.block < W.heap.size := by obtain ⟨m, hm⟩ := k0; exact DataW.trod_lt m _ _ _ hm
  have hw0 : ∀ n ∈ d0.weights Tryd.prog 37, n ≤ reachBytes := fun n hn => by
    have := List.all_eq_true.1 hsz n (DataW.weights_mem_each (j := 0) (t := 37) (d := d0) rfl rfl n hn)
    simpa using this
  have s0 : ∃ n fr ask pv pl pp, Hs.Scr W v0 n fr ask pv pl pp := by
    obtain ⟨fuel, hf⟩ := h0
    exact scr_of hf hw0 hs0
  obtain ⟨n, fr, ask, pv, pl, pp, s0⟩ := s0
  refine (Hs.scripts_any _ n fr ask pv pl pp W (glob_of hL) s0).mono fun e W' ⟨he, bel⟩ => ?_
  subst he
  exact ⟨_, rfl, _, _, _, [], _, [], hW', trodAll_mk1 (shut_bool Tryd.underlying4 _), (trodAll_cons_mk (Below.trod laidOut (by kernel_rfl) (of_decide_eq_true (by kernel_rfl)) k0 bel lt0) trodAll_mk0), rfl, bel.frame _, fun h => by cases h⟩

theorem scripts_met (os : Os) : laidMet Tryd.prog Rows.hashScriptsRow.laid ((layW (World.holding Tryd.prog os ⟨#[], #[], []⟩)).forCall (fun _ _ => 0) ⟨#[], #[.slice none 0 0], []⟩).memory :=
  laidMet_of_run' 8 (by kernel_rfl) (by kernel_rfl)
theorem scripts_reads (os : Os) {H : Type} (enc : TypeId × Value → H) : ∃ places, DataW.whole enc Tryd.prog ((layW (World.holding Tryd.prog os ⟨#[], #[], []⟩)).forCall (fun _ _ => 0) ⟨#[], #[.slice none 0 0], []⟩).memory Tryd.f5.params.toList Rows.hashScriptsSpec.vars false #[Value.slice none 0 0].toList 8 = some ([.nil], [], places) :=
  ⟨[], by kernel_rfl⟩

set_option maxRecDepth 100000 in
theorem scripts_lifted (os : Os) (started : os.Started) (H : Type) (enc : TypeId × Value → H) (F : Stop.Interp) :
    ReturnsInHanded {} Tryd.checked os 5 .any ((OpenSpec.ofChange Rows.hashScriptsSpec).preRow enc Tryd.prog Tryd.f5 Rows.hashScriptsRow.domain false Rows.hashScriptsRow.laid) (((OpenSpec.ofChange Rows.hashScriptsSpec).at F).post enc Tryd.prog Tryd.f5 false true false false) := by
  obtain ⟨places, hx⟩ := scripts_reads os enc
  refine returnsInHanded_of_row (C := Tryd.checked) (s := OpenSpec.ofChange Rows.hashScriptsSpec) own started (by kernel_rfl) Tryd.func5
    (witness_row_at (enc := enc) (C := Tryd.checked) false (layW (World.holding Tryd.prog os ⟨#[], #[], []⟩)) #[.slice none 0 0] rfl (by kernel_rfl) (by kernel_rfl) (by kernel_rfl)
      (OpenSpec.preRow_of_cond 8 hx (by kernel_rfl) (fun k hk => by cases hk) (by kernel_rfl) (scripts_met os))) ?_
  intro W base args ds gs before hval hW _ _ hsz hL _ _
  exact scripts_contract H enc W base args ds gs before hval hW hsz hL

theorem scripts_said : Rows.HashScriptsSaid :=
  OpenClaim.holds_of_cond 5 Tryd.f5 rfl rfl rfl rfl rfl rfl rfl ⟨rfl, rfl, rfl, rfl, rfl⟩ rfl rfl rfl rfl rfl (by kernel_rfl) Tryd.func5 (by kernel_rfl)
    (of_decide_eq_true (by kernel_rfl)) (by unfold Func.isWrapper; first | (rw [if_pos (by decide +kernel)]; kernel_rfl) | (rw [if_neg (by decide +kernel)]; exact ⟨rfl, rfl⟩))
    (fun os started H enc _ F => by rw [OpenClaim.pre_eq_preRow]; exact scripts_lifted os started H enc F)

theorem scripts_plain (f : FuncId) (fn : Func) (hf : Tryd.pinned.checked.prog.funcNamed "churn/churnlaw01.HashScripts" = some f) (hfn : Tryd.pinned.checked.prog.funcs[f]? = some fn) :
    false = Tryd.pinned.checked.prog.looks [] ∧ ∀ (j : Nat) t, fn.params[j]? = some t → Tryd.pinned.checked.prog.wantsStandIn t = false := by
  obtain rfl : f = 5 := Option.some.inj ((show Tryd.prog.funcNamed "churn/churnlaw01.HashScripts" = some 5 by kernel_rfl).symm.trans hf) |>.symm
  obtain rfl : fn = Tryd.f5 := (Option.some.inj (Tryd.func5.symm.trans hfn)).symm
  refine ⟨by kernel_rfl, fun j t ht => ?_⟩
  rw [Tryd.params5] at ht
  obtain rfl : t = 37 := by simpa using Array.mem_of_getElem? ht
  exact (show Tryd.prog.wantsStandIn 37 = false by kernel_rfl)

theorem scripts_holds : Rows.HashScriptsCardSaid :=
  Claim7.holds_tied_plain_at .later [] _ _ _ _ scripts_said (fun _ h => by cases h) (by kernel_rfl) (fun _ h => by cases h) hashScripts_row_tie rfl ⟨rfl, rfl⟩ (by kernel_rfl) rfl scripts_plain (by kernel_rfl)
end Go.Proofs.YtedjoakpbknflaaDoor
