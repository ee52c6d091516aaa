import Derived.Test.YtaiiomoajjhliaaDoorA7
import Derived.Lib.LaidTab
import Derived.ProofKit
import Derived.Test.YtaiiomoajjhliaaDoorW8i
import Derived.Test.YtaiiomoajjhliaaDoorW8j
import Derived.Test.YtaiiomoajjhliaaDoorW8r
import Derived.Test.YtaiiomoajjhliaaDoorCards
import Derived.Test.YtaiiomoajjhliaaDoorTie
namespace Go.Proofs.YtaiiomoajjhliaaDoor
open Go.RowKit
theorem gH : Tryd.prog.globalNamed "churn/hash.startWords" = some 0 := by kernel_rfl
theorem gK : Tryd.prog.globalNamed "churn/hash.stepWords" = some 1 := by kernel_rfl
theorem gHt : (Tryd.prog.globals[0]?).map (·.type) = some 55 := by kernel_rfl
theorem gKt : (Tryd.prog.globals[1]?).map (·.type) = some 96 := by kernel_rfl
theorem cells23 : Tryd.prog.cellsOf 55 = 8 := by kernel_rfl
theorem cells47 : Tryd.prog.cellsOf 96 = 64 := by kernel_rfl
theorem cells22 : Tryd.prog.cellsOf 54 = 1 := by kernel_rfl
/-- The two tables, as every row of this seat lists them. -/
def laidList : List (String × DataW Unit) := [("churn/hash.startWords", Rows.laid_churn_hash_startWords), ("churn/hash.stepWords", Rows.laid_churn_hash_stepWords)]
theorem laidMet_rest {P : Program} {x : String × DataW Unit} {rest : List (String × DataW Unit)} {W : World} (h : laidMet P (x :: rest) W) : laidMet P rest W := by
  obtain ⟨ps, hl, hnd, hall⟩ := h
  obtain ⟨g, t, cs, fuel, p, q, _, _, _, _, h1, h2⟩ := hl
  first
    | (subst h2
       exact ⟨q, h1, (List.nodup_append.1 hnd).2.1, fun b off hm => hall b off (List.mem_append_right _ hm)⟩)
    | (subst h1
       exact ⟨q, h2, (List.nodup_append.1 hnd).2.1, fun b off hm => hall b off (List.mem_append_right _ hm)⟩)
theorem glob_of {W : World} (h : laidMetH Tryd.prog laidList W) : Glob W := by
  have h' : laidMet Tryd.prog laidList W := h
  have t1 : Lib.TabIs Tryd.prog W "churn/hash.startWords" .u32 hList :=
    Lib.tabIs_of_head (rest := [("churn/hash.stepWords", Rows.laid_churn_hash_stepWords)]) gH gHt Tryd.underlying55 Tryd.underlying54 cells22 cells23 h'
  have t2 : Lib.TabIs Tryd.prog W "churn/hash.stepWords" .u32 kList :=
    Lib.tabIs_of_head (rest := []) gK gKt Tryd.underlying96 Tryd.underlying54 cells22 cells47 (laidMet_rest h')
  have c0 := t1.cell gH
  have c1 := t2.cell gK
  have e0 := c1 63 (by decide)
  have hb := World.block_lt_of_cell? W _ e0
  exact ⟨hb, fun i hi => c0 i hi, fun i hi => c1 i hi⟩

/-- A block of words, holding these. -/
def holdWords (zs : List Int) : Obj → Obj
  | .cells _ t frozen => .cells (zs.map fun z => Value.int .u32 z).toArray t frozen
  | o => o
/-- A WORLD FOR THE WITNESS: the settled one, the two tables holding what their initialisers lay. -/
def layW (w : World) : World := { w with heap := (w.heap.modify 0 (holdWords hList)).modify 1 (holdWords kList) }
theorem own : ownKnob Tryd.prog.godebug = none := by kernel_rfl
theorem laidOut : laidOutB Tryd.prog = true := by kernel_rfl
end Go.Proofs.YtaiiomoajjhliaaDoor

namespace Go.Proofs.YtaiiomoajjhliaaDoor
open Go.ChangeShapes Go.WideShapes Go.ChangeAt Go.RowKit Gf8 Aes By8 Cel Oni Rou

set_option maxRecDepth 100000 in
theorem rhop_contract (H : Type) (enc : TypeId × Value → H) (W : World) (base : Nat) (args : Array Value) (ds gs : List (DataW H)) (before : List MemPlace)
    (hval : ∀ (j : Nat) t v, Tryd.f4.params[j]? = some t → args[j]? = some v → Value.okWide Tryd.prog W .any base t v)
    (hW : DataW.Whole enc Tryd.prog Tryd.f4.params.toList Rows.replyHopsSpec.vars false W args.toList ds gs before)
    (hsz : (DataW.weightsEach Tryd.prog (Tryd.f4.params.toList ++ (OpenSpec.ofChange Rows.replyHopsSpec).bare.plain.varTypes Tryd.prog) (ds ++ gs)).all (· ≤ reachBytes) = true)
    (hL : laidMetH Tryd.prog laidList W) :
    Calls Tryd.prog 4 args W fun e W' => ∃ v, e = .returned v ∧ Rows.replyHopsSpec.post enc Tryd.prog Tryd.f4 false true false false W args v W' := by
  have hW' := hW
  obtain ⟨p, q, hA0, hV, rfl, hfz, hnd⟩ := hW
  have hA : DataW.TrodAll enc Tryd.prog W 0 (fun _ => true) true Tryd.f4.params.toList args.toList ds p := hA0
  rw [Tryd.params4] at hA hval hsz
  obtain ⟨v0, vs0, d0, ds0, p0, q0, hargs, rfl, rfl, h0, r0⟩ := trodAll_cons hA
  obtain ⟨rfl, rfl, rfl⟩ := trodAll_nil r0
  obtain rfl : args = #[v0] := by cases args; simp_all
  obtain ⟨rfl, rfl⟩ := trodVars_none hV
  have k0 := h0
  have lt0 : ∀ x ∈ p0, x.block < W.heap.size := by obtain ⟨m, hm⟩ := k0; exact DataW.trod_lt m _ _ _ hm
  obtain ⟨vk0, vn0, vp0, h0k, h0n, n0, xv0, lk0, key0, non0, pay0, rfl, ck0, cn0, cp0, bk0, bn0, bp0⟩ := Rpl.job27_read h0 (fun n hn => by
    have := List.all_eq_true.1 hsz n (DataW.weights_mem_each (j := 0) (t := 26) (d := d0) rfl rfl n hn)
    simpa using this) (Rpl.job27_agg (hval 0 26 v0 rfl rfl))
  refine (Rpl.hops27 Rpl.impl h0k h0n n0 vk0 vn0 vp0 xv0 lk0 key0 non0 pay0 W (fun _ b => (glob_of hL).below b (glob_of hL).sz) (fun _ b => (glob_of hL).below b (glob_of hL).sz) ⟨ck0.shape, ck0.cell, ck0.nil, ck0.lens⟩ cn0 cp0.sl bk0 bn0 cp0.nil bp0).mono fun e W' ⟨he, bel⟩ => ?_
  subst he
  exact ⟨_, rfl, _, _, _, [], _, [], hW', trodAll_mk1 (shut_bool Tryd.underlying4 _), (trodAll_cons_mk (Below.trod laidOut (by kernel_rfl) (of_decide_eq_true (by kernel_rfl)) k0 bel lt0) trodAll_mk0), rfl, bel.frame _, fun h => by cases h⟩

theorem rhop_met (os : Os) : laidMet Tryd.prog Rows.replyHopsRow.laid ((layW (World.holding Tryd.prog os ⟨#[], #[], []⟩)).forCall (fun _ _ => 0) ⟨#[], #[.agg #[.slice none 0 0, .slice none 0 0, .slice none 0 0]], []⟩).memory :=
  laidMet_of_run' 8 (by kernel_rfl) (by kernel_rfl)
theorem rhop_reads (os : Os) {H : Type} (enc : TypeId × Value → H) : ∃ places, DataW.whole enc Tryd.prog ((layW (World.holding Tryd.prog os ⟨#[], #[], []⟩)).forCall (fun _ _ => 0) ⟨#[], #[.agg #[.slice none 0 0, .slice none 0 0, .slice none 0 0]], []⟩).memory Tryd.f4.params.toList Rows.replyHopsSpec.vars false #[Value.agg #[.slice none 0 0, .slice none 0 0, .slice none 0 0]].toList 8 = some ([.agg [.nil, .nil, .nil]], [], places) :=
  ⟨[], by kernel_rfl⟩

set_option maxRecDepth 100000 in
theorem rhop_lifted (os : Os) (started : os.Started) (H : Type) (enc : TypeId × Value → H) (F : Stop.Interp) :
    ReturnsInHanded {} Tryd.checked os 4 .any ((OpenSpec.ofChange Rows.replyHopsSpec).preRow enc Tryd.prog Tryd.f4 Rows.replyHopsRow.domain false Rows.replyHopsRow.laid) (((OpenSpec.ofChange Rows.replyHopsSpec).at F).post enc Tryd.prog Tryd.f4 false true false false) := by
  obtain ⟨places, hx⟩ := rhop_reads os enc
  refine returnsInHanded_of_row (C := Tryd.checked) (s := OpenSpec.ofChange Rows.replyHopsSpec) own started (by kernel_rfl) Tryd.func4
    (witness_row_at (enc := enc) (C := Tryd.checked) false (layW (World.holding Tryd.prog os ⟨#[], #[], []⟩)) #[.agg #[.slice none 0 0, .slice none 0 0, .slice none 0 0]] rfl (by kernel_rfl) (by kernel_rfl) (by kernel_rfl)
      (OpenSpec.preRow_of_cond 8 hx (by kernel_rfl) (fun k hk => by cases hk) (by kernel_rfl) (rhop_met os))) ?_
  intro W base args ds gs before hval hW _ _ hsz hL _ _
  exact rhop_contract H enc W base args ds gs before hval hW hsz hL

theorem rhop_said : Rows.ReplyHopsSaid :=
  OpenClaim.holds_of_cond 4 Tryd.f4 rfl rfl rfl rfl rfl rfl rfl ⟨rfl, rfl, rfl, rfl, rfl⟩ rfl rfl rfl rfl rfl (by kernel_rfl) Tryd.func4 (by kernel_rfl)
    (of_decide_eq_true (by kernel_rfl)) (by unfold Func.isWrapper; first | (rw [if_pos (by decide +kernel)]; kernel_rfl) | (rw [if_neg (by decide +kernel)]; exact ⟨rfl, rfl⟩))
    (fun os started H enc _ F => by rw [OpenClaim.pre_eq_preRow]; exact rhop_lifted os started H enc F)

theorem rhop_plain (f : FuncId) (fn : Func) (hf : Tryd.pinned.checked.prog.funcNamed "churn/churnlaw27.ReplyHops" = some f) (hfn : Tryd.pinned.checked.prog.funcs[f]? = some fn) :
    false = Tryd.pinned.checked.prog.looks [] ∧ ∀ (j : Nat) t, fn.params[j]? = some t → Tryd.pinned.checked.prog.wantsStandIn t = false := by
  obtain rfl : f = 4 := Option.some.inj ((show Tryd.prog.funcNamed "churn/churnlaw27.ReplyHops" = some 4 by kernel_rfl).symm.trans hf) |>.symm
  obtain rfl : fn = Tryd.f4 := (Option.some.inj (Tryd.func4.symm.trans hfn)).symm
  refine ⟨by kernel_rfl, fun j t ht => ?_⟩
  rw [Tryd.params4] at ht
  obtain rfl : t = 26 := by simpa using Array.mem_of_getElem? ht
  exact (show Tryd.prog.wantsStandIn 26 = false by kernel_rfl)

theorem rhop_holds : Rows.ReplyHopsCardSaid :=
  Claim7.holds_tied_plain_at .later [] _ _ _ _ rhop_said (fun _ h => by cases h) (by kernel_rfl) (fun _ h => by cases h) replyHops_row_tie rfl ⟨rfl, rfl⟩ (by kernel_rfl) rfl rhop_plain (by kernel_rfl)
end Go.Proofs.YtaiiomoajjhliaaDoor
