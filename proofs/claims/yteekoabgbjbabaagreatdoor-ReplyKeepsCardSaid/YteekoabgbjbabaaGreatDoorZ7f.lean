import Derived.Test.YteekoabgbjbabaaGreatDoorA7
import Derived.Lib.LaidTab
import Derived.ProofKit
import Derived.Test.YteekoabgbjbabaaGreatDoorW8o
import Derived.Test.YteekoabgbjbabaaGreatDoorW8j
import Derived.Test.YteekoabgbjbabaaGreatDoorW8r
import Derived.Test.YteekoabgbjbabaaGreatDoorCards
import Derived.Test.YteekoabgbjbabaaGreatDoorTie
namespace Go.Proofs.YteekoabgbjbabaaGreatDoor
open Go.RowKit
theorem gH : Tryz.prog.globalNamed "churn/hash.startWords" = some 0 := by kernel_rfl
theorem gK : Tryz.prog.globalNamed "churn/hash.stepWords" = some 1 := by kernel_rfl
theorem gHt : (Tryz.prog.globals[0]?).map (·.type) = some 69 := by kernel_rfl
theorem gKt : (Tryz.prog.globals[1]?).map (·.type) = some 119 := by kernel_rfl
theorem cells23 : Tryz.prog.cellsOf 69 = 8 := by kernel_rfl
theorem cells47 : Tryz.prog.cellsOf 119 = 64 := by kernel_rfl
theorem cells22 : Tryz.prog.cellsOf 68 = 1 := by kernel_rfl
/-- The two tables, as every row of this seat lists them. -/
def laidList : List (String × DataW Unit) := [("churn/hash.startWords", Rows.laid_churn_hash_startWords), ("churn/hash.stepWords", Rows.laid_churn_hash_stepWords)]
theorem laidMet_rest {P : Program} {x : String × DataW Unit} {rest : List (String × DataW Unit)} {W : World} (h : laidMet P (x :: rest) W) : laidMet P rest W := by
  obtain ⟨ps, hl, hnd, hall⟩ := h
  obtain ⟨g, t, cs, fuel, p, q, _, _, _, _, h1, h2⟩ := hl
  first
    | (subst h2
       exact ⟨q, h1, (List.nodup_append.1 hnd).2.1, fun b off hm => hall b off (List.mem_append_right _ hm)⟩)
    | (subst h1
       exact ⟨q, h2, (List.nodup_append.1 hnd).2.1, fun b off hm => hall b off (List.mem_append_right _ hm)⟩)
theorem glob_of {W : World} (h : laidMetH Tryz.prog laidList W) : Glob W := by
  have h' : laidMet Tryz.prog laidList W := h
  have t1 : Lib.TabIs Tryz.prog W "churn/hash.startWords" .u32 hList :=
    Lib.tabIs_of_head (rest := [("churn/hash.stepWords", Rows.laid_churn_hash_stepWords)]) gH gHt Tryz.underlying69 Tryz.underlying68 cells22 cells23 h'
  have t2 : Lib.TabIs Tryz.prog W "churn/hash.stepWords" .u32 kList :=
    Lib.tabIs_of_head (rest := []) gK gKt Tryz.underlying119 Tryz.underlying68 cells22 cells47 (laidMet_rest h')
  have c0 := t1.cell gH
  have c1 := t2.cell gK
  have e0 := c1 63 (by decide)
  have hb := World.block_lt_of_cell? W _ e0
  exact ⟨hb, fun i hi => c0 i hi, fun i hi => c1 i hi⟩

/-- A block of words, holding these. -/
def holdWords (zs : List Int) : Obj → Obj
  | .cells _ t frozen => .cells (zs.map fun z => Value.int .u32 z).toArray t frozen
  | o => o
/-- A WORLD FOR THE WITNESS: the settled one, the two tables holding what their initialisers lay. -/
def layW (w : World) : World := { w with heap := (w.heap.modify 0 (holdWords hList)).modify 1 (holdWords kList) }
theorem own : ownKnob Tryz.prog.godebug = none := by kernel_rfl
theorem laidOut : laidOutB Tryz.prog = true := by kernel_rfl
end Go.Proofs.YteekoabgbjbabaaGreatDoor

namespace Go.Proofs.YteekoabgbjbabaaGreatDoor
open Go.ChangeShapes Go.WideShapes Go.ChangeAt Go.RowKit Gf8 Aes By8 Cel Oni Rou

set_option maxRecDepth 100000 in
theorem rkee_contract (H : Type) (enc : TypeId × Value → H) (W : World) (base : Nat) (args : Array Value) (ds gs : List (DataW H)) (before : List MemPlace)
    (hval : ∀ (j : Nat) t v, Tryz.f3.params[j]? = some t → args[j]? = some v → Value.okWide Tryz.prog W .any base t v)
    (hW : DataW.Whole enc Tryz.prog Tryz.f3.params.toList Rows.replyKeepsSpec.vars false W args.toList ds gs before)
    (hsz : (DataW.weightsEach Tryz.prog (Tryz.f3.params.toList ++ (OpenSpec.ofChange Rows.replyKeepsSpec).bare.plain.varTypes Tryz.prog) (ds ++ gs)).all (· ≤ reachBytes) = true)
    (hL : laidMetH Tryz.prog laidList W) :
    Calls Tryz.prog 3 args W fun e W' => ∃ v, e = .returned v ∧ Rows.replyKeepsSpec.post enc Tryz.prog Tryz.f3 false true false false W args v W' := by
  have hW' := hW
  obtain ⟨p, q, hA0, hV, rfl, hfz, hnd⟩ := hW
  have hA : DataW.TrodAll enc Tryz.prog W 0 (fun _ => true) true Tryz.f3.params.toList args.toList ds p := hA0
  rw [Tryz.params3] at hA hval hsz
  obtain ⟨v0, vs0, d0, ds0, p0, q0, hargs, rfl, rfl, h0, r0⟩ := trodAll_cons hA
  obtain ⟨rfl, rfl, rfl⟩ := trodAll_nil r0
  obtain rfl : args = #[v0] := by cases args; simp_all
  obtain ⟨rfl, rfl⟩ := trodVars_none hV
  have k0 := h0
  have lt0 : ∀ x ∈ p0, x.block < W.heap.size := by obtain ⟨m, hm⟩ := k0; exact DataW.trod_lt m _ _ _ hm
  obtain ⟨vk0, vn0, vp0, h0k, h0n, n0, xv0, lk0, key0, non0, pay0, rfl, ck0, cn0, cp0, bk0, bn0, bp0⟩ := Rpl.job27_read h0 (fun n hn => by
    have := List.all_eq_true.1 hsz n (DataW.weights_mem_each (j := 0) (t := 26) (d := d0) rfl rfl n hn)
    simpa using this) (Rpl.job27_agg (hval 0 26 v0 rfl rfl))
  refine (Rpl.keeps27 Rpl.impl h0k h0n n0 vk0 vn0 vp0 xv0 lk0 key0 non0 pay0 W (fun _ b => (glob_of hL).below b (glob_of hL).sz) ⟨ck0.shape, ck0.cell, ck0.nil, ck0.lens⟩ cn0 cp0.sl bk0 bn0 cp0.nil bp0).mono fun e W' ⟨he, bel⟩ => ?_
  subst he
  exact ⟨_, rfl, _, _, _, [], _, [], hW', trodAll_mk1 (shut_bool Tryz.underlying4 _), (trodAll_cons_mk (Below.trod laidOut (by kernel_rfl) (of_decide_eq_true (by kernel_rfl)) k0 bel lt0) trodAll_mk0), rfl, bel.frame _, fun h => by cases h⟩

theorem rkee_met (os : Os) : laidMet Tryz.prog Rows.replyKeepsRow.laid ((layW (World.holding Tryz.prog os ⟨#[], #[], []⟩)).forCall (fun _ _ => 0) ⟨#[], #[.agg #[.slice none 0 0, .slice none 0 0, .slice none 0 0]], []⟩).memory :=
  laidMet_of_run' 8 (by kernel_rfl) (by kernel_rfl)
theorem rkee_reads (os : Os) {H : Type} (enc : TypeId × Value → H) : ∃ places, DataW.whole enc Tryz.prog ((layW (World.holding Tryz.prog os ⟨#[], #[], []⟩)).forCall (fun _ _ => 0) ⟨#[], #[.agg #[.slice none 0 0, .slice none 0 0, .slice none 0 0]], []⟩).memory Tryz.f3.params.toList Rows.replyKeepsSpec.vars false #[Value.agg #[.slice none 0 0, .slice none 0 0, .slice none 0 0]].toList 8 = some ([.agg [.nil, .nil, .nil]], [], places) :=
  ⟨[], by kernel_rfl⟩

set_option maxRecDepth 100000 in
theorem rkee_lifted (os : Os) (started : os.Started) (H : Type) (enc : TypeId × Value → H) (F : Stop.Interp) :
    ReturnsInHanded {} Tryz.checked os 3 .any ((OpenSpec.ofChange Rows.replyKeepsSpec).preRow enc Tryz.prog Tryz.f3 Rows.replyKeepsRow.domain false Rows.replyKeepsRow.laid) (((OpenSpec.ofChange Rows.replyKeepsSpec).at F).post enc Tryz.prog Tryz.f3 false true false false) := by
  obtain ⟨places, hx⟩ := rkee_reads os enc
  refine returnsInHanded_of_row (C := Tryz.checked) (s := OpenSpec.ofChange Rows.replyKeepsSpec) own started (by kernel_rfl) Tryz.func3
    (witness_row_at (enc := enc) (C := Tryz.checked) false (layW (World.holding Tryz.prog os ⟨#[], #[], []⟩)) #[.agg #[.slice none 0 0, .slice none 0 0, .slice none 0 0]] rfl (by kernel_rfl) (by kernel_rfl) (by kernel_rfl)
      (OpenSpec.preRow_of_cond 8 hx (by kernel_rfl) (fun k hk => by cases hk) (by kernel_rfl) (rkee_met os))) ?_
  intro W base args ds gs before hval hW _ _ hsz hL _ _
  exact rkee_contract H enc W base args ds gs before hval hW hsz hL

theorem rkee_said : Rows.ReplyKeepsSaid :=
  OpenClaim.holds_of_cond 3 Tryz.f3 rfl rfl rfl rfl rfl rfl rfl ⟨rfl, rfl, rfl, rfl, rfl⟩ rfl rfl rfl rfl rfl (by kernel_rfl) Tryz.func3 (by kernel_rfl)
    (of_decide_eq_true (by kernel_rfl)) (by unfold Func.isWrapper; first | (rw [if_pos (by decide +kernel)]; kernel_rfl) | (rw [if_neg (by decide +kernel)]; exact ⟨rfl, rfl⟩))
    (fun os started H enc _ F => by rw [OpenClaim.pre_eq_preRow]; exact rkee_lifted os started H enc F)

theorem rkee_plain (f : FuncId) (fn : Func) (hf : Tryz.pinned.checked.prog.funcNamed "churn/churnlaw27.ReplyKeeps" = some f) (hfn : Tryz.pinned.checked.prog.funcs[f]? = some fn) :
    false = Tryz.pinned.checked.prog.looks [] ∧ ∀ (j : Nat) t, fn.params[j]? = some t → Tryz.pinned.checked.prog.wantsStandIn t = false := by
  obtain rfl : f = 3 := Option.some.inj ((show Tryz.prog.funcNamed "churn/churnlaw27.ReplyKeeps" = some 3 by kernel_rfl).symm.trans hf) |>.symm
  obtain rfl : fn = Tryz.f3 := (Option.some.inj (Tryz.func3.symm.trans hfn)).symm
  refine ⟨by kernel_rfl, fun j t ht => ?_⟩
  rw [Tryz.params3] at ht
  obtain rfl : t = 26 := by simpa using Array.mem_of_getElem? ht
  exact (show Tryz.prog.wantsStandIn 26 = false by kernel_rfl)

theorem rkee_holds : Rows.ReplyKeepsCardSaid :=
  Claim7.holds_tied_plain_at .later [] _ _ _ _ rkee_said (fun _ h => by cases h) (by kernel_rfl) (fun _ h => by cases h) replyKeeps_row_tie rfl ⟨rfl, rfl⟩ (by kernel_rfl) rfl rkee_plain (by kernel_rfl)
end Go.Proofs.YteekoabgbjbabaaGreatDoor
