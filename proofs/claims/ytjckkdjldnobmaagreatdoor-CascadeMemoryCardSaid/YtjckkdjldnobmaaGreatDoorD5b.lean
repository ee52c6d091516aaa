import Derived.Test.YtjckkdjldnobmaaGreatDoorD1
import Derived.Test.YtjckkdjldnobmaaGreatDoorD3c
import Derived.SevenTiedAt
namespace Go.Proofs.YtjckkdjldnobmaaGreatDoor.All3
open Go.RowKit Frm
/- The tables of hash and the rules of frame, as the rows of a seat with all three list them. -/
def laidList:List (String × DataW Unit):=[("churn/hash.startWords",Rows.laid_churn_hash_startWords),("churn/hash.stepWords",Rows.laid_churn_hash_stepWords),("churn/frame.rules",Rows.laid_churn_frame_rules)]
def Gl (W:World):Prop:=Glob W/\Rules W
theorem gl_of {W:World} (h:laidMetH Tryz.prog laidList W):Gl W:=by
 have h':laidMet Tryz.prog laidList W:=h
 have t1:Lib.TabIs Tryz.prog W "churn/hash.startWords" .u32 hList:=
  Lib.tabIs_of_head (rest:=[("churn/hash.stepWords",Rows.laid_churn_hash_stepWords),("churn/frame.rules",Rows.laid_churn_frame_rules)]) gH gHt Tryz.underlying172 Tryz.underlying99 cells22 cells23 h'
 have h2:=laidMet_rest h'
 have t2:Lib.TabIs Tryz.prog W "churn/hash.stepWords" .u32 kList:=
  Lib.tabIs_of_head (rest:=[("churn/frame.rules",Rows.laid_churn_frame_rules)]) gK gKt Tryz.underlying184 Tryz.underlying99 cells22 cells47 h2
 have c0:=t1.cell gH
 have c1:=t2.cell gK
 have hb0:=World.block_lt_of_cell? W _ (c0 7 (by decide))
 have hb1:=World.block_lt_of_cell? W _ (c1 63 (by decide))
 exact ⟨⟨by first | exact hb1 | exact hb0,fun i hi=>c0 i hi,fun i hi=>c1 i hi⟩,rules_of (laidMet_rest h2)⟩
theorem Gl.on {W X:World} (g:Gl W) (b:Below W.heap.size W X):Gl X:=⟨g.1.below b g.1.sz,g.2.on b g.2.sz⟩
def layW (w:World):World:={ w with heap:=((w.heap.modify 1 (holdWords hList)).modify 2 (holdWords kList)).modify 0 (holdCells ((List.range 10).flatMap ruleV)) }
end Go.Proofs.YtjckkdjldnobmaaGreatDoor.All3

namespace Go.Proofs.YtjckkdjldnobmaaGreatDoor.All3
open Go
/- A tied card of a law that can come to a go statement. -/
theorem holds_goes_at (Lk:Looks) {p:Pinned} {s:OpenSpec} {c:OpenClaim} (kinds:List LaidKind) (tests:Bool) (har:Bool × String) (lk g:Bool)
  (hc:c.holds p s) (hw:c.wfByText s=true) (htie:c.laidByTextAt Lk p kinds tests)
  (hst:c.start=.entering) (hnb:c.noBlocks=false/\c.again=false) (hm:p.checked.prog.mainIs=some (har.1,har.2.toList)) (hn:(!har.1 && har.2.isEmpty && !lk)=false)
  (hl:∀ f fn,p.checked.prog.funcNamed c.func=some f->p.checked.prog.funcs[f]?=some fn->lk=p.checked.prog.looks []/\∀ (j:Nat) t,fn.params[j]?=some t->p.checked.prog.wantsStandIn t=false)
  (hg:g=c.goesBy p.checked.prog) :
  Claim7.holds p (.plain s) { stood:={ row:=c,standIns:=[],harness:=har,looks:=lk },kinds:=[],alts:=[],goes:=g,laidByText:=true,laidKinds:=kinds,laidTests:=tests,laidLooks:=Lk }:=by
 have h6:Claim7.isSixth { stood:={ row:=c,standIns:=[],harness:=har,looks:=lk },kinds:=[] }=false:=by simpa [Claim7.isSixth] using hn
 exact ⟨Claim7.tied_new_at Lk kinds tests (Claim7.new_of_sixth hc har lk hst hnb hm h6 hl) hw,(fun D hD=>by cases hD),htie,(fun h=>by cases h),hg⟩
end Go.Proofs.YtjckkdjldnobmaaGreatDoor.All3
