import Derived.Test.YtjckkdjldnobmaaGreatDoorD2c
import Derived.Test.YtjckkdjldnobmaaGreatDoorCards
import Derived.Test.YtjckkdjldnobmaaGreatDoorTie
import Derived.Lib.LaidTab
import Derived.ProofKit
import Derived.Deep.Strs
namespace Go.Proofs.YtjckkdjldnobmaaGreatDoor.Frm
open Go.RowKit Gf8 Aes By8 Cel
/- The table of rules, as the rows list it. -/
theorem gR:Tryz.prog.globalNamed "churn/frame.rules"=some 0:=by kernel_rfl
theorem gRt:(Tryz.prog.globals[0]?).map (·.type)=some 131:=by kernel_rfl
theorem cellsR:Tryz.prog.cellsOf 130=4:=by kernel_rfl
theorem cellsRt:Tryz.prog.cellsOf 131=40:=by kernel_rfl
def ruleD (f:Nat):DataW Unit:=.agg [.lit (.int .i64 (fsz f:Nat)),.lit (.int .u64 (low f:Nat)),.lit (.int .u64 (high f:Nat)),.lit (.int .i64 (flt f:Nat))]
def ruleV (f:Nat):List Value:=[.int .i64 (fsz f:Nat),.int .u64 (low f:Nat),.int .u64 (high f:Nat),.int .i64 (flt f:Nat)]
theorem laid_is:(Rows.laid_churn_frame_rules:DataW Unit)=.agg ((List.range 10).map ruleD):=rfl
theorem k2:Tryz.prog.cellsOf 2=1:=by kernel_rfl
theorem k3:Tryz.prog.cellsOf 3=1:=by kernel_rfl
theorem k76:Tryz.prog.cellsOf 127=1:=by kernel_rfl
theorem k33:Tryz.prog.cellsOf 30=1:=by kernel_rfl
set_option maxRecDepth 100000 in
theorem rule_cells {enc:TypeId × Value->Unit} {w:World} {base:Nat} {sp:Nat->Bool} {held:Bool} {fuel:Nat} {cs:List Value} {f:Nat} {p:List MemPlace}
  (h:DataW.trod enc Tryz.prog w base sp held fuel 130 cs=some (ruleD f,p)):cs=ruleV f:=by
 obtain ⟨xs,n,_,e,hl,hlen,hf⟩:=DataW.trod_struct Tryz.underlying130 h
 rw [cellsR] at hl
 match xs,hlen with
 | [y0,y1,y2,y3],_=>
  have h0:=hf 0 _ rfl
  have h1:=hf 1 _ rfl
  have h2:=hf 2 _ rfl
  have h3:=hf 3 _ rfl
  match cs,hl with
  | [c0,c1,c2,c3],_=>
   simp [k3,k76,k33] at h0 h1 h2 h3
   obtain ⟨z0,e0,d0,_⟩:=DataW.trod_int Tryz.underlying3 h0
   obtain ⟨z1,e1,d1,_⟩:=DataW.trod_int Tryz.underlying127 h1
   obtain ⟨z2,e2,d2,_⟩:=DataW.trod_int Tryz.underlying127 h2
   obtain ⟨z3,e3,d3,_⟩:=DataW.trod_int Tryz.underlying30 h3
   have e:=congrArg Prod.fst e
   simp [ruleD,d0,d1,d2,d3] at e
   obtain ⟨a0,a1,a2,a3⟩:=e
   simp at e0 e1 e2 e3
   rw [e0,e1,e2,e3,← a0,← a1,← a2,← a3]
   rfl
set_option maxRecDepth 100000 in
theorem table_cells {enc:TypeId × Value->Unit} {w:World} {base:Nat} {sp:Nat->Bool} {held:Bool} {fuel:Nat} {cs:List Value} {p:List MemPlace}
  (h:DataW.trod enc Tryz.prog w base sp held fuel 131 cs=some (.agg ((List.range 10).map ruleD),p)):∀ f,f < 10->(cs.drop (f * 4)).take 4=ruleV f:=by
 cases fuel with
 | zero=>simp [DataW.trod] at h
 | succ fuel=>
  simp only [DataW.trod,Tryz.underlying131,cellsR,cellsRt] at h
  split at h
  ·rename_i hl
   obtain ⟨xs,hm,hx⟩:=Option.map_eq_some_iff.1 h
   have hxs:xs.map (·.1)=(List.range 10).map ruleD:=by
    have:=congrArg Prod.fst hx
    simpa using this
   intro f hf
   obtain ⟨b,hb,hfb⟩:=Lib.mapM_at hm f f (by simp [hf])
   have h2:(xs.map (·.1))[f]?=some (ruleD f):=by rw [hxs]; simp [hf]
   have e:b.1=ruleD f:=by
    rw [List.getElem?_map,hb] at h2
    simpa using h2
   obtain ⟨b1,b2⟩:=b
   simp only at e
   subst e
   exact rule_cells hfb
  ·cases h
def laidList:List (String × DataW Unit):=[("churn/frame.rules",Rows.laid_churn_frame_rules)]
set_option maxRecDepth 100000 in
theorem rules_of {W:World} (h:laidMet Tryz.prog laidList W):Rules W:=by
 obtain ⟨ps,⟨g',t',cs,fuel,p,q,hg',ht',hvar,hd,_,_⟩,_⟩:=h
 obtain rfl:=Option.some.inj (gR.symm.trans hg')
 obtain rfl:=Option.some.inj (gRt.symm.trans ht')
 rw [laid_is] at hd
 have hc:=table_cells hd
 have at':∀ f,f < 10->∀ j,j < 4->W.cell? ⟨0,f * 4+j,none⟩=(ruleV f)[j]?:=by
  intro f hf j hj
  have e:(ruleV f)[j]?=cs[f * 4+j]?:=by
   rw [← hc f hf,List.getElem?_take,if_pos hj,List.getElem?_drop,Array.getElem?_toList]
  rw [e]
  have:=World.var?_cell gR hvar (f * 4+j)
  exact this
 have z:∀ f,f < 10->W.cell? ⟨0,f * 4,none⟩=some (.int .i64 (fsz f:Nat)):=fun f hf=>at' f hf 0 (by omega)
 exact ⟨World.block_lt_of_cell? W _ (z 0 (by omega)),z,fun f hf=>at' f hf 1 (by omega),fun f hf=>at' f hf 2 (by omega),fun f hf=>at' f hf 3 (by omega)⟩
def holdCells (zs:List Value):Obj->Obj
 | .cells _ t frozen=>.cells zs.toArray t frozen
 | o=>o
def layW (w:World):World:={ w with heap:=w.heap.modify 0 (holdCells ((List.range 10).flatMap ruleV)) }
theorem own:ownKnob Tryz.prog.godebug=none:=by kernel_rfl
end Go.Proofs.YtjckkdjldnobmaaGreatDoor.Frm
