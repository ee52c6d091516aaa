import Derived.Test.YtjckkdjldnobmaaGreatDoorC8b
import Derived.Test.YtjckkdjldnobmaaGreatDoorV8l
import Derived.Test.YtjckkdjldnobmaaGreatDoorB7m
import Derived.Lib.SmallJoins
namespace Go.Proofs.YtjckkdjldnobmaaGreatDoor.Cas
open Go.ChangeShapes Go.WideShapes Go.ChangeAt Go.RowKit Gf8 Aes By8 Cel Cf Tap Drw Dro Oni Rou
/- Stage 25: a Client as an argument. -/
theorem kC25:Tryz.prog.cellsOf 26=4:=by kernel_rfl
theorem k225:Tryz.prog.cellsOf 2=1:=by kernel_rfl
theorem kl25:Tryz.prog.cellsOf 24=1:=by kernel_rfl
set_option maxRecDepth 20000 in
theorem client_read {H:Type} {enc:TypeId × Value->H} {W:World} {v:Value} {d:DataW H} {p:List MemPlace} (h:∃ fuel,DataW.trod enc Tryz.prog W 0 (fun _=>true) true fuel 26 v.cells.toList=some (d,p))
  (hw:∀ n ∈ d.weights Tryz.prog 26,n<=reachBytes) (hs:∃ xs,v=.agg xs) :
  ∃ (mv nv pv:Value) (ep:Int) (h hn n:Nat) (xv:Nat->Value) (lk:Nat->Nat) (mk q:Nat->Nat->Nat) (pp:Nat->Nat),v=.agg #[mv,.int .i64 ep,nv,pv]/\Ls W mv h xv lk mk/\Nons W nv hn q/\SliceZ W pv n pp/\h * 24<=140737488351232/\hn<=140737488351232/\n<=140737488351232:=by
 obtain ⟨xs,rfl⟩:=hs
 obtain ⟨fuel,hf⟩:=h
 have hf':DataW.trod enc Tryz.prog W 0 (fun _=>true) true fuel 26 xs.toList=some (d,p):=hf
 obtain ⟨z0,z1,z2,z3,k',hz,hl3,u0,u1,u2,u3⟩:=Go.Joins.trod_struct4 Tryz.underlying26 hf'
 rw [kC25] at hl3
 have hd:d=.agg [z0.1,z1.1,z2.1,z3.1]:=by simpa using (Prod.mk.inj hz).1
 obtain ⟨cl,hcl⟩:∃ cl,xs.toList=cl:=⟨_,rfl⟩
 rw [hcl] at hl3 u0 u1 u2 u3
 match cl,hl3 with
 | [c0,c1,c2,c3],_=>
  simp [kC,kN,kl25,k225] at u0 u1 u2 u3
  obtain ⟨h,xv,lk,key,hc,hb⟩:=Dro.cells_read24 (d:=z0.1) (p:=z0.2) u0 (fun n hn=>hw n (by
   rw [hd]
   simp only [DataW.weights,Tryz.underlying26]
   simp [DataW.weightsEach,hn]))
  obtain ⟨ep,e1,_,_⟩:=DataW.trod_int Tryz.underlying2 u1
  have e1:c1=.int .i64 ep:=by simpa using e1
  subst e1
  obtain ⟨hn,q,hq,hqb⟩:=nons_read (d:=z2.1) (p:=z2.2) u2 (fun n hn=>hw n (by
   rw [hd]
   simp only [DataW.weights,Tryz.underlying26]
   simp [DataW.weightsEach,hn]))
  obtain ⟨l,pp,s,b,z⟩:=By8.bytes_readJ u3 (fun n hn=>hw n (by
   rw [hd]
   simp only [DataW.weights,Tryz.underlying26]
   simp [DataW.weightsEach,hn]))
  refine ⟨c0,c2,c3,ep,h,hn,l,xv,lk,key,q,pp,?_,hc,hq,⟨s,z⟩,hb,hqb,b⟩
  have:xs=#[c0,.int .i64 ep,c2,c3]:=by rw [← Array.toArray_toList (xs:=xs),hcl]
  rw [this]
set_option maxRecDepth 20000 in
theorem client_agg {W:World} {base:Nat} {v:Value} (h:Value.okWide Tryz.prog W .any base 26 v):∃ xs,v=.agg xs:=by
 simp only [Value.okWide,Tryz.underlying26] at h
 obtain ⟨xs,e,_⟩:=h
 exact ⟨xs,e⟩
end Go.Proofs.YtjckkdjldnobmaaGreatDoor.Cas
