import Derived.Test.YtmjpneaccjlpkaaZ9a
import Derived.Test.YtmjpneaccjlpkaaY2
import Derived.Test.YtmjpneaccjlpkaaY3
import Derived.Test.YtmjpneaccjlpkaaQ9s
import Derived.Lib.SmallJoins
import Derived.Deep.SlicePairs
import Derived.Test.YtmjpneaccjlpkaaX9j
namespace Go.Proofs.Ytmjpneaccjlpkaa.Drw
open Go.ChangeShapes Go.WideShapes Go.ChangeAt Go.RowKit Gf8 Aes By8 Cel Cf Tap
/- A []int as an argument. -/
theorem bytesI:Try.prog.bytesOf 3=8:=by kernel_rfl
end Go.Proofs.Ytmjpneaccjlpkaa.Drw

namespace Go.Proofs.Ytmjpneaccjlpkaa.Drw
open Go.ChangeShapes Go.WideShapes Go.ChangeAt Go.RowKit Gf8 Aes By8 Cel Cf Tap
/- A []int as an argument; nil has no room. -/
theorem ints_readZ {H:Type} {enc:TypeId × Value->H} {W:World} {v:Value} {d:DataW H} {p:List MemPlace} (h:∃ fuel,DataW.trod enc Try.prog W 0 (fun _=>true) true fuel 24 v.cells.toList=some (d,p))
  (hw:∀ n ∈ d.weights Try.prog 24,n<=reachBytes) (hs:∃ a l c,v=.slice a l c):∃ (len:Nat) (f:Nat->Int),SliceI W v len f/\len<=17592186043904/\∀ l c,v=.slice none l c->c=0:=by
 obtain ⟨a0,len0,cap0,rfl⟩:=hs
 obtain ⟨fuel,hf⟩:=h
 have hr:reachBytes=140737488351232:=rfl
 rcases open_ints Try.underlying24 Try.underlying3 (by kernel_rfl) hf with ⟨hcs,_⟩ | ⟨x,l,c,zs,hcs,_,hl,hm,hz,hx,hcell,hwz⟩
 ·simp [Value.cells] at hcs
  obtain ⟨rfl,rfl,rfl⟩:=hcs
  exact ⟨0,fun _=>0,slice_nilI,by omega,fun l c e=>by injection e with _ _ e; exact e.symm⟩
 ·simp [Value.cells] at hcs
  obtain ⟨rfl,rfl,rfl⟩:=hcs
  simp only [Prod.mk.injEq] at hx
  obtain ⟨rfl,rfl⟩:=hx
  have hzl:zs.length=cap0:=by simpa using hz
  have hb:8 * cap0<=140737488351232:=by
   have:=hw _ (by simp only [DataW.weights,Try.underlying24]; exact List.mem_cons_self)
   rw [bytesI] at this
   simp only [lits,List.length_map,List.length_take,List.length_drop] at this
   omega
  have key:∀ j,j < len0->-9223372036854775808<=zs.getD j 0/\zs.getD j 0 < 9223372036854775808:=fun j hj=>wf_i64 (hwz _ (by rw [List.getD_eq_getElem?_getD,List.getElem?_eq_getElem (by omega)]; exact List.getElem_mem _))
  refine ⟨len0,fun j=>zs.getD j 0,⟨⟨_,_,rfl,hl,by unfold maxLen; omega,fun h=>?_⟩,fun j hj=>key j hj⟩,by omega,fun l c e=>by cases e⟩
  obtain ⟨b,off,rfl,hc⟩:=ints_at hcell (by omega)
  exact ⟨b,off,rfl,World.block_lt_of_cell? W _ (hc 0 (by omega)),fun j hj=>hc j (by omega)⟩
end Go.Proofs.Ytmjpneaccjlpkaa.Drw

namespace Go.Proofs.Ytmjpneaccjlpkaa.Brd
open Go.ChangeShapes Go.WideShapes Go.ChangeAt Go.RowKit Gf8 Aes By8 Cel Cf Tap Drw Prm
/- An Ask, and a []Ask, as an argument. -/
theorem ints_readJ {H:Type} {enc:TypeId × Value->H} {W:World} {v:Value} {y:DataW H × List MemPlace} {fuel:Nat} (hf:DataW.trod enc Try.prog W 0 (fun _=>true) true fuel 24 [v]=some y)
  (hw:∀ n ∈ y.1.weights Try.prog 24,n<=reachBytes):∃ (len:Nat) (f:Nat->Int),SliceI W v len f/\len<=17592186043904/\∀ l c,v=.slice none l c->c=0:=by
 have hs:∃ a l c,v=.slice a l c:=by
  rcases open_ints Try.underlying24 Try.underlying3 (by kernel_rfl) hf with ⟨hcs,_⟩ | ⟨x,l,c,zs,hcs,_⟩
  ·exact ⟨_,_,_,by simpa using hcs⟩
  ·exact ⟨_,_,_,by simpa using hcs⟩
 obtain ⟨a,l,c,rfl⟩:=hs
 exact ints_readZ (d:=y.1) (p:=y.2) ⟨fuel,hf⟩ hw ⟨_,_,_,rfl⟩
end Go.Proofs.Ytmjpneaccjlpkaa.Brd

namespace Go.Proofs.Ytmjpneaccjlpkaa.Rif
open Go.ChangeShapes Go.WideShapes Go.ChangeAt Go.RowKit Gf8 Aes By8 Cel Cf Tap Drw Prm Brd
/- A Job of churnlaw13 as an argument. -/
set_option maxRecDepth 100000
theorem job13Cells:Try.prog.cellsOf 38=4:=by kernel_rfl
theorem job13_read {H:Type} {enc:TypeId × Value->H} {W:World} {v:Value} {d:DataW H} {p:List MemPlace} (h:∃ fuel,DataW.trod enc Try.prog W 0 (fun _=>true) true fuel 38 v.cells.toList=some (d,p))
  (hw:∀ n ∈ d.weights Try.prog 38,n<=reachBytes) (hs:∃ xs,v=.agg xs) :
  ∃ (v0 v3:Value) (n ch:Int) (l m:Nat) (f:Nat->Nat) (g:Nat->Int),v=.agg (akC v0 (.int .i64 n) (.int .i64 ch) v3)/\SliceN W v0 l f/\l<=140737488351232/\(∀ l c,v0=.slice none l c->c=0)/\SliceI W v3 m g/\m<=17592186043904/\∀ l c,v3=.slice none l c->c=0:=by
 obtain ⟨xs,rfl⟩:=hs
 obtain ⟨fuel,hf⟩:=h
 obtain ⟨y0,y1,y2,y3,k,hy,hl,t0,t1,t2,t3⟩:=Go.Joins.trod_struct4 Try.underlying38 hf
 rw [job13Cells] at hl
 have hl2:xs.toList.length=4:=hl
 obtain ⟨l⟩:=xs
 match l,hl2 with
 | [v0,v1,v2,v3],_=>
  have k1:Try.prog.cellsOf 24=1:=by kernel_rfl
  have k2:Try.prog.cellsOf 23=1:=by kernel_rfl
  have k3:Try.prog.cellsOf 3=1:=by kernel_rfl
  have hc:(Value.agg ⟨[v0,v1,v2,v3]⟩).cells.toList=[v0,v1,v2,v3]:=rfl
  rw [hc] at t0 t1 t2 t3
  simp [k1,k2,k3] at t0 t1 t2 t3
  have hD:d=.agg [y0.1,y1.1,y2.1,y3.1]:=by simpa using (Prod.mk.inj hy).1
  have h0:∀ n ∈ y0.1.weights Try.prog 23,n<=reachBytes:=fun n hn=>hw n (by
   rw [hD]
   simp only [DataW.weights,Try.underlying38]
   simp [DataW.weightsEach,hn])
  have h3:∀ n ∈ y3.1.weights Try.prog 24,n<=reachBytes:=fun n hn=>hw n (by
   rw [hD]
   simp only [DataW.weights,Try.underlying38]
   simp [DataW.weightsEach,hn])
  obtain ⟨a1,e1,_,_⟩:=DataW.trod_int Try.underlying3 t1
  obtain ⟨a2,e2,_,_⟩:=DataW.trod_int Try.underlying3 t2
  obtain ⟨l0,f0,s0,b0,z0⟩:=bytes_readJ t0 h0
  obtain ⟨l3,f3,s3,b3,z3⟩:=ints_readJ t3 h3
  have e1':v1=.int .i64 a1:=by simpa using e1
  have e2':v2=.int .i64 a2:=by simpa using e2
  subst e1' e2'
  exact ⟨v0,v3,a1,a2,l0,l3,f0,f3,rfl,s0,b0,z0,s3,b3,z3⟩
theorem job13_agg {W:World} {base:Nat} {v:Value} (h:Value.okWide Try.prog W .any base 38 v):∃ xs,v=.agg xs:=by
 simp only [Value.okWide,Try.underlying38] at h
 obtain ⟨xs,e,_⟩:=h
 exact ⟨xs,e⟩
end Go.Proofs.Ytmjpneaccjlpkaa.Rif
