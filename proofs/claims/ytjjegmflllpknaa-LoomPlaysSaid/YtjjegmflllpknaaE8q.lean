import Derived.Test.YtjjegmflllpknaaZ9a
import Derived.Test.YtjjegmflllpknaaY2
import Derived.Test.YtjjegmflllpknaaX7b
import Derived.Test.YtjjegmflllpknaaE8p
import Derived.Lib.SmallJoins
namespace Go.Proofs.Ytjjegmflllpknaa.Drw
open Go.ChangeShapes Go.WideShapes Go.ChangeAt Go.RowKit Gf8 Aes By8 Cel Cf Tap
/- A []int as an argument. -/
theorem bytesI:Try.prog.bytesOf 3=8:=by kernel_rfl
theorem ints_read {H:Type} {enc:TypeId × Value->H} {W:World} {v:Value} {d:DataW H} {p:List MemPlace} (h:∃ fuel,DataW.trod enc Try.prog W 0 (fun _=>true) true fuel 22 v.cells.toList=some (d,p))
  (hw:∀ n ∈ d.weights Try.prog 22,n<=reachBytes) (hs:∃ a l c,v=.slice a l c):∃ (len:Nat) (f:Nat->Int),SliceI W v len f/\len<=17592186043904:=by
 obtain ⟨a0,len0,cap0,rfl⟩:=hs
 obtain ⟨fuel,hf⟩:=h
 have hr:reachBytes=140737488351232:=rfl
 rcases open_ints Try.underlying22 Try.underlying3 (by kernel_rfl) hf with ⟨hcs,_⟩ | ⟨x,l,c,zs,hcs,_,hl,hm,hz,hx,hcell,hwz⟩
 ·simp [Value.cells] at hcs
  obtain ⟨rfl,rfl,rfl⟩:=hcs
  exact ⟨0,fun _=>0,slice_nilI,by omega⟩
 ·simp [Value.cells] at hcs
  obtain ⟨rfl,rfl,rfl⟩:=hcs
  simp only [Prod.mk.injEq] at hx
  obtain ⟨rfl,rfl⟩:=hx
  have hzl:zs.length=cap0:=by simpa using hz
  have hb:8 * cap0<=140737488351232:=by
   have:=hw _ (by simp only [DataW.weights,Try.underlying22]; exact List.mem_cons_self)
   rw [bytesI] at this
   simp only [lits,List.length_map,List.length_take,List.length_drop] at this
   omega
  have key:∀ j,j < len0->-9223372036854775808<=zs.getD j 0/\zs.getD j 0 < 9223372036854775808:=fun j hj=>wf_i64 (hwz _ (by rw [List.getD_eq_getElem?_getD,List.getElem?_eq_getElem (by omega)]; exact List.getElem_mem _))
  refine ⟨len0,fun j=>zs.getD j 0,⟨⟨_,_,rfl,hl,by unfold maxLen; omega,fun h=>?_⟩,fun j hj=>key j hj⟩,by omega⟩
  obtain ⟨b,off,rfl,hc⟩:=ints_at hcell (by omega)
  exact ⟨b,off,rfl,World.block_lt_of_cell? W _ (hc 0 (by omega)),fun j hj=>hc j (by omega)⟩
end Go.Proofs.Ytjjegmflllpknaa.Drw

namespace Go.Proofs.Ytjjegmflllpknaa.Loo
open Go.ChangeShapes Go.WideShapes Go.ChangeAt Go.RowKit Gf8 Aes By8 Cel Cf Drw Prm
/- A Pipe as an argument. -/
set_option maxRecDepth 100000
theorem ints_readJ {H:Type} {enc:TypeId × Value->H} {W:World} {v:Value} {y:DataW H × List MemPlace} {fuel:Nat} (hf:DataW.trod enc Try.prog W 0 (fun _=>true) true fuel 22 [v]=some y)
  (hw:∀ n ∈ y.1.weights Try.prog 22,n<=reachBytes):∃ (len:Nat) (f:Nat->Int),SliceI W v len f/\len<=17592186043904:=by
 have hs:∃ a l c,v=.slice a l c:=by
  rcases open_ints Try.underlying22 Try.underlying3 (by kernel_rfl) hf with ⟨hcs,_⟩ | ⟨x,l,c,zs,hcs,_⟩
  ·exact ⟨_,_,_,by simpa using hcs⟩
  ·exact ⟨_,_,_,by simpa using hcs⟩
 obtain ⟨a,l,c,rfl⟩:=hs
 exact ints_read (d:=y.1) (p:=y.2) ⟨fuel,hf⟩ hw ⟨_,_,_,rfl⟩
end Go.Proofs.Ytjjegmflllpknaa.Loo
