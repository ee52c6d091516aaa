import Derived.Test.YtjckkdjldnobmaaGreatDoorC8c
import Derived.Test.YtjckkdjldnobmaaGreatDoorV8l
import Derived.Test.YtjckkdjldnobmaaGreatDoorD5b
import Derived.Test.YtjckkdjldnobmaaGreatDoorC8n
import Derived.Test.YtjckkdjldnobmaaGreatDoorCards
import Derived.Test.YtjckkdjldnobmaaGreatDoorTie
namespace Go.Proofs.YtjckkdjldnobmaaGreatDoor
open Go.ChangeShapes Go.WideShapes Go.ChangeAt Go.RowKit Gf8 Aes By8 Cel Oni Rou
set_option maxRecDepth 100000 in
theorem cmem_contract (H:Type) (enc:TypeId × Value->H) (W:World) (base:Nat) (args:Array Value) (ds gs:List (DataW H)) (before:List MemPlace)
  (hval:∀ (j:Nat) t v,Tryz.f3.params[j]?=some t->args[j]?=some v->Value.okWide Tryz.prog W .any base t v)
  (hW:DataW.Whole enc Tryz.prog Tryz.f3.params.toList Rows.cascadeMemorySpec.vars false W args.toList ds gs before)
  (hsz:(DataW.weightsEach Tryz.prog (Tryz.f3.params.toList ++ (OpenSpec.ofChange Rows.cascadeMemorySpec).bare.plain.varTypes Tryz.prog) (ds ++ gs)).all (·<=reachBytes)=true)
  (hL:laidMetH Tryz.prog All3.laidList W) :
  Calls Tryz.prog 3 args W fun e W'=>∃ v,e=.returned v/\Rows.cascadeMemorySpec.post enc Tryz.prog Tryz.f3 false true false false W args v W':=by
 have hW':=hW
 obtain ⟨p,q,hA0,hV,rfl,hfz,hnd⟩:=hW
 have hA:DataW.TrodAll enc Tryz.prog W 0 (fun _=>true) true Tryz.f3.params.toList args.toList ds p:=hA0
 rw [Tryz.params3] at hA hval hsz
 obtain ⟨v0,vs0,d0,ds0,p0,q0,hargs,rfl,rfl,h0,r0⟩:=trodAll_cons hA
 obtain ⟨v1,vs1,d1,ds1,p1,q1,rfl,rfl,rfl,h1,r1⟩:=trodAll_cons r0
 obtain ⟨rfl,rfl,rfl⟩:=trodAll_nil r1
 obtain rfl:args=#[v0,v1]:=by cases args; simp_all
 obtain ⟨rfl,rfl⟩:=trodVars_none hV
 have k0:=h0
 have lt0:∀ x ∈ p0,x.block < W.heap.size:=by obtain ⟨m,hm⟩:=k0; exact DataW.trod_lt m _ _ _ hm
 obtain ⟨mv0,nv0,pv0,ep0,h0k,h0n,n0,xv0,lk0,mk0,q0_,pp0,rfl,sl0,sn0,sz0,b0a,b0b,b0c⟩:=Cas.client_read h0 (fun n hn=>by
  have:=List.all_eq_true.1 hsz n (DataW.weights_mem_each (j:=0) (t:=26) (d:=d0) rfl rfl n hn)
  simpa using this) (Cas.client_agg (hval 0 26 v0 rfl rfl))
 have k1:=h1
 have lt1:∀ x ∈ p1,x.block < W.heap.size:=by obtain ⟨m,hm⟩:=k1; exact DataW.trod_lt m _ _ _ hm
 obtain ⟨m1,xv1,ln1,c1,s1,b1⟩:=Dro.cells_readW h1 (fun n hn=>by
  have:=List.all_eq_true.1 hsz n (DataW.weights_mem_each (j:=1) (t:=22) (d:=d1) rfl rfl n hn)
  simpa using this) (okWide_slice Tryz.underlying22 (hval 1 22 v1 rfl rfl))
 refine (Cas.memory25 Cas.implM h0k h0n n0 ep0 mv0 nv0 pv0 xv0 lk0 mk0 q0_ pp0 W (fun _ b=>(All3.gl_of hL).on b) sl0 sn0 sz0 m1 v1 xv1 ln1 c1 ⟨s1.shape,s1.cell,s1.nil,s1.lens⟩).mono fun e W' ⟨he,bel⟩=>?_
 subst he
 exact ⟨_,rfl,_,_,_,[],_,[],hW',trodAll_mk1 (shut_bool Tryz.underlying4 _),(trodAll_cons_mk (Below.trod laidOut (by kernel_rfl) (of_decide_eq_true (by kernel_rfl)) k0 bel lt0) (trodAll_cons_mk (Below.trod laidOut (by kernel_rfl) (of_decide_eq_true (by kernel_rfl)) k1 bel lt1) trodAll_mk0)),rfl,bel.frame _,fun h=>by cases h⟩
theorem cmem_met (os:Os):laidMet Tryz.prog Rows.cascadeMemoryRow.laid ((All3.layW (World.holding Tryz.prog os ⟨#[],#[],[]⟩)).forCall (fun _ _=>0) ⟨#[],#[.agg #[.slice none 0 0,.int .i64 0,.slice none 0 0,.slice none 0 0],.slice none 0 0],[]⟩).memory:=
 laidMet_of_run' 8 (by kernel_rfl) (by kernel_rfl)
theorem cmem_reads (os:Os) {H:Type} (enc:TypeId × Value->H):∃ places,DataW.whole enc Tryz.prog ((All3.layW (World.holding Tryz.prog os ⟨#[],#[],[]⟩)).forCall (fun _ _=>0) ⟨#[],#[.agg #[.slice none 0 0,.int .i64 0,.slice none 0 0,.slice none 0 0],.slice none 0 0],[]⟩).memory Tryz.f3.params.toList Rows.cascadeMemorySpec.vars false #[Value.agg #[.slice none 0 0,.int .i64 0,.slice none 0 0,.slice none 0 0],Value.slice none 0 0].toList 8=some ([.agg [.nil,.lit (.int .i64 0),.nil,.nil],.nil],[],places):=
 ⟨[],by kernel_rfl⟩
set_option maxRecDepth 100000 in
theorem cmem_lifted (os:Os) (started:os.Started) (H:Type) (enc:TypeId × Value->H) (F:Stop.Interp) :
  ReturnsInHanded {} Tryz.checked os 3 .any ((OpenSpec.ofChange Rows.cascadeMemorySpec).preRow enc Tryz.prog Tryz.f3 Rows.cascadeMemoryRow.domain false Rows.cascadeMemoryRow.laid) (((OpenSpec.ofChange Rows.cascadeMemorySpec).at F).post enc Tryz.prog Tryz.f3 false true false false):=by
 obtain ⟨places,hx⟩:=cmem_reads os enc
 refine returnsInHanded_of_row (C:=Tryz.checked) (s:=OpenSpec.ofChange Rows.cascadeMemorySpec) own started (by kernel_rfl) Tryz.func3
  (witness_row_at (enc:=enc) (C:=Tryz.checked) false (All3.layW (World.holding Tryz.prog os ⟨#[],#[],[]⟩)) #[.agg #[.slice none 0 0,.int .i64 0,.slice none 0 0,.slice none 0 0],.slice none 0 0] rfl (by kernel_rfl) (by kernel_rfl) (by kernel_rfl)
   (OpenSpec.preRow_of_cond 8 hx (by kernel_rfl) (fun k hk=>by cases hk) (by kernel_rfl) (cmem_met os))) ?_
 intro W base args ds gs before hval hW _ _ hsz hL _ _
 exact cmem_contract H enc W base args ds gs before hval hW hsz hL
theorem cmem_and {a b:Bool} (x:a=true) (y:b=true):(a && b)=true:=by rw [x,y]; rfl
set_option maxHeartbeats 0 in
theorem cmem_closed:joinedFacts Tryz.prog 3 Tryz.f3 (OpenSpec.ofChange Rows.cascadeMemorySpec).bare Rows.cascadeMemoryRow=true:=by
 unfold joinedFacts
 repeat (refine cmem_and ?_ ?_)
 all_goals first | with_reducible exact By8.laidOut | decide +kernel
theorem cmem_said:Rows.CascadeMemorySaid:=
 OpenClaim.holds_of_cond 3 Tryz.f3 rfl rfl rfl rfl rfl rfl rfl ⟨rfl,rfl,rfl,rfl,rfl⟩ rfl rfl rfl rfl rfl (by kernel_rfl) Tryz.func3 cmem_closed
  (of_decide_eq_true (by kernel_rfl)) (by unfold Func.isWrapper; first | (rw [if_pos (by decide +kernel)]; kernel_rfl) | (rw [if_neg (by decide +kernel)]; exact ⟨rfl,rfl⟩))
  (fun os started H enc _ F=>by rw [OpenClaim.pre_eq_preRow]; exact cmem_lifted os started H enc F)
theorem cmem_plain (f:FuncId) (fn:Func) (hf:Tryz.pinned.checked.prog.funcNamed "churn/churnlaw25.CascadeMemory"=some f) (hfn:Tryz.pinned.checked.prog.funcs[f]?=some fn) :
  false=Tryz.pinned.checked.prog.looks []/\∀ (j:Nat) t,fn.params[j]?=some t->Tryz.pinned.checked.prog.wantsStandIn t=false:=by
 obtain rfl:f=3:=Option.some.inj ((show Tryz.prog.funcNamed "churn/churnlaw25.CascadeMemory"=some 3 by kernel_rfl).symm.trans hf) |>.symm
 obtain rfl:fn=Tryz.f3:=(Option.some.inj (Tryz.func3.symm.trans hfn)).symm
 refine ⟨by kernel_rfl,fun j t ht=>?_⟩
 rw [Tryz.params3] at ht
 have:t=26\/t=22:=by
  have hm:=Array.mem_of_getElem? ht
  simp at hm
  first | omega | (rcases hm with h | h | h <;> simp [h])
 rcases this with rfl | rfl
 ·exact (show Tryz.prog.wantsStandIn 26=false by kernel_rfl)
 ·exact (show Tryz.prog.wantsStandIn 22=false by kernel_rfl)
theorem cmem_holds:Rows.CascadeMemoryCardSaid:=
 All3.holds_goes_at .later _ _ _ _ true cmem_said (by kernel_rfl) cascadeMemory_row_tie rfl ⟨rfl,rfl⟩ (by kernel_rfl) rfl cmem_plain (by kernel_rfl)
end Go.Proofs.YtjckkdjldnobmaaGreatDoor
