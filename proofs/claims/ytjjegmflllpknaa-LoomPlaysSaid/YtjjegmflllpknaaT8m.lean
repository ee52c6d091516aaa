import Derived.Test.YtjjegmflllpknaaE8q
import Derived.Test.YtjjegmflllpknaaE8u
import Derived.Test.YtjjegmflllpknaaX7b
import Derived.Deep.Slices
import Derived.ChangeSame
import Derived.Test.YtjjegmflllpknaaT8d
import Derived.Test.YtjjegmflllpknaaE8n
import Derived.Test.YtjjegmflllpknaaP8n
import Derived.Deep.AppendSrc
namespace Go.Proofs.Ytjjegmflllpknaa.Loo
open Go.ChangeShapes Go.WideShapes Go.ChangeAt Go.RowKit Gf8 Aes By8 Cel Cf Win Drw Prm
/- A plan, and a []api.Plan, as an argument. -/
set_option maxRecDepth 100000
theorem opCells:Try.prog.cellsOf 59=3:=by kernel_rfl
theorem planCells:Try.prog.cellsOf 25=2:=by kernel_rfl
theorem cs19:Try.prog.cellsOf 3=1:=by kernel_rfl
theorem trod_3 {H:Type} {enc:TypeId × Value->H} {P:Program} {w:World} {base:Nat} {spare:Nat->Bool} {held:Bool} {t:TypeId} {f0 f1 f2:Field} {fuel:Nat} {cs:List Value} {x:DataW H × List MemPlace} (ht:P.underlying t=some (.struct #[f0,f1,f2])) (h:DataW.trod enc P w base spare held fuel t cs=some x) :
  ∃ y0 y1 y2 n,cs.length=P.cellsOf t/\DataW.trod enc P w base spare held n f0.type ((cs.drop f0.offset).take (P.cellsOf f0.type))=some y0/\DataW.trod enc P w base spare held n f1.type ((cs.drop f1.offset).take (P.cellsOf f1.type))=some y1/\DataW.trod enc P w base spare held n f2.type ((cs.drop f2.offset).take (P.cellsOf f2.type))=some y2:=by
 obtain ⟨xs,n,_,rfl,hl,hlen,hf⟩:=DataW.trod_struct ht h
 match xs,hlen with
 | [y0,y1,y2],_=>exact ⟨y0,y1,y2,n,hl,by simpa using hf 0 f0 rfl,by simpa using hf 1 f1 rfl,by simpa using hf 2 f2 rfl⟩
theorem ops_read {H:Type} {enc:TypeId × Value->H} {W:World} {v:Value} {y:DataW H × List MemPlace} {fuel:Nat} (hf:DataW.trod enc Try.prog W 0 (fun _=>true) true fuel 79 [v]=some y):∃ n o,SliceO W v n o:=by
 rcases Deep.open_slice Try.underlying79 hf with ⟨hcs,_⟩ | ⟨a,len,cap,m,fu,D,Pl,hcs,_,hl,hm,hmm,hx,hel⟩
 ·obtain rfl:v=.slice none 0 0:=by simpa using hcs
  exact ⟨0,fun _=>⟨0,0,0⟩,⟨_,_,rfl,fun h=>absurd h (Nat.lt_irrefl _)⟩,fun j hj=>absurd hj (Nat.not_lt_zero j)⟩
 ·obtain rfl:v=.slice (some a) len cap:=by simpa using hcs
  simp only [if_true] at hmm
  have each:∀ i,i < len->∃ q:Op3,(W.cell? (a.add (i * 3))=some (.int .i64 q.k)/\W.cell? (a.add (i * 3+1))=some (.int .i64 q.a)/\W.cell? (a.add (i * 3+2))=some (.int .i64 q.b))/\I64 q.k/\I64 q.a/\I64 q.b:=by
   intro i hi
   obtain ⟨cs',h1,h2⟩:=hel i (by omega)
   rw [opCells] at h1
   obtain ⟨_,hlen,hcell⟩:=World.cells?_some h1
   obtain ⟨y0,y1,y2,k,_,t0,t1,t2⟩:=trod_3 Try.underlying59 h2
   simp only [cs19] at t0 t1 t2
   obtain ⟨z0,e0,_,w0⟩:=DataW.trod_int Try.underlying3 t0
   obtain ⟨z1,e1,_,w1⟩:=DataW.trod_int Try.underlying3 t1
   obtain ⟨z2,e2,_,w2⟩:=DataW.trod_int Try.underlying3 t2
   match cs',hlen with
   | [v0,v1,v2],_=>
    have c0:=hcell 0 (by omega)
    have c1:=hcell 1 (by omega)
    have c2:=hcell 2 (by omega)
    rw [Deep.add_add] at c0 c1 c2
    simp at e0 e1 e2 c0 c1 c2
    subst e0 e1 e2
    exact ⟨⟨z0,z1,z2⟩,⟨c0,c1,c2⟩,wf_i64 w0,wf_i64 w1,wf_i64 w2⟩
  haveI : Inhabited Op3 := ⟨⟨0, 0, 0⟩⟩
  haveI : Inhabited Loo.Pl := ⟨⟨0, 0, fun _ => 0, fun _ => 0, fun _ _ => ⟨0, 0, 0⟩⟩⟩
  obtain ⟨q,hq⟩:=Deep.choose_lt each
  refine ⟨len,q,⟨_,_,rfl,fun hp=>?_⟩,fun i hi=>(hq i hi).2⟩
  obtain ⟨b,off,spot⟩:=a
  have hc0:=(hq 0 hp).1.1
  have hspot:spot=none:=by simpa [Addr.add] using World.cell?_spot hc0
  subst hspot
  refine ⟨b,off,rfl,World.block_lt_of_cell? W _ hc0,fun i hi=>?_⟩
  have h1:=(hq i hi).1
  simp only [Go.WideShapes.add_plain,← Nat.add_assoc] at h1
  exact h1
theorem tasks_read {H:Type} {enc:TypeId × Value->H} {W:World} {v:Value} {y:DataW H × List MemPlace} {fuel:Nat} (hf:DataW.trod enc Try.prog W 0 (fun _=>true) true fuel 23 [v]=some y):∃ (n:Nat) (x:Nat->Value) (ln:Nat->Nat) (op:Nat->Nat->Op3),SliceV W v n x/\∀ t,t < n->SliceO W (x t) (ln t) (op t):=by
 rcases Deep.open_slice1 Try.underlying23 (by kernel_rfl) hf with ⟨hcs,_⟩ | ⟨a,len,cap,m,fu,U,D,Pl,hcs,_,hl,hm,hmm,hx,hel⟩
 ·obtain rfl:v=.slice none 0 0:=by simpa using hcs
  exact ⟨0,fun _=>.slice none 0 0,fun _=>0,fun _ _=>⟨0,0,0⟩,⟨_,_,rfl,fun h=>absurd h (Nat.lt_irrefl _)⟩,fun j hj=>absurd hj (Nat.not_lt_zero j)⟩
 ·obtain rfl:v=.slice (some a) len cap:=by simpa using hcs
  simp only [if_true] at hmm
  have each:∀ i,i < len->∃ q:Nat × (Nat->Op3),SliceO W (U i) q.1 q.2:=fun i hi=>by
   obtain ⟨n,o,h⟩:=ops_read (hel i (by omega)).2
   exact ⟨(n,o),h⟩
  haveI : Inhabited Op3 := ⟨⟨0, 0, 0⟩⟩
  haveI : Inhabited Loo.Pl := ⟨⟨0, 0, fun _ => 0, fun _ => 0, fun _ _ => ⟨0, 0, 0⟩⟩⟩
  obtain ⟨q,hq⟩:=Deep.choose_lt each
  refine ⟨len,U,fun i=>(q i).1,fun i=>(q i).2,⟨_,_,rfl,fun hp=>?_⟩,hq⟩
  obtain ⟨b,off,spot⟩:=a
  have hc0:=(hel 0 (by omega)).1
  have hspot:spot=none:=by simpa [Addr.add] using World.cell?_spot hc0
  subst hspot
  refine ⟨b,off,rfl,World.block_lt_of_cell? W _ hc0,fun i hi=>?_⟩
  have h1:=(hel i (by omega)).1
  rw [Go.WideShapes.add_plain] at h1
  exact h1
theorem plan_readJ {H:Type} {enc:TypeId × Value->H} {W:World} {cs:List Value} {y:DataW H × List MemPlace} {fuel:Nat} (hf:DataW.trod enc Try.prog W 0 (fun _=>true) true fuel 25 cs=some y)
  (hw:∀ n ∈ y.1.weights Try.prog 25,n<=reachBytes):∃ cv tv p,cs=[cv,tv]/\PlA W (.agg #[cv,tv]) p:=by
 obtain ⟨y0,y1,k,hy,hl,t0,t1⟩:=trod_struct2 Try.underlying25 hf
 rw [planCells] at hl
 match cs,hl with
 | [cv,tv],_=>
  have k1:Try.prog.cellsOf 22=1:=by kernel_rfl
  have k2:Try.prog.cellsOf 23=1:=by kernel_rfl
  simp [k1,k2] at t0 t1
  have h0:∀ n ∈ y0.1.weights Try.prog 22,n<=reachBytes:=fun n hn=>hw n (by
   rw [hy]
   simp only [DataW.weights,Try.underlying25]
   simp [DataW.weightsEach,hn])
  obtain ⟨l0,f0,s0,_⟩:=ints_readJ t0 h0
  obtain ⟨n,x,ln,op,s1,s2⟩:=tasks_read t1
  exact ⟨cv,tv,⟨l0,n,f0,ln,op⟩,rfl,cv,tv,x,rfl,s0,s1,s2⟩
theorem plan_read {H:Type} {enc:TypeId × Value->H} {W:World} {v:Value} {d:DataW H} {p:List MemPlace} (h:∃ fuel,DataW.trod enc Try.prog W 0 (fun _=>true) true fuel 25 v.cells.toList=some (d,p))
  (hw:∀ n ∈ d.weights Try.prog 25,n<=reachBytes) (hs:∃ xs,v=.agg xs):∃ q,PlA W v q:=by
 obtain ⟨xs,rfl⟩:=hs
 obtain ⟨fuel,hf⟩:=h
 obtain ⟨cv,tv,q,e,hp⟩:=plan_readJ hf hw
 have e2:xs.toList=[cv,tv]:=e
 obtain ⟨l⟩:=xs
 have e3:l=[cv,tv]:=e2
 subst e3
 exact ⟨q,hp⟩
theorem plan_agg {W:World} {base:Nat} {v:Value} (h:Value.okWide Try.prog W .any base 25 v):∃ xs,v=.agg xs:=by
 simp only [Value.okWide,Try.underlying25] at h
 obtain ⟨xs,e,_⟩:=h
 exact ⟨xs,e⟩
end Go.Proofs.Ytjjegmflllpknaa.Loo

namespace Go.Proofs.Ytjjegmflllpknaa.Loo
open Go.RowKit Gf8 Aes By8 Cel Cf Win Drw Prm
/- LoomPlays: lists of ints at any offset, rows of values; append to them. -/
def Hd (B:Nat) (W:World) (v:Value) (l:List Int):Prop:=
 (v=.slice none 0 0/\l=[])\/∃ b off cap cur,v=.slice (some ⟨b,off,none⟩) l.length cap/\B<=b/\W.heap[b]?=some (.cells cur 3)/\off+cap<=cur.size/\l.length<=cap/\cap<=maxLen/\∀ j,j < l.length->cur[off+j]?=some (.int .i64 (l.getD j 0))
section
variable {B:Nat} {W X:World} {v:Value} {l:List Int}
theorem Hd.keep (h:Hd B W v l) (e:∀ b,v.ownBlock=some b->X.heap[b]?=W.heap[b]?):Hd B X v l:=by
 rcases h with h | ⟨b,off,cap,cur,e1,e2,e3,e4⟩
 ·exact Or.inl h
 ·exact Or.inr ⟨b,off,cap,cur,e1,e2,(e b (by rw [e1]; rfl)).trans e3,e4⟩
theorem Hd.lt (h:Hd B W v l):∀ b,v.ownBlock=some b->B<=b/\b < W.heap.size:=fun b hb=>by
 rcases h with ⟨e,_⟩ | ⟨b2,off,cap,cur,e1,e2,e3,e4⟩
 ·rw [e] at hb; cases hb
 ·rw [e1] at hb; cases hb; exact ⟨e2,(Array.getElem?_eq_some_iff.1 e3).1⟩
theorem Hd.ty (h:Hd B W v l):∀ b,v.ownBlock=some b->∃ cur,W.heap[b]?=some (.cells cur 3):=fun b hb=>by
 rcases h with ⟨e,_⟩ | ⟨b2,off,cap,cur,e1,e2,e3,e4⟩
 ·rw [e] at hb; cases hb
 ·rw [e1] at hb; cases hb; exact ⟨cur,e3⟩
theorem Hd.on (h:Hd B W v l) (b:Below W.heap.size W X):Hd B X v l:=h.keep fun k hk=>b.block k (h.lt k hk).2
theorem Hd.shp (h:Hd B W v l):∃ a c,v=.slice a l.length c:=by
 rcases h with ⟨e,rfl⟩ | ⟨b,off,cap,cur,e1,e2,e3,e4⟩
 ·exact ⟨_,_,e⟩
 ·exact ⟨_,_,e1⟩
theorem Hd.nil:Hd B W (.slice none 0 0) []:=Or.inl ⟨rfl,rfl⟩
theorem Hd.base {A:Nat} (h:Hd B W v l) (hA:A<=B):Hd A W v l:=by
 rcases h with h | ⟨b,off,cap,cur,e1,e2,e3⟩
 ·exact Or.inl h
 ·exact Or.inr ⟨b,off,cap,cur,e1,Nat.le_trans hA e2,e3⟩
theorem Hd.slice (h:Hd B W v l) (hf:∀ x ∈ l,I64 x):SliceI W v l.length (fun j=>l.getD j 0):=by
 have key:∀ j,j < l.length->I64 (l.getD j 0):=fun j hj=>hf _ (by rw [List.getD_eq_getElem?_getD,List.getElem?_eq_getElem hj]; exact List.getElem_mem hj)
 rcases h with ⟨e,rfl⟩ | ⟨b,off,cap,cur,e1,e2,e3,e4,e5,e6,e7⟩
 ·rw [e]; exact slice_nilI
 ·rw [e1]
  refine ⟨⟨_,_,rfl,e5,e6,fun _=>⟨b,off,rfl,(Array.getElem?_eq_some_iff.1 e3).1,fun j hj=>?_⟩⟩,key⟩
  rw [cell_of_row _ _ _ _ _ _ e3]
  exact e7 j hj
theorem Hd.first {x:Int} (h:Hd B W v (x :: l)):∃ b off cap,v=.slice (some ⟨b,off,none⟩) (l.length+1) cap/\W.cell? ⟨b,off+0,none⟩=some (.int .i64 x)/\l.length+1<=cap/\Hd B W (.slice (some ⟨b,if cap=1 then off else off+1,none⟩) l.length (cap - 1)) l:=by
 rcases h with ⟨_,e⟩ | ⟨b,off,cap,cur,e1,e2,e3,e4,e5,e6,e7⟩
 ·cases e
 ·have e5':l.length+1<=cap:=e5
  refine ⟨b,off,cap,e1,?_,e5',Or.inr ⟨b,_,_,cur,rfl,e2,e3,?_,by omega,by omega,fun j hj=>?_⟩⟩
  ·rw [cell_of_row _ _ _ _ _ _ e3]
   exact e7 0 (by show 0 < l.length+1; omega)
  ·split <;> omega
  ·have:=e7 (j+1) (by show j+1 < l.length+1; omega)
   rw [if_neg (by omega),Nat.add_assoc,Nat.add_comm 1 j]
   exact this
end
theorem nextcap19 {need old:Nat} (h:old < need) (hn:need<=100000):Builtin.nextslicecap need old * 8<=281474976710656:=by
 unfold Builtin.nextslicecap
 split
 ·omega
 ·split
  ·omega
  ·rw [growBy_four]
   repeat' split
   all_goals omega
set_option maxRecDepth 100000 in
theorem run_appHd {B g:Nat} {W:World} {v:Value} {l:List Int} {x:Int} (ty:TypeId) (h:Hd B W v l) (hg:W.heap[g]?=some (.cells #[.int .i64 x] 3)) (hl:l.length<=65536) (hB:B<=W.heap.size) :
  ∃ v' W',(Builtin.append_ #[22,22] ty #[v,.slice (some ⟨g,0,none⟩) 1 1]).run Try.prog W=.ok v' W'/\Hd B W' v' (l ++ [x])/\W.grownBy W' v.ownBlock/\(v'.ownBlock=v.ownBlock\/v'.ownBlock=some W.heap.size):=by
 obtain ⟨i,i1,i2,i3,i4⟩:=infoI
 have hs:Src Try.prog i.size 22 (.slice (some ⟨g,0,none⟩) 1 1) 1 [.int .i64 x] W:=Src.ofSlice W Try.underlying22 _ 1 1 _ (by rw [i3]; rfl) (fun j u hu=>by
  rw [Go.WideShapes.add_plain,cell_of_row _ _ _ _ _ _ hg,Nat.zero_add]
  exact (List.getElem?_toArray ..).trans hu) (fun u hu=>by
   simp only [List.mem_cons,List.not_mem_nil,or_false] at hu
   rw [hu]; rfl)
 have hlen:(l ++ [x]).length=l.length+1:=by simp
 have get_new:∀ (olds:List Value) (z:Array Value),olds=l.map (Value.int .i64)->∀ j,j < (l ++ [x]).length->((olds ++ [Value.int .i64 x]).toArray ++ z)[0+j]?=some (.int .i64 ((l ++ [x]).getD j 0)):=by
  intro olds z e j hj
  have e2:olds ++ [.int .i64 x]=(l ++ [x]).map (Value.int .i64):=by rw [e]; simp
  rw [Nat.zero_add,Array.getElem?_append_left (by rw [e2]; simpa using hj),e2,List.getElem?_toArray,List.getElem?_map,List.getD_eq_getElem?_getD,List.getElem?_eq_getElem hj]
  rfl
 have grown:∀ (base:Option Addr) (c:Nat) (row:Option Nat),c < l.length+1->(Builtin.firstCells i.size l.length (.slice base l.length c)).run Try.prog W.drew=.ok (l.map (Value.int .i64)).toArray W.drew->
   ∃ v' W',(Builtin.append_ #[22,22] ty #[.slice base l.length c,.slice (some ⟨g,0,none⟩) 1 1]).run Try.prog W=.ok v' W'/\Hd B W' v' (l ++ [x])/\W.grownBy W' row/\v'.ownBlock=some W.heap.size:=by
  intro base c row hc hold
  have hr:=run_append_grow_src W 22 22 ty 3 i (.int .i64 0) Try.underlying22 i1 i2 base l.length c _ hold _ 1 _ hs hc (by omega) (by rw [i4]; exact nextcap19 hc (by omega))
  have hge:=grownCap_ge W (l.length+1) c 3
  have hle:=grownCap_le_maxLen W (l.length+1) c 3 (by unfold maxLen; omega)
  refine ⟨_,_,hr,Or.inr ⟨W.heap.size,0,grownCap W (l.length+1) c 3,_,by rw [hlen],hB,heapNew W.drew _,?_,by rw [hlen]; exact hge,hle,get_new _ _ rfl⟩,?_,rfl⟩
  ·simp [Builtin.zeroCells,Value.cells]; omega
  ·refine ⟨rfl,rfl,rfl,?_,fun k hk _=>?_⟩
   ·exact (belNew W.drew _).size
   ·exact (belNew W.drew _).block k hk
 rcases h with ⟨rfl,rfl⟩ | ⟨b,off,cap,cur,rfl,e2,e3,e4,e5,e6,e7⟩
 ·obtain ⟨v',W',h1,h2,h3,h4⟩:=grown none 0 none (by simp) (by simpa using run_firstCells_none W.drew i.size 0 0 0)
  exact ⟨v',W',h1,h2,h3,Or.inr h4⟩
 ·by_cases hroom:l.length+1<=cap
  ·have hc:∀ j,j < ([.int .i64 x]:List Value).length->(W.cell? ⟨b,off+l.length * i.size+j,none⟩).isSome=true:=fun j hj=>by
    rw [cell_of_row _ _ _ _ _ _ e3,i3]
    simp only [List.length_singleton] at hj
    rw [Array.getElem?_eq_getElem (by omega)]
    rfl
   have hr:=run_append_room_src W 22 22 ty 3 i Try.underlying22 i1 b off l.length cap _ 1 _ hs hroom hc (fun j hj=>frozen4 e3)
   rw [i3,Nat.mul_one] at hr
   refine ⟨_,_,hr,Or.inr ⟨b,off,cap,cur.setIfInBounds (off+l.length) (.int .i64 x),by rw [hlen],e2,heap4 _ e3,by simpa using e4,by rw [hlen]; exact hroom,e6,fun j hj=>?_⟩,grC19,Or.inl rfl⟩
   rw [hlen] at hj
   rw [Array.getElem?_setIfInBounds]
   by_cases e:j=l.length
   ·rw [e,if_pos rfl,if_pos (by omega),List.getD_eq_getElem?_getD,List.getElem?_append_right (Nat.le_refl _),Nat.sub_self]
    rfl
   ·rw [if_neg (by omega),e7 j (by omega),List.getD_eq_getElem?_getD,List.getD_eq_getElem?_getD,List.getElem?_append_left (by omega)]
  ·obtain ⟨v',W',h1,h2,h3,h4⟩:=grown (some ⟨b,off,none⟩) cap (some b) (by omega) (by
    refine run_firstCells_some W.drew i.size l.length _ l.length cap _ (by rw [i3]; simp) (fun j u hu=>?_)
    have hj:j < l.length:=by have:=(List.getElem?_eq_some_iff.1 hu).1; simpa using this
    show W.cell? _=_
    rw [Go.WideShapes.add_plain,cell_of_row _ _ _ _ _ _ e3,e7 j hj,← hu,List.getElem?_map,List.getD_eq_getElem?_getD,List.getElem?_eq_getElem hj]
    rfl)
   exact ⟨v',W',h1,h2,h3,Or.inr h4⟩
end Go.Proofs.Ytjjegmflllpknaa.Loo

namespace Go.Proofs.Ytjjegmflllpknaa.Loo
open Go.RowKit Gf8 Aes By8 Cel Cf Win Drw Prm
/- LoomPlays: the reference's Room in memory, its writes. Written by tools/mkT8m.py. -/
structure RK where
 g:Nat
 P:Nat
 R:Nat
 E:Nat
 T:Nat
 H:Nat
 C:Nat
 G:Nat
 K:Nat
abbrev sl0 (b n:Nat):Value:=.slice (some ⟨b,0,none⟩) n n
def gR (q:RK) (n d:Nat) (cv tz:Value) (lt:Nat):Array Value:=#[cv,tz,sl0 q.P n,sl0 q.R n,sl0 q.E n,sl0 q.T n,sl0 q.H d,sl0 q.C d,sl0 q.G d,sl0 q.K d,.int .i64 ((lt:Nat):Int)]
structure RmM (B:Nat) (W:World) (q:RK) (p:Pl) (cv tz:Value) (r:Rm) (gv kv:Nat->Int) (tv hv:Nat->Value) (ow:Nat->Nat):Prop where
 hg:W.heap[q.g]?=some (.cells (gR q p.n p.d cv tz r.lt) 57)
 hP:W.heap[q.P]?=some (.cells (Duc.rA p.n (fun t=>.int .i64 ((r.pl t:Nat):Int))) 3)
 hR:W.heap[q.R]?=some (.cells (Duc.rA p.n (fun t=>.int .i64 (r.rg t))) 3)
 hE:W.heap[q.E]?=some (.cells (Duc.rA p.n (fun t=>.bool (r.en t))) 4)
 hT:W.heap[q.T]?=some (.cells (Duc.rA p.n (tv)) 22)
 hH:W.heap[q.H]?=some (.cells (Duc.rA p.d (hv)) 22)
 hC:W.heap[q.C]?=some (.cells (Duc.rA p.d (fun i=>.bool (r.cl i))) 4)
 hG:W.heap[q.G]?=some (.cells (Duc.rA p.d (fun i=>.int .i64 (gv i))) 3)
 hK:W.heap[q.K]?=some (.cells (Duc.rA p.d (fun i=>.int .i64 (kv i))) 3)
 tk:∀ t,t < p.n->Hd B W (tv t) (r.tk t)
 hd:∀ i,i < p.d->Hd B W (hv i) (r.hd i)
 lg:ow q.g=9
 lP:ow q.P=1
 lR:ow q.R=2
 lE:ow q.E=3
 lT:ow q.T=4
 lH:ow q.H=5
 lC:ow q.C=6
 lG:ow q.G=7
 lK:ow q.K=8
 ltk:∀ t,t < p.n->∀ b,(tv t).ownBlock=some b->ow b=10+2 * t
 lhd:∀ i,i < p.d->∀ b,(hv i).ownBlock=some b->ow b=11+2 * i
 low:∀ b,b < B->ow b=0
 le:B<=W.heap.size
theorem ne_lab {ow:Nat->Nat} {a b x y:Nat} (h:ow a=x) (h2:ow b=y) (e:x ≠ y):a ≠ b:=fun z=>e (by rw [← h,← h2,z])
theorem rA_cg {m:Nat} {y y':Nat->Value} (h:∀ i,i < m->y i=y' i):Duc.rA m y=Duc.rA m y':=by
 unfold Duc.rA
 rw [List.map_congr_left (fun i hi=>h i (List.mem_range.1 hi))]
theorem row_set {W:World} {b m i:Nat} {y y':Nat->Value} {u:Value} {ty:TypeId} (h:W.heap[b]?=some (.cells (Duc.rA m y) ty)) (hi:i < m) (e:∀ j,j < m->y' j=if j=i then u else y j):(W.setCell ⟨b,0+i,none⟩ u).heap[b]?=some (.cells (Duc.rA m y') ty):=by
 rw [heap4 _ h,Nat.zero_add,Duc.rA_set hi]
 rw [rA_cg (y':=y')]
 intro j hj
 rw [e j hj]
 by_cases q:j=i
 ·rw [q,if_pos rfl,up_at]
 ·rw [if_neg q,up_ne _ _ q]
section
variable {B:Nat} {W X:World} {q:RK} {p:Pl} {cv tz:Value} {r:Rm} {gv kv:Nat->Int} {tv hv:Nat->Value} {ow:Nat->Nat}
theorem RmM.on (h:RmM B W q p cv tz r gv kv tv hv ow) (b:Below W.heap.size W X):RmM B X q p cv tz r gv kv tv hv ow:=
 ⟨on9 h.hg b,on9 h.hP b,on9 h.hR b,on9 h.hE b,on9 h.hT b,on9 h.hH b,on9 h.hC b,on9 h.hG b,on9 h.hK b,fun t ht=>(h.tk t ht).on b,fun t ht=>(h.hd t ht).on b,h.lg,h.lP,h.lR,h.lE,h.lT,h.lH,h.lC,h.lG,h.lK,h.ltk,h.lhd,h.low,Nat.le_trans h.le b.size⟩
theorem rA_c {b m i:Nat} {y:Nat->Value} {t:TypeId} (h:W.heap[b]?=some (.cells (Duc.rA m y) t)) (hi:i < m):W.cell? ⟨b,0+i,none⟩=some (y i):=by rw [Nat.zero_add]; exact Duc.rA_cell h hi
theorem gR_at (h:RmM B W q p cv tz r gv kv tv hv ow):W.cell? ⟨q.g,0,none⟩=some cv/\W.cell? ⟨q.g,1,none⟩=some tz/\W.cell? ⟨q.g,2,none⟩=some (sl0 q.P p.n)/\W.cell? ⟨q.g,3,none⟩=some (sl0 q.R p.n)/\W.cell? ⟨q.g,4,none⟩=some (sl0 q.E p.n)/\W.cell? ⟨q.g,5,none⟩=some (sl0 q.T p.n)/\W.cell? ⟨q.g,6,none⟩=some (sl0 q.H p.d)/\W.cell? ⟨q.g,7,none⟩=some (sl0 q.C p.d)/\W.cell? ⟨q.g,8,none⟩=some (sl0 q.G p.d)/\W.cell? ⟨q.g,9,none⟩=some (sl0 q.K p.d)/\W.cell? ⟨q.g,10,none⟩=some (.int .i64 ((r.lt:Nat):Int)):=by
 refine ⟨?_,?_,?_,?_,?_,?_,?_,?_,?_,?_,?_⟩ <;> (rw [cell_of_row _ _ _ _ _ _ h.hg]; rfl)
theorem RmM.setP (h:RmM B W q p cv tz r gv kv tv hv ow) {i:Nat} {x:Nat} (ht:i < p.n):RmM B (W.setCell ⟨q.P,0+i,none⟩ (.int .i64 ((x:Nat):Int))) q p cv tz { r with pl:=upf r.pl i x } gv kv tv hv ow:=
 ⟨keepN19 h.hg (ne_lab h.lg h.lP (by decide)) grC19,row_set h.hP ht (fun j hj=>by by_cases e:j=i <;> simp [upf,e]),keepN19 h.hR (ne_lab h.lR h.lP (by decide)) grC19,keepN19 h.hE (ne_lab h.lE h.lP (by decide)) grC19,keepN19 h.hT (ne_lab h.lT h.lP (by decide)) grC19,keepN19 h.hH (ne_lab h.lH h.lP (by decide)) grC19,keepN19 h.hC (ne_lab h.lC h.lP (by decide)) grC19,keepN19 h.hG (ne_lab h.lG h.lP (by decide)) grC19,keepN19 h.hK (ne_lab h.lK h.lP (by decide)) grC19,fun t ht=>(h.tk t ht).keep fun b hb=>grC19.block b ((h.tk t ht).lt b hb).2 (fun e=>ne_lab (h.ltk t ht b hb) h.lP (by omega) (Option.some.inj e)),fun t ht=>(h.hd t ht).keep fun b hb=>grC19.block b ((h.hd t ht).lt b hb).2 (fun e=>ne_lab (h.lhd t ht b hb) h.lP (by omega) (Option.some.inj e)),h.lg,h.lP,h.lR,h.lE,h.lT,h.lH,h.lC,h.lG,h.lK,h.ltk,h.lhd,h.low,Nat.le_trans h.le (grC19 (g:=q.P)).size⟩
theorem RmM.setR (h:RmM B W q p cv tz r gv kv tv hv ow) {i:Nat} {x:Int} (ht:i < p.n):RmM B (W.setCell ⟨q.R,0+i,none⟩ (.int .i64 x)) q p cv tz { r with rg:=upf r.rg i x } gv kv tv hv ow:=
 ⟨keepN19 h.hg (ne_lab h.lg h.lR (by decide)) grC19,keepN19 h.hP (ne_lab h.lP h.lR (by decide)) grC19,row_set h.hR ht (fun j hj=>by by_cases e:j=i <;> simp [upf,e]),keepN19 h.hE (ne_lab h.lE h.lR (by decide)) grC19,keepN19 h.hT (ne_lab h.lT h.lR (by decide)) grC19,keepN19 h.hH (ne_lab h.lH h.lR (by decide)) grC19,keepN19 h.hC (ne_lab h.lC h.lR (by decide)) grC19,keepN19 h.hG (ne_lab h.lG h.lR (by decide)) grC19,keepN19 h.hK (ne_lab h.lK h.lR (by decide)) grC19,fun t ht=>(h.tk t ht).keep fun b hb=>grC19.block b ((h.tk t ht).lt b hb).2 (fun e=>ne_lab (h.ltk t ht b hb) h.lR (by omega) (Option.some.inj e)),fun t ht=>(h.hd t ht).keep fun b hb=>grC19.block b ((h.hd t ht).lt b hb).2 (fun e=>ne_lab (h.lhd t ht b hb) h.lR (by omega) (Option.some.inj e)),h.lg,h.lP,h.lR,h.lE,h.lT,h.lH,h.lC,h.lG,h.lK,h.ltk,h.lhd,h.low,Nat.le_trans h.le (grC19 (g:=q.R)).size⟩
theorem RmM.setE (h:RmM B W q p cv tz r gv kv tv hv ow) {i:Nat} {x:Bool} (ht:i < p.n):RmM B (W.setCell ⟨q.E,0+i,none⟩ (.bool x)) q p cv tz { r with en:=upf r.en i x } gv kv tv hv ow:=
 ⟨keepN19 h.hg (ne_lab h.lg h.lE (by decide)) grC19,keepN19 h.hP (ne_lab h.lP h.lE (by decide)) grC19,keepN19 h.hR (ne_lab h.lR h.lE (by decide)) grC19,row_set h.hE ht (fun j hj=>by by_cases e:j=i <;> simp [upf,e]),keepN19 h.hT (ne_lab h.lT h.lE (by decide)) grC19,keepN19 h.hH (ne_lab h.lH h.lE (by decide)) grC19,keepN19 h.hC (ne_lab h.lC h.lE (by decide)) grC19,keepN19 h.hG (ne_lab h.lG h.lE (by decide)) grC19,keepN19 h.hK (ne_lab h.lK h.lE (by decide)) grC19,fun t ht=>(h.tk t ht).keep fun b hb=>grC19.block b ((h.tk t ht).lt b hb).2 (fun e=>ne_lab (h.ltk t ht b hb) h.lE (by omega) (Option.some.inj e)),fun t ht=>(h.hd t ht).keep fun b hb=>grC19.block b ((h.hd t ht).lt b hb).2 (fun e=>ne_lab (h.lhd t ht b hb) h.lE (by omega) (Option.some.inj e)),h.lg,h.lP,h.lR,h.lE,h.lT,h.lH,h.lC,h.lG,h.lK,h.ltk,h.lhd,h.low,Nat.le_trans h.le (grC19 (g:=q.E)).size⟩
theorem RmM.setC (h:RmM B W q p cv tz r gv kv tv hv ow) {i:Nat} {x:Bool} (ht:i < p.d):RmM B (W.setCell ⟨q.C,0+i,none⟩ (.bool x)) q p cv tz { r with cl:=upf r.cl i x } gv kv tv hv ow:=
 ⟨keepN19 h.hg (ne_lab h.lg h.lC (by decide)) grC19,keepN19 h.hP (ne_lab h.lP h.lC (by decide)) grC19,keepN19 h.hR (ne_lab h.lR h.lC (by decide)) grC19,keepN19 h.hE (ne_lab h.lE h.lC (by decide)) grC19,keepN19 h.hT (ne_lab h.lT h.lC (by decide)) grC19,keepN19 h.hH (ne_lab h.lH h.lC (by decide)) grC19,row_set h.hC ht (fun j hj=>by by_cases e:j=i <;> simp [upf,e]),keepN19 h.hG (ne_lab h.lG h.lC (by decide)) grC19,keepN19 h.hK (ne_lab h.lK h.lC (by decide)) grC19,fun t ht=>(h.tk t ht).keep fun b hb=>grC19.block b ((h.tk t ht).lt b hb).2 (fun e=>ne_lab (h.ltk t ht b hb) h.lC (by omega) (Option.some.inj e)),fun t ht=>(h.hd t ht).keep fun b hb=>grC19.block b ((h.hd t ht).lt b hb).2 (fun e=>ne_lab (h.lhd t ht b hb) h.lC (by omega) (Option.some.inj e)),h.lg,h.lP,h.lR,h.lE,h.lT,h.lH,h.lC,h.lG,h.lK,h.ltk,h.lhd,h.low,Nat.le_trans h.le (grC19 (g:=q.C)).size⟩
theorem RmM.setG (h:RmM B W q p cv tz r gv kv tv hv ow) {i:Nat} {x:Int} (ht:i < p.d):RmM B (W.setCell ⟨q.G,0+i,none⟩ (.int .i64 x)) q p cv tz r (upf gv i x) kv tv hv ow:=
 ⟨keepN19 h.hg (ne_lab h.lg h.lG (by decide)) grC19,keepN19 h.hP (ne_lab h.lP h.lG (by decide)) grC19,keepN19 h.hR (ne_lab h.lR h.lG (by decide)) grC19,keepN19 h.hE (ne_lab h.lE h.lG (by decide)) grC19,keepN19 h.hT (ne_lab h.lT h.lG (by decide)) grC19,keepN19 h.hH (ne_lab h.lH h.lG (by decide)) grC19,keepN19 h.hC (ne_lab h.lC h.lG (by decide)) grC19,row_set h.hG ht (fun j hj=>by by_cases e:j=i <;> simp [upf,e]),keepN19 h.hK (ne_lab h.lK h.lG (by decide)) grC19,fun t ht=>(h.tk t ht).keep fun b hb=>grC19.block b ((h.tk t ht).lt b hb).2 (fun e=>ne_lab (h.ltk t ht b hb) h.lG (by omega) (Option.some.inj e)),fun t ht=>(h.hd t ht).keep fun b hb=>grC19.block b ((h.hd t ht).lt b hb).2 (fun e=>ne_lab (h.lhd t ht b hb) h.lG (by omega) (Option.some.inj e)),h.lg,h.lP,h.lR,h.lE,h.lT,h.lH,h.lC,h.lG,h.lK,h.ltk,h.lhd,h.low,Nat.le_trans h.le (grC19 (g:=q.G)).size⟩
theorem RmM.setK (h:RmM B W q p cv tz r gv kv tv hv ow) {i:Nat} {x:Int} (ht:i < p.d):RmM B (W.setCell ⟨q.K,0+i,none⟩ (.int .i64 x)) q p cv tz r gv (upf kv i x) tv hv ow:=
 ⟨keepN19 h.hg (ne_lab h.lg h.lK (by decide)) grC19,keepN19 h.hP (ne_lab h.lP h.lK (by decide)) grC19,keepN19 h.hR (ne_lab h.lR h.lK (by decide)) grC19,keepN19 h.hE (ne_lab h.lE h.lK (by decide)) grC19,keepN19 h.hT (ne_lab h.lT h.lK (by decide)) grC19,keepN19 h.hH (ne_lab h.lH h.lK (by decide)) grC19,keepN19 h.hC (ne_lab h.lC h.lK (by decide)) grC19,keepN19 h.hG (ne_lab h.lG h.lK (by decide)) grC19,row_set h.hK ht (fun j hj=>by by_cases e:j=i <;> simp [upf,e]),fun t ht=>(h.tk t ht).keep fun b hb=>grC19.block b ((h.tk t ht).lt b hb).2 (fun e=>ne_lab (h.ltk t ht b hb) h.lK (by omega) (Option.some.inj e)),fun t ht=>(h.hd t ht).keep fun b hb=>grC19.block b ((h.hd t ht).lt b hb).2 (fun e=>ne_lab (h.lhd t ht b hb) h.lK (by omega) (Option.some.inj e)),h.lg,h.lP,h.lR,h.lE,h.lT,h.lH,h.lC,h.lG,h.lK,h.ltk,h.lhd,h.low,Nat.le_trans h.le (grC19 (g:=q.K)).size⟩
theorem RmM.setL (h:RmM B W q p cv tz r gv kv tv hv ow) {x:Nat}:RmM B (W.setCell ⟨q.g,10,none⟩ (.int .i64 ((x:Nat):Int))) q p cv tz { r with lt:=x } gv kv tv hv ow:=
 ⟨(heap4 _ h.hg).trans rfl,keepN19 h.hP (ne_lab h.lP h.lg (by decide)) grC19,keepN19 h.hR (ne_lab h.lR h.lg (by decide)) grC19,keepN19 h.hE (ne_lab h.lE h.lg (by decide)) grC19,keepN19 h.hT (ne_lab h.lT h.lg (by decide)) grC19,keepN19 h.hH (ne_lab h.lH h.lg (by decide)) grC19,keepN19 h.hC (ne_lab h.lC h.lg (by decide)) grC19,keepN19 h.hG (ne_lab h.lG h.lg (by decide)) grC19,keepN19 h.hK (ne_lab h.lK h.lg (by decide)) grC19,fun t ht=>(h.tk t ht).keep fun b hb=>grC19.block b ((h.tk t ht).lt b hb).2 (fun e=>ne_lab (h.ltk t ht b hb) h.lg (by omega) (Option.some.inj e)),fun t ht=>(h.hd t ht).keep fun b hb=>grC19.block b ((h.hd t ht).lt b hb).2 (fun e=>ne_lab (h.lhd t ht b hb) h.lg (by omega) (Option.some.inj e)),h.lg,h.lP,h.lR,h.lE,h.lT,h.lH,h.lC,h.lG,h.lK,h.ltk,h.lhd,h.low,Nat.le_trans h.le (grC19 (g:=q.g)).size⟩
structure RTo (B:Nat) (V W:World) (q:RK) (p:Pl) (cv tz:Value) (r:Rm) (gv kv:Nat->Int) (ow:Nat->Nat):Prop where
 ex:∃ tv hv ow',RmM B W q p cv tz r gv kv tv hv ow'/\∀ b,b < V.heap.size->ow' b=ow b
 sv:Saved (fun b=>ow b ≠ 0) V W
theorem RmM.appT (h:RmM B W q p cv tz r gv kv tv hv ow) {i:Nat} {v':Value} {l':List Int} (ht:i < p.n) (gr:W.grownBy X (tv i).ownBlock) (hv':Hd B X v' l') (pl:v'.ownBlock=(tv i).ownBlock\/v'.ownBlock=some W.heap.size):∃ ow',RmM B (X.setCell ⟨q.T,0+i,none⟩ v') q p cv tz { r with tk:=upf r.tk i l' } gv kv (upf tv i v') hv ow'/\∀ b,b < W.heap.size->ow' b=ow b:=by
 have lz:∀ b,v'.ownBlock=some b->ow b=10+2 * i\/b=W.heap.size:=fun b hb=>by
  rcases pl with e | e
  ·exact Or.inl (h.ltk i ht b (e ▸ hb))
  ·rw [e] at hb; exact Or.inr (Option.some.inj hb).symm
 have gz:W.heap.size<=X.heap.size:=gr.size
 have ltq:∀ {n:Nat} {c:Array Value} {t:TypeId},W.heap[n]?=some (.cells c t)->n < W.heap.size:=fun h=>(Array.getElem?_eq_some_iff.1 h).1
 refine ⟨fun b=>if b=W.heap.size then 10+2 * i else ow b,⟨keepN19 ((gr.block _ (Array.getElem?_eq_some_iff.1 h.hg).1 (fun e=>ne_lab (h.ltk i ht _ e.symm) h.lg (by omega) rfl)).trans h.hg) (ne_lab h.lg h.lT (by decide)) grC19,keepN19 ((gr.block _ (Array.getElem?_eq_some_iff.1 h.hP).1 (fun e=>ne_lab (h.ltk i ht _ e.symm) h.lP (by omega) rfl)).trans h.hP) (ne_lab h.lP h.lT (by decide)) grC19,keepN19 ((gr.block _ (Array.getElem?_eq_some_iff.1 h.hR).1 (fun e=>ne_lab (h.ltk i ht _ e.symm) h.lR (by omega) rfl)).trans h.hR) (ne_lab h.lR h.lT (by decide)) grC19,keepN19 ((gr.block _ (Array.getElem?_eq_some_iff.1 h.hE).1 (fun e=>ne_lab (h.ltk i ht _ e.symm) h.lE (by omega) rfl)).trans h.hE) (ne_lab h.lE h.lT (by decide)) grC19,row_set ((gr.block _ (Array.getElem?_eq_some_iff.1 h.hT).1 (fun e=>ne_lab (h.ltk i ht _ e.symm) h.lT (by omega) rfl)).trans h.hT) ht (fun j hj=>by by_cases e:j=i <;> simp [upf,e]),keepN19 ((gr.block _ (Array.getElem?_eq_some_iff.1 h.hH).1 (fun e=>ne_lab (h.ltk i ht _ e.symm) h.lH (by omega) rfl)).trans h.hH) (ne_lab h.lH h.lT (by decide)) grC19,keepN19 ((gr.block _ (Array.getElem?_eq_some_iff.1 h.hC).1 (fun e=>ne_lab (h.ltk i ht _ e.symm) h.lC (by omega) rfl)).trans h.hC) (ne_lab h.lC h.lT (by decide)) grC19,keepN19 ((gr.block _ (Array.getElem?_eq_some_iff.1 h.hG).1 (fun e=>ne_lab (h.ltk i ht _ e.symm) h.lG (by omega) rfl)).trans h.hG) (ne_lab h.lG h.lT (by decide)) grC19,keepN19 ((gr.block _ (Array.getElem?_eq_some_iff.1 h.hK).1 (fun e=>ne_lab (h.ltk i ht _ e.symm) h.lK (by omega) rfl)).trans h.hK) (ne_lab h.lK h.lT (by decide)) grC19,fun t ht2=>?_,fun t ht2=>?_,(if_neg (Nat.ne_of_lt (ltq h.hg))).trans h.lg,(if_neg (Nat.ne_of_lt (ltq h.hP))).trans h.lP,(if_neg (Nat.ne_of_lt (ltq h.hR))).trans h.lR,(if_neg (Nat.ne_of_lt (ltq h.hE))).trans h.lE,(if_neg (Nat.ne_of_lt (ltq h.hT))).trans h.lT,(if_neg (Nat.ne_of_lt (ltq h.hH))).trans h.lH,(if_neg (Nat.ne_of_lt (ltq h.hC))).trans h.lC,(if_neg (Nat.ne_of_lt (ltq h.hG))).trans h.lG,(if_neg (Nat.ne_of_lt (ltq h.hK))).trans h.lK,fun t ht2 b hb=>?_,fun t ht2 b hb=>?_,fun b hb=>(if_neg (by have:=h.le; omega)).trans (h.low b hb),Nat.le_trans h.le (Nat.le_trans gz (grC19 (g:=q.T)).size)⟩,fun b hb=>if_neg (Nat.ne_of_lt hb)⟩
 ·show Hd B _ (upf tv i v' t) (upf r.tk i l' t)
  by_cases e:t=i
  ·rw [e,upf_at,upf_at]
   refine hv'.keep fun b hb=>grC19.block b (hv'.lt b hb).2 (fun z=>?_)
   have z':b=q.T:=Option.some.inj z
   rcases lz b hb with w | w
   ·exact ne_lab w h.lT (by omega) z'
   ·have:=ltq h.hT; omega
  ·rw [upf_ne _ _ e,upf_ne _ _ e]
   have hh:=h.tk t ht2
   refine (hh.keep (X:=X) fun b hb=>gr.block b (hh.lt b hb).2 (fun z=>ne_lab (h.ltk t ht2 b hb) (h.ltk i ht b z.symm) (by omega) rfl)).keep fun b hb=>grC19.block b (Nat.lt_of_lt_of_le (hh.lt b hb).2 gz) (fun z=>ne_lab (h.ltk t ht2 b hb) h.lT (by omega) (Option.some.inj z))
 ·have hh:=h.hd t ht2
  refine (hh.keep (X:=X) fun b hb=>gr.block b (hh.lt b hb).2 (fun z=>ne_lab (h.lhd t ht2 b hb) (h.ltk i ht b z.symm) (by omega) rfl)).keep fun b hb=>grC19.block b (Nat.lt_of_lt_of_le (hh.lt b hb).2 gz) (fun z=>ne_lab (h.lhd t ht2 b hb) h.lT (by omega) (Option.some.inj z))
 ·show (if b=W.heap.size then _ else _)=_
  by_cases e:t=i
  ·rw [e,upf_at] at hb
   rw [e]
   rcases lz b hb with w | w
   ·by_cases z:b=W.heap.size
    ·rw [if_pos z]
    ·rw [if_neg z]; exact w
   ·rw [if_pos w]
  ·rw [upf_ne _ _ e] at hb
   rw [if_neg (Nat.ne_of_lt ((h.tk t ht2).lt b hb).2)]
   exact h.ltk t ht2 b hb
 ·show (if b=W.heap.size then _ else _)=_
  rw [if_neg (Nat.ne_of_lt ((h.hd t ht2).lt b hb).2)]
  exact h.lhd t ht2 b hb
theorem RmM.appH (h:RmM B W q p cv tz r gv kv tv hv ow) {i:Nat} {v':Value} {l':List Int} (ht:i < p.d) (gr:W.grownBy X (hv i).ownBlock) (hv':Hd B X v' l') (pl:v'.ownBlock=(hv i).ownBlock\/v'.ownBlock=some W.heap.size):∃ ow',RmM B (X.setCell ⟨q.H,0+i,none⟩ v') q p cv tz { r with hd:=upf r.hd i l' } gv kv tv (upf hv i v') ow'/\∀ b,b < W.heap.size->ow' b=ow b:=by
 have lz:∀ b,v'.ownBlock=some b->ow b=11+2 * i\/b=W.heap.size:=fun b hb=>by
  rcases pl with e | e
  ·exact Or.inl (h.lhd i ht b (e ▸ hb))
  ·rw [e] at hb; exact Or.inr (Option.some.inj hb).symm
 have gz:W.heap.size<=X.heap.size:=gr.size
 have ltq:∀ {n:Nat} {c:Array Value} {t:TypeId},W.heap[n]?=some (.cells c t)->n < W.heap.size:=fun h=>(Array.getElem?_eq_some_iff.1 h).1
 refine ⟨fun b=>if b=W.heap.size then 11+2 * i else ow b,⟨keepN19 ((gr.block _ (Array.getElem?_eq_some_iff.1 h.hg).1 (fun e=>ne_lab (h.lhd i ht _ e.symm) h.lg (by omega) rfl)).trans h.hg) (ne_lab h.lg h.lH (by decide)) grC19,keepN19 ((gr.block _ (Array.getElem?_eq_some_iff.1 h.hP).1 (fun e=>ne_lab (h.lhd i ht _ e.symm) h.lP (by omega) rfl)).trans h.hP) (ne_lab h.lP h.lH (by decide)) grC19,keepN19 ((gr.block _ (Array.getElem?_eq_some_iff.1 h.hR).1 (fun e=>ne_lab (h.lhd i ht _ e.symm) h.lR (by omega) rfl)).trans h.hR) (ne_lab h.lR h.lH (by decide)) grC19,keepN19 ((gr.block _ (Array.getElem?_eq_some_iff.1 h.hE).1 (fun e=>ne_lab (h.lhd i ht _ e.symm) h.lE (by omega) rfl)).trans h.hE) (ne_lab h.lE h.lH (by decide)) grC19,keepN19 ((gr.block _ (Array.getElem?_eq_some_iff.1 h.hT).1 (fun e=>ne_lab (h.lhd i ht _ e.symm) h.lT (by omega) rfl)).trans h.hT) (ne_lab h.lT h.lH (by decide)) grC19,row_set ((gr.block _ (Array.getElem?_eq_some_iff.1 h.hH).1 (fun e=>ne_lab (h.lhd i ht _ e.symm) h.lH (by omega) rfl)).trans h.hH) ht (fun j hj=>by by_cases e:j=i <;> simp [upf,e]),keepN19 ((gr.block _ (Array.getElem?_eq_some_iff.1 h.hC).1 (fun e=>ne_lab (h.lhd i ht _ e.symm) h.lC (by omega) rfl)).trans h.hC) (ne_lab h.lC h.lH (by decide)) grC19,keepN19 ((gr.block _ (Array.getElem?_eq_some_iff.1 h.hG).1 (fun e=>ne_lab (h.lhd i ht _ e.symm) h.lG (by omega) rfl)).trans h.hG) (ne_lab h.lG h.lH (by decide)) grC19,keepN19 ((gr.block _ (Array.getElem?_eq_some_iff.1 h.hK).1 (fun e=>ne_lab (h.lhd i ht _ e.symm) h.lK (by omega) rfl)).trans h.hK) (ne_lab h.lK h.lH (by decide)) grC19,fun t ht2=>?_,fun t ht2=>?_,(if_neg (Nat.ne_of_lt (ltq h.hg))).trans h.lg,(if_neg (Nat.ne_of_lt (ltq h.hP))).trans h.lP,(if_neg (Nat.ne_of_lt (ltq h.hR))).trans h.lR,(if_neg (Nat.ne_of_lt (ltq h.hE))).trans h.lE,(if_neg (Nat.ne_of_lt (ltq h.hT))).trans h.lT,(if_neg (Nat.ne_of_lt (ltq h.hH))).trans h.lH,(if_neg (Nat.ne_of_lt (ltq h.hC))).trans h.lC,(if_neg (Nat.ne_of_lt (ltq h.hG))).trans h.lG,(if_neg (Nat.ne_of_lt (ltq h.hK))).trans h.lK,fun t ht2 b hb=>?_,fun t ht2 b hb=>?_,fun b hb=>(if_neg (by have:=h.le; omega)).trans (h.low b hb),Nat.le_trans h.le (Nat.le_trans gz (grC19 (g:=q.H)).size)⟩,fun b hb=>if_neg (Nat.ne_of_lt hb)⟩
 ·have hh:=h.tk t ht2
  refine (hh.keep (X:=X) fun b hb=>gr.block b (hh.lt b hb).2 (fun z=>ne_lab (h.ltk t ht2 b hb) (h.lhd i ht b z.symm) (by omega) rfl)).keep fun b hb=>grC19.block b (Nat.lt_of_lt_of_le (hh.lt b hb).2 gz) (fun z=>ne_lab (h.ltk t ht2 b hb) h.lH (by omega) (Option.some.inj z))
 ·show Hd B _ (upf hv i v' t) (upf r.hd i l' t)
  by_cases e:t=i
  ·rw [e,upf_at,upf_at]
   refine hv'.keep fun b hb=>grC19.block b (hv'.lt b hb).2 (fun z=>?_)
   have z':b=q.H:=Option.some.inj z
   rcases lz b hb with w | w
   ·exact ne_lab w h.lH (by omega) z'
   ·have:=ltq h.hH; omega
  ·rw [upf_ne _ _ e,upf_ne _ _ e]
   have hh:=h.hd t ht2
   refine (hh.keep (X:=X) fun b hb=>gr.block b (hh.lt b hb).2 (fun z=>ne_lab (h.lhd t ht2 b hb) (h.lhd i ht b z.symm) (by omega) rfl)).keep fun b hb=>grC19.block b (Nat.lt_of_lt_of_le (hh.lt b hb).2 gz) (fun z=>ne_lab (h.lhd t ht2 b hb) h.lH (by omega) (Option.some.inj z))
 ·show (if b=W.heap.size then _ else _)=_
  rw [if_neg (Nat.ne_of_lt ((h.tk t ht2).lt b hb).2)]
  exact h.ltk t ht2 b hb
 ·show (if b=W.heap.size then _ else _)=_
  by_cases e:t=i
  ·rw [e,upf_at] at hb
   rw [e]
   rcases lz b hb with w | w
   ·by_cases z:b=W.heap.size
    ·rw [if_pos z]
    ·rw [if_neg z]; exact w
   ·rw [if_pos w]
  ·rw [upf_ne _ _ e] at hb
   rw [if_neg (Nat.ne_of_lt ((h.hd t ht2).lt b hb).2)]
   exact h.lhd t ht2 b hb
end
end Go.Proofs.Ytjjegmflllpknaa.Loo
