import Derived.Test.YtjckkdjldnobmaaGreatDoorD2k
import Derived.Test.YtjckkdjldnobmaaGreatDoorX7f
import Derived.Deep.RegionWith
namespace Go.Proofs.YtjckkdjldnobmaaGreatDoor.Frm
open Go.RowKit Gf8 Aes By8 Cel
/- The closure of packed; packed. -/
structure Pk (A R:Nat) (b:Array Value) (p:Nat->Nat) (m:Nat) (v:Value) (V W:World):Prop where
 b:W.heap[A]?=some (.cells b 54)
 o:W.heap[R]?=some (.cells #[v] 24)
 own:W.ownsRow (A+1) 5 1 v m (bytesL m p)
 bel:Below A V W
 lt:A < R
theorem Pk.rules {A R m:Nat} {b:Array Value} {p:Nat->Nat} {v:Value} {V W:World} (h:Pk A R b p m v V W) (g:Rules V) (hA:0 < A):Rules W:=g.on h.bel hA
theorem Pk.on {A R m:Nat} {b:Array Value} {p:Nat->Nat} {v:Value} {V W W':World} (h:Pk A R b p m v V W) (hb:Below W.heap.size W W'):Pk A R b p m v V W':=by
 have l1:=(Array.getElem?_eq_some_iff.1 h.b).1
 have l2:=(Array.getElem?_eq_some_iff.1 h.o).1
 exact ⟨by rw [hb.block _ l1]; exact h.b,by rw [hb.block _ l2]; exact h.o,ownsRow_below h.own hb,h.bel.trans (hb.mono (by omega)),h.lt⟩
theorem Pk.grew {A R m m':Nat} {b:Array Value} {p:Nat->Nat} {v r:Value} {V W W':World} (h:Pk A R b p m v V W) (hg:Grew (A+1) v W r W') (own:W'.ownsRow (A+1) 5 1 r m' (bytesL m' p)):Pk A R b p m' r V (W'.setRow R #[r]):=by
 have l1:=(Array.getElem?_eq_some_iff.1 h.b).1
 have l2:=(Array.getElem?_eq_some_iff.1 h.o).1
 have lt:=h.lt
 have nA:¬ v.ownBlock=some A:=fun e=>by have:=(h.own.lt A e).1; omega
 have nR:¬ v.ownBlock=some R:=fun e=>(own_ne h.own h.o (by decide)) e.symm
 have oR:W'.heap[R]?=some (.cells #[v] 24):=by rw [hg.sv.block _ l2 nR]; exact h.o
 have bel:Below A V W':=h.bel.trans ⟨hg.sv.os,hg.sv.tape,hg.sv.output,hg.sv.size,fun k hk=>hg.sv.block k (by omega) fun e=>by have:=(h.own.lt k e).1; omega⟩
 exact ⟨by rw [setRow_other _ _ _ _ (by omega),hg.sv.block _ l1 nA]; exact h.b,setRow_heap _ _ _ _ _ _ oR,ownsRow_row own oR (by decide) _,below4 bel (by omega) _,lt⟩
section
variable {o:Oper} {a:Act} {w:World}
theorem execLdL {y:Operand} {b f:Nat} {v:Value} (ho:o.op=.load 24 y) (hx:a.eval y=.pointer (some ⟨b,f,none⟩)) (hc:w.cell? ⟨b,f,none⟩=some v):(execOp a.eval o).run Tryz.prog w=.ok (.value v) w:=by
 unfold execOp
 simp only [ho,hx]
 simp [go_sem,hc]
theorem execStL {x y:Operand} {R:Nat} {u v:Value} (ho:o.op=.store 24 x y) (hx:a.eval x=.pointer (some ⟨R,0,none⟩)) (hy:a.eval y=v) (h:w.heap[R]?=some (.cells #[u] 24)) (h1:v.oneCell'=true):(execOp a.eval o).run Tryz.prog w=.ok .skip (w.setRow R #[v]):=
 execStV ho hx hy h (by show 0 < 1; decide) (by kernel_rfl) h1 rfl
theorem execClo2 {x y z:Operand} {g:Nat} {lb:Array Value} {vy vz:Value} {ts:Array TypeId} {fn:Func} (hf:Tryz.prog.funcs[g]?=some fn) (hname:(fn.name == "runtime.NumGoroutine")=false) (hb:fn.body.isSome=true) (ho:o.op=.call { callee:=.value x,args:=#[y,z],argTypes:=ts }) (hx:a.eval x=.func (.func g) #[] lb) (hy:a.eval y=vy) (hz:a.eval z=vz):(execOp a.eval o).run Tryz.prog w=.ok (.enter g (#[vy,vz] ++ lb)) w:=by
 have h1:fn.name ≠ "runtime.NumGoroutine":=by simpa using hname
 obtain ⟨c,hc⟩:=Option.isSome_iff_exists.1 hb
 have h2:∀ args,(callFunc g args).run Tryz.prog w=.ok (.enter g args) w:=by intro args; simp [callFunc,hf,h1,hc]
 unfold execOp
 simp only [ho,resolve,hx,hy,hz,List.map_toArray,List.map_cons,List.map_nil,Sem.run_bind]
 simp [invoke,Deferred.ofValue,h2]
end
theorem Pk.cell {A R m:Nat} {b:Array Value} {p:Nat->Nat} {v:Value} {V W:World} (h:Pk A R b p m v V W):W.cell? ⟨R,0,none⟩=some v:=by
 rw [cell_of_row _ _ _ _ _ _ h.o]
 rfl
set_option maxRecDepth 20000 in
set_option maxHeartbeats 400000 in
theorem add_any (A R m f n:Nat) (b:Array Value) (p:Nat->Nat) (v:Value) (V W:World) (h:Pk A R b p m v V W) (g:Rules V) (hA:0 < A) (hf:f < 10) (h8:fsz f<=8) (hn:n < 18446744073709551616) (hm:m<=100000000) (hp:∀ j,j < fsz f->p (m+j)=numF n (fsz f) j) :
  Calls Tryz.prog 53 #[.int .i64 (f:Int),.int .u64 (n:Int),.pointer (some ⟨R,0,none⟩)] W fun e w'=>e=.returned (.tuple #[])/\∃ r,Pk A R b p (m+fsz f) r V w':=by
 have HB:Hid (Pk A R b p m v V W/\Rules V/\0 < A/\f < 10/\fsz f<=8/\n < 18446744073709551616/\m<=100000000/\∀ j,j < fsz f->p (m+j)=numF n (fsz f) j):=⟨h,g,hA,hf,h8,hn,hm,hp⟩
 clear h g hA hf h8 hn hm hp
 go_enter Tryz.func53,Tryz.ntmps53
 go_wp2_with fail
 refine wp_region_detX 12 [(0,5),(1,6),(2,7),(3,8),(4,9),(5,10),(6,11)] (fun l x W'=>(l 0=true->x 0=v)/\(l 1=true->x 1=.int .u64 (n:Int))/\(l 2=true->x 2=.int .i64 (f:Int))/\(l 3=true->x 3=.pointer (some ⟨0,f * 4,none⟩))/\(l 4=true->x 4=.pointer (some ⟨0,f * 4,none⟩))/\(l 5=true->x 5=.int .i64 (fsz f:Nat)) ∧
  ((l 6=false/\Pk A R b p m v V W')\/(l 6=true/\l 7=false/\∃ W1,Pk A R b p m v V W1/\Grew (A+1) v W1 (x 6) W'/\W'.ownsRow (A+1) 5 1 (x 6) (m+fsz f) (bytesL (m+fsz f) p))\/(l 7=true/\l 6=true/\Pk A R b p (m+fsz f) (x 6) V W'))) (fun _=>undef) (by kernel_rfl) (by kernel_rfl) rfl (by kernel_rfl) (by decide) (by decide) ?_ ?_ ?_
 ·exact ⟨fun q=>(by cases q),fun q=>(by cases q),fun q=>(by cases q),fun q=>(by cases q),fun q=>(by cases q),fun q=>(by cases q),Or.inl ⟨rfl,HB.out.1.on (Below.refl _ _).drew⟩⟩
 ·intro j hj l x a W' hl hf hdep hl2 hcl _ hT
  obtain ⟨_,g,hA,hf10,h8,hn,hm,hp⟩:=HB.out
  obtain ⟨t0,t1,t2,t3,t4,t5,t6⟩:=hT
  have no6:∀ i,(i=0\/i=5)->l i=false->l 6=false/\Pk A R b p m v V W':=by
   intro i hi hli
   have n6:l 6=false:=by
    cases h6:l 6 with
    | false=>rfl
    | true=>
     rcases hi with rfl | rfl
     ·have:=hcl 6 _ rfl h6 0 rfl
      rw [hli] at this
      cases this
     ·have:=hcl 6 _ rfl h6 5 rfl
      rw [hli] at this
      cases this
   refine ⟨n6,?_⟩
   rcases t6 with ⟨_,pk⟩ | ⟨q,_⟩ | ⟨_,q,_⟩
   ·exact pk
   ·rw [n6] at q; cases q
   ·rw [n6] at q; cases q
  match j,hj with
  | 0,_=>
   obtain ⟨n6,pk⟩:=no6 0 (Or.inl rfl) hl
   exact stepV rfl rfl (execLdL rfl (hf 2 (by decide)) pk.cell) ⟨_,⟨_,rfl,rfl⟩,fun _=>rfl,t1,t2,t3,t4,t5,Or.inl ⟨n6,pk⟩⟩
  | 1,_=>exact stepV rfl rfl (execMvB rfl (hf 1 (by decide))) ⟨_,⟨_,rfl,rfl⟩,t0,fun _=>rfl,t2,t3,t4,t5,t6⟩
  | 2,_=>exact stepV rfl rfl (execMvB rfl (hf 0 (by decide))) ⟨_,⟨_,rfl,rfl⟩,t0,t1,fun _=>rfl,t3,t4,t5,t6⟩
  | 3,_=>exact stepV rfl rfl (execIdxR rfl ((hdep _ rfl 2 rfl _ rfl _ rfl).trans (t2 (hl2 _ rfl 2 rfl))) hf10) ⟨_,⟨_,rfl,rfl⟩,t0,t1,t2,fun _=>rfl,t4,t5,t6⟩
  | 4,_=>exact stepV rfl rfl (execFldR rfl ((hdep _ rfl 3 rfl _ rfl _ rfl).trans (t3 (hl2 _ rfl 3 rfl)))) ⟨_,⟨_,rfl,rfl⟩,t0,t1,t2,t3,fun _=>rfl,t5,t6⟩
  | 5,_=>
   obtain ⟨n6,pk⟩:=no6 5 (Or.inr rfl) hl
   exact stepV rfl rfl (execLdI rfl ((hdep _ rfl 4 rfl _ rfl _ rfl).trans (t4 (hl2 _ rfl 4 rfl))) ((pk.rules g hA).z f hf10)) ⟨_,⟨_,rfl,rfl⟩,t0,t1,t2,t3,t4,fun _=>rfl,Or.inl ⟨n6,pk⟩⟩
  | 6,_=>
   rcases t6 with ⟨_,pk⟩ | ⟨q,_⟩ | ⟨_,q,_⟩
   ·exact stepC rfl rfl (execCall3 Tryz.func54 (by kernel_rfl) (by kernel_rfl) rfl ((hdep _ rfl 0 rfl _ rfl _ rfl).trans (t0 (hl2 _ rfl 0 rfl))) ((hdep _ rfl 1 rfl _ rfl _ rfl).trans (t1 (hl2 _ rfl 1 rfl))) ((hdep _ rfl 5 rfl _ rfl _ rfl).trans (t5 (hl2 _ rfl 5 rfl)))) (with_any n (fsz f) m (A+1) p v W' hn h8 pk.own (by have:=(Array.getElem?_eq_some_iff.1 pk.o).1; have:=pk.lt; omega) hm hp) fun e w' h=>by
     obtain ⟨r,e1,own,gr⟩:=h
     refine ⟨_,e1,_,⟨_,rfl,rfl⟩,t0,t1,t2,t3,t4,t5,Or.inr (Or.inl ⟨rfl,?_,W',pk,gr,own⟩)⟩
     show l 7=false
     cases h7:l 7 with
     | false=>rfl
     | true=>
      have:=hcl 7 _ rfl h7 6 rfl
      rw [hl] at this
      cases this
   ·rw [hl] at q; cases q
   ·rw [hl] at q; cases q
  | 7,_=>
   rcases t6 with ⟨q,_⟩ | ⟨h6,_,W1,pk,gr,own⟩ | ⟨q,_⟩
   ·have:=hl2 _ rfl 6 rfl
    rw [q] at this
    cases this
   ·have oR:W'.heap[R]?=some (.cells #[v] 24):=by
     rw [gr.sv.block _ (Array.getElem?_eq_some_iff.1 pk.o).1 (fun e=>(own_ne pk.own pk.o (by decide)) e.symm)]
     exact pk.o
    exact stepS rfl rfl (execStL rfl (hf 2 (by decide)) (hdep _ rfl 6 rfl _ rfl _ rfl) oR (own_oneCell own)) ⟨_,⟨_,rfl,rfl⟩,t0,t1,t2,t3,t4,t5,Or.inr (Or.inr ⟨rfl,h6,pk.grew gr own⟩)⟩
   ·rw [hl] at q; cases q
  | n+8,h=>exact absurd h (by simp)
 ·intro l x W' hall hT
  obtain ⟨_,_,_,_,_,_,t6⟩:=hT
  have h6:=hall 6 (by simp)
  have h7:=hall 7 (by simp)
  have pk:Pk A R b p (m+fsz f) (x 6) V W':=by
   rcases t6 with ⟨q,_⟩ | ⟨_,q,_⟩ | ⟨_,_,pk⟩
   ·rw [h6] at q; cases q
   ·rw [h7] at q; cases q
   ·exact pk
  have PK:Hid (_):=pk
  clear hall t6 h6 h7 pk HB
  simp only [putP,Act.put,List.setIfInBounds_toArray,List.set_cons_succ,List.set_cons_zero]
  go_wp2
  go_end0
  exact ⟨rfl,_,PK.out⟩
end Go.Proofs.YtjckkdjldnobmaaGreatDoor.Frm

namespace Go.Proofs.YtjckkdjldnobmaaGreatDoor.Frm
open Go.RowKit Gf8 Aes By8 Cel
/- packed. -/
theorem pk_letters (rd ep lf n:Nat) (c:Nat->Nat->Nat):∀ j,j < fsz 0->packF rd ep lf n c (0+j)=numF 1128813134 (fsz 0) j:=by
 intro j hj
 have hj:j < 4:=hj
 rw [Nat.zero_add,packF_in _ _ _ _ _ (by have:=cellAt_ge n; omega)]
 unfold packB
 rw [if_pos hj]
 match j,hj with
 | 0,_=>rfl
 | 1,_=>rfl
 | 2,_=>rfl
 | 3,_=>rfl
theorem pk_version (rd ep lf n:Nat) (c:Nat->Nat->Nat):∀ j,j < fsz 1->packF rd ep lf n c (4+j)=numF 1 (fsz 1) j:=by
 intro j hj
 have hj:j < 1:=hj
 have e:j=0:=by omega
 subst e
 rw [packF_in _ _ _ _ _ (by have:=cellAt_ge n; omega)]
 rfl
theorem pk_left (rd ep lf n:Nat) (c:Nat->Nat->Nat) (hl:lf<=8):∀ j,j < fsz 2->packF rd ep lf n c (5+j)=numF lf (fsz 2) j:=by
 intro j hj
 have hj:j < 1:=hj
 have e:j=0:=by omega
 subst e
 rw [packF_in _ _ _ _ _ (by have:=cellAt_ge n; omega)]
 show lf=lf / 256 ^ (1 - 1 - 0) % 256
 simp
 omega
theorem pk_count (rd ep lf n:Nat) (c:Nat->Nat->Nat):∀ j,j < fsz 3->packF rd ep lf n c (6+j)=numF n (fsz 3) j:=by
 intro j hj
 have hj:j < 2:=hj
 rw [packF_in _ _ _ _ _ (by have:=cellAt_ge n; omega)]
 exact packB_num6 _ _ _ _ _ hj
theorem pk_round (rd ep lf n:Nat) (c:Nat->Nat->Nat):∀ j,j < fsz 4->packF rd ep lf n c (8+j)=numF rd (fsz 4) j:=by
 intro j hj
 have hj:j < 8:=hj
 rw [packF_in _ _ _ _ _ (by have:=cellAt_ge n; omega)]
 exact packB_num8 _ _ _ _ _ hj
theorem pk_epoch (rd ep lf n:Nat) (c:Nat->Nat->Nat):∀ j,j < fsz 5->packF rd ep lf n c (16+j)=numF ep (fsz 5) j:=by
 intro j hj
 have hj:j < 8:=hj
 rw [packF_in _ _ _ _ _ (by have:=cellAt_ge n; omega)]
 exact packB_num16 _ _ _ _ _ hj
theorem pk_len (rd ep lf n:Nat) (c:Nat->Nat->Nat) {i:Nat} (hi:i < n):∀ j,j < fsz 6->packF rd ep lf n c (cellAt i+j)=numF 320 (fsz 6) j:=by
 intro j hj
 have hj:j < 2:=hj
 rw [packF_in _ _ _ _ _ (by have:=cellAt_mono hi; omega)]
 exact packB_len _ _ _ _ _ _ hj
theorem pk_cell (rd ep lf n:Nat) (c:Nat->Nat->Nat) {i:Nat} (hi:i < n) {j:Nat} (hj:j < 320):packF rd ep lf n c (cellAt i+2+j)=c i j:=by
 rw [packF_in _ _ _ _ _ (by have:=cellAt_mono hi; omega)]
 exact packB_cell _ _ _ _ _ _ hj
theorem pk_foot (rd ep lf n:Nat) (c:Nat->Nat->Nat):∀ j,j < fsz 8->packF rd ep lf n c (cellAt n+j)=numF ((adl (packF rd ep lf n c) (cellAt n)).2 * 65536+(adl (packF rd ep lf n c) (cellAt n)).1) (fsz 8) j:=by
 intro j _
 rw [packF_foot]
 unfold footF
 rw [adl_congr (p:=packF rd ep lf n c) (q:=packB rd ep lf n c) fun j hj=>packF_in _ _ _ _ _ hj]
 rfl
theorem bC_at (rd ep lf:Int) (cv:Value) {W:World} {A:Nat} {t:TypeId} (h:W.heap[A]?=some (.cells (bC rd ep lf cv) t)):W.cell? ⟨A,0,none⟩=some (.int .i64 rd)/\W.cell? ⟨A,1,none⟩=some (.int .i64 ep)/\W.cell? ⟨A,2,none⟩=some (.int .i64 lf)/\W.cell? ⟨A,3,none⟩=some cv:=by
 refine ⟨?_,?_,?_,?_⟩ <;> (rw [cell_of_row _ _ _ _ _ _ h]; rfl)
theorem zeroL:∀ w,(zeroValue 24).run Tryz.prog w=.ok (.slice none 0 0) w:=by intro w; simp [go_sem]
def ftV (A:Nat) (q:Nat->Nat) (i N:Nat) (v:Value) (j:Nat):Value:=
 match j with
 | 0=>.func (.func 53) #[] #[.pointer (some ⟨A+2,0,none⟩)] | 1=>smV 1 0 | 2=>v | 3=>smV (adl q (cellAt i)).1 (adl q (cellAt i)).2 | 4=>.int .u64 (N:Int) | _=>.tuple #[]
set_option maxRecDepth 20000 in
set_option maxHeartbeats 4000000 in
theorem packed_any (rd ep lf n:Nat) (cv:Value) (xv:Nat->Value) (ln:Nat->Nat) (c:Nat->Nat->Nat) (V:World) (g:Rules V) (gd:Good rd ep lf n) (hc:Cells V cv n xv ln c) (hl:∀ i,i < n->ln i=320) :
  Calls Tryz.prog 34 #[.agg (bC rd ep lf cv)] V fun e w'=>∃ r,e=.returned r/\w'.ownsRow V.heap.size 5 1 r (cellAt n+4) (bytesL (cellAt n+4) (packF rd ep lf n c))/\Below V.heap.size V w':=by
 obtain ⟨ca,ccap,rfl,_,_,hs⟩:=id hc.shape
 obtain ⟨A,hA⟩:∃ A,V.heap.size=A:=⟨_,rfl⟩
 have h1:=heapNew V (.cells (bC rd ep lf (.slice ca n ccap)) 54)
 have b1:=belNew V (.cells (bC rd ep lf (.slice ca n ccap)) 54)
 obtain ⟨V1,hV1⟩:∃ V1,V.alloc (.cells (bC rd ep lf (.slice ca n ccap)) 54)=V1:=⟨_,rfl⟩
 have s1:V1.heap.size=A+1:=by rw [← hV1,← hA]; simp
 rw [hV1,hA] at h1 b1
 obtain ⟨_,_,_,c3⟩:=bC_at _ _ _ _ h1
 obtain ⟨q,hq⟩:∃ q,packF rd ep lf n c=q:=⟨_,rfl⟩
 have HQ:Hid (packF rd ep lf n c=q):=hq
 have HB:Hid (Rules V/\0 < A/\Good rd ep lf n/\Cells V (.slice ca n ccap) n xv ln c/\(∀ i,i < n->ln i=320)/\V.heap.size=A):=⟨g,by rw [← hA]; exact g.sz,gd,hc,hl,hA⟩
 have H1:Hid (V1.heap[A]?=some (.cells (bC rd ep lf (.slice ca n ccap)) 54)/\Below A V V1/\V1.heap.size=A+1):=⟨h1,b1,s1⟩
 have HV:Hid (V.alloc (.cells (bC rd ep lf (.slice ca n ccap)) 54)=V1):=hV1
 have HS:Hid (0 < n->∃ b off,ca=some ⟨b,off,none⟩/\b < V.heap.size/\∀ i,i < n->V.cell? ⟨b,off+i,none⟩=some (xv i)):=hs
 have n256:(n:Int)<=256:=by have:=gd.n; omega
 have hlf:(lf:Int)<=8:=by have:=gd.lf; omega
 have hrd:(rd:Int) < 4611686018427387904:=by have:=gd.rd; omega
 have hep:(ep:Int)<=4611686018427387904:=by have:=gd.ep; omega
 have z:=zeroL
 rw [hq]
 clear g gd hc hl hs h1 b1 hq
 go_enter Tryz.func34,Tryz.ntmps34
 have W0:Hid (Pk A (A+2) (bC rd ep lf (.slice ca n ccap)) q 0 (.slice (some ⟨A+1,0,none⟩) 0 (28+n * 322)) V (((V1.alloc (.cells (bA (28+n * 322) fun _=>0) 5)).alloc (.cells #[.slice none 0 0] 24)).setRow (A+2) #[.slice (some ⟨A+1,0,none⟩) 0 (28+n * 322)])):=by
  obtain ⟨V2,hV2⟩:∃ V2,V1.alloc (.cells (bA (28+n * 322) fun _=>0) 5)=V2:=⟨_,rfl⟩
  have s2:V2.heap.size=A+2:=by rw [← hV2]; simp [s1]
  have b2:Below V1.heap.size V1 V2:=by rw [← hV2]; exact belNew _ _
  have own2:V2.ownsRow (A+1) 5 1 (.slice (some ⟨A+1,0,none⟩) 0 (28+n * 322)) 0 (bytesL 0 q):=by
   have:=own_made V1 (B:=A+1) (n:=28+n * 322) (by omega) (by omega)
   rw [hV2,s1] at this
   exact this
  rw [hV2]
  have b3:=belNew V2 (.cells #[.slice none 0 0] 24)
  have h3:=heapNew V2 (.cells #[.slice none 0 0] 24)
  rw [s2] at b3 h3
  refine ⟨?_,setRow_heap _ _ _ _ _ _ h3,ownsRow_row (ownsRow_below own2 (by rw [s2]; exact b3)) h3 (by decide) _,below4 ?_ (by omega) _,by omega⟩
  ·rw [setRow_other _ _ _ _ (by omega),b3.block _ (by omega),b2.block _ (by omega)]
   exact H1.out.1
  ·exact H1.out.2.1.trans ((b2.mono (by omega)).trans (b3.mono (by omega)))
 go_wp2_with (first
  | (refine wpList_ex rfl (execMk (l:=0) (n:=28+n * 322) rfl rfl rfl (Nat.zero_le _) (by omega)) ?_)
  | (refine atStore 24 (.tmp 3) (.tmp 12) rfl ?_; go_must (refine wpList_exS rfl (execStL (R:=A+2) (v:=.slice (some ⟨A+1,0,none⟩) 0 (28+n * 322)) rfl rfl rfl (by have:=heapNew (V1.alloc (.cells (bA (28+n * 322) fun _=>0) 5)) (.cells #[.slice none 0 0] 24); rw [show (V1.alloc (.cells (bA (28+n * 322) fun _=>0) 5)).heap.size=A+2 by simp [s1]] at this; exact this) rfl) ?_; have P0:Hid (_):=W0.out; obtain ⟨k0,k1,k2,k3⟩:=bC_at _ _ _ _ P0.out.b))
  | (go_at_call 53; (refine (add_any A (A+2) 16 5 ep (bC rd ep lf (.slice ca n ccap)) q _ V _ P5.out HB.out.1 HB.out.2.1 (by decide) (by decide) (by omega) (by have:=HB.out.2.2.1.n; omega) (by rw [← HQ.out]; exact pk_epoch _ _ _ _ _)).mono ?_; rintro e _ ⟨rfl,r,pk⟩; obtain ⟨k0,k1,k2,k3⟩:=bC_at _ _ _ _ pk.b; have P6:Hid (_):=pk; clear pk))
  | (go_at_call 53; (refine (add_any A (A+2) 8 4 rd (bC rd ep lf (.slice ca n ccap)) q _ V _ P4.out HB.out.1 HB.out.2.1 (by decide) (by decide) (by omega) (by have:=HB.out.2.2.1.n; omega) (by rw [← HQ.out]; exact pk_round _ _ _ _ _)).mono ?_; rintro e _ ⟨rfl,r,pk⟩; obtain ⟨k0,k1,k2,k3⟩:=bC_at _ _ _ _ pk.b; have P5:Hid (_):=pk; clear pk))
  | (go_at_call 53; (refine (add_any A (A+2) 6 3 n (bC rd ep lf (.slice ca n ccap)) q _ V _ P3.out HB.out.1 HB.out.2.1 (by decide) (by decide) (by omega) (by have:=HB.out.2.2.1.n; omega) (by rw [← HQ.out]; exact pk_count _ _ _ _ _)).mono ?_; rintro e _ ⟨rfl,r,pk⟩; obtain ⟨k0,k1,k2,k3⟩:=bC_at _ _ _ _ pk.b; have P4:Hid (_):=pk; clear pk))
  | (go_at_call 53; (refine (add_any A (A+2) 5 2 lf (bC rd ep lf (.slice ca n ccap)) q _ V _ P2.out HB.out.1 HB.out.2.1 (by decide) (by decide) (by omega) (by have:=HB.out.2.2.1.n; omega) (by rw [← HQ.out]; exact pk_left _ _ _ _ _ HB.out.2.2.1.lf)).mono ?_; rintro e _ ⟨rfl,r,pk⟩; obtain ⟨k0,k1,k2,k3⟩:=bC_at _ _ _ _ pk.b; have P3:Hid (_):=pk; clear pk))
  | (go_at_call 53; (refine (add_any A (A+2) 4 1 1 (bC rd ep lf (.slice ca n ccap)) q _ V _ P1.out HB.out.1 HB.out.2.1 (by decide) (by decide) (by omega) (by have:=HB.out.2.2.1.n; omega) (by rw [← HQ.out]; exact pk_version _ _ _ _ _)).mono ?_; rintro e _ ⟨rfl,r,pk⟩; obtain ⟨k0,k1,k2,k3⟩:=bC_at _ _ _ _ pk.b; have P2:Hid (_):=pk; clear pk))
  | (go_at_call 53; (refine (add_any A (A+2) 0 0 1128813134 (bC rd ep lf (.slice ca n ccap)) q _ V _ P0.out HB.out.1 HB.out.2.1 (by decide) (by decide) (by omega) (by have:=HB.out.2.2.1.n; omega) (by rw [← HQ.out]; exact pk_letters _ _ _ _ _)).mono ?_; rintro e _ ⟨rfl,r,pk⟩; obtain ⟨k0,k1,k2,k3⟩:=bC_at _ _ _ _ pk.b; have P1:Hid (_):=pk; clear pk)))
 have PP:Hid (Pk A (A+2) (bC rd ep lf (.slice ca n ccap)) q (cellAt 0) _ V _):=P6.out
 have eL:∀ i,cellAt i+fsz 6=cellAt i+2:=fun _=>rfl
 clear P0 P1 P2 P3 P4 P5 P6 W0 HV H1
 go_loopw [45] (fun z W=>∃ (i:Nat) (v:Value),i<=n/\z=.int .i64 (i:Int)/\Pk A (A+2) (bC rd ep lf (.slice ca n ccap)) q (cellAt i) v V W) (fun z _=>n - (intOf z).toNat)
 case atStart=>exact ⟨0,_,Nat.zero_le _,rfl,PP.out⟩
 case round=>
  obtain ⟨i,v,hi,rfl,pk⟩:=hrel
  clear PP
  by_cases hlt:i < n
  ·have i1:(i:Int) < n:=by omega
   obtain ⟨b,off,rfl,hb,hcell⟩:=HS.out (by omega)
   have bA':Below V.heap.size V wr:=by rw [HB.out.2.2.2.2.2]; exact pk.bel
   have c1:wr.cell? ⟨b,off+i,none⟩=some (xv i):=by rw [cell_below bA' hb]; exact hcell i hlt
   have HK:Hid (i < n):=hlt
   have P0:Hid (_):=pk
   clear pk hlt hi hb hcell bA'
   go_wp2_with (first
    | (go_at_call 53; refine (add_any A (A+2) (cellAt i) 6 320 (bC rd ep lf _) q v V _ P0.out HB.out.1 HB.out.2.1 (by decide) (by decide) (by omega) (by have:=HB.out.2.2.1.n; have:=HK.out; unfold cellAt; omega) (by rw [← HQ.out]; exact pk_len _ _ _ _ _ HK.out)).mono ?_; rintro e w1 ⟨rfl,r,pk⟩; rw [eL] at pk; have k0:=pk.cell; have P1:Hid (_):=pk; clear pk)
    | (refine atAppB (.tmp 51) (.tmp 52) rfl ?_; go_must (
      have sl:=HB.out.2.2.2.1.cell i HK.out
      rw [HB.out.2.2.2.2.1 i HK.out] at sl
      have sl1:SliceN w1 (xv i) 320 fun j=>q (cellAt i+2+j):=(sliceN_cg (sl.on (by rw [HB.out.2.2.2.2.2]; exact P1.out.bel)) fun j hj=>by rw [← HQ.out,pk_cell _ _ _ _ _ HK.out hj])
      refine wpList_appS (B:=A+1) (n:=cellAt i+2) (m:=320) (p:=q) rfl (.tmp 51) (.tmp 52) rfl rfl rfl P1.out.own sl1 (HB.out.2.2.2.1.nil i HK.out) (by have:=HB.out.2.2.1.n; have:=HK.out; unfold cellAt; omega) (by have:=(Array.getElem?_eq_some_iff.1 P1.out.o).1; omega) ?_
      intro u2 W2 own2 g2
      have G2:Hid (Grew (A+1) r w1 u2 W2/\W2.ownsRow (A+1) 5 1 u2 (cellAt i+2+320) (bytesL (cellAt i+2+320) q)):=⟨(Grew.refl _ _ _).step g2,own2⟩
      have oR:Hid (W2.heap[A+2]?=some (.cells #[r] 24)):=(by show W2.heap[A+2]?=some (.cells #[r] 24); rw [G2.out.1.sv.block _ (Array.getElem?_eq_some_iff.1 P1.out.o).1 (fun e=>(own_ne P1.out.own P1.out.o (by decide)) e.symm)]; exact P1.out.o)
      clear own2 g2 sl sl1))
    | (refine atStore 24 (.tmp 3) (.tmp 53) rfl ?_; go_must (refine wpList_exS rfl (execStL (R:=A+2) (v:=u2) rfl rfl rfl oR.out (own_oneCell G2.out.2)) ?_; have P2:Hid (_):=P1.out.grew G2.out.1 G2.out.2)))
   go_roundw
   case rel=>exact ⟨i+1,u2,HK.out,by go_num,by rw [cellAt_succ]; exact P2.out⟩
   case measure=>have:=HK.out; simp [intOf]; omega
  ·have ei:i=n:=by omega
   subst ei
   have i1:¬ (i:Int) < i:=by omega
   have P0:Hid (_):=pk
   clear pk hi hlt
   go_wp2_with fail
   have HL:Hid (cellAt i<=100000000):=by show cellAt i<=100000000; have:=HB.out.2.2.1.n; unfold cellAt; omega
   have HBY:Hid (∀ j,j < cellAt i->q j < 256):=fun j hj=>by
    rw [← HQ.out,packF_in _ _ _ _ _ hj]
    refine packB_lt _ _ _ _ _ (by have:=HB.out.2.2.1.lf; omega) (fun a b ha hb=>?_) hj
    have:=HB.out.2.2.2.1.cell a ha
    rw [HB.out.2.2.2.2.1 a ha] at this
    exact this.bytes b hb
   obtain ⟨N,hN⟩:∃ N,(adl q (cellAt i)).2 * 65536+(adl q (cellAt i)).1=N:=⟨_,rfl⟩
   have NN:Hid (N < 18446744073709551616/\(adl q (cellAt i)).2 * 65536+(adl q (cellAt i)).1=N):=⟨by obtain ⟨a,b⟩:=adl_lt q (cellAt i); omega,hN⟩
   clear hN
   refine wp_region_det 62 [(0,55),(1,56),(2,57),(3,58),(4,59),(5,60)] (ftV A q i N v) (fun l W=>(l 5=false/\Pk A (A+2) (bC rd ep lf (.slice ca i ccap)) q (cellAt i) v V W)\/(l 5=true/\∃ r,Pk A (A+2) (bC rd ep lf (.slice ca i ccap)) q (cellAt i+4) r V W)) (by kernel_rfl) (by kernel_rfl) rfl (by kernel_rfl) (by decide) (by decide) ?_ ?_ ?_
   ·exact Or.inl ⟨rfl,P0.out.on (Below.refl _ _).drew⟩
   ·intro j hj l a W hl hf hdep hl2 hcl _ hT
    match j,hj with
    | 0,_=>exact stepV rfl rfl (execMvB rfl (hf 4 (by decide))) ⟨⟨_,rfl,rfl⟩,hT⟩
    | 1,_=>exact stepC rfl rfl (execCall0 Tryz.func55 (by kernel_rfl) (by kernel_rfl) rfl) (nobytes_any W) fun e w' h=>⟨_,h.1,⟨_,rfl,rfl⟩,hT.imp (fun q=>⟨q.1,q.2.on h.2⟩) fun q=>⟨q.1,q.2.imp fun _ p=>p.on h.2⟩⟩
    | 2,_=>
     have n5:l 5=false:=by
      cases h:l 5 with
      | false=>rfl
      | true=>
       have:=hcl 3 _ rfl (hcl 4 _ rfl (hcl 5 _ rfl h 4 rfl) 3 rfl) 2 rfl
       rw [hl] at this
       cases this
     rcases hT with ⟨_,pk⟩ | ⟨q,_⟩
     ·exact stepV rfl rfl (execLdL rfl (hf 3 (by decide)) pk.cell) ⟨⟨_,rfl,rfl⟩,Or.inl ⟨n5,pk⟩⟩
     ·rw [n5] at q; cases q
    | 3,_=>
     have n5:l 5=false:=by
      cases h:l 5 with
      | false=>rfl
      | true=>
       have:=hcl 4 _ rfl (hcl 5 _ rfl h 4 rfl) 3 rfl
       rw [hl] at this
       cases this
     rcases hT with ⟨_,pk⟩ | ⟨q,_⟩
     ·have ov:=over_any q 0 (cellAt i) v W (sliceN_cg (own_slice pk.own HBY.out) fun j _=>by rw [Nat.zero_add]) (by have:=HL.out; omega)
      rw [Nat.zero_add] at ov
      exact stepC rfl rfl (execCall2 Tryz.func56 (by kernel_rfl) (by kernel_rfl) rfl (hdep _ rfl 1 rfl _ rfl _ rfl) (hdep _ rfl 2 rfl _ rfl _ rfl)) ov fun e w' h=>⟨_,h.1,⟨_,rfl,rfl⟩,Or.inl ⟨n5,pk.on h.2⟩⟩
     ·rw [n5] at q; cases q
    | 4,_=>
     obtain ⟨la,lb⟩:=adl_lt q (cellAt i)
     have sn:=snumber_any _ _ W la lb
     rw [NN.out.2] at sn
     exact stepC rfl rfl (execCall1 Tryz.func57 (by kernel_rfl) (by kernel_rfl) rfl (hdep _ rfl 3 rfl _ rfl _ rfl)) sn fun e w' h=>⟨_,h.1,⟨_,rfl,rfl⟩,hT.imp (fun q=>⟨q.1,q.2.on h.2⟩) fun q=>⟨q.1,q.2.imp fun _ p=>p.on h.2⟩⟩
    | 5,_=>
     rcases hT with ⟨_,pk⟩ | ⟨q,_⟩
     ·refine stepC rfl rfl (execClo2 (vy:=.int .i64 8) (vz:=.int .u64 (N:Int)) Tryz.func53 (by kernel_rfl) (by kernel_rfl) rfl (hdep _ rfl 0 rfl _ rfl _ rfl) rfl (hdep _ rfl 4 rfl _ rfl _ rfl)) (add_any A (A+2) (cellAt i) 8 N (bC rd ep lf (.slice ca i ccap)) q v V W pk HB.out.1 HB.out.2.1 (by decide) (by decide) NN.out.1 HL.out (by rw [← NN.out.2,← HQ.out]; exact pk_foot _ _ _ _ _)) fun e w' h=>⟨_,h.1,⟨_,rfl,rfl⟩,Or.inr ⟨rfl,h.2⟩⟩
     ·rw [hl] at q; cases q
    | n+6,h=>exact absurd h (by simp)
   ·intro l W hall hT
    have h5:=hall 5 (by simp)
    obtain ⟨r,pk⟩:∃ r,Pk A (A+2) (bC rd ep lf (.slice ca i ccap)) q (cellAt i+4) r V W:=by
     rcases hT with ⟨q,_⟩ | ⟨_,pk⟩
     ·rw [h5] at q; cases q
     ·exact pk
    have k0:=pk.cell
    have PK:Hid (_):=pk
    clear hall hT h5 pk P0
    simp only [putP,ftV,Act.put,List.setIfInBounds_toArray,List.set_cons_succ,List.set_cons_zero]
    go_wp2
    go_ret
    refine ⟨_,rfl,?_,?_⟩
    ·rw [HB.out.2.2.2.2.2]
     exact own_base PK.out.own (by omega)
    ·rw [HB.out.2.2.2.2.2]
     exact PK.out.bel
end Go.Proofs.YtjckkdjldnobmaaGreatDoor.Frm

namespace Go.Proofs.YtjckkdjldnobmaaGreatDoor.Frm
open Go.RowKit Gf8 Aes By8 Cel
/- Pack. -/
theorem good_of {rd ep lf:Int} {n:Nat} (h:hdOk rd ep lf=true) (hn:n<=256):∃ r e l:Nat,rd=r/\ep=e/\lf=l/\Good r e l n:=by
 unfold hdOk at h
 simp at h
 exact ⟨rd.toNat,ep.toNat,lf.toNat,by omega,by omega,by omega,⟨by omega,by omega,by omega,hn⟩⟩
set_option maxRecDepth 20000 in
set_option maxHeartbeats 1000000 in
theorem ppack_any (rd ep lf:Int) (n:Nat) (cv:Value) (xv:Nat->Value) (ln:Nat->Nat) (c:Nat->Nat->Nat) (V:World) (g:Rules V) (hc:Cells V cv n xv ln c) (hn:n<=140737488351232) :
  Calls Tryz.prog 17 #[.agg (bC rd ep lf cv)] V fun e w'=>∃ r,e=.returned (.tuple #[r,.int .i64 (packE rd ep lf n ln:Nat)])/\w'.ownsRow V.heap.size 5 1 r (packN rd ep lf n ln) (bytesL (packN rd ep lf n ln) (packI rd ep lf n c))/\Below V.heap.size V w':=by
 obtain ⟨ca,ccap,rfl,_,_,hs⟩:=id hc.shape
 obtain ⟨A,hA⟩:∃ A,V.heap.size=A:=⟨_,rfl⟩
 have h1:=heapNew V (.cells (bC rd ep lf (.slice ca n ccap)) 54)
 have b1:=belNew V (.cells (bC rd ep lf (.slice ca n ccap)) 54)
 obtain ⟨V1,hV1⟩:∃ V1,V.alloc (.cells (bC rd ep lf (.slice ca n ccap)) 54)=V1:=⟨_,rfl⟩
 rw [hV1,hA] at h1 b1
 have HB:Hid (Rules V/\Cells V (.slice ca n ccap) n xv ln c/\V.heap.size=A/\n<=140737488351232):=⟨g,hc,hA,hn⟩
 have s1:V1.heap.size=A+1:=by rw [← hV1,← hA]; simp
 have H1:Hid (V1.heap[A]?=some (.cells (bC rd ep lf (.slice ca n ccap)) 54)/\Below A V V1/\V1.heap.size=A+1):=⟨h1,b1,s1⟩
 have HS:Hid (0 < n->∃ b off,ca=some ⟨b,off,none⟩/\b < V.heap.size/\∀ i,i < n->V.cell? ⟨b,off+i,none⟩=some (xv i)):=hs
 have nn:(n:Int)<=140737488351232:=by omega
 clear g hc hs h1 b1 s1 hn
 by_cases hh:hdOk rd ep lf=true
 ·by_cases h256:n<=256
  ·have i2:¬ (n:Int) > 256:=by omega
   have HH:Hid (hdOk rd ep lf=true/\n<=256):=⟨hh,h256⟩
   go_enter Tryz.func17,Tryz.ntmps17
   go_wp2_with (first
    | (refine atLoad 52 (.tmp 6) rfl ?_; go_must (refine wpList_ex rfl (execLoadMid (cs:=[.int .i64 rd,.int .i64 ep,.int .i64 lf]) rfl rfl (range_bh H1.out.1) Tryz.underlying52 rfl (by kernel_rfl)) ?_))
    | (go_at_call 33; refine (sound_any rd ep lf _).mono ?_; rintro e w1 ⟨rfl,b1⟩; rw [HH.out.1]; have hb:w1.heap[A]?=some (.cells (bC rd ep lf (.slice ca n ccap)) 54):=(by rw [b1.block _ (by have:=H1.out.2.2; omega)]; exact H1.out.1); obtain ⟨_,_,_,k3⟩:=bC_at _ _ _ _ hb; have W1:Hid (w1.heap[A]?=some (.cells (bC rd ep lf (.slice ca n ccap)) 54)/\Below A V w1/\A < w1.heap.size):=⟨hb,H1.out.2.1.trans (b1.mono (by have:=H1.out.2.2; omega)),(Array.getElem?_eq_some_iff.1 hb).1⟩; clear hb b1))
   clear hh h256
   go_loopw [17] (fun z W=>∃ (i:Nat),i<=n/\z=.int .i64 (i:Int)/\(∀ j,j < i->ln j=320)/\W=w1) (fun z _=>n - (intOf z).toNat)
   case atStart=>exact ⟨0,Nat.zero_le _,rfl,fun j h=>by omega,rfl⟩
   case round=>
    obtain ⟨i,hi,rfl,hal,rfl⟩:=hrel
    by_cases hlt:i < n
    ·have i1:(i:Int) < n:=by omega
     obtain ⟨b,off,rfl,hb,hcell⟩:=HS.out (by omega)
     have c1:wr.cell? ⟨b,off+i,none⟩=some (xv i):=by rw [cell_below W1.out.2.1 (by have:=HB.out.2.2.1; omega)]; exact hcell i hlt
     have sl:=HB.out.2.1.cell i hlt
     obtain ⟨ua,uc,eu,_⟩:=sl.shape
     rw [eu] at c1
     have ul:=HB.out.2.1.lens i hlt
     have u1:(ln i:Int)<=140737488351232:=by omega
     have HK:Hid (i < n/\∀ j,j < i->ln j=320):=⟨hlt,hal⟩
     by_cases h3:ln i=320
     ·have i3:((ln i:Int) != 320)=false:=by simp; omega
      have H3:Hid (ln i=320):=h3
      clear hlt hi hal hb hcell sl eu ul h3
      go_wp2
      go_roundw
      case rel=>exact ⟨i+1,HK.out.1,by go_num,fun j hj=>by
       by_cases e:j=i
       ·rw [e]; exact H3.out
       ·exact HK.out.2 j (by omega),by first | rfl | trivial⟩
      case measure=>have:=HK.out.1; simp [intOf]; omega
     ·have i3:((ln i:Int) != 320)=true:=by simp; omega
      have H3:Hid (ln i ≠ 320):=h3
      clear hlt hi hal hb hcell sl eu ul h3
      go_wp2
      go_ret2
      have eE:packE rd ep lf n ln=64:=by
       unfold packE
       rw [if_pos HH.out.1,if_pos HH.out.2,if_neg]
       intro q
       exact H3.out ((allC_iff n ln).1 q i HK.out.1)
      have eN:packN rd ep lf n ln=0:=by unfold packN; rw [eE]; rfl
      rw [eE,eN,HB.out.2.2.1]
      exact ⟨_,rfl,World.ownsRow_nil _ _ _ _,W1.out.2.1⟩
    ·have ei:i=n:=by omega
     subst ei
     have i1:¬ (i:Int) < i:=by omega
     obtain ⟨r,e,l,rfl,rfl,rfl,gd⟩:=good_of HH.out.1 HH.out.2
     have HG:Hid (Good r e l i/\∀ j,j < i->ln j=320):=⟨gd,hal⟩
     clear hi hlt hal gd
     go_wp2_with (first
      | (refine atLoad 54 (.tmp 1) rfl ?_; go_must (refine wpList_load_row rfl 54 (.tmp 1) rfl A rfl 54 _ (0,0) _ W1.out.1 Tryz.underlying54 rfl (sizeB _ _ _ _) ?_; simp only [Act.put,List.setIfInBounds_toArray,List.set_cons_succ,List.set_cons_zero]))
      | (go_at_call 34; refine (packed_any r e l i _ xv ln c wr (HB.out.1.on W1.out.2.1 (by have:=HB.out.1.sz; have:=HB.out.2.2.1; omega)) HG.out.1 (HB.out.2.1.on (by rw [HB.out.2.2.1]; exact W1.out.2.1)) HG.out.2).mono ?_; rintro e' w2 ⟨u,rfl,own,b2⟩))
     go_ret2
     have eE:packE r e l i ln=0:=by
      unfold packE
      rw [if_pos HH.out.1,if_pos HH.out.2,if_pos ((allC_iff i ln).2 HG.out.2)]
     have eN:packN r e l i ln=cellAt i+4:=by unfold packN; rw [eE]; rfl
     rw [eE,eN,HB.out.2.2.1]
     have lA:=W1.out.2.2
     exact ⟨_,rfl,own_base own (by omega),W1.out.2.1.trans (b2.mono (by omega))⟩
  ·have i2:(n:Int) > 256:=by omega
   have eE:packE rd ep lf n ln=63:=by unfold packE; rw [if_pos hh,if_neg h256]
   have eN:packN rd ep lf n ln=0:=by unfold packN; rw [eE]; rfl
   rw [eE,eN]
   clear eE eN h256 HS
   have HH:Hid (hdOk rd ep lf=true):=hh
   clear hh
   go_enter Tryz.func17,Tryz.ntmps17
   go_wp2_with (first
    | (refine atLoad 52 (.tmp 6) rfl ?_; go_must (refine wpList_ex rfl (execLoadMid (cs:=[.int .i64 rd,.int .i64 ep,.int .i64 lf]) rfl rfl (range_bh H1.out.1) Tryz.underlying52 rfl (by kernel_rfl)) ?_))
    | (go_at_call 33; refine (sound_any rd ep lf _).mono ?_; rintro e w1 ⟨rfl,b1⟩; rw [HH.out]; have hb:w1.heap[A]?=some (.cells (bC rd ep lf (.slice ca n ccap)) 54):=(by rw [b1.block _ (by have:=H1.out.2.2; omega)]; exact H1.out.1); obtain ⟨_,_,_,k3⟩:=bC_at _ _ _ _ hb; have W1:Hid (Below A V w1):=H1.out.2.1.trans (b1.mono (by have:=H1.out.2.2; omega)); clear hb b1))
   go_ret2
   rw [HB.out.2.2.1]
   exact ⟨_,rfl,World.ownsRow_nil _ _ _ _,W1.out⟩
 ·have hf:hdOk rd ep lf=false:=by simpa using hh
  have eE:packE rd ep lf n ln=62:=by unfold packE; rw [if_neg hh]
  have eN:packN rd ep lf n ln=0:=by unfold packN; rw [eE]; rfl
  rw [eE,eN]
  have HH:Hid (hdOk rd ep lf=false):=hf
  clear eE eN HS hh hf
  go_enter Tryz.func17,Tryz.ntmps17
  go_wp2_with (first
   | (refine atLoad 52 (.tmp 6) rfl ?_; go_must (refine wpList_ex rfl (execLoadMid (cs:=[.int .i64 rd,.int .i64 ep,.int .i64 lf]) rfl rfl (range_bh H1.out.1) Tryz.underlying52 rfl (by kernel_rfl)) ?_))
   | (go_at_call 33; refine (sound_any rd ep lf _).mono ?_; rintro e w1 ⟨rfl,b1⟩; rw [HH.out]; have W1:Hid (Below A V w1):=H1.out.2.1.trans (b1.mono (by have:=H1.out.2.2; omega)); clear b1))
  go_ret2
  rw [HB.out.2.2.1]
  exact ⟨_,rfl,World.ownsRow_nil _ _ _ _,W1.out⟩
end Go.Proofs.YtjckkdjldnobmaaGreatDoor.Frm

namespace Go.Proofs.YtjckkdjldnobmaaGreatDoor.Frm
open Go.RowKit Gf8 Aes By8 Cel
/- General things for the laws. -/
theorem packE_ok {rd ep lf:Int} {n:Nat} {ln:Nat->Nat} (h:packE rd ep lf n ln=0):∃ r e l:Nat,rd=r/\ep=e/\lf=l/\Good r e l n/\(∀ i,i < n->ln i=320)/\packN rd ep lf n ln=cellAt n+4:=by
 have h':=h
 unfold packE at h
 by_cases h1:hdOk rd ep lf=true
 ·rw [if_pos h1] at h
  by_cases h2:n<=256
  ·rw [if_pos h2] at h
   by_cases h3:allC n ln=true
   ·obtain ⟨r,e,l,a,b,c,d⟩:=good_of h1 h2
    exact ⟨r,e,l,a,b,c,d,(allC_iff n ln).1 h3,by unfold packN; rw [if_pos h']⟩
   ·rw [if_neg h3] at h; cases h
  ·rw [if_neg h2] at h; cases h
 ·rw [if_neg h1] at h; cases h
end Go.Proofs.YtjckkdjldnobmaaGreatDoor.Frm

namespace Go.Proofs.YtjckkdjldnobmaaGreatDoor.Frm
open Go.RowKit Gf8 Aes By8 Cel
/- same, sameCells, alike, where they are the same. -/
theorem own_nonnil {W:World} {B n t:Nat} {v:Value} {xs:List Value} (h:W.ownsRow B t 1 v n xs) (hn:0 < n):∀ l c,v=.slice none l c->c=0:=by
 intro l c e
 rcases h.2 with ⟨_,e0⟩ | ⟨g,cap,cur,rfl,_⟩
 ·omega
 ·cases e
theorem CL.cells {B k:Nat} {x:Nat->Value} {p:Nat->Nat} {cv:Value} {W:World} (h:CL B k x p cv W) (hb:∀ i j,i < k->j < 320->cellB p i j < 256) (hk:k<=1000):Cells W cv k x (fun _=>320) (cellB p):=by
 refine ⟨?_,fun i hi=>own_slice (h.fam.rows i hi) fun j hj=>hb i j hi hj,fun i hi=>own_nonnil (h.fam.rows i hi) (by omega),fun i _=>by omega⟩
 by_cases h0:0 < k
 ·obtain ⟨g,cap,rfl,hB,hg,hc⟩:=ownL_cells h.own h0
  have:k<=cap/\cap < 9223372036854775808:=by
   rcases h.own.2 with ⟨e,_⟩ | ⟨g',cap',cur,e,_,_,h1,h2,_⟩
   ·cases e
   ·injection e with _ _ e3
    unfold maxLen at h2
    omega
  exact ⟨_,cap,rfl,this.1,this.2,fun _=>⟨g,0,rfl,hg,fun i hi=>by rw [Nat.zero_add]; have:=hc i hi; rw [Nat.zero_add] at this; exact this⟩⟩
 ·obtain ⟨ao,cap,rfl⟩:=ownL_shape h.own
  have:k<=cap/\cap < 9223372036854775808:=by
   rcases h.own.2 with ⟨e,_⟩ | ⟨g',cap',cur,e,_,_,h1,h2,_⟩
   ·injection e with _ _ e3
    omega
   ·injection e with _ _ e3
    unfold maxLen at h2
    omega
  exact ⟨ao,cap,rfl,this.1,this.2,fun q=>absurd q h0⟩
section
variable {o:Oper} {a:Act} {w:World}
end
end Go.Proofs.YtjckkdjldnobmaaGreatDoor.Frm
