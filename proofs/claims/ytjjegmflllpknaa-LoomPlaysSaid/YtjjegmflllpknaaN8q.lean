import Derived.Test.YtjjegmflllpknaaN8o
import Derived.Test.YtjjegmflllpknaaN8p
namespace Go.Proofs.Ytjjegmflllpknaa.Loo
open Go.RowKit Gf8 Aes By8 Cel Cf Win Drw Prm
/- The landed loom's Play. Written by tools/mkN8q.py. -/
section
variable {p:Pl} {G:Ad} {U V W X:World} {q1 q2:Nat->Nat} {sc:Nat->Int} {F F2:Nat->Prop} {N:Nat} {pk:Value} {e:Ending}
theorem pS_E (hp:Okp p) (h:WvE (pS p G U q1 q2) sc 65536 (0,r0,0) V F N pk F2 e W):Run p sc N/\e=.returned (.agg (hC pk 0 (!live p (rk p sc N)) (live p (rk p sc N) && decide (mayL p (rk p sc N)=[])) 0 (.slice none 0 0)))/\W.ownsRow V.heap.size 3 1 pk N (intsL N fun i=>((Loo.pk p sc i:Nat):Int))/\PR p G U q1 q2 W F2 (N,rk p sc N,mx p sc N):=by
 have ea:∀ j,((pS p G U q1 q2).ask p.n ((pS p G U q1 q2).at sc (0,r0,0) j))=(mayL p (rk p sc j),(j,rk p sc j,mx p sc j)):=fun j=>by rw [pS_at,pS_ask]; rfl
 have el:(pS p G U q1 q2).alv p.n ((pS p G U q1 q2).at sc (0,r0,0) N)=live p (rk p sc N):=by rw [pS_at,pS_alv hp p.n (Nat.le_refl _)]; rfl
 obtain ⟨h1,h2,h3,h4,h5,h6,_,_,_⟩:=h
 refine ⟨⟨h1,fun j hj=>?_,?_⟩,?_,?_,?_⟩
 ·have:=h2 j hj
  rw [show (pS p G U q1 q2).n=p.n from rfl,ea j] at this
  exact this
 ·rw [show (pS p G U q1 q2).n=p.n from rfl,ea N] at h3
  exact h3
 ·rw [show (pS p G U q1 q2).n=p.n from rfl,ea N,el] at h4
  exact h4
 ·rw [intsL_congr (g:=fun i=>((Loo.pk p sc i:Nat):Int)) (fun i _=>by show (((pS p G U q1 q2).pk sc (0,r0,0) i:Nat):Int)=_; rw [pS_pk])] at h5
  exact h5
 ·rw [show (pS p G U q1 q2).n=p.n from rfl,ea N] at h6
  exact h6
end
theorem execBdH0 {o:Oper} {a:Act} {w:World} (ho:o.op=.build 29 #[]):(execOp a.eval o).run Try.prog w=.ok (.value (.agg (hC (.slice none 0 0) 0 false false 0 (.slice none 0 0)))) w:=by
 unfold execOp
 simp only [ho,List.map_toArray,List.map_nil]
 kernel_rfl
set_option maxRecDepth 100000 in
theorem infSt:∃ i,Try.prog.info? 73=some i/\i.zero=some (.agg #[.nilFunc,.nilFunc,.nilFunc])/\i.size=3/\i.bytes=24:=⟨_,rfl,by kernel_rfl,by kernel_rfl,by kernel_rfl⟩
theorem execMkSt {o:Oper} {a:Act} {w:World} {x y:Operand} {n:Nat} (ho:o.op=.makeSlice 66 x y) (hx:a.eval x=.int .i64 ((n:Nat):Int)) (hy:a.eval y=.int .i64 ((n:Nat):Int)) (hn:n<=1024):(execOp a.eval o).run Try.prog w=.ok (.value (.slice (some ⟨w.heap.size,0,none⟩) n n)) (w.alloc (.cells (madeCells #[.nilFunc,.nilFunc,.nilFunc] (n * 3)) 73)):=by
 obtain ⟨i,h1,h2,h3,h4⟩:=infSt
 have h:=run_make (P:=Try.prog) w 66 73 i (.agg #[.nilFunc,.nilFunc,.nilFunc]) Try.underlying66 h1 h2 .i64 .i64 (n:Int) (n:Int) (by omega) (by omega) (by rw [h4]; omega) (by omega)
 rw [h3,Int.toNat_natCast] at h
 unfold execOp
 simp only [ho,hx,hy,Sem.run_bind,h,Result.andThen_ok,Sem.run_pure]
 rfl
theorem made_size (c:Array Value) (n:Nat):(madeCells c n).size=n:=by simp [madeCells]
theorem execStRow {o:Oper} {a:Act} {w:World} {x y:Operand} {g t n:Nat} {f1 f2 f3:FuncId × Array Value × Array Value} {cur:Array Value} (ho:o.op=.store 73 x y) (hx:a.eval x=.pointer (some ⟨g,0+t * 3,none⟩)) (hy:a.eval y=.agg #[fv3 f1,fv3 f2,fv3 f3]) (hg:w.heap[g]?=some (.cells cur 73)) (hc:cur.size=n * 3) (ht:t < n):(execOp a.eval o).run Try.prog w=.ok .skip (w.setRow g (cur.toList.take (t * 3) ++ [fv3 f1,fv3 f2,fv3 f3] ++ cur.toList.drop (t * 3+3)).toArray):=by
 rw [Nat.zero_add] at hx
 have h:=execStMid (P:=Try.prog) ho hx hy hg (by show t * 3+3<=cur.size; omega) (by show _=some 3; kernel_rfl) (by simp [(fv3_fn f1).one,(fv3_fn f2).one,(fv3_fn f3).one])
 exact h
theorem row_in {cur:Array Value} {t n:Nat} {u1 u2 u3:Value} (hc:cur.size=n * 3) (ht:t < n):(cur.toList.take (t * 3) ++ [u1,u2,u3] ++ cur.toList.drop (t * 3+3)).toArray.size=n * 3/\(∀ k,k < t * 3->(cur.toList.take (t * 3) ++ [u1,u2,u3] ++ cur.toList.drop (t * 3+3)).toArray[k]?=cur[k]?)/\(cur.toList.take (t * 3) ++ [u1,u2,u3] ++ cur.toList.drop (t * 3+3)).toArray[t * 3]?=some u1/\(cur.toList.take (t * 3) ++ [u1,u2,u3] ++ cur.toList.drop (t * 3+3)).toArray[t * 3+1]?=some u2/\(cur.toList.take (t * 3) ++ [u1,u2,u3] ++ cur.toList.drop (t * 3+3)).toArray[t * 3+2]?=some u3:=by
 have hl:(cur.toList.take (t * 3)).length=t * 3:=by rw [List.length_take,Array.length_toList]; omega
 refine ⟨?_,fun k hk=>?_,?_,?_,?_⟩
 ·simp
  omega
 ·rw [List.getElem?_toArray,List.append_assoc,List.getElem?_append_left (by omega),List.getElem?_take,if_pos hk,Array.getElem?_toList]
 ·rw [List.getElem?_toArray,List.append_assoc,List.getElem?_append_right (by omega),hl,Nat.sub_self]
  rfl
 ·rw [List.getElem?_toArray,List.append_assoc,List.getElem?_append_right (by omega),hl,show t * 3+1 - t * 3=1 by omega]
  rfl
 ·rw [List.getElem?_toArray,List.append_assoc,List.getElem?_append_right (by omega),hl,show t * 3+2 - t * 3=2 by omega]
  rfl
structure Pb (p:Pl) (G:Ad) (V U:World) (ow:Nat->Nat) (q1 q2:Nat->Nat) (sb g4 i:Nat) (W:World):Prop where
 rn:RN p G U ow (Mof p r0 0) W
 bx:∀ t,t < i->(W.heap[q1 t]?=some (.cells #[.pointer (some ⟨G.rb,0,none⟩)] 64)/\ow (q1 t)=0)/\W.heap[q2 t]?=some (.cells #[.pointer (some ⟨G.hn t,0,none⟩)] 71)/\ow (q2 t)=0
 bg:∀ t,t < i->U.heap.size<=q1 t/\U.heap.size<=q2 t
 row:∃ cur,W.heap[sb]?=some (.cells cur 73)/\cur.size=p.n * 3/\∀ t,t < i->cur[t * 3]?=some (fv3 (pe G t))/\cur[t * 3+1]?=some (fv3 (pr_ (q1 t) (q2 t)))/\cur[t * 3+2]?=some (fv3 (ps_ (q1 t) (q2 t)))
 h4:W.heap[g4]?=some (.cells (hC (.slice none 0 0) 0 false false 0 (.slice none 0 0)) 29)
 osb:ow sb=0/\U.heap.size<=sb
 bel:Below V.heap.size V W
 vu:V.heap.size<=U.heap.size
section
variable {p:Pl} {G:Ad} {V U W X:World} {ow:Nat->Nat} {q1 q2:Nat->Nat} {sb g4 i:Nat}
theorem Pb.on (h:Pb p G V U ow q1 q2 sb g4 i W) (hb:Below W.heap.size W X):Pb p G V U ow q1 q2 sb g4 i X:=by
 obtain ⟨cur,r1,r2⟩:=h.row
 exact ⟨h.rn.on hb,fun t ht=>⟨⟨on9 (h.bx t ht).1.1 hb,(h.bx t ht).1.2⟩,on9 (h.bx t ht).2.1 hb,(h.bx t ht).2.2⟩,h.bg,⟨cur,on9 r1 hb,r2⟩,on9 h.h4 hb,h.osb,h.bel.trans (hb.mono h.bel.size),h.vu⟩
theorem Pb.store {cur:Array Value} {a b:Nat} (h:Pb p G V U ow q1 q2 sb g4 i W) (hi:i < p.n) (r1:W.heap[sb]?=some (.cells cur 73)) (r2:cur.size=p.n * 3) (r3:∀ t,t < i->cur[t * 3]?=some (fv3 (pe G t))/\cur[t * 3+1]?=some (fv3 (pr_ (q1 t) (q2 t)))/\cur[t * 3+2]?=some (fv3 (ps_ (q1 t) (q2 t))))
  (ha:W.heap[a]?=some (.cells #[.pointer (some ⟨G.rb,0,none⟩)] 64)/\ow a=0) (hb:W.heap[b]?=some (.cells #[.pointer (some ⟨G.hn i,0,none⟩)] 71)/\ow b=0) (hag:U.heap.size<=a/\U.heap.size<=b) (e:X=W.setRow sb (cur.toList.take (i * 3) ++ [fv3 (pe G i),fv3 (pr_ a b),fv3 (ps_ a b)] ++ cur.toList.drop (i * 3+3)).toArray):Pb p G V U ow (upf q1 i a) (upf q2 i b) sb g4 (i+1) X:=by
 have hk:∀ {g:Nat} {c:Array Value} {T:TypeId},W.heap[g]?=some (.cells c T)->T ≠ 73->X.heap[g]?=some (.cells c T):=fun {g c T} hg hT=>by
  rw [e,setRow_other _ _ _ _ (fun q=>?_)]
  ·exact hg
  ·subst q
   rw [r1] at hg
   injection hg with hg
   injection hg with _ hg _
   exact hT hg.symm
 have hbel:Below sb W X:=by rw [e]; exact below4 (Below.refl _ _) (Nat.le_refl _) _
 have hsv:Saved (fun b=>b=sb) W X:=⟨hbel.os,hbel.tape,hbel.output,hbel.size,fun b _ hn=>by rw [e,setRow_other _ _ _ _ hn]⟩
 obtain ⟨s1,s2,s3,s4,s5⟩:=row_in (u1:=fv3 (pe G i)) (u2:=fv3 (pr_ a b)) (u3:=fv3 (ps_ a b)) r2 hi
 refine ⟨h.rn.frame ⟨hsv.os,hsv.tape,hsv.output,hsv.size,fun b hb hn=>hsv.block b hb (fun q=>hn (by rw [q]; exact ⟨h.osb.2,h.osb.1⟩))⟩,fun t ht=>?_,fun t ht=>?_,⟨_,by rw [e]; exact setRow_heap _ _ _ _ _ _ r1,s1,fun t ht=>?_⟩,hk h.h4 (by decide),h.osb,⟨hsv.os.trans h.bel.os,hsv.tape.trans h.bel.tape,hsv.output.trans h.bel.output,Nat.le_trans h.bel.size hsv.size,fun b hb=>?_⟩,h.vu⟩
 ·by_cases q:t=i
  ·subst q
   rw [upf_at,upf_at]
   exact ⟨⟨hk ha.1 (by decide),ha.2⟩,hk hb.1 (by decide),hb.2⟩
  ·rw [upf_ne _ _ q,upf_ne _ _ q]
   obtain ⟨w1,w2⟩:=h.bx t (by omega)
   exact ⟨⟨hk w1.1 (by decide),w1.2⟩,hk w2.1 (by decide),w2.2⟩
 ·by_cases q:t=i
  ·rw [q,upf_at,upf_at]; exact hag
  ·rw [upf_ne _ _ q,upf_ne _ _ q]; exact h.bg t (by omega)
 ·by_cases q:t=i
  ·subst q
   rw [upf_at,upf_at]
   exact ⟨s3,s4,s5⟩
  ·rw [upf_ne _ _ q,upf_ne _ _ q,s2 _ (by omega),s2 _ (by omega),s2 _ (by omega)]
   exact r3 t (by omega)
 ·rw [hsv.block b (Nat.lt_of_lt_of_le hb h.bel.size) (fun q=>by have:=h.osb.2; have:=h.vu; omega),h.bel.block b hb]
end
theorem own_offT {W:World} {B n g k:Nat} {T T2:TypeId} {v u:Value} {xs:List Value} {c:Array Value} (h:W.ownsRow B T 1 v n xs) (hg:W.heap[g]?=some (.cells c T2)) (hT:T2 ≠ T):(W.setCell ⟨g,k,none⟩ u).ownsRow B T 1 v n xs:=by
 refine own_frame (P:=fun b=>v.ownBlock=some b) h (fun _ q=>q) (fun b hb=>heap4o _ hg (fun q=>?_))
 rcases h.2 with ⟨w,_⟩ | ⟨g',cap,cur,rfl,_,hg',_⟩
 ·rw [w] at hb; cases hb
 ·cases hb
  subst q
  rw [hg] at hg'
  injection hg' with hg'
  injection hg' with _ hg' _
  exact hT hg'
set_option maxRecDepth 100000 in
set_option maxHeartbeats 4000000 in
theorem pplay (p:Pl) (v sv:Value) (m:Nat) (sc:Nat->Int) (V:World) (hP:PlA V v p) (hS:SliceI V sv m sc) :
  Calls Try.prog 7 #[v,sv] V fun e w'=>((chk p ≠ 0->e=.returned (.tuple #[.agg (hC (.slice none 0 0) 0 false false 0 (.slice none 0 0)),.int .i64 ((chk p:Nat):Int)]))/\(chk p=0->∃ pk tk tv N,Run p (scr m sc) N/\e=.returned (.tuple #[.agg (hC pk (mx p (scr m sc) N) (!live p (rk p (scr m sc) N)) (live p (rk p (scr m sc) N) && decide (mayL p (rk p (scr m sc) N)=[])) (rk p (scr m sc) N).lt tk),.int .i64 ((0:Nat):Int)])/\His V.heap.size w' pk tk tv N p.n (fun i=>(Loo.pk p (scr m sc) i:Int)) (rk p (scr m sc) N).tk))/\Below V.heap.size V w':=by
 obtain ⟨cv,tv,x,rfl,hcv,htv,hops⟩:=hP
 go_enter Try.func7,Try.ntmps7
 refine wo_ 60 [(0,.agg #[cv,tv]),(1,sv)] ?_
 rintro a A ⟨t0,t1,-⟩
 refine wp_seq ?_
 obtain ⟨g2,e2⟩:∃ z_:Nat,V.heap.size=z_:=⟨_,rfl⟩
 refine wi_ A (h2_ t0 t1) (rs_ 0 (fun a E=>?_))
 refine stepV rfl rfl (execBxP rfl (E _) (sl3 hcv.shp) (sl3 htv.shp)) ⟨.pointer (some ⟨g2,0,none⟩),⟨_,rfl,by subst e2; rfl⟩,fun X1 hX=>?_⟩
 have b1:Below V.heap.size V X1:=by rw [hX]; exact belNew V _
 have F2:X1.heap[g2]?=some (.cells #[cv,tv] 25):=by rw [hX,← e2]; exact heapNew V _
 clear hX E a
 obtain ⟨g4,e4⟩:∃ z_:Nat,X1.heap.size=z_:=⟨_,rfl⟩
 refine rs_ 1 (fun a E=>?_)
 refine stepV rfl rfl (execAlH rfl) ⟨.pointer (some ⟨g4,0,none⟩),⟨_,rfl,by subst e4; rfl⟩,fun X2 hX=>?_⟩
 have b2:Below X1.heap.size X1 X2:=by rw [hX]; exact belNew X1 _
 have F4:X2.heap[g4]?=some (.cells (hC (.slice none 0 0) 0 false false 0 (.slice none 0 0)) 29):=by rw [hX,← e4]; exact heapNew X1 _
 clear hX E a
 replace F2:=on9 F2 b2
 have ge4:V.heap.size<=g4:=by rw [← e4]; exact b1.size
 replace b1:=b1.trans (b2.mono b1.size)
 clear b2
 refine rf_ [(2,.pointer (some ⟨g2,0,none⟩)),(4,.pointer (some ⟨g4,0,none⟩))] (h1_ t1) ?_
 rintro a A ⟨t2,t4,-⟩ ⟨t1,-⟩
 refine wp_seq (wp_seq ?_)
 have hP2:PlA X2 (.agg #[cv,tv]) p:=⟨cv,tv,x,rfl,hcv.on b1,htv.on b1,fun t ht=>(hops t ht).on b1⟩
 refine wi_ A (h3_ t1 t2 t4) (rv_ 0 (.agg #[cv,tv]) (fun a E=>execLdPn rfl (E _) F2) (rc_ 1 (pcheck p _ X2 hP2) (cb_ fun X3 bQ=>?_)))
 replace F2:=on9 F2 bQ
 replace F4:=on9 F4 bQ
 replace hP2:=hP2.on bQ
 replace b1:=b1.trans (bQ.mono b1.size)
 clear bQ
 refine rf_ [(6,.int .i64 ((chk p:Nat):Int))] (h3_ t1 t2 t4) ?_
 rintro a A ⟨t6,-⟩ ⟨t1,t2,t4,-⟩
 refine wp_seq ?_
 by_cases hc:chk p=0
 ·refine wi_ A (h4_ t1 t2 t4 t6) (rv_ 1 (.bool false) (fun a E=>execDec (execErneq (p:=chk p) (q:=0) rfl (E _)) (decide_eq_false (fun w=>w hc))) (rf_ [(15,.bool false)] (h3_ t1 t2 t4) ?_))
  rintro a A ⟨t15,-⟩ ⟨t1,t2,t4,-⟩
  refine wp_cond_false t15 (wp_skip ?_)
  clear t15 t6
  have hp:=chk_okp hc
  have hn128:=hp.n
  refine wp_seq ?_
  refine wi_ A (h3_ t1 t2 t4) (rv_ 0 (.agg #[cv,tv]) (fun a E=>execLdPn rfl (E _) F2) (rc_ 1 (pbegin hp hP2) (fun e X4 hh=>?_)))
  obtain ⟨G,ow,he,R0⟩:=hh
  refine ⟨_,he,?_⟩
  obtain ⟨U,eU⟩:∃ U,X3=U:=⟨_,rfl⟩
  subst eU
  have F4':=on9 F4 R0.bel
  have b4:=b1.trans (R0.bel.mono b1.size)
  have l4:g4 < X3.heap.size:=(Array.getElem?_eq_some_iff.1 F4).1
  refine rf_ [(7,.pointer (some ⟨G.rb,0,none⟩))] (h2_ t1 t4) ?_
  rintro a A ⟨t7,-⟩ ⟨t1,t4,-⟩
  refine wp_seq ?_
  refine wi_ A (h3_ t1 t4 t7) (rv_ 1 (.pointer (some ⟨G.rb,0,none⟩)) (fun a E=>Duc.execNl rfl (E _)) (rv_ 2 (.pointer (some ⟨G.rb,1,none⟩)) (fun a E=>execRf1 rfl (E _)) (rv_ 3 G.hS (fun a E=>execLdP rfl (Or.inr (Or.inl rfl)) (E _) R0.rc.2.1) (rv_ 4 (.int .i64 ((p.n:Nat):Int)) (fun a E=>execLnH rfl (E _) R0.hR.shp) (rs_ 5 (fun a E=>?_))))))
  obtain ⟨sb,esb⟩:∃ z_:Nat,X4.heap.size=z_:=⟨_,rfl⟩
  refine stepV rfl rfl (execMkSt rfl (E _) (E _) (by omega)) ⟨.slice (some ⟨sb,0,none⟩) p.n p.n,⟨_,rfl,by subst esb; rfl⟩,fun X5 hX=>?_⟩
  have b5:Below X4.heap.size X4 X5:=by rw [hX]; exact belNew X4 _
  have Fs:X5.heap[sb]?=some (.cells (madeCells #[.nilFunc,.nilFunc,.nilFunc] (p.n * 3)) 73):=by rw [hX,← esb]; exact heapNew X4 _
  clear hX E a
  have K0:Pb p G V X3 ow (fun _=>0) (fun _=>0) sb g4 0 X5:=⟨R0.on b5,fun t ht=>by omega,fun t ht=>by omega,⟨_,Fs,made_size _ _,fun t ht=>by omega⟩,on9 F4' b5,⟨R0.no (by omega),by have:=R0.bel.size; omega⟩,b4.trans (b5.mono b4.size),b1.size⟩
  refine rf_ [(8,.slice (some ⟨sb,0,none⟩) p.n p.n)] (h3_ t1 t4 t7) ?_
  rintro a A ⟨t8,-⟩ ⟨t1,t4,t7,-⟩
  refine wp_seq (wp_seq ?_)
  refine wi_ A (h4_ t1 t4 t7 t8) (rv_ 1 (.pointer (some ⟨G.rb,0,none⟩)) (fun a E=>Duc.execNl rfl (E _)) (rv_ 2 (.pointer (some ⟨G.rb,1,none⟩)) (fun a E=>execRf1 rfl (E _)) (rv_ 3 G.hS (fun a E=>execLdP rfl (Or.inr (Or.inl rfl)) (E _) K0.rn.rc.2.1) (rv_ 4 (.int .i64 ((p.n:Nat):Int)) (fun a E=>execLnH rfl (E _) K0.rn.hR.shp) (rf_ [(29,G.hS),(30,.int .i64 ((p.n:Nat):Int)),(31,.int .i64 ((0:Nat):Int))] (h4_ t1 t4 t7 t8) ?_)))))
  rintro a A ⟨t29,t30,t31,-⟩ ⟨t1,t4,t7,t8,-⟩
  refine wp_block ?_
  refine wp_loop (fun a W=>∃ (i:Nat) (q1 q2:Nat->Nat),i<=p.n/\(a.tmps.size=60/\a.defers=[])/\a.eval (.tmp 1)=sv/\a.eval (.tmp 4)=.pointer (some ⟨g4,0,none⟩)/\a.eval (.tmp 7)=.pointer (some ⟨G.rb,0,none⟩)/\a.eval (.tmp 8)=.slice (some ⟨sb,0,none⟩) p.n p.n/\a.eval (.tmp 29)=G.hS/\a.eval (.tmp 30)=.int .i64 ((p.n:Nat):Int)/\a.eval (.tmp 31)=.int .i64 ((i:Nat):Int)/\Pb p G V X3 ow q1 q2 sb g4 i W) (fun a _=>p.n - (intOf (a.eval (.tmp 31))).toNat) ⟨0,_,_,Nat.zero_le _,A,t1,t4,t7,t8,t29,t30,t31,K0⟩ ?_
  clear A t1 t4 t7 t8 t29 t30 t31 K0 a t2 F2 F4 F4' hP2 b1 Fs b5 b4 R0
  rintro a XL ⟨i,q1,q2,hi,A,t1,t4,t7,t8,t29,t30,t31,K⟩
  have es:=t31
  refine wp_seq ?_
  refine wi_ A (h7_ t1 t4 t7 t8 t29 t30 t31) (rv_ 0 (.bool (decide (i < p.n))) (fun a E=>execLtW (p:=i) (q:=p.n) rfl (E _) (E _)) (rf_ [(32,.bool (decide (i < p.n)))] (h7_ t1 t4 t7 t8 t29 t30 t31) ?_))
  rintro a A ⟨t32,-⟩ ⟨t1,t4,t7,t8,t29,t30,t31,-⟩
  refine wp_seq ?_
  by_cases hlt:i < p.n
  ·rw [decide_eq_true hlt] at t32
   refine wp_cond_true t32 (wp_skip ?_)
   clear t32
   obtain ⟨hb_,hc_9,eH⟩:=K.rn.hO hlt
   refine wp_seq (wp_block ?_)
   refine wp_seq ?_
   refine wi_ A (h7_ t1 t4 t7 t8 t29 t30 t31) (rv_ 1 (.pointer (some ⟨hb_,i,none⟩)) (fun a E=>execIxH (k:=i) rfl ((E _).trans eH) (E _) hlt) (rv_ 2 (.pointer (some ⟨G.hn i,0,none⟩)) (fun a E=>execLdP rfl (Or.inr (Or.inr (Or.inl rfl))) (E _) (RowP.at K.rn.hR eH hlt)) (rf_ [(9,.int .i64 ((i:Nat):Int)),(10,.pointer (some ⟨G.hn i,0,none⟩))] (h7_ t1 t4 t7 t8 t29 t30 t31) ?_)))
   rintro a A ⟨t9,t10,-⟩ ⟨t1,t4,t7,t8,t29,t30,t31,-⟩
   refine wi_ A (h9_ t1 t4 t7 t8 t29 t30 t31 t9 t10) (rc_ 4 (pstrand G i XL) (fun e X6 hh=>?_))
   obtain ⟨qa,qb,he,ga,gb,Fa,Fb,bQ⟩:=hh
   refine ⟨_,he,?_⟩
   have za:=K.rn.no ga
   have zb:=K.rn.no gb
   have hUL:=K.rn.bel.size
   replace K:=K.on bQ
   clear bQ he
   obtain ⟨cur,r1,r2,r3⟩:=K.row
   refine rv_ 5 (.pointer (some ⟨sb,0+i * 3,none⟩)) (fun a E=>execIxK (k:=i) rfl (E _) (E _) hlt) (rs_ 6 (fun a E=>?_))
   refine stepS rfl rfl (execStRow (t:=i) (n:=p.n) rfl (E _) (E _) r1 r2 hlt) ⟨_,⟨_,rfl,rfl⟩,fun X7 hX=>?_⟩
   replace K:=K.store hlt r1 r2 r3 ⟨Fa,za⟩ ⟨Fb,zb⟩ ⟨by omega,by omega⟩ hX
   clear hX E a r1 r2 r3
   refine rf_ [] (h7_ t1 t4 t7 t8 t29 t30 t31) ?_
   rintro a A - ⟨t1,t4,t7,t8,t29,t30,t31,-⟩
   refine wi_ A (h7_ t1 t4 t7 t8 t29 t30 t31) (rv_ 0 (.int .i64 ((i+1:Nat):Int)) (fun a E=>execAd8 (p:=i) (q:=1) rfl (E _) rfl (by omega)) (rf_ [(31,.int .i64 ((i+1:Nat):Int))] (h6_ t1 t4 t7 t8 t29 t30) ?_))
   rintro a A ⟨t31,-⟩ ⟨t1,t4,t7,t8,t29,t30,-⟩
   exact ⟨⟨i+1,_,_,hlt,A,t1,t4,t7,t8,t29,t30,t31,K⟩,by show p.n - (intOf (a.eval (.tmp 31))).toNat < p.n - (intOf (Act.eval _ (.tmp 31))).toNat; rw [t31,es]; show p.n - (i+1) < p.n - i; omega⟩
  ·rw [decide_eq_false hlt] at t32
   refine wp_cond_false t32 ?_
   refine wp_exit ?_
   repeat (first | with_reducible refine exit_then ?_ | with_reducible refine exit_out (by decide) ?_)
   refine exit_in ?_
   have e1:i=p.n:=by omega
   rw [e1] at K
   clear t32 es t29 t30 t31
   obtain ⟨F,eF⟩:∃ F,F=PF ow q1 q2 p.n:=⟨_,rfl⟩
   have hPR:(pS p G X3 q1 q2).R XL F (0,r0,0):=⟨ow,K.rn,Bnd.zero hp,Nat.zero_le _,K.bx,eF⟩
   have hFge:∀ b,F b->X3.heap.size<=b:=fun b hb=>by
    rw [eF] at hb
    rcases hb with w | ⟨t,ht,w | w⟩
    ·exact (K.rn.ge b w).1
    ·rw [w]; exact (K.bg t ht).1
    ·rw [w]; exact (K.bg t ht).2
   have hFsb:¬ F sb:=fun w=>by
    obtain ⟨cur,r1,_⟩:=K.row
    rw [eF] at w
    rcases w with w | ⟨t,ht,w | w⟩
    ·exact w K.osb.1
    ·have:=(K.bx t ht).1.1
     rw [← w,r1] at this
     injection this with this
     injection this with _ this _
     exact absurd this (by decide)
    ·have:=(K.bx t ht).2.1
     rw [← w,r1] at this
     injection this with this
     injection this with _ this _
     exact absurd this (by decide)
   have hrow:Srow (pS p G X3 q1 q2) XL sb:=by
    obtain ⟨cur,r1,_,r3⟩:=K.row
    exact ⟨cur,r1,r3⟩
   have hcF:0 < m->∀ a n c,sv=.slice (some a) n c->¬ F a.block:=fun h0 a n c ev w=>by
    obtain ⟨b,off,c2,e3,e4,_⟩:=ints_open hS h0
    rw [ev] at e3
    injection e3 with e3
    injection e3 with e3
    have:=hFge _ w
    rw [e3] at this
    have h5:b < V.heap.size:=e4
    have h6:=K.vu
    have h7:X3.heap.size<=b:=this
    omega
   refine wp_seq ?_
   refine wi_ A (h4_ t1 t4 t7 t8) (rc_ 2 (pweave (pS p G X3 q1 q2) XL F (0,r0,0) sb p.n sv m sc 65536 hPR hrow hFsb (hS.on K.bel) hcF K.rn.bel.size (by show p.n<=1000000; omega) (by omega) (fun j hj hgo=>?_) (fun _ _ _ _ _=>trivial)) (fun e XW hh=>?_))
   ·have ea:(pS p G X3 q1 q2).ask p.n ((pS p G X3 q1 q2).at (scr m sc) (0,r0,0) j)=(mayL p (rk p (scr m sc) j),(j,rk p (scr m sc) j,mx p (scr m sc) j)):=by rw [pS_at,pS_ask]; rfl
    have h1:=hgo j (Nat.le_refl _)
    rw [show (pS p G X3 q1 q2).n=p.n from rfl,ea] at h1 ⊢
    rw [pS_pk]
    exact ⟨(pk_is h1).2,hj⟩
   obtain ⟨N,pk,F3,hE⟩:=hh
   obtain ⟨hrun,he,hpo,hPR3⟩:=pS_E hp hE
   have hsv:=hE.sv
   have hoff:=hE.off
   refine ⟨_,he,?_⟩
   obtain ⟨ow3,RW,hB3,hN3,hbx3,eF3⟩:=hPR3
   obtain ⟨tw,hTk⟩:=RW.tks
   have l4':g4 < XL.heap.size:=(Array.getElem?_eq_some_iff.1 K.h4).1
   have F4:XW.heap[g4]?=some (.cells (hC (.slice none 0 0) 0 false false 0 (.slice none 0 0)) 29):=by rw [hsv.block g4 l4' (fun w=>by have:=hFge g4 w; omega)]; exact K.h4
   have bW:Below V.heap.size V XW:=⟨hsv.os.trans K.bel.os,hsv.tape.trans K.bel.tape,hsv.output.trans K.bel.output,Nat.le_trans K.bel.size hsv.size,fun b hb=>by rw [hsv.block b (Nat.lt_of_lt_of_le hb K.bel.size) (fun w=>by have:=hFge b w; have:=K.vu; omega),K.bel.block b hb]⟩
   obtain ⟨en,een⟩:∃ en,(!live p (rk p (scr m sc) N))=en:=⟨_,rfl⟩
   obtain ⟨st,est⟩:∃ st,(live p (rk p (scr m sc) N) && decide (mayL p (rk p (scr m sc) N)=[]))=st:=⟨_,rfl⟩
   rw [een,est]
   have hUV:=K.vu
   have hpk0:V.heap.size<=XL.heap.size:=K.bel.size
   clear hE he hPR hrow hcF hFsb hFge K
   refine rs_ 3 (fun a E=>?_)
   obtain ⟨g11,e11⟩:∃ z_:Nat,XW.heap.size=z_:=⟨_,rfl⟩
   refine stepV rfl rfl (execAlH rfl) ⟨.pointer (some ⟨g11,0,none⟩),⟨_,rfl,by subst e11; rfl⟩,fun X9 hX=>?_⟩
   have b9:Below XW.heap.size XW X9:=by rw [hX]; exact belNew XW _
   have F11:X9.heap[g11]?=some (.cells (hC (.slice none 0 0) 0 false false 0 (.slice none 0 0)) 29):=by rw [hX,← e11]; exact heapNew XW _
   clear hX E a
   refine rs_ 4 (fun a E=>?_)
   refine stepS rfl rfl (execStH rfl (E _) (E _) F11 (sl3 (own_shp hpo)) ⟨_,_,_,rfl⟩) ⟨_,⟨_,rfl,rfl⟩,fun X10 hX=>?_⟩
   have Fh0:X10.heap[g11]?=some (.cells (hC pk 0 en st 0 (.slice none 0 0)) 29):=by rw [hX]; exact setRow_heap _ _ _ _ _ _ F11
   have BB:Below XW.heap.size XW X10:=by rw [hX]; exact below4 b9 (by omega) _
   have Fge11:XW.heap.size<=g11:=by omega
   clear hX E a F11 b9
   refine rf_ [(11,.pointer (some ⟨g11,0,none⟩))] (h2_ t4 t7) ?_
   rintro a A ⟨t11,-⟩ ⟨t4,t7,-⟩
   have hms:mx p (scr m sc) N<=1000000:=RW.fit.ms
   have hlt9:(rk p (scr m sc) N).lt<=1000000:=RW.fit.lt
   refine wp_seq ?_
   refine wp_region_stB (σ:=Value) 60 [(0,46),(1,47),(2,48),(3,49),(4,50),(5,51),(6,52),(7,53),(8,54),(9,55),(10,56),(12,57),(14,58)] (fun l_ s X=>Below XW.heap.size XW X/\(l_ 11=false->(X.heap[g11]?=some (.cells (hC pk 0 en st 0 (.slice none 0 0)) 29)))/\(l_ 9=true->(X.ownsRow XW.heap.size 22 1 s p.n (lL tw p.n)))/\(l_ 11=true->l_ 13=false->(X.heap[g11]?=some (.cells (hC pk (mx p (scr m sc) N) en st 0 (.slice none 0 0)) 29)))/\(l_ 13=true->l_ 15=false->(X.heap[g11]?=some (.cells (hC pk (mx p (scr m sc) N) en st (rk p (scr m sc) N).lt (.slice none 0 0)) 29)))/\(l_ 15=true->(X.heap[g11]?=some (.cells (hC pk (mx p (scr m sc) N) en st (rk p (scr m sc) N).lt s) 29)))) (fun s=>fun i_=>match i_ with | 0=>.pointer (some ⟨G.rb,0,none⟩) | 1=>.pointer (some ⟨G.rb,0,none⟩) | 2=>.pointer (some ⟨G.rb,4,none⟩) | 3=>.int .i64 ((mx p (scr m sc) N:Nat):Int) | 4=>.pointer (some ⟨G.rb,0,none⟩) | 5=>.pointer (some ⟨G.rb,0,none⟩) | 6=>.pointer (some ⟨G.rb,5,none⟩) | 7=>.int .i64 (((rk p (scr m sc) N).lt:Nat):Int) | 8=>.pointer (some ⟨G.rb,0,none⟩) | 9=>s | 10=>.pointer (some ⟨g11,1,none⟩) | 11=>undef | 12=>.pointer (some ⟨g11,4,none⟩) | 13=>undef | 14=>.pointer (some ⟨g11,5,none⟩) | 15=>undef | _=>undef) undef (by kernel_rfl) (by kernel_rfl) A.1 (by kernel_rfl) (by decide) (by decide) ⟨(BB.drew),(fun _=>(on9 Fh0 (Below.refl _ _).drew)),(fun q0_=>by cases q0_),(fun q0_ q1_=>by cases q0_),(fun q0_ q1_=>by cases q0_),(fun q0_=>by cases q0_)⟩ ?_ ?_
   ·intro i_ hi_ l_ s a X hl_ hf hdep hl2 hcl hno hT
    have up:∀ j x,x ≠ j->updB l_ j x=l_ x:=fun j x hj=>by unfold updB; simp [hj]
    match i_,hi_ with
    | 0,_=>exact stepV rfl rfl (execMvB rfl ((hf 7 (by decide)).trans t7)) ⟨s,⟨_,rfl,rfl⟩,⟨hT.1,(fun q0_=>(hT.2.1 (by rw [up 0 11 (by decide)] at q0_; exact q0_))),(fun q0_=>(hT.2.2.1 (by rw [up 0 9 (by decide)] at q0_; exact q0_))),(fun q0_ q1_=>absurd (hl_.symm.trans (hcl 11 _ rfl ((up 0 11 (by decide)).symm.trans q0_) 0 rfl)) (by decide)),(fun q0_ q1_=>absurd (hl_.symm.trans (hcl 13 _ rfl ((up 0 13 (by decide)).symm.trans q0_) 0 rfl)) (by decide)),(fun q0_=>absurd (hl_.symm.trans (hcl 15 _ rfl ((up 0 15 (by decide)).symm.trans q0_) 0 rfl)) (by decide))⟩,fun _ _ _=>rfl⟩
    | 1,_=>exact stepV rfl rfl (Duc.execNl rfl (hdep _ rfl 0 rfl _ rfl _ rfl)) ⟨s,⟨_,rfl,rfl⟩,⟨hT.1,(fun q0_=>(hT.2.1 (by rw [up 1 11 (by decide)] at q0_; exact q0_))),(fun q0_=>(hT.2.2.1 (by rw [up 1 9 (by decide)] at q0_; exact q0_))),(fun q0_ q1_=>absurd (hl_.symm.trans (hcl 11 _ rfl ((up 1 11 (by decide)).symm.trans q0_) 1 rfl)) (by decide)),(fun q0_ q1_=>absurd (hl_.symm.trans (hcl 13 _ rfl ((up 1 13 (by decide)).symm.trans q0_) 1 rfl)) (by decide)),(fun q0_=>absurd (hl_.symm.trans (hcl 15 _ rfl ((up 1 15 (by decide)).symm.trans q0_) 1 rfl)) (by decide))⟩,fun _ _ _=>rfl⟩
    | 2,_=>exact stepV rfl rfl (execRf4 rfl (hdep _ rfl 1 rfl _ rfl _ rfl)) ⟨s,⟨_,rfl,rfl⟩,⟨hT.1,(fun q0_=>(hT.2.1 (by rw [up 2 11 (by decide)] at q0_; exact q0_))),(fun q0_=>(hT.2.2.1 (by rw [up 2 9 (by decide)] at q0_; exact q0_))),(fun q0_ q1_=>absurd (hl_.symm.trans (hcl 11 _ rfl ((up 2 11 (by decide)).symm.trans q0_) 2 rfl)) (by decide)),(fun q0_ q1_=>absurd (hl_.symm.trans (hcl 13 _ rfl ((up 2 13 (by decide)).symm.trans q0_) 2 rfl)) (by decide)),(fun q0_=>absurd (hl_.symm.trans (hcl 15 _ rfl ((up 2 15 (by decide)).symm.trans q0_) 2 rfl)) (by decide))⟩,fun _ _ _=>rfl⟩
    | 3,_=>exact stepV rfl rfl (execLdG rfl (Or.inr (Or.inl rfl)) (hdep _ rfl 2 rfl _ rfl _ rfl) (RW.on hT.1).rc.2.2.2.2.1) ⟨s,⟨_,rfl,rfl⟩,⟨hT.1,(fun q0_=>(hT.2.1 (by rw [up 3 11 (by decide)] at q0_; exact q0_))),(fun q0_=>(hT.2.2.1 (by rw [up 3 9 (by decide)] at q0_; exact q0_))),(fun q0_ q1_=>absurd (hl_.symm.trans (hcl 11 _ rfl ((up 3 11 (by decide)).symm.trans q0_) 3 rfl)) (by decide)),(fun q0_ q1_=>absurd (hl_.symm.trans (hcl 13 _ rfl ((up 3 13 (by decide)).symm.trans q0_) 3 rfl)) (by decide)),(fun q0_=>absurd (hl_.symm.trans (hcl 15 _ rfl ((up 3 15 (by decide)).symm.trans q0_) 3 rfl)) (by decide))⟩,fun _ _ _=>rfl⟩
    | 4,_=>exact stepV rfl rfl (execMvB rfl ((hf 7 (by decide)).trans t7)) ⟨s,⟨_,rfl,rfl⟩,⟨hT.1,(fun q0_=>(hT.2.1 (by rw [up 4 11 (by decide)] at q0_; exact q0_))),(fun q0_=>(hT.2.2.1 (by rw [up 4 9 (by decide)] at q0_; exact q0_))),(fun q0_ q1_=>(hT.2.2.2.1 (by rw [up 4 11 (by decide)] at q0_; exact q0_) (by rw [up 4 13 (by decide)] at q1_; exact q1_))),(fun q0_ q1_=>absurd (hl_.symm.trans (hcl 13 _ rfl ((up 4 13 (by decide)).symm.trans q0_) 4 rfl)) (by decide)),(fun q0_=>absurd (hl_.symm.trans (hcl 15 _ rfl ((up 4 15 (by decide)).symm.trans q0_) 4 rfl)) (by decide))⟩,fun _ _ _=>rfl⟩
    | 5,_=>exact stepV rfl rfl (Duc.execNl rfl (hdep _ rfl 4 rfl _ rfl _ rfl)) ⟨s,⟨_,rfl,rfl⟩,⟨hT.1,(fun q0_=>(hT.2.1 (by rw [up 5 11 (by decide)] at q0_; exact q0_))),(fun q0_=>(hT.2.2.1 (by rw [up 5 9 (by decide)] at q0_; exact q0_))),(fun q0_ q1_=>(hT.2.2.2.1 (by rw [up 5 11 (by decide)] at q0_; exact q0_) (by rw [up 5 13 (by decide)] at q1_; exact q1_))),(fun q0_ q1_=>absurd (hl_.symm.trans (hcl 13 _ rfl ((up 5 13 (by decide)).symm.trans q0_) 5 rfl)) (by decide)),(fun q0_=>absurd (hl_.symm.trans (hcl 15 _ rfl ((up 5 15 (by decide)).symm.trans q0_) 5 rfl)) (by decide))⟩,fun _ _ _=>rfl⟩
    | 6,_=>exact stepV rfl rfl (execRf5 rfl (hdep _ rfl 5 rfl _ rfl _ rfl)) ⟨s,⟨_,rfl,rfl⟩,⟨hT.1,(fun q0_=>(hT.2.1 (by rw [up 6 11 (by decide)] at q0_; exact q0_))),(fun q0_=>(hT.2.2.1 (by rw [up 6 9 (by decide)] at q0_; exact q0_))),(fun q0_ q1_=>(hT.2.2.2.1 (by rw [up 6 11 (by decide)] at q0_; exact q0_) (by rw [up 6 13 (by decide)] at q1_; exact q1_))),(fun q0_ q1_=>absurd (hl_.symm.trans (hcl 13 _ rfl ((up 6 13 (by decide)).symm.trans q0_) 6 rfl)) (by decide)),(fun q0_=>absurd (hl_.symm.trans (hcl 15 _ rfl ((up 6 15 (by decide)).symm.trans q0_) 6 rfl)) (by decide))⟩,fun _ _ _=>rfl⟩
    | 7,_=>exact stepV rfl rfl (execLdG rfl (Or.inr (Or.inl rfl)) (hdep _ rfl 6 rfl _ rfl _ rfl) (RW.on hT.1).rc.2.2.2.2.2) ⟨s,⟨_,rfl,rfl⟩,⟨hT.1,(fun q0_=>(hT.2.1 (by rw [up 7 11 (by decide)] at q0_; exact q0_))),(fun q0_=>(hT.2.2.1 (by rw [up 7 9 (by decide)] at q0_; exact q0_))),(fun q0_ q1_=>(hT.2.2.2.1 (by rw [up 7 11 (by decide)] at q0_; exact q0_) (by rw [up 7 13 (by decide)] at q1_; exact q1_))),(fun q0_ q1_=>absurd (hl_.symm.trans (hcl 13 _ rfl ((up 7 13 (by decide)).symm.trans q0_) 7 rfl)) (by decide)),(fun q0_=>absurd (hl_.symm.trans (hcl 15 _ rfl ((up 7 15 (by decide)).symm.trans q0_) 7 rfl)) (by decide))⟩,fun _ _ _=>rfl⟩
    | 8,_=>exact stepV rfl rfl (execMvB rfl ((hf 7 (by decide)).trans t7)) ⟨s,⟨_,rfl,rfl⟩,⟨hT.1,(fun q0_=>(hT.2.1 (by rw [up 8 11 (by decide)] at q0_; exact q0_))),(fun q0_=>absurd (hl_.symm.trans (hcl 9 _ rfl ((up 8 9 (by decide)).symm.trans q0_) 8 rfl)) (by decide)),(fun q0_ q1_=>absurd (hl_.symm.trans (hcl 9 _ rfl (hcl 11 _ rfl ((up 8 11 (by decide)).symm.trans q0_) 9 rfl) 8 rfl)) (by decide)),(fun q0_ q1_=>absurd (hl_.symm.trans (hcl 9 _ rfl (hcl 11 _ rfl (hcl 13 _ rfl ((up 8 13 (by decide)).symm.trans q0_) 11 rfl) 9 rfl) 8 rfl)) (by decide)),(fun q0_=>absurd (hl_.symm.trans (hcl 15 _ rfl ((up 8 15 (by decide)).symm.trans q0_) 8 rfl)) (by decide))⟩,fun _ _ _=>rfl⟩
    | 9,_=>
     refine stepC rfl rfl (execCall1 Try.func28 (by kernel_rfl) (by kernel_rfl) rfl (hdep _ rfl 8 rfl _ rfl _ rfl)) (ptaken (RW.on hT.1) (hTk.on RW hT.1)) fun e w' hh=>?_
     obtain ⟨tk_,he,hk,hb⟩:=hh
     refine ⟨_,he,tk_,⟨_,rfl,rfl⟩,⟨hT.1.trans ((hb).mono hT.1.size),(fun q0_=>(on9 (hT.2.1 (by rw [up 9 11 (by decide)] at q0_; exact q0_)) hb)),(fun _q0_=>ownD_base hk (hT.1).size),(fun q0_ q1_=>absurd (hl_.symm.trans (hcl 11 _ rfl ((up 9 11 (by decide)).symm.trans q0_) 9 rfl)) (by decide)),(fun q0_ q1_=>absurd (hl_.symm.trans (hcl 11 _ rfl (hcl 13 _ rfl ((up 9 13 (by decide)).symm.trans q0_) 11 rfl) 9 rfl)) (by decide)),(fun q0_=>absurd (hl_.symm.trans (hcl 15 _ rfl ((up 9 15 (by decide)).symm.trans q0_) 9 rfl)) (by decide))⟩,fun i hi hli=>?_⟩
     match i,hi with
     | 0,_=>rfl
     | 1,_=>rfl
     | 2,_=>rfl
     | 3,_=>rfl
     | 4,_=>rfl
     | 5,_=>rfl
     | 6,_=>rfl
     | 7,_=>rfl
     | 8,_=>rfl
     | 9,_=>exact absurd (hl_.symm.trans hli) (by decide)
     | 10,_=>rfl
     | 11,_=>rfl
     | 12,_=>rfl
     | 13,_=>rfl
     | 14,_=>rfl
     | 15,_=>rfl
     | k_+16,h_=>exact absurd h_ (by simp)
    | 10,_=>exact stepV rfl rfl (execFh1 rfl ((hf 11 (by decide)).trans t11)) ⟨s,⟨_,rfl,rfl⟩,⟨hT.1,(fun q0_=>(hT.2.1 (by rw [up 10 11 (by decide)] at q0_; exact q0_))),(fun q0_=>(hT.2.2.1 (by rw [up 10 9 (by decide)] at q0_; exact q0_))),(fun q0_ q1_=>absurd (hl_.symm.trans (hcl 11 _ rfl ((up 10 11 (by decide)).symm.trans q0_) 10 rfl)) (by decide)),(fun q0_ q1_=>absurd (hl_.symm.trans (hcl 13 _ rfl ((up 10 13 (by decide)).symm.trans q0_) 10 rfl)) (by decide)),(fun q0_=>absurd (hl_.symm.trans (hcl 15 _ rfl ((up 10 15 (by decide)).symm.trans q0_) 10 rfl)) (by decide))⟩,fun _ _ _=>rfl⟩
    | 11,_=>
     refine stepS rfl rfl (execSt9 rfl (Or.inl rfl) (hdep _ rfl 10 rfl _ rfl _ rfl) (hdep _ rfl 3 rfl _ rfl _ rfl) (Or.inl ⟨_,_,rfl⟩) (hC_at (hT.2.1 hl_)).2.1 (frozen4 (hT.2.1 hl_))) ⟨s,⟨_,rfl,rfl⟩,⟨(hT.1).setCell (p:=⟨g11,1,none⟩) Fge11 _,(fun q0_=>absurd q0_ (by unfold updB; simp)),(fun q0_=>(own_offT (hT.2.2.1 (by rw [up 11 9 (by decide)] at q0_; exact q0_)) (hT.2.1 hl_) (by decide))),(fun _q0_ _q1_=>(heap4 _ (hT.2.1 hl_))),(fun q0_ q1_=>absurd (hl_.symm.trans (hcl 13 _ rfl ((up 11 13 (by decide)).symm.trans q0_) 11 rfl)) (by decide)),(fun q0_=>absurd (hl_.symm.trans (hcl 15 _ rfl ((up 11 15 (by decide)).symm.trans q0_) 11 rfl)) (by decide))⟩,fun i hi hli=>?_⟩
     match i,hi with
     | 0,_=>rfl
     | 1,_=>rfl
     | 2,_=>rfl
     | 3,_=>rfl
     | 4,_=>rfl
     | 5,_=>rfl
     | 6,_=>rfl
     | 7,_=>rfl
     | 8,_=>rfl
     | 9,_=>rfl
     | 10,_=>rfl
     | 11,_=>exact absurd (hl_.symm.trans hli) (by decide)
     | 12,_=>rfl
     | 13,_=>rfl
     | 14,_=>rfl
     | 15,_=>rfl
     | k_+16,h_=>exact absurd h_ (by simp)
    | 12,_=>exact stepV rfl rfl (execFh4 rfl ((hf 11 (by decide)).trans t11)) ⟨s,⟨_,rfl,rfl⟩,⟨hT.1,(fun q0_=>absurd (q0_.symm.trans ((up 12 11 (by decide)).trans (hl2 _ rfl 11 rfl))) (by decide)),(fun q0_=>(hT.2.2.1 (by rw [up 12 9 (by decide)] at q0_; exact q0_))),(fun q0_ q1_=>(hT.2.2.2.1 (by rw [up 12 11 (by decide)] at q0_; exact q0_) (by rw [up 12 13 (by decide)] at q1_; exact q1_))),(fun q0_ q1_=>absurd (hl_.symm.trans (hcl 13 _ rfl ((up 12 13 (by decide)).symm.trans q0_) 12 rfl)) (by decide)),(fun q0_=>absurd (hl_.symm.trans (hcl 15 _ rfl ((up 12 15 (by decide)).symm.trans q0_) 12 rfl)) (by decide))⟩,fun _ _ _=>rfl⟩
    | 13,_=>
     refine stepS rfl rfl (execSt9 rfl (Or.inl rfl) (hdep _ rfl 12 rfl _ rfl _ rfl) (hdep _ rfl 7 rfl _ rfl _ rfl) (Or.inl ⟨_,_,rfl⟩) (hC_at (hT.2.2.2.1 (hl2 _ rfl 11 rfl) hl_)).2.2.2.2.1 (frozen4 (hT.2.2.2.1 (hl2 _ rfl 11 rfl) hl_))) ⟨s,⟨_,rfl,rfl⟩,⟨(hT.1).setCell (p:=⟨g11,4,none⟩) Fge11 _,(fun q0_=>absurd (q0_.symm.trans ((up 13 11 (by decide)).trans (hl2 _ rfl 11 rfl))) (by decide)),(fun q0_=>(own_offT (hT.2.2.1 (by rw [up 13 9 (by decide)] at q0_; exact q0_)) (hT.2.2.2.1 (hl2 _ rfl 11 rfl) hl_) (by decide))),(fun q0_ q1_=>absurd q1_ (by unfold updB; simp)),(fun _q0_ _q1_=>(heap4 _ (hT.2.2.2.1 (hl2 _ rfl 11 rfl) hl_))),(fun q0_=>absurd (hl_.symm.trans (hcl 15 _ rfl ((up 13 15 (by decide)).symm.trans q0_) 13 rfl)) (by decide))⟩,fun i hi hli=>?_⟩
     match i,hi with
     | 0,_=>rfl
     | 1,_=>rfl
     | 2,_=>rfl
     | 3,_=>rfl
     | 4,_=>rfl
     | 5,_=>rfl
     | 6,_=>rfl
     | 7,_=>rfl
     | 8,_=>rfl
     | 9,_=>rfl
     | 10,_=>rfl
     | 11,_=>rfl
     | 12,_=>rfl
     | 13,_=>exact absurd (hl_.symm.trans hli) (by decide)
     | 14,_=>rfl
     | 15,_=>rfl
     | k_+16,h_=>exact absurd h_ (by simp)
    | 14,_=>exact stepV rfl rfl (execFh5 rfl ((hf 11 (by decide)).trans t11)) ⟨s,⟨_,rfl,rfl⟩,⟨hT.1,(fun q0_=>absurd (q0_.symm.trans ((up 14 11 (by decide)).trans (hl2 _ rfl 11 rfl))) (by decide)),(fun q0_=>(hT.2.2.1 (by rw [up 14 9 (by decide)] at q0_; exact q0_))),(fun q0_ q1_=>absurd (q1_.symm.trans ((up 14 13 (by decide)).trans (hl2 _ rfl 13 rfl))) (by decide)),(fun q0_ q1_=>(hT.2.2.2.2.1 (by rw [up 14 13 (by decide)] at q0_; exact q0_) (by rw [up 14 15 (by decide)] at q1_; exact q1_))),(fun q0_=>absurd (hl_.symm.trans (hcl 15 _ rfl ((up 14 15 (by decide)).symm.trans q0_) 14 rfl)) (by decide))⟩,fun _ _ _=>rfl⟩
    | 15,_=>
     refine stepS rfl rfl (execSt9 rfl (Or.inr (Or.inr (Or.inr (Or.inl rfl)))) (hdep _ rfl 14 rfl _ rfl _ rfl) (hdep _ rfl 9 rfl _ rfl _ rfl) (Or.inr (Or.inr (Or.inr (sl3 (own_shp (hT.2.2.1 (hl2 _ rfl 9 rfl))))))) (hC_at (hT.2.2.2.2.1 (hl2 _ rfl 13 rfl) hl_)).2.2.2.2.2 (frozen4 (hT.2.2.2.2.1 (hl2 _ rfl 13 rfl) hl_))) ⟨s,⟨_,rfl,rfl⟩,⟨(hT.1).setCell (p:=⟨g11,5,none⟩) Fge11 _,(fun q0_=>absurd (q0_.symm.trans ((up 15 11 (by decide)).trans (hl2 _ rfl 11 rfl))) (by decide)),(fun q0_=>(own_offT (hT.2.2.1 (by rw [up 15 9 (by decide)] at q0_; exact q0_)) (hT.2.2.2.2.1 (hl2 _ rfl 13 rfl) hl_) (by decide))),(fun q0_ q1_=>absurd (q1_.symm.trans ((up 15 13 (by decide)).trans (hl2 _ rfl 13 rfl))) (by decide)),(fun q0_ q1_=>absurd q1_ (by unfold updB; simp)),(fun _q0_=>(heap4 _ (hT.2.2.2.2.1 (hl2 _ rfl 13 rfl) hl_)))⟩,fun i hi hli=>?_⟩
     match i,hi with
     | 0,_=>rfl
     | 1,_=>rfl
     | 2,_=>rfl
     | 3,_=>rfl
     | 4,_=>rfl
     | 5,_=>rfl
     | 6,_=>rfl
     | 7,_=>rfl
     | 8,_=>rfl
     | 9,_=>rfl
     | 10,_=>rfl
     | 11,_=>rfl
     | 12,_=>rfl
     | 13,_=>rfl
     | 14,_=>rfl
     | 15,_=>exact absurd (hl_.symm.trans hli) (by decide)
     | k_+16,h_=>exact absurd h_ (by simp)
    | k_+16,h_=>exact absurd h_ (by simp)
   rintro l_ tk a X12 h1 h2 h3 h4 hall hT
   clear BB
   clear Fh0
   obtain ⟨BB,Fh0,Ftk,Fh1,Fh2,Fh3⟩:=hT
   clear Fh0
   replace Ftk:(X12.ownsRow XW.heap.size 22 1 tk p.n (lL tw p.n)):=Ftk (hall 9 (by decide))
   clear Fh1
   clear Fh2
   replace Fh3:(X12.heap[g11]?=some (.cells (hC pk (mx p (scr m sc) N) en st (rk p (scr m sc) N).lt tk) 29)):=Fh3 (hall 15 (by decide))
   clear hall
   replace t4:=(h3 4 (by decide)).trans t4
   replace t11:=(h3 11 (by decide)).trans t11
   replace A:=(⟨h1,h2.trans A.2⟩:a.tmps.size=60/\a.defers=[])
   clear h1 h2 h3 h4
   clear t7
   have F4b:=on9 F4 BB
   have b12:=bW.trans (BB.mono bW.size)
   refine wp_seq ?_
   refine wi_ A (h2_ t4 t11) (rv_ 0 (.agg (hC pk (mx p (scr m sc) N) en st (rk p (scr m sc) N).lt tk)) (fun a E=>execLdHw rfl (E _) Fh3) (rs_ 1 (fun a E=>?_)))
   refine stepS rfl rfl (execStH rfl (E _) (E _) F4b (sl3 (own_shp hpo)) (sl3 (own_shp Ftk))) ⟨_,⟨_,rfl,rfl⟩,fun X13 hX=>?_⟩
   have F13:X13.heap[g4]?=some (.cells (hC pk (mx p (scr m sc) N) en st (rk p (scr m sc) N).lt tk) 29):=by rw [hX]; exact setRow_heap _ _ _ _ _ _ F4b
   have b13:Below V.heap.size V X13:=by rw [hX]; exact below4 b12 ge4 _
   have hkeep:∀ {B n:Nat} {v:Value} {T:TypeId} {xs:List Value},X12.ownsRow B T 1 v n xs->T ≠ 29->X13.ownsRow B T 1 v n xs:=fun {B n v T xs} h hT=>by
    refine own_frame (P:=fun b=>v.ownBlock=some b) h (fun _ q=>q) (fun b hb=>?_)
    rw [hX,setRow_other _ _ _ _ (fun q=>?_)]
    rcases h.2 with ⟨w,_⟩ | ⟨g',cap,cur,rfl,_,hg',_⟩
    ·rw [w] at hb; cases hb
    ·cases hb
     subst q
     rw [F4b] at hg'
     injection hg' with hg'
     injection hg' with _ hg' _
     exact hT hg'.symm
   clear hX E a
   refine rf_ [(5,.int .i64 ((0:Nat):Int))] (h1_ t4) ?_
   rintro a A ⟨t5,-⟩ ⟨t4,-⟩
   have o_pk:=hkeep (ownD_base (ownD_below hpo BB) hpk0) (by decide)
   have o_tv:∀ t,t < p.n->X13.ownsRow V.heap.size 3 1 (tw t) ((rk p (scr m sc) N).tk t).length (intsL ((rk p (scr m sc) N).tk t).length (hL ((rk p (scr m sc) N).tk t))):=fun t ht=>hkeep (ownD_base (ownD_below (hTk t ht).2.1 BB) hUV) (by decide)
   refine wp_ret ?_
   refine bodyPost_ret (Duc.res_c1 _ _ g4 29 _ (0,0) _ Try.results7 t4 F13 Try.underlying29 rfl (sizeHw _ _ _ _ _ _)) A.2 ⟨⟨fun w=>absurd hc w,fun _=>⟨pk,tk,tw,N,hrun,?_,⟨⟨fun s hs=>?_,fun s u hs hu hsu b hb=>?_⟩,hkeep (ownD_base Ftk bW.size) (by decide),fun j hj=>?_,fun t ht=>(hTk t ht).2.2.2⟩⟩⟩,b13⟩
   ·show Ending.returned (.tuple #[_,a.eval (.tmp 5)])=_
    rw [t5,een,est]
   ·match s,hs with
    | 0,_=>exact o_pk
    | s+1,hs=>exact o_tv s (by omega)
   ·have hFo:∀ t,t < p.n->∀ b,(tw t).ownBlock=some b->F3 b:=fun t ht b hb=>by rw [eF3]; exact Or.inl (by rw [(hTk t ht).2.2.1 b hb]; exact oH_ne.1)
    match s,u,hs,hu,hsu,hb with
    | 0,0,_,_,hsu,_=>exact absurd rfl hsu
    | 0,u+1,_,hu,_,hb=>exact fun w=>hoff b hb (hFo u (by omega) b w)
    | s+1,0,hs,_,_,hb=>exact fun w=>hoff b w (hFo s (by omega) b hb)
    | s+1,u+1,hs,hu,hsu,hb=>
     intro w
     have h1:=(hTk s (by omega)).2.2.1 b hb
     have h2:=(hTk u (by omega)).2.2.1 b w
     rw [h1] at h2
     exact hsu (by rw [oH_inj h2])
   ·have:=(pk_is (hrun.go j hj)).1
    show I64 ((Loo.pk p (scr m sc) j:Nat):Int)
    unfold I64
    omega
 ·refine wi_ A (h4_ t1 t2 t4 t6) (rv_ 1 (.bool true) (fun a E=>execDec (execErneq (p:=chk p) (q:=0) rfl (E _)) (decide_eq_true hc)) (rf_ [(15,.bool true)] (h2_ t4 t6) ?_))
  rintro a A ⟨t15,-⟩ ⟨t4,t6,-⟩
  refine wp_cond_true t15 ?_
  refine wp_seq ?_
  refine wi_ A (h2_ t4 t6) (rv_ 0 (.agg (hC (.slice none 0 0) 0 false false 0 (.slice none 0 0))) (fun a E=>execBdH0 rfl) (rs_ 2 (fun a E=>?_)))
  refine stepS rfl rfl (execStH rfl (E _) (E _) F4 ⟨_,_,_,rfl⟩ ⟨_,_,_,rfl⟩) ⟨_,⟨_,rfl,rfl⟩,fun X4 hX=>?_⟩
  have F5:X4.heap[g4]?=some (.cells (hC (.slice none 0 0) 0 false false 0 (.slice none 0 0)) 29):=by rw [hX]; exact setRow_heap _ _ _ _ _ _ F4
  have b4:Below V.heap.size V X4:=by rw [hX]; exact below4 b1 ge4 _
  clear hX E a
  refine rf_ [(5,.int .i64 ((chk p:Nat):Int))] (h1_ t4) ?_
  rintro a A ⟨t5,-⟩ ⟨t4,-⟩
  refine wp_ret ?_
  repeat (first | with_reducible refine ret_in ?_ | with_reducible refine ret_then ?_)
  refine bodyPost_ret (Duc.res_c1 _ _ g4 29 _ (0,0) _ Try.results7 t4 F5 Try.underlying29 rfl (sizeHw _ _ _ _ _ _)) A.2 ⟨⟨fun _=>?_,fun w=>absurd w hc⟩,b4⟩
  show Ending.returned (.tuple #[_,a.eval (.tmp 5)])=_
  rw [t5]
end Go.Proofs.Ytjjegmflllpknaa.Loo
