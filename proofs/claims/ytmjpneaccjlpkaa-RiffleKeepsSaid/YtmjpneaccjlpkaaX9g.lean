import Derived.Test.YtmjpneaccjlpkaaF9b
import Derived.Test.YtmjpneaccjlpkaaX9f
namespace Go.Proofs.Ytmjpneaccjlpkaa.Rif
open Go.RowKit Gf8 Aes By8 Cel Cf Tap Drw Prm Brd
/- Package riffle as it landed: Turn. Written by tools/mkX9g.py. -/
section
variable (p:Nat->Nat) (L N J:Nat) (w:Nat->Nat) (x y:Nat->Value) (cv ow:Value) (V:World)
theorem tc0 (hL:LLB V cv J x (lq L J) (ckP L J p)) (hlq:lq L J<=140737488351232) (hJq:J * lq L J<=140737488351232) (hO:LLI V ow J y (szF N J) (wOI J N w)) (hN:N<=256) (h1:1<=J) (h2:J<=64) (hw:IsP w N) (hok:allB (fun t=>okB (ckP L J p t) (lq L J) (bI (szF N J t)) (szF N J t - 1)) J=true) :
  Calls Try.prog 37 #[cv,ow] V fun e w'=>∃ r,e=.returned (.tuple #[r,.int .i64 ((0:Nat):Int)])/\w'.ownsRow V.heap.size 5 1 r (J * lq L J) (bytesL (J * lq L J) (tkF L J N p w))/\Below V.heap.size V w':=
 Calls.mono (pturnedChunks p L N J w x y cv ow V hL hlq hJq hO hN h1 h2 hw) fun e w' ⟨r,g1,g2,g3⟩=>by
  have hE:shE (ckP L J p) (lq L J) N J=0:=if_pos hok
  rw [hE] at g1
  exact ⟨r,g1,g2 hE,g3⟩
theorem tc3 (hL:LLB V cv J x (lq L J) (ckP L J p)) (hlq:lq L J<=140737488351232) (hJq:J * lq L J<=140737488351232) (hO:LLI V ow J y (szF N J) (wOI J N w)) (hN:N<=256) (h1:1<=J) (h2:J<=64) (hw:IsP w N) (hok:allB (fun t=>okB (ckP L J p t) (lq L J) (bI (szF N J t)) (szF N J t - 1)) J=false) :
  Calls Try.prog 37 #[cv,ow] V fun e w'=>∃ r,e=.returned (.tuple #[r,.int .i64 ((3:Nat):Int)])/\Below V.heap.size V w':=
 Calls.mono (pturnedChunks p L N J w x y cv ow V hL hlq hJq hO hN h1 h2 hw) fun e w' ⟨r,g1,g2,g3⟩=>by
  have hE:shE (ckP L J p) (lq L J) N J=3:=if_neg (by rw [hok]; decide)
  rw [hE] at g1
  exact ⟨r,g1,g3⟩
end
theorem tk_byte {L J n:Nat} {p w:Nat->Nat} (hL:18<=L) (_hn:sumN (szF n J) J=n) (o:OkT L J n (szF n J) p) (_hw:IsP w n) (hp:∀ x,x < L->p x < 256):∀ x,x < J * lq L J->tkF L J n p w x < 256:=fun x hx=>by
 have hq:0 < lq L J:=by
  by_cases z:lq L J=0
  ·rw [z] at hx; omega
  ·omega
 have ht:x / lq L J < J:=Nat.div_lt_of_lt_mul (by rw [Nat.mul_comm]; omega)
 exact turn_byte (o.ck _ ht) (kW_ok _) (fun j hj=>hp _ (ck_in hL ht hj)) (Nat.mod_lt _ hq)
theorem shpN {W:World} {v:Value} {n:Nat} {p:Nat->Nat} (h:SliceN W v n p):∃ g n c,v=.slice g n c:=by
 obtain ⟨⟨a,c,e,_⟩,_⟩:=h
 exact ⟨a,n,c,e⟩
theorem execBs3L {o:Oper} {a:Act} {w:World} {x y z:Operand} {p q r:Value} (ho:o.op=.buildSlice 53 3 #[(0,x),(1,y),(2,z)]) (hx:a.eval x=p) (hy:a.eval y=q) (hz:a.eval z=r) (hp:∃ g n c,p=.slice g n c) (hq:∃ g n c,q=.slice g n c) (hr:∃ g n c,r=.slice g n c):(execOp a.eval o).run Try.prog w=.ok (.value (.slice (some ⟨w.heap.size,0,none⟩) 3 3)) (w.alloc (.cells #[p,q,r] 23)):=by
 obtain ⟨g,n,c,rfl⟩:=hp
 obtain ⟨g2,n2,c2,rfl⟩:=hq
 obtain ⟨g3,n3,c3,rfl⟩:=hr
 unfold execOp
 simp only [ho,List.map_toArray,List.map_cons,List.map_nil,hx,hy,hz]
 simp [go_sem]
def x3T (a b c:Value) (t:Nat):Value:=if t=0 then a else if t=1 then b else c
def n3T (b c:Nat) (t:Nat):Nat:=if t=0 then 18 else if t=1 then b else c
def g3T (f g h:Nat->Nat) (t:Nat):Nat->Nat:=if t=0 then f else if t=1 then g else h
theorem n3_sum {b c:Nat}:sumN (n3T b c) 3=18+b+c:=by
 show 0+18+b+c=18+b+c
 omega
theorem llx3 {W:World} {g b c:Nat} {u v r:Value} {f h k:Nat->Nat} (hg:W.heap[g]?=some (.cells #[u,v,r] 23)) (h1:SliceN W u 18 f) (h2:SliceN W v b h) (h3:SliceN W r c k) (z1:∀ l c,u=.slice none l c->c=0) (z2:∀ l c,v=.slice none l c->c=0) (z3:∀ l c,r=.slice none l c->c=0):LLX W (.slice (some ⟨g,0,none⟩) 3 3) 3 (x3T u v r) (n3T b c) (g3T f h k):=by
 refine ⟨⟨_,_,rfl,fun _=>⟨g,0,rfl,(Array.getElem?_eq_some_iff.1 hg).1,fun j hj=>?_⟩⟩,fun j hj=>?_,fun j hj=>?_⟩
 ·rw [cell_of_row _ _ _ _ _ _ hg]
  match j,hj with
  | 0,_=>rfl
  | 1,_=>rfl
  | 2,_=>rfl
  | j+3,h=>omega
 ·match j,hj with
  | 0,_=>exact h1
  | 1,_=>exact h2
  | 2,_=>exact h3
  | j+3,h=>omega
 ·match j,hj with
  | 0,_=>exact z1
  | 1,_=>exact z2
  | 2,_=>exact z3
  | j+3,h=>omega
section
variable {L J n:Nat} {p w:Nat->Nat}
theorem tu_cat:∀ i,i < 3->∀ k,k < n3T (lb L) (J * lq L J) i->tuT L J n (szF n J) p w (sumN (n3T (lb L) (J * lq L J)) i+k)=g3T p (tuB L J n (szF n J) p w) (tkF L J n p w) i k:=fun i hi k hk=>by
 match i,hi,hk with
 | 0,_,hk=>
  have hk':k < 18:=hk
  show tuT L J n (szF n J) p w (0+k)=p k
  rw [Nat.zero_add]
  unfold tuT
  rw [if_pos hk']
 | 1,_,hk=>
  have hk':k < lb L:=hk
  show tuT L J n (szF n J) p w (0+18+k)=_
  rw [Nat.zero_add]
  exact tuT_br hk'
 | 2,_,hk=>
  have hk':k < J * lq L J:=hk
  show tuT L J n (szF n J) p w (0+18+lb L+k)=tkF L J n p w k
  unfold tuT
  rw [if_neg (by omega),if_neg (by omega),if_pos (by omega),show 0+18+lb L+k - 18 - lb L=k by omega]
  rfl
 | i+3,h,_=>omega
theorem tu_rest (k:Nat):tuT L J n (szF n J) p w (18+lb L+J * lq L J+k)=p (18+lb L+J * lq L J+k):=by
 unfold tuT
 rw [if_neg (by omega),if_neg (by omega),if_neg (by omega)]
end
set_option maxRecDepth 100000 in
set_option maxHeartbeats 4000000 in
theorem pturn (p:Nat->Nat) (L:Nat) (n ch:Int) (wf:Nat->Int) (m:Nat) (pv wv:Value) (V:World) (FP:SliceN V pv L p) (hl:L<=140737488351232) (FW:SliceI V wv m wf) :
  Calls Try.prog 16 #[pv,.int .i64 n,.int .i64 ch,wv] V fun e w'=>∃ r,e=.returned (.tuple #[r,.int .i64 ((tnE L n ch wf m p:Nat):Int)])/\w'.ownsRow V.heap.size 5 1 r (zl (tnE L n ch wf m p) L) (bytesL (zl (tnE L n ch wf m p) L) (tnF L n ch wf p))/\Below V.heap.size V w':=by
 have FP0:=FP
 go_enter Try.func16,Try.ntmps16
 refine wp_seq ?_
 refine wo_ 85 [(0,pv),(1,.int .i64 n),(2,.int .i64 ch),(3,wv)] ?_
 rintro a A ⟨t0,t1,t2,t3,-⟩
 refine wi_ A (h4_ t0 t1 t2 t3) (rf_ [] (h4_ t0 t1 t2 t3) ?_)
 rintro a A - ⟨t0,t1,t2,t3,-⟩
 have BW:Below V.heap.size V V:=Below.refl _ _
 by_cases hin:inL n ch
 ·obtain ⟨N,rfl⟩:∃ N:Nat,n=N:=⟨n.toNat,by have:=hin.1; omega⟩
  obtain ⟨J,rfl⟩:∃ J:Nat,ch=J:=⟨ch.toNat,by have:=hin.2.2.1; omega⟩
  obtain ⟨h0,hN,h1,h2⟩:=id hin
  replace hN:N<=256:=by omega
  replace h1:1<=J:=by omega
  replace h2:J<=64:=by omega
  refine wp_seq ?_
  refine wi_ A (h4_ t0 t1 t2 t3) (rc_ 2 (sz0 (N:=N) (J:=J) hin V) fun e X1 hh=>?_)
  obtain ⟨z_,he,hk,hb⟩:=hh
  refine ⟨_,he,?_⟩
  have bQ:Below V.heap.size V X1:=hb
  have Fz:(SliceI X1 z_ (J) (sI N J)):=hk
  have bX:=bQ
  clear bQ
  refine rf_ [(10,z_),(11,.int .i64 ((0:Nat):Int))] (h4_ t0 t1 t2 t3) ?_
  rintro a A ⟨t10,t11,-⟩ ⟨t0,t1,t2,t3,-⟩
  replace FP:=(FP.on bX)
  replace FW:=(FW.on bX)
  have ZX1:=bX.size
  replace BW:=BW.trans (bX.mono BW.size)
  clear bX
  refine wp_seq (wp_seq ?_)
  refine wi_ A (h6_ t0 t1 t2 t3 t10 t11) (rv_ 1 (.bool false) (fun a e=>execDec (execNeE (p:=0) (q:=0) rfl (e _) rfl) (decide_eq_false (by decide))) (rf_ [(26,.bool false)] (h5_ t0 t1 t2 t3 t10) ?_))
  rintro a A ⟨t26,-⟩ ⟨t0,t1,t2,t3,t10,-⟩
  refine wp_cond_false t26 (wp_skip ?_)
  clear t26
  refine wp_seq (wp_seq ?_)
  by_cases hmN:m=N
  ·refine wi_ A (h5_ t0 t1 t2 t3 t10) (rv_ 1 (.int .i64 ((m:Nat):Int)) (fun a e=>execLenI (len:=m) rfl (e _) (FW).shp) (rv_ 3 (.bool false) (fun a e=>execDec (execNeN (p:=m) (q:=N) rfl (e _) (e _)) (decide_eq_false (by omega))) (rf_ [(31,.bool false)] (h4_ t0 t2 t3 t10) ?_)))
   rintro a A ⟨t31,-⟩ ⟨t0,t2,t3,t10,-⟩
   refine wp_cond_false t31 (wp_skip ?_)
   clear t31
   subst hmN
   refine wp_seq (wp_seq ?_)
   refine wi_ A (h4_ t0 t2 t3 t10) (rc_ 1 (pcheck wf m _ X1 FW (by omega)) (cb_ fun X6 bQ=>?_))
   have bX:=bQ
   clear bQ
   refine rf_ [(12,.int .i64 ((pE wf m:Nat):Int))] (h4_ t0 t2 t3 t10) ?_
   rintro a A ⟨t12,-⟩ ⟨t0,t2,t3,t10,-⟩
   replace FP:=(FP.on bX)
   replace FW:=(FW.on bX)
   replace Fz:=(Fz.on bX)
   have ZX6:=bX.size
   replace BW:=BW.trans (bX.mono BW.size)
   clear bX
   refine wp_seq ?_
   by_cases hpp:pE wf m=0
   ·refine wi_ A (h5_ t0 t2 t3 t10 t12) (rv_ 1 (.bool false) (fun a e=>execDec (execNeE (p:=pE wf m) (q:=0) rfl (e _) rfl) (decide_eq_false (by omega))) (rf_ [(35,.bool false)] (h4_ t0 t2 t3 t10) ?_))
    rintro a A ⟨t35,-⟩ ⟨t0,t2,t3,t10,-⟩
    refine wp_cond_false t35 (wp_skip ?_)
    clear t35
    have hw:IsP (gN wf) m:=isP_of (pE_zero.1 hpp)
    have hwv:∀ i,i < m->wf i=((gN wf i:Nat):Int):=fun i hi=>by
     have:=(okQ_iff.1 (pE_zero.1 hpp)).1 i hi
     show wf i=(((wf i).toNat:Nat):Int)
     omega
    have hTR:tnE L ((m:Nat):Int) ((J:Nat):Int) wf m p=riE L ((m:Nat):Int) ((J:Nat):Int) p:=by
     show (if _ then _ else _)=_
     rw [if_pos ⟨hin,rfl⟩,if_pos hpp]
    refine wp_seq ?_
    by_cases hL18:18<=L
    ·refine wi_ A (h4_ t0 t2 t3 t10) (rc_ 2 (spl0 p L J _ X6 FP hl hL18 h1 h2) fun e X9_1 hh=>?_)
     obtain ⟨nv,bv,cv,xs,he,hk,hb⟩:=hh
     refine ⟨_,he,?_⟩
     have bQ:Below X6.heap.size X6 X9_1:=hb
     have FPT:(PtS X9_1 V.heap.size J nv bv cv xs 18 (lb L) (lq L J) p):=hk.base (Nat.le_trans BW.size ((Below.refl X6.heap.size X6)).size)
     have bX:=bQ
     clear bQ
     obtain ⟨g13,egg13⟩:∃ z_:Nat,X9_1.heap.size=z_:=⟨_,rfl⟩
     refine rs_ 6 (fun a e=>?_)
     refine stepV rfl rfl (execAllPt rfl) ⟨.pointer (some ⟨g13,0,none⟩),⟨_,rfl,by subst egg13; rfl⟩,fun X9_2 hX=>?_⟩
     have bQ:Below X9_1.heap.size X9_1 X9_2:=by subst hX egg13; exact (belNew X9_1 _)
     have F13:X9_2.heap[g13]?=some (.cells (ptC (.slice none 0 0) (.slice none 0 0) (.slice none 0 0)) 55):=by subst hX egg13; exact heapNew X9_1 _
     have Fge13:(X6.heap.size<=g13):=by subst hX egg13; exact (bX).size
     replace FPT:=(FPT.on bQ)
     replace bX:=bX.trans (bQ.mono bX.size)
     clear bQ hX egg13 e a
     refine rs_ 7 (fun a e=>?_)
     refine stepS rfl rfl (execStPt rfl (e _) (e _) F13 rfl (pts_one FPT)) ⟨_,⟨_,rfl,rfl⟩,fun X9 hX=>?_⟩
     obtain ⟨bX,FPT,F13⟩:Below X6.heap.size X6 X9/\(PtS X9 V.heap.size J nv bv cv xs 18 (lb L) (lq L J) p)/\X9.heap[g13]?=some (.cells (ptC nv bv cv) 55):=by rw [hX]; exact ⟨below4 bX Fge13 _,(FPT.set F13 (by decide) (by decide)),setRow_heap _ _ _ _ _ _ F13⟩
     clear hX e a
     refine rf_ [(11,.int .i64 ((0:Nat):Int)),(13,.pointer (some ⟨g13,0,none⟩))] (h3_ t0 t3 t10) ?_
     rintro a A ⟨t11,t13,-⟩ ⟨t0,t3,t10,-⟩
     replace FP:=(FP.on bX)
     replace FW:=(FW.on bX)
     replace Fz:=(Fz.on bX)
     have ZX9:=bX.size
     replace BW:=BW.trans (bX.mono BW.size)
     clear bX
     refine wp_seq (wp_seq ?_)
     refine wi_ A (h5_ t0 t3 t10 t11 t13) (rv_ 1 (.bool false) (fun a e=>execDec (execNeE (p:=0) (q:=0) rfl (e _) rfl) (decide_eq_false (by decide))) (rf_ [(44,.bool false)] (h4_ t0 t3 t10 t13) ?_))
     rintro a A ⟨t44,-⟩ ⟨t0,t3,t10,t13,-⟩
     refine wp_cond_false t44 (wp_skip ?_)
     clear t44
     have hpb:∀ j,j < L->p j < 256:=FP.bytes
     have FBv:SliceN X9 bv (lb L) (brP p):=pts_br FPT hL18 hpb
     have FCv:LLB X9 cv J xs (lq L J) (ckP L J p):=pts_ck FPT hL18 hpb
     have hlb:lb L<=140737488351232:=by unfold lb; omega
     have hlq3:=lq_le L (J:=J) hL18
     have hlq:lq L J<=140737488351232:=by have h3:1 * lq L J<=J * lq L J:=Nat.mul_le_mul_right _ h1; omega
     have hzb:∀ l c,bv=.slice none l c->c=0:=own_nilB FPT.rowB
     have hzn:∀ l c,nv=.slice none l c->c=0:=own_nilB FPT.rowN
     have FNv:SliceN X9 nv 18 p:=pts_nz FPT hL18 hpb
     refine wp_seq ?_
     refine wi_ A (h4_ t0 t3 t10 t13) (rc_ 2 (papart (gN wf) m J _ _ X9 (SliceI.cg FW hwv) Fz hN h1 h2 hw) fun e X12 hh=>?_)
     obtain ⟨u_,o_,yo,he,hk1,hk2,hb⟩:=hh
     refine ⟨_,he,?_⟩
     have bQ:Below X9.heap.size X9 X12:=hb
     have Fu:(SliceI X12 u_ (m) (wCI J m (gN wf))):=hk1
     have FOw:(LLI X12 o_ J yo (szF m J) (wOI J m (gN wf))):=hk2
     have bX:=bQ
     clear bQ
     refine rf_ [(14,u_),(15,o_)] (h3_ t0 t10 t13) ?_
     rintro a A ⟨t14,t15,-⟩ ⟨t0,t10,t13,-⟩
     replace FP:=(FP.on bX)
     replace FW:=(FW.on bX)
     replace Fz:=(Fz.on bX)
     replace FPT:=(FPT.on bX)
     replace Fge13:=Fge13
     replace F13:=(on9 F13 bX)
     replace FBv:=(FBv.on bX)
     replace FCv:=(FCv.on bX)
     replace FNv:=(FNv.on bX)
     have ZX12:=bX.size
     replace BW:=BW.trans (bX.mono BW.size)
     clear bX
     refine wp_seq ?_
     cases hbr:okB (brP p) (lb L) (bI m) m with
     | false=>
      refine wi_ A (h5_ t0 t10 t13 t14 t15) (rv_ 0 (.pointer (some ⟨g13,1,none⟩)) (fun a e=>execPt1 rfl (e _)) (rv_ 1 (bv) (fun a e=>execLdL rfl (e _) (ptC_at F13).2.1) (rc_ 4 (tb3 p L m J (gN wf) _ _ _ X12 FBv hlb hzb Fz Fu hN h1 h2 hw hbr) fun e X13 hh=>?_)))
      obtain ⟨q_,he,hb⟩:=hh
      refine ⟨_,he,?_⟩
      have bQ:Below X12.heap.size X12 X13:=hb
      have bX:=bQ
      clear bQ
      refine rg_ [(11,.int .i64 ((3:Nat):Int))] ?_
      rintro a A ⟨t11,-⟩
      replace FP:=(FP.on bX)
      replace FW:=(FW.on bX)
      replace Fz:=(Fz.on bX)
      replace FPT:=(FPT.on bX)
      replace Fge13:=Fge13
      replace F13:=(on9 F13 bX)
      replace FBv:=(FBv.on bX)
      replace FCv:=(FCv.on bX)
      replace FNv:=(FNv.on bX)
      replace Fu:=(Fu.on bX)
      replace FOw:=(FOw.on bX)
      have ZX13:=bX.size
      replace BW:=BW.trans (bX.mono BW.size)
      clear bX
      refine wp_seq (wp_seq ?_)
      refine wi_ A (h1_ t11) (rv_ 1 (.bool true) (fun a e=>execDec (execNeE (p:=3) (q:=0) rfl (e _) rfl) (decide_eq_true (by decide))) (rf_ [(61,.bool true)] (h1_ t11) ?_))
      rintro a A ⟨t61,-⟩ ⟨t11,-⟩
      refine wp_cond_true t61 ?_
      clear t61
      refine wp_seq ?_
      refine wi_ A (h1_ t11) (rg_ [(8,.slice none 0 0),(9,.int .i64 ((3:Nat):Int))] ?_)
      rintro a A ⟨t8,t9,-⟩
      have hE:tnE L ((m:Nat):Int) ((J:Nat):Int) wf m p=3:=hTR.trans (by show (if inL _ _ then _ else _)=3; rw [if_pos hin]; exact if_neg fun q=>by have h_:OkT L J m (szF m J) p:=okT_iff.1 q.2; rw [okB_iff.2 h_.br] at hbr; cases hbr)
      rw [hE,zl_no (by decide)]
      refine wp_ret ?_
      repeat (first | with_reducible refine ret_in ?_ | with_reducible refine ret_then ?_)
      refine bodyPost_ret (results_tmp2 rfl _ _ _) A.2 ⟨_,?_,World.ownsRow_nil _ _ _ _,BW⟩
      show Ending.returned (.tuple #[a.eval (.tmp 8),a.eval (.tmp 9)])=_
      rw [t8,t9]
     | true=>
      refine wi_ A (h5_ t0 t10 t13 t14 t15) (rv_ 0 (.pointer (some ⟨g13,1,none⟩)) (fun a e=>execPt1 rfl (e _)) (rv_ 1 (bv) (fun a e=>execLdL rfl (e _) (ptC_at F13).2.1) (rc_ 4 (tb0 p L m J (gN wf) _ _ _ X12 FBv hlb hzb Fz Fu hN h1 h2 hw hbr) fun e X13 hh=>?_)))
      obtain ⟨q_,he,hk,hb⟩:=hh
      refine ⟨_,he,?_⟩
      have bQ:Below X12.heap.size X12 X13:=hb
      have FQ:(TkA X13 V.heap.size q_ (lb L) (tuB L J m (szF m J) p (gN wf))):=tkA_base hk (Nat.le_trans BW.size ((Below.refl X12.heap.size X12)).size)
      have bX:=bQ
      clear bQ
      refine rf_ [(11,.int .i64 ((0:Nat):Int)),(16,q_)] (h3_ t0 t13 t15) ?_
      rintro a A ⟨t11,t16,-⟩ ⟨t0,t13,t15,-⟩
      replace FP:=(FP.on bX)
      replace FW:=(FW.on bX)
      replace Fz:=(Fz.on bX)
      replace FPT:=(FPT.on bX)
      replace Fge13:=Fge13
      replace F13:=(on9 F13 bX)
      replace FBv:=(FBv.on bX)
      replace FCv:=(FCv.on bX)
      replace FNv:=(FNv.on bX)
      replace Fu:=(Fu.on bX)
      replace FOw:=(FOw.on bX)
      have ZX13:=bX.size
      replace BW:=BW.trans (bX.mono BW.size)
      clear bX
      refine wp_seq (wp_seq ?_)
      refine wi_ A (h5_ t0 t11 t13 t15 t16) (rv_ 1 (.bool false) (fun a e=>execDec (execNeE (p:=0) (q:=0) rfl (e _) rfl) (decide_eq_false (by decide))) (rf_ [(61,.bool false)] (h4_ t0 t13 t15 t16) ?_))
      rintro a A ⟨t61,-⟩ ⟨t0,t13,t15,t16,-⟩
      refine wp_cond_false t61 (wp_skip ?_)
      clear t61
      refine wp_seq ?_
      cases hsh:allB (fun t=>okB (ckP L J p t) (lq L J) (bI (szF m J t)) (szF m J t - 1)) J with
      | false=>
       refine wi_ A (h4_ t0 t13 t15 t16) (rv_ 0 (.pointer (some ⟨g13,2,none⟩)) (fun a e=>execPt2 rfl (e _)) (rv_ 1 (cv) (fun a e=>execLdLL rfl (e _) (ptC_at F13).2.2) (rc_ 3 (tc3 p L m J (gN wf) xs yo _ _ X13 FCv hlq (by omega) FOw hN h1 h2 hw hsh) fun e X16 hh=>?_)))
       obtain ⟨c_,he,hb⟩:=hh
       refine ⟨_,he,?_⟩
       have bQ:Below X13.heap.size X13 X16:=hb
       have bX:=bQ
       clear bQ
       refine rg_ [(11,.int .i64 ((3:Nat):Int))] ?_
       rintro a A ⟨t11,-⟩
       replace FP:=(FP.on bX)
       replace FW:=(FW.on bX)
       replace Fz:=(Fz.on bX)
       replace FPT:=(FPT.on bX)
       replace Fge13:=Fge13
       replace F13:=(on9 F13 bX)
       replace FBv:=(FBv.on bX)
       replace FCv:=(FCv.on bX)
       replace FNv:=(FNv.on bX)
       replace Fu:=(Fu.on bX)
       replace FOw:=(FOw.on bX)
       replace FQ:=(FQ.on bX)
       have ZX16:=bX.size
       replace BW:=BW.trans (bX.mono BW.size)
       clear bX
       refine wp_seq (wp_seq ?_)
       refine wi_ A (h1_ t11) (rv_ 1 (.bool true) (fun a e=>execDec (execNeE (p:=3) (q:=0) rfl (e _) rfl) (decide_eq_true (by decide))) (rf_ [(71,.bool true)] (h1_ t11) ?_))
       rintro a A ⟨t71,-⟩ ⟨t11,-⟩
       refine wp_cond_true t71 ?_
       clear t71
       refine wp_seq ?_
       refine wi_ A (h1_ t11) (rg_ [(8,.slice none 0 0),(9,.int .i64 ((3:Nat):Int))] ?_)
       rintro a A ⟨t8,t9,-⟩
       have hE:tnE L ((m:Nat):Int) ((J:Nat):Int) wf m p=3:=hTR.trans (by show (if inL _ _ then _ else _)=3; rw [if_pos hin]; exact if_neg fun q=>by have h_:OkT L J m (szF m J) p:=okT_iff.1 q.2; rw [allB_iff.2 fun t ht=>okB_iff.2 (h_.ck t ht)] at hsh; cases hsh)
       rw [hE,zl_no (by decide)]
       refine wp_ret ?_
       repeat (first | with_reducible refine ret_in ?_ | with_reducible refine ret_then ?_)
       refine bodyPost_ret (results_tmp2 rfl _ _ _) A.2 ⟨_,?_,World.ownsRow_nil _ _ _ _,BW⟩
       show Ending.returned (.tuple #[a.eval (.tmp 8),a.eval (.tmp 9)])=_
       rw [t8,t9]
      | true=>
       refine wi_ A (h4_ t0 t13 t15 t16) (rv_ 0 (.pointer (some ⟨g13,2,none⟩)) (fun a e=>execPt2 rfl (e _)) (rv_ 1 (cv) (fun a e=>execLdLL rfl (e _) (ptC_at F13).2.2) (rc_ 3 (tc0 p L m J (gN wf) xs yo _ _ X13 FCv hlq (by omega) FOw hN h1 h2 hw hsh) fun e X16 hh=>?_)))
       obtain ⟨c_,he,hk,hb⟩:=hh
       refine ⟨_,he,?_⟩
       have bQ:Below X13.heap.size X13 X16:=hb
       have FK:(X16.ownsRow V.heap.size 5 1 c_ (J * lq L J) (bytesL (J * lq L J) (tkF L J m p (gN wf)))):=own_base hk (Nat.le_trans BW.size ((Below.refl X13.heap.size X13)).size)
       have bX:=bQ
       clear bQ
       refine rf_ [(11,.int .i64 ((0:Nat):Int)),(17,c_)] (h3_ t0 t13 t16) ?_
       rintro a A ⟨t11,t17,-⟩ ⟨t0,t13,t16,-⟩
       replace FP:=(FP.on bX)
       replace FW:=(FW.on bX)
       replace Fz:=(Fz.on bX)
       replace FPT:=(FPT.on bX)
       replace Fge13:=Fge13
       replace F13:=(on9 F13 bX)
       replace FBv:=(FBv.on bX)
       replace FCv:=(FCv.on bX)
       replace FNv:=(FNv.on bX)
       replace Fu:=(Fu.on bX)
       replace FOw:=(FOw.on bX)
       replace FQ:=(FQ.on bX)
       have ZX16:=bX.size
       replace BW:=BW.trans (bX.mono BW.size)
       clear bX
       refine wp_seq (wp_seq ?_)
       refine wi_ A (h5_ t0 t11 t13 t16 t17) (rv_ 1 (.bool false) (fun a e=>execDec (execNeE (p:=0) (q:=0) rfl (e _) rfl) (decide_eq_false (by decide))) (rf_ [(71,.bool false)] (h4_ t0 t13 t16 t17) ?_))
       rintro a A ⟨t71,-⟩ ⟨t0,t13,t16,t17,-⟩
       refine wp_cond_false t71 (wp_skip ?_)
       clear t71
       have hok:OkT L J m (szF m J) p:=⟨okB_iff.1 hbr,fun t ht=>okB_iff.1 (allB_iff.1 hsh t ht)⟩
       have hFit:Fit L m J ((m:Nat):Int) ((J:Nat):Int) p:=⟨rfl,rfl,hN,h1,h2,hL18,hok⟩
       have hE:tnE L ((m:Nat):Int) ((J:Nat):Int) wf m p=0:=hTR.trans hFit.ri
       rw [hE,zl_ok]
       have FK2:SliceN X16 c_ (J * lq L J) (tkF L J m p (gN wf)):=own_slice FK (tk_byte hL18 (szF_sum m h1) hok hw hpb)
       have hzk:∀ l c,c_=.slice none l c->c=0:=own_nilB FK
       obtain ⟨pb,po,pc,epv,hpc⟩:∃ pb po pc,pv=.slice (some ⟨pb,po,none⟩) L pc/\L<=pc:=by
        obtain ⟨⟨a_,c2_,e_,g1,_,g3⟩,_⟩:=id FP
        obtain ⟨b_,o_,e2,_⟩:=g3 (by omega)
        exact ⟨b_,o_,c2_,by rw [e_,e2],g1⟩
       refine wp_seq ?_
       clear FK
       obtain ⟨g77,egg77⟩:∃ z_:Nat,X16.heap.size=z_:=⟨_,rfl⟩
       refine wi_ A (h4_ t0 t13 t16 t17) (rv_ 0 (.pointer (some ⟨g13,0,none⟩)) (fun a e=>execPt0 rfl (e _)) (rv_ 1 (nv) (fun a e=>execLdL rfl (e _) (ptC_at F13).1) (rs_ 4 (fun a e=>?_))))
       refine stepV rfl rfl (execBs3L rfl (e _) (e _) (e _) (shpN FNv) (shpN FQ.slice) (shpN FK2)) ⟨.slice (some ⟨g77,0,none⟩) 3 3,⟨_,rfl,by subst egg77; rfl⟩,fun X19_1 hX=>?_⟩
       have bQ:Below X16.heap.size X16 X19_1:=by subst hX egg77; exact (belNew X16 _)
       have F77:(X19_1.heap[g77]?=some (.cells #[nv,q_,c_] 23)):=by subst hX egg77; exact heapNew X16 _
       have bX:=bQ
       clear bQ hX egg77 e a
       refine rc_ 5 (pconcat 3 (x3T nv q_ c_) (n3T (lb L) (J * lq L J)) (g3T p (tuB L J m (szF m J) p (gN wf)) (tkF L J m p (gN wf))) (tuT L J m (szF m J) p (gN wf)) _ X19_1 (llx3 F77 (FNv.on bX) (FQ.slice.on bX) (FK2.on bX) hzn (tk_nil FQ) hzk) (by omega) tu_cat (by rw [n3_sum]; omega) (by rw [n3_sum]; omega)) fun e X19 hh=>?_
       obtain ⟨r78,he,hk,hb⟩:=hh
       refine ⟨_,he,?_⟩
       have bQ:Below X19_1.heap.size X19_1 X19:=hb
       have FR:(X19.ownsRow V.heap.size 5 1 r78 (18+lb L+J * lq L J) (bytesL (18+lb L+J * lq L J) (tuT L J m (szF m J) p (gN wf)))):=own_base (by rw [n3_sum] at hk; exact hk) (Nat.le_trans BW.size (bX).size)
       replace F77:=(on9 F77 bQ)
       replace bX:=bX.trans (bQ.mono bX.size)
       clear bQ
       refine rf_ [(18,r78)] (h1_ t0) ?_
       rintro a A ⟨t18,-⟩ ⟨t0,-⟩
       replace FP:=(FP.on bX)
       replace FW:=(FW.on bX)
       replace Fz:=(Fz.on bX)
       replace FPT:=(FPT.on bX)
       replace Fge13:=Fge13
       replace F13:=(on9 F13 bX)
       replace FBv:=(FBv.on bX)
       replace FCv:=(FCv.on bX)
       replace FNv:=(FNv.on bX)
       replace Fu:=(Fu.on bX)
       replace FOw:=(FOw.on bX)
       replace FQ:=(FQ.on bX)
       replace FK2:=(FK2.on bX)
       have ZX19:=bX.size
       replace BW:=BW.trans (bX.mono BW.size)
       clear bX
       clear FBv
       clear FCv
       clear FNv
       clear FQ
       clear FK2
       clear FPT
       clear F13
       clear Fge13
       clear Fz
       clear Fu
       clear FOw
       clear F77
       clear FW
       have BB:=BW
       refine wp_seq ?_
       refine wi_ A (h2_ t0 t18) (rv_ 3 (.int .i64 ((18+lb L+J * lq L J:Nat):Int)) (fun a e=>execLenV (len:=18+lb L+J * lq L J) rfl (e _) (shpO FR)) (rv_ 4 (sliced (some ⟨pb,po,none⟩) (18+lb L+J * lq L J) L pc 1) (fun a e=>By8.execSlL rfl ((e _).trans epv) (e _) (By8.slice_l (some ⟨pb,po,none⟩) L pc (18+lb L+J * lq L J) hlq3 X19)) (rs_ 5 (fun a e=>?_))))
       refine stepAppN (n:=18+lb L+J * lq L J) (m:=L - (18+lb L+J * lq L J)) (p:=tuT L J m (szF m J) p (gN wf)) rfl rfl rfl (e _) (e _) FR (sliceN_cg (SliceN.sub (epv ▸ FP0.on BB) (18+lb L+J * lq L J) L hlq3 (Nat.le_refl _)) (fun k hk=>(tu_rest k).symm)) (fun _ _ e=>sl_no e) (by omega) (BB).size fun v84 X20 own' gr=>⟨_,⟨_,rfl,rfl⟩,eqw ?_⟩
       obtain ⟨BB,FR2⟩:Below V.heap.size V X20/\(X20.ownsRow V.heap.size 5 1 v84 L (bytesL L (tuT L J m (szF m J) p (gN wf)))):=⟨(BB).grown gr (BB).size (fun k hk=>(FR.lt k hk).1),(by rw [show 18+lb L+J * lq L J+(L - (18+lb L+J * lq L J))=L by omega] at own'; exact own')⟩
       clear FR e a
       refine rg_ [(8,v84),(9,.int .i64 ((0:Nat):Int))] ?_
       rintro a A ⟨t8,t9,-⟩
       refine wp_ret ?_
       repeat (first | with_reducible refine ret_in ?_ | with_reducible refine ret_then ?_)
       refine bodyPost_ret (results_tmp2 rfl _ _ _) A.2 ⟨_,?_,FR2,BB⟩
       show Ending.returned (.tuple #[a.eval (.tmp 8),a.eval (.tmp 9)])=_
       rw [t8,t9]
    ·refine wi_ A (h4_ t0 t2 t3 t10) (rc_ 2 (spl3 p L J _ X6 FP hl (by omega) h1 h2) fun e X9_1 hh=>?_)
     obtain ⟨nv,bv,cv,xs,he,hk,hb⟩:=hh
     refine ⟨_,he,?_⟩
     have bQ:Below X6.heap.size X6 X9_1:=hb
     have FPT:(PtS X9_1 V.heap.size 0 nv bv cv xs 0 0 0 p):=hk.base (Nat.le_trans BW.size ((Below.refl X6.heap.size X6)).size)
     have bX:=bQ
     clear bQ
     obtain ⟨g13,egg13⟩:∃ z_:Nat,X9_1.heap.size=z_:=⟨_,rfl⟩
     refine rs_ 6 (fun a e=>?_)
     refine stepV rfl rfl (execAllPt rfl) ⟨.pointer (some ⟨g13,0,none⟩),⟨_,rfl,by subst egg13; rfl⟩,fun X9_2 hX=>?_⟩
     have bQ:Below X9_1.heap.size X9_1 X9_2:=by subst hX egg13; exact (belNew X9_1 _)
     have F13:X9_2.heap[g13]?=some (.cells (ptC (.slice none 0 0) (.slice none 0 0) (.slice none 0 0)) 55):=by subst hX egg13; exact heapNew X9_1 _
     have Fge13:(X6.heap.size<=g13):=by subst hX egg13; exact (bX).size
     replace FPT:=(FPT.on bQ)
     replace bX:=bX.trans (bQ.mono bX.size)
     clear bQ hX egg13 e a
     refine rs_ 7 (fun a e=>?_)
     refine stepS rfl rfl (execStPt rfl (e _) (e _) F13 rfl (pts_one FPT)) ⟨_,⟨_,rfl,rfl⟩,fun X9 hX=>?_⟩
     obtain ⟨bX,FPT,F13⟩:Below X6.heap.size X6 X9/\(PtS X9 V.heap.size 0 nv bv cv xs 0 0 0 p)/\X9.heap[g13]?=some (.cells (ptC nv bv cv) 55):=by rw [hX]; exact ⟨below4 bX Fge13 _,(FPT.set F13 (by decide) (by decide)),setRow_heap _ _ _ _ _ _ F13⟩
     clear hX e a
     refine rg_ [(11,.int .i64 ((3:Nat):Int))] ?_
     rintro a A ⟨t11,-⟩
     replace FP:=(FP.on bX)
     replace FW:=(FW.on bX)
     replace Fz:=(Fz.on bX)
     have ZX9:=bX.size
     replace BW:=BW.trans (bX.mono BW.size)
     clear bX
     refine wp_seq (wp_seq ?_)
     refine wi_ A (h1_ t11) (rv_ 1 (.bool true) (fun a e=>execDec (execNeE (p:=3) (q:=0) rfl (e _) rfl) (decide_eq_true (by decide))) (rf_ [(44,.bool true)] (h1_ t11) ?_))
     rintro a A ⟨t44,-⟩ ⟨t11,-⟩
     refine wp_cond_true t44 ?_
     clear t44
     refine wp_seq ?_
     refine wi_ A (h1_ t11) (rg_ [(8,.slice none 0 0),(9,.int .i64 ((3:Nat):Int))] ?_)
     rintro a A ⟨t8,t9,-⟩
     have hE:tnE L ((m:Nat):Int) ((J:Nat):Int) wf m p=3:=hTR.trans (by show (if inL _ _ then _ else _)=3; rw [if_pos hin]; exact if_neg fun q=>hL18 q.1)
     rw [hE,zl_no (by decide)]
     refine wp_ret ?_
     repeat (first | with_reducible refine ret_in ?_ | with_reducible refine ret_then ?_)
     refine bodyPost_ret (results_tmp2 rfl _ _ _) A.2 ⟨_,?_,World.ownsRow_nil _ _ _ _,BW⟩
     show Ending.returned (.tuple #[a.eval (.tmp 8),a.eval (.tmp 9)])=_
     rw [t8,t9]
   ·refine wi_ A (h5_ t0 t2 t3 t10 t12) (rv_ 1 (.bool true) (fun a e=>execDec (execNeE (p:=pE wf m) (q:=0) rfl (e _) rfl) (decide_eq_true (by omega))) (rf_ [(35,.bool true)] (h1_ t12) ?_))
    rintro a A ⟨t35,-⟩ ⟨t12,-⟩
    refine wp_cond_true t35 ?_
    clear t35
    refine wp_seq ?_
    refine wi_ A (h1_ t12) (rg_ [(8,.slice none 0 0),(9,.int .i64 ((pE wf m:Nat):Int))] ?_)
    rintro a A ⟨t8,t9,-⟩
    have hpE:pE wf m=110:=by have h_:=hpp; unfold pE at h_ ⊢; split at h_ <;> simp_all
    rw [hpE] at t9
    have hE:tnE L ((m:Nat):Int) ((J:Nat):Int) wf m p=110:=by show (if _ then _ else _)=110; rw [if_pos ⟨hin,rfl⟩]; exact if_neg hpp
    rw [hE,zl_no (by decide)]
    refine wp_ret ?_
    repeat (first | with_reducible refine ret_in ?_ | with_reducible refine ret_then ?_)
    refine bodyPost_ret (results_tmp2 rfl _ _ _) A.2 ⟨_,?_,World.ownsRow_nil _ _ _ _,BW⟩
    show Ending.returned (.tuple #[a.eval (.tmp 8),a.eval (.tmp 9)])=_
    rw [t8,t9]
  ·refine wi_ A (h5_ t0 t1 t2 t3 t10) (rv_ 1 (.int .i64 ((m:Nat):Int)) (fun a e=>execLenI (len:=m) rfl (e _) (FW).shp) (rv_ 3 (.bool true) (fun a e=>execDec (execNeN (p:=m) (q:=N) rfl (e _) (e _)) (decide_eq_true (by omega))) (rg_ [(31,.bool true)] ?_)))
   rintro a A ⟨t31,-⟩
   refine wp_cond_true t31 ?_
   clear t31
   refine wp_seq ?_
   refine wi_ A h0_ (rg_ [(8,.slice none 0 0),(9,.int .i64 ((2:Nat):Int))] ?_)
   rintro a A ⟨t8,t9,-⟩
   have hE:tnE L ((N:Nat):Int) ((J:Nat):Int) wf m p=2:=if_neg fun q=>hmN (by omega)
   rw [hE,zl_no (by decide)]
   refine wp_ret ?_
   repeat (first | with_reducible refine ret_in ?_ | with_reducible refine ret_then ?_)
   refine bodyPost_ret (results_tmp2 rfl _ _ _) A.2 ⟨_,?_,World.ownsRow_nil _ _ _ _,BW⟩
   show Ending.returned (.tuple #[a.eval (.tmp 8),a.eval (.tmp 9)])=_
   rw [t8,t9]
 ·refine wp_seq ?_
  refine wi_ A (h4_ t0 t1 t2 t3) (rc_ 2 (sz2 hin V) fun e X1 hh=>?_)
  obtain ⟨z_,he,hb⟩:=hh
  refine ⟨_,he,?_⟩
  have bQ:Below V.heap.size V X1:=hb
  have bX:=bQ
  clear bQ
  refine rg_ [(11,.int .i64 ((2:Nat):Int))] ?_
  rintro a A ⟨t11,-⟩
  replace FP:=(FP.on bX)
  replace FW:=(FW.on bX)
  have ZX1:=bX.size
  replace BW:=BW.trans (bX.mono BW.size)
  clear bX
  refine wp_seq (wp_seq ?_)
  refine wi_ A (h1_ t11) (rv_ 1 (.bool true) (fun a e=>execDec (execNeE (p:=2) (q:=0) rfl (e _) rfl) (decide_eq_true (by decide))) (rf_ [(26,.bool true)] (h1_ t11) ?_))
  rintro a A ⟨t26,-⟩ ⟨t11,-⟩
  refine wp_cond_true t26 ?_
  clear t26
  refine wp_seq ?_
  refine wi_ A (h1_ t11) (rg_ [(8,.slice none 0 0),(9,.int .i64 ((2:Nat):Int))] ?_)
  rintro a A ⟨t8,t9,-⟩
  have hE:tnE L n ch wf m p=2:=if_neg fun q=>hin q.1
  rw [hE,zl_no (by decide)]
  refine wp_ret ?_
  repeat (first | with_reducible refine ret_in ?_ | with_reducible refine ret_then ?_)
  refine bodyPost_ret (results_tmp2 rfl _ _ _) A.2 ⟨_,?_,World.ownsRow_nil _ _ _ _,BW⟩
  show Ending.returned (.tuple #[a.eval (.tmp 8),a.eval (.tmp 9)])=_
  rw [t8,t9]
end Go.Proofs.Ytmjpneaccjlpkaa.Rif
