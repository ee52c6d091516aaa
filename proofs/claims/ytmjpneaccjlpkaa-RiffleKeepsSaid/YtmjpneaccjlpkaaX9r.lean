import Derived.Test.YtmjpneaccjlpkaaX9p
import Derived.Test.YtmjpneaccjlpkaaX9g
namespace Go.Proofs.Ytmjpneaccjlpkaa.Rif
open Go.RowKit Gf8 Aes By8 Cel Cf Tap Drw Prm Brd
/- The reference's Turn. Written by tools/mkX9r.py. -/
def ffT (m J t:Nat) (i:Nat):Int:=if t=0 then ((pj (szF m J) i J:Nat):Int) else ((sumN (szF m J) (pj (szF m J) i J):Nat):Int)
theorem fmT0 {B m J g h:Nat} {W:World} (h0:W.ownsRow B 3 1 (.slice (some ⟨g,0,none⟩) 0 m) 0 (intsL 0 (ffT m J 0))) (h1:W.ownsRow B 3 1 (.slice (some ⟨h,0,none⟩) 0 m) 0 (intsL 0 (ffT m J 1))) (hd:some g ≠ some h):FmI B 2 (x2 (.slice (some ⟨g,0,none⟩) 0 m) (.slice (some ⟨h,0,none⟩) 0 m)) (fun _=>sumN (szF m J) 0) (ffT m J) W:=by
 refine ⟨fun t ht=>?_,fun s t hs ht hst b e1 e2=>?_⟩
 ·match t,ht with
  | 0,_=>exact h0
  | 1,_=>exact h1
  | t+2,q=>omega
 ·match s,t,hs,ht with
  | 0,0,_,_=>exact hst rfl
  | 0,1,_,_=>exact hd (Eq.trans e1 (Eq.symm e2))
  | 1,0,_,_=>exact hd (Eq.trans e2 (Eq.symm e1))
  | 1,1,_,_=>exact hst rfl
  | s+2,_,q,_=>omega
  | _,t+2,_,q=>omega
section
variable {m J j k T sj:Nat}
theorem pj_T (hj:j < J) (eT:sumN (szF m J) j=T) (es:szF m J j=sj) (hk:k < sj):pj (szF m J) (T+k) J=j:=pj_is hj (by omega) (by omega)
theorem ffT_0 (hj:j < J) (eT:sumN (szF m J) j=T) (es:szF m J j=sj) (hk:k < sj):((j:Nat):Int)=ffT m J 0 (T+k):=by
 show _=((pj (szF m J) (T+k) J:Nat):Int)
 rw [pj_T hj eT es hk]
theorem ffT_1 (hj:j < J) (eT:sumN (szF m J) j=T) (es:szF m J j=sj) (hk:k < sj):((T:Nat):Int)=ffT m J 1 (T+k):=by
 show _=((sumN (szF m J) (pj (szF m J) (T+k) J):Nat):Int)
 rw [pj_T hj eT es hk,eT]
theorem nn_two:∀ t,t < 2->updD (updD (fun _=>T+k) 0 1) 1 1 t=(fun _=>T+(k+1)) t:=fun t ht=>by
 match t,ht with
 | 0,_=>rfl
 | 1,_=>rfl
 | t+2,q=>omega
theorem ffT_fits0 (h1:1<=J) (h2:J<=64):∀ i,i < m->-9223372036854775808<=ffT m J 0 i/\ffT m J 0 i < 9223372036854775808:=fun i hi=>by
 have h4:=(pj_lt (r:=szF m J) (d:=i) (J:=J) (by rw [szF_sum m h1]; exact hi)).1
 show -9223372036854775808<=((pj (szF m J) i J:Nat):Int)/\((pj (szF m J) i J:Nat):Int) < 9223372036854775808
 omega
theorem ffT_fits1 (hN:m<=256) (h1:1<=J):∀ i,i < m->-9223372036854775808<=ffT m J 1 i/\ffT m J 1 i < 9223372036854775808:=fun i hi=>by
 have h4:=(pj_lt (r:=szF m J) (d:=i) (J:=J) (by rw [szF_sum m h1]; exact hi)).2.1
 show -9223372036854775808<=((sumN (szF m J) (pj (szF m J) i J):Nat):Int)/\((sumN (szF m J) (pj (szF m J) i J):Nat):Int) < 9223372036854775808
 omega
end
def nnP (C:Nat->Nat) (J i t:Nat):Nat:=if t=J then i else cntC C t i
def ffP (J m:Nat) (w:Nat->Nat) (t:Nat):Nat->Int:=if t=J then wCI J m w else wOI J m w t
section
variable {C w:Nat->Nat} {J m i c:Nat}
theorem nnP_J:nnP C J i J=i:=if_pos rfl
theorem nnP_c (h:c < J):updD (nnP C J i) J 1 c=cntC C c i:=by
 show (if c=J then nnP C J i J+1 else nnP C J i c)=_
 rw [if_neg (by omega)]
 exact if_neg (by omega)
theorem ffP_J:ffP J m w J=wCI J m w:=if_pos rfl
theorem ffP_c (h:c < J):ffP J m w c=wOI J m w c:=if_neg (by omega)
theorem nnP_up {t:Nat} (ec:C i=c) (h:c < J):updD (updD (nnP C J i) J 1) c 1 t=nnP C J (i+1) t:=by
 show (if t=c then updD (nnP C J i) J 1 c+1 else updD (nnP C J i) J 1 t)=_
 by_cases q:t=c
 ·subst q
  rw [if_pos rfl,nnP_c h]
  show _=if t=J then i+1 else cntC C t i+(if C i=t then 1 else 0)
  rw [if_neg (by omega),if_pos ec]
 ·rw [if_neg q]
  show (if t=J then nnP C J i J+1 else nnP C J i t)=_
  by_cases q2:t=J
  ·subst q2
   rw [if_pos rfl,nnP_J,nnP_J]
  ·rw [if_neg q2]
   show (if t=J then i else cntC C t i)=if t=J then i+1 else cntC C t i+(if C i=t then 1 else 0)
   rw [if_neg q2,if_neg q2,if_neg (fun e=>q (e.symm.trans ec)),Nat.add_zero]
theorem fmP0 {B:Nat} {P:Value} {W:World} (h:W.ownsRow B 3 1 P 0 (intsL 0 (wCI J m w))):FmI B (J+1) (updX (fun _=>.slice none 0 0) J P) (nnP C J 0) (ffP J m w) W:=
 FmI.add (FmI.cgN (FmI.nils B J (ffP J m w) W) (fun t ht=>(show nnP C J 0 t=0 from (if_neg (by omega)).trans rfl).symm)) (fun _ _ _ e=>by cases e) h (Nat.le_refl _) nnP_J (fun _ hj=>absurd hj (Nat.not_lt_zero _))
theorem fmP_J {B:Nat} {y:Nat->Value} {W:World} (h:FmI B (J+1) y (nnP C J i) (ffP J m w) W):W.ownsRow B 3 1 (y J) i (intsL i (wCI J m w)):=by
 have h2:=h.rows J (by omega)
 rw [nnP_J,ffP_J] at h2
 exact h2
theorem fmP_first {B:Nat} {y:Nat->Value} {W:World} (h:FmI B (J+1) y (nnP C J i) (ffP J m w) W):FmI B J y (fun t=>cntC C t i) (wOI J m w) W:=
 ⟨fun t ht=>by
  have h2:=h.rows t (by omega)
  have e:nnP C J i t=cntC C t i:=if_neg (by omega)
  rw [e,ffP_c ht] at h2
  exact h2,fun s t hs ht=>h.dis s t (by omega) (by omega)⟩
end
theorem lL_upJ {y:Nat->Value} {J:Nat} {v:Value}:lL (updX y J v) J=lL y J:=lL_congr J (fun i hi=>updX_o y v (by omega))
section
variable {L J n:Nat} {p w:Nat->Nat}
theorem tu_nz {k:Nat} (hk:k < 18):tuT L J n (szF n J) p w (0+k)=p k:=by
 rw [Nat.zero_add]
 unfold tuT
 rw [if_pos hk]
theorem tu_br {k:Nat} (hk:k < lb L):tuT L J n (szF n J) p w (0+18+k)=tuB L J n (szF n J) p w k:=by
 rw [Nat.zero_add]
 exact tuT_br hk
theorem tu_ck {j k:Nat} (hj:j < J) (hk:k < lq L J):tuT L J n (szF n J) p w (18+lb L+j * lq L J+k)=tuK L J n (szF n J) p w j k:=by
 have hq:(j+1) * lq L J<=J * lq L J:=Nat.mul_le_mul_right _ hj
 rw [Nat.succ_mul] at hq
 unfold tuT
 rw [if_neg (by omega),if_neg (by omega),if_pos (by omega),show 18+lb L+j * lq L J+k - 18 - lb L=j * lq L J+k by omega]
 exact tk_at (N:=n) (p:=p) (w:=w) hk
theorem tuK_byte {j:Nat} (hL:18<=L) (o:OkT L J n (szF n J) p) (hj:j < J) (hp:∀ x,x < L->p x < 256):∀ x,x < lq L J->tuK L J n (szF n J) p w j x < 256:=fun _ hx=>
 turn_byte (o.ck _ hj) (kW_ok _) (fun _ hk=>hp _ (ck_in hL hj hk)) hx
end
set_option maxRecDepth 100000 in
set_option maxHeartbeats 4000000 in
theorem rturn13 (p:Nat->Nat) (L:Nat) (n ch:Int) (wf:Nat->Int) (m:Nat) (pv wv:Value) (V:World) (FP:SliceN V pv L p) (hl:L<=140737488351232) (FW:SliceI V wv m wf) (hm17:m<=17592186044416) :
  Calls Try.prog 15 #[pv,.int .i64 n,.int .i64 ch,wv] V fun e w'=>∃ r,e=.returned (.tuple #[r,.int .i64 ((tnE L n ch wf m p:Nat):Int)])/\w'.ownsRow V.heap.size 5 1 r (zl (tnE L n ch wf m p) L) (bytesL (zl (tnE L n ch wf m p) L) (tnF L n ch wf p))/\Below V.heap.size V w':=by
 go_enter Try.func15,Try.ntmps15
 refine wp_seq ?_
 refine wo_ 197 [(0,pv),(1,.int .i64 n),(2,.int .i64 ch),(3,wv)] ?_
 rintro a A ⟨t0,t1,t2,t3,-⟩
 refine wi_ A (h4_ t0 t1 t2 t3) (rf_ [] (h4_ t0 t1 t2 t3) ?_)
 rintro a A - ⟨t0,t1,t2,t3,-⟩
 have BW:Below V.heap.size V V:=Below.refl _ _
 refine wp_seq (wp_seq ?_)
 by_cases hin:inL n ch
 ·obtain ⟨N,rfl⟩:∃ N:Nat,n=N:=⟨n.toNat,by have:=hin.1; omega⟩
  obtain ⟨J,rfl⟩:∃ J:Nat,ch=J:=⟨ch.toNat,by have:=hin.2.2.1; omega⟩
  obtain ⟨h0,hN,h1,h2⟩:=id hin
  replace hN:N<=256:=by omega
  replace h1:1<=J:=by omega
  replace h2:J<=64:=by omega
  by_cases hmN:m=N
  ·subst hmN
   refine wi_ A (h4_ t0 t1 t2 t3) (rc_ 2 (rfit1 hin V) (cb_ fun X1 bQ=>?_))
   have bX:=bQ
   clear bQ
   refine rv_ 3 (.bool false) (fun a e=>execNot8 (b:=true) rfl (e _)) (rv_ 6 (.int .i64 ((m:Nat):Int)) (fun a e=>execLenI (len:=m) rfl (e _) ((FW.on bX)).shp) (rv_ 8 (.bool false) (fun a e=>execDec (execNeN (p:=m) (q:=m) rfl (e _) (e _)) (decide_eq_false (by omega))) (rf_ [(41,.bool false)] (h4_ t0 t1 t2 t3) ?_)))
   rintro a A ⟨t41,-⟩ ⟨t0,t1,t2,t3,-⟩
   replace FP:=(FP.on bX)
   replace FW:=(FW.on bX)
   have ZX1:=bX.size
   replace BW:=BW.trans (bX.mono BW.size)
   clear bX
   refine wp_cond_false t41 (wp_skip ?_)
   clear t41
   refine wp_seq ?_
   refine wi_ A (h4_ t0 t1 t2 t3) (rc_ 1 (rcheck wf m _ X1 FW (by omega)) (cb_ fun X3 bQ=>?_))
   have bX:=bQ
   clear bQ
   refine rf_ [(10,.int .i64 ((pE wf m:Nat):Int))] (h4_ t0 t1 t2 t3) ?_
   rintro a A ⟨t10,-⟩ ⟨t0,t1,t2,t3,-⟩
   replace FP:=(FP.on bX)
   replace FW:=(FW.on bX)
   have ZX3:=bX.size
   replace BW:=BW.trans (bX.mono BW.size)
   clear bX
   refine wp_seq (wp_seq ?_)
   by_cases hpp:pE wf m=0
   ·refine wi_ A (h5_ t0 t1 t2 t3 t10) (rv_ 1 (.bool false) (fun a e=>execDec (execNeN (p:=pE wf m) (q:=0) rfl (e _) rfl) (decide_eq_false (by omega))) (rf_ [(45,.bool false)] (h4_ t0 t1 t2 t3) ?_))
    rintro a A ⟨t45,-⟩ ⟨t0,t1,t2,t3,-⟩
    refine wp_cond_false t45 (wp_skip ?_)
    clear t45
    have hw:IsP (gN wf) m:=isP_of (pE_zero.1 hpp)
    have hwv:∀ i,i < m->wf i=((gN wf i:Nat):Int):=fun i hi=>by
     have:=(okQ_iff.1 (pE_zero.1 hpp)).1 i hi
     show wf i=(((wf i).toNat:Nat):Int)
     omega
    have hTR:tnE L ((m:Nat):Int) ((J:Nat):Int) wf m p=riE L ((m:Nat):Int) ((J:Nat):Int) p:=by
     show (if _ then _ else _)=_
     rw [if_pos ⟨hin,rfl⟩,if_pos hpp]
    refine wp_seq ?_
    by_cases hE:riE L ((m:Nat):Int) ((J:Nat):Int) p=0
    ·refine wi_ A (h4_ t0 t1 t2 t3) (rc_ 3 (rlaid1 p L m J _ X3 FP hl hN h1 h2 hE) fun e X6_1 hh=>?_)
     obtain ⟨sv,uv,fv,tv,y_,he,hk,hs,hb⟩:=hh
     refine ⟨_,he,?_⟩
     have bQ:Below X3.heap.size X3 X6_1:=hb
     have FL:(SliceI X6_1 sv J (sI m J)/\SliceI X6_1 uv m (pcF (sI m J) J (dQ (brP p) (lb L) m))/\SliceI X6_1 fv m (poF (sI m J) J (dQ (brP p) (lb L) m) m)/\LLI X6_1 tv J y_ (szF m J) (owI L m J p)):=hk
     have FB:(Below X6_1.heap.size X6_1 X6_1):=Below.refl _ _
     have Fone:((akC sv uv fv tv).all (·.oneCell')=true):=hs
     have bX:=bQ
     clear bQ
     obtain ⟨g11,egg11⟩:∃ z_:Nat,X6_1.heap.size=z_:=⟨_,rfl⟩
     refine rs_ 7 (fun a e=>?_)
     refine stepV rfl rfl (execAllLd rfl) ⟨.pointer (some ⟨g11,0,none⟩),⟨_,rfl,by subst egg11; rfl⟩,fun X6_2 hX=>?_⟩
     have bQ:Below X6_1.heap.size X6_1 X6_2:=by subst hX egg11; exact (belNew X6_1 _)
     have F11:X6_2.heap[g11]?=some (.cells (akC (.slice none 0 0) (.slice none 0 0) (.slice none 0 0) (.slice none 0 0)) 66):=by subst hX egg11; exact heapNew X6_1 _
     have Fge11:(X3.heap.size<=g11):=by subst hX egg11; exact (bX).size
     have Fgb:(X6_1.heap.size<=g11):=by subst hX egg11; exact (FB).size
     replace FB:=(FB.trans ((bQ).mono (FB).size))
     replace bX:=bX.trans (bQ.mono bX.size)
     clear bQ hX egg11 e a
     refine rs_ 8 (fun a e=>?_)
     refine stepS rfl rfl (execStLd rfl (e _) (e _) F11 rfl Fone) ⟨_,⟨_,rfl,rfl⟩,fun X6 hX=>?_⟩
     obtain ⟨bX,FB,F11⟩:Below X3.heap.size X3 X6/\(Below X6_1.heap.size X6_1 X6)/\X6.heap[g11]?=some (.cells (akC sv uv fv tv) 66):=by rw [hX]; exact ⟨below4 bX Fge11 _,(below4 FB Fgb _),setRow_heap _ _ _ _ _ _ F11⟩
     clear hX e a
     refine rf_ [(11,.pointer (some ⟨g11,0,none⟩)),(12,.bool true)] (h4_ t0 t1 t2 t3) ?_
     rintro a A ⟨t11,t12,-⟩ ⟨t0,t1,t2,t3,-⟩
     replace FP:=(FP.on bX)
     replace FW:=(FW.on bX)
     have ZX6:=bX.size
     replace BW:=BW.trans (bX.mono BW.size)
     clear bX
     refine wp_seq (wp_seq ?_)
     refine wi_ A (h6_ t0 t1 t2 t3 t11 t12) (rv_ 1 (.bool false) (fun a e=>execNot8 (b:=true) rfl (e _)) (rf_ [(55,.bool false)] (h5_ t0 t1 t2 t3 t11) ?_))
     rintro a A ⟨t55,-⟩ ⟨t0,t1,t2,t3,t11,-⟩
     refine wp_cond_false t55 (wp_skip ?_)
     clear t55
     have hTE0:tnE L ((m:Nat):Int) ((J:Nat):Int) wf m p=0:=hTR.trans hE
     rw [hTE0,zl_ok]
     have hFit:=ri_ok hE
     replace FL:=(⟨FL.1.on FB,FL.2.1.on FB,FL.2.2.1.on FB,FL.2.2.2.on FB⟩:_/\_/\_/\_)
     obtain ⟨Fz,-,Fw,-⟩:=FL
     clear FB
     have hok:OkT L J m (szF m J) p:=hFit.ok
     have hL18:18<=L:=hFit.len
     have hsm:=szF_sum m h1
     have hpt:=wC_pat hsm hw
     have BB:Below X6.heap.size X6 X6:=Below.refl _ _
     refine wp_seq ?_
     obtain ⟨g57,egg57⟩:∃ z_:Nat,X6.heap.size=z_:=⟨_,rfl⟩
     refine wi_ A (h5_ t0 t1 t2 t3 t11) (rs_ 1 (fun a e=>?_))
     refine stepV rfl rfl (execMkI rfl (e _) (by omega)) ⟨.slice (some ⟨g57,0,none⟩) 0 m,⟨_,rfl,by subst egg57; rfl⟩,fun X9 hX=>?_⟩
     have bQ:Below X6.heap.size X6 X9:=by subst hX egg57; exact (belNew X6 _)
     have FC1:(X9.ownsRow X6.heap.size 3 1 (.slice (some ⟨g57,0,none⟩) 0 m) (0) (intsL (0) (ffT m J 0))):=by subst hX egg57; exact ownD_base (own_mkI X6 m _ (by omega)) (BB).size
     replace BB:=BB.trans (bQ.mono BB.size)
     clear bQ hX egg57 e a
     refine rf_ [(13,.slice (some ⟨g57,0,none⟩) 0 m)] (h5_ t0 t1 t2 t3 t11) ?_
     rintro a A ⟨t13,-⟩ ⟨t0,t1,t2,t3,t11,-⟩
     refine wp_seq ?_
     obtain ⟨g59,egg59⟩:∃ z_:Nat,X9.heap.size=z_:=⟨_,rfl⟩
     refine wi_ A (h6_ t0 t1 t2 t3 t11 t13) (rs_ 1 (fun a e=>?_))
     refine stepV rfl rfl (execMkI rfl (e _) (by omega)) ⟨.slice (some ⟨g59,0,none⟩) 0 m,⟨_,rfl,by subst egg59; rfl⟩,fun X10 hX=>?_⟩
     have bQ:Below X9.heap.size X9 X10:=by subst hX egg59; exact (belNew X9 _)
     have FC2:(X10.ownsRow X6.heap.size 3 1 (.slice (some ⟨g59,0,none⟩) 0 m) (0) (intsL (0) (ffT m J 1))):=by subst hX egg59; exact ownD_base (own_mkI X9 m _ (by omega)) (BB).size
     have Fne:(g57 ≠ g59):=by subst hX egg59; exact fun q=>by have:=(FC1.lt g57 rfl).2; omega
     replace FC1:=(ownD_below FC1 bQ)
     replace BB:=BB.trans (bQ.mono BB.size)
     clear bQ hX egg59 e a
     refine rf_ [(14,.slice (some ⟨g59,0,none⟩) 0 m)] (h6_ t0 t1 t2 t3 t11 t13) ?_
     rintro a A ⟨t14,-⟩ ⟨t0,t1,t2,t3,t11,t13,-⟩
     refine wp_seq (wp_seq ?_)
     refine wi_ A (h7_ t0 t1 t2 t3 t11 t13 t14) (rf_ [(15,.int .i64 ((0:Nat):Int))] (h7_ t0 t1 t2 t3 t11 t13 t14) ?_)
     rintro a A ⟨t15,-⟩ ⟨t0,t1,t2,t3,t11,t13,t14,-⟩
     have FM:(FmI X6.heap.size 2 (x2 (.slice (some ⟨g57,0,none⟩) 0 m) (.slice (some ⟨g59,0,none⟩) 0 m)) (fun _=>sumN (szF m J) 0) (ffT m J) X10):=fmT0 FC1 FC2 (fun q=>Fne (Option.some.inj q))
     clear FC1 FC2
     refine wp_block ?_
     refine wp_loop (fun a W=>∃ (j:Nat) (x:Nat->Value),j<=J/\(a.tmps.size=197/\a.defers=[])/\a.eval (.tmp 0)=pv/\a.eval (.tmp 1)=.int .i64 ((m:Nat):Int)/\a.eval (.tmp 2)=.int .i64 ((J:Nat):Int)/\a.eval (.tmp 3)=wv/\a.eval (.tmp 11)=.pointer (some ⟨g11,0,none⟩)/\a.eval (.tmp 13)=x 0/\a.eval (.tmp 14)=x 1/\a.eval (.tmp 15)=.int .i64 ((j:Nat):Int)/\Below X6.heap.size X6 W/\(FmI X6.heap.size 2 (x) (fun _=>sumN (szF m J) j) (ffT m J) W)) (fun a _=>J - (intOf (a.eval (.tmp 15))).toNat) ⟨0,x2 (.slice (some ⟨g57,0,none⟩) 0 m) (.slice (some ⟨g59,0,none⟩) 0 m),Nat.zero_le _,A,t0,t1,t2,t3,t11,t13,t14,t15,BB,FM⟩ ?_
     rintro a XL12 ⟨j,x,hj,A,t0,t1,t2,t3,t11,t13,t14,t15,BB,FM⟩
     have esj:=t15
     refine wp_seq (wp_seq ?_)
     refine wi_ A (h8_ t0 t1 t2 t3 t11 t13 t14 t15) (rv_ 2 (.bool (decide (j < J))) (fun a e=>execLtW (p:=j) (q:=J) rfl (e _) (e _)) (rf_ [(62,.bool (decide (j < J)))] (h8_ t0 t1 t2 t3 t11 t13 t14 t15) ?_))
     rintro a A ⟨t62,-⟩ ⟨t0,t1,t2,t3,t11,t13,t14,t15,-⟩
     by_cases ltj:j < J
     ·rw [decide_eq_true ltj] at t62
      refine wp_cond_true t62 (wp_skip ?_)
      clear t62
      refine wp_seq (wp_block ?_)
      obtain ⟨zzb,zzo,zzc,ezz,hzzb,hzzc⟩:=open_sl Fz (by omega)
      have czz:∀ k,k < J->∀ X,Below X6.heap.size X6 X->X.cell? ⟨zzb,zzo+k,none⟩=some (.int .i64 ((sI m J) k)):=fun k hk X hX=>by rw [cell_below hX hzzb]; exact hzzc k hk
      obtain ⟨sj,ezj⟩:∃ sj,szF m J j=sj:=⟨_,rfl⟩
      have hsj:=sumN_at (r:=szF m J) ltj
      rw [hsm,ezj] at hsj
      obtain ⟨T,eT⟩:∃ T,sumN (szF m J) j=T:=⟨_,rfl⟩
      rw [eT] at hsj FM
      refine wp_seq ?_
      refine wi_ A (h8_ t0 t1 t2 t3 t11 t13 t14 t15) (rv_ 1 (.int .i64 ((T:Nat):Int)) (fun a e=>execLenI (len:=T) rfl (e _) (shpO (FM.rows 0 (by omega)))) (rf_ [(16,.int .i64 ((T:Nat):Int))] (h8_ t0 t1 t2 t3 t11 t13 t14 t15) ?_))
      rintro a A ⟨t16,-⟩ ⟨t0,t1,t2,t3,t11,t13,t14,t15,-⟩
      refine wp_seq ?_
      refine wi_ A (h9_ t0 t1 t2 t3 t11 t13 t14 t15 t16) (rf_ [(17,.int .i64 ((0:Nat):Int))] (h9_ t0 t1 t2 t3 t11 t13 t14 t15 t16) ?_)
      rintro a A ⟨t17,-⟩ ⟨t0,t1,t2,t3,t11,t13,t14,t15,t16,-⟩
      have FM0:(FmI X6.heap.size 2 (x) (fun _=>T+0) (ffT m J) XL12):=FM
      clear FM
      have FM:=FM0
      clear FM0
      refine wp_block ?_
      refine wp_loop (fun a W=>∃ (k:Nat) (y:Nat->Value),k<=sj/\(a.tmps.size=197/\a.defers=[])/\a.eval (.tmp 0)=pv/\a.eval (.tmp 1)=.int .i64 ((m:Nat):Int)/\a.eval (.tmp 2)=.int .i64 ((J:Nat):Int)/\a.eval (.tmp 3)=wv/\a.eval (.tmp 11)=.pointer (some ⟨g11,0,none⟩)/\a.eval (.tmp 13)=y 0/\a.eval (.tmp 14)=y 1/\a.eval (.tmp 15)=.int .i64 ((j:Nat):Int)/\a.eval (.tmp 16)=.int .i64 ((T:Nat):Int)/\a.eval (.tmp 17)=.int .i64 ((k:Nat):Int)/\Below X6.heap.size X6 W/\(FmI X6.heap.size 2 (y) (fun _=>T+k) (ffT m J) W)) (fun a _=>sj - (intOf (a.eval (.tmp 17))).toNat) ⟨0,x,Nat.zero_le _,A,t0,t1,t2,t3,t11,t13,t14,t15,t16,t17,BB,FM⟩ ?_
      rintro a XL16 ⟨k,y,hk,A,t0,t1,t2,t3,t11,t13,t14,t15,t16,t17,BB,FM⟩
      have esk:=t17
      refine wp_seq (wp_seq ?_)
      refine wi_ A (h10_ t0 t1 t2 t3 t11 t13 t14 t15 t16 t17) (rv_ 1 (.pointer (some ⟨g11,0,none⟩)) (fun a e=>execFldLd0 rfl (e _)) (rv_ 2 (sv) (fun a e=>execLdLI (v:=sv) rfl (e _) (ak_at0 (on9 F11 BB))) (rv_ 4 (.pointer (some ⟨zzb,zzo+j,none⟩)) (fun a e=>execIdxN (k:=j) rfl ((e _).trans ezz) (e _) ltj) (rv_ 5 (.int .i64 ((sj:Nat):Int)) (fun a e=>execLd3 rfl (e _) ((czz j ltj XL16 BB).trans (by rw [← ezj]; rfl))) (rv_ 6 (.bool (decide (k < sj))) (fun a e=>execLtW (p:=k) (q:=sj) rfl (e _) (e _)) (rf_ [(73,.bool (decide (k < sj)))] (h10_ t0 t1 t2 t3 t11 t13 t14 t15 t16 t17) ?_))))))
      rintro a A ⟨t73,-⟩ ⟨t0,t1,t2,t3,t11,t13,t14,t15,t16,t17,-⟩
      by_cases ltk:k < sj
      ·rw [decide_eq_true ltk] at t73
       refine wp_cond_true t73 (wp_skip ?_)
       clear t73
       refine wp_seq (wp_block ?_)
       refine wp_seq ?_
       obtain ⟨g78,egg78⟩:∃ z_:Nat,XL16.heap.size=z_:=⟨_,rfl⟩
       refine wi_ A (h10_ t0 t1 t2 t3 t11 t13 t14 t15 t16 t17) (rs_ 2 (fun a e=>?_))
       refine stepV rfl rfl (execBsI (z:=((j:Nat):Int)) rfl (e _)) ⟨.slice (some ⟨g78,0,none⟩) 1 1,⟨_,rfl,by subst egg78; rfl⟩,fun X18_1 hX=>?_⟩
       have bQ:Below XL16.heap.size XL16 X18_1:=by subst hX egg78; exact (belNew XL16 _)
       have Fg78:(SliceI X18_1 (.slice (some ⟨g78,0,none⟩) 1 1) (1) (fun _=>((j:Nat):Int))):=by subst hX egg78; exact oneI XL16 (by omega)
       replace FM:=(FM.on bQ)
       replace BB:=BB.trans (bQ.mono BB.size)
       clear bQ hX egg78 e a
       refine rs_ 3 (fun a e=>?_)
       refine stepFmM (x:=y) (t:=0) (l:=1) (q:=fun _=>((j:Nat):Int)) rfl rfl rfl (e _) (e _) FM (by omega) Fg78 ⟨_,_,rfl⟩ (by show T+k+1<=_; omega) (BB).size fun v79 X18 fm' gr=>⟨_,⟨_,rfl,rfl⟩,eqw ?_⟩
       obtain ⟨BB,FMv79⟩:Below X6.heap.size X6 X18/\(FmI X6.heap.size 2 (updX (y) 0 v79) (updD (fun _=>T+k) 0 1) (updG (ffT m J) 0 (catI ((fun _=>T+k) 0) (ffT m J 0) (fun _=>((j:Nat):Int)))) X18):=⟨(BB).grown gr (BB).size (fun k_ hk_=>((FM.rows 0 (by omega)).lt k_ hk_).1),fm'⟩
       clear FM Fg78 e a
       refine rf_ [(13,v79)] (h9_ t0 t1 t2 t3 t11 t14 t15 t16 t17) ?_
       rintro a A ⟨t13,-⟩ ⟨t0,t1,t2,t3,t11,t14,t15,t16,t17,-⟩
       have FM1:FmI X6.heap.size 2 (updX y 0 v79) (updD (fun _=>T+k) 0 1) (ffT m J) X18:=FmI.app1 FMv79 (ffT_0 ltj eT ezj ltk)
       clear FMv79
       obtain ⟨g82,egg82⟩:∃ z_:Nat,X18.heap.size=z_:=⟨_,rfl⟩
       refine wi_ A (h10_ t0 t1 t2 t3 t11 t13 t14 t15 t16 t17) (rs_ 2 (fun a e=>?_))
       refine stepV rfl rfl (execBsI (z:=((T:Nat):Int)) rfl (e _)) ⟨.slice (some ⟨g82,0,none⟩) 1 1,⟨_,rfl,by subst egg82; rfl⟩,fun X19_1 hX=>?_⟩
       have bQ:Below X18.heap.size X18 X19_1:=by subst hX egg82; exact (belNew X18 _)
       have Fg82:(SliceI X19_1 (.slice (some ⟨g82,0,none⟩) 1 1) (1) (fun _=>((T:Nat):Int))):=by subst hX egg82; exact oneI X18 (by omega)
       replace FM1:=(FM1.on bQ)
       replace BB:=BB.trans (bQ.mono BB.size)
       clear bQ hX egg82 e a
       refine rs_ 3 (fun a e=>?_)
       refine stepFmM (x:=updX y 0 v79) (t:=1) (l:=1) (q:=fun _=>((T:Nat):Int)) rfl rfl rfl (e _) (e _) FM1 (by omega) Fg82 ⟨_,_,rfl⟩ (by show T+k+1<=_; omega) (BB).size fun v83 X19 fm' gr=>⟨_,⟨_,rfl,rfl⟩,eqw ?_⟩
       obtain ⟨BB,FMv83⟩:Below X6.heap.size X6 X19/\(FmI X6.heap.size 2 (updX (updX y 0 v79) 1 v83) (updD (updD (fun _=>T+k) 0 1) 1 1) (updG (ffT m J) 1 (catI ((updD (fun _=>T+k) 0 1) 1) (ffT m J 1) (fun _=>((T:Nat):Int)))) X19):=⟨(BB).grown gr (BB).size (fun k_ hk_=>((FM1.rows 1 (by omega)).lt k_ hk_).1),fm'⟩
       clear FM1 Fg82 e a
       refine rf_ [(14,v83)] (h9_ t0 t1 t2 t3 t11 t13 t15 t16 t17) ?_
       rintro a A ⟨t14,-⟩ ⟨t0,t1,t2,t3,t11,t13,t15,t16,t17,-⟩
       have FM2:(FmI X6.heap.size 2 (updX (updX y 0 v79) 1 v83) (fun _=>T+(k+1)) (ffT m J) X19):=FmI.cgN (FmI.app1 FMv83 (ffT_1 ltj eT ezj ltk)) nn_two
       clear FMv83
       refine wi_ A (h10_ t0 t1 t2 t3 t11 t13 t14 t15 t16 t17) (rv_ 1 (.int .i64 ((k+1:Nat):Int)) (fun a e=>execAd8 (p:=k) (q:=1) rfl (e _) rfl (by omega)) (rf_ [(17,.int .i64 ((k+1:Nat):Int))] (h9_ t0 t1 t2 t3 t11 t13 t14 t15 t16) ?_))
       rintro a A ⟨t17,-⟩ ⟨t0,t1,t2,t3,t11,t13,t14,t15,t16,-⟩
       exact ⟨⟨k+1,updX (updX y 0 v79) 1 v83,ltk,A,t0,t1,t2,t3,t11,t13,t14,t15,t16,t17,BB,FM2⟩,by show sj - (intOf (a.eval (.tmp 17))).toNat < sj - (intOf (Act.eval _ (.tmp 17))).toNat; rw [t17,esk]; show sj - (k+1) < sj - k; omega⟩
      ·rw [decide_eq_false ltk] at t73
       refine wp_cond_false t73 ?_
       refine wp_exit ?_
       first | with_reducible refine exit_in ?_ | with_reducible refine exit_then (exit_in ?_) | with_reducible refine exit_then (exit_then (exit_in ?_)) | refine exit_in ?_ | refine exit_then (exit_in ?_) | refine exit_then (exit_then (exit_in ?_))
       clear t73 esk
       have hks:k=sj:=by omega
       have FM3:(FmI X6.heap.size 2 (y) (fun _=>sumN (szF m J) (j+1)) (ffT m J) XL16):=by have h_:=FM; rw [hks,← eT,← ezj] at h_; exact h_
       clear FM t16 t17
       refine wi_ A (h8_ t0 t1 t2 t3 t11 t13 t14 t15) (rv_ 1 (.int .i64 ((j+1:Nat):Int)) (fun a e=>execAd8 (p:=j) (q:=1) rfl (e _) rfl (by omega)) (rf_ [(15,.int .i64 ((j+1:Nat):Int))] (h7_ t0 t1 t2 t3 t11 t13 t14) ?_))
       rintro a A ⟨t15,-⟩ ⟨t0,t1,t2,t3,t11,t13,t14,-⟩
       exact ⟨⟨j+1,y,ltj,A,t0,t1,t2,t3,t11,t13,t14,t15,BB,FM3⟩,by show J - (intOf (a.eval (.tmp 15))).toNat < J - (intOf (Act.eval _ (.tmp 15))).toNat; rw [t15,esj]; show J - (j+1) < J - j; omega⟩
     ·rw [decide_eq_false ltj] at t62
      refine wp_cond_false t62 ?_
      refine wp_exit ?_
      first | with_reducible refine exit_in ?_ | with_reducible refine exit_then (exit_in ?_) | with_reducible refine exit_then (exit_then (exit_in ?_)) | refine exit_in ?_ | refine exit_then (exit_in ?_) | refine exit_then (exit_then (exit_in ?_))
      clear t62 esj
      have hjJ:j=J:=by omega
      rw [hjJ,hsm] at FM
      clear t15
      obtain ⟨co,eco⟩:∃ v_,x 0=v_:=⟨_,rfl⟩
      obtain ⟨so,eso⟩:∃ v_,x 1=v_:=⟨_,rfl⟩
      rw [eco] at t13
      rw [eso] at t14
      have FA:SliceI XL12 co m (ffT m J 0):=eco ▸ own_ints (FM.rows 0 (by omega)) (ffT_fits0 h1 h2)
      have FA2:SliceI XL12 so m (ffT m J 1):=eso ▸ own_ints (FM.rows 1 (by omega)) (ffT_fits1 hN h1)
      clear FM
      replace FP:=(FP.on BB)
      replace FW:=(FW.on BB)
      replace F11:=(on9 F11 BB)
      replace Fz:=(Fz.on BB)
      replace Fw:=(Fw.on BB)
      replace BW:=BW.trans (BB.mono BW.size)
      clear BB
      have BB:Below XL12.heap.size XL12 XL12:=Below.refl _ _
      refine wp_seq ?_
      obtain ⟨g85,egg85⟩:∃ z_:Nat,XL12.heap.size=z_:=⟨_,rfl⟩
      refine wi_ A (h7_ t0 t1 t2 t3 t11 t13 t14) (rs_ 1 (fun a e=>?_))
      refine stepV rfl rfl (execMkI rfl (e _) (by omega)) ⟨.slice (some ⟨g85,0,none⟩) 0 m,⟨_,rfl,by subst egg85; rfl⟩,fun X20 hX=>?_⟩
      have bQ:Below XL12.heap.size XL12 X20:=by subst hX egg85; exact (belNew XL12 _)
      have FP1:(X20.ownsRow XL12.heap.size 3 1 (.slice (some ⟨g85,0,none⟩) 0 m) 0 (intsL 0 (wCI J m (gN wf)))):=by subst hX egg85; exact ownD_base (own_mkI XL12 m _ (by omega)) (BB).size
      replace BB:=BB.trans (bQ.mono BB.size)
      clear bQ hX egg85 e a
      refine rf_ [(18,.slice (some ⟨g85,0,none⟩) 0 m)] (h7_ t0 t1 t2 t3 t11 t13 t14) ?_
      rintro a A ⟨t18,-⟩ ⟨t0,t1,t2,t3,t11,t13,t14,-⟩
      refine wp_seq ?_
      obtain ⟨g87,egg87⟩:∃ z_:Nat,X20.heap.size=z_:=⟨_,rfl⟩
      refine wi_ A (h8_ t0 t1 t2 t3 t11 t13 t14 t18) (rs_ 1 (fun a e=>?_))
      refine stepV rfl rfl (execMkLI rfl (e _) (e _) (by omega)) ⟨.slice (some ⟨g87,0,none⟩) J J,⟨_,rfl,by subst egg87; rfl⟩,fun X21 hX=>?_⟩
      have bQ:Below X20.heap.size X20 X21:=by subst hX egg87; exact (belNew X20 _)
      have FT:(X21.ownsRow XL12.heap.size 24 1 (.slice (some ⟨g87,0,none⟩) J J) J (lL (fun _=>.slice none 0 0) J)):=by subst hX egg87; exact ownD_base (own_mkLI X20 J (by omega)) (BB).size
      have FTg:(XL12.heap.size<=g87):=by subst hX egg87; exact (BB).size
      replace FP1:=(ownD_below FP1 bQ)
      replace BB:=BB.trans (bQ.mono BB.size)
      clear bQ hX egg87 e a
      refine rf_ [(19,.slice (some ⟨g87,0,none⟩) J J)] (h8_ t0 t1 t2 t3 t11 t13 t14 t18) ?_
      rintro a A ⟨t19,-⟩ ⟨t0,t1,t2,t3,t11,t13,t14,t18,-⟩
      refine wp_seq (wp_seq ?_)
      refine wi_ A (h9_ t0 t1 t2 t3 t11 t13 t14 t18 t19) (rf_ [(20,.int .i64 ((0:Nat):Int))] (h9_ t0 t1 t2 t3 t11 t13 t14 t18 t19) ?_)
      rintro a A ⟨t20,-⟩ ⟨t0,t1,t2,t3,t11,t13,t14,t18,t19,-⟩
      have FM:(FmI XL12.heap.size (J+1) (updX (fun _=>.slice none 0 0) J (.slice (some ⟨g85,0,none⟩) 0 m)) (nnP (wC (szF m J) J (gN wf)) J 0) (ffP J m (gN wf)) X21):=fmP0 FP1
      have FT0:(X21.ownsRow XL12.heap.size 24 1 (.slice (some ⟨g87,0,none⟩) J J) J (lL (updX (fun _=>.slice none 0 0) J (.slice (some ⟨g85,0,none⟩) 0 m)) J)):=by rw [lL_upJ]; exact FT
      clear FT FP1
      have FT:=FT0
      clear FT0
      replace t18:a.eval (.tmp 18)=(updX (fun _=>.slice none 0 0) J (.slice (some ⟨g85,0,none⟩) 0 m)) J:=t18.trans (updX_at _ _ _).symm
      refine wp_block ?_
      refine wp_loop (fun a W=>∃ (i:Nat) (y:Nat->Value),i<=m/\(a.tmps.size=197/\a.defers=[])/\a.eval (.tmp 0)=pv/\a.eval (.tmp 1)=.int .i64 ((m:Nat):Int)/\a.eval (.tmp 2)=.int .i64 ((J:Nat):Int)/\a.eval (.tmp 3)=wv/\a.eval (.tmp 11)=.pointer (some ⟨g11,0,none⟩)/\a.eval (.tmp 13)=co/\a.eval (.tmp 14)=so/\a.eval (.tmp 18)=y J/\a.eval (.tmp 19)=.slice (some ⟨g87,0,none⟩) J J/\a.eval (.tmp 20)=.int .i64 ((i:Nat):Int)/\Below XL12.heap.size XL12 W/\(W.ownsRow XL12.heap.size 24 1 (.slice (some ⟨g87,0,none⟩) J J) J (lL (y) J))/\(FmI XL12.heap.size (J+1) (y) (nnP (wC (szF m J) J (gN wf)) J i) (ffP J m (gN wf)) W)) (fun a _=>m - (intOf (a.eval (.tmp 20))).toNat) ⟨0,updX (fun _=>.slice none 0 0) J (.slice (some ⟨g85,0,none⟩) 0 m),Nat.zero_le _,A,t0,t1,t2,t3,t11,t13,t14,t18,t19,t20,BB,FT,FM⟩ ?_
      rintro a XL23 ⟨i,y,hi,A,t0,t1,t2,t3,t11,t13,t14,t18,t19,t20,BB,FT,FM⟩
      have esi:=t20
      refine wp_seq (wp_seq ?_)
      refine wi_ A (h10_ t0 t1 t2 t3 t11 t13 t14 t18 t19 t20) (rv_ 2 (.bool (decide (i < m))) (fun a e=>execLtW (p:=i) (q:=m) rfl (e _) (e _)) (rf_ [(90,.bool (decide (i < m)))] (h10_ t0 t1 t2 t3 t11 t13 t14 t18 t19 t20) ?_))
      rintro a A ⟨t90,-⟩ ⟨t0,t1,t2,t3,t11,t13,t14,t18,t19,t20,-⟩
      by_cases lti:i < m
      ·rw [decide_eq_true lti] at t90
       refine wp_cond_true t90 (wp_skip ?_)
       clear t90
       refine wp_seq (wp_block ?_)
       obtain ⟨wwb,wwo,wwc,eww,hwwb,hwwc⟩:=open_sl FW (by omega)
       have cww:∀ k,k < m->∀ X,Below XL12.heap.size XL12 X->X.cell? ⟨wwb,wwo+k,none⟩=some (.int .i64 ((wf) k)):=fun k hk X hX=>by rw [cell_below hX hwwb]; exact hwwc k hk
       obtain ⟨hhb,hho,hhc,ehh,hhhb,hhhc⟩:=open_sl FA (by omega)
       have chh:∀ k,k < m->∀ X,Below XL12.heap.size XL12 X->X.cell? ⟨hhb,hho+k,none⟩=some (.int .i64 ((ffT m J 0) k)):=fun k hk X hX=>by rw [cell_below hX hhhb]; exact hhhc k hk
       obtain ⟨stb,sto,stc,est,hstb,hstc⟩:=open_sl FA2 (by omega)
       have cst:∀ k,k < m->∀ X,Below XL12.heap.size XL12 X->X.cell? ⟨stb,sto+k,none⟩=some (.int .i64 ((ffT m J 1) k)):=fun k hk X hX=>by rw [cell_below hX hstb]; exact hstc k hk
       obtain ⟨c,ec⟩:∃ c,wC (szF m J) J (gN wf) i=c:=⟨_,rfl⟩
       obtain ⟨hcJ,hcl,hch⟩:=wC_in hsm hw lti
       rw [ec] at hcJ hcl hch
       have hwN:=hw.lt i lti
       obtain ⟨wi,ew⟩:∃ x,gN wf i=x:=⟨_,rfl⟩
       rw [ew] at hcl hch hwN
       have ec2:pj (szF m J) wi J=c:=by rw [← ew]; exact ec
       have hci:=Brd.cnt_le (wC (szF m J) J (gN wf)) c i
       refine wp_seq ?_
       refine wi_ A (h10_ t0 t1 t2 t3 t11 t13 t14 t18 t19 t20) (rv_ 3 (.pointer (some ⟨wwb,wwo+i,none⟩)) (fun a e=>execIdxN (k:=i) rfl ((e _).trans eww) (e _) lti) (rv_ 4 (.int .i64 ((wi:Nat):Int)) (fun a e=>execLd3 rfl (e _) ((cww i lti XL23 BB).trans (by rw [hwv i lti,ew]))) (rv_ 5 (.pointer (some ⟨hhb,hho+wi,none⟩)) (fun a e=>execIdxN (k:=wi) rfl ((e _).trans ehh) (e _) hwN) (rv_ 6 (.int .i64 ((c:Nat):Int)) (fun a e=>execLd3 rfl (e _) ((chh wi hwN XL23 BB).trans (by rw [← ec2]; rfl))) (rf_ [(21,.int .i64 ((c:Nat):Int))] (h10_ t0 t1 t2 t3 t11 t13 t14 t18 t19 t20) ?_)))))
       rintro a A ⟨t21,-⟩ ⟨t0,t1,t2,t3,t11,t13,t14,t18,t19,t20,-⟩
       refine wp_seq ?_
       obtain ⟨g102,egg102⟩:∃ z_:Nat,XL23.heap.size=z_:=⟨_,rfl⟩
       refine wi_ A (h11_ t0 t1 t2 t3 t11 t13 t14 t18 t19 t20 t21) (rs_ 2 (fun a e=>?_))
       refine stepV rfl rfl (execBsI (z:=((c:Nat):Int)) rfl (e _)) ⟨.slice (some ⟨g102,0,none⟩) 1 1,⟨_,rfl,by subst egg102; rfl⟩,fun X26_1 hX=>?_⟩
       have bQ:Below XL23.heap.size XL23 X26_1:=by subst hX egg102; exact (belNew XL23 _)
       have Fg102:(SliceI X26_1 (.slice (some ⟨g102,0,none⟩) 1 1) (1) (fun _=>((c:Nat):Int))):=by subst hX egg102; exact oneI XL23 (by omega)
       replace FT:=(ownD_below FT bQ)
       replace FM:=(FM.on bQ)
       replace BB:=BB.trans (bQ.mono BB.size)
       clear bQ hX egg102 e a
       refine rs_ 3 (fun a e=>?_)
       refine stepFmM (x:=y) (t:=J) (l:=1) (q:=fun _=>((c:Nat):Int)) rfl rfl rfl (e _) (e _) FM (by omega) Fg102 ⟨_,_,rfl⟩ (by rw [nnP_J]; omega) (BB).size fun v103 X26 fm' gr=>⟨_,⟨_,rfl,rfl⟩,eqw ?_⟩
       obtain ⟨BB,FT,FM1⟩:Below XL12.heap.size XL12 X26/\(X26.ownsRow XL12.heap.size 24 1 (.slice (some ⟨g87,0,none⟩) J J) J (lL (y) J))/\(FmI XL12.heap.size (J+1) (updX y J v103) (updD (nnP (wC (szF m J) J (gN wf)) J i) J 1) (updG (ffP J m (gN wf)) J (catI (nnP (wC (szF m J) J (gN wf)) J i J) (ffP J m (gN wf) J) (fun _=>((c:Nat):Int)))) X26):=⟨(BB).grown gr (BB).size (fun k_ hk_=>((FM.rows J (by omega)).lt k_ hk_).1),(own_overT FT (FM.rows J (by omega)) gr (by decide)),fm'⟩
       clear FM Fg102 e a
       refine rf_ [(18,v103)] (h10_ t0 t1 t2 t3 t11 t13 t14 t19 t20 t21) ?_
       rintro a A ⟨t18,-⟩ ⟨t0,t1,t2,t3,t11,t13,t14,t19,t20,t21,-⟩
       have FM2:FmI XL12.heap.size (J+1) (updX y J v103) (updD (nnP (wC (szF m J) J (gN wf)) J i) J 1) (ffP J m (gN wf)) X26:=FmI.app1 FM1 (by rw [nnP_J,ffP_J]; show _=((_:Nat):Int); rw [ec])
       have FT1:(X26.ownsRow XL12.heap.size 24 1 (.slice (some ⟨g87,0,none⟩) J J) J (lL (updX y J v103) J)):=by rw [lL_upJ]; exact FT
       clear FM1 FT
       replace t18:a.eval (.tmp 18)=(updX y J v103) J:=t18.trans (updX_at _ _ _).symm
       obtain ⟨z,ez⟩:∃ z,updX y J v103=z:=⟨_,rfl⟩
       rw [ez] at FM2 FT1 t18
       have FM:=FM2
       have FT:=FT1
       clear FM2 FT1
       refine wj_ [0,1,2,3,4,5,6,7,8,9,10,11,12,13,14,15,16,17,18,19,20,21] [18,19,21] [5,9,14,16] [19,21] A (h11_ t0 t1 t2 t3 t11 t13 t14 t18 t19 t20 t21) (fun X27_0 bD=>?_)
       obtain ⟨g122,egg122⟩:∃ z_:Nat,X27_0.heap.size=z_:=⟨_,rfl⟩
       refine dw_ 4 (.pointer (some ⟨g87,0+c,none⟩)) (fun a X e=>execIdxLI (k:=c) rfl (e _) (e _) hcJ) (dv_ 5 (z c) (fun a X e hb=>execLdLI (v:=z c) rfl (e _) (ownL_cellI (ownD_below FT hb) hcJ)) (dw_ 8 (.pointer (some ⟨wwb,wwo+i,none⟩)) (fun a X e=>execIdxN (k:=i) rfl ((e _).trans eww) (e _) lti) (dv_ 9 (.int .i64 ((wi:Nat):Int)) (fun a X e hb=>execLd3 rfl (e _) ((cww i lti X (BB.trans (hb.mono BB.size))).trans (by rw [hwv i lti,ew]))) (dw_ 13 (.pointer (some ⟨wwb,wwo+i,none⟩)) (fun a X e=>execIdxN (k:=i) rfl ((e _).trans eww) (e _) lti) (dv_ 14 (.int .i64 ((wi:Nat):Int)) (fun a X e hb=>execLd3 rfl (e _) ((cww i lti X (BB.trans (hb.mono BB.size))).trans (by rw [hwv i lti,ew]))) (dw_ 15 (.pointer (some ⟨stb,sto+wi,none⟩)) (fun a X e=>execIdxN (k:=wi) rfl ((e _).trans est) (e _) hwN) (dv_ 16 (.int .i64 ((sumN (szF m J) c:Nat):Int)) (fun a X e hb=>execLd3 rfl (e _) ((cst wi hwN X (BB.trans (hb.mono BB.size))).trans (by rw [← ec2]; rfl))) (dw_ 17 (.int .i64 ((wi - (sumN (szF m J) c):Nat):Int)) (fun a X e=>By8.execSubI (p:=wi) (q:=sumN (szF m J) c) rfl (e _) (e _) (by omega) (by omega)) (ds_ 18 (fun a e=>?_))))))))))
       refine stepV rfl rfl (execBsI (z:=((wi - sumN (szF m J) c:Nat):Int)) rfl (e _)) ⟨.slice (some ⟨g122,0,none⟩) 1 1,⟨_,rfl,by subst egg122; rfl⟩,fun X27_1 hX=>?_⟩
       have bQ:Below X27_0.heap.size X27_0 X27_1:=by subst hX egg122; exact (belNew X27_0 _)
       have Fg122:(SliceI X27_1 (.slice (some ⟨g122,0,none⟩) 1 1) (1) (fun _=>((wi - sumN (szF m J) c:Nat):Int))):=by subst hX egg122; exact oneI X27_0 (by omega)
       replace bD:=bD.trans (bQ.mono bD.size)
       clear bQ hX egg122 e a
       refine ⟨Or.inr bD,?_⟩
       refine ds_ 19 (fun a e=>?_)
       refine stepFmM (x:=z) (t:=c) (l:=1) (q:=fun _=>((wi - sumN (szF m J) c:Nat):Int)) rfl rfl rfl (e _) (e _) (FM.on bD) (by omega) Fg122 ⟨_,_,rfl⟩ (by rw [nnP_c hcJ]; omega) ((BB.trans (bD.mono BB.size))).size fun v123 X27_2 fm' gr=>⟨_,⟨_,rfl,rfl⟩,eqw ?_⟩
       obtain ⟨BB,FT,FM3⟩:Below XL12.heap.size XL12 X27_2/\(X27_2.ownsRow XL12.heap.size 24 1 (.slice (some ⟨g87,0,none⟩) J J) J (lL (z) J))/\(FmI XL12.heap.size (J+1) (updX z c v123) (updD (updD (nnP (wC (szF m J) J (gN wf)) J i) J 1) c 1) (updG (ffP J m (gN wf)) c (catI ((updD (nnP (wC (szF m J) J (gN wf)) J i) J 1) c) (ffP J m (gN wf) c) (fun _=>((wi - sumN (szF m J) c:Nat):Int)))) X27_2):=⟨((BB.trans (bD.mono BB.size))).grown gr ((BB.trans (bD.mono BB.size))).size (fun k_ hk_=>(((FM.on bD).rows c (by omega)).lt k_ hk_).1),(own_overT (ownD_below FT bD) ((FM.on bD).rows c (by omega)) gr (by decide)),fm'⟩
       clear bD FM Fg122 e a
       refine ⟨Or.inl rfl,?_⟩
       refine dw_ 20 (.pointer (some ⟨g87,0+c,none⟩)) (fun a X e=>execIdxLI (k:=c) rfl (e _) (e _) hcJ) (ds_ 21 (fun a e=>?_))
       obtain ⟨hc_,hf_⟩:=ownL_cell2 FT hcJ
       refine stepS rfl rfl (execStLI rfl (e _) (e _) (by have h_:=Brd.shp3 (FM3.rows c (by omega)); rw [updX_at] at h_; exact h_) hc_ hf_) ⟨_,⟨_,rfl,rfl⟩,fun X27 hX=>?_⟩
       obtain ⟨BB,FM3,FT2⟩:Below XL12.heap.size XL12 X27/\(FmI XL12.heap.size (J+1) (updX z c v123) (updD (updD (nnP (wC (szF m J) J (gN wf)) J i) J 1) c 1) (updG (ffP J m (gN wf)) c (catI ((updD (nnP (wC (szF m J) J (gN wf)) J i) J 1) c) (ffP J m (gN wf) c) (fun _=>((wi - sumN (szF m J) c:Nat):Int)))) X27)/\(X27.ownsRow XL12.heap.size 24 1 (.slice (some ⟨g87,0,none⟩) J J) J (lL (updX z c v123) J)):=by subst hX; exact ⟨(BB).setCell FTg _,(Brd.FmI.offT FM3 (own_cur FT).choose_spec.1 (by decide)),ownL_setI FT⟩
       clear FT hX e a
       refine ⟨Or.inl rfl,?_⟩
       refine dz_ [] (h10_ t0 t1 t2 t3 t11 t13 t14 t18 t19 t20) ?_
       rintro a A - ⟨t0,t1,t2,t3,t11,t13,t14,t18,t19,t20,-⟩
       have FM4:(FmI XL12.heap.size (J+1) (updX z c v123) (nnP (wC (szF m J) J (gN wf)) J (i+1)) (ffP J m (gN wf)) X27):=FmI.cgN (FmI.app1 FM3 (by rw [nnP_c hcJ,ffP_c hcJ]; exact wO_z ec ew lti)) (fun t ht=>nnP_up ec hcJ)
       clear FM3
       replace t18:a.eval (.tmp 18)=(updX z c v123) J:=t18.trans (updX_o z v123 (by omega)).symm
       refine wi_ A (h10_ t0 t1 t2 t3 t11 t13 t14 t18 t19 t20) (rv_ 1 (.int .i64 ((i+1:Nat):Int)) (fun a e=>execAd8 (p:=i) (q:=1) rfl (e _) rfl (by omega)) (rf_ [(20,.int .i64 ((i+1:Nat):Int))] (h9_ t0 t1 t2 t3 t11 t13 t14 t18 t19) ?_))
       rintro a A ⟨t20,-⟩ ⟨t0,t1,t2,t3,t11,t13,t14,t18,t19,-⟩
       exact ⟨⟨i+1,updX z c v123,lti,A,t0,t1,t2,t3,t11,t13,t14,t18,t19,t20,BB,FT2,FM4⟩,by show m - (intOf (a.eval (.tmp 20))).toNat < m - (intOf (Act.eval _ (.tmp 20))).toNat; rw [t20,esi]; show m - (i+1) < m - i; omega⟩
      ·rw [decide_eq_false lti] at t90
       refine wp_cond_false t90 ?_
       refine wp_exit ?_
       first | with_reducible refine exit_in ?_ | with_reducible refine exit_then (exit_in ?_) | with_reducible refine exit_then (exit_then (exit_in ?_)) | refine exit_in ?_ | refine exit_then (exit_in ?_) | refine exit_then (exit_then (exit_in ?_))
       clear t90 esi
       have him:i=m:=by omega
       rw [him] at FM
       have FPa0:SliceI XL23 (y J) m (wCI J m (gN wf)):=own_ints (fmP_J FM) (wCI_fits h1 h2 hw)
       have FLL:LLI XL23 (.slice (some ⟨g87,0,none⟩) J J) J y (szF m J) (wOI J m (gN wf)):=lli_of (FmI.cgN (fmP_first FM) (fun t ht=>hpt.cnt t ht)) FT (wOI_fits hN h1 hw)
       obtain ⟨pa,epa⟩:∃ v_,y J=v_:=⟨_,rfl⟩
       rw [epa] at t18 FPa0
       have FPa:=FPa0
       clear FM FT FPa0 t3 t13 t14 t20
       replace FP:=(FP.on BB)
       replace FW:=(FW.on BB)
       replace F11:=(on9 F11 BB)
       replace Fz:=(Fz.on BB)
       replace Fw:=(Fw.on BB)
       replace FA:=(FA.on BB)
       replace FA2:=(FA2.on BB)
       replace BW:=BW.trans (BB.mono BW.size)
       clear BB
       clear FA FA2 FW
       refine wp_seq ?_
       refine wi_ A (h6_ t0 t1 t2 t11 t18 t19) (rc_ 2 (rspl0 p L J _ XL23 FP hl hL18 h1 h2) fun e X28_1 hh=>?_)
       obtain ⟨nv,bv,cv,xs,he,hk,hb⟩:=hh
       refine ⟨_,he,?_⟩
       have bQ:Below XL23.heap.size XL23 X28_1:=hb
       have FPT:(PtS X28_1 V.heap.size J nv bv cv xs 18 (lb L) (lq L J) p):=hk.base (Nat.le_trans BW.size ((Below.refl XL23.heap.size XL23)).size)
       have bX:=bQ
       clear bQ
       obtain ⟨g22,egg22⟩:∃ z_:Nat,X28_1.heap.size=z_:=⟨_,rfl⟩
       refine rs_ 6 (fun a e=>?_)
       refine stepV rfl rfl (execAllPt rfl) ⟨.pointer (some ⟨g22,0,none⟩),⟨_,rfl,by subst egg22; rfl⟩,fun X28_2 hX=>?_⟩
       have bQ:Below X28_1.heap.size X28_1 X28_2:=by subst hX egg22; exact (belNew X28_1 _)
       have F22:X28_2.heap[g22]?=some (.cells (ptC (.slice none 0 0) (.slice none 0 0) (.slice none 0 0)) 55):=by subst hX egg22; exact heapNew X28_1 _
       have Fge22:(XL23.heap.size<=g22):=by subst hX egg22; exact (bX).size
       replace FPT:=(FPT.on bQ)
       replace bX:=bX.trans (bQ.mono bX.size)
       clear bQ hX egg22 e a
       refine rs_ 7 (fun a e=>?_)
       refine stepS rfl rfl (execStPt rfl (e _) (e _) F22 rfl (pts_one FPT)) ⟨_,⟨_,rfl,rfl⟩,fun X28 hX=>?_⟩
       obtain ⟨bX,FPT,F22⟩:Below XL23.heap.size XL23 X28/\(PtS X28 V.heap.size J nv bv cv xs 18 (lb L) (lq L J) p)/\X28.heap[g22]?=some (.cells (ptC nv bv cv) 55):=by rw [hX]; exact ⟨below4 bX Fge22 _,(FPT.set F22 (by decide) (by decide)),setRow_heap _ _ _ _ _ _ F22⟩
       clear hX e a
       refine rf_ [(22,.pointer (some ⟨g22,0,none⟩))] (h6_ t0 t1 t2 t11 t18 t19) ?_
       rintro a A ⟨t22,-⟩ ⟨t0,t1,t2,t11,t18,t19,-⟩
       replace FP:=(FP.on bX)
       replace F11:=(on9 F11 bX)
       replace Fz:=(Fz.on bX)
       replace Fw:=(Fw.on bX)
       replace FPa:=(FPa.on bX)
       replace FLL:=(FLL.on bX)
       have ZX28:=bX.size
       replace BW:=BW.trans (bX.mono BW.size)
       clear bX
       have hpb:∀ j,j < L->p j < 256:=FP.bytes
       have FBv:SliceN X28 bv (lb L) (brP p):=pts_br FPT hL18 hpb
       have FCv:LLB X28 cv J xs (lq L J) (ckP L J p):=pts_ck FPT hL18 hpb
       have hlb:lb L<=140737488351232:=by unfold lb; omega
       have hlq3:=lq_le L (J:=J) hL18
       have hlq:lq L J<=140737488351232:=by have h3:1 * lq L J<=J * lq L J:=Nat.mul_le_mul_right _ h1; omega
       have hzb:∀ l c,bv=.slice none l c->c=0:=own_nilB FPT.rowB
       have hzn:∀ l c,nv=.slice none l c->c=0:=own_nilB FPT.rowN
       have FNv:SliceN X28 nv 18 p:=pts_nz FPT hL18 hpb
       clear FPT
       refine wp_seq ?_
       refine wi_ A (h7_ t0 t1 t2 t11 t18 t19 t22) (rv_ 0 (.pointer (some ⟨g11,0,none⟩)) (fun a e=>execFldLd0 rfl (e _)) (rv_ 1 (sv) (fun a e=>execLdLI (v:=sv) rfl (e _) (ak_at0 F11)) (rv_ 3 (.pointer (some ⟨g11,2,none⟩)) (fun a e=>execFldLd2 rfl (e _)) (rv_ 4 (fv) (fun a e=>execLdLI (v:=fv) rfl (e _) (ak_at2 F11)) (rc_ 5 (rdw0 (sI m J) (wCI J m (gN wf)) (poF (sI m J) J (dQ (brP p) (lb L) m) m) J m m _ _ _ X28 Fz (by omega) FPa (by omega) Fw (dr_okB hN h1 h2 hok.br hw)) fun e X29 hh=>?_)))))
       obtain ⟨d_,he,hk,hb⟩:=hh
       refine ⟨_,he,?_⟩
       have bQ:Below X28.heap.size X28 X29:=hb
       have Fd:(SliceI X29 d_ (m) (bW L J m (szF m J) p (gN wf))):=hk
       have bX:=bQ
       clear bQ
       refine rf_ [(24,d_)] (h6_ t0 t1 t2 t11 t19 t22) ?_
       rintro a A ⟨t24,-⟩ ⟨t0,t1,t2,t11,t19,t22,-⟩
       replace FP:=(FP.on bX)
       replace F11:=(on9 F11 bX)
       replace Fz:=(Fz.on bX)
       replace Fw:=(Fw.on bX)
       replace FPa:=(FPa.on bX)
       replace FLL:=(FLL.on bX)
       replace F22:=(on9 F22 bX)
       replace FBv:=(FBv.on bX)
       replace FCv:=(FCv.on bX)
       replace FNv:=(FNv.on bX)
       have ZX29:=bX.size
       replace BW:=BW.trans (bX.mono BW.size)
       clear bX
       refine wp_seq ?_
       refine wj_ [0,1,2,4,3,5,6,7,8,9,10] [3,5] [1] [] A (h7_ t0 t1 t2 t11 t19 t22 t24) (fun X30_0 bD=>?_)
       refine dw_ 0 (.pointer (some ⟨g22,1,none⟩)) (fun a X e=>execPt1 rfl (e _)) (dv_ 1 (bv) (fun a X e hb=>execLdL rfl (e _) (ptC_at (on9 F22 hb)).2.1) (dc_ 3 (rbd hN X30_0) fun e X30_1 hh=>?_))
       obtain ⟨b_,he,hk,hb⟩:=hh
       refine ⟨_,he,?_⟩
       have bQ:Below X30_0.heap.size X30_0 X30_1:=hb
       have Fb:(SliceI X30_1 b_ (m) (bI m)):=hk
       replace bD:=bD.trans (bQ.mono bD.size)
       clear bQ
       refine ⟨Or.inr bD,?_⟩
       refine dc_ 5 (rtu0 (brP p) (lb L) (bI m) (bW L J m (szF m J) p (gN wf)) m _ _ _ X30_1 (FBv.on bD) hlb hzb Fb (by omega) (Fd.on bD) (trE_bI hN (Nat.le_refl _) hok.br (bW_okB hsm hok.br hw))) fun e X30 hh=>?_
       obtain ⟨q_,he,hk,hb⟩:=hh
       refine ⟨_,he,?_⟩
       have bQ:Below X30_1.heap.size X30_1 X30:=hb
       have FQ:(X30.ownsRow V.heap.size 5 1 q_ (lb L) (bytesL (lb L) (tuB L J m (szF m J) p (gN wf)))):=own_base hk (Nat.le_trans BW.size (bD).size)
       replace Fb:=(Fb.on bQ)
       replace bD:=bD.trans (bQ.mono bD.size)
       clear bQ
       refine ⟨Or.inr bD,?_⟩
       refine dz_ [(26,q_)] (h5_ t0 t2 t11 t19 t22) ?_
       rintro a A ⟨t26,-⟩ ⟨t0,t2,t11,t19,t22,-⟩
       replace FP:=(FP.on bD)
       replace F11:=(on9 F11 bD)
       replace Fz:=(Fz.on bD)
       replace Fw:=(Fw.on bD)
       replace FPa:=(FPa.on bD)
       replace FLL:=(FLL.on bD)
       replace F22:=(on9 F22 bD)
       replace FBv:=(FBv.on bD)
       replace FCv:=(FCv.on bD)
       replace FNv:=(FNv.on bD)
       replace Fd:=(Fd.on bD)
       have ZX30:=bD.size
       replace BW:=BW.trans (bD.mono BW.size)
       clear bD
       have FQ2:SliceN X30 q_ (lb L) (tuB L J m (szF m J) p (gN wf)):=own_slice FQ (fun x hx=>turn_byte hok.br (bW_okB hsm hok.br hw) (fun j hj=>hpb _ (br_in hL18 hj)) hx)
       have hzq:∀ l c,q_=.slice none l c->c=0:=own_nilB FQ
       clear FQ Fb Fd FPa
       have BB:Below X30.heap.size X30 X30:=Below.refl _ _
       refine wp_seq ?_
       obtain ⟨g151,egg151⟩:∃ z_:Nat,X30.heap.size=z_:=⟨_,rfl⟩
       refine wi_ A (h6_ t0 t2 t11 t19 t22 t26) (rv_ 1 (.int .i64 ((L:Nat):Int)) (fun a e=>execLenV (len:=L) rfl (e _) (shp9 (FP.on BB))) (rs_ 2 (fun a e=>?_)))
       refine stepV rfl rfl (execMkB9 rfl (e _) (by omega)) ⟨.slice (some ⟨g151,0,none⟩) 0 L,⟨_,rfl,by subst egg151; rfl⟩,fun X31 hX=>?_⟩
       have bQ:Below X30.heap.size X30 X31:=by subst hX egg151; exact (belNew X30 _)
       have FO:(X31.ownsRow X30.heap.size 5 1 (.slice (some ⟨g151,0,none⟩) 0 L) (0) (bytesL (0) (tuT L J m (szF m J) p (gN wf)))):=by subst hX egg151; exact own_base (own_mkB X30 L _ (by omega)) (BB).size
       replace BB:=BB.trans (bQ.mono BB.size)
       clear bQ hX egg151 e a
       refine rf_ [(28,.slice (some ⟨g151,0,none⟩) 0 L)] (h6_ t0 t2 t11 t19 t22 t26) ?_
       rintro a A ⟨t28,-⟩ ⟨t0,t2,t11,t19,t22,t26,-⟩
       refine wp_seq ?_
       refine wi_ A (h7_ t0 t2 t11 t19 t22 t26 t28) (rv_ 1 (.pointer (some ⟨g22,0,none⟩)) (fun a e=>execPt0 rfl (e _)) (rv_ 2 (nv) (fun a e=>execLdL rfl (e _) (ptC_at (on9 F22 BB)).1) (rs_ 3 (fun a e=>?_))))
       refine stepAppN (n:=0) (m:=18) (p:=tuT L J m (szF m J) p (gN wf)) rfl rfl rfl (e _) (e _) FO (sliceN_cg (FNv.on BB) (fun k hk=>(tu_nz hk).symm)) hzn (by omega) (BB).size fun v155 X32 own' gr=>⟨_,⟨_,rfl,rfl⟩,eqw ?_⟩
       obtain ⟨BB,FO1⟩:Below X30.heap.size X30 X32/\(X32.ownsRow X30.heap.size 5 1 v155 (0+18) (bytesL (0+18) (tuT L J m (szF m J) p (gN wf)))):=⟨(BB).grown gr (BB).size (fun k_ hk_=>(FO.lt k_ hk_).1),own'⟩
       clear FO e a
       refine rf_ [(28,v155)] (h6_ t0 t2 t11 t19 t22 t26) ?_
       rintro a A ⟨t28,-⟩ ⟨t0,t2,t11,t19,t22,t26,-⟩
       refine wp_seq ?_
       refine wi_ A (h7_ t0 t2 t11 t19 t22 t26 t28) (rs_ 2 (fun a e=>?_))
       refine stepAppN (n:=0+18) (m:=lb L) (p:=tuT L J m (szF m J) p (gN wf)) rfl rfl rfl (e _) (e _) FO1 (sliceN_cg (FQ2.on BB) (fun k hk=>(tu_br hk).symm)) hzq (by omega) (BB).size fun v158 X33 own' gr=>⟨_,⟨_,rfl,rfl⟩,eqw ?_⟩
       obtain ⟨BB,FO2⟩:Below X30.heap.size X30 X33/\(X33.ownsRow X30.heap.size 5 1 v158 (0+18+lb L) (bytesL (0+18+lb L) (tuT L J m (szF m J) p (gN wf)))):=⟨(BB).grown gr (BB).size (fun k_ hk_=>(FO1.lt k_ hk_).1),own'⟩
       clear FO1 e a
       refine rf_ [(28,v158)] (h5_ t0 t2 t11 t19 t22) ?_
       rintro a A ⟨t28,-⟩ ⟨t0,t2,t11,t19,t22,-⟩
       have FO:(X33.ownsRow X30.heap.size 5 1 v158 (18+lb L+0 * lq L J) (bytesL (18+lb L+0 * lq L J) (tuT L J m (szF m J) p (gN wf)))):=by have h_:=FO2; rw [show 0+18+lb L=18+lb L+0 * lq L J by omega] at h_; exact h_
       clear FO2
       refine wp_seq (wp_seq ?_)
       refine wi_ A (h6_ t0 t2 t11 t19 t22 t28) (rf_ [(29,.int .i64 ((0:Nat):Int))] (h6_ t0 t2 t11 t19 t22 t28) ?_)
       rintro a A ⟨t29,-⟩ ⟨t0,t2,t11,t19,t22,t28,-⟩
       refine wp_block ?_
       refine wp_loop (fun a W=>∃ (j:Nat) (ov:Value),j<=J/\(a.tmps.size=197/\a.defers=[])/\a.eval (.tmp 0)=pv/\a.eval (.tmp 2)=.int .i64 ((J:Nat):Int)/\a.eval (.tmp 11)=.pointer (some ⟨g11,0,none⟩)/\a.eval (.tmp 19)=.slice (some ⟨g87,0,none⟩) J J/\a.eval (.tmp 22)=.pointer (some ⟨g22,0,none⟩)/\a.eval (.tmp 28)=ov/\a.eval (.tmp 29)=.int .i64 ((j:Nat):Int)/\Below X30.heap.size X30 W/\(W.ownsRow X30.heap.size 5 1 ov (18+lb L+j * lq L J) (bytesL (18+lb L+j * lq L J) (tuT L J m (szF m J) p (gN wf))))) (fun a _=>J - (intOf (a.eval (.tmp 29))).toNat) ⟨0,v158,Nat.zero_le _,A,t0,t2,t11,t19,t22,t28,t29,BB,FO⟩ ?_
       rintro a XL35 ⟨j,ov,hj,A,t0,t2,t11,t19,t22,t28,t29,BB,FO⟩
       have esj:=t29
       refine wp_seq (wp_seq ?_)
       refine wi_ A (h7_ t0 t2 t11 t19 t22 t28 t29) (rv_ 2 (.bool (decide (j < J))) (fun a e=>execLtW (p:=j) (q:=J) rfl (e _) (e _)) (rf_ [(161,.bool (decide (j < J)))] (h7_ t0 t2 t11 t19 t22 t28 t29) ?_))
       rintro a A ⟨t161,-⟩ ⟨t0,t2,t11,t19,t22,t28,t29,-⟩
       by_cases ltj:j < J
       ·rw [decide_eq_true ltj] at t161
        refine wp_cond_true t161 (wp_skip ?_)
        clear t161
        refine wp_seq (wp_block ?_)
        obtain ⟨cb,cc_,cd_,ec,hcb,hcc⟩:=FCv.at (show 0 < J by omega)
        have cC:∀ X,Below X30.heap.size X30 X->X.cell? ⟨cb,cc_+j,none⟩=some (xs j):=fun X hX=>by rw [cell_below hX hcb]; exact hcc j ltj
        obtain ⟨ob,oo,oc,eo,hob,hoc⟩:=FLL.at (show 0 < J by omega)
        have cO:∀ X,Below X30.heap.size X30 X->X.cell? ⟨ob,oo+j,none⟩=some (y j):=fun X hX=>by rw [cell_below hX hob]; exact hoc j ltj
        obtain ⟨zzb,zzo,zzc,ezz,hzzb,hzzc⟩:=open_sl Fz (by omega)
        have czz:∀ k,k < J->∀ X,Below X30.heap.size X30 X->X.cell? ⟨zzb,zzo+k,none⟩=some (.int .i64 ((sI m J) k)):=fun k hk X hX=>by rw [cell_below hX hzzb]; exact hzzc k hk
        obtain ⟨sj,ezj⟩:∃ sj,szF m J j=sj:=⟨_,rfl⟩
        have hsj:sj<=m:=by rw [← ezj]; exact szF_le m ltj
        have hyj:SliceI X30 (y j) sj (wOI J m (gN wf) j):=ezj ▸ FLL.lists j ltj
        have hyE:pE (wOI J m (gN wf) j) sj=0:=ezj ▸ wOI_ok h1 hw ltj
        have hq1:(j+1) * lq L J<=J * lq L J:=Nat.mul_le_mul_right _ ltj
        have hq2:(j+1) * lq L J=j * lq L J+lq L J:=Nat.succ_mul _ _
        have hTE:trE (ckP L J p j) (lq L J) (bI sj) (sj - 1) (kW J m (szF m J) (gN wf) j) (sj - 1)=0:=trE_bI (by omega) (by omega) (ezj ▸ hok.ck j ltj) (by subst ezj; exact kW_ok j)
        refine wp_seq ?_
        refine wi_ A (h7_ t0 t2 t11 t19 t22 t28 t29) (rv_ 2 (.pointer (some ⟨ob,oo+j,none⟩)) (fun a e=>execIdxLI (k:=j) rfl ((e _).trans eo) (e _) ltj) (rv_ 3 (y j) (fun a e=>execLdLI (v:=y j) rfl (e _) (cO XL35 BB)) (rc_ 4 (rdr0 (wOI J m (gN wf) j) sj _ XL35 (hyj.on BB) (by omega) hyE) fun e X37 hh=>?_)))
        obtain ⟨d_,he,hk,hb⟩:=hh
        refine ⟨_,he,?_⟩
        have bQ:Below XL35.heap.size XL35 X37:=hb
        have Fd:(SliceI X37 d_ (sj - 1) (kW J m (szF m J) (gN wf) j)):=(by subst ezj; exact hk)
        replace FO:=(ownsRow_below FO bQ)
        replace BB:=BB.trans (bQ.mono BB.size)
        clear bQ
        refine rf_ [(30,d_)] (h7_ t0 t2 t11 t19 t22 t28 t29) ?_
        rintro a A ⟨t30,-⟩ ⟨t0,t2,t11,t19,t22,t28,t29,-⟩
        refine wp_seq ?_
        refine wj_ [0,1,2,3,4,5,6,7,8,9,11,10,12,13,14,15,16] [10,12] [1,4,6,9] [] A (h8_ t0 t2 t11 t19 t22 t28 t29 t30) (fun X38_0 bD=>?_)
        refine dw_ 0 (.pointer (some ⟨g22,2,none⟩)) (fun a X e=>execPt2 rfl (e _)) (dv_ 1 (cv) (fun a X e hb=>execLdLL rfl (e _) (ptC_at (on9 F22 (BB.trans (hb.mono BB.size)))).2.2) (dw_ 3 (.pointer (some ⟨cb,cc_+j,none⟩)) (fun a X e=>Cf.execIdxL (k:=j) rfl ((e _).trans ec) (e _) ltj) (dv_ 4 (xs j) (fun a X e hb=>execLdL rfl (e _) (cC X (BB.trans (hb.mono BB.size)))) (dw_ 5 (.pointer (some ⟨g11,0,none⟩)) (fun a X e=>execFldLd0 rfl (e _)) (dv_ 6 (sv) (fun a X e hb=>execLdLI (v:=sv) rfl (e _) (ak_at0 (on9 F11 (BB.trans (hb.mono BB.size))))) (dw_ 8 (.pointer (some ⟨zzb,zzo+j,none⟩)) (fun a X e=>execIdxN (k:=j) rfl ((e _).trans ezz) (e _) ltj) (dv_ 9 (.int .i64 ((sj:Nat):Int)) (fun a X e hb=>execLd3 rfl (e _) ((czz j ltj X (BB.trans (hb.mono BB.size))).trans (by rw [← ezj]; rfl))) (dc_ 10 (rpb (show sj<=256 by omega) X38_0) fun e X38_1 hh=>?_))))))))
        obtain ⟨b_,he,hk,hb⟩:=hh
        refine ⟨_,he,?_⟩
        have bQ:Below X38_0.heap.size X38_0 X38_1:=hb
        have Fb:(SliceI X38_1 b_ (sj - 1) (bI sj)):=hk
        replace bD:=bD.trans (bQ.mono bD.size)
        clear bQ
        refine ⟨Or.inr bD,?_⟩
        refine dc_ 12 (rtu0 (ckP L J p j) (lq L J) (bI sj) (kW J m (szF m J) (gN wf) j) (sj - 1) _ _ _ X38_1 ((FCv.lists j ltj).on (BB.trans (bD.mono BB.size))) hlq (FCv.nils j ltj) Fb (by omega) (Fd.on bD) hTE) fun e X38 hh=>?_
        obtain ⟨q2,he,hk,hb⟩:=hh
        refine ⟨_,he,?_⟩
        have bQ:Below X38_1.heap.size X38_1 X38:=hb
        have FQ:(X38.ownsRow X30.heap.size 5 1 q2 (lq L J) (bytesL (lq L J) (tuK L J m (szF m J) p (gN wf) j))):=(by subst ezj; exact own_base hk ((BB.trans (bD.mono BB.size))).size)
        replace bD:=bD.trans (bQ.mono bD.size)
        clear bQ Fb Fd
        refine ⟨Or.inr bD,?_⟩
        refine dz_ [(26,q2)] (h7_ t0 t2 t11 t19 t22 t28 t29) ?_
        rintro a A ⟨t26,-⟩ ⟨t0,t2,t11,t19,t22,t28,t29,-⟩
        replace FO:=(ownsRow_below FO bD)
        replace BB:=BB.trans (bD.mono BB.size)
        clear bD
        refine wi_ A (h8_ t0 t2 t11 t19 t22 t28 t29 t26) (rs_ 2 (fun a e=>?_))
        refine stepAppN (n:=18+lb L+j * lq L J) (m:=lq L J) (p:=tuT L J m (szF m J) p (gN wf)) rfl rfl rfl (e _) (e _) FO (sliceN_cg (own_slice FQ (tuK_byte hL18 hok ltj hpb)) (fun k hk=>(tu_ck ltj hk).symm)) (own_nilB FQ) (by omega) (BB).size fun v190 X39 own' gr=>⟨_,⟨_,rfl,rfl⟩,eqw ?_⟩
        obtain ⟨BB,FO2⟩:Below X30.heap.size X30 X39/\(X39.ownsRow X30.heap.size 5 1 v190 (18+lb L+(j+1) * lq L J) (bytesL (18+lb L+(j+1) * lq L J) (tuT L J m (szF m J) p (gN wf)))):=⟨(BB).grown gr (BB).size (fun k_ hk_=>(FO.lt k_ hk_).1),(by rw [show 18+lb L+(j+1) * lq L J=18+lb L+j * lq L J+lq L J by omega]; exact own')⟩
        clear FO FQ e a
        refine rf_ [(28,v190)] (h6_ t0 t2 t11 t19 t22 t29) ?_
        rintro a A ⟨t28,-⟩ ⟨t0,t2,t11,t19,t22,t29,-⟩
        refine wi_ A (h7_ t0 t2 t11 t19 t22 t28 t29) (rv_ 1 (.int .i64 ((j+1:Nat):Int)) (fun a e=>execAd8 (p:=j) (q:=1) rfl (e _) rfl (by omega)) (rf_ [(29,.int .i64 ((j+1:Nat):Int))] (h6_ t0 t2 t11 t19 t22 t28) ?_))
        rintro a A ⟨t29,-⟩ ⟨t0,t2,t11,t19,t22,t28,-⟩
        exact ⟨⟨j+1,v190,ltj,A,t0,t2,t11,t19,t22,t28,t29,BB,FO2⟩,by show J - (intOf (a.eval (.tmp 29))).toNat < J - (intOf (Act.eval _ (.tmp 29))).toNat; rw [t29,esj]; show J - (j+1) < J - j; omega⟩
       ·rw [decide_eq_false ltj] at t161
        refine wp_cond_false t161 ?_
        refine wp_exit ?_
        first | with_reducible refine exit_in ?_ | with_reducible refine exit_then (exit_in ?_) | with_reducible refine exit_then (exit_then (exit_in ?_)) | refine exit_in ?_ | refine exit_then (exit_in ?_) | refine exit_then (exit_then (exit_in ?_))
        clear t161 esj
        have hjJ2:j=J:=by omega
        rw [hjJ2] at FO
        clear t2 t11 t19 t22 t29
        obtain ⟨pb,po,pc,epv,hpc⟩:∃ pb po pc,pv=.slice (some ⟨pb,po,none⟩) L pc/\L<=pc:=by
         obtain ⟨⟨a_,c2_,e_,g1,_,g3⟩,_⟩:=id FP
         obtain ⟨b_,o_,e2,_⟩:=g3 (by omega)
         exact ⟨b_,o_,c2_,by rw [e_,e2],g1⟩
        refine wp_seq ?_
        refine wi_ A (h2_ t0 t28) (rv_ 3 (.int .i64 ((18+lb L+J * lq L J:Nat):Int)) (fun a e=>execLenV (len:=18+lb L+J * lq L J) rfl (e _) (shpO FO)) (rv_ 4 (sliced (some ⟨pb,po,none⟩) (18+lb L+J * lq L J) L pc 1) (fun a e=>By8.execSlL rfl ((e _).trans epv) (e _) (By8.slice_l (some ⟨pb,po,none⟩) L pc (18+lb L+J * lq L J) hlq3 XL35)) (rs_ 5 (fun a e=>?_))))
        refine stepAppN (n:=18+lb L+J * lq L J) (m:=L - (18+lb L+J * lq L J)) (p:=tuT L J m (szF m J) p (gN wf)) rfl rfl rfl (e _) (e _) FO (sliceN_cg (SliceN.sub (epv ▸ FP.on BB) (18+lb L+J * lq L J) L hlq3 (Nat.le_refl _)) (fun k hk=>(tu_rest k).symm)) (fun _ _ e=>sl_no e) (by omega) (BB).size fun v196 X40 own' gr=>⟨_,⟨_,rfl,rfl⟩,eqw ?_⟩
        obtain ⟨BB,FR2⟩:Below X30.heap.size X30 X40/\(X40.ownsRow X30.heap.size 5 1 v196 (L) (bytesL (L) (tuT L J m (szF m J) p (gN wf)))):=⟨(BB).grown gr (BB).size (fun k_ hk_=>(FO.lt k_ hk_).1),(by rw [show 18+lb L+J * lq L J+(L - (18+lb L+J * lq L J))=L by omega] at own'; exact own')⟩
        clear FO e a
        refine rg_ [(8,v196),(9,.int .i64 ((0:Nat):Int))] ?_
        rintro a A ⟨t8,t9,-⟩
        have BW2:=BW.trans (BB.mono BW.size)
        refine wp_ret ?_
        refine bodyPost_ret (results_tmp2 rfl _ _ _) A.2 ⟨_,?_,own_base FR2 BW.size,BW2⟩
        show Ending.returned (.tuple #[a.eval (.tmp 8),a.eval (.tmp 9)])=_
        rw [t8,t9]
    ·refine wi_ A (h4_ t0 t1 t2 t3) (rc_ 3 (rlaid0 p L m J _ X3 FP hl hN h1 h2 hE) fun e X6_1 hh=>?_)
     obtain ⟨sv,uv,fv,tv,he,hs,hb⟩:=hh
     refine ⟨_,he,?_⟩
     have bQ:Below X3.heap.size X3 X6_1:=hb
     have Fone:((akC sv uv fv tv).all (·.oneCell')=true):=hs
     have bX:=bQ
     clear bQ
     obtain ⟨g11,egg11⟩:∃ z_:Nat,X6_1.heap.size=z_:=⟨_,rfl⟩
     refine rs_ 7 (fun a e=>?_)
     refine stepV rfl rfl (execAllLd rfl) ⟨.pointer (some ⟨g11,0,none⟩),⟨_,rfl,by subst egg11; rfl⟩,fun X6_2 hX=>?_⟩
     have bQ:Below X6_1.heap.size X6_1 X6_2:=by subst hX egg11; exact (belNew X6_1 _)
     have F11:X6_2.heap[g11]?=some (.cells (akC (.slice none 0 0) (.slice none 0 0) (.slice none 0 0) (.slice none 0 0)) 66):=by subst hX egg11; exact heapNew X6_1 _
     have Fge11:(X3.heap.size<=g11):=by subst hX egg11; exact (bX).size
     replace bX:=bX.trans (bQ.mono bX.size)
     clear bQ hX egg11 e a
     refine rs_ 8 (fun a e=>?_)
     refine stepS rfl rfl (execStLd rfl (e _) (e _) F11 rfl Fone) ⟨_,⟨_,rfl,rfl⟩,fun X6 hX=>?_⟩
     obtain ⟨bX,F11⟩:Below X3.heap.size X3 X6/\X6.heap[g11]?=some (.cells (akC sv uv fv tv) 66):=by rw [hX]; exact ⟨below4 bX Fge11 _,setRow_heap _ _ _ _ _ _ F11⟩
     clear hX e a
     refine rg_ [(12,.bool false)] ?_
     rintro a A ⟨t12,-⟩
     replace FP:=(FP.on bX)
     replace FW:=(FW.on bX)
     have ZX6:=bX.size
     replace BW:=BW.trans (bX.mono BW.size)
     clear bX
     refine wp_seq (wp_seq ?_)
     refine wi_ A (h1_ t12) (rv_ 1 (.bool true) (fun a e=>execNot8 (b:=false) rfl (e _)) (rg_ [(55,.bool true)] ?_))
     rintro a A ⟨t55,-⟩
     refine wp_cond_true t55 ?_
     clear t55
     refine wp_seq ?_
     refine wi_ A h0_ (rg_ [(8,.slice none 0 0),(9,.int .i64 ((3:Nat):Int))] ?_)
     rintro a A ⟨t8,t9,-⟩
     have hE:tnE L ((m:Nat):Int) ((J:Nat):Int) wf m p=3:=hTR.trans (by have h_:=ri_vals L ((m:Nat):Int) ((J:Nat):Int) p hin; omega)
     rw [hE,zl_no (by decide)]
     refine wp_ret ?_
     repeat (first | with_reducible refine ret_in ?_ | with_reducible refine ret_then ?_)
     refine bodyPost_ret (results_tmp2 rfl _ _ _) A.2 ⟨_,?_,World.ownsRow_nil _ _ _ _,BW⟩
     show Ending.returned (.tuple #[a.eval (.tmp 8),a.eval (.tmp 9)])=_
     rw [t8,t9]
   ·refine wi_ A (h5_ t0 t1 t2 t3 t10) (rv_ 1 (.bool true) (fun a e=>execDec (execNeN (p:=pE wf m) (q:=0) rfl (e _) rfl) (decide_eq_true (by omega))) (rf_ [(45,.bool true)] (h1_ t10) ?_))
    rintro a A ⟨t45,-⟩ ⟨t10,-⟩
    refine wp_cond_true t45 ?_
    clear t45
    refine wp_seq ?_
    refine wi_ A (h1_ t10) (rg_ [(8,.slice none 0 0),(9,.int .i64 ((pE wf m:Nat):Int))] ?_)
    rintro a A ⟨t8,t9,-⟩
    have hpE:pE wf m=110:=by have h_:=hpp; unfold pE at h_ ⊢; split at h_ <;> simp_all
    rw [hpE] at t9
    have hE:tnE L ((m:Nat):Int) ((J:Nat):Int) wf m p=110:=by show (if _ then _ else _)=110; rw [if_pos ⟨hin,rfl⟩]; exact if_neg hpp
    rw [hE,zl_no (by decide)]
    refine wp_ret ?_
    repeat (first | with_reducible refine ret_in ?_ | with_reducible refine ret_then ?_)
    refine bodyPost_ret (results_tmp2 rfl _ _ _) A.2 ⟨_,?_,World.ownsRow_nil _ _ _ _,BW⟩
    show Ending.returned (.tuple #[a.eval (.tmp 8),a.eval (.tmp 9)])=_
    rw [t8,t9]
  ·refine wi_ A (h4_ t0 t1 t2 t3) (rc_ 2 (rfit1 hin V) (cb_ fun X1 bQ=>?_))
   have bX:=bQ
   clear bQ
   refine rv_ 3 (.bool false) (fun a e=>execNot8 (b:=true) rfl (e _)) (rv_ 6 (.int .i64 ((m:Nat):Int)) (fun a e=>execLenI (len:=m) rfl (e _) ((FW.on bX)).shp) (rv_ 8 (.bool true) (fun a e=>execDec (execNeN (p:=m) (q:=N) rfl (e _) (e _)) (decide_eq_true (by omega))) (rg_ [(41,.bool true)] ?_)))
   rintro a A ⟨t41,-⟩
   replace FP:=(FP.on bX)
   replace FW:=(FW.on bX)
   have ZX1:=bX.size
   replace BW:=BW.trans (bX.mono BW.size)
   clear bX
   refine wp_cond_true t41 ?_
   clear t41
   refine wp_seq ?_
   refine wi_ A h0_ (rg_ [(8,.slice none 0 0),(9,.int .i64 ((2:Nat):Int))] ?_)
   rintro a A ⟨t8,t9,-⟩
   have hE:tnE L ((N:Nat):Int) ((J:Nat):Int) wf m p=2:=if_neg fun q=>hmN (by omega)
   rw [hE,zl_no (by decide)]
   refine wp_ret ?_
   repeat (first | with_reducible refine ret_in ?_ | with_reducible refine ret_then ?_)
   refine bodyPost_ret (results_tmp2 rfl _ _ _) A.2 ⟨_,?_,World.ownsRow_nil _ _ _ _,BW⟩
   show Ending.returned (.tuple #[a.eval (.tmp 8),a.eval (.tmp 9)])=_
   rw [t8,t9]
 ·refine wi_ A (h4_ t0 t1 t2 t3) (rc_ 2 (rfit0 hin V) (cb_ fun X1 bQ=>?_))
  have bX:=bQ
  clear bQ
  refine rv_ 3 (.bool true) (fun a e=>execNot8 (b:=false) rfl (e _)) (rg_ [(41,.bool true)] ?_)
  rintro a A ⟨t41,-⟩
  replace FP:=(FP.on bX)
  replace FW:=(FW.on bX)
  have ZX1:=bX.size
  replace BW:=BW.trans (bX.mono BW.size)
  clear bX
  refine wp_cond_true t41 ?_
  clear t41
  refine wp_seq ?_
  refine wi_ A h0_ (rg_ [(8,.slice none 0 0),(9,.int .i64 ((2:Nat):Int))] ?_)
  rintro a A ⟨t8,t9,-⟩
  have hE:tnE L n ch wf m p=2:=if_neg fun q=>hin q.1
  rw [hE,zl_no (by decide)]
  refine wp_ret ?_
  repeat (first | with_reducible refine ret_in ?_ | with_reducible refine ret_then ?_)
  refine bodyPost_ret (results_tmp2 rfl _ _ _) A.2 ⟨_,?_,World.ownsRow_nil _ _ _ _,BW⟩
  show Ending.returned (.tuple #[a.eval (.tmp 8),a.eval (.tmp 9)])=_
  rw [t8,t9]
end Go.Proofs.Ytmjpneaccjlpkaa.Rif
