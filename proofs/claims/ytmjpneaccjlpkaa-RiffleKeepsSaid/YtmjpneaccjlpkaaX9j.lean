import Derived.Test.YtmjpneaccjlpkaaF9c
import Derived.Test.YtmjpneaccjlpkaaF9b
import Derived.Test.YtmjpneaccjlpkaaX9g
import Derived.Test.YtmjpneaccjlpkaaS9a
import Derived.Test.YtmjpneaccjlpkaaQ9s
namespace Go.Proofs.Ytmjpneaccjlpkaa.Rif
open Go.RowKit Gf8 Aes By8 Cel Cf Tap Drw Prm Brd
/- Stage 13's laws: same, counted, alive. Written by tools/mkX9h.py. -/
theorem cntd_byte:∀ j,j < 18+24->cntd j < 256:=fun j hj=>by
 unfold cntd
 by_cases h:j < 18
 ·rw [if_pos h]; omega
 ·rw [if_neg h]; omega
theorem own_mkZB (W:World) (l n:Nat) (p:Nat->Nat) (hl:l<=n) (hn:n<=140737488355328) (hp:∀ j,j < l->p j=0):(W.alloc (.cells (bA n (fun _=>0)) 5)).ownsRow W.heap.size 5 1 (.slice (some ⟨W.heap.size,0,none⟩) l n) l (bytesL l p):=by
 refine ⟨by rw [bytesL_len,Nat.mul_one],Or.inr ⟨W.heap.size,n,_,rfl,Nat.le_refl _,heapNew W _,hl,by unfold maxLen; omega,by rw [bA_size,Nat.mul_one],?_⟩⟩
 apply List.ext_getElem?
 intro j
 by_cases h:j < l
 ·rw [List.getElem?_take_of_lt (by omega),Array.getElem?_toList,bA_at n _ (by omega),bytesL_at l p h,hp j h]
 ·rw [List.getElem?_eq_none (by rw [List.length_take]; omega),List.getElem?_eq_none (by rw [bytesL_len]; omega)]
theorem own_mk18 (W:World):(W.alloc (.cells (bA 42 (fun _=>0)) 5)).ownsRow W.heap.size 5 1 (.slice (some ⟨W.heap.size,0,none⟩) 18 42) (18+0) (bytesL (18+0) cntd):=own_mkZB W 18 42 cntd (by omega) (by omega) (fun j hj=>if_pos hj)
theorem one_cnt (X:World) {k:Nat} (hk:k < 24):SliceN (X.alloc (.cells #[.int .u8 ((k+1:Nat):Int)] 5)) (.slice (some ⟨X.heap.size,0,none⟩) 1 1) 1 (fun j=>cntd (18+k+j)):=by
 have e:∀ j,j < 1->cntd (18+k+j)=k+1:=fun j hj=>by
  unfold cntd
  rw [if_neg (by omega)]
  omega
 refine ⟨⟨_,_,rfl,Nat.le_refl _,by omega,fun _=>⟨X.heap.size,0,rfl,by simp,fun j hj=>?_⟩⟩,fun j hj=>by rw [e j hj]; omega⟩
 rw [cell_of_row _ _ _ _ _ _ (heapNew X _)]
 rw [e j hj,show j=0 by omega]
 rfl
def st1 (x:UInt8):ByteArray:=⟨#[x]⟩
def abcd (j:Nat):ByteArray:=if j=0 then st1 97 else if j=1 then st1 98 else if j=2 then st1 99 else st1 100
section
variable {o:Oper} {a:Act} {w:World}
theorem execBsS4 (ho:o.op=.buildSlice 32 4 #[(0,.const (.string ⟨#[97]⟩)),(1,.const (.string ⟨#[98]⟩)),(2,.const (.string ⟨#[99]⟩)),(3,.const (.string ⟨#[100]⟩))]):(execOp a.eval o).run Try.prog w=.ok (.value (.slice (some ⟨w.heap.size,0,none⟩) 4 4)) (w.alloc (.cells #[.string (st1 97),.string (st1 98),.string (st1 99),.string (st1 100)] 9)):=by
 unfold execOp
 simp only [ho]
 simp [go_sem,Act.eval,st1]
theorem execEqSt1 {x:Operand} {z:UInt8} (ho:o.op=.binOp .eql 9 x (.const (.string ⟨#[z]⟩)) 9) (hx:a.eval x=.string (st1 z)):(execOp a.eval o).run Try.prog w=.ok (.value (.bool true)) w:=by
 have hc:a.eval (.const (.string ⟨#[z]⟩))=.string (st1 z):=rfl
 unfold execOp
 simp only [ho,hx,hc]
 simp [go_sem]
end
theorem sliceS4 (X:World):SliceS (X.alloc (.cells #[.string (st1 97),.string (st1 98),.string (st1 99),.string (st1 100)] 9)) (.slice (some ⟨X.heap.size,0,none⟩) 4 4) 4 abcd:=by
 refine ⟨⟨_,_,rfl,Nat.le_refl _,by unfold maxLen; omega,fun _=>⟨X.heap.size,0,rfl,by simp,fun j hj=>?_⟩⟩⟩
 rw [cell_of_row _ _ _ _ _ _ (heapNew X _)]
 match j,hj with
 | 0,_=>rfl
 | 1,_=>rfl
 | 2,_=>rfl
 | 3,_=>rfl
 | j+4,h=>omega
theorem al_1 (V:World) (v:Value) (h:SliceN V v 42 cntd):Calls Try.prog 10 #[v,.int .i64 3,.int .i64 1] V fun e w'=>∃ r,e=.returned (.tuple #[r,.int .i64 ((0:Nat):Int)])/\SliceI w' r 3 (orF 42 3 1 cntd)/\Below V.heap.size V w':=
 Calls.mono (porder cntd 42 3 1 v V h (by omega)) fun e w' ⟨r,g1,g2,g3⟩=>by
  have hf:=or_fits (L:=42) (n:=3) (ch:=1) (p:=cntd)
  rw [cntd_1.1] at g1
  rw [cntd_1.1,zl_ok] at g2 hf
  exact ⟨r,g1,own_ints g2 hf,g3⟩
theorem strs_slice {W:World} {B n:Nat} {v:Value} {s:Nat->ByteArray} (h:W.ownsRow B 9 1 v n (strsL n s)):SliceS W v n s:=own_strs h
theorem al_2 (V:World) (v u:Value) (h:SliceN V v 42 cntd) (hu:SliceS V u 4 abcd):Calls Try.prog 14 #[v,.int .i64 2,u] V fun e w'=>∃ r,e=.returned (.tuple #[r,.int .i64 ((0:Nat):Int)])/\SliceS w' r 4 (fun i=>abcd (orF 42 4 2 cntd i).toNat)/\Below V.heap.size V w':=
 Calls.mono (pshuffleS cntd 42 4 2 abcd v u V h (by omega) hu) fun e w' ⟨r,g1,g2,g3⟩=>by
  have hE:riE 42 ((4:Nat):Int) 2 cntd=0:=cntd_2.1
  rw [hE] at g1
  rw [hE,zl_ok] at g2
  exact ⟨r,g1,strs_slice g2,g3⟩
theorem al_3 (V:World) (v u:Value) (h:SliceN V v 42 cntd) (hu:SliceI V u 2 (fun j=>if j=0 then 1 else 0)):Calls Try.prog 16 #[v,.int .i64 2,.int .i64 1,u] V fun e w'=>∃ r,e=.returned (.tuple #[r,.int .i64 ((0:Nat):Int)])/\SliceN w' r 42 (tnF 42 2 1 (fun j=>if j=0 then 1 else 0) cntd)/\Below V.heap.size V w':=
 Calls.mono (pturn cntd 42 2 1 (fun j=>if j=0 then 1 else 0) 2 v u V h (by omega) hu) fun e w' ⟨r,g1,g2,g3⟩=>by
  have hf:∀ x,x < zl (tnE 42 2 1 (fun j=>if j=0 then 1 else 0) 2 cntd) 42->tnF 42 2 1 (fun j=>if j=0 then 1 else 0) cntd x < 256:=fun x hx=>tn_byte cntd_byte hx
  rw [cntd_3] at g1
  rw [cntd_3,zl_ok] at g2 hf
  exact ⟨r,g1,own_slice g2 hf,g3⟩
set_option maxRecDepth 100000 in
set_option maxHeartbeats 4000000 in
theorem same13 (f g:Nat->Int) (n m:Nat) (v u0:Value) (V:World) (FI:SliceI V v n f) (FJ:SliceI V u0 m g) (hn17:n<=17592186044416) :
  Calls Try.prog 13 #[v,u0] V fun e w'=>e=.returned (.bool (decide (n=m) && eqL f g n))/\Below V.heap.size V w':=by
 go_enter Try.func13,Try.ntmps13
 refine wp_seq ?_
 refine wo_ 26 [(0,v),(1,u0)] ?_
 rintro a A ⟨t0,t1,-⟩
 refine wi_ A (h2_ t0 t1) (rf_ [] (h2_ t0 t1) ?_)
 rintro a A - ⟨t0,t1,-⟩
 have BW:Below V.heap.size V V:=Below.refl _ _
 have BB:=BW
 refine wp_seq (wp_seq ?_)
 by_cases hnm:n=m
 ·refine wi_ A (h2_ t0 t1) (rv_ 1 (.int .i64 ((n:Nat):Int)) (fun a e=>execLenI (len:=n) rfl (e _) ((FI.on BB)).shp) (rv_ 3 (.int .i64 ((m:Nat):Int)) (fun a e=>execLenI (len:=m) rfl (e _) ((FJ.on BB)).shp) (rv_ 4 (.bool false) (fun a e=>execDec (execNeN (p:=n) (q:=m) rfl (e _) (e _)) (decide_eq_false (by omega))) (rf_ [(10,.bool false)] (h2_ t0 t1) ?_))))
  rintro a A ⟨t10,-⟩ ⟨t0,t1,-⟩
  refine wp_cond_false t10 (wp_skip ?_)
  clear t10
  rw [decide_eq_true hnm,Bool.true_and]
  subst hnm
  refine wp_seq (wp_seq ?_)
  refine wi_ A (h2_ t0 t1) (rf_ [(5,.int .i64 ((0:Nat):Int))] (h2_ t0 t1) ?_)
  rintro a A ⟨t5,-⟩ ⟨t0,t1,-⟩
  refine wp_block ?_
  refine wp_loop (fun a W=>∃ (i:Nat),i<=n/\(eqL f g i=true)/\(a.tmps.size=26/\a.defers=[])/\a.eval (.tmp 0)=v/\a.eval (.tmp 1)=u0/\a.eval (.tmp 5)=.int .i64 ((i:Nat):Int)/\Below V.heap.size V W) (fun a _=>n - (intOf (a.eval (.tmp 5))).toNat) ⟨0,Nat.zero_le _,rfl,A,t0,t1,t5,BB⟩ ?_
  rintro a XL4 ⟨i,hi,hok,A,t0,t1,t5,BB⟩
  have esi:=t5
  refine wp_seq (wp_seq ?_)
  refine wi_ A (h3_ t0 t1 t5) (rv_ 2 (.int .i64 ((n:Nat):Int)) (fun a e=>execLenI (len:=n) rfl (e _) ((FI.on BB)).shp) (rv_ 3 (.bool (decide (i < n))) (fun a e=>execLtW (p:=i) (q:=n) rfl (e _) (e _)) (rf_ [(14,.bool (decide (i < n)))] (h3_ t0 t1 t5) ?_)))
  rintro a A ⟨t14,-⟩ ⟨t0,t1,t5,-⟩
  by_cases lti:i < n
  ·rw [decide_eq_true lti] at t14
   refine wp_cond_true t14 (wp_skip ?_)
   clear t14
   refine wp_seq (wp_block ?_)
   obtain ⟨iib,iio,iic,eii,hiib,hiic⟩:=open_sl FI (by omega)
   have cii:∀ k,k < n->∀ X,Below V.heap.size V X->X.cell? ⟨iib,iio+k,none⟩=some (.int .i64 ((f) k)):=fun k hk X hX=>by rw [cell_below hX hiib]; exact hiic k hk
   obtain ⟨jjb,jjo,jjc,ejj,hjjb,hjjc⟩:=open_sl FJ (by omega)
   have cjj:∀ k,k < n->∀ X,Below V.heap.size V X->X.cell? ⟨jjb,jjo+k,none⟩=some (.int .i64 ((g) k)):=fun k hk X hX=>by rw [cell_below hX hjjb]; exact hjjc k hk
   by_cases he:f i=g i
   ·refine wp_seq ?_
    refine wj_ [0,1,2,3,4,5,6,7,8] [] [3,7] [] A (h3_ t0 t1 t5) (fun X6 bD=>?_)
    refine dw_ 2 (.pointer (some ⟨iib,iio+i,none⟩)) (fun a X e=>execIdxN (k:=i) rfl ((e _).trans eii) (e _) lti) (dv_ 3 (.int .i64 (f i)) (fun a X e hb=>execLd3 rfl (e _) (cii i lti X (BB.trans (hb.mono BB.size)))) (dw_ 6 (.pointer (some ⟨jjb,jjo+i,none⟩)) (fun a X e=>execIdxN (k:=i) rfl ((e _).trans ejj) (e _) lti) (dv_ 7 (.int .i64 (g i)) (fun a X e hb=>execLd3 rfl (e _) (cjj i lti X (BB.trans (hb.mono BB.size)))) (dw_ 8 (.bool false) (fun a X e=>execNeIf rfl (e _) (e _) he) (dz_ [(25,.bool false)] (h3_ t0 t1 t5) ?_)))))
    rintro a A ⟨t25,-⟩ ⟨t0,t1,t5,-⟩
    replace BB:=BB.trans (bD.mono BB.size)
    clear bD
    refine wp_cond_false t25 (wp_skip ?_)
    clear t25
    refine wi_ A (h3_ t0 t1 t5) (rv_ 1 (.int .i64 ((i+1:Nat):Int)) (fun a e=>execAd8 (p:=i) (q:=1) rfl (e _) rfl (by omega)) (rf_ [(5,.int .i64 ((i+1:Nat):Int))] (h2_ t0 t1) ?_))
    rintro a A ⟨t5,-⟩ ⟨t0,t1,-⟩
    exact ⟨⟨i+1,lti,eqL_succ hok he,A,t0,t1,t5,BB⟩,by show n - (intOf (a.eval (.tmp 5))).toNat < n - (intOf (Act.eval _ (.tmp 5))).toNat; rw [t5,esi]; show n - (i+1) < n - i; omega⟩
   ·refine wp_seq ?_
    refine wj_ [0,1,2,3,4,5,6,7,8] [] [3,7] [] A (h3_ t0 t1 t5) (fun X6 bD=>?_)
    refine dw_ 2 (.pointer (some ⟨iib,iio+i,none⟩)) (fun a X e=>execIdxN (k:=i) rfl ((e _).trans eii) (e _) lti) (dv_ 3 (.int .i64 (f i)) (fun a X e hb=>execLd3 rfl (e _) (cii i lti X (BB.trans (hb.mono BB.size)))) (dw_ 6 (.pointer (some ⟨jjb,jjo+i,none⟩)) (fun a X e=>execIdxN (k:=i) rfl ((e _).trans ejj) (e _) lti) (dv_ 7 (.int .i64 (g i)) (fun a X e hb=>execLd3 rfl (e _) (cjj i lti X (BB.trans (hb.mono BB.size)))) (dw_ 8 (.bool true) (fun a X e=>execNeIt rfl (e _) (e _) he) (dz_ [(25,.bool true)] (h3_ t0 t1 t5) ?_)))))
    rintro a A ⟨t25,-⟩ ⟨t0,t1,t5,-⟩
    replace BB:=BB.trans (bD.mono BB.size)
    clear bD
    refine wp_cond_true t25 ?_
    clear t25
    refine wp_seq ?_
    refine wi_ A (h3_ t0 t1 t5) (rg_ [(4,.bool false)] ?_)
    rintro a A ⟨t4,-⟩
    rw [eqL_bad lti he]
    refine wp_ret ?_
    repeat (first | with_reducible refine ret_in ?_ | with_reducible refine ret_then ?_)
    refine bodyPost_ret (results_tmp rfl _ _ _) A.2 ⟨?_,BB⟩
    show Ending.returned (a.eval (.tmp 4))=_
    rw [t4]
  ·rw [decide_eq_false lti] at t14
   refine wp_cond_false t14 ?_
   refine wp_exit ?_
   first | with_reducible refine exit_in ?_ | with_reducible refine exit_then (exit_in ?_) | with_reducible refine exit_then (exit_then (exit_in ?_)) | refine exit_in ?_ | refine exit_then (exit_in ?_) | refine exit_then (exit_then (exit_in ?_))
   clear t14 esi
   obtain rfl:i=n:=by omega
   rw [hok]
   clear t0 t1 t5
   refine wp_seq ?_
   refine wi_ A h0_ (rg_ [(4,.bool true)] ?_)
   rintro a A ⟨t4,-⟩
   refine wp_ret ?_
   repeat (first | with_reducible refine ret_in ?_ | with_reducible refine ret_then ?_)
   refine bodyPost_ret (results_tmp rfl _ _ _) A.2 ⟨?_,BB⟩
   show Ending.returned (a.eval (.tmp 4))=_
   rw [t4]
 ·refine wi_ A (h2_ t0 t1) (rv_ 1 (.int .i64 ((n:Nat):Int)) (fun a e=>execLenI (len:=n) rfl (e _) ((FI.on BB)).shp) (rv_ 3 (.int .i64 ((m:Nat):Int)) (fun a e=>execLenI (len:=m) rfl (e _) ((FJ.on BB)).shp) (rv_ 4 (.bool true) (fun a e=>execDec (execNeN (p:=n) (q:=m) rfl (e _) (e _)) (decide_eq_true (by omega))) (rg_ [(10,.bool true)] ?_))))
  rintro a A ⟨t10,-⟩
  refine wp_cond_true t10 ?_
  clear t10
  refine wp_seq ?_
  refine wi_ A h0_ (rg_ [(4,.bool false)] ?_)
  rintro a A ⟨t4,-⟩
  rw [decide_eq_false hnm,Bool.false_and]
  refine wp_ret ?_
  repeat (first | with_reducible refine ret_in ?_ | with_reducible refine ret_then ?_)
  refine bodyPost_ret (results_tmp rfl _ _ _) A.2 ⟨?_,BB⟩
  show Ending.returned (a.eval (.tmp 4))=_
  rw [t4]
theorem sm_t (f g:Nat->Int) (n:Nat) (v u0:Value) (V:World) (hv:SliceI V v n f) (hu:SliceI V u0 n g) (h:∀ j,j < n->f j=g j) (hn17:n<=17592186044416) :
  Calls Try.prog 13 #[v,u0] V fun e w'=>e=.returned (.bool true)/\Below V.heap.size V w':=by
 have k:=same13 f g n n v u0 V hv hu hn17
 rw [decide_eq_true rfl,eqL_iff.2 h] at k
 exact k
set_option maxRecDepth 100000 in
set_option maxHeartbeats 4000000 in
theorem counted_any (V:World) :
  Calls Try.prog 18 #[] V fun e w'=>∃ r,e=.returned r/\SliceN w' r 42 cntd/\Below V.heap.size V w':=by
 go_enter Try.func18,Try.ntmps18
 refine wp_seq ?_
 refine wo_ 14 [] ?_
 rintro a A -
 refine wi_ A h0_ (rg_ [] ?_)
 rintro a A -
 have BW:Below V.heap.size V V:=Below.refl _ _
 have BB:=BW
 refine wp_seq ?_
 obtain ⟨g3,egg3⟩:∃ z_:Nat,V.heap.size=z_:=⟨_,rfl⟩
 refine wi_ A h0_ (rs_ 0 (fun a e=>?_))
 refine stepV rfl rfl (execMk (l:=18) (n:=42) rfl rfl rfl (by omega) (by omega)) ⟨.slice (some ⟨g3,0,none⟩) 18 42,⟨_,rfl,by subst egg3; rfl⟩,fun X1 hX=>?_⟩
 have bQ:Below V.heap.size V X1:=by subst hX egg3; exact (belNew V _)
 have FO:(X1.ownsRow V.heap.size 5 1 (.slice (some ⟨g3,0,none⟩) 18 42) (18+0) (bytesL (18+0) cntd)):=by subst hX egg3; exact own_base (own_mk18 V) (BB).size
 replace BB:=BB.trans (bQ.mono BB.size)
 clear bQ hX egg3 e a
 refine rg_ [(1,.slice (some ⟨g3,0,none⟩) 18 42)] ?_
 rintro a A ⟨t1,-⟩
 refine wp_seq (wp_seq ?_)
 refine wi_ A (h1_ t1) (rf_ [(2,.int .i64 ((1:Nat):Int))] (h1_ t1) ?_)
 rintro a A ⟨t2,-⟩ ⟨t1,-⟩
 refine wp_block ?_
 refine wp_loop (fun a W=>∃ (k:Nat) (u:Value),k<=24/\(a.tmps.size=14/\a.defers=[])/\a.eval (.tmp 1)=u/\a.eval (.tmp 2)=.int .i64 ((k+1:Nat):Int)/\Below V.heap.size V W/\(W.ownsRow V.heap.size 5 1 u (18+k) (bytesL (18+k) cntd))) (fun a _=>25 - (intOf (a.eval (.tmp 2))).toNat) ⟨0,_,Nat.zero_le _,A,t1,t2,BB,FO⟩ ?_
 rintro a XL ⟨k,u,hk,A,t1,t2,BB,FO⟩
 have es:=t2
 refine wp_seq (wp_seq ?_)
 refine wi_ A (h2_ t1 t2) (rv_ 1 (.bool (decide (k+1<=24))) (fun a e=>execLeN (p:=k+1) (q:=24) rfl (e _) rfl) (rf_ [(5,.bool (decide (k+1<=24)))] (h2_ t1 t2) ?_))
 rintro a A ⟨t5,-⟩ ⟨t1,t2,-⟩
 by_cases lt:k+1<=24
 ·rw [decide_eq_true lt] at t5
  refine wp_cond_true t5 (wp_skip ?_)
  clear t5
  refine wp_seq (wp_block ?_)
  obtain ⟨g11,egg11⟩:∃ z_:Nat,XL.heap.size=z_:=⟨_,rfl⟩
  refine wi_ A (h2_ t1 t2) (rv_ 2 (.int .u8 ((k+1:Nat):Int)) (fun a e=>execU8S (n:=k+1) rfl (e _) (by omega)) (rs_ 3 (fun a e=>?_)))
  refine stepV rfl rfl (execOne (z:=((k+1:Nat):Int)) rfl (e _)) ⟨.slice (some ⟨g11,0,none⟩) 1 1,⟨_,rfl,by subst egg11; rfl⟩,fun X5_1 hX=>?_⟩
  have bQ:Below XL.heap.size XL X5_1:=by subst hX egg11; exact (belNew XL _)
  have F11:SliceN X5_1 (.slice (some ⟨g11,0,none⟩) 1 1) (1) (fun j=>cntd (18+k+j)):=by subst hX egg11; exact one_cnt XL (by omega)
  replace FO:=(ownsRow_below FO bQ)
  replace BB:=BB.trans (bQ.mono BB.size)
  clear bQ hX egg11 e a
  refine rs_ 4 (fun a e=>?_)
  refine stepAppN (n:=18+k) (m:=1) (p:=cntd) rfl rfl rfl (e _) (e _) FO F11 (fun l c e=>by cases e) (by omega) (BB).size fun v12 X5 own' gr=>⟨_,⟨_,rfl,rfl⟩,eqw ?_⟩
  obtain ⟨BB,FO2⟩:Below V.heap.size V X5/\(X5.ownsRow V.heap.size 5 1 v12 (18+(k+1)) (bytesL (18+(k+1)) cntd)):=⟨(BB).grown gr (BB).size (fun k hk=>(FO.lt k hk).1),own'⟩
  clear FO F11 e a
  refine rf_ [(1,v12)] (h1_ t2) ?_
  rintro a A ⟨t1,-⟩ ⟨t2,-⟩
  refine wi_ A (h2_ t1 t2) (rv_ 1 (.int .i64 ((k+1+1:Nat):Int)) (fun a e=>execAd8 (p:=k+1) (q:=1) rfl (e _) rfl (by omega)) (rf_ [(2,.int .i64 ((k+1+1:Nat):Int))] (h1_ t1) ?_))
  rintro a A ⟨t2,-⟩ ⟨t1,-⟩
  exact ⟨⟨k+1,_,by omega,A,t1,t2,BB,FO2⟩,by show 25 - (intOf (a.eval (.tmp 2))).toNat < 25 - (intOf (Act.eval _ (.tmp 2))).toNat; rw [t2,es]; show 25 - (k+1+1) < 25 - (k+1); omega⟩
 ·rw [decide_eq_false lt] at t5
  refine wp_cond_false t5 ?_
  refine wp_exit ?_
  first | with_reducible refine exit_in ?_ | with_reducible refine exit_then (exit_in ?_) | with_reducible refine exit_then (exit_then (exit_in ?_)) | refine exit_in ?_ | refine exit_then (exit_in ?_) | refine exit_then (exit_then (exit_in ?_))
  clear t5 es
  have hk24:k=24:=by omega
  rw [hk24] at FO
  clear t2
  refine wp_seq ?_
  refine wi_ A (h1_ t1) (rg_ [(0,u)] ?_)
  rintro a A ⟨t0,-⟩
  refine wp_ret ?_
  refine bodyPost_ret (results_tmp rfl _ _ _) A.2 ⟨_,?_,own_slice FO cntd_byte,BB⟩
  show Ending.returned (a.eval (.tmp 0))=_
  rw [t0]
set_option maxRecDepth 100000 in
set_option maxHeartbeats 4000000 in
theorem alive13 (V:World) :
  Calls Try.prog 9 #[] V fun e w'=>e=.returned (.bool true)/\Below V.heap.size V w':=by
 go_enter Try.func9,Try.ntmps9
 refine wp_seq ?_
 refine wo_ 77 [] ?_
 rintro a A -
 refine wi_ A h0_ (rg_ [] ?_)
 rintro a A -
 have BW:Below V.heap.size V V:=Below.refl _ _
 refine wp_seq ?_
 refine wi_ A h0_ (rc_ 0 (counted_any V) fun e X1_1 hh=>?_)
 obtain ⟨c8,he,hk,hb⟩:=hh
 refine ⟨_,he,?_⟩
 have bQ:Below V.heap.size V X1_1:=hb
 have Fc8:SliceN X1_1 c8 (42) (cntd):=hk
 have bX:=bQ
 clear bQ
 refine rc_ 1 (al_1 X1_1 _ Fc8) fun e X1 hh=>?_
 obtain ⟨o9,he,hk,hb⟩:=hh
 refine ⟨_,he,?_⟩
 have bQ:Below X1_1.heap.size X1_1 X1:=hb
 have Fo9:(SliceI X1 o9 (3) (orF 42 3 1 cntd)):=hk
 replace Fc8:=(Fc8.on bQ)
 replace bX:=bX.trans (bQ.mono bX.size)
 clear bQ
 refine rg_ [(1,o9),(2,.int .i64 ((0:Nat):Int))] ?_
 rintro a A ⟨t1,t2,-⟩
 have ZX1:=bX.size
 replace BW:=BW.trans (bX.mono BW.size)
 clear bX
 refine wp_seq ?_
 refine wi_ A (h2_ t1 t2) (rc_ 0 (counted_any X1) fun e X2_1 hh=>?_)
 obtain ⟨c13,he,hk,hb⟩:=hh
 refine ⟨_,he,?_⟩
 have bQ:Below X1.heap.size X1 X2_1:=hb
 have Fc13:SliceN X2_1 c13 (42) (cntd):=hk
 have bX:=bQ
 clear bQ
 obtain ⟨g14,egg14⟩:∃ z_:Nat,X2_1.heap.size=z_:=⟨_,rfl⟩
 refine rs_ 1 (fun a e=>?_)
 refine stepV rfl rfl (execBsS4 rfl) ⟨.slice (some ⟨g14,0,none⟩) 4 4,⟨_,rfl,by subst egg14; rfl⟩,fun X2_2 hX=>?_⟩
 have bQ:Below X2_1.heap.size X2_1 X2_2:=by subst hX egg14; exact (belNew X2_1 _)
 have F14:(SliceS X2_2 (.slice (some ⟨g14,0,none⟩) 4 4) 4 abcd):=by subst hX egg14; exact sliceS4 X2_1
 replace Fc13:=(Fc13.on bQ)
 replace bX:=bX.trans (bQ.mono bX.size)
 clear bQ hX egg14 e a
 refine rc_ 2 (al_2 X2_2 _ _ Fc13 F14) fun e X2 hh=>?_
 obtain ⟨l15,he,hk,hb⟩:=hh
 refine ⟨_,he,?_⟩
 have bQ:Below X2_2.heap.size X2_2 X2:=hb
 have Fl15:(SliceS X2 l15 4 (fun i=>abcd (orF 42 4 2 cntd i).toNat)):=hk
 replace Fc13:=(Fc13.on bQ)
 replace F14:=(F14.on bQ)
 replace bX:=bX.trans (bQ.mono bX.size)
 clear bQ
 refine rf_ [(3,l15),(4,.int .i64 ((0:Nat):Int))] (h2_ t1 t2) ?_
 rintro a A ⟨t3,t4,-⟩ ⟨t1,t2,-⟩
 replace Fc8:=(Fc8.on bX)
 replace Fo9:=(Fo9.on bX)
 have ZX2:=bX.size
 replace BW:=BW.trans (bX.mono BW.size)
 clear bX
 refine wp_seq ?_
 refine wi_ A (h4_ t1 t2 t3 t4) (rc_ 0 (counted_any X2) fun e X3_1 hh=>?_)
 obtain ⟨c19,he,hk,hb⟩:=hh
 refine ⟨_,he,?_⟩
 have bQ:Below X2.heap.size X2 X3_1:=hb
 have Fc19:SliceN X3_1 c19 (42) (cntd):=hk
 have bX:=bQ
 clear bQ
 obtain ⟨g20,egg20⟩:∃ z_:Nat,X3_1.heap.size=z_:=⟨_,rfl⟩
 refine rs_ 1 (fun a e=>?_)
 refine stepV rfl rfl (execBsI2 (y:=1) (z:=0) rfl) ⟨.slice (some ⟨g20,0,none⟩) 2 2,⟨_,rfl,by subst egg20; rfl⟩,fun X3_2 hX=>?_⟩
 have bQ:Below X3_1.heap.size X3_1 X3_2:=by subst hX egg20; exact (belNew X3_1 _)
 have Fg20:(SliceI X3_2 (.slice (some ⟨g20,0,none⟩) 2 2) (2) (fun j=>if j=0 then 1 else 0)):=by subst hX egg20; exact sliceI2 X3_1 1 0 (by omega) (by omega)
 replace Fc19:=(Fc19.on bQ)
 replace bX:=bX.trans (bQ.mono bX.size)
 clear bQ hX egg20 e a
 refine rc_ 2 (al_3 X3_2 _ _ Fc19 Fg20) fun e X3 hh=>?_
 obtain ⟨q21,he,hk,hb⟩:=hh
 refine ⟨_,he,?_⟩
 have bQ:Below X3_2.heap.size X3_2 X3:=hb
 have Fq21:SliceN X3 q21 (42) (tnF 42 2 1 (fun j=>if j=0 then 1 else 0) cntd):=hk
 replace Fc19:=(Fc19.on bQ)
 replace Fg20:=(Fg20.on bQ)
 replace bX:=bX.trans (bQ.mono bX.size)
 clear bQ
 refine rf_ [(5,q21),(6,.int .i64 ((0:Nat):Int))] (h4_ t1 t2 t3 t4) ?_
 rintro a A ⟨t5,t6,-⟩ ⟨t1,t2,t3,t4,-⟩
 replace Fc8:=(Fc8.on bX)
 replace Fo9:=(Fo9.on bX)
 replace Fc13:=(Fc13.on bX)
 replace F14:=(F14.on bX)
 replace Fl15:=(Fl15.on bX)
 have ZX3:=bX.size
 replace BW:=BW.trans (bX.mono BW.size)
 clear bX
 refine wp_seq (wp_seq ?_)
 refine wi_ A (h6_ t1 t2 t3 t4 t5 t6) (rv_ 1 (.bool false) (fun a e=>execDec (execNeE (p:=0) (q:=0) rfl (e _) rfl) (decide_eq_false (by decide))) (rv_ 4 (.bool false) (fun a e=>execDec (execNeE (p:=0) (q:=0) rfl (e _) rfl) (decide_eq_false (by decide))) (rv_ 8 (.bool false) (fun a e=>execDec (execNeE (p:=0) (q:=0) rfl (e _) rfl) (decide_eq_false (by decide))) (rv_ 12 (.int .i64 ((3:Nat):Int)) (fun a e=>execLenI (len:=3) rfl (e _) (Fo9).shp) (rv_ 13 (.bool false) (fun a e=>execDec (execNeN (p:=3) (q:=3) rfl (e _) rfl) (decide_eq_false (by decide))) (rv_ 17 (.int .i64 ((4:Nat):Int)) (fun a e=>execLenS (len:=4) rfl (e _) Fl15.shp) (rv_ 18 (.bool false) (fun a e=>execDec (execNeN (p:=4) (q:=4) rfl (e _) rfl) (decide_eq_false (by decide))) (rv_ 22 (.int .i64 ((42:Nat):Int)) (fun a e=>execLenV (len:=42) rfl (e _) (shp9 Fq21)) (rv_ 23 (.bool false) (fun a e=>execDec (execNeN (p:=42) (q:=42) rfl (e _) rfl) (decide_eq_false (by decide))) (rf_ [(48,.bool false)] (h2_ t1 t3) ?_))))))))))
 rintro a A ⟨t48,-⟩ ⟨t1,t3,-⟩
 refine wp_cond_false t48 (wp_skip ?_)
 clear t48
 obtain ⟨oob,ooo,ooc,eoo,hoob,hooc⟩:=open_sl Fo9 (by omega)
 obtain ⟨⟨la,lc,ell0,_,_,hll⟩⟩:=id Fl15
 obtain ⟨llb,llo,rfl,hllb,hllc⟩:=hll (by omega)
 have coo:∀ k,k < 3->∀ X,Below X3.heap.size X3 X->X.cell? ⟨oob,ooo+k,none⟩=some (.int .i64 (orF 42 3 1 cntd k)):=fun k hk X hX=>by rw [cell_below hX hoob]; exact hooc k hk
 have cll:∀ k,k < 4->∀ X,Below X3.heap.size X3 X->X.cell? ⟨llb,llo+k,none⟩=some (.string (abcd (orF 42 4 2 cntd k).toNat)):=fun k hk X hX=>by rw [cell_below hX hllb]; exact hllc k hk
 refine wp_seq ?_
 refine wi_ A (h2_ t1 t3) (rv_ 1 (.pointer (some ⟨oob,ooo+0,none⟩)) (fun a e=>execIdxN (k:=0) rfl ((e _).trans eoo) rfl (by decide)) (rv_ 2 (.int .i64 ((2:Nat):Int)) (fun a e=>execLd3 rfl (e _) ((coo 0 (by decide) X3 (Below.refl X3.heap.size X3)).trans (by rw [cntd_1.2.1]; rfl))) (rv_ 3 (.bool true) (fun a e=>execDec (execEqN (p:=2) (q:=2) rfl (e _) rfl) (decide_eq_true (by decide))) (rv_ 6 (.pointer (some ⟨oob,ooo+1,none⟩)) (fun a e=>execIdxN (k:=1) rfl ((e _).trans eoo) rfl (by decide)) (rv_ 7 (.int .i64 ((0:Nat):Int)) (fun a e=>execLd3 rfl (e _) ((coo 1 (by decide) X3 (Below.refl X3.heap.size X3)).trans (by rw [cntd_1.2.2.1]; rfl))) (rv_ 8 (.bool true) (fun a e=>execDec (execEqN (p:=0) (q:=0) rfl (e _) rfl) (decide_eq_true (by decide))) (rv_ 12 (.pointer (some ⟨oob,ooo+2,none⟩)) (fun a e=>execIdxN (k:=2) rfl ((e _).trans eoo) rfl (by decide)) (rv_ 13 (.int .i64 ((1:Nat):Int)) (fun a e=>execLd3 rfl (e _) ((coo 2 (by decide) X3 (Below.refl X3.heap.size X3)).trans (by rw [cntd_1.2.2.2]; rfl))) (rv_ 14 (.bool true) (fun a e=>execDec (execEqN (p:=1) (q:=1) rfl (e _) rfl) (decide_eq_true (by decide))) (rv_ 18 (.pointer (some ⟨llb,llo+1,none⟩)) (fun a e=>Prm.execIdxS (k:=1) rfl ((e _).trans ell0) rfl (by decide)) (rv_ 19 (.string (st1 99)) (fun a e=>Prm.execLdS rfl (e _) ((cll 1 (by decide) X3 (Below.refl X3.heap.size X3)).trans (by rw [cntd_2.2.2.1]; rfl))) (rv_ 20 (.bool true) (fun a e=>execEqSt1 rfl (e _)) (rv_ 24 (.pointer (some ⟨llb,llo+3,none⟩)) (fun a e=>Prm.execIdxS (k:=3) rfl ((e _).trans ell0) rfl (by decide)) (rv_ 25 (.string (st1 98)) (fun a e=>Prm.execLdS rfl (e _) ((cll 3 (by decide) X3 (Below.refl X3.heap.size X3)).trans (by rw [cntd_2.2.2.2.2]; rfl))) (rv_ 26 (.bool true) (fun a e=>execEqSt1 rfl (e _)) (rg_ [(0,.bool true)] ?_))))))))))))))))
 rintro a A ⟨t0,-⟩
 refine wp_ret ?_
 repeat (first | with_reducible refine ret_in ?_ | with_reducible refine ret_then ?_)
 refine bodyPost_ret (results_tmp rfl _ _ _) A.2 ⟨?_,BW⟩
 show Ending.returned (a.eval (.tmp 0))=_
 rw [t0]
end Go.Proofs.Ytmjpneaccjlpkaa.Rif

namespace Go.Proofs.Ytmjpneaccjlpkaa.Rif
open Go.RowKit Gf8 Aes By8 Cel Cf Tap Drw Prm Brd
/- Stage 13's RiffleEven. Written by tools/mkX9j.py. -/
section
variable {o:Oper} {a:Act} {w:World}
theorem execBoxJb {x:Operand} {p q r s:Value} (ho:o.op=.box 38 x) (hx:a.eval x=.agg (akC p q r s)):(execOp a.eval o).run Try.prog w=.ok (.value (.pointer (some ⟨w.heap.size,0,none⟩))) (w.alloc (.cells (akC p q r s) 38)):=by
 unfold execOp
 simp only [ho,hx]
 simp [go_sem,akC]
theorem execFldJb0 {x:Operand} {b:Nat} (ho:o.op=.fieldAddr 38 x 0) (hx:a.eval x=.pointer (some ⟨b,0,none⟩)):(execOp a.eval o).run Try.prog w=.ok (.value (.pointer (some ⟨b,0,none⟩))) w:=by
 unfold execOp
 simp only [ho,hx]
 simp [go_sem]
theorem execFldJb1 {x:Operand} {b:Nat} (ho:o.op=.fieldAddr 38 x 1) (hx:a.eval x=.pointer (some ⟨b,0,none⟩)):(execOp a.eval o).run Try.prog w=.ok (.value (.pointer (some ⟨b,1,none⟩))) w:=by
 unfold execOp
 simp only [ho,hx]
 simp [go_sem]
theorem execFldJb2 {x:Operand} {b:Nat} (ho:o.op=.fieldAddr 38 x 2) (hx:a.eval x=.pointer (some ⟨b,0,none⟩)):(execOp a.eval o).run Try.prog w=.ok (.value (.pointer (some ⟨b,2,none⟩))) w:=by
 unfold execOp
 simp only [ho,hx]
 simp [go_sem]
theorem execFldJb3 {x:Operand} {b:Nat} (ho:o.op=.fieldAddr 38 x 3) (hx:a.eval x=.pointer (some ⟨b,0,none⟩)):(execOp a.eval o).run Try.prog w=.ok (.value (.pointer (some ⟨b,3,none⟩))) w:=by
 unfold execOp
 simp only [ho,hx]
 simp [go_sem]
end
end Go.Proofs.Ytmjpneaccjlpkaa.Rif
