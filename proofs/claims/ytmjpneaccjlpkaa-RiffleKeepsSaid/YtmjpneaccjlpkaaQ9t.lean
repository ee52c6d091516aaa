import Derived.Test.YtmjpneaccjlpkaaF9b
import Derived.Test.YtmjpneaccjlpkaaQ9s
namespace Go.Proofs.Ytmjpneaccjlpkaa.Brd
open Go.RowKit Gf8 Aes By8 Cel Cf Tap Drw Prm
/- Stage 12's reference: Draws. Written by tools/mkQ9t.py. -/
theorem lit_sl {W:World} {g:Nat} {z:Int} (h:W.heap[g]?=some (.cells #[.int .i64 z] 3)) (hz:-9223372036854775808<=z/\z < 9223372036854775808):SliceI W (.slice (some ⟨g,0,none⟩) 1 1) 1 (fun _=>z):=by
 refine ⟨⟨_,_,rfl,Nat.le_refl _,by unfold maxLen; omega,fun _=>⟨g,0,rfl,(Array.getElem?_eq_some_iff.1 h).1,fun j hj=>?_⟩⟩,fun j _=>hz⟩
 rw [cell_of_row _ _ _ _ _ _ h,show j=0 by omega]
 rfl
section
variable {B k:Nat} {x:Nat->Value} {nn:Nat->Nat} {ff:Nat->Nat->Int} {W:World}
theorem FmI.app1 {t:Nat} {z:Int} (h:FmI B k x (updD nn t 1) (updG ff t (catI (nn t) (ff t) (fun _=>z))) W) (ez:z=ff t (nn t)):FmI B k x (updD nn t 1) ff W:=by
 refine FmI.cgF h fun s hs j hj=>?_
 by_cases e:s=t
 ·subst e
  have hj2:j < nn s+1:=by
   have:updD nn s 1 s=nn s+1:=if_pos rfl
   omega
  show (if s=s then catI (nn s) (ff s) (fun _=>z) else ff s) j=ff s j
  rw [if_pos rfl]
  unfold catI
  by_cases q:j < nn s
  ·rw [if_pos q]
  ·rw [if_neg q,ez,show j=nn s by omega]
 ·show (if s=t then catI (nn t) (ff t) (fun _=>z) else ff s) j=ff s j
  rw [if_neg e]
theorem FmI.renew {t:Nat} (h:FmI B k x nn ff W) (_ht:t < k) (hz:nn t=0):FmI B k (updX x t (.slice none 0 0)) nn ff W:=by
 have xo:∀ s,s ≠ t->updX x t (.slice none 0 0) s=x s:=fun s hs=>if_neg hs
 have xt:updX x t (.slice none 0 0) t=.slice none 0 0:=if_pos rfl
 refine ⟨fun s hs=>?_,fun s u hs hu hsu b e=>?_⟩
 ·by_cases q:s=t
  ·subst q
   rw [xt,hz]
   exact World.ownsRow_nil _ _ _ _
  ·rw [xo s q]
   exact h.rows s hs
 ·by_cases q:s=t
  ·subst q
   rw [xt] at e
   cases e
  ·rw [xo s q] at e
   by_cases q2:u=t
   ·subst q2
    rw [xt]
    intro e2
    cases e2
   ·rw [xo u q2]
    exact h.dis s u hs hu hsu b e
end
def nnR (J i t:Nat):Nat:=if t < 2 then J else i
def ffR (sf cf vf:Nat->Int) (i t:Nat):Nat->Int:=
 if t=0 then fun j=>(lefC (gN sf) (gN cf) i j:Int) else if t=1 then fun j=>((sumN (gN sf) j+cntC (gN cf) j i:Nat):Int) else dwF sf cf vf
theorem ffR_next (sf cf vf:Nat->Int) {i c p q:Nat} (ec:gN cf i=c) (ep:sumN (gN sf) c+cntC (gN cf) c i=p) (eq:lefC (gN sf) (gN cf) i c=q) :
  ∀ t,t < 3->∀ j,updF (updF (ffR sf cf vf i) 0 c ((q - 1:Nat):Int)) 1 c ((p+1:Nat):Int) t j=ffR sf cf vf (i+1) t j:=fun t ht j=>by
 match t,ht with
 | 0,_=>
  rw [updF_o (by omega),updF_at]
  show (if j=c then ((q - 1:Nat):Int) else ((lefC _ _ i j:Nat):Int))=((lefC (gN sf) (gN cf) (i+1) j:Nat):Int)
  rw [lefC_succ,ec]
  by_cases e:j=c
  ·subst e
   rw [if_pos rfl,dec1_at,eq]
  ·rw [if_neg e,dec1_o e]
 | 1,_=>
  rw [updF_at,updF_o (by omega)]
  show (if j=c then ((p+1:Nat):Int) else ((sumN (gN sf) j+cntC _ j i:Nat):Int))=((sumN (gN sf) j+(cntC (gN cf) j i+if gN cf i=j then 1 else 0):Nat):Int)
  rw [ec]
  by_cases e:j=c
  ·subst e
   rw [if_pos rfl,if_pos rfl,← ep,Nat.add_assoc]
  ·rw [if_neg e,if_neg (fun z=>e z.symm),Nat.add_zero]
 | 2,_=>rw [updF_o (by omega),updF_o (by omega)]; rfl
 | t+3,h=>omega
set_option maxRecDepth 100000 in
set_option maxHeartbeats 4000000 in
theorem rdraws12 (sf cf vf:Nat->Int) (J n m:Nat) (v u0 u1:Value) (V:World) (FI:SliceI V v J sf) (hJ17:J<=17592186044416) (FJ:SliceI V u0 n cf) (hn17:n<=17592186044416) (FK:SliceI V u1 m vf) :
  Calls Try.prog 30 #[v,u0,u1] V fun e w'=>∃ r,e=.returned (.tuple #[r,.int .i64 ((drE sf J cf n vf m:Nat):Int)])/\w'.ownsRow V.heap.size 3 1 r (zl (drE sf J cf n vf m) n) (intsL (zl (drE sf J cf n vf m) n) (dwF sf cf vf))/\Below V.heap.size V w':=by
 go_enter Try.func30,Try.ntmps30
 refine wp_seq ?_
 refine wo_ 128 [(0,v),(1,u0),(2,u1)] ?_
 rintro a A ⟨t0,t1,t2,-⟩
 refine wi_ A (h3_ t0 t1 t2) (rf_ [] (h3_ t0 t1 t2) ?_)
 rintro a A - ⟨t0,t1,t2,-⟩
 have BW:Below V.heap.size V V:=Below.refl _ _
 have BB:=BW
 cases hs:szQ sf J with
 | false=>
  refine wp_seq ?_
  refine wi_ A (h3_ t0 t1 t2) (rc_ 1 ((show toT sf J=-1 by rw [szQ_toT,hs]; rfl) ▸ rtotal sf J _ V (FI.on BB) hJ17) (cb_ fun X1 bQ=>?_))
  replace BB:=BB.trans (bQ.mono BB.size)
  clear bQ
  refine rf_ [(8,.int .i64 (-1))] (h3_ t0 t1 t2) ?_
  rintro a A ⟨t8,-⟩ ⟨t0,t1,t2,-⟩
  refine wp_seq (wp_seq ?_)
  refine wi_ A (h4_ t0 t1 t2 t8) (rv_ 1 (.bool true) (fun a e=>execLtCt (p:=-1) (q:=0) rfl (e _) (by omega)) (rf_ [(34,.bool true)] (h4_ t0 t1 t2 t8) ?_))
  rintro a A ⟨t34,-⟩ ⟨t0,t1,t2,t8,-⟩
  refine wp_cond_true t34 ?_
  refine wp_seq ?_
  refine wi_ A (h4_ t0 t1 t2 t8) (rg_ [(6,.slice none 0 0),(7,.int .i64 ((2:Nat):Int))] ?_)
  rintro a A ⟨t6,t7,-⟩
  have hE:drE sf J cf n vf m=2:=drE_no fun q=>by have:=(drQ_iff.1 q).1; rw [hs] at this; cases this
  rw [hE,zl_no (by decide)]
  refine wp_ret ?_
  repeat (first | with_reducible refine ret_in ?_ | with_reducible refine ret_then ?_)
  refine bodyPost_ret (results_tmp2 rfl _ _ _) A.2 ⟨_,?_,World.ownsRow_nil _ _ _ _,BB⟩
  show Ending.returned (.tuple #[a.eval (.tmp 6),a.eval (.tmp 7)])=_
  rw [t6,t7]
 | true=>
  by_cases hnS:n=sumN (gN sf) J
  ·by_cases hmS:m=sumN (gN sf) J
   ·refine wp_seq ?_
    refine wi_ A (h3_ t0 t1 t2) (rc_ 1 ((show toT sf J=((sumN (gN sf) J:Nat):Int) by rw [szQ_toT,if_pos hs]) ▸ rtotal sf J _ V (FI.on BB) hJ17) (cb_ fun X1 bQ=>?_))
    replace BB:=BB.trans (bQ.mono BB.size)
    clear bQ
    refine rf_ [(8,.int .i64 ((sumN (gN sf) J:Nat):Int))] (h3_ t0 t1 t2) ?_
    rintro a A ⟨t8,-⟩ ⟨t0,t1,t2,-⟩
    refine wp_seq (wp_seq ?_)
    refine wi_ A (h4_ t0 t1 t2 t8) (rv_ 1 (.bool false) (fun a e=>execDec (execLtW (p:=sumN (gN sf) J) (q:=0) rfl (e _) rfl) (decide_eq_false (by omega))) (rv_ 4 (.int .i64 ((n:Nat):Int)) (fun a e=>execLenI (len:=n) rfl (e _) ((FJ.on BB)).shp) (rv_ 6 (.bool false) (fun a e=>execDec (execNeN (p:=n) (q:=sumN (gN sf) J) rfl (e _) (e _)) (decide_eq_false (by omega))) (rv_ 10 (.int .i64 ((m:Nat):Int)) (fun a e=>execLenI (len:=m) rfl (e _) ((FK.on BB)).shp) (rv_ 12 (.bool false) (fun a e=>execDec (execNeN (p:=m) (q:=sumN (gN sf) J) rfl (e _) (e _)) (decide_eq_false (by omega))) (rf_ [(34,.bool false)] (h4_ t0 t1 t2 t8) ?_))))))
    rintro a A ⟨t34,-⟩ ⟨t0,t1,t2,t8,-⟩
    refine wp_cond_false t34 (wp_skip ?_)
    clear t34
    have hok:=(szQ_iff.1 hs).2
    have hJ64:=(szQ_iff.1 hs).1.2
    have hsum:=okS_sum hok
    rw [← hnS] at t8
    refine wp_seq ?_
    refine wi_ A (h4_ t0 t1 t2 t8) (rf_ [(9,.slice none 0 0),(10,.slice none 0 0)] (h4_ t0 t1 t2 t8) ?_)
    rintro a A ⟨t9,t10,-⟩ ⟨t0,t1,t2,t8,-⟩
    have FM:(FmI V.heap.size 3 (fun _=>.slice none 0 0) (nnR 0 0) (ffR sf cf vf 0) X1):=FmI.cgN (FmI.nils _ _ _ _) (fun t ht=>by match t,ht with | 0,_=>rfl | 1,_=>rfl | 2,_=>rfl | t+3,h=>omega)
    refine wp_seq ?_
    refine wi_ A (h6_ t0 t1 t2 t8 t9 t10) (rf_ [(11,.int .i64 ((0:Nat):Int))] (h6_ t0 t1 t2 t8 t9 t10) ?_)
    rintro a A ⟨t11,-⟩ ⟨t0,t1,t2,t8,t9,t10,-⟩
    refine wp_seq (wp_seq ?_)
    refine wi_ A (h7_ t0 t1 t2 t8 t9 t10 t11) (rf_ [(12,.int .i64 ((0:Nat):Int))] (h7_ t0 t1 t2 t8 t9 t10 t11) ?_)
    rintro a A ⟨t12,-⟩ ⟨t0,t1,t2,t8,t9,t10,t11,-⟩
    refine wp_block ?_
    refine wp_loop (fun a W=>∃ (i:Nat) (x:Nat->Value),i<=J/\(a.tmps.size=128/\a.defers=[])/\a.eval (.tmp 0)=v/\a.eval (.tmp 1)=u0/\a.eval (.tmp 2)=u1/\a.eval (.tmp 8)=.int .i64 ((n:Nat):Int)/\a.eval (.tmp 9)=x 0/\a.eval (.tmp 10)=x 1/\a.eval (.tmp 11)=.int .i64 ((sumN (gN sf) i:Nat):Int)/\a.eval (.tmp 12)=.int .i64 ((i:Nat):Int)/\Below V.heap.size V W/\(FmI V.heap.size 3 (x) (nnR i 0) (ffR sf cf vf 0) W)) (fun a _=>J - (intOf (a.eval (.tmp 12))).toNat) ⟨0,(fun _=>.slice none 0 0),Nat.zero_le _,A,t0,t1,t2,t8,t9,t10,t11,t12,BB,FM⟩ ?_
    rintro a XL7 ⟨i,x,hi,A,t0,t1,t2,t8,t9,t10,t11,t12,BB,FM⟩
    have esi:=t12
    refine wp_seq (wp_seq ?_)
    refine wi_ A (h8_ t0 t1 t2 t8 t9 t10 t11 t12) (rv_ 2 (.int .i64 ((J:Nat):Int)) (fun a e=>execLenI (len:=J) rfl (e _) ((FI.on BB)).shp) (rv_ 3 (.bool (decide (i < J))) (fun a e=>execLtW (p:=i) (q:=J) rfl (e _) (e _)) (rf_ [(38,.bool (decide (i < J)))] (h8_ t0 t1 t2 t8 t9 t10 t11 t12) ?_)))
    rintro a A ⟨t38,-⟩ ⟨t0,t1,t2,t8,t9,t10,t11,t12,-⟩
    by_cases lti:i < J
    ·rw [decide_eq_true lti] at t38
     refine wp_cond_true t38 (wp_skip ?_)
     clear t38
     refine wp_seq (wp_block ?_)
     obtain ⟨ssb,sso,ssc,ess,hssb,hssc⟩:=open_sl FI (by omega)
     have css:∀ k,k < J->∀ X,Below V.heap.size V X->X.cell? ⟨ssb,sso+k,none⟩=some (.int .i64 ((sf) k)):=fun k hk X hX=>by rw [cell_below hX hssb]; exact hssc k hk
     have hsj:=okS_nn hok lti
     have hsa:=sumN_at (r:=gN sf) lti
     refine wp_seq ?_
     obtain ⟨g46,egg46⟩:∃ z_:Nat,XL7.heap.size=z_:=⟨_,rfl⟩
     refine wi_ A (h8_ t0 t1 t2 t8 t9 t10 t11 t12) (rv_ 3 (.pointer (some ⟨ssb,sso+i,none⟩)) (fun a e=>execIdxN (k:=i) rfl ((e _).trans ess) (e _) lti) (rv_ 4 (.int .i64 ((gN sf i:Nat):Int)) (fun a e=>execLd3 rfl (e _) ((css i lti XL7 BB).trans (by rw [hsj]))) (rs_ 5 (fun a e=>?_))))
     refine stepV rfl rfl (execBsI (z:=((gN sf i:Nat):Int)) rfl (e _)) ⟨.slice (some ⟨g46,0,none⟩) 1 1,⟨_,rfl,by subst egg46; rfl⟩,fun X9_1 hX=>?_⟩
     have bQ:Below XL7.heap.size XL7 X9_1:=by subst hX egg46; exact (belNew XL7 _)
     have Fg46:(X9_1.heap[g46]?=some (.cells #[.int .i64 (((gN sf i:Nat):Int))] 3)):=by subst hX egg46; exact heapNew XL7 _
     replace FM:=(FM.on bQ)
     replace BB:=BB.trans (bQ.mono BB.size)
     clear bQ hX egg46 e a
     refine rs_ 6 (fun a e=>?_)
     refine stepFm (x:=x) (k:=3) (t:=0) (l:=1) (q:=fun _=>((gN sf i:Nat):Int)) rfl rfl rfl (e _) (e _) FM (by omega) (lit_sl Fg46 (by omega)) ⟨_,_,rfl⟩ (by omega) (show i+1<=_ by omega) (BB).size fun v47 X9 fm' gr=>⟨_,⟨_,rfl,rfl⟩,eqw ?_⟩
     obtain ⟨BB,FM1⟩:Below V.heap.size V X9/\(FmI V.heap.size 3 (updX x 0 v47) (updD (nnR i 0) 0 1) (ffR sf cf vf 0) X9):=⟨(BB).grown gr (BB).size (fun k hk=>((FM.rows 0 (by omega)).lt k hk).1),FmI.app1 fm' rfl⟩
     clear FM Fg46 e a
     refine rf_ [(9,v47)] (h7_ t0 t1 t2 t8 t10 t11 t12) ?_
     rintro a A ⟨t9,-⟩ ⟨t0,t1,t2,t8,t10,t11,t12,-⟩
     refine wp_seq ?_
     obtain ⟨g50,egg50⟩:∃ z_:Nat,X9.heap.size=z_:=⟨_,rfl⟩
     refine wi_ A (h8_ t0 t1 t2 t8 t9 t10 t11 t12) (rs_ 2 (fun a e=>?_))
     refine stepV rfl rfl (execBsI (z:=((sumN (gN sf) i:Nat):Int)) rfl (e _)) ⟨.slice (some ⟨g50,0,none⟩) 1 1,⟨_,rfl,by subst egg50; rfl⟩,fun X10_1 hX=>?_⟩
     have bQ:Below X9.heap.size X9 X10_1:=by subst hX egg50; exact (belNew X9 _)
     have Fg50:(X10_1.heap[g50]?=some (.cells #[.int .i64 (((sumN (gN sf) i:Nat):Int))] 3)):=by subst hX egg50; exact heapNew X9 _
     replace FM1:=(FM1.on bQ)
     replace BB:=BB.trans (bQ.mono BB.size)
     clear bQ hX egg50 e a
     refine rs_ 3 (fun a e=>?_)
     refine stepFm (x:=updX x 0 v47) (k:=3) (t:=1) (l:=1) (q:=fun _=>((sumN (gN sf) i:Nat):Int)) rfl rfl rfl (e _) (e _) FM1 (by omega) (lit_sl Fg50 (by omega)) ⟨_,_,rfl⟩ (by omega) (show i+1<=_ by omega) (BB).size fun v51 X10 fm' gr=>⟨_,⟨_,rfl,rfl⟩,eqw ?_⟩
     obtain ⟨BB,FM2⟩:Below V.heap.size V X10/\(FmI V.heap.size 3 (updX (updX x 0 v47) 1 v51) (updD (updD (nnR i 0) 0 1) 1 1) (ffR sf cf vf 0) X10):=⟨(BB).grown gr (BB).size (fun k hk=>((FM1.rows 1 (by omega)).lt k hk).1),FmI.app1 fm' rfl⟩
     clear FM1 Fg50 e a
     refine rf_ [(10,v51)] (h7_ t0 t1 t2 t8 t9 t11 t12) ?_
     rintro a A ⟨t10,-⟩ ⟨t0,t1,t2,t8,t9,t11,t12,-⟩
     refine wi_ A (h8_ t0 t1 t2 t8 t9 t10 t11 t12) (rv_ 3 (.pointer (some ⟨ssb,sso+i,none⟩)) (fun a e=>execIdxN (k:=i) rfl ((e _).trans ess) (e _) lti) (rv_ 4 (.int .i64 ((gN sf i:Nat):Int)) (fun a e=>execLd3 rfl (e _) ((css i lti X10 BB).trans (by rw [hsj]))) (rv_ 5 (.int .i64 ((sumN (gN sf) i+gN sf i:Nat):Int)) (fun a e=>execAd8 (p:=sumN (gN sf) i) (q:=gN sf i) rfl (e _) (e _) (by omega)) (rf_ [(11,.int .i64 ((sumN (gN sf) i+gN sf i:Nat):Int))] (h7_ t0 t1 t2 t8 t9 t10 t12) ?_))))
     rintro a A ⟨t11,-⟩ ⟨t0,t1,t2,t8,t9,t10,t12,-⟩
     have FM3:(FmI V.heap.size 3 (updX (updX x 0 v47) 1 v51) (nnR (i+1) 0) (ffR sf cf vf 0) X10):=FmI.cgN FM2 (fun t ht=>by match t,ht with | 0,_=>rfl | 1,_=>rfl | 2,_=>rfl | t+3,h=>omega)
     clear FM2
     refine wi_ A (h8_ t0 t1 t2 t8 t9 t10 t11 t12) (rv_ 1 (.int .i64 ((i+1:Nat):Int)) (fun a e=>execAd8 (p:=i) (q:=1) rfl (e _) rfl (by omega)) (rf_ [(12,.int .i64 ((i+1:Nat):Int))] (h7_ t0 t1 t2 t8 t9 t10 t11) ?_))
     rintro a A ⟨t12,-⟩ ⟨t0,t1,t2,t8,t9,t10,t11,-⟩
     exact ⟨⟨i+1,updX (updX x 0 v47) 1 v51,lti,A,t0,t1,t2,t8,t9,t10,t11,t12,BB,FM3⟩,by show J - (intOf (a.eval (.tmp 12))).toNat < J - (intOf (Act.eval _ (.tmp 12))).toNat; rw [t12,esi]; show J - (i+1) < J - i; omega⟩
    ·rw [decide_eq_false lti] at t38
     refine wp_cond_false t38 ?_
     refine wp_exit ?_
     first | with_reducible refine exit_in ?_ | with_reducible refine exit_then (exit_in ?_) | with_reducible refine exit_then (exit_then (exit_in ?_)) | refine exit_in ?_ | refine exit_then (exit_in ?_) | refine exit_then (exit_then (exit_in ?_))
     clear t38 esi
     have hiJ:i=J:=by omega
     rw [hiJ] at FM
     clear t11 t12
     refine wp_seq ?_
     refine wi_ A (h6_ t0 t1 t2 t8 t9 t10) (rf_ [(13,.slice none 0 0)] (h6_ t0 t1 t2 t8 t9 t10) ?_)
     rintro a A ⟨t13,-⟩ ⟨t0,t1,t2,t8,t9,t10,-⟩
     refine wp_seq (wp_seq ?_)
     refine wi_ A (h7_ t0 t1 t2 t8 t9 t10 t13) (rf_ [(14,.int .i64 ((0:Nat):Int))] (h7_ t0 t1 t2 t8 t9 t10 t13) ?_)
     rintro a A ⟨t14,-⟩ ⟨t0,t1,t2,t8,t9,t10,t13,-⟩
     have FMb:(FmI V.heap.size 3 (updX x 2 (.slice none 0 0)) (nnR J 0) (ffR sf cf vf 0) XL7):=FmI.renew FM (by omega) rfl
     clear FM
     refine wp_block ?_
     refine wp_loop (fun a W=>∃ (p:Nat) (y:Nat->Value),p<=n/\(allB (rdB sf J cf vf) p=true)/\(a.tmps.size=128/\a.defers=[])/\a.eval (.tmp 0)=v/\a.eval (.tmp 1)=u0/\a.eval (.tmp 2)=u1/\a.eval (.tmp 8)=.int .i64 ((n:Nat):Int)/\a.eval (.tmp 9)=y 0/\a.eval (.tmp 10)=y 1/\a.eval (.tmp 13)=y 2/\a.eval (.tmp 14)=.int .i64 ((p:Nat):Int)/\Below V.heap.size V W/\(FmI V.heap.size 3 (y) (nnR J p) (ffR sf cf vf p) W)) (fun a _=>n - (intOf (a.eval (.tmp 14))).toNat) ⟨0,updX x 2 (.slice none 0 0),Nat.zero_le _,rfl,A,t0,t1,t2,t8,t9,t10,t13,t14,BB,FMb⟩ ?_
     rintro a XL14 ⟨p,y,hp,hrd,A,t0,t1,t2,t8,t9,t10,t13,t14,BB,FMb⟩
     have esp:=t14
     refine wp_seq (wp_seq ?_)
     refine wi_ A (h8_ t0 t1 t2 t8 t9 t10 t13 t14) (rv_ 2 (.bool (decide (p < n))) (fun a e=>execLtW (p:=p) (q:=n) rfl (e _) (e _)) (rf_ [(60,.bool (decide (p < n)))] (h8_ t0 t1 t2 t8 t9 t10 t13 t14) ?_))
     rintro a A ⟨t60,-⟩ ⟨t0,t1,t2,t8,t9,t10,t13,t14,-⟩
     by_cases ltp:p < n
     ·rw [decide_eq_true ltp] at t60
      refine wp_cond_true t60 (wp_skip ?_)
      clear t60
      refine wp_seq (wp_block ?_)
      obtain ⟨ccb,cco,ccc,ecc,hccb,hccc⟩:=open_sl FJ (by omega)
      have ccc:∀ k,k < n->∀ X,Below V.heap.size V X->X.cell? ⟨ccb,cco+k,none⟩=some (.int .i64 ((cf) k)):=fun k hk X hX=>by rw [cell_below hX hccb]; exact hccc k hk
      by_cases h1:cf p < 0
      ·refine wp_seq ?_
       refine wi_ A (h8_ t0 t1 t2 t8 t9 t10 t13 t14) (rv_ 2 (.pointer (some ⟨ccb,cco+p,none⟩)) (fun a e=>execIdxN (k:=p) rfl ((e _).trans ecc) (e _) ltp) (rv_ 3 (.int .i64 (cf p)) (fun a e=>execLd3 rfl (e _) (ccc p ltp XL14 BB)) (rf_ [(15,.int .i64 (cf p))] (h8_ t0 t1 t2 t8 t9 t10 t13 t14) ?_)))
       rintro a A ⟨t15,-⟩ ⟨t0,t1,t2,t8,t9,t10,t13,t14,-⟩
       refine wp_seq (wp_seq ?_)
       refine wi_ A (h9_ t0 t1 t2 t8 t9 t10 t13 t14 t15) (rv_ 1 (.bool true) (fun a e=>execLtCt (p:=(cf p)) (q:=0) rfl (e _) (by exact h1)) (rf_ [(81,.bool true)] (h9_ t0 t1 t2 t8 t9 t10 t13 t14 t15) ?_))
       rintro a A ⟨t81,-⟩ ⟨t0,t1,t2,t8,t9,t10,t13,t14,t15,-⟩
       refine wp_cond_true t81 ?_
       refine wp_seq ?_
       clear FMb
       refine wi_ A (h9_ t0 t1 t2 t8 t9 t10 t13 t14 t15) (rg_ [(6,.slice none 0 0),(7,.int .i64 ((2:Nat):Int))] ?_)
       rintro a A ⟨t6,t7,-⟩
       have hE:drE sf J cf n vf m=2:=drE_no fun q=>by have h_:=(rdB_iff.1 (allB_iff.1 ((rd_dr hs).2 q).2.2 p ltp)).1; omega
       rw [hE,zl_no (by decide)]
       refine wp_ret ?_
       repeat (first | with_reducible refine ret_in ?_ | with_reducible refine ret_then ?_)
       refine bodyPost_ret (results_tmp2 rfl _ _ _) A.2 ⟨_,?_,World.ownsRow_nil _ _ _ _,BB⟩
       show Ending.returned (.tuple #[a.eval (.tmp 6),a.eval (.tmp 7)])=_
       rw [t6,t7]
      ·by_cases h2:(J:Int)<=cf p
       ·obtain ⟨c,ec0⟩:∃ c:Nat,cf p=c:=⟨(cf p).toNat,by omega⟩
        have ec:gN cf p=c:=by show (cf p).toNat=c; omega
        refine wp_seq ?_
        refine wi_ A (h8_ t0 t1 t2 t8 t9 t10 t13 t14) (rv_ 2 (.pointer (some ⟨ccb,cco+p,none⟩)) (fun a e=>execIdxN (k:=p) rfl ((e _).trans ecc) (e _) ltp) (rv_ 3 (.int .i64 ((c:Nat):Int)) (fun a e=>execLd3 rfl (e _) ((ccc p ltp XL14 BB).trans (by rw [ec0]))) (rf_ [(15,.int .i64 ((c:Nat):Int))] (h8_ t0 t1 t2 t8 t9 t10 t13 t14) ?_)))
        rintro a A ⟨t15,-⟩ ⟨t0,t1,t2,t8,t9,t10,t13,t14,-⟩
        refine wp_seq (wp_seq ?_)
        refine wi_ A (h9_ t0 t1 t2 t8 t9 t10 t13 t14 t15) (rv_ 1 (.bool false) (fun a e=>execDec (execLtW (p:=c) (q:=0) rfl (e _) rfl) (decide_eq_false (by omega))) (rv_ 5 (.int .i64 ((J:Nat):Int)) (fun a e=>execLenI (len:=J) rfl (e _) ((FI.on BB)).shp) (rv_ 6 (.bool true) (fun a e=>execDec (execGe8 (p:=c) (q:=J) rfl (e _) (e _)) (decide_eq_true (by omega))) (rf_ [(81,.bool true)] (h9_ t0 t1 t2 t8 t9 t10 t13 t14 t15) ?_))))
        rintro a A ⟨t81,-⟩ ⟨t0,t1,t2,t8,t9,t10,t13,t14,t15,-⟩
        refine wp_cond_true t81 ?_
        refine wp_seq ?_
        clear FMb
        refine wi_ A (h9_ t0 t1 t2 t8 t9 t10 t13 t14 t15) (rg_ [(6,.slice none 0 0),(7,.int .i64 ((2:Nat):Int))] ?_)
        rintro a A ⟨t6,t7,-⟩
        have hE:drE sf J cf n vf m=2:=drE_no fun q=>by have h_:=(rdB_iff.1 (allB_iff.1 ((rd_dr hs).2 q).2.2 p ltp)).1; omega
        rw [hE,zl_no (by decide)]
        refine wp_ret ?_
        repeat (first | with_reducible refine ret_in ?_ | with_reducible refine ret_then ?_)
        refine bodyPost_ret (results_tmp2 rfl _ _ _) A.2 ⟨_,?_,World.ownsRow_nil _ _ _ _,BB⟩
        show Ending.returned (.tuple #[a.eval (.tmp 6),a.eval (.tmp 7)])=_
        rw [t6,t7]
       ·by_cases h3:lefC (gN sf) (gN cf) p (gN cf p)=0
        ·obtain ⟨c,ec0⟩:∃ c:Nat,cf p=c:=⟨(cf p).toNat,by omega⟩
         have ec:gN cf p=c:=by show (cf p).toNat=c; omega
         have hcJ:c < J:=by omega
         obtain ⟨g0,c0,ey0,hB0,_⟩:=ownL_some9 (FMb.rows 0 (by omega)) (show 0 < J by omega)
         obtain ⟨g1,c1,ey1,hB1,_⟩:=ownL_some9 (FMb.rows 1 (by omega)) (show 0 < J by omega)
         obtain ⟨q_,eq⟩:∃ q_,lefC (gN sf) (gN cf) p c=q_:=⟨_,rfl⟩
         obtain ⟨p_,ep⟩:∃ p_,sumN (gN sf) c+cntC (gN cf) c p=p_:=⟨_,rfl⟩
         have hsc:=sumN_at (r:=gN sf) hcJ
         have hp0:poC (gN sf) (gN cf) p=p_:=by rw [← ep,← ec]; rfl
         refine wp_seq ?_
         refine wi_ A (h8_ t0 t1 t2 t8 t9 t10 t13 t14) (rv_ 2 (.pointer (some ⟨ccb,cco+p,none⟩)) (fun a e=>execIdxN (k:=p) rfl ((e _).trans ecc) (e _) ltp) (rv_ 3 (.int .i64 ((c:Nat):Int)) (fun a e=>execLd3 rfl (e _) ((ccc p ltp XL14 BB).trans (by rw [ec0]))) (rf_ [(15,.int .i64 ((c:Nat):Int))] (h8_ t0 t1 t2 t8 t9 t10 t13 t14) ?_)))
         rintro a A ⟨t15,-⟩ ⟨t0,t1,t2,t8,t9,t10,t13,t14,-⟩
         refine wp_seq (wp_seq ?_)
         have hq0:q_=0:=by rw [← eq,← ec]; exact h3
         refine wi_ A (h9_ t0 t1 t2 t8 t9 t10 t13 t14 t15) (rv_ 1 (.bool false) (fun a e=>execDec (execLtW (p:=c) (q:=0) rfl (e _) rfl) (decide_eq_false (by omega))) (rv_ 5 (.int .i64 ((J:Nat):Int)) (fun a e=>execLenI (len:=J) rfl (e _) ((FI.on BB)).shp) (rv_ 6 (.bool false) (fun a e=>execDec (execGe8 (p:=c) (q:=J) rfl (e _) (e _)) (decide_eq_false (by omega))) (rv_ 11 (.pointer (some ⟨g0,0+c,none⟩)) (fun a e=>execIdxN (k:=c) rfl ((e _).trans ey0) (e _) hcJ) (rv_ 12 (.int .i64 ((q_:Nat):Int)) (fun a e=>execLd3 rfl (e _) ((FMb.cell (t:=0) (by omega) ey0 hcJ).1.trans (by rw [← eq]; rfl))) (rv_ 13 (.bool true) (fun a e=>execDec (execEqN (p:=q_) (q:=0) rfl (e _) rfl) (decide_eq_true (by omega))) (rf_ [(81,.bool true)] (h9_ t0 t1 t2 t8 t9 t10 t13 t14 t15) ?_)))))))
         rintro a A ⟨t81,-⟩ ⟨t0,t1,t2,t8,t9,t10,t13,t14,t15,-⟩
         refine wp_cond_true t81 ?_
         refine wp_seq ?_
         clear FMb
         refine wi_ A (h9_ t0 t1 t2 t8 t9 t10 t13 t14 t15) (rg_ [(6,.slice none 0 0),(7,.int .i64 ((2:Nat):Int))] ?_)
         rintro a A ⟨t6,t7,-⟩
         have hE:drE sf J cf n vf m=2:=drE_no fun q=>by have h_:=(rdB_iff.1 (allB_iff.1 ((rd_dr hs).2 q).2.2 p ltp)).2; rw [hp0,ec,eq] at h_; omega
         rw [hE,zl_no (by decide)]
         refine wp_ret ?_
         repeat (first | with_reducible refine ret_in ?_ | with_reducible refine ret_then ?_)
         refine bodyPost_ret (results_tmp2 rfl _ _ _) A.2 ⟨_,?_,World.ownsRow_nil _ _ _ _,BB⟩
         show Ending.returned (.tuple #[a.eval (.tmp 6),a.eval (.tmp 7)])=_
         rw [t6,t7]
        ·have h3b:0 < lefC (gN sf) (gN cf) p (gN cf p):=Nat.pos_of_ne_zero h3
         by_cases h4:vf (poC (gN sf) (gN cf) p) < 0
         ·obtain ⟨c,ec0⟩:∃ c:Nat,cf p=c:=⟨(cf p).toNat,by omega⟩
          have ec:gN cf p=c:=by show (cf p).toNat=c; omega
          have hcJ:c < J:=by omega
          obtain ⟨g0,c0,ey0,hB0,_⟩:=ownL_some9 (FMb.rows 0 (by omega)) (show 0 < J by omega)
          obtain ⟨g1,c1,ey1,hB1,_⟩:=ownL_some9 (FMb.rows 1 (by omega)) (show 0 < J by omega)
          obtain ⟨q_,eq⟩:∃ q_,lefC (gN sf) (gN cf) p c=q_:=⟨_,rfl⟩
          obtain ⟨p_,ep⟩:∃ p_,sumN (gN sf) c+cntC (gN cf) c p=p_:=⟨_,rfl⟩
          have hsc:=sumN_at (r:=gN sf) hcJ
          have hp0:poC (gN sf) (gN cf) p=p_:=by rw [← ep,← ec]; rfl
          rw [ec,eq] at h3b
          rw [hp0] at h4
          try rw [hp0,ec,eq] at h5
          have hq256:q_<=256:=by have hle:q_<=gN sf c:=(by rw [← eq]; exact Nat.sub_le _ _); omega
          have hpm:p_ < m:=by have hle:lefC (gN sf) (gN cf) p c=gN sf c - cntC (gN cf) c p:=rfl; omega
          refine wp_seq ?_
          refine wi_ A (h8_ t0 t1 t2 t8 t9 t10 t13 t14) (rv_ 2 (.pointer (some ⟨ccb,cco+p,none⟩)) (fun a e=>execIdxN (k:=p) rfl ((e _).trans ecc) (e _) ltp) (rv_ 3 (.int .i64 ((c:Nat):Int)) (fun a e=>execLd3 rfl (e _) ((ccc p ltp XL14 BB).trans (by rw [ec0]))) (rf_ [(15,.int .i64 ((c:Nat):Int))] (h8_ t0 t1 t2 t8 t9 t10 t13 t14) ?_)))
          rintro a A ⟨t15,-⟩ ⟨t0,t1,t2,t8,t9,t10,t13,t14,-⟩
          refine wp_seq (wp_seq ?_)
          refine wi_ A (h9_ t0 t1 t2 t8 t9 t10 t13 t14 t15) (rv_ 1 (.bool false) (fun a e=>execDec (execLtW (p:=c) (q:=0) rfl (e _) rfl) (decide_eq_false (by omega))) (rv_ 5 (.int .i64 ((J:Nat):Int)) (fun a e=>execLenI (len:=J) rfl (e _) ((FI.on BB)).shp) (rv_ 6 (.bool false) (fun a e=>execDec (execGe8 (p:=c) (q:=J) rfl (e _) (e _)) (decide_eq_false (by omega))) (rv_ 11 (.pointer (some ⟨g0,0+c,none⟩)) (fun a e=>execIdxN (k:=c) rfl ((e _).trans ey0) (e _) hcJ) (rv_ 12 (.int .i64 ((q_:Nat):Int)) (fun a e=>execLd3 rfl (e _) ((FMb.cell (t:=0) (by omega) ey0 hcJ).1.trans (by rw [← eq]; rfl))) (rv_ 13 (.bool false) (fun a e=>execDec (execEqN (p:=q_) (q:=0) rfl (e _) rfl) (decide_eq_false (by omega))) (rf_ [(81,.bool false)] (h9_ t0 t1 t2 t8 t9 t10 t13 t14 t15) ?_)))))))
          rintro a A ⟨t81,-⟩ ⟨t0,t1,t2,t8,t9,t10,t13,t14,t15,-⟩
          refine wp_cond_false t81 (wp_skip ?_)
          clear t81
          obtain ⟨oob,ooo,ooc,eoo,hoob,hooc⟩:=open_sl FK (by omega)
          have coo:∀ k,k < m->∀ X,Below V.heap.size V X->X.cell? ⟨oob,ooo+k,none⟩=some (.int .i64 ((vf) k)):=fun k hk X hX=>by rw [cell_below hX hoob]; exact hooc k hk
          refine wp_seq ?_
          refine wi_ A (h9_ t0 t1 t2 t8 t9 t10 t13 t14 t15) (rv_ 3 (.pointer (some ⟨g1,0+c,none⟩)) (fun a e=>execIdxN (k:=c) rfl ((e _).trans ey1) (e _) hcJ) (rv_ 4 (.int .i64 ((p_:Nat):Int)) (fun a e=>execLd3 rfl (e _) ((FMb.cell (t:=1) (by omega) ey1 hcJ).1.trans (by rw [← ep]; rfl))) (rv_ 5 (.pointer (some ⟨oob,ooo+p_,none⟩)) (fun a e=>execIdxN (k:=p_) rfl ((e _).trans eoo) (e _) hpm) (rv_ 6 (.int .i64 (vf p_)) (fun a e=>execLd3 rfl (e _) (coo p_ hpm XL14 BB)) (rf_ [(16,.int .i64 (vf p_))] (h9_ t0 t1 t2 t8 t9 t10 t13 t14 t15) ?_)))))
          rintro a A ⟨t16,-⟩ ⟨t0,t1,t2,t8,t9,t10,t13,t14,t15,-⟩
          refine wp_seq (wp_seq ?_)
          refine wi_ A (h10_ t0 t1 t2 t8 t9 t10 t13 t14 t15 t16) (rv_ 1 (.bool true) (fun a e=>execLtCt (p:=(vf p_)) (q:=0) rfl (e _) (by exact h4)) (rf_ [(98,.bool true)] (h10_ t0 t1 t2 t8 t9 t10 t13 t14 t15 t16) ?_))
          rintro a A ⟨t98,-⟩ ⟨t0,t1,t2,t8,t9,t10,t13,t14,t15,t16,-⟩
          refine wp_cond_true t98 ?_
          refine wp_seq ?_
          clear FMb
          refine wi_ A (h10_ t0 t1 t2 t8 t9 t10 t13 t14 t15 t16) (rg_ [(6,.slice none 0 0),(7,.int .i64 ((2:Nat):Int))] ?_)
          rintro a A ⟨t6,t7,-⟩
          have hE:drE sf J cf n vf m=2:=drE_no fun q=>by have h_:=(rdB_iff.1 (allB_iff.1 ((rd_dr hs).2 q).2.2 p ltp)).2; rw [hp0,ec,eq] at h_; omega
          rw [hE,zl_no (by decide)]
          refine wp_ret ?_
          repeat (first | with_reducible refine ret_in ?_ | with_reducible refine ret_then ?_)
          refine bodyPost_ret (results_tmp2 rfl _ _ _) A.2 ⟨_,?_,World.ownsRow_nil _ _ _ _,BB⟩
          show Ending.returned (.tuple #[a.eval (.tmp 6),a.eval (.tmp 7)])=_
          rw [t6,t7]
         ·by_cases h5:(lefC (gN sf) (gN cf) p (gN cf p):Int)<=vf (poC (gN sf) (gN cf) p)
          ·obtain ⟨c,ec0⟩:∃ c:Nat,cf p=c:=⟨(cf p).toNat,by omega⟩
           have ec:gN cf p=c:=by show (cf p).toNat=c; omega
           have hcJ:c < J:=by omega
           obtain ⟨g0,c0,ey0,hB0,_⟩:=ownL_some9 (FMb.rows 0 (by omega)) (show 0 < J by omega)
           obtain ⟨g1,c1,ey1,hB1,_⟩:=ownL_some9 (FMb.rows 1 (by omega)) (show 0 < J by omega)
           obtain ⟨q_,eq⟩:∃ q_,lefC (gN sf) (gN cf) p c=q_:=⟨_,rfl⟩
           obtain ⟨p_,ep⟩:∃ p_,sumN (gN sf) c+cntC (gN cf) c p=p_:=⟨_,rfl⟩
           have hsc:=sumN_at (r:=gN sf) hcJ
           have hp0:poC (gN sf) (gN cf) p=p_:=by rw [← ep,← ec]; rfl
           rw [ec,eq] at h3b
           rw [hp0] at h4
           try rw [hp0,ec,eq] at h5
           have hq256:q_<=256:=by have hle:q_<=gN sf c:=(by rw [← eq]; exact Nat.sub_le _ _); omega
           have hpm:p_ < m:=by have hle:lefC (gN sf) (gN cf) p c=gN sf c - cntC (gN cf) c p:=rfl; omega
           refine wp_seq ?_
           refine wi_ A (h8_ t0 t1 t2 t8 t9 t10 t13 t14) (rv_ 2 (.pointer (some ⟨ccb,cco+p,none⟩)) (fun a e=>execIdxN (k:=p) rfl ((e _).trans ecc) (e _) ltp) (rv_ 3 (.int .i64 ((c:Nat):Int)) (fun a e=>execLd3 rfl (e _) ((ccc p ltp XL14 BB).trans (by rw [ec0]))) (rf_ [(15,.int .i64 ((c:Nat):Int))] (h8_ t0 t1 t2 t8 t9 t10 t13 t14) ?_)))
           rintro a A ⟨t15,-⟩ ⟨t0,t1,t2,t8,t9,t10,t13,t14,-⟩
           refine wp_seq (wp_seq ?_)
           refine wi_ A (h9_ t0 t1 t2 t8 t9 t10 t13 t14 t15) (rv_ 1 (.bool false) (fun a e=>execDec (execLtW (p:=c) (q:=0) rfl (e _) rfl) (decide_eq_false (by omega))) (rv_ 5 (.int .i64 ((J:Nat):Int)) (fun a e=>execLenI (len:=J) rfl (e _) ((FI.on BB)).shp) (rv_ 6 (.bool false) (fun a e=>execDec (execGe8 (p:=c) (q:=J) rfl (e _) (e _)) (decide_eq_false (by omega))) (rv_ 11 (.pointer (some ⟨g0,0+c,none⟩)) (fun a e=>execIdxN (k:=c) rfl ((e _).trans ey0) (e _) hcJ) (rv_ 12 (.int .i64 ((q_:Nat):Int)) (fun a e=>execLd3 rfl (e _) ((FMb.cell (t:=0) (by omega) ey0 hcJ).1.trans (by rw [← eq]; rfl))) (rv_ 13 (.bool false) (fun a e=>execDec (execEqN (p:=q_) (q:=0) rfl (e _) rfl) (decide_eq_false (by omega))) (rf_ [(81,.bool false)] (h9_ t0 t1 t2 t8 t9 t10 t13 t14 t15) ?_)))))))
           rintro a A ⟨t81,-⟩ ⟨t0,t1,t2,t8,t9,t10,t13,t14,t15,-⟩
           refine wp_cond_false t81 (wp_skip ?_)
           clear t81
           obtain ⟨oob,ooo,ooc,eoo,hoob,hooc⟩:=open_sl FK (by omega)
           have coo:∀ k,k < m->∀ X,Below V.heap.size V X->X.cell? ⟨oob,ooo+k,none⟩=some (.int .i64 ((vf) k)):=fun k hk X hX=>by rw [cell_below hX hoob]; exact hooc k hk
           obtain ⟨o_,eo⟩:∃ o_:Nat,vf p_=o_:=⟨(vf p_).toNat,by omega⟩
           refine wp_seq ?_
           refine wi_ A (h9_ t0 t1 t2 t8 t9 t10 t13 t14 t15) (rv_ 3 (.pointer (some ⟨g1,0+c,none⟩)) (fun a e=>execIdxN (k:=c) rfl ((e _).trans ey1) (e _) hcJ) (rv_ 4 (.int .i64 ((p_:Nat):Int)) (fun a e=>execLd3 rfl (e _) ((FMb.cell (t:=1) (by omega) ey1 hcJ).1.trans (by rw [← ep]; rfl))) (rv_ 5 (.pointer (some ⟨oob,ooo+p_,none⟩)) (fun a e=>execIdxN (k:=p_) rfl ((e _).trans eoo) (e _) hpm) (rv_ 6 (.int .i64 ((o_:Nat):Int)) (fun a e=>execLd3 rfl (e _) ((coo p_ hpm XL14 BB).trans (by rw [eo]))) (rf_ [(16,.int .i64 ((o_:Nat):Int))] (h9_ t0 t1 t2 t8 t9 t10 t13 t14 t15) ?_)))))
           rintro a A ⟨t16,-⟩ ⟨t0,t1,t2,t8,t9,t10,t13,t14,t15,-⟩
           refine wp_seq (wp_seq ?_)
           refine wi_ A (h10_ t0 t1 t2 t8 t9 t10 t13 t14 t15 t16) (rv_ 1 (.bool false) (fun a e=>execDec (execLtW (p:=o_) (q:=0) rfl (e _) rfl) (decide_eq_false (by omega))) (rv_ 6 (.pointer (some ⟨g0,0+c,none⟩)) (fun a e=>execIdxN (k:=c) rfl ((e _).trans ey0) (e _) hcJ) (rv_ 7 (.int .i64 ((q_:Nat):Int)) (fun a e=>execLd3 rfl (e _) ((FMb.cell (t:=0) (by omega) ey0 hcJ).1.trans (by rw [← eq]; rfl))) (rv_ 8 (.bool true) (fun a e=>execDec (execGe8 (p:=o_) (q:=q_) rfl (e _) (e _)) (decide_eq_true (by omega))) (rf_ [(98,.bool true)] (h10_ t0 t1 t2 t8 t9 t10 t13 t14 t15 t16) ?_)))))
           rintro a A ⟨t98,-⟩ ⟨t0,t1,t2,t8,t9,t10,t13,t14,t15,t16,-⟩
           refine wp_cond_true t98 ?_
           refine wp_seq ?_
           clear FMb
           refine wi_ A (h10_ t0 t1 t2 t8 t9 t10 t13 t14 t15 t16) (rg_ [(6,.slice none 0 0),(7,.int .i64 ((2:Nat):Int))] ?_)
           rintro a A ⟨t6,t7,-⟩
           have hE:drE sf J cf n vf m=2:=drE_no fun q=>by have h_:=(rdB_iff.1 (allB_iff.1 ((rd_dr hs).2 q).2.2 p ltp)).2; rw [hp0,ec,eq] at h_; omega
           rw [hE,zl_no (by decide)]
           refine wp_ret ?_
           repeat (first | with_reducible refine ret_in ?_ | with_reducible refine ret_then ?_)
           refine bodyPost_ret (results_tmp2 rfl _ _ _) A.2 ⟨_,?_,World.ownsRow_nil _ _ _ _,BB⟩
           show Ending.returned (.tuple #[a.eval (.tmp 6),a.eval (.tmp 7)])=_
           rw [t6,t7]
          ·obtain ⟨c,ec0⟩:∃ c:Nat,cf p=c:=⟨(cf p).toNat,by omega⟩
           have ec:gN cf p=c:=by show (cf p).toNat=c; omega
           have hcJ:c < J:=by omega
           obtain ⟨g0,c0,ey0,hB0,_⟩:=ownL_some9 (FMb.rows 0 (by omega)) (show 0 < J by omega)
           obtain ⟨g1,c1,ey1,hB1,_⟩:=ownL_some9 (FMb.rows 1 (by omega)) (show 0 < J by omega)
           obtain ⟨q_,eq⟩:∃ q_,lefC (gN sf) (gN cf) p c=q_:=⟨_,rfl⟩
           obtain ⟨p_,ep⟩:∃ p_,sumN (gN sf) c+cntC (gN cf) c p=p_:=⟨_,rfl⟩
           have hsc:=sumN_at (r:=gN sf) hcJ
           have hp0:poC (gN sf) (gN cf) p=p_:=by rw [← ep,← ec]; rfl
           rw [ec,eq] at h3b
           rw [hp0] at h4
           try rw [hp0,ec,eq] at h5
           have hq256:q_<=256:=by have hle:q_<=gN sf c:=(by rw [← eq]; exact Nat.sub_le _ _); omega
           have hpm:p_ < m:=by have hle:lefC (gN sf) (gN cf) p c=gN sf c - cntC (gN cf) c p:=rfl; omega
           refine wp_seq ?_
           refine wi_ A (h8_ t0 t1 t2 t8 t9 t10 t13 t14) (rv_ 2 (.pointer (some ⟨ccb,cco+p,none⟩)) (fun a e=>execIdxN (k:=p) rfl ((e _).trans ecc) (e _) ltp) (rv_ 3 (.int .i64 ((c:Nat):Int)) (fun a e=>execLd3 rfl (e _) ((ccc p ltp XL14 BB).trans (by rw [ec0]))) (rf_ [(15,.int .i64 ((c:Nat):Int))] (h8_ t0 t1 t2 t8 t9 t10 t13 t14) ?_)))
           rintro a A ⟨t15,-⟩ ⟨t0,t1,t2,t8,t9,t10,t13,t14,-⟩
           refine wp_seq (wp_seq ?_)
           refine wi_ A (h9_ t0 t1 t2 t8 t9 t10 t13 t14 t15) (rv_ 1 (.bool false) (fun a e=>execDec (execLtW (p:=c) (q:=0) rfl (e _) rfl) (decide_eq_false (by omega))) (rv_ 5 (.int .i64 ((J:Nat):Int)) (fun a e=>execLenI (len:=J) rfl (e _) ((FI.on BB)).shp) (rv_ 6 (.bool false) (fun a e=>execDec (execGe8 (p:=c) (q:=J) rfl (e _) (e _)) (decide_eq_false (by omega))) (rv_ 11 (.pointer (some ⟨g0,0+c,none⟩)) (fun a e=>execIdxN (k:=c) rfl ((e _).trans ey0) (e _) hcJ) (rv_ 12 (.int .i64 ((q_:Nat):Int)) (fun a e=>execLd3 rfl (e _) ((FMb.cell (t:=0) (by omega) ey0 hcJ).1.trans (by rw [← eq]; rfl))) (rv_ 13 (.bool false) (fun a e=>execDec (execEqN (p:=q_) (q:=0) rfl (e _) rfl) (decide_eq_false (by omega))) (rf_ [(81,.bool false)] (h9_ t0 t1 t2 t8 t9 t10 t13 t14 t15) ?_)))))))
           rintro a A ⟨t81,-⟩ ⟨t0,t1,t2,t8,t9,t10,t13,t14,t15,-⟩
           refine wp_cond_false t81 (wp_skip ?_)
           clear t81
           obtain ⟨oob,ooo,ooc,eoo,hoob,hooc⟩:=open_sl FK (by omega)
           have coo:∀ k,k < m->∀ X,Below V.heap.size V X->X.cell? ⟨oob,ooo+k,none⟩=some (.int .i64 ((vf) k)):=fun k hk X hX=>by rw [cell_below hX hoob]; exact hooc k hk
           obtain ⟨o_,eo⟩:∃ o_:Nat,vf p_=o_:=⟨(vf p_).toNat,by omega⟩
           refine wp_seq ?_
           refine wi_ A (h9_ t0 t1 t2 t8 t9 t10 t13 t14 t15) (rv_ 3 (.pointer (some ⟨g1,0+c,none⟩)) (fun a e=>execIdxN (k:=c) rfl ((e _).trans ey1) (e _) hcJ) (rv_ 4 (.int .i64 ((p_:Nat):Int)) (fun a e=>execLd3 rfl (e _) ((FMb.cell (t:=1) (by omega) ey1 hcJ).1.trans (by rw [← ep]; rfl))) (rv_ 5 (.pointer (some ⟨oob,ooo+p_,none⟩)) (fun a e=>execIdxN (k:=p_) rfl ((e _).trans eoo) (e _) hpm) (rv_ 6 (.int .i64 ((o_:Nat):Int)) (fun a e=>execLd3 rfl (e _) ((coo p_ hpm XL14 BB).trans (by rw [eo]))) (rf_ [(16,.int .i64 ((o_:Nat):Int))] (h9_ t0 t1 t2 t8 t9 t10 t13 t14 t15) ?_)))))
           rintro a A ⟨t16,-⟩ ⟨t0,t1,t2,t8,t9,t10,t13,t14,t15,-⟩
           refine wp_seq (wp_seq ?_)
           refine wi_ A (h10_ t0 t1 t2 t8 t9 t10 t13 t14 t15 t16) (rv_ 1 (.bool false) (fun a e=>execDec (execLtW (p:=o_) (q:=0) rfl (e _) rfl) (decide_eq_false (by omega))) (rv_ 6 (.pointer (some ⟨g0,0+c,none⟩)) (fun a e=>execIdxN (k:=c) rfl ((e _).trans ey0) (e _) hcJ) (rv_ 7 (.int .i64 ((q_:Nat):Int)) (fun a e=>execLd3 rfl (e _) ((FMb.cell (t:=0) (by omega) ey0 hcJ).1.trans (by rw [← eq]; rfl))) (rv_ 8 (.bool false) (fun a e=>execDec (execGe8 (p:=o_) (q:=q_) rfl (e _) (e _)) (decide_eq_false (by omega))) (rf_ [(98,.bool false)] (h10_ t0 t1 t2 t8 t9 t10 t13 t14 t15 t16) ?_)))))
           rintro a A ⟨t98,-⟩ ⟨t0,t1,t2,t8,t9,t10,t13,t14,t15,t16,-⟩
           refine wp_cond_false t98 (wp_skip ?_)
           clear t98
           have hrdp:rdB sf J cf vf p=true:=rdB_iff.2 ⟨by omega,by rw [hp0,ec,eq]; omega⟩
           have hlb:sumN (lefC (gN sf) (gN cf) p) J<=sumN (gN sf) J:=sumN_le fun j _=>Nat.sub_le _ _
           refine wp_seq ?_
           refine wi_ A (h10_ t0 t1 t2 t8 t9 t10 t13 t14 t15 t16) (rf_ [(17,.int .i64 ((o_:Nat):Int))] (h9_ t0 t1 t2 t8 t9 t10 t13 t14 t15) ?_)
           rintro a A ⟨t17,-⟩ ⟨t0,t1,t2,t8,t9,t10,t13,t14,t15,-⟩
           refine wp_seq (wp_seq ?_)
           refine wi_ A (h10_ t0 t1 t2 t8 t9 t10 t13 t14 t15 t17) (rf_ [(18,.int .i64 ((0:Nat):Int))] (h10_ t0 t1 t2 t8 t9 t10 t13 t14 t15 t17) ?_)
           rintro a A ⟨t18,-⟩ ⟨t0,t1,t2,t8,t9,t10,t13,t14,t15,t17,-⟩
           refine wp_block ?_
           refine wp_loop (fun a W=>∃ (d:Nat),d<=c/\(a.tmps.size=128/\a.defers=[])/\a.eval (.tmp 0)=v/\a.eval (.tmp 1)=u0/\a.eval (.tmp 2)=u1/\a.eval (.tmp 8)=.int .i64 ((n:Nat):Int)/\a.eval (.tmp 9)=y 0/\a.eval (.tmp 10)=y 1/\a.eval (.tmp 13)=y 2/\a.eval (.tmp 14)=.int .i64 ((p:Nat):Int)/\a.eval (.tmp 15)=.int .i64 ((c:Nat):Int)/\a.eval (.tmp 17)=.int .i64 ((o_+sumN (lefC (gN sf) (gN cf) p) d:Nat):Int)/\a.eval (.tmp 18)=.int .i64 ((d:Nat):Int)/\Below V.heap.size V W/\(FmI V.heap.size 3 (y) (nnR J p) (ffR sf cf vf p) W)) (fun a _=>c - (intOf (a.eval (.tmp 18))).toNat) ⟨0,Nat.zero_le _,A,t0,t1,t2,t8,t9,t10,t13,t14,t15,t17,t18,BB,FMb⟩ ?_
           rintro a XL24 ⟨d,hd,A,t0,t1,t2,t8,t9,t10,t13,t14,t15,t17,t18,BB,FMb⟩
           have esd:=t18
           refine wp_seq (wp_seq ?_)
           refine wi_ A (h11_ t0 t1 t2 t8 t9 t10 t13 t14 t15 t17 t18) (rv_ 2 (.bool (decide (d < c))) (fun a e=>execLtW (p:=d) (q:=c) rfl (e _) (e _)) (rf_ [(102,.bool (decide (d < c)))] (h11_ t0 t1 t2 t8 t9 t10 t13 t14 t15 t17 t18) ?_))
           rintro a A ⟨t102,-⟩ ⟨t0,t1,t2,t8,t9,t10,t13,t14,t15,t17,t18,-⟩
           by_cases ltd:d < c
           ·rw [decide_eq_true ltd] at t102
            refine wp_cond_true t102 (wp_skip ?_)
            clear t102
            refine wp_seq (wp_block ?_)
            obtain ⟨g0,c0,ey0,hB0,_⟩:=ownL_some9 (FMb.rows 0 (by omega)) (show 0 < J by omega)
            have hdJ:d < J:=by omega
            have hd1:=sumN_at (r:=lefC (gN sf) (gN cf) p) hdJ
            refine wi_ A (h11_ t0 t1 t2 t8 t9 t10 t13 t14 t15 t17 t18) (rv_ 3 (.pointer (some ⟨g0,0+d,none⟩)) (fun a e=>execIdxN (k:=d) rfl ((e _).trans ey0) (e _) hdJ) (rv_ 4 (.int .i64 ((lefC (gN sf) (gN cf) p d:Nat):Int)) (fun a e=>execLd3 rfl (e _) (FMb.cell (t:=0) (by omega) ey0 hdJ).1) (rv_ 5 (.int .i64 ((o_+sumN (lefC (gN sf) (gN cf) p) d+lefC (gN sf) (gN cf) p d:Nat):Int)) (fun a e=>execAd8 (p:=o_+sumN (lefC (gN sf) (gN cf) p) d) (q:=lefC (gN sf) (gN cf) p d) rfl (e _) (e _) (by omega)) (rf_ [(17,.int .i64 ((o_+sumN (lefC (gN sf) (gN cf) p) d+lefC (gN sf) (gN cf) p d:Nat):Int))] (h10_ t0 t1 t2 t8 t9 t10 t13 t14 t15 t18) ?_))))
            rintro a A ⟨t17,-⟩ ⟨t0,t1,t2,t8,t9,t10,t13,t14,t15,t18,-⟩
            have e17:o_+sumN (lefC (gN sf) (gN cf) p) d+lefC (gN sf) (gN cf) p d=o_+sumN (lefC (gN sf) (gN cf) p) (d+1):=Nat.add_assoc _ _ _
            rw [e17] at t17
            refine wi_ A (h11_ t0 t1 t2 t8 t9 t10 t13 t14 t15 t17 t18) (rv_ 1 (.int .i64 ((d+1:Nat):Int)) (fun a e=>execAd8 (p:=d) (q:=1) rfl (e _) rfl (by omega)) (rf_ [(18,.int .i64 ((d+1:Nat):Int))] (h10_ t0 t1 t2 t8 t9 t10 t13 t14 t15 t17) ?_))
            rintro a A ⟨t18,-⟩ ⟨t0,t1,t2,t8,t9,t10,t13,t14,t15,t17,-⟩
            exact ⟨⟨d+1,ltd,A,t0,t1,t2,t8,t9,t10,t13,t14,t15,t17,t18,BB,FMb⟩,by show c - (intOf (a.eval (.tmp 18))).toNat < c - (intOf (Act.eval _ (.tmp 18))).toNat; rw [t18,esd]; show c - (d+1) < c - d; omega⟩
           ·rw [decide_eq_false ltd] at t102
            refine wp_cond_false t102 ?_
            refine wp_exit ?_
            first | with_reducible refine exit_in ?_ | with_reducible refine exit_then (exit_in ?_) | with_reducible refine exit_then (exit_then (exit_in ?_)) | refine exit_in ?_ | refine exit_then (exit_in ?_) | refine exit_then (exit_then (exit_in ?_))
            clear t102 esd
            have hdc:d=c:=by omega
            rw [hdc] at t17
            clear t18
            have hdw:((o_+sumN (lefC (gN sf) (gN cf) p) c:Nat):Int)=dwF sf cf vf p:=by show _=(((vf (poC (gN sf) (gN cf) p)).toNat+sumN (lefC (gN sf) (gN cf) p) (gN cf p):Nat):Int); rw [hp0,eo,ec,Int.toNat_natCast]
            have hlc:sumN (lefC (gN sf) (gN cf) p) c<=sumN (lefC (gN sf) (gN cf) p) J:=sumN_mono (by omega)
            refine wp_seq ?_
            obtain ⟨g113,egg113⟩:∃ z_:Nat,XL24.heap.size=z_:=⟨_,rfl⟩
            refine wi_ A (h10_ t0 t1 t2 t8 t9 t10 t13 t14 t15 t17) (rs_ 2 (fun a e=>?_))
            refine stepV rfl rfl (execBsI (z:=((o_+sumN (lefC (gN sf) (gN cf) p) c:Nat):Int)) rfl (e _)) ⟨.slice (some ⟨g113,0,none⟩) 1 1,⟨_,rfl,by subst egg113; rfl⟩,fun X27_1 hX=>?_⟩
            have bQ:Below XL24.heap.size XL24 X27_1:=by subst hX egg113; exact (belNew XL24 _)
            have Fg113:(X27_1.heap[g113]?=some (.cells #[.int .i64 (((o_+sumN (lefC (gN sf) (gN cf) p) c:Nat):Int))] 3)):=by subst hX egg113; exact heapNew XL24 _
            replace FMb:=(FMb.on bQ)
            replace BB:=BB.trans (bQ.mono BB.size)
            clear bQ hX egg113 e a
            refine rs_ 3 (fun a e=>?_)
            refine stepFm (x:=y) (k:=3) (t:=2) (l:=1) (q:=fun _=>((o_+sumN (lefC (gN sf) (gN cf) p) c:Nat):Int)) rfl rfl rfl (e _) (e _) FMb (by omega) (lit_sl Fg113 (by omega)) ⟨_,_,rfl⟩ (by omega) (show p+1<=_ by omega) (BB).size fun v114 X27 fm' gr=>⟨_,⟨_,rfl,rfl⟩,eqw ?_⟩
            obtain ⟨BB,FM1⟩:Below V.heap.size V X27/\(FmI V.heap.size 3 (updX y 2 v114) (updD (nnR J p) 2 1) (ffR sf cf vf p) X27):=⟨(BB).grown gr (BB).size (fun k hk=>((FMb.rows 2 (by omega)).lt k hk).1),FmI.app1 fm' hdw⟩
            clear FMb Fg113 e a
            refine rf_ [(13,v114)] (h8_ t0 t1 t2 t8 t9 t10 t14 t15) ?_
            rintro a A ⟨t13,-⟩ ⟨t0,t1,t2,t8,t9,t10,t14,t15,-⟩
            obtain ⟨g0,c0,ey0,hB0,_⟩:=ownL_some9 (FM1.rows 0 (by omega)) (show 0 < J by omega)
            obtain ⟨g1,c1,ey1,hB1,_⟩:=ownL_some9 (FM1.rows 1 (by omega)) (show 0 < J by omega)
            refine wp_seq ?_
            refine wi_ A (h9_ t0 t1 t2 t8 t9 t10 t13 t14 t15) (rv_ 2 (.pointer (some ⟨g0,0+c,none⟩)) (fun a e=>execIdxN (k:=c) rfl ((e _).trans ey0) (e _) hcJ) (rv_ 3 (.int .i64 ((q_:Nat):Int)) (fun a e=>execLd3 rfl (e _) ((FM1.cell (t:=0) (by omega) ey0 hcJ).1.trans (by rw [← eq]; rfl))) (rv_ 4 (.int .i64 ((q_ - 1:Nat):Int)) (fun a e=>By8.execSubI (p:=q_) (q:=1) rfl (e _) rfl (by omega) (by omega)) (rv_ 5 (.pointer (some ⟨g0,0+c,none⟩)) (fun a e=>execIdxN (k:=c) rfl ((e _).trans ey0) (e _) hcJ) (rs_ 6 (fun a e=>?_))))))
            obtain ⟨hc_,hf_⟩:=FM1.cell (t:=0) (by omega) ey0 hcJ
            refine stepS rfl rfl (execStI9 rfl (e _) (e _) hc_ hf_) ⟨_,⟨_,rfl,rfl⟩,fun X28 hX=>?_⟩
            obtain ⟨BB,FM2⟩:Below V.heap.size V X28/\(FmI V.heap.size 3 (updX y 2 v114) (updD (nnR J p) 2 1) (updF (ffR sf cf vf p) 0 c ((q_ - 1:Nat):Int)) X28):=by subst hX; exact ⟨(BB).setCell hB0 _,FM1.set (t:=0) (by omega) ey0 _⟩
            clear FM1 hX e a
            refine rf_ [] (h9_ t0 t1 t2 t8 t9 t10 t13 t14 t15) ?_
            rintro a A - ⟨t0,t1,t2,t8,t9,t10,t13,t14,t15,-⟩
            refine wi_ A (h9_ t0 t1 t2 t8 t9 t10 t13 t14 t15) (rv_ 2 (.pointer (some ⟨g1,0+c,none⟩)) (fun a e=>execIdxN (k:=c) rfl ((e _).trans ey1) (e _) hcJ) (rv_ 3 (.int .i64 ((p_:Nat):Int)) (fun a e=>execLd3 rfl (e _) ((FM2.cell (t:=1) (by omega) ey1 hcJ).1.trans (by rw [updF_o (by omega),← ep]; rfl))) (rv_ 4 (.int .i64 ((p_+1:Nat):Int)) (fun a e=>execAd8 (p:=p_) (q:=1) rfl (e _) rfl (by omega)) (rv_ 5 (.pointer (some ⟨g1,0+c,none⟩)) (fun a e=>execIdxN (k:=c) rfl ((e _).trans ey1) (e _) hcJ) (rs_ 6 (fun a e=>?_))))))
            obtain ⟨hc_,hf_⟩:=FM2.cell (t:=1) (by omega) ey1 hcJ
            refine stepS rfl rfl (execStI9 rfl (e _) (e _) hc_ hf_) ⟨_,⟨_,rfl,rfl⟩,fun X29 hX=>?_⟩
            obtain ⟨BB,FM3⟩:Below V.heap.size V X29/\(FmI V.heap.size 3 (updX y 2 v114) (updD (nnR J p) 2 1) (updF (updF (ffR sf cf vf p) 0 c ((q_ - 1:Nat):Int)) 1 c ((p_+1:Nat):Int)) X29):=by subst hX; exact ⟨(BB).setCell hB1 _,FM2.set (t:=1) (by omega) ey1 _⟩
            clear FM2 hX e a
            refine rf_ [] (h8_ t0 t1 t2 t8 t9 t10 t13 t14) ?_
            rintro a A - ⟨t0,t1,t2,t8,t9,t10,t13,t14,-⟩
            have FM4:(FmI V.heap.size 3 (updX y 2 v114) (nnR J (p+1)) (ffR sf cf vf (p+1)) X29):=FmI.cgN (FmI.cgF FM3 (fun t ht j _=>ffR_next sf cf vf ec ep eq t ht j)) (fun t ht=>by match t,ht with | 0,_=>rfl | 1,_=>rfl | 2,_=>rfl | t+3,h=>omega)
            clear FM3
            refine wi_ A (h8_ t0 t1 t2 t8 t9 t10 t13 t14) (rv_ 1 (.int .i64 ((p+1:Nat):Int)) (fun a e=>execAd8 (p:=p) (q:=1) rfl (e _) rfl (by omega)) (rf_ [(14,.int .i64 ((p+1:Nat):Int))] (h7_ t0 t1 t2 t8 t9 t10 t13) ?_))
            rintro a A ⟨t14,-⟩ ⟨t0,t1,t2,t8,t9,t10,t13,-⟩
            exact ⟨⟨p+1,updX y 2 v114,ltp,allB_succ hrd hrdp,A,t0,t1,t2,t8,t9,t10,t13,t14,BB,FM4⟩,by show n - (intOf (a.eval (.tmp 14))).toNat < n - (intOf (Act.eval _ (.tmp 14))).toNat; rw [t14,esp]; show n - (p+1) < n - p; omega⟩
     ·rw [decide_eq_false ltp] at t60
      refine wp_cond_false t60 ?_
      refine wp_exit ?_
      first | with_reducible refine exit_in ?_ | with_reducible refine exit_then (exit_in ?_) | with_reducible refine exit_then (exit_then (exit_in ?_)) | refine exit_in ?_ | refine exit_then (exit_in ?_) | refine exit_then (exit_then (exit_in ?_))
      clear t60 esp
      have hpn:p=n:=by omega
      rw [hpn] at hrd FMb
      have hdr:drQ sf J cf n vf m=true:=(rd_dr hs).1 ⟨by omega,by omega,hrd⟩
      clear t0 t1 t2 t8 t9 t10 t14
      refine wp_seq ?_
      refine wi_ A (h1_ t13) (rg_ [(6,y 2),(7,.int .i64 ((0:Nat):Int))] ?_)
      rintro a A ⟨t6,t7,-⟩
      have hE:drE sf J cf n vf m=0:=drE_ok hdr
      rw [hE,zl_ok]
      refine wp_ret ?_
      refine bodyPost_ret (results_tmp2 rfl _ _ _) A.2 ⟨y 2,?_,FMb.rows 2 (by omega),BB⟩
      show Ending.returned (.tuple #[a.eval (.tmp 6),a.eval (.tmp 7)])=_
      rw [t6,t7]
   ·refine wp_seq ?_
    refine wi_ A (h3_ t0 t1 t2) (rc_ 1 ((show toT sf J=((sumN (gN sf) J:Nat):Int) by rw [szQ_toT,if_pos hs]) ▸ rtotal sf J _ V (FI.on BB) hJ17) (cb_ fun X1 bQ=>?_))
    replace BB:=BB.trans (bQ.mono BB.size)
    clear bQ
    refine rf_ [(8,.int .i64 ((sumN (gN sf) J:Nat):Int))] (h3_ t0 t1 t2) ?_
    rintro a A ⟨t8,-⟩ ⟨t0,t1,t2,-⟩
    refine wp_seq (wp_seq ?_)
    refine wi_ A (h4_ t0 t1 t2 t8) (rv_ 1 (.bool false) (fun a e=>execDec (execLtW (p:=sumN (gN sf) J) (q:=0) rfl (e _) rfl) (decide_eq_false (by omega))) (rv_ 4 (.int .i64 ((n:Nat):Int)) (fun a e=>execLenI (len:=n) rfl (e _) (FJ).shp) (rv_ 6 (.bool false) (fun a e=>execDec (execNeN (p:=n) (q:=sumN (gN sf) J) rfl (e _) (e _)) (decide_eq_false (by omega))) (rv_ 10 (.int .i64 ((m:Nat):Int)) (fun a e=>execLenI (len:=m) rfl (e _) (FK).shp) (rv_ 12 (.bool true) (fun a e=>execDec (execNeN (p:=m) (q:=sumN (gN sf) J) rfl (e _) (e _)) (decide_eq_true (by omega))) (rf_ [(34,.bool true)] (h4_ t0 t1 t2 t8) ?_))))))
    rintro a A ⟨t34,-⟩ ⟨t0,t1,t2,t8,-⟩
    refine wp_cond_true t34 ?_
    refine wp_seq ?_
    refine wi_ A (h4_ t0 t1 t2 t8) (rg_ [(6,.slice none 0 0),(7,.int .i64 ((2:Nat):Int))] ?_)
    rintro a A ⟨t6,t7,-⟩
    have hE:drE sf J cf n vf m=2:=drE_no fun q=>hmS (drQ_iff.1 q).2.2.1
    rw [hE,zl_no (by decide)]
    refine wp_ret ?_
    repeat (first | with_reducible refine ret_in ?_ | with_reducible refine ret_then ?_)
    refine bodyPost_ret (results_tmp2 rfl _ _ _) A.2 ⟨_,?_,World.ownsRow_nil _ _ _ _,BB⟩
    show Ending.returned (.tuple #[a.eval (.tmp 6),a.eval (.tmp 7)])=_
    rw [t6,t7]
  ·refine wp_seq ?_
   refine wi_ A (h3_ t0 t1 t2) (rc_ 1 ((show toT sf J=((sumN (gN sf) J:Nat):Int) by rw [szQ_toT,if_pos hs]) ▸ rtotal sf J _ V (FI.on BB) hJ17) (cb_ fun X1 bQ=>?_))
   replace BB:=BB.trans (bQ.mono BB.size)
   clear bQ
   refine rf_ [(8,.int .i64 ((sumN (gN sf) J:Nat):Int))] (h3_ t0 t1 t2) ?_
   rintro a A ⟨t8,-⟩ ⟨t0,t1,t2,-⟩
   refine wp_seq (wp_seq ?_)
   refine wi_ A (h4_ t0 t1 t2 t8) (rv_ 1 (.bool false) (fun a e=>execDec (execLtW (p:=sumN (gN sf) J) (q:=0) rfl (e _) rfl) (decide_eq_false (by omega))) (rv_ 4 (.int .i64 ((n:Nat):Int)) (fun a e=>execLenI (len:=n) rfl (e _) (FJ).shp) (rv_ 6 (.bool true) (fun a e=>execDec (execNeN (p:=n) (q:=sumN (gN sf) J) rfl (e _) (e _)) (decide_eq_true (by omega))) (rf_ [(34,.bool true)] (h4_ t0 t1 t2 t8) ?_))))
   rintro a A ⟨t34,-⟩ ⟨t0,t1,t2,t8,-⟩
   refine wp_cond_true t34 ?_
   refine wp_seq ?_
   refine wi_ A (h4_ t0 t1 t2 t8) (rg_ [(6,.slice none 0 0),(7,.int .i64 ((2:Nat):Int))] ?_)
   rintro a A ⟨t6,t7,-⟩
   have hE:drE sf J cf n vf m=2:=drE_no fun q=>hnS (stQ_len (drQ_iff.1 q).2.1)
   rw [hE,zl_no (by decide)]
   refine wp_ret ?_
   repeat (first | with_reducible refine ret_in ?_ | with_reducible refine ret_then ?_)
   refine bodyPost_ret (results_tmp2 rfl _ _ _) A.2 ⟨_,?_,World.ownsRow_nil _ _ _ _,BB⟩
   show Ending.returned (.tuple #[a.eval (.tmp 6),a.eval (.tmp 7)])=_
   rw [t6,t7]
end Go.Proofs.Ytmjpneaccjlpkaa.Brd
