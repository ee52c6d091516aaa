import Derived.Test.YtmjpneaccjlpkaaF9c
import Derived.Test.YtmjpneaccjlpkaaF9b
import Derived.Test.YtmjpneaccjlpkaaH9c
namespace Go.Proofs.Ytmjpneaccjlpkaa.Drw
open Go.RowKit Gf8 Aes By8 Cel Cf Tap
/- The program's Turn; Drw.impl. Written by tools/mkH9c.py. -/
theorem nodraws {bs ws:Nat->Int} {m n:Nat} (h:(decide (m=n) && !anyW bs ws m)=false):m ≠ n\/anyW bs ws m=true:=by
 by_cases q:m=n
 ·rw [decide_eq_true q,Bool.true_and] at h
  right
  cases h2:anyW bs ws m
  ·rw [h2] at h; cases h
  ·rfl
 ·exact Or.inl q
theorem alldraws {bs ws:Nat->Int} {m n:Nat} (h:(decide (m=n) && !anyW bs ws m)=true):m=n/\anyW bs ws m=false:=by
 rw [Bool.and_eq_true,decide_eq_true_eq,Bool.not_eq_true'] at h
 exact h
theorem own_tk {W:World} {B n:Nat} {v:Value} {f:Nat->Nat} (h:W.ownsRow B 5 1 v n (bytesL n f)) (hf:∀ j,j < n->f j < 256):TkA W B v n f:=by
 rcases h.2 with e | ⟨g,cap,cur,rfl,hB,hg,h1,h2,h3,h4⟩
 ·exact Or.inl e
 ·refine Or.inr ⟨g,cap,cur,_,rfl,hB,hg,h1,h2,by simpa using h3,fun j hj=>?_,hf,Or.inr rfl⟩
  have h5:(cur.toList.take (n * 1))[j]?=some (.int .u8 (f j:Nat)):=by rw [h4]; simp [bytesL,hj]
  rw [List.getElem?_take_of_lt (by omega),Array.getElem?_toList] at h5
  exact h5
section
variable {o:Oper} {a:Act} {w:World}
theorem execSubU9 {x y:Operand} {p q:Nat} (ho:o.op=.binOp .sub 5 x y 5) (hx:a.eval x=.int .u8 (p:Int)) (hy:a.eval y=.int .u8 (q:Int)) (h:q<=p) (hp:p < 256):(execOp a.eval o).run Try.prog w=.ok (.value (.int .u8 ((p - q:Nat):Int))) w:=by
 unfold execOp
 simp only [ho,hx,hy]
 simp [go_sem,IntKind.wrap,show IntKind.u8.signed=false from rfl]
 omega
theorem execAddU9 {x y:Operand} {p q:Nat} (ho:o.op=.binOp .add 5 x y 5) (hx:a.eval x=.int .u8 (p:Int)) (hy:a.eval y=.int .u8 (q:Int)) (h:p+q < 256):(execOp a.eval o).run Try.prog w=.ok (.value (.int .u8 ((p+q:Nat):Int))) w:=by
 unfold execOp
 simp only [ho,hx,hy]
 simp [go_sem,IntKind.wrap,show IntKind.u8.signed=false from rfl]
 omega
end
set_option maxRecDepth 100000 in
set_option maxHeartbeats 8000000 in
theorem pturn_any (p:Nat->Nat) (l:Nat) (bs ws:Nat->Int) (n m:Nat) (pv bv wv:Value) (V:World) (hp:SliceN V pv l p) (hl:l<=140737488351232) (hb:SliceI V bv n bs) (hn17:n<=17592186044416) (hwv:SliceI V wv m ws) (hm17:m<=17592186044416) :
  Calls Try.prog 62 #[pv,bv,wv] V fun e w'=>∃ r,e=.returned (.tuple #[r,.int .i64 ((trE p l bs n ws m:Nat):Int)])/\TkA w' V.heap.size r (trN p l bs n ws m) (trF p l bs ws n)/\Below V.heap.size V w':=by
 obtain ⟨pa,pc,rfl,-,-,hsp⟩:=id hp.shape
 obtain ⟨ia,ic,rfl,-,-,hsh⟩:=id hb.shape
 obtain ⟨ja,jc,rfl,-,-,hsj⟩:=id hwv.shape
 have FI:=hb
 have FJ:=hwv
 have hpb:=hp.bytes
 go_enter Try.func62,Try.ntmps62
 refine wp_seq ?_
 refine wo_ 70 [(0,.slice pa l pc),(1,.slice ia n ic),(2,.slice ja m jc)] ?_
 rintro a A ⟨t0,t1,t2,-⟩
 refine wi_ A (h3_ t0 t1 t2) (rf_ [] (h3_ t0 t1 t2) ?_)
 rintro a A - ⟨t0,t1,t2,-⟩
 have BW:Below V.heap.size V V:=Below.refl _ _
 have BB:=BW
 refine wp_seq (wp_seq ?_)
 by_cases hw:anyB bs n=true
 ·have hwr:∀ X,Below V.heap.size V X->Calls Try.prog 65 #[.slice ia n ic] X fun e w'=>e=.returned (.bool false)/\Below X.heap.size X w':=fun X hX=>by have h_:=areBounds_any bs n _ X (FI.on hX) hn17; rw [hw] at h_; exact h_
  refine wi_ A (h3_ t0 t1 t2) (rc_ 1 (hwr V BB) (cb_ fun X1 bQ=>?_))
  replace BB:=BB.trans (bQ.mono BB.size)
  clear bQ
  refine rv_ 2 (.bool true) (fun a e=>execNot8 (b:=false) rfl (e _)) (rf_ [(24,.bool true)] (h3_ t0 t1 t2) ?_)
  rintro a A ⟨t24,-⟩ ⟨t0,t1,t2,-⟩
  refine wp_cond_true t24 ?_
  refine wp_seq ?_
  refine wi_ A (h3_ t0 t1 t2) (rg_ [(6,.slice none 0 0),(7,.int .i64 ((2:Nat):Int))] ?_)
  rintro a A ⟨t6,t7,-⟩
  have hE:trE p l bs n ws m=2:=by unfold trE; rw [if_pos (Or.inl hw)]
  have hN:trN p l bs n ws m=0:=by unfold trN; rw [if_neg (by rw [hE]; decide)]
  rw [hE,hN]
  refine wp_ret ?_
  repeat (first | with_reducible refine ret_in ?_ | with_reducible refine ret_then ?_)
  refine bodyPost_ret (results_tmp2 rfl _ _ _) A.2 ⟨_,?_,Or.inl ⟨rfl,rfl⟩,BB⟩
  show Ending.returned (.tuple #[a.eval (.tmp 6),a.eval (.tmp 7)])=_
  rw [t6,t7]
 ·have hwf:=Bool.eq_false_iff.2 hw
  have hno:=anyB_no hwf
  have hwr:∀ X,Below V.heap.size V X->Calls Try.prog 65 #[.slice ia n ic] X fun e w'=>e=.returned (.bool true)/\Below X.heap.size X w':=fun X hX=>by have h_:=areBounds_any bs n _ X (FI.on hX) hn17; rw [hwf] at h_; exact h_
  by_cases hq:(decide (m=n) && !anyW bs ws m)=true
  ·have hwd:∀ X,Below V.heap.size V X->Calls Try.prog 83 #[.slice ja m jc,.slice ia n ic] X fun e w'=>e=.returned (.bool true)/\Below X.heap.size X w':=fun X hX=>by have h_:=areDraws_any ws bs m n _ _ X (FJ.on hX) hm17 (FI.on hX) hn17; rw [hq] at h_; exact h_
   refine wi_ A (h3_ t0 t1 t2) (rc_ 1 (hwr V BB) (cb_ fun X1_1 bQ=>?_))
   replace BB:=BB.trans (bQ.mono BB.size)
   clear bQ
   refine rv_ 2 (.bool false) (fun a e=>execNot8 (b:=true) rfl (e _)) (rc_ 6 (hwd X1_1 BB) (cb_ fun X1 bQ=>?_))
   replace BB:=BB.trans (bQ.mono BB.size)
   clear bQ
   refine rv_ 7 (.bool false) (fun a e=>execNot8 (b:=true) rfl (e _)) (rf_ [(24,.bool false)] (h3_ t0 t1 t2) ?_)
   rintro a A ⟨t24,-⟩ ⟨t0,t1,t2,-⟩
   refine wp_cond_false t24 (wp_skip ?_)
   clear t24 hwr hwd
   obtain ⟨hmn,hnm⟩:=alldraws hq
   subst hmn
   have hwo:=anyW_no.1 hnm
   clear hq
   refine wp_seq ?_
   refine wi_ A (h3_ t0 t1 t2) (rc_ 1 (new_any p l _ X1 (hp.on BB)) (cb_ fun X3_1 bQ=>?_))
   replace BB:=BB.trans (bQ.mono BB.size)
   clear bQ
   obtain ⟨g8,egg8⟩:∃ z_:Nat,X3_1.heap.size=z_:=⟨_,rfl⟩
   refine rs_ 2 (fun a e=>?_)
   refine stepV rfl rfl (execAllTp rfl (fun _=>0)) ⟨.pointer (some ⟨g8,0,none⟩),⟨_,rfl,by subst egg8; rfl⟩,fun X3_2 hX=>?_⟩
   have bQ:Below X3_1.heap.size X3_1 X3_2:=by subst hX egg8; exact (belNew X3_1 _)
   have F8:X3_2.heap[g8]?=some (.cells (tpC (fun _=>0) 0 0) 108):=by subst hX egg8; exact heapNew X3_1 _
   have Fge8:(V.heap.size<=g8):=by subst hX egg8; exact (BB).size
   replace BB:=BB.trans (bQ.mono BB.size)
   clear bQ hX egg8 e a
   refine rs_ 3 (fun a e=>?_)
   refine stepS rfl rfl (execStTp rfl (e _) (e _) F8 rfl) ⟨_,⟨_,rfl,rfl⟩,fun X3 hX=>?_⟩
   obtain ⟨BB,F8⟩:Below V.heap.size V X3/\X3.heap[g8]?=some (.cells (tpC p l 0) 108):=by rw [hX]; exact ⟨below4 BB Fge8 _,setRow_heap _ _ _ _ _ _ F8⟩
   clear hX e a
   refine rf_ [(8,.pointer (some ⟨g8,0,none⟩))] (h3_ t0 t1 t2) ?_
   rintro a A ⟨t8,-⟩ ⟨t0,t1,t2,-⟩
   refine wp_seq ?_
   refine wi_ A (h4_ t0 t1 t2 t8) (rc_ 1 (clone9 p l _ X3 (hp.on BB) hl) fun e X4 hh=>?_)
   obtain ⟨u9,he,hk,hb⟩:=hh
   refine ⟨_,he,?_⟩
   have bQ:Below X3.heap.size X3 X4:=hb
   have FQ:(X4.ownsRow V.heap.size 5 1 u9 l (bytesL l p)):=ownD_base hk (BB).size
   replace F8:=(on9 F8 bQ)
   replace BB:=BB.trans (bQ.mono BB.size)
   clear bQ
   refine rf_ [(9,u9)] (h4_ t0 t1 t2 t8) ?_
   rintro a A ⟨t9,-⟩ ⟨t0,t1,t2,t8,-⟩
   refine wp_seq (wp_seq ?_)
   refine wi_ A (h5_ t0 t1 t2 t8 t9) (rv_ 1 (.int .i64 ((m:Nat):Int)) (fun a e=>execLenI (len:=m) rfl (e _) ((FI.on BB)).shp) (rf_ [(29,.slice ia m ic),(30,.int .i64 ((m:Nat):Int)),(31,.int .i64 ((0:Nat):Int))] (h4_ t0 t2 t8 t9) ?_))
   rintro a A ⟨t29,t30,t31,-⟩ ⟨t0,t2,t8,t9,-⟩
   refine wp_block ?_
   refine wp_loop (fun a W=>∃ (i:Nat) (u:Value),i<=m/\okA p l bs i/\(a.tmps.size=70/\a.defers=[])/\a.eval (.tmp 0)=.slice pa l pc/\a.eval (.tmp 2)=.slice ja m jc/\a.eval (.tmp 8)=.pointer (some ⟨g8,0,none⟩)/\a.eval (.tmp 9)=u/\a.eval (.tmp 29)=.slice ia m ic/\a.eval (.tmp 30)=.int .i64 ((m:Nat):Int)/\a.eval (.tmp 31)=.int .i64 ((i:Nat):Int)/\Below V.heap.size V W/\W.heap[g8]?=some (.cells (tpC p l (plA p l bs i)) 108)/\W.ownsRow V.heap.size 5 1 u l (bytesL l (trF p l bs ws i))) (fun a _=>m - (intOf (a.eval (.tmp 31))).toNat) ⟨0,_,Nat.zero_le _,(fun i hi=>absurd hi (Nat.not_lt_zero _)),A,t0,t2,t8,t9,t29,t30,t31,BB,F8,FQ⟩ ?_
   rintro a XM ⟨i,u,hi,hok,A,t0,t2,t8,t9,t29,t30,t31,BB,F8,FQ⟩
   have e31:=t31
   refine wp_seq ?_
   refine wi_ A (h7_ t0 t2 t8 t9 t29 t30 t31) (rv_ 0 (.bool (decide (i < m))) (fun a e=>execLtW (p:=i) (q:=m) rfl (e _) (e _)) (rf_ [(32,.bool (decide (i < m)))] (h7_ t0 t2 t8 t9 t29 t30 t31) ?_))
   rintro a A ⟨t32,-⟩ ⟨t0,t2,t8,t9,t29,t30,t31,-⟩
   refine wp_seq ?_
   by_cases hlt:i < m
   ·rw [decide_eq_true hlt] at t32
    refine wp_cond_true t32 (wp_skip ?_)
    clear t32
    obtain ⟨ib,io,rfl,hib,hcell⟩:=hsh (by omega)
    obtain ⟨jb,jo,rfl,hjb,hcelj⟩:=hsj (by omega)
    have cI:∀ X,Below V.heap.size V X->X.cell? ⟨ib,io+i,none⟩=some (.int .i64 (bs i)):=fun X hX=>by rw [cell_below hX hib]; exact hcell i hlt
    have cJ:∀ X,Below V.heap.size V X->X.cell? ⟨jb,jo+i,none⟩=some (.int .i64 (ws i)):=fun X hX=>by rw [cell_below hX hjb]; exact hcelj i hlt
    refine wp_seq (wp_block ?_)
    refine wp_seq ?_
    refine wi_ A (h7_ t0 t2 t8 t9 t29 t30 t31) (rv_ 1 (.pointer (some ⟨ib,io+i,none⟩)) (fun a e=>execIdxN (k:=i) rfl (e _) (e _) hlt) (rv_ 2 (.int .i64 (bs i)) (fun a e=>execLd3 rfl (e _) (cI XM BB)) (rf_ [(10,.int .i64 ((i:Nat):Int)),(11,.int .i64 (bs i))] (h7_ t0 t2 t8 t9 t29 t30 t31) ?_)))
    rintro a A ⟨t10,t11,-⟩ ⟨t0,t2,t8,t9,t29,t30,t31,-⟩
    refine wp_seq ?_
    refine wi_ A (h9_ t0 t2 t8 t9 t29 t30 t31 t10 t11) (rv_ 0 (.agg (tpC p l (plA p l bs i))) (fun a e=>execLdTp rfl (e _) F8) (rc_ 2 (pbelow_any p l (plA p l bs i) (bs i) XM (plA_le p l bs i) hl hpb) (cb_ fun X8_1 bQ=>?_)))
    replace F8:=(on9 F8 bQ)
    replace FQ:=(ownD_below FQ bQ)
    replace BB:=BB.trans (bQ.mono BB.size)
    clear bQ
    obtain ⟨g13,egg13⟩:∃ z_:Nat,X8_1.heap.size=z_:=⟨_,rfl⟩
    refine rs_ 7 (fun a e=>?_)
    refine stepV rfl rfl (execAllTp rfl (fun _=>0)) ⟨.pointer (some ⟨g13,0,none⟩),⟨_,rfl,by subst egg13; rfl⟩,fun X8_2 hX=>?_⟩
    have bQ:Below X8_1.heap.size X8_1 X8_2:=by subst hX egg13; exact (belNew X8_1 _)
    have F13:X8_2.heap[g13]?=some (.cells (tpC (fun _=>0) 0 0) 108):=by subst hX egg13; exact heapNew X8_1 _
    have Fge13:(V.heap.size<=g13):=by subst hX egg13; exact (BB).size
    have Fn13F8:(g8 ≠ g13):=by subst hX egg13; exact ne9 F8
    replace F8:=(on9 F8 bQ)
    replace FQ:=(ownD_below FQ bQ)
    replace BB:=BB.trans (bQ.mono BB.size)
    clear bQ hX egg13 e a
    refine rs_ 9 (fun a e=>?_)
    refine stepS rfl rfl (execStTp rfl (e _) (e _) F13 rfl) ⟨_,⟨_,rfl,rfl⟩,fun X8 hX=>?_⟩
    obtain ⟨BB,F8,FQ,F13⟩:Below V.heap.size V X8/\X8.heap[g8]?=some (.cells (tpC p l (plA p l bs i)) 108)/\(X8.ownsRow V.heap.size 5 1 u l (bytesL l (trF p l bs ws (i))))/\X8.heap[g13]?=some (.cells (tpC p (if dE p l (plA p l bs i) (bs i)=0 then l else 0) (dN p l (plA p l bs i) (bs i))) 108):=by rw [hX]; exact ⟨below4 BB Fge13 _,(by rw [setRow_other _ _ _ _ (Fn13F8)]; exact F8),(own_setT FQ F13 (by decide)),setRow_heap _ _ _ _ _ _ F13⟩
    clear hX e a
    refine rf_ [(12,.int .i64 ((dV p l (plA p l bs i) (bs i):Nat):Int)),(13,.pointer (some ⟨g13,0,none⟩)),(14,.int .i64 ((dE p l (plA p l bs i) (bs i):Nat):Int))] (h9_ t0 t2 t8 t9 t29 t30 t31 t10 t11) ?_
    rintro a A ⟨t12,t13,t14,-⟩ ⟨t0,t2,t8,t9,t29,t30,t31,t10,t11,-⟩
    refine wp_seq (wp_seq ?_)
    refine wi_ A (h12_ t0 t2 t8 t9 t29 t30 t31 t10 t11 t12 t13 t14) (rv_ 1 (.bool (decide (dE p l (plA p l bs i) (bs i) ≠ 0))) (fun a e=>execNeE (p:=dE p l (plA p l bs i) (bs i)) (q:=0) rfl (e _) rfl) (rf_ [(44,.bool (decide (dE p l (plA p l bs i) (bs i) ≠ 0)))] (h12_ t0 t2 t8 t9 t29 t30 t31 t10 t11 t12 t13 t14) ?_))
    rintro a A ⟨t44,-⟩ ⟨t0,t2,t8,t9,t29,t30,t31,t10,t11,t12,t13,t14,-⟩
    by_cases hE0:dE p l (plA p l bs i) (bs i)=0
    ·rw [decide_eq_false (by omega)] at t44
     refine wp_cond_false t44 (wp_skip ?_)
     clear t44 t14
     rw [if_pos hE0] at F13
     have hok2:=okA_succ hok hE0
     replace F13:X8.heap[g13]?=some (.cells (tpC p l (plA p l bs (i+1))) 108):=F13
     refine wp_seq ?_
     refine wi_ A (h11_ t0 t2 t8 t9 t29 t30 t31 t10 t11 t12 t13) (rv_ 0 (.agg (tpC p l (plA p l bs (i+1)))) (fun a e=>execLdTp rfl (e _) F13) (rs_ 1 (fun a e=>?_)))
     refine stepS rfl rfl (execStTp rfl (e _) (e _) F8 rfl) ⟨_,⟨_,rfl,rfl⟩,fun X11 hX=>?_⟩
     obtain ⟨BB,FQ,F8⟩:Below V.heap.size V X11/\(X11.ownsRow V.heap.size 5 1 u l (bytesL l (trF p l bs ws (i))))/\X11.heap[g8]?=some (.cells (tpC p l (plA p l bs (i+1))) 108):=by rw [hX]; exact ⟨below4 BB Fge8 _,(own_setT FQ F8 (by decide)),setRow_heap _ _ _ _ _ _ F8⟩
     clear hX e a F13
     refine rf_ [] (h10_ t0 t2 t8 t9 t29 t30 t31 t10 t11 t12) ?_
     rintro a A - ⟨t0,t2,t8,t9,t29,t30,t31,t10,t11,t12,-⟩
     refine wp_seq ?_
     by_cases hb1:bs i=1
     ·refine wi_ A (h10_ t0 t2 t8 t9 t29 t30 t31 t10 t11 t12) (rv_ 1 (.bool false) (fun a e=>execGtCf (p:=(bs i)) (q:=1) rfl (e _) (by omega)) (rf_ [(48,.bool false)] (h7_ t0 t2 t8 t9 t29 t30 t31) ?_))
      rintro a A ⟨t48,-⟩ ⟨t0,t2,t8,t9,t29,t30,t31,-⟩
      refine wp_cond_false t48 (wp_skip ?_)
      clear t48
      have FQ2:X11.ownsRow V.heap.size 5 1 u l (bytesL l (trF p l bs ws (i+1))):=by rw [bytesL_congr (f:=trF p l bs ws (i+1)) (g:=trF p l bs ws i) (fun j _=>if_neg (fun q=>q.1 hb1))]; exact FQ
      clear FQ
      refine wi_ A (h7_ t0 t2 t8 t9 t29 t30 t31) (rv_ 0 (.int .i64 ((i+1:Nat):Int)) (fun a e=>execAd8 (p:=i) (q:=1) rfl (e _) rfl (by omega)) (rf_ [(31,.int .i64 ((i+1:Nat):Int))] (h6_ t0 t2 t8 t9 t29 t30) ?_))
      rintro a A ⟨t31,-⟩ ⟨t0,t2,t8,t9,t29,t30,-⟩
      exact ⟨⟨i+1,_,hlt,hok2,A,t0,t2,t8,t9,t29,t30,t31,BB,F8,FQ2⟩,by show m - (intOf (a.eval (.tmp 31))).toNat < m - (intOf (Act.eval _ (.tmp 31))).toNat; rw [t31,e31]; show m - (i+1) < m - i; omega⟩
     ·obtain ⟨hS1,hSl,hSg⟩:=(plA_step hok2 (Nat.lt_succ_self i)).2 hb1
      have hDA:=dA_is hok2 (Nat.lt_succ_self i) hb1
      have hTP:=(tp_is hok2 (Nat.lt_succ_self i) hb1).1
      obtain ⟨S,eS⟩:∃ S,dS p l (plA p l bs i) (bs i)=S:=⟨_,rfl⟩
      rw [eS] at hS1 hSl hSg hTP
      obtain ⟨D,eD⟩:∃ D,dV p l (plA p l bs i) (bs i)=D:=⟨_,rfl⟩
      have hDS:D=p S % (bs i).toNat:=by rw [← eD,← hTP]; exact hDA
      have hDle:D<=p S:=by rw [hDS]; exact Nat.mod_le _ _
      rw [hS1] at F8
      rw [eD] at t12
      obtain ⟨w0,ew⟩:∃ w0:Nat,ws i=w0:=⟨(ws i).toNat,by have:=hwo i hlt; omega⟩
      have hpS:=hp.bytes S hSl
      have hbp:=ok_pos hok2 (Nat.lt_succ_self i)
      have hwl:w0 < (bs i).toNat:=by have:=hwo i hlt; omega
      have hb256:(bs i).toNat<=256:=by have:=hno i hlt; unfold bad at this; omega
      have hhit:p S / (bs i).toNat < 256 / (bs i).toNat:=by
       have h9:=scan_hit p (bs i).toNat (l - plA p l bs i) (plA p l bs i) (by
        have:scan p (bs i).toNat (l - plA p l bs i) (plA p l bs i)=S:=eS
        rw [this]
        omega)
       have h10:scan p (bs i).toNat (l - plA p l bs i) (plA p l bs i)=S:=eS
       rw [h10] at h9
       exact h9
      have hz256:p S - D+w0 < 256:=by rw [hDS]; exact turned_lt _ _ _ hwl hhit (by omega)
      have cJ2:∀ X,Below V.heap.size V X->X.cell? ⟨jb,jo+i,none⟩=some (.int .i64 ((w0:Nat):Int)):=fun X hX=>by rw [cJ X hX,ew]
      obtain ⟨pb,po,rfl,hpb2,hcp⟩:=hsp (by omega)
      have cP:∀ X,Below V.heap.size V X->X.cell? ⟨pb,po+S,none⟩=some (.int .u8 ((p S:Nat):Int)):=fun X hX=>by rw [cell_below hX hpb2]; exact hcp S hSl
      obtain ⟨qg,qc,rfl,hqV,_⟩:=ownL_some9 FQ (by omega)
      refine wi_ A (h10_ t0 t2 t8 t9 t29 t30 t31 t10 t11 t12) (rv_ 1 (.bool true) (fun a e=>execGtCt (p:=(bs i)) (q:=1) rfl (e _) (by omega)) (rf_ [(48,.bool true)] (h9_ t0 t2 t8 t9 t29 t30 t31 t10 t12) ?_))
      rintro a A ⟨t48,-⟩ ⟨t0,t2,t8,t9,t29,t30,t31,t10,t12,-⟩
      refine wp_cond_true t48 ?_
      clear t48
      refine wp_seq ?_
      refine wi_ A (h9_ t0 t2 t8 t9 t29 t30 t31 t10 t12) (rv_ 0 (.agg (tpC p l (S+1))) (fun a e=>execLdTp rfl (e _) F8) (rc_ 1 (used_any p l (S+1) X11) (cb_ fun X13 bQ=>?_)))
      replace FQ:=(ownD_below FQ bQ)
      replace F8:=(on9 F8 bQ)
      replace BB:=BB.trans (bQ.mono BB.size)
      clear bQ
      refine rv_ 2 (.int .i64 ((S:Nat):Int)) (fun a e=>By8.execSubI (p:=S+1) (q:=1) rfl (e _) rfl (by omega) (by omega)) (rf_ [(15,.int .i64 ((S:Nat):Int))] (h9_ t0 t2 t8 t9 t29 t30 t31 t10 t12) ?_)
      rintro a A ⟨t15,-⟩ ⟨t0,t2,t8,t9,t29,t30,t31,t10,t12,-⟩
      refine wj_ [0,1,2,3,4,5,6,7,8,9,10,11,12,13,14,15,16] [16] [5,12] [16] A (h10_ t0 t2 t8 t9 t29 t30 t31 t10 t12 t15) (fun X14_0 bD=>?_)
      refine dw_ 4 (.pointer (some ⟨pb,po+S,none⟩)) (fun a X e=>execIdxB9 (k:=S) rfl (e _) (e _) hSl) (dv_ 5 (.int .u8 ((p S:Nat):Int)) (fun a X e hb=>execLdB rfl (e _) (cP X (BB.trans (hb.mono BB.size)))) (dw_ 7 (.int .u8 ((D:Nat):Int)) (fun a X e=>execU8S rfl (e _) (by omega)) (dw_ 8 (.int .u8 ((p S - D:Nat):Int)) (fun a X e=>execSubU9 (p:=p S) (q:=D) rfl (e _) (e _) hDle hpS) (dw_ 11 (.pointer (some ⟨jb,jo+i,none⟩)) (fun a X e=>execIdxN (k:=i) rfl (e _) (e _) hlt) (dv_ 12 (.int .i64 ((w0:Nat):Int)) (fun a X e hb=>execLd3 rfl (e _) (cJ2 X (BB.trans (hb.mono BB.size)))) (dw_ 13 (.int .u8 ((w0:Nat):Int)) (fun a X e=>execU8S rfl (e _) (by omega)) (dw_ 14 (.int .u8 ((p S - D+w0:Nat):Int)) (fun a X e=>execAddU9 (p:=p S - D) (q:=w0) rfl (e _) (e _) hz256) (dw_ 15 (.pointer (some ⟨qg,0+S,none⟩)) (fun a X e=>execIdxB9 (k:=S) rfl (e _) (e _) hSl) (ds_ 16 (fun a e=>?_))))))))))
      obtain ⟨hc_,hf_⟩:=own_cell9 (ownD_below FQ bD) hSl
      refine stepS rfl rfl (execStB9d rfl (e _) (e _) hc_ hf_) ⟨_,⟨_,rfl,rfl⟩,fun X14 hX=>?_⟩
      obtain ⟨BB,F8,FQ2⟩:Below V.heap.size V X14/\X14.heap[g8]?=some (.cells (tpC p l (S+1)) 108)/\(X14.ownsRow V.heap.size 5 1 (.slice (some ⟨qg,0,none⟩) l qc) l (bytesL l (trF p l bs ws (i+1)))):=by subst hX; exact ⟨((BB.trans (bD.mono BB.size))).setCell hqV _,(off_own (ownD_below FQ bD) (on9 F8 bD) (by decide)),trS (ownD_below FQ bD) hb1 hS1 eD ew⟩
      clear bD FQ hX e a
      refine ⟨Or.inl rfl,?_⟩
      refine dz_ [] (h7_ t0 t2 t8 t9 t29 t30 t31) ?_
      rintro a A - ⟨t0,t2,t8,t9,t29,t30,t31,-⟩
      refine wi_ A (h7_ t0 t2 t8 t9 t29 t30 t31) (rv_ 0 (.int .i64 ((i+1:Nat):Int)) (fun a e=>execAd8 (p:=i) (q:=1) rfl (e _) rfl (by omega)) (rf_ [(31,.int .i64 ((i+1:Nat):Int))] (h6_ t0 t2 t8 t9 t29 t30) ?_))
      rintro a A ⟨t31,-⟩ ⟨t0,t2,t8,t9,t29,t30,-⟩
      rw [← hS1] at F8
      exact ⟨⟨i+1,_,hlt,hok2,A,t0,t2,t8,t9,t29,t30,t31,BB,F8,FQ2⟩,by show m - (intOf (a.eval (.tmp 31))).toNat < m - (intOf (Act.eval _ (.tmp 31))).toNat; rw [t31,e31]; show m - (i+1) < m - i; omega⟩
    ·rw [decide_eq_true hE0] at t44
     refine wp_cond_true t44 ?_
     refine wp_seq ?_
     refine wi_ A (h12_ t0 t2 t8 t9 t29 t30 t31 t10 t11 t12 t13 t14) (rg_ [(6,.slice none 0 0),(7,.int .i64 ((dE p l (plA p l bs i) (bs i):Nat):Int))] ?_)
     rintro a A ⟨t6,t7,-⟩
     have hE3:dE p l (plA p l bs i) (bs i)=3:=(dE_good (hno i hlt)).resolve_left hE0
     rw [hE3] at t7
     have hE:trE p l bs m ws m=3:=by unfold trE; rw [if_neg (fun q=>by rcases q with q | q | q <;> simp_all),if_neg (fun q=>hE0 (okB_iff.1 q i hlt))]
     have hN:trN p l bs m ws m=0:=by unfold trN; rw [if_neg (by rw [hE]; decide)]
     rw [hE,hN]
     refine wp_ret ?_
     repeat (first | with_reducible refine ret_in ?_ | with_reducible refine ret_then ?_)
     refine bodyPost_ret (results_tmp2 rfl _ _ _) A.2 ⟨_,?_,Or.inl ⟨rfl,rfl⟩,BB⟩
     show Ending.returned (.tuple #[a.eval (.tmp 6),a.eval (.tmp 7)])=_
     rw [t6,t7]
   ·rw [decide_eq_false hlt] at t32
    refine wp_cond_false t32 ?_
    refine wp_exit ?_
    first | with_reducible refine exit_in ?_ | with_reducible refine exit_then (exit_in ?_) | with_reducible refine exit_then (exit_then (exit_in ?_)) | refine exit_in ?_ | refine exit_then (exit_in ?_) | refine exit_then (exit_then (exit_in ?_))
    clear t32
    have hin:i=m:=by omega
    rw [hin] at hok FQ
    clear F8
    refine wp_seq ?_
    refine wi_ A (h7_ t0 t2 t8 t9 t29 t30 t31) (rg_ [(6,u),(7,.int .i64 ((0:Nat):Int))] ?_)
    rintro a A ⟨t6,t7,-⟩
    have hE:trE p l bs m ws m=0:=by unfold trE; rw [if_neg (fun q=>by rcases q with q | q | q <;> simp_all),if_pos (okB_iff.2 hok)]
    have hN:trN p l bs m ws m=l:=by unfold trN; rw [if_pos hE]
    rw [hE,hN]
    refine wp_ret ?_
    refine bodyPost_ret (results_tmp2 rfl _ _ _) A.2 ⟨u,?_,own_tk FQ (fun j hj=>turn_byte hok hwo hpb hj),BB⟩
    show Ending.returned (.tuple #[a.eval (.tmp 6),a.eval (.tmp 7)])=_
    rw [t6,t7]
  ·have hqf:=Bool.eq_false_iff.2 hq
   have hwd:∀ X,Below V.heap.size V X->Calls Try.prog 83 #[.slice ja m jc,.slice ia n ic] X fun e w'=>e=.returned (.bool false)/\Below X.heap.size X w':=fun X hX=>by have h_:=areDraws_any ws bs m n _ _ X (FJ.on hX) hm17 (FI.on hX) hn17; rw [hqf] at h_; exact h_
   refine wi_ A (h3_ t0 t1 t2) (rc_ 1 (hwr V BB) (cb_ fun X1_1 bQ=>?_))
   replace BB:=BB.trans (bQ.mono BB.size)
   clear bQ
   refine rv_ 2 (.bool false) (fun a e=>execNot8 (b:=true) rfl (e _)) (rc_ 6 (hwd X1_1 BB) (cb_ fun X1 bQ=>?_))
   replace BB:=BB.trans (bQ.mono BB.size)
   clear bQ
   refine rv_ 7 (.bool true) (fun a e=>execNot8 (b:=false) rfl (e _)) (rf_ [(24,.bool true)] (h3_ t0 t1 t2) ?_)
   rintro a A ⟨t24,-⟩ ⟨t0,t1,t2,-⟩
   refine wp_cond_true t24 ?_
   refine wp_seq ?_
   refine wi_ A (h3_ t0 t1 t2) (rg_ [(6,.slice none 0 0),(7,.int .i64 ((2:Nat):Int))] ?_)
   rintro a A ⟨t6,t7,-⟩
   have hE:trE p l bs n ws m=2:=by unfold trE; rw [if_pos (Or.inr (nodraws hqf))]
   have hN:trN p l bs n ws m=0:=by unfold trN; rw [if_neg (by rw [hE]; decide)]
   rw [hE,hN]
   refine wp_ret ?_
   repeat (first | with_reducible refine ret_in ?_ | with_reducible refine ret_then ?_)
   refine bodyPost_ret (results_tmp2 rfl _ _ _) A.2 ⟨_,?_,Or.inl ⟨rfl,rfl⟩,BB⟩
   show Ending.returned (.tuple #[a.eval (.tmp 6),a.eval (.tmp 7)])=_
   rw [t6,t7]
theorem impl:Impl where
 below:=fun p l at' b V h hl hp=>pbelow_any p l at' b V h hl hp
 all:=fun p l bs n pv bv V hp hl hb hn=>pall_any p l bs n pv bv V hp hl hb hn
 turn:=fun p l bs ws n m pv bv wv V hp hl _ hb hn hw hm=>pturn_any p l bs ws n m pv bv wv V hp hl hb hn hw hm
end Go.Proofs.Ytmjpneaccjlpkaa.Drw
