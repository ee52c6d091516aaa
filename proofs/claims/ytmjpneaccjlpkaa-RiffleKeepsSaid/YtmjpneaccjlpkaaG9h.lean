import Derived.Test.YtmjpneaccjlpkaaF9c
import Derived.Test.YtmjpneaccjlpkaaF9b
import Derived.Test.YtmjpneaccjlpkaaG9f
namespace Go.Proofs.Ytmjpneaccjlpkaa.Drw
open Go.RowKit Gf8 Aes By8 Cel Cf Tap
/- The reference's Turn. Written by tools/mkG9h.py. -/
def trN (p:Nat->Nat) (l:Nat) (bs:Nat->Int) (n:Nat) (ws:Nat->Int) (m:Nat):Nat:=if trE p l bs n ws m=0 then l else 0
theorem anyW_yes {bs ws:Nat->Int}:∀ {n i},i < n->(ws i < 0\/bs i<=ws i)->anyW bs ws n=true
 | 0,i,h,_=>by omega
 | n+1,i,h,hb=>by
  simp only [anyW,Bool.or_eq_true,decide_eq_true_eq]
  by_cases q:i=n
  ·subst q; exact Or.inr hb
  ·exact Or.inl (anyW_yes (by omega) hb)
section
variable {o:Oper} {a:Act} {w:World}
theorem execMkB9 {x:Operand} {n:Nat} (ho:o.op=.makeSlice 23 (.const (.int .i64 0)) x) (hx:a.eval x=.int .i64 (n:Int)) (hn:n<=281474976710656):(execOp a.eval o).run Try.prog w=.ok (.value (.slice (some ⟨w.heap.size,0,none⟩) 0 n)) (w.alloc (.cells (madeCells #[.int .u8 0] n) 5)):=by
 obtain ⟨i,h1,h2,h3,h4⟩:=info5
 have h:=run_make (P:=Try.prog) w 23 5 i (.int .u8 0) Try.underlying23 h1 h2 .i64 .i64 0 (n:Int) (by omega) (by omega) (by rw [h4]; omega) (by omega)
 rw [h3,Int.toNat_natCast,Nat.mul_one] at h
 have ec:a.eval (.const (.int .i64 0))=.int .i64 0:=rfl
 unfold execOp
 simp only [ho,hx,ec,Sem.run_bind,h,Result.andThen_ok,Sem.run_pure]
 rfl
theorem execU8S {x:Operand} {n:Nat} (ho:o.op=.convert 3 5 x) (hx:a.eval x=.int .i64 (n:Int)) (h:n < 256):(execOp a.eval o).run Try.prog w=.ok (.value (.int .u8 (n:Int))) w:=by
 have e:=execU8 (w:=w) (n:=n) ho hx
 rw [Nat.mod_eq_of_lt h] at e
 exact e
theorem execStB9d {x y:Operand} {b k:Nat} {z:Int} {old:Value} (ho:o.op=.store 5 x y) (hx:a.eval x=.pointer (some ⟨b,k,none⟩)) (hy:a.eval y=.int .u8 z) (hc:w.cell? ⟨b,k,none⟩=some old) (hf:w.frozen? ⟨b,k,none⟩=false):(execOp a.eval o).run Try.prog w=.ok .skip (w.setCell ⟨b,k,none⟩ (.int .u8 z)):=by
 unfold execOp
 simp only [ho,hx,hy]
 simp [go_sem,hc,hf]
end
theorem own_mkB (W:World) (n:Nat) (p:Nat->Nat) (hn:n<=281474976710656):(W.alloc (.cells (madeCells #[.int .u8 0] n) 5)).ownsRow W.heap.size 5 1 (.slice (some ⟨W.heap.size,0,none⟩) 0 n) 0 (bytesL 0 p):=
 ⟨rfl,Or.inr ⟨W.heap.size,n,_,rfl,Nat.le_refl _,heapNew W _,Nat.zero_le _,by unfold maxLen; omega,by simp [madeCells],rfl⟩⟩
theorem own_cell9 {W:World} {B n g cap j:Nat} {p:Nat->Nat} (h:W.ownsRow B 5 1 (.slice (some ⟨g,0,none⟩) n cap) n (bytesL n p)) (hj:j < n):W.cell? ⟨g,0+j,none⟩=some (.int .u8 (p j:Nat))/\W.frozen? ⟨g,0+j,none⟩=false:=by
 rw [Nat.zero_add]
 refine ⟨own_at8 h hj,?_⟩
 rcases h.2 with ⟨e,_⟩ | ⟨g',cap',cur,e,_,hg,_⟩
 ·cases e
 ·injection e with e1 _ _
  injection e1 with e1
  injection e1 with e1 _ _
  subst e1
  exact frozen4 hg
theorem trS {W:World} {B l g cap i S D w0:Nat} {p:Nat->Nat} {bs ws:Nat->Int} (h:W.ownsRow B 5 1 (.slice (some ⟨g,0,none⟩) l cap) l (bytesL l (trF p l bs ws i))) (hb:bs i ≠ 1) (hS:plA p l bs (i+1)=S+1) (hD:dV p l (plA p l bs i) (bs i)=D) (hw:ws i=(w0:Int)):(W.setCell ⟨g,0+S,none⟩ (.int .u8 ((p S - D+w0:Nat):Int))).ownsRow B 5 1 (.slice (some ⟨g,0,none⟩) l cap) l (bytesL l (trF p l bs ws (i+1))):=by
 have h2:=own_set8 (m:=S) (p S - D+w0) h
 rw [Nat.zero_add]
 have e:trF p l bs ws (i+1)=fun j=>if j=S then p S - D+w0 else trF p l bs ws i j:=by
  funext j
  show (if bs i ≠ 1/\j=plA p l bs (i+1) - 1 then p j - dA p l bs i+(ws i).toNat else trF p l bs ws i j)=_
  rw [hS,hw,Int.toNat_natCast]
  by_cases q:j=S
  ·subst q
   rw [if_pos ⟨hb,rfl⟩,if_pos rfl]
   show p j - dV p l (plA p l bs i) (bs i)+w0=_
   rw [hD]
  ·rw [if_neg (fun x=>q x.2),if_neg q]
 rw [e]
 exact h2
set_option maxRecDepth 100000 in
set_option maxHeartbeats 8000000 in
theorem rturn_any (p:Nat->Nat) (l:Nat) (bs ws:Nat->Int) (n m:Nat) (pv bv wv:Value) (V:World) (hp:SliceN V pv l p) (hl:l<=140737488351232) (hz:∀ l c,pv=.slice none l c->c=0) (hb:SliceI V bv n bs) (hn17:n<=17592186044416) (hwv:SliceI V wv m ws) (hm17:m<=17592186044416) :
  Calls Try.prog 31 #[pv,bv,wv] V fun e w'=>∃ r,e=.returned (.tuple #[r,.int .i64 ((trE p l bs n ws m:Nat):Int)])/\w'.ownsRow V.heap.size 5 1 r (trN p l bs n ws m) (bytesL (trN p l bs n ws m) (trF p l bs ws n))/\Below V.heap.size V w':=by
 obtain ⟨pa,pc,rfl,-,-,hsp⟩:=id hp.shape
 obtain ⟨ia,ic,rfl,-,-,hsh⟩:=id hb.shape
 obtain ⟨ja,jc,rfl,-,-,hsj⟩:=id hwv.shape
 have FI:=hb
 have FJ:=hwv
 go_enter Try.func31,Try.ntmps31
 refine wp_seq ?_
 refine wo_ 95 [(0,.slice pa l pc),(1,.slice ia n ic),(2,.slice ja m jc)] ?_
 rintro a A ⟨t0,t1,t2,-⟩
 refine wi_ A (h3_ t0 t1 t2) (rf_ [] (h3_ t0 t1 t2) ?_)
 rintro a A - ⟨t0,t1,t2,-⟩
 have BW:Below V.heap.size V V:=Below.refl _ _
 have BB:=BW
 refine wp_seq (wp_seq ?_)
 by_cases hw:anyB bs n=true
 ·have hwr:∀ X,Below V.heap.size V X->Calls Try.prog 57 #[.slice ia n ic] X fun e w'=>e=.returned (.bool true)/\Below X.heap.size X w':=fun X hX=>by rw [← hw]; exact wrong_any bs n _ X (FI.on hX) hn17
  refine wi_ A (h3_ t0 t1 t2) (rc_ 1 (hwr V BB) (cb_ fun X1 bQ=>?_))
  replace BB:=BB.trans (bQ.mono BB.size)
  clear bQ
  refine rf_ [(23,.bool true)] (h3_ t0 t1 t2) ?_
  rintro a A ⟨t23,-⟩ ⟨t0,t1,t2,-⟩
  refine wp_cond_true t23 ?_
  refine wp_seq ?_
  refine wi_ A (h3_ t0 t1 t2) (rg_ [(6,.slice none 0 0),(7,.int .i64 ((2:Nat):Int))] ?_)
  rintro a A ⟨t6,t7,-⟩
  have hE:trE p l bs n ws m=2:=by unfold trE; rw [if_pos (Or.inl hw)]
  have hN:trN p l bs n ws m=0:=by unfold trN; rw [if_neg (by rw [hE]; decide)]
  rw [hE,hN]
  refine wp_ret ?_
  repeat (first | with_reducible refine ret_in ?_ | with_reducible refine ret_then ?_)
  refine bodyPost_ret (results_tmp2 rfl _ _ _) A.2 ⟨_,?_,World.ownsRow_nil _ _ _ _,BB⟩
  show Ending.returned (.tuple #[a.eval (.tmp 6),a.eval (.tmp 7)])=_
  rw [t6,t7]
 ·have hwf:=Bool.eq_false_iff.2 hw
  have hwr:∀ X,Below V.heap.size V X->Calls Try.prog 57 #[.slice ia n ic] X fun e w'=>e=.returned (.bool false)/\Below X.heap.size X w':=fun X hX=>by rw [← hwf]; exact wrong_any bs n _ X (FI.on hX) hn17
  have hno:=anyB_no hwf
  refine wi_ A (h3_ t0 t1 t2) (rc_ 1 (hwr V BB) (cb_ fun X1 bQ=>?_))
  replace BB:=BB.trans (bQ.mono BB.size)
  clear bQ
  refine rv_ 4 (.int .i64 ((m:Nat):Int)) (fun a e=>execLenI (len:=m) rfl (e _) ((FJ.on BB)).shp) (rv_ 6 (.int .i64 ((n:Nat):Int)) (fun a e=>execLenI (len:=n) rfl (e _) ((FI.on BB)).shp) (rv_ 7 (.bool (decide (m ≠ n))) (fun a e=>execNeN (p:=m) (q:=n) rfl (e _) (e _)) (rf_ [(23,.bool (decide (m ≠ n)))] (h3_ t0 t1 t2) ?_)))
  rintro a A ⟨t23,-⟩ ⟨t0,t1,t2,-⟩
  by_cases hmn:m=n
  ·rw [decide_eq_false (fun q=>q hmn)] at t23
   refine wp_cond_false t23 (wp_skip ?_)
   clear t23
   subst hmn
   refine wp_seq (wp_seq ?_)
   refine wi_ A (h3_ t0 t1 t2) (rf_ [(8,.int .i64 ((0:Nat):Int))] (h3_ t0 t1 t2) ?_)
   rintro a A ⟨t8,-⟩ ⟨t0,t1,t2,-⟩
   refine wp_block ?_
   refine wp_loop (fun a W=>∃ i:Nat,i<=m/\anyW bs ws i=false/\(a.tmps.size=95/\a.defers=[])/\a.eval (.tmp 0)=.slice pa l pc/\a.eval (.tmp 1)=.slice ia m ic/\a.eval (.tmp 2)=.slice ja m jc/\a.eval (.tmp 8)=.int .i64 ((i:Nat):Int)/\Below V.heap.size V W) (fun a _=>m - (intOf (a.eval (.tmp 8))).toNat) ⟨0,Nat.zero_le _,rfl,A,t0,t1,t2,t8,BB⟩ ?_
   rintro a XL ⟨i,hi,hnw,A,t0,t1,t2,t8,BB⟩
   have e8:=t8
   refine wp_seq (wp_seq ?_)
   refine wi_ A (h4_ t0 t1 t2 t8) (rv_ 2 (.int .i64 ((m:Nat):Int)) (fun a e=>execLenI (len:=m) rfl (e _) ((FJ.on BB)).shp) (rv_ 3 (.bool (decide (i < m))) (fun a e=>execLtW (p:=i) (q:=m) rfl (e _) (e _)) (rf_ [(27,.bool (decide (i < m)))] (h4_ t0 t1 t2 t8) ?_)))
   rintro a A ⟨t27,-⟩ ⟨t0,t1,t2,t8,-⟩
   by_cases hlt:i < m
   ·rw [decide_eq_true hlt] at t27
    refine wp_cond_true t27 (wp_skip ?_)
    clear t27
    obtain ⟨ib,io,rfl,hib,hcell⟩:=hsh (by omega)
    obtain ⟨jb,jo,rfl,hjb,hcelj⟩:=hsj (by omega)
    have cI:∀ X,Below V.heap.size V X->X.cell? ⟨ib,io+i,none⟩=some (.int .i64 (bs i)):=fun X hX=>by rw [cell_below hX hib]; exact hcell i hlt
    have cJ:∀ X,Below V.heap.size V X->X.cell? ⟨jb,jo+i,none⟩=some (.int .i64 (ws i)):=fun X hX=>by rw [cell_below hX hjb]; exact hcelj i hlt
    refine wp_seq (wp_block ?_)
    by_cases h1:ws i < 0
    ·refine wp_seq ?_
     refine wj_ [0,1,2,3,4,5,6,7,8,9,10,11,12,13,14,15] [] [3] [] A (h4_ t0 t1 t2 t8) (fun X6 bD=>?_)
     refine dw_ 2 (.pointer (some ⟨jb,jo+i,none⟩)) (fun a X e=>execIdxN (k:=i) rfl (e _) (e _) hlt) (dv_ 3 (.int .i64 (ws i)) (fun a X e hb=>execLd3 rfl (e _) (cJ X (BB.trans (hb.mono BB.size)))) (dw_ 4 (.bool true) (fun a X e=>execLtCt (p:=(ws i)) (q:=0) rfl (e _) (by exact h1)) (dz_ [(45,.bool true)] (h4_ t0 t1 t2 t8) ?_)))
     rintro a A ⟨t45,-⟩ ⟨t0,t1,t2,t8,-⟩
     replace BB:=BB.trans (bD.mono BB.size)
     clear bD
     refine wp_cond_true t45 ?_
     refine wp_seq ?_
     refine wi_ A (h5_ t0 t1 t2 t8 t45) (rg_ [(6,.slice none 0 0),(7,.int .i64 ((2:Nat):Int))] ?_)
     rintro a A ⟨t6,t7,-⟩
     have hyw:anyW bs ws m=true:=anyW_yes hlt (Or.inl h1)
     have hE:trE p l bs m ws m=2:=by unfold trE; rw [if_pos (Or.inr (Or.inr hyw))]
     have hN:trN p l bs m ws m=0:=by unfold trN; rw [if_neg (by rw [hE]; decide)]
     rw [hE,hN]
     refine wp_ret ?_
     repeat (first | with_reducible refine ret_in ?_ | with_reducible refine ret_then ?_)
     refine bodyPost_ret (results_tmp2 rfl _ _ _) A.2 ⟨_,?_,World.ownsRow_nil _ _ _ _,BB⟩
     show Ending.returned (.tuple #[a.eval (.tmp 6),a.eval (.tmp 7)])=_
     rw [t6,t7]
    ·by_cases h2:bs i<=ws i
     ·refine wp_seq ?_
      refine wj_ [0,1,2,3,4,5,6,7,8,9,10,11,12,13,14,15] [] [3,9,13] [] A (h4_ t0 t1 t2 t8) (fun X6 bD=>?_)
      refine dw_ 2 (.pointer (some ⟨jb,jo+i,none⟩)) (fun a X e=>execIdxN (k:=i) rfl (e _) (e _) hlt) (dv_ 3 (.int .i64 (ws i)) (fun a X e hb=>execLd3 rfl (e _) (cJ X (BB.trans (hb.mono BB.size)))) (dw_ 4 (.bool false) (fun a X e=>execLtCf (p:=(ws i)) (q:=0) rfl (e _) (by exact h1)) (dw_ 8 (.pointer (some ⟨jb,jo+i,none⟩)) (fun a X e=>execIdxN (k:=i) rfl (e _) (e _) hlt) (dv_ 9 (.int .i64 (ws i)) (fun a X e hb=>execLd3 rfl (e _) (cJ X (BB.trans (hb.mono BB.size)))) (dw_ 12 (.pointer (some ⟨ib,io+i,none⟩)) (fun a X e=>execIdxN (k:=i) rfl (e _) (e _) hlt) (dv_ 13 (.int .i64 (bs i)) (fun a X e hb=>execLd3 rfl (e _) (cI X (BB.trans (hb.mono BB.size)))) (dw_ 14 (.bool true) (fun a X e=>execGeIt rfl (e _) (e _) h2) (dz_ [(45,.bool true)] (h4_ t0 t1 t2 t8) ?_))))))))
      rintro a A ⟨t45,-⟩ ⟨t0,t1,t2,t8,-⟩
      replace BB:=BB.trans (bD.mono BB.size)
      clear bD
      refine wp_cond_true t45 ?_
      refine wp_seq ?_
      refine wi_ A (h5_ t0 t1 t2 t8 t45) (rg_ [(6,.slice none 0 0),(7,.int .i64 ((2:Nat):Int))] ?_)
      rintro a A ⟨t6,t7,-⟩
      have hyw:anyW bs ws m=true:=anyW_yes hlt (Or.inr h2)
      have hE:trE p l bs m ws m=2:=by unfold trE; rw [if_pos (Or.inr (Or.inr hyw))]
      have hN:trN p l bs m ws m=0:=by unfold trN; rw [if_neg (by rw [hE]; decide)]
      rw [hE,hN]
      refine wp_ret ?_
      repeat (first | with_reducible refine ret_in ?_ | with_reducible refine ret_then ?_)
      refine bodyPost_ret (results_tmp2 rfl _ _ _) A.2 ⟨_,?_,World.ownsRow_nil _ _ _ _,BB⟩
      show Ending.returned (.tuple #[a.eval (.tmp 6),a.eval (.tmp 7)])=_
      rw [t6,t7]
     ·refine wp_seq ?_
      refine wj_ [0,1,2,3,4,5,6,7,8,9,10,11,12,13,14,15] [] [3,9,13] [] A (h4_ t0 t1 t2 t8) (fun X6 bD=>?_)
      refine dw_ 2 (.pointer (some ⟨jb,jo+i,none⟩)) (fun a X e=>execIdxN (k:=i) rfl (e _) (e _) hlt) (dv_ 3 (.int .i64 (ws i)) (fun a X e hb=>execLd3 rfl (e _) (cJ X (BB.trans (hb.mono BB.size)))) (dw_ 4 (.bool false) (fun a X e=>execLtCf (p:=(ws i)) (q:=0) rfl (e _) (by exact h1)) (dw_ 8 (.pointer (some ⟨jb,jo+i,none⟩)) (fun a X e=>execIdxN (k:=i) rfl (e _) (e _) hlt) (dv_ 9 (.int .i64 (ws i)) (fun a X e hb=>execLd3 rfl (e _) (cJ X (BB.trans (hb.mono BB.size)))) (dw_ 12 (.pointer (some ⟨ib,io+i,none⟩)) (fun a X e=>execIdxN (k:=i) rfl (e _) (e _) hlt) (dv_ 13 (.int .i64 (bs i)) (fun a X e hb=>execLd3 rfl (e _) (cI X (BB.trans (hb.mono BB.size)))) (dw_ 14 (.bool false) (fun a X e=>execGeIf rfl (e _) (e _) h2) (dz_ [(45,.bool false)] (h4_ t0 t1 t2 t8) ?_))))))))
      rintro a A ⟨t45,-⟩ ⟨t0,t1,t2,t8,-⟩
      replace BB:=BB.trans (bD.mono BB.size)
      clear bD
      refine wp_cond_false t45 (wp_skip ?_)
      clear t45
      refine wi_ A (h4_ t0 t1 t2 t8) (rv_ 1 (.int .i64 ((i+1:Nat):Int)) (fun a e=>execAd8 (p:=i) (q:=1) rfl (e _) rfl (by omega)) (rf_ [(8,.int .i64 ((i+1:Nat):Int))] (h3_ t0 t1 t2) ?_))
      rintro a A ⟨t8,-⟩ ⟨t0,t1,t2,-⟩
      exact ⟨⟨i+1,hlt,by simp only [anyW,hnw,Bool.false_or,decide_eq_false_iff_not]; omega,A,t0,t1,t2,t8,BB⟩,by show m - (intOf (a.eval (.tmp 8))).toNat < m - (intOf (Act.eval _ (.tmp 8))).toNat; rw [t8,e8]; show m - (i+1) < m - i; omega⟩
   ·rw [decide_eq_false hlt] at t27
    refine wp_cond_false t27 ?_
    refine wp_exit ?_
    first | with_reducible refine exit_in ?_ | with_reducible refine exit_then (exit_in ?_) | with_reducible refine exit_then (exit_then (exit_in ?_)) | refine exit_in ?_ | refine exit_then (exit_in ?_) | refine exit_then (exit_then (exit_in ?_))
    clear t27 t8 e8
    have him:i=m:=by omega
    have hnm:=hnw
    rw [him] at hnm
    clear him hlt hi hnw
    have hwo:=anyW_no.1 hnm
    refine wp_seq ?_
    obtain ⟨g9,egg9⟩:∃ z_:Nat,XL.heap.size=z_:=⟨_,rfl⟩
    refine wi_ A (h3_ t0 t1 t2) (rv_ 1 (.int .i64 ((l:Nat):Int)) (fun a e=>execLenV (len:=l) rfl (e _) ⟨_,_,rfl⟩) (rs_ 2 (fun a e=>?_)))
    refine stepV rfl rfl (execMkB9 rfl (e _) (by omega)) ⟨.slice (some ⟨g9,0,none⟩) 0 l,⟨_,rfl,by subst egg9; rfl⟩,fun X8 hX=>?_⟩
    have bQ:Below XL.heap.size XL X8:=by subst hX egg9; exact (belNew XL _)
    have FQ0:(X8.ownsRow V.heap.size 5 1 (.slice (some ⟨g9,0,none⟩) 0 l) 0 (bytesL 0 p)):=by subst hX egg9; exact own_base (own_mkB XL l p (by omega)) (BB).size
    replace BB:=BB.trans (bQ.mono BB.size)
    clear bQ hX egg9 e a
    refine rf_ [(9,.slice (some ⟨g9,0,none⟩) 0 l)] (h3_ t0 t1 t2) ?_
    rintro a A ⟨t9,-⟩ ⟨t0,t1,t2,-⟩
    refine wp_seq ?_
    refine wi_ A (h4_ t0 t1 t2 t9) (rs_ 2 (fun a e=>?_))
    refine stepAppN (n:=0) (p:=p) rfl rfl rfl (e _) (e _) FQ0 (sliceN_cg (hp.on BB) fun j _=>by rw [Nat.zero_add]) hz (by omega) (BB).size fun u9 X9 own' gr=>⟨_,⟨_,rfl,rfl⟩,eqw ?_⟩
    obtain ⟨BB,FQ⟩:Below V.heap.size V X9/\(X9.ownsRow V.heap.size 5 1 u9 l (bytesL l p)):=⟨(BB).grown gr (BB).size (fun k hk=>(FQ0.lt k hk).1),by rw [Nat.zero_add] at own'; exact own'⟩
    clear FQ0 e a
    refine rf_ [(9,u9)] (h3_ t0 t1 t2) ?_
    rintro a A ⟨t9,-⟩ ⟨t0,t1,t2,-⟩
    refine wp_seq ?_
    refine wi_ A (h4_ t0 t1 t2 t9) (rf_ [(10,.int .i64 ((0:Nat):Int))] (h4_ t0 t1 t2 t9) ?_)
    rintro a A ⟨t10,-⟩ ⟨t0,t1,t2,t9,-⟩
    refine wp_seq (wp_seq ?_)
    refine wi_ A (h5_ t0 t1 t2 t9 t10) (rf_ [(11,.int .i64 ((0:Nat):Int))] (h5_ t0 t1 t2 t9 t10) ?_)
    rintro a A ⟨t11,-⟩ ⟨t0,t1,t2,t9,t10,-⟩
    refine wp_block ?_
    refine wp_loop (fun a W=>∃ (i:Nat) (u:Value),i<=m/\okA p l bs i/\(a.tmps.size=95/\a.defers=[])/\a.eval (.tmp 0)=.slice pa l pc/\a.eval (.tmp 1)=.slice ia m ic/\a.eval (.tmp 2)=.slice ja m jc/\a.eval (.tmp 9)=u/\a.eval (.tmp 10)=.int .i64 ((plA p l bs i:Nat):Int)/\a.eval (.tmp 11)=.int .i64 ((i:Nat):Int)/\Below V.heap.size V W/\W.ownsRow V.heap.size 5 1 u l (bytesL l (trF p l bs ws i))) (fun a _=>m - (intOf (a.eval (.tmp 11))).toNat) ⟨0,_,Nat.zero_le _,(fun i hi=>absurd hi (Nat.not_lt_zero _)),A,t0,t1,t2,t9,t10,t11,BB,FQ⟩ ?_
    rintro a XM ⟨i,u,hi,hok,A,t0,t1,t2,t9,t10,t11,BB,FQ⟩
    have e11:=t11
    refine wp_seq (wp_seq ?_)
    refine wi_ A (h6_ t0 t1 t2 t9 t10 t11) (rv_ 2 (.int .i64 ((m:Nat):Int)) (fun a e=>execLenI (len:=m) rfl (e _) ((FI.on BB)).shp) (rv_ 3 (.bool (decide (i < m))) (fun a e=>execLtW (p:=i) (q:=m) rfl (e _) (e _)) (rf_ [(55,.bool (decide (i < m)))] (h6_ t0 t1 t2 t9 t10 t11) ?_)))
    rintro a A ⟨t55,-⟩ ⟨t0,t1,t2,t9,t10,t11,-⟩
    by_cases hlt:i < m
    ·rw [decide_eq_true hlt] at t55
     refine wp_cond_true t55 (wp_skip ?_)
     clear t55
     obtain ⟨ib,io,rfl,hib,hcell⟩:=hsh (by omega)
     obtain ⟨jb,jo,rfl,hjb,hcelj⟩:=hsj (by omega)
     have cI:∀ X,Below V.heap.size V X->X.cell? ⟨ib,io+i,none⟩=some (.int .i64 (bs i)):=fun X hX=>by rw [cell_below hX hib]; exact hcell i hlt
     have cJ:∀ X,Below V.heap.size V X->X.cell? ⟨jb,jo+i,none⟩=some (.int .i64 (ws i)):=fun X hX=>by rw [cell_below hX hjb]; exact hcelj i hlt
     refine wp_seq (wp_block ?_)
     refine wp_seq ?_
     refine wi_ A (h6_ t0 t1 t2 t9 t10 t11) (rv_ 4 (.pointer (some ⟨ib,io+i,none⟩)) (fun a e=>execIdxN (k:=i) rfl (e _) (e _) hlt) (rv_ 5 (.int .i64 (bs i)) (fun a e=>execLd3 rfl (e _) (cI XM BB)) (rc_ 6 (rbelow_any p l (plA p l bs i) (bs i) _ XM (hp.on BB) hl (plA_le p l bs i)) (cb_ fun X14 bQ=>?_))))
     replace FQ:=(ownsRow_below FQ bQ)
     replace BB:=BB.trans (bQ.mono BB.size)
     clear bQ
     refine rf_ [(12,.int .i64 ((dV p l (plA p l bs i) (bs i):Nat):Int)),(13,.int .i64 ((dN p l (plA p l bs i) (bs i):Nat):Int)),(14,.int .i64 ((dE p l (plA p l bs i) (bs i):Nat):Int))] (h6_ t0 t1 t2 t9 t10 t11) ?_
     rintro a A ⟨t12,t13,t14,-⟩ ⟨t0,t1,t2,t9,t10,t11,-⟩
     refine wp_seq (wp_seq ?_)
     refine wi_ A (h9_ t0 t1 t2 t9 t10 t11 t12 t13 t14) (rv_ 1 (.bool (decide (dE p l (plA p l bs i) (bs i) ≠ 0))) (fun a e=>execNeN (p:=dE p l (plA p l bs i) (bs i)) (q:=0) rfl (e _) rfl) (rf_ [(70,.bool (decide (dE p l (plA p l bs i) (bs i) ≠ 0)))] (h9_ t0 t1 t2 t9 t10 t11 t12 t13 t14) ?_))
     rintro a A ⟨t70,-⟩ ⟨t0,t1,t2,t9,t10,t11,t12,t13,t14,-⟩
     by_cases hE0:dE p l (plA p l bs i) (bs i)=0
     ·rw [decide_eq_false (by omega)] at t70
      refine wp_cond_false t70 (wp_skip ?_)
      clear t70 t14
      have hok2:=okA_succ hok hE0
      refine wp_seq (wp_seq ?_)
      refine wi_ A (h8_ t0 t1 t2 t9 t10 t11 t12 t13) (rv_ 2 (.bool (decide (plA p l bs i < dN p l (plA p l bs i) (bs i)))) (fun a e=>execGtN (p:=dN p l (plA p l bs i) (bs i)) (q:=plA p l bs i) rfl (e _) (e _)) (rf_ [(74,.bool (decide (plA p l bs i < dN p l (plA p l bs i) (bs i))))] (h8_ t0 t1 t2 t9 t10 t11 t12 t13) ?_))
      rintro a A ⟨t74,-⟩ ⟨t0,t1,t2,t9,t10,t11,t12,t13,-⟩
      by_cases hb1:bs i=1
      ·have hN1:plA p l bs (i+1)=plA p l bs i:=(plA_step hok2 (Nat.lt_succ_self i)).1 hb1
       rw [decide_eq_false (fun q=>by have q2:plA p l bs i < plA p l bs (i+1):=q; omega)] at t74
       refine wp_cond_false t74 (wp_skip ?_)
       clear t74
       have FQ2:X14.ownsRow V.heap.size 5 1 u l (bytesL l (trF p l bs ws (i+1))):=by rw [bytesL_congr (f:=trF p l bs ws (i+1)) (g:=trF p l bs ws i) (fun j _=>if_neg (fun q=>q.1 hb1))]; exact FQ
       clear FQ
       refine wi_ A (h8_ t0 t1 t2 t9 t10 t11 t12 t13) (rf_ [(10,.int .i64 ((dN p l (plA p l bs i) (bs i):Nat):Int))] (h5_ t0 t1 t2 t9 t11) ?_)
       rintro a A ⟨t10,-⟩ ⟨t0,t1,t2,t9,t11,-⟩
       refine wi_ A (h6_ t0 t1 t2 t9 t10 t11) (rv_ 1 (.int .i64 ((i+1:Nat):Int)) (fun a e=>execAd8 (p:=i) (q:=1) rfl (e _) rfl (by omega)) (rf_ [(11,.int .i64 ((i+1:Nat):Int))] (h5_ t0 t1 t2 t9 t10) ?_))
       rintro a A ⟨t11,-⟩ ⟨t0,t1,t2,t9,t10,-⟩
       exact ⟨⟨i+1,_,hlt,hok2,A,t0,t1,t2,t9,t10,t11,BB,FQ2⟩,by show m - (intOf (a.eval (.tmp 11))).toNat < m - (intOf (Act.eval _ (.tmp 11))).toNat; rw [t11,e11]; show m - (i+1) < m - i; omega⟩
      ·obtain ⟨hS1,hSl,hSg⟩:=(plA_step hok2 (Nat.lt_succ_self i)).2 hb1
       have hDA:=dA_is hok2 (Nat.lt_succ_self i) hb1
       have hTP:=(tp_is hok2 (Nat.lt_succ_self i) hb1).1
       obtain ⟨S,eS⟩:∃ S,dS p l (plA p l bs i) (bs i)=S:=⟨_,rfl⟩
       rw [eS] at hS1 hSl hSg hTP
       have hNS:dN p l (plA p l bs i) (bs i)=S+1:=hS1
       obtain ⟨D,eD⟩:∃ D,dV p l (plA p l bs i) (bs i)=D:=⟨_,rfl⟩
       have hDS:D=p S % (bs i).toNat:=by rw [← eD,← hTP]; exact hDA
       have hDle:D<=p S:=by rw [hDS]; exact Nat.mod_le _ _
       rw [hNS] at t13 t74
       rw [eD] at t12
       obtain ⟨w0,ew⟩:∃ w0:Nat,ws i=w0:=⟨(ws i).toNat,by have:=hwo i hlt; omega⟩
       have hpS:=hp.bytes S hSl
       have hbp:=ok_pos hok2 (Nat.lt_succ_self i)
       have hwl:w0 < (bs i).toNat:=by have:=hwo i hlt; omega
       have hhit:p S / (bs i).toNat < 256 / (bs i).toNat:=by
        have h9:=scan_hit p (bs i).toNat (l - plA p l bs i) (plA p l bs i) (by
         have:scan p (bs i).toNat (l - plA p l bs i) (plA p l bs i)=S:=eS
         rw [this]
         omega)
        have h10:scan p (bs i).toNat (l - plA p l bs i) (plA p l bs i)=S:=eS
        rw [h10] at h9
        exact h9
       have hz256:p S - D+w0 < 256:=by rw [hDS]; exact turned_lt _ _ _ hwl hhit (by omega)
       have cJ2:∀ X,Below V.heap.size V X->X.cell? ⟨jb,jo+i,none⟩=some (.int .i64 ((w0:Nat):Int)):=fun X hX=>by rw [cJ X hX,ew]
       rw [decide_eq_true (show plA p l bs i < S+1 by omega)] at t74
       refine wp_cond_true t74 ?_
       clear t74
       obtain ⟨pb,po,rfl,hpb,hcp⟩:=hsp (by omega)
       have cP:∀ X,Below V.heap.size V X->X.cell? ⟨pb,po+S,none⟩=some (.int .u8 ((p S:Nat):Int)):=fun X hX=>by rw [cell_below hX hpb]; exact hcp S hSl
       obtain ⟨qg,qc,rfl,hqV,_⟩:=ownL_some9 FQ (by omega)
       refine wj_ [0,1,2,3,4,5,6,7,8,9,10,11,12,13,14,15,16,17,18] [18] [7,14] [18] A (h8_ t0 t1 t2 t9 t10 t11 t12 t13) (fun X18_0 bD=>?_)
       refine dw_ 2 (.int .i64 ((S:Nat):Int)) (fun a X e=>By8.execSubI (p:=S+1) (q:=1) rfl (e _) rfl (by omega) (by omega)) (dw_ 5 (.int .i64 ((S:Nat):Int)) (fun a X e=>By8.execSubI (p:=S+1) (q:=1) rfl (e _) rfl (by omega) (by omega)) (dw_ 6 (.pointer (some ⟨pb,po+S,none⟩)) (fun a X e=>execIdxB9 (k:=S) rfl (e _) (e _) hSl) (dv_ 7 (.int .u8 ((p S:Nat):Int)) (fun a X e hb=>execLdB rfl (e _) (cP X (BB.trans (hb.mono BB.size)))) (dw_ 8 (.int .i64 ((p S:Nat):Int)) (fun a X e=>execCv53 rfl (e _) hpS) (dw_ 10 (.int .i64 ((p S - D:Nat):Int)) (fun a X e=>By8.execSubI (p:=p S) (q:=D) rfl (e _) (e _) hDle (by omega)) (dw_ 13 (.pointer (some ⟨jb,jo+i,none⟩)) (fun a X e=>execIdxN (k:=i) rfl (e _) (e _) hlt) (dv_ 14 (.int .i64 ((w0:Nat):Int)) (fun a X e hb=>execLd3 rfl (e _) (cJ2 X (BB.trans (hb.mono BB.size)))) (dw_ 15 (.int .i64 ((p S - D+w0:Nat):Int)) (fun a X e=>execAd8 (p:=p S - D) (q:=w0) rfl (e _) (e _) (by omega)) (dw_ 16 (.int .u8 ((p S - D+w0:Nat):Int)) (fun a X e=>execU8S rfl (e _) hz256) (dw_ 17 (.pointer (some ⟨qg,0+S,none⟩)) (fun a X e=>execIdxB9 (k:=S) rfl (e _) (e _) hSl) (ds_ 18 (fun a e=>?_))))))))))))
       obtain ⟨hc_,hf_⟩:=own_cell9 (ownsRow_below FQ bD) hSl
       refine stepS rfl rfl (execStB9d rfl (e _) (e _) hc_ hf_) ⟨_,⟨_,rfl,rfl⟩,fun X18 hX=>?_⟩
       obtain ⟨BB,FQ2⟩:Below V.heap.size V X18/\(X18.ownsRow V.heap.size 5 1 (.slice (some ⟨qg,0,none⟩) l qc) l (bytesL l (trF p l bs ws (i+1)))):=by subst hX; exact ⟨((BB.trans (bD.mono BB.size))).setCell hqV _,trS (ownsRow_below FQ bD) hb1 hS1 eD ew⟩
       clear bD FQ hX e a
       refine ⟨Or.inl rfl,?_⟩
       refine dz_ [] (h7_ t0 t1 t2 t9 t10 t11 t13) ?_
       rintro a A - ⟨t0,t1,t2,t9,t10,t11,t13,-⟩
       refine wi_ A (h7_ t0 t1 t2 t9 t10 t11 t13) (rf_ [(10,.int .i64 ((S+1:Nat):Int))] (h5_ t0 t1 t2 t9 t11) ?_)
       rintro a A ⟨t10,-⟩ ⟨t0,t1,t2,t9,t11,-⟩
       refine wi_ A (h6_ t0 t1 t2 t9 t10 t11) (rv_ 1 (.int .i64 ((i+1:Nat):Int)) (fun a e=>execAd8 (p:=i) (q:=1) rfl (e _) rfl (by omega)) (rf_ [(11,.int .i64 ((i+1:Nat):Int))] (h5_ t0 t1 t2 t9 t10) ?_))
       rintro a A ⟨t11,-⟩ ⟨t0,t1,t2,t9,t10,-⟩
       rw [← hS1] at t10
       exact ⟨⟨i+1,_,hlt,hok2,A,t0,t1,t2,t9,t10,t11,BB,FQ2⟩,by show m - (intOf (a.eval (.tmp 11))).toNat < m - (intOf (Act.eval _ (.tmp 11))).toNat; rw [t11,e11]; show m - (i+1) < m - i; omega⟩
     ·rw [decide_eq_true hE0] at t70
      refine wp_cond_true t70 ?_
      refine wp_seq ?_
      refine wi_ A (h9_ t0 t1 t2 t9 t10 t11 t12 t13 t14) (rg_ [(6,.slice none 0 0),(7,.int .i64 ((dE p l (plA p l bs i) (bs i):Nat):Int))] ?_)
      rintro a A ⟨t6,t7,-⟩
      have hE3:dE p l (plA p l bs i) (bs i)=3:=(dE_good (hno i hlt)).resolve_left hE0
      rw [hE3] at t7
      have hE:trE p l bs m ws m=3:=by unfold trE; rw [if_neg (fun q=>by rcases q with q | q | q <;> simp_all),if_neg (fun q=>hE0 (okB_iff.1 q i hlt))]
      have hN:trN p l bs m ws m=0:=by unfold trN; rw [if_neg (by rw [hE]; decide)]
      rw [hE,hN]
      refine wp_ret ?_
      repeat (first | with_reducible refine ret_in ?_ | with_reducible refine ret_then ?_)
      refine bodyPost_ret (results_tmp2 rfl _ _ _) A.2 ⟨_,?_,World.ownsRow_nil _ _ _ _,BB⟩
      show Ending.returned (.tuple #[a.eval (.tmp 6),a.eval (.tmp 7)])=_
      rw [t6,t7]
    ·rw [decide_eq_false hlt] at t55
     refine wp_cond_false t55 ?_
     refine wp_exit ?_
     first | with_reducible refine exit_in ?_ | with_reducible refine exit_then (exit_in ?_) | with_reducible refine exit_then (exit_then (exit_in ?_)) | refine exit_in ?_ | refine exit_then (exit_in ?_) | refine exit_then (exit_then (exit_in ?_))
     clear t55
     have hin:i=m:=by omega
     rw [hin] at hok FQ
     refine wp_seq ?_
     refine wi_ A (h6_ t0 t1 t2 t9 t10 t11) (rg_ [(6,u),(7,.int .i64 ((0:Nat):Int))] ?_)
     rintro a A ⟨t6,t7,-⟩
     have hE:trE p l bs m ws m=0:=by unfold trE; rw [if_neg (fun q=>by rcases q with q | q | q <;> simp_all),if_pos (okB_iff.2 hok)]
     have hN:trN p l bs m ws m=l:=by unfold trN; rw [if_pos hE]
     rw [hE,hN]
     refine wp_ret ?_
     refine bodyPost_ret (results_tmp2 rfl _ _ _) A.2 ⟨u,?_,FQ,BB⟩
     show Ending.returned (.tuple #[a.eval (.tmp 6),a.eval (.tmp 7)])=_
     rw [t6,t7]
  ·rw [decide_eq_true hmn] at t23
   refine wp_cond_true t23 ?_
   refine wp_seq ?_
   refine wi_ A (h3_ t0 t1 t2) (rg_ [(6,.slice none 0 0),(7,.int .i64 ((2:Nat):Int))] ?_)
   rintro a A ⟨t6,t7,-⟩
   have hE:trE p l bs n ws m=2:=by unfold trE; rw [if_pos (Or.inr (Or.inl hmn))]
   have hN:trN p l bs n ws m=0:=by unfold trN; rw [if_neg (by rw [hE]; decide)]
   rw [hE,hN]
   refine wp_ret ?_
   repeat (first | with_reducible refine ret_in ?_ | with_reducible refine ret_then ?_)
   refine bodyPost_ret (results_tmp2 rfl _ _ _) A.2 ⟨_,?_,World.ownsRow_nil _ _ _ _,BB⟩
   show Ending.returned (.tuple #[a.eval (.tmp 6),a.eval (.tmp 7)])=_
   rw [t6,t7]
end Go.Proofs.Ytmjpneaccjlpkaa.Drw
