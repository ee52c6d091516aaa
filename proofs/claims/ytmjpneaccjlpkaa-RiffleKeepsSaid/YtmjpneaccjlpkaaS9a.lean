import Derived.Test.YtmjpneaccjlpkaaF9b
import Derived.Test.YtmjpneaccjlpkaaQ9m
namespace Go.Proofs.Ytmjpneaccjlpkaa.Brd
open Go.RowKit Gf8 Aes By8 Cel Cf Tap Drw Prm
/- Package braid as it landed: Draws. Written by tools/mkQ9n.py. -/
def x3 (a l x:Value) (t:Nat):Value:=if t=0 then a else if t=1 then l else x
def n3 (n J t:Nat):Nat:=if t=0 then n else J
def ffD (sf cf vf:Nat->Int) (i t:Nat):Nat->Int:=
 if t=0 then fun k=>if k < i then dwF sf cf vf k else 0 else if t=1 then fun j=>(lefC (gN sf) (gN cf) i j:Int) else fun j=>((sumN (gN sf) j+cntC (gN cf) j i:Nat):Int)
theorem fm3 {B C n J:Nat} {a l x:Value} {f0:Nat->Int} {gg:Nat->Nat->Int} {W:World} (h0:W.ownsRow B 3 1 a n (intsL n f0)) (ha:∀ k,a.ownBlock=some k->k < C) (h2:FmI C 2 (x2 l x) (fun _=>J) gg W) (hBC:B<=C):FmI B 3 (x3 a l x) (n3 n J) (fun t=>if t=0 then f0 else if t=1 then gg 0 else gg 1) W:=by
 have r0:=h2.rows 0 (by omega)
 have r1:=h2.rows 1 (by omega)
 have d01:=h2.dis 0 1 (by omega) (by omega) (by omega)
 have hl:∀ k,l.ownBlock=some k->C<=k:=fun k e=>(r0.lt k e).1
 have hx:∀ k,x.ownBlock=some k->C<=k:=fun k e=>(r1.lt k e).1
 refine ⟨fun t ht=>?_,fun s t hs ht hst k e=>?_⟩
 ·match t,ht with
  | 0,_=>exact h0
  | 1,_=>exact ownD_base r0 hBC
  | 2,_=>exact ownD_base r1 hBC
  | t+3,h=>omega
 ·match s,hs,t,ht,hst,e with
  | 0,_,0,_,h,_=>exact absurd rfl h
  | 0,_,1,_,_,e=>exact fun z=>by have:=ha k e; have:=hl k z; omega
  | 0,_,2,_,_,e=>exact fun z=>by have:=ha k e; have:=hx k z; omega
  | 1,_,0,_,_,e=>exact fun z=>by have:=ha k z; have:=hl k e; omega
  | 1,_,1,_,h,_=>exact absurd rfl h
  | 1,_,2,_,_,e=>exact d01 k e
  | 2,_,0,_,_,e=>exact fun z=>by have:=ha k z; have:=hx k e; omega
  | 2,_,1,_,_,e=>exact fun z=>d01 k z e
  | 2,_,2,_,h,_=>exact absurd rfl h
  | s+3,h,_,_,_,_=>omega
  | _,_,t+3,h,_,_=>omega
theorem ffD_zero (sf cf vf:Nat->Int) (n J:Nat):∀ t,t < 3->∀ j,j < n3 n J t->(fun t=>if t=0 then (fun _=>0) else if t=1 then ffB sf 0 else ffB sf 1:Nat->Nat->Int) t j=ffD sf cf vf 0 t j:=fun t ht j _=>by
 match t,ht with
 | 0,_=>rfl
 | 1,_=>rfl
 | 2,_=>rfl
 | t+3,h=>omega
theorem ffD_next (sf cf vf:Nat->Int) (n J:Nat) {i c o p q:Nat} (ec:gN cf i=c) (eo:vf p=(o:Int)) (ep:sumN (gN sf) c+cntC (gN cf) c i=p) (eq:lefC (gN sf) (gN cf) i c=q) (hp0:poC (gN sf) (gN cf) i=sumN (gN sf) c+cntC (gN cf) c i) :
  ∀ t,t < 3->∀ j,j < n3 n J t->updF (updF (updF (ffD sf cf vf i) 2 c ((p+1:Nat):Int)) 1 c ((q - 1:Nat):Int)) 0 i ((sumN (lefC (gN sf) (gN cf) i) c+o:Nat):Int) t j=ffD sf cf vf (i+1) t j:=fun t ht j _=>by
 match t,ht with
 | 0,_=>
  rw [updF_at,updF_o (by omega),updF_o (by omega)]
  show (if j=i then ((sumN (lefC (gN sf) (gN cf) i) c+o:Nat):Int) else if j < i then dwF sf cf vf j else 0)=if j < i+1 then dwF sf cf vf j else 0
  by_cases e:j=i
  ·subst e
   rw [if_pos rfl,if_pos (by omega)]
   show _=(((vf (poC (gN sf) (gN cf) j)).toNat+sumN (lefC (gN sf) (gN cf) j) (gN cf j):Nat):Int)
   rw [hp0,ep,eo,ec,Int.toNat_natCast,Nat.add_comm]
  ·rw [if_neg e]
   by_cases e2:j < i
   ·rw [if_pos e2,if_pos (by omega)]
   ·rw [if_neg e2,if_neg (by omega)]
 | 1,_=>
  rw [updF_o (by omega),updF_at,updF_o (by omega)]
  show (if j=c then ((q - 1:Nat):Int) else ((lefC _ _ i j:Nat):Int))=((lefC (gN sf) (gN cf) (i+1) j:Nat):Int)
  rw [lefC_succ,ec]
  by_cases e:j=c
  ·subst e
   rw [if_pos rfl,dec1_at,eq]
  ·rw [if_neg e,dec1_o e]
 | 2,_=>
  rw [updF_o (by omega),updF_o (by omega),updF_at]
  show (if j=c then ((p+1:Nat):Int) else ((sumN (gN sf) j+cntC _ j i:Nat):Int))=((sumN (gN sf) j+(cntC (gN cf) j i+if gN cf i=j then 1 else 0):Nat):Int)
  rw [ec]
  by_cases e:j=c
  ·subst e
   rw [if_pos rfl,if_pos rfl,← ep,Nat.add_assoc]
  ·rw [if_neg e,if_neg (fun z=>e z.symm),Nat.add_zero]
 | t+3,h=>omega
theorem lefC_fits (sf cf:Nat->Int) {J:Nat} (i j:Nat) (hok:okS sf J=true) (hj:j < J):-9223372036854775808<=((lefC (gN sf) (gN cf) i j:Nat):Int)/\((lefC (gN sf) (gN cf) i j:Nat):Int) < 9223372036854775808:=by
 have h1:lefC (gN sf) (gN cf) i j<=gN sf j:=Nat.sub_le _ _
 have h2:=sumN_at (r:=gN sf) hj
 have h3:=okS_sum hok
 omega
set_option maxRecDepth 100000 in
set_option maxHeartbeats 4000000 in
theorem pdraws12 (sf cf vf:Nat->Int) (J n m:Nat) (v u0 u1:Value) (V:World) (hv:SliceI V v J sf) (hJ17:J<=17592186044416) (hv2:SliceI V u0 n cf) (hn17:n<=17592186044416) (hv3:SliceI V u1 m vf) :
  Calls Try.prog 61 #[v,u0,u1] V fun e w'=>∃ r,e=.returned (.tuple #[r,.int .i64 ((drE sf J cf n vf m:Nat):Int)])/\w'.ownsRow V.heap.size 3 1 r (zl (drE sf J cf n vf m) n) (intsL (zl (drE sf J cf n vf m) n) (dwF sf cf vf))/\Below V.heap.size V w':=by
 obtain ⟨ia,ic,rfl,-,-,hsh⟩:=id hv.shape
 obtain ⟨ja,jc,rfl,-,-,hsj⟩:=id hv2.shape
 obtain ⟨ka,kc,rfl,-,-,hsk⟩:=id hv3.shape
 have FI:=hv
 have FJ:=hv2
 have FK:=hv3
 go_enter Try.func61,Try.ntmps61
 refine wp_seq ?_
 refine wo_ 58 [(0,.slice ia J ic),(1,.slice ja n jc),(2,.slice ka m kc)] ?_
 rintro a A ⟨t0,t1,t2,-⟩
 refine wi_ A (h3_ t0 t1 t2) (rf_ [] (h3_ t0 t1 t2) ?_)
 rintro a A - ⟨t0,t1,t2,-⟩
 have BW:Below V.heap.size V V:=Below.refl _ _
 have BB:=BW
 refine wp_seq (wp_seq ?_)
 cases hs:szQ sf J with
 | false=>
  refine wi_ A (h3_ t0 t1 t2) (rc_ 1 (hs ▸ pareSizes sf J _ V (FI.on BB) hJ17) (cb_ fun X1 bQ=>?_))
  replace BB:=BB.trans (bQ.mono BB.size)
  clear bQ
  refine rv_ 2 (.bool true) (fun a e=>execNot8 (b:=false) rfl (e _)) (rf_ [(27,.bool true)] (h3_ t0 t1 t2) ?_)
  rintro a A ⟨t27,-⟩ ⟨t0,t1,t2,-⟩
  refine wp_cond_true t27 ?_
  refine wp_seq ?_
  refine wi_ A (h3_ t0 t1 t2) (rg_ [(6,.slice none 0 0),(7,.int .i64 ((2:Nat):Int))] ?_)
  rintro a A ⟨t6,t7,-⟩
  have hE:drE sf J cf n vf m=2:=drE_no fun q=>by have:=(drQ_iff.1 q).1; rw [hs] at this; cases this
  rw [hE,zl_no (by decide)]
  refine wp_ret ?_
  repeat (first | with_reducible refine ret_in ?_ | with_reducible refine ret_then ?_)
  refine bodyPost_ret (results_tmp2 rfl _ _ _) A.2 ⟨_,?_,World.ownsRow_nil _ _ _ _,BB⟩
  show Ending.returned (.tuple #[a.eval (.tmp 6),a.eval (.tmp 7)])=_
  rw [t6,t7]
 | true=>
  have hok:okS sf J=true:=(szQ_iff.1 hs).2
  have hJ64:J<=64:=(szQ_iff.1 hs).1.2
  cases hst:stQ cf n sf J with
  | false=>
   refine wi_ A (h3_ t0 t1 t2) (rc_ 1 (hs ▸ pareSizes sf J _ V (FI.on BB) hJ17) (cb_ fun X1_1 bQ=>?_))
   replace BB:=BB.trans (bQ.mono BB.size)
   clear bQ
   refine rv_ 2 (.bool false) (fun a e=>execNot8 (b:=true) rfl (e _)) (rc_ 6 (hst ▸ pstands cf sf n J _ _ X1_1 (FJ.on BB) hn17 (FI.on BB) hJ17 (fun j hj=>(okS_iff.1 hok j hj).1)) (cb_ fun X1 bQ=>?_))
   replace BB:=BB.trans (bQ.mono BB.size)
   clear bQ
   refine rv_ 7 (.bool true) (fun a e=>execNot8 (b:=false) rfl (e _)) (rf_ [(27,.bool true)] (h3_ t0 t1 t2) ?_)
   rintro a A ⟨t27,-⟩ ⟨t0,t1,t2,-⟩
   refine wp_cond_true t27 ?_
   refine wp_seq ?_
   refine wi_ A (h3_ t0 t1 t2) (rg_ [(6,.slice none 0 0),(7,.int .i64 ((2:Nat):Int))] ?_)
   rintro a A ⟨t6,t7,-⟩
   have hE:drE sf J cf n vf m=2:=drE_no fun q=>by have:=(drQ_iff.1 q).2.1; rw [hst] at this; cases this
   rw [hE,zl_no (by decide)]
   refine wp_ret ?_
   repeat (first | with_reducible refine ret_in ?_ | with_reducible refine ret_then ?_)
   refine bodyPost_ret (results_tmp2 rfl _ _ _) A.2 ⟨_,?_,World.ownsRow_nil _ _ _ _,BB⟩
   show Ending.returned (.tuple #[a.eval (.tmp 6),a.eval (.tmp 7)])=_
   rw [t6,t7]
  | true=>
   cases hof:(decide (m=sumN (gN sf) J) && ofQ sf J vf) with
   | false=>
    refine wi_ A (h3_ t0 t1 t2) (rc_ 1 (hs ▸ pareSizes sf J _ V (FI.on BB) hJ17) (cb_ fun X1_1 bQ=>?_))
    replace BB:=BB.trans (bQ.mono BB.size)
    clear bQ
    refine rv_ 2 (.bool false) (fun a e=>execNot8 (b:=true) rfl (e _)) (rc_ 6 (hst ▸ pstands cf sf n J _ _ X1_1 (FJ.on BB) hn17 (FI.on BB) hJ17 (fun j hj=>(okS_iff.1 hok j hj).1)) (cb_ fun X1_2 bQ=>?_))
    replace BB:=BB.trans (bQ.mono BB.size)
    clear bQ
    refine rv_ 7 (.bool false) (fun a e=>execNot8 (b:=true) rfl (e _)) (rc_ 12 (hof ▸ pareOffsets sf vf J m _ _ X1_2 (FI.on BB) hJ64 hok (FK.on BB)) (cb_ fun X1 bQ=>?_))
    replace BB:=BB.trans (bQ.mono BB.size)
    clear bQ
    refine rv_ 13 (.bool true) (fun a e=>execNot8 (b:=false) rfl (e _)) (rf_ [(27,.bool true)] (h3_ t0 t1 t2) ?_)
    rintro a A ⟨t27,-⟩ ⟨t0,t1,t2,-⟩
    refine wp_cond_true t27 ?_
    refine wp_seq ?_
    refine wi_ A (h3_ t0 t1 t2) (rg_ [(6,.slice none 0 0),(7,.int .i64 ((2:Nat):Int))] ?_)
    rintro a A ⟨t6,t7,-⟩
    have hE:drE sf J cf n vf m=2:=drE_no fun q=>by obtain ⟨_,_,q3,q4⟩:=drQ_iff.1 q; rw [decide_eq_true q3,q4] at hof; cases hof
    rw [hE,zl_no (by decide)]
    refine wp_ret ?_
    repeat (first | with_reducible refine ret_in ?_ | with_reducible refine ret_then ?_)
    refine bodyPost_ret (results_tmp2 rfl _ _ _) A.2 ⟨_,?_,World.ownsRow_nil _ _ _ _,BB⟩
    show Ending.returned (.tuple #[a.eval (.tmp 6),a.eval (.tmp 7)])=_
    rw [t6,t7]
   | true=>
    refine wi_ A (h3_ t0 t1 t2) (rc_ 1 (hs ▸ pareSizes sf J _ V (FI.on BB) hJ17) (cb_ fun X1_1 bQ=>?_))
    replace BB:=BB.trans (bQ.mono BB.size)
    clear bQ
    refine rv_ 2 (.bool false) (fun a e=>execNot8 (b:=true) rfl (e _)) (rc_ 6 (hst ▸ pstands cf sf n J _ _ X1_1 (FJ.on BB) hn17 (FI.on BB) hJ17 (fun j hj=>(okS_iff.1 hok j hj).1)) (cb_ fun X1_2 bQ=>?_))
    replace BB:=BB.trans (bQ.mono BB.size)
    clear bQ
    refine rv_ 7 (.bool false) (fun a e=>execNot8 (b:=true) rfl (e _)) (rc_ 12 (hof ▸ pareOffsets sf vf J m _ _ X1_2 (FI.on BB) hJ64 hok (FK.on BB)) (cb_ fun X1 bQ=>?_))
    replace BB:=BB.trans (bQ.mono BB.size)
    clear bQ
    refine rv_ 13 (.bool false) (fun a e=>execNot8 (b:=true) rfl (e _)) (rf_ [(27,.bool false)] (h3_ t0 t1 t2) ?_)
    rintro a A ⟨t27,-⟩ ⟨t0,t1,t2,-⟩
    refine wp_cond_false t27 (wp_skip ?_)
    clear t27
    obtain ⟨hmd,hoq⟩:=Bool.and_eq_true _ _ ▸ hof
    have hmS:m=sumN (gN sf) J:=of_decide_eq_true hmd
    have hdr:drQ sf J cf n vf m=true:=drQ_iff.2 ⟨hs,hst,hmS,hoq⟩
    have hE:drE sf J cf n vf m=0:=drE_ok hdr
    rw [hE,zl_ok]
    obtain ⟨hnS,_,hrd⟩:=(rd_dr hs).2 hdr
    have hpt:=stQ_pat hst
    have hsum:=okS_sum hok
    refine wp_seq ?_
    obtain ⟨v30,egv30⟩:∃ z_:Value,.slice (some ⟨X1.heap.size,0,none⟩) n n=z_:=⟨_,rfl⟩
    refine wi_ A (h3_ t0 t1 t2) (rv_ 1 (.int .i64 ((n:Nat):Int)) (fun a e=>execLenI (len:=n) rfl (e _) ((FJ.on BB)).shp) (rs_ 2 (fun a e=>?_)))
    refine stepV rfl rfl (execMkN rfl (e _) (e _) hn17) ⟨v30,⟨_,rfl,by subst egv30; rfl⟩,fun X3 hX=>?_⟩
    have bQ:Below X1.heap.size X1 X3:=by subst hX egv30; exact (belNew X1 _)
    have FD:(X3.ownsRow V.heap.size 3 1 v30 (n) (intsL (n) (fun _=>0))):=by subst hX egv30; exact ownD_base (own_mkZ X1 n (fun _=>0) hn17 (fun _ _=>rfl)) (BB).size
    have Fb30:(∀ b,v30.ownBlock=some b->b < X3.heap.size):=by subst hX egv30; exact fun b e=>by have e1:X1.heap.size=b:=Option.some.inj e; have e2:(X1.alloc (.cells (madeCells #[.int .i64 0] n) 3)).heap.size=X1.heap.size+1:=(by simp); omega
    replace BB:=BB.trans (bQ.mono BB.size)
    clear bQ hX egv30 e a
    refine rf_ [(8,v30)] (h3_ t0 t1 t2) ?_
    rintro a A ⟨t8,-⟩ ⟨t0,t1,t2,-⟩
    refine wp_seq ?_
    refine wi_ A (h4_ t0 t1 t2 t8) (rc_ 1 (pbegin sf J _ X3 (FI.on BB) hJ64 hok) fun e X4_1 hh=>?_)
    obtain ⟨lv,xv,he,hk,hb⟩:=hh
    refine ⟨_,he,?_⟩
    have bQ:Below X3.heap.size X3 X4_1:=hb
    have FM:(FmI V.heap.size 3 (x3 v30 lv xv) (n3 n J) (ffD sf cf vf 0) X4_1):=FmI.cgF (fm3 (ownD_below FD hb) Fb30 hk (BB).size) (ffD_zero sf cf vf n J)
    have Fhl:(∃ g_ n_ c_,lv=.slice g_ n_ c_):=shp3 (hk.rows 0 (by omega))
    have Fhx:(∃ g_ n_ c_,xv=.slice g_ n_ c_):=shp3 (hk.rows 1 (by omega))
    replace BB:=BB.trans (bQ.mono BB.size)
    clear FD Fb30 bQ
    obtain ⟨g9,egg9⟩:∃ z_:Nat,X4_1.heap.size=z_:=⟨_,rfl⟩
    refine rs_ 2 (fun a e=>?_)
    refine stepV rfl rfl (execAllRs rfl) ⟨.pointer (some ⟨g9,0,none⟩),⟨_,rfl,by subst egg9; rfl⟩,fun X4_2 hX=>?_⟩
    have bQ:Below X4_1.heap.size X4_1 X4_2:=by subst hX egg9; exact (belNew X4_1 _)
    have F9:(X4_2.heap[g9]?=some (.cells (rsC (.slice none 0 0) (.slice none 0 0)) 114)):=by subst hX egg9; exact heapNew X4_1 _
    have F9g:(V.heap.size<=g9):=by subst hX egg9; exact (BB).size
    replace FM:=(FM.on bQ)
    replace BB:=BB.trans (bQ.mono BB.size)
    clear bQ hX egg9 e a
    refine rs_ 3 (fun a e=>?_)
    refine stepS rfl rfl (execStRs rfl (e _) (e _) F9 Fhl Fhx) ⟨_,⟨_,rfl,rfl⟩,fun X4 hX=>?_⟩
    obtain ⟨BB,FM,F9B⟩:Below V.heap.size V X4/\(FmI V.heap.size 3 (x3 v30 lv xv) (n3 n J) (ffD sf cf vf 0) X4)/\(X4.heap[g9]?=some (.cells (rsC (lv) (xv)) 114)):=by subst hX; exact ⟨below4 BB F9g _,(FM.setT F9 (by decide)),setRow_heap _ _ _ _ _ _ F9⟩
    clear F9 hX e a
    refine rf_ [(9,.pointer (some ⟨g9,0,none⟩))] (h3_ t1 t2 t8) ?_
    rintro a A ⟨t9,-⟩ ⟨t1,t2,t8,-⟩
    refine wp_seq (wp_seq ?_)
    refine wi_ A (h4_ t1 t2 t8 t9) (rv_ 1 (.int .i64 ((n:Nat):Int)) (fun a e=>execLenI (len:=n) rfl (e _) ((FJ.on BB)).shp) (rf_ [(33,.slice ja n jc),(34,.int .i64 ((n:Nat):Int)),(35,.int .i64 ((0:Nat):Int))] (h3_ t2 t8 t9) ?_))
    rintro a A ⟨t33,t34,t35,-⟩ ⟨t2,t8,t9,-⟩
    refine wp_block ?_
    refine wp_loop (fun a W=>∃ (i:Nat),i<=n/\(a.tmps.size=58/\a.defers=[])/\a.eval (.tmp 2)=.slice ka m kc/\a.eval (.tmp 8)=v30/\a.eval (.tmp 9)=.pointer (some ⟨g9,0,none⟩)/\a.eval (.tmp 33)=.slice ja n jc/\a.eval (.tmp 34)=.int .i64 ((n:Nat):Int)/\a.eval (.tmp 35)=.int .i64 ((i:Nat):Int)/\Below V.heap.size V W/\(W.heap[g9]?=some (.cells (rsC (lv) (xv)) 114))/\(FmI V.heap.size 3 (x3 v30 lv xv) (n3 n J) (ffD sf cf vf i) W)) (fun a _=>n - (intOf (a.eval (.tmp 35))).toNat) ⟨0,Nat.zero_le _,A,t2,t8,t9,t33,t34,t35,BB,F9B,FM⟩ ?_
    rintro a XL6 ⟨i,hi,A,t2,t8,t9,t33,t34,t35,BB,F9B,FM⟩
    have esi:=t35
    refine wp_seq ?_
    refine wi_ A (h6_ t2 t8 t9 t33 t34 t35) (rv_ 0 (.bool (decide (i < n))) (fun a e=>execLtW (p:=i) (q:=n) rfl (e _) (e _)) (rf_ [(36,.bool (decide (i < n)))] (h6_ t2 t8 t9 t33 t34 t35) ?_))
    rintro a A ⟨t36,-⟩ ⟨t2,t8,t9,t33,t34,t35,-⟩
    refine wp_seq ?_
    by_cases lti:i < n
    ·rw [decide_eq_true lti] at t36
     refine wp_cond_true t36 (wp_skip ?_)
     clear t36
     refine wp_seq (wp_block ?_)
     obtain ⟨jb,jo,rfl,hjb,hcelj⟩:=hsj (by omega)
     have cJ:∀ k,k < n->∀ X,Below V.heap.size V X->X.cell? ⟨jb,jo+k,none⟩=some (.int .i64 (cf k)):=fun k hk X hX=>by rw [cell_below hX hjb]; exact hcelj k hk
     obtain ⟨c,ec0⟩:∃ c:Nat,cf i=c:=⟨(cf i).toNat,by have:=((stQ_iff.1 hst).1 i lti).1; omega⟩
     have cW:∀ X,Below V.heap.size V X->X.cell? ⟨jb,jo+i,none⟩=some (.int .i64 ((c:Nat):Int)):=fun X hX=>by rw [cJ i lti X hX,ec0]
     clear hsh hsj
     have ec:gN cf i=c:=by show (cf i).toNat=c; omega
     have hcJ:c < J:=by rw [← ec]; exact hpt.lt i lti
     have hp0:poC (gN sf) (gN cf) i=sumN (gN sf) c+cntC (gN cf) c i:=by rw [← ec]; rfl
     have hpm:sumN (gN sf) c+cntC (gN cf) c i < m:=by rw [← hp0,hmS,← hnS]; exact poC_lt hnS.symm hpt lti
     have hro:=(rdB_iff.1 (allB_iff.1 hrd i lti)).2
     rw [ec,hp0] at hro
     have hsl:sumN (lefC (gN sf) (gN cf) i) J=n - i:=lefC_sum hnS.symm hpt.lt (o:=vfO sf cf vf) (fun k hk=>(rd_lt hrd hk).2) (by omega)
     obtain ⟨p_,ep⟩:∃ p_,sumN (gN sf) c+cntC (gN cf) c i=p_:=⟨_,rfl⟩
     obtain ⟨q_,eq⟩:∃ q_,lefC (gN sf) (gN cf) i c=q_:=⟨_,rfl⟩
     rw [ep] at hpm hro
     rw [eq] at hro
     have hqs:q_<=256:=by
      have h1:q_<=gN sf c:=by rw [← eq]; exact Nat.sub_le _ _
      have h2:=sumN_at (r:=gN sf) hcJ
      omega
     obtain ⟨kb,ko,rfl,hkb,hcelk⟩:=hsk (by omega)
     clear hsk
     obtain ⟨o_,eo⟩:∃ o_:Nat,vf p_=o_:=⟨(vf p_).toNat,by omega⟩
     have cK:∀ X,Below V.heap.size V X->X.cell? ⟨kb,ko+p_,none⟩=some (.int .i64 ((o_:Nat):Int)):=fun X hX=>by rw [cell_below hX hkb,hcelk p_ hpm,eo]
     obtain ⟨gl,cl,el,hBl,_⟩:=ownL_some9 (FM.rows 1 (by omega)) (show 0 < J by omega)
     have el':lv=.slice (some ⟨gl,0,none⟩) J cl:=el
     obtain ⟨g30,c30,e30,hB30,_⟩:=ownL_some9 (FM.rows 0 (by omega)) (show 0 < n by omega)
     have e30':v30=.slice (some ⟨g30,0,none⟩) n c30:=e30
     have n30:g9 ≠ g30:=fun q=>FM.notT (t:=0) (by omega) F9B (by decide) (by rw [e30,q]; rfl)
     have hah:sumN (lefC (gN sf) (gN cf) i) c<=n:=by have:=sumN_mono (r:=lefC (gN sf) (gN cf) i) (show c<=J by omega); omega
     have hcl:J<=cl:=by have h_:=FM.rows 1 (by omega); rw [el] at h_; exact own_cap h_
     have cS:∀ X,FmI V.heap.size 3 (x3 v30 lv xv) (n3 n J) (ffD sf cf vf i) X->Calls Try.prog 70 #[.slice (some ⟨gl,0,none⟩) c cl] X fun e w'=>e=.returned (.int .i64 ((sumN (lefC (gN sf) (gN cf) i) c:Nat):Int))/\Below X.heap.size X w':=fun X hX=>by
      have h_:=hX.rows 1 (by omega)
      rw [el] at h_
      exact psum (fun j=>((lefC (gN sf) (gN cf) i j:Nat):Int)) c _ X (own_ints (own_takeI h_ (show c<=J by omega)) (fun j hj=>lefC_fits sf cf i j hok (show j < J by omega))) (by omega) (fun j _=>Int.natCast_nonneg _) (show sumN (lefC (gN sf) (gN cf) i) c<=1000000 by omega)
     refine wp_seq ?_
     refine wi_ A (h6_ t2 t8 t9 t33 t34 t35) (rv_ 1 (.pointer (some ⟨jb,jo+i,none⟩)) (fun a e=>execIdxN (k:=i) rfl (e _) (e _) lti) (rv_ 2 (.int .i64 ((c:Nat):Int)) (fun a e=>execLd3 rfl (e _) (cW XL6 BB)) (rf_ [(10,.int .i64 ((i:Nat):Int)),(11,.int .i64 ((c:Nat):Int))] (h6_ t2 t8 t9 t33 t34 t35) ?_)))
     rintro a A ⟨t10,t11,-⟩ ⟨t2,t8,t9,t33,t34,t35,-⟩
     refine wp_seq ?_
     refine wi_ A (h8_ t2 t8 t9 t33 t34 t35 t10 t11) (rv_ 0 (.pointer (some ⟨g9,0,none⟩)) (fun a e=>execFldRs0 rfl (e _)) (rv_ 1 (lv) (fun a e=>execLdLI (v:=lv) rfl (e _) (rs_at0 F9B)) (rv_ 3 (.slice (some ⟨gl,0,none⟩) c cl) (fun a e=>By8.execSlH rfl ((e _).trans el') (e _) (sl_hI gl J cl c (by omega) XL6)) (rc_ 4 (cS XL6 FM) (cb_ fun X8 bQ=>?_)))))
     replace F9B:=(on9 F9B bQ)
     replace FM:=(FM.on bQ)
     replace BB:=BB.trans (bQ.mono BB.size)
     clear bQ
     refine rf_ [(12,.int .i64 ((sumN (lefC (gN sf) (gN cf) i) c:Nat):Int))] (h8_ t2 t8 t9 t33 t34 t35 t10 t11) ?_
     rintro a A ⟨t12,-⟩ ⟨t2,t8,t9,t33,t34,t35,t10,t11,-⟩
     refine wi_ A (h9_ t2 t8 t9 t33 t34 t35 t10 t11 t12) (rv_ 4 (.agg (rsC (lv) (xv))) (fun a e=>execLdRs rfl (e _) F9B) (rc_ 6 (pvisit V X8 3 1 2 c p_ q_ (x3 v30 lv xv) (n3 n J) (ffD sf cf vf i) BB FM (by omega) (by omega) (by omega) hcJ hcJ (by rw [← ep]; rfl) (by rw [← eq]; rfl) (by omega) (by omega) (by omega)) fun e X9_1 hh=>?_))
     obtain ⟨he,hk,hsv,hb⟩:=hh
     refine ⟨_,he,?_⟩
     obtain ⟨BB,F9B,FM1⟩:Below V.heap.size V X9_1/\(X9_1.heap[g9]?=some (.cells (rsC (lv) (xv)) 114))/\(FmI V.heap.size 3 (x3 v30 lv xv) (n3 n J) (updF (updF (ffD sf cf vf i) 2 c ((p_+1:Nat):Int)) 1 c ((q_ - 1:Nat):Int)) X9_1):=⟨hb,(hp_saved F9B hsv (fun z=>z.elim (FM.notT (t:=1) (by omega) F9B (by decide)) (FM.notT (t:=2) (by omega) F9B (by decide)))),hk⟩
     clear FM
     refine rv_ 7 (.pointer (some ⟨kb,ko+p_,none⟩)) (fun a e=>execIdxN (k:=p_) rfl (e _) (e _) hpm) (rv_ 8 (.int .i64 ((o_:Nat):Int)) (fun a e=>execLd3 rfl (e _) (cK X9_1 BB)) (rv_ 9 (.int .i64 ((sumN (lefC (gN sf) (gN cf) i) c+o_:Nat):Int)) (fun a e=>execAd8 (p:=sumN (lefC (gN sf) (gN cf) i) c) (q:=o_) rfl (e _) (e _) (by omega)) (rv_ 10 (.pointer (some ⟨g30,0+i,none⟩)) (fun a e=>execIdxN (k:=i) rfl ((e _).trans e30') (e _) lti) (rs_ 11 (fun a e=>?_)))))
     obtain ⟨hc_,hf_⟩:=FM1.cell (t:=0) (by omega) e30 lti
     refine stepS rfl rfl (execStI9 rfl (e _) (e _) hc_ hf_) ⟨_,⟨_,rfl,rfl⟩,fun X9 hX=>?_⟩
     obtain ⟨BB,F9B,FM3⟩:Below V.heap.size V X9/\(X9.heap[g9]?=some (.cells (rsC (lv) (xv)) 114))/\(FmI V.heap.size 3 (x3 v30 lv xv) (n3 n J) (updF (updF (updF (ffD sf cf vf i) 2 c ((p_+1:Nat):Int)) 1 c ((q_ - 1:Nat):Int)) 0 i ((sumN (lefC (gN sf) (gN cf) i) c+o_:Nat):Int)) X9):=by subst hX; exact ⟨(BB).setCell hB30 _,((Below.heap_setCell _ _ _ _ n30).trans F9B),FM1.set (t:=0) (by omega) e30 _⟩
     clear FM1 hX e a
     refine rf_ [] (h6_ t2 t8 t9 t33 t34 t35) ?_
     rintro a A - ⟨t2,t8,t9,t33,t34,t35,-⟩
     have FM4:=FmI.cgF FM3 (ffD_next sf cf vf n J ec eo ep eq hp0)
     clear FM3
     refine wi_ A (h6_ t2 t8 t9 t33 t34 t35) (rv_ 0 (.int .i64 ((i+1:Nat):Int)) (fun a e=>execAd8 (p:=i) (q:=1) rfl (e _) rfl (by omega)) (rf_ [(35,.int .i64 ((i+1:Nat):Int))] (h5_ t2 t8 t9 t33 t34) ?_))
     rintro a A ⟨t35,-⟩ ⟨t2,t8,t9,t33,t34,-⟩
     exact ⟨⟨i+1,lti,A,t2,t8,t9,t33,t34,t35,BB,F9B,FM4⟩,by show n - (intOf (a.eval (.tmp 35))).toNat < n - (intOf (Act.eval _ (.tmp 35))).toNat; rw [t35,esi]; show n - (i+1) < n - i; omega⟩
    ·rw [decide_eq_false lti] at t36
     refine wp_cond_false t36 ?_
     refine wp_exit ?_
     first | with_reducible refine exit_in ?_ | with_reducible refine exit_then (exit_in ?_) | with_reducible refine exit_then (exit_then (exit_in ?_)) | refine exit_in ?_ | refine exit_then (exit_in ?_) | refine exit_then (exit_then (exit_in ?_))
     clear t36 esi
     obtain rfl:i=n:=by omega
     clear t2 t9 t33 t34 t35 F9B
     refine wp_seq ?_
     refine wi_ A (h1_ t8) (rg_ [(6,v30),(7,.int .i64 ((0:Nat):Int))] ?_)
     rintro a A ⟨t6,t7,-⟩
     have FO:XL6.ownsRow V.heap.size 3 1 v30 i (intsL i (fun k=>if k < i then dwF sf cf vf k else 0)):=FM.rows 0 (by omega)
     rw [intsL_congr (g:=dwF sf cf vf) (fun j hj=>if_pos hj)] at FO
     refine wp_ret ?_
     refine bodyPost_ret (results_tmp2 rfl _ _ _) A.2 ⟨v30,?_,FO,BB⟩
     show Ending.returned (.tuple #[a.eval (.tmp 6),a.eval (.tmp 7)])=_
     rw [t6,t7]
end Go.Proofs.Ytmjpneaccjlpkaa.Brd

namespace Go.Proofs.Ytmjpneaccjlpkaa.Brd
open Go.RowKit Gf8 Aes By8 Cel Cf Tap Drw Prm
/- Stage 12: Pattern and Draws take back one another; offsets are carried over (over Nat and Int). -/
theorem lfD_cg {s:Nat->Nat} {J:Nat} {D E:Nat->Nat}:∀ {k},(∀ i,i < k->D i=E i)->lfD s J D k=lfD s J E k
 | 0,_=>rfl
 | k+1,h=>by
  show dec1 (lfD s J D k) (pj (lfD s J D k) (D k) J)=dec1 (lfD s J E k) (pj (lfD s J E k) (E k) J)
  rw [lfD_cg (k:=k) fun i hi=>h i (by omega),h k (by omega)]
theorem chD_cg {s:Nat->Nat} {J n:Nat} {D E:Nat->Nat} (h:∀ i,i < n->D i=E i) {k:Nat} (hk:k < n):chD s J D k=chD s J E k:=by
 unfold chD
 rw [lfD_cg (k:=k) fun i hi=>h i (by omega),h k hk]
theorem ofD_cg {s:Nat->Nat} {J n:Nat} {D E:Nat->Nat} (h:∀ i,i < n->D i=E i) {k:Nat} (hk:k < n):ofD s J D k=ofD s J E k:=by
 unfold ofD
 rw [chD_cg h hk,lfD_cg (k:=k) fun i hi=>h i (by omega),h k hk]
theorem plC_cg {C E:Nat->Nat} {j v:Nat}:∀ {n},(∀ i,i < n->C i=E i)->plC C j v n=plC E j v n
 | 0,_=>rfl
 | n+1,h=>by
  unfold plC
  rw [plC_cg (n:=n) fun i hi=>h i (by omega),h n (by omega),cntC_cg fun i hi=>h i (by omega)]
theorem plC_lt {C:Nat->Nat} {j v:Nat}:∀ {n},0 < n->plC C j v n < n
 | 0,h=>absurd h (Nat.not_lt_zero _)
 | n+1,_=>by
  unfold plC
  by_cases q:C n=j/\cntC C j n=v
  ·rw [if_pos q]; omega
  ·rw [if_neg q]
   cases n with
   | zero=>exact Nat.zero_lt_succ _
   | succ n=>exact Nat.lt_succ_of_lt (plC_lt (Nat.zero_lt_succ _))
theorem ovF_cg {s:Nat->Nat} {J n x:Nat} {C E o p:Nat->Nat} (h:∀ i,i < n->C i=E i) (ho:∀ i,i < n->o i=p i) (hx:x < n):ovF s J C o n x=ovF s J E p n x:=by
 unfold ovF
 rw [plC_cg h,ho _ (plC_lt (by omega))]
theorem poC_cg {s C E:Nat->Nat} {n:Nat} (h:∀ i,i < n->C i=E i) {k:Nat} (hk:k < n):poC s C k=poC s E k:=by
 unfold poC
 rw [h k hk,cntC_cg fun i hi=>h i (by omega)]
theorem drC_cg {s C E o p:Nat->Nat} {n:Nat} (h:∀ i,i < n->C i=E i) {k:Nat} (hk:k < n) (ho:o k=p k):drC s C o k=drC s E p k:=by
 unfold drC
 rw [ho,h k hk,lefC_cg fun i hi=>h i (by omega)]
section
variable {sf f g:Nat->Int} {J m:Nat}
theorem pat_dr {cf vf:Nat->Int} {n:Nat} (h:drQ sf J cf n vf m=true):paQ sf J (dwF sf cf vf) n=true/\(∀ k,k < n->pcF sf J (dwF sf cf vf) k=cf k)/\∀ x,x < n->poF sf J (dwF sf cf vf) n x=vf x:=by
 obtain ⟨hs,hst,_,_⟩:=drQ_iff.1 h
 obtain ⟨hn,hm,hrd⟩:=(rd_dr hs).2 h
 have hp:=stQ_pat hst
 have hlt:∀ k,k < n->gN cf k < J:=hp.lt
 have ho:∀ k,k < n->vfO sf cf vf k < lefC (gN sf) (gN cf) k (gN cf k):=fun k hk=>(rd_lt hrd hk).2
 have hch:∀ k,k < n->chD (gN sf) J (drC (gN sf) (gN cf) (vfO sf cf vf)) k=gN cf k:=fun k hk=>ch_dr hn.symm hlt ho hk
 have hof:∀ k,k < n->ofD (gN sf) J (drC (gN sf) (gN cf) (vfO sf cf vf)) k=vfO sf cf vf k:=fun k hk=>of_dr hn.symm hlt ho hk
 refine ⟨paQ_iff.2 ⟨hs,hn,faQ_iff.2 fun i hi=>?_⟩,fun k hk=>?_,fun x hx=>?_⟩
 ·have h1:=drC_lt hn.symm hlt ho hi
  show 0<=((drC (gN sf) (gN cf) (vfO sf cf vf) i:Nat):Int)/\((drC (gN sf) (gN cf) (vfO sf cf vf) i:Nat):Int) < _
  omega
 ·show ((chD (gN sf) J (drC (gN sf) (gN cf) (vfO sf cf vf)) k:Nat):Int)=cf k
  rw [hch k hk]
  have:=((stQ_iff.1 hst).1 k hk).1
  show (((cf k).toNat:Nat):Int)=cf k
  omega
 ·obtain ⟨k,hk,e⟩:=poC_onto hn.symm hp hx
  show ((ovF (gN sf) J (chD (gN sf) J (drC (gN sf) (gN cf) (vfO sf cf vf))) (ofD (gN sf) J (drC (gN sf) (gN cf) (vfO sf cf vf))) n x:Nat):Int)=vf x
  rw [ovF_cg hch hof hx,← e,ovF_at hp _ hk]
  have:=(rdB_iff.1 (allB_iff.1 hrd k hk)).2.1
  show (((vf (poC (gN sf) (gN cf) k)).toNat:Nat):Int)=_
  omega
theorem carry (h1:paQ sf J f m=true) (h2:paQ sf J g m=true):drQ sf J (pcF sf J f) m (poF sf J g m) m=true:=by
 obtain ⟨hs,hmS,_⟩:=paQ_iff.1 h1
 obtain ⟨hn,hD⟩:=pa_draws h1
 obtain ⟨_,hD2⟩:=pa_draws h2
 have hp:=chD_pat hn hD
 have hp2:=chD_pat hn hD2
 have hok:=(szQ_iff.1 hs).2
 refine drQ_iff.2 ⟨hs,stQ_iff.2 ⟨fun i hi=>?_,fun j hj=>?_⟩,hmS,ofQ_iff.2 fun j hj k hk=>?_⟩
 ·have:=hp.lt i hi
  show 0<=((chD _ _ _ i:Nat):Int)/\((chD _ _ _ i:Nat):Int) < _
  omega
 ·show sf j=((cntC (chD (gN sf) J (gN f)) j m:Nat):Int)
  rw [hp.cnt j hj]
  exact okS_nn hok hj
 ·have h3:=sumN_at (r:=gN sf) hj
  obtain ⟨p,hpm,e⟩:=poC_onto hn hp2 (x:=sumN (gN sf) j+k) (by omega)
  have e2:chD (gN sf) J (gN g) p=j:=by
   rw [← poC_pj hp2 hpm,e]
   exact pj_is hj (by omega) (by omega)
  have h4:=ofD_lt hn hD2 hpm
  have e4:poC (gN sf) (chD (gN sf) J (gN g)) p=sumN (gN sf) (chD (gN sf) J (gN g) p)+cntC (chD (gN sf) J (gN g)) (chD (gN sf) J (gN g) p) p:=rfl
  have e5:lefC (gN sf) (chD (gN sf) J (gN g)) p (chD (gN sf) J (gN g) p)=gN sf (chD (gN sf) J (gN g) p) - cntC (chD (gN sf) J (gN g)) (chD (gN sf) J (gN g) p) p:=rfl
  rw [e5,e2] at h4
  rw [e2,e] at e4
  show 0<=((ovF _ _ _ _ m (sumN (gN sf) j+k):Nat):Int)/\((ovF _ _ _ _ m (sumN (gN sf) j+k):Nat):Int) < _
  rw [← e,ovF_at hp2 _ hpm]
  omega
end
theorem pj_le (r:Nat->Nat) (d:Nat):∀ J,pj r d J<=J
 | 0=>Nat.le_refl _
 | J+1=>by
  have:=pj_le r d J
  unfold pj
  by_cases q:d < sumN r J
  ·rw [if_pos q]; omega
  ·rw [if_neg q]; omega
section
variable {sf df:Nat->Int} {J m:Nat}
theorem pc_fits {N:Nat} (hJ:J<=17592186044416):∀ j,j < N->-9223372036854775808<=pcF sf J df j/\pcF sf J df j < 9223372036854775808:=fun j _=>by
 have:=pj_le (lfD (gN sf) J (gN df) j) (gN df j) J
 show _<=((pj _ _ J:Nat):Int)/\((pj _ _ J:Nat):Int) < _
 omega
theorem zl_le (E n:Nat):zl E n<=n:=by
 unfold zl
 split <;> omega
theorem po_fits {E:Nat} (hd:∀ j,j < m->-9223372036854775808<=df j/\df j < 9223372036854775808):∀ j,j < zl E m->-9223372036854775808<=poF sf J df m j/\poF sf J df m j < 9223372036854775808:=fun j hj=>by
 have h0:=zl_le E m
 obtain ⟨p,ep⟩:∃ p,plC (chD (gN sf) J (gN df)) (pj (gN sf) j J) (j - sumN (gN sf) (pj (gN sf) j J)) m=p:=⟨_,rfl⟩
 have hp:p < m:=by rw [← ep]; exact plC_lt (by omega)
 have h1:=hd p hp
 have h2:ofD (gN sf) J (gN df) p<=(df p).toNat:=Nat.sub_le _ _
 show _<=((ofD (gN sf) J (gN df) (plC _ _ _ m):Nat):Int)/\((ofD (gN sf) J (gN df) (plC _ _ _ m):Nat):Int) < _
 rw [ep]
 omega
theorem dw_fits {cf vf:Nat->Int} {n:Nat} (hn17:n<=17592186044416):∀ j,j < zl (drE sf J cf n vf m) n->-9223372036854775808<=dwF sf cf vf j/\dwF sf cf vf j < 9223372036854775808:=fun j hj=>by
 by_cases h:drQ sf J cf n vf m=true
 ·rw [drE_ok h,zl_ok] at hj
  obtain ⟨h1,_,_⟩:=pat_dr h
  have:=faQ_iff.1 (paQ_iff.1 h1).2.2 j hj
  omega
 ·rw [drE_no h,zl_no (by decide)] at hj
  omega
end
end Go.Proofs.Ytmjpneaccjlpkaa.Brd

namespace Go.Proofs.Ytmjpneaccjlpkaa.Rif
/- Orders by way of chunks, over Nat (stage 13): names nothing of a program. -/
open Go.Proofs.Ytmjpneaccjlpkaa.Prm
open Go.Proofs.Ytmjpneaccjlpkaa.Brd
theorem pigeon {a b:Nat} {g:Nat->Nat} (hl:∀ i,i < a->g i < b) (hi:∀ i j,i < a->j < a->g i=g j->i=j):a<=b:=by
 by_cases h:a<=b
 ·exact h
 ·have P:IsP g a:=⟨fun i q=>by have:=hl i q; omega,hi⟩
  obtain ⟨i,h1,h2⟩:=surj P b (by omega)
  have:=hl i h1
  omega
theorem sumN_eq {r q:Nat->Nat}:∀ {J},(∀ j,j < J->r j<=q j)->sumN r J=sumN q J->∀ j,j < J->r j=q j
 | 0,_,_,j,hj=>absurd hj (Nat.not_lt_zero _)
 | J+1,h,e,j,hj=>by
  have e':sumN r J+r J=sumN q J+q J:=e
  have h1:=sumN_le (J:=J) fun i hi=>h i (by omega)
  have h2:=h J (by omega)
  by_cases c:j=J
  ·subst c; omega
  ·exact sumN_eq (J:=J) (fun i hi=>h i (by omega)) (by omega) j (by omega)
def orC (s C:Nat->Nat) (P:Nat->Nat->Nat) (i:Nat):Nat:=sumN s (C i)+P (C i) (cntC C (C i) i)
def wC (s:Nat->Nat) (J:Nat) (w:Nat->Nat) (i:Nat):Nat:=pj s (w i) J
def wO (s:Nat->Nat) (J n:Nat) (w:Nat->Nat) (j k:Nat):Nat:=w (plC (wC s J w) j k n) - sumN s j
section
variable {s C:Nat->Nat} {J n:Nat} {P:Nat->Nat->Nat}
theorem orC_in (h:IsPat s J n C) (hP:∀ j,j < J->IsP (P j) (s j)) {i:Nat} (hi:i < n):C i < J/\sumN s (C i)<=orC s C P i/\orC s C P i < sumN s (C i)+s (C i):=by
 have h1:=h.lt i hi
 have h2:=(hP _ h1).lt _ (h.vis hi)
 exact ⟨h1,Nat.le_add_right _ _,Nat.add_lt_add_left h2 _⟩
theorem orC_pj (h:IsPat s J n C) (hP:∀ j,j < J->IsP (P j) (s j)) {i:Nat} (hi:i < n):wC s J (orC s C P) i=C i:=by
 obtain ⟨h1,h2,h3⟩:=orC_in h hP hi
 exact pj_is h1 h2 h3
theorem orC_isP (hn:sumN s J=n) (h:IsPat s J n C) (hP:∀ j,j < J->IsP (P j) (s j)):IsP (orC s C P) n:=by
 refine ⟨fun i hi=>?_,fun i k hi hk e=>?_⟩
 ·obtain ⟨h1,h2,h3⟩:=orC_in h hP hi
  have:=sumN_at (r:=s) h1
  omega
 ·have ei:=orC_pj h hP hi
  have ek:=orC_pj h hP hk
  have ec:C i=C k:=by
   rw [← ei,← ek]
   show pj s (orC s C P i) J=pj s (orC s C P k) J
   rw [e]
  have e':sumN s (C i)+P (C i) (cntC C (C i) i)=sumN s (C k)+P (C k) (cntC C (C k) k):=e
  refine cntC_inj ec ?_
  have hk':=h.vis hk
  have hi':=h.vis hi
  have hJ:=h.lt k hk
  rw [← ec] at e' hk' hJ ⊢
  exact (hP _ hJ).inj _ _ hi' hk' (by omega)
theorem wO_or (h:IsPat s J n C) (hP:∀ j,j < J->IsP (P j) (s j)) {j k:Nat} (hj:j < J) (hk:k < s j):wO s J n (orC s C P) j k=P j k:=by
 have hc:=h.cnt j hj
 have e1:plC (wC s J (orC s C P)) j k n=plC C j k n:=plC_cg fun i hi=>orC_pj h hP hi
 obtain ⟨g1,g2,g3⟩:=plC_has (C:=C) (j:=j) (v:=k) (n:=n) (by omega)
 show orC s C P (plC (wC s J (orC s C P)) j k n) - sumN s j=P j k
 rw [e1]
 show sumN s (C (plC C j k n))+P (C (plC C j k n)) (cntC C (C (plC C j k n)) (plC C j k n)) - sumN s j=P j k
 rw [g2,g3]
 omega
end
section
variable {s w:Nat->Nat} {J n:Nat}
theorem wC_in (hn:sumN s J=n) (h:IsP w n) {i:Nat} (hi:i < n):wC s J w i < J/\sumN s (wC s J w i)<=w i/\w i < sumN s (wC s J w i)+s (wC s J w i):=pj_lt (by have:=h.lt i hi; omega)
theorem wO_in (hn:sumN s J=n) (h:IsP w n) {j k:Nat} (hk:k < cntC (wC s J w) j n):plC (wC s J w) j k n < n/\wC s J w (plC (wC s J w) j k n)=j/\cntC (wC s J w) j (plC (wC s J w) j k n)=k/\w (plC (wC s J w) j k n)=sumN s j+wO s J n w j k/\wO s J n w j k < s j:=by
 obtain ⟨g1,g2,g3⟩:=plC_has hk
 obtain ⟨q1,q2,q3⟩:=wC_in hn h g1
 rw [g2] at q2 q3
 refine ⟨g1,g2,g3,?_,?_⟩
 ·show _=sumN s j+(w (plC (wC s J w) j k n) - sumN s j)
  omega
 ·show w (plC (wC s J w) j k n) - sumN s j < s j
  omega
theorem wO_inj (hn:sumN s J=n) (h:IsP w n) {j k m:Nat} (hk:k < cntC (wC s J w) j n) (hm:m < cntC (wC s J w) j n) (e:wO s J n w j k=wO s J n w j m):k=m:=by
 obtain ⟨a1,a2,a3,a4,a5⟩:=wO_in hn h hk
 obtain ⟨b1,b2,b3,b4,b5⟩:=wO_in hn h hm
 have:=h.inj _ _ a1 b1 (by omega)
 rw [this] at a3
 omega
theorem wC_pat (hn:sumN s J=n) (h:IsP w n):IsPat s J n (wC s J w):=by
 have hl:∀ k,k < n->wC s J w k < J:=fun k hk=>(wC_in hn h hk).1
 refine ⟨hl,fun j hj=>?_⟩
 exact sumN_eq (r:=fun j=>cntC (wC s J w) j n) (q:=s) (J:=J) (fun i _=>pigeon (fun k hk=>(wO_in hn h hk).2.2.2.2) fun k m hk hm e=>wO_inj hn h hk hm e) (by rw [Brd.cnt_all hl,hn]) j hj
theorem wO_isP (hn:sumN s J=n) (h:IsP w n) {j:Nat} (hj:j < J):IsP (wO s J n w j) (s j):=by
 have hc:=(wC_pat hn h).cnt j hj
 exact ⟨fun k hk=>(wO_in hn h (by omega)).2.2.2.2,fun k m hk hm e=>wO_inj hn h (by omega) (by omega) e⟩
end
section
variable {s C C' w w':Nat->Nat} {J n:Nat} {P P':Nat->Nat->Nat}
end
end Go.Proofs.Ytmjpneaccjlpkaa.Rif
