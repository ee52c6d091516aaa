import Derived.Test.YtjjegmflllpknaaN8r
import Derived.Test.YtjjegmflllpknaaT8x
import Derived.WalkKit
namespace Go.Proofs.Ytjjegmflllpknaa.Loo
open Go.RowKit Gf8 Aes By8 Cel Cf Win Drw Prm
/- The landed Run; what the landed package keeps. Written by tools/mkN8r.py. -/
structure Qb {σ:Type} (S:Sys σ) (V:World) (k1 k3:Nat->Nat) (sb g6 i:Nat) (W:World):Prop where
 bel:Below V.heap.size V W
 bx:∀ t,t < i->W.heap[k1 t]?=some (.cells #[fvl (S.rf t),fvl (S.sf t)] 48)/\W.heap[k3 t]?=some (.cells #[.bool (S.sf t).isNone] 4)
 bg:∀ t,t < i->V.heap.size<=k1 t/\V.heap.size<=k3 t
 inj:∀ s t,s < i->t < i->s ≠ t->k3 s ≠ k3 t
 row:∃ cur,W.heap[sb]?=some (.cells cur 73)/\cur.size=S.n * 3/\∀ t,t < i->cur[t * 3]?=some (fv3 (re_e (k3 t)))/\cur[t * 3+1]?=some (fv3 (re_r (k1 t)))/\cur[t * 3+2]?=some (fv3 (re_s (k1 t) (k3 t)))
 h6:W.heap[g6]?=some (.cells (hC (.slice none 0 0) 0 false false 0 (.slice none 0 0)) 29)
 ge6:V.heap.size<=g6
 gsb:V.heap.size<=sb
section
variable {σ:Type} {S:Sys σ} {V W X:World} {k1 k3:Nat->Nat} {sb g6 i:Nat}
theorem Qb.on (h:Qb S V k1 k3 sb g6 i W) (hb:Below W.heap.size W X):Qb S V k1 k3 sb g6 i X:=by
 obtain ⟨cur,r1,r2⟩:=h.row
 exact ⟨h.bel.trans (hb.mono h.bel.size),fun t ht=>⟨on9 (h.bx t ht).1 hb,on9 (h.bx t ht).2 hb⟩,h.bg,h.inj,⟨cur,on9 r1 hb,r2⟩,on9 h.h6 hb,h.ge6,h.gsb⟩
theorem Qb.store {cur:Array Value} {a b:Nat} (h:Qb S V k1 k3 sb g6 i W) (hi:i < S.n) (r1:W.heap[sb]?=some (.cells cur 73)) (r2:cur.size=S.n * 3) (r3:∀ t,t < i->cur[t * 3]?=some (fv3 (re_e (k3 t)))/\cur[t * 3+1]?=some (fv3 (re_r (k1 t)))/\cur[t * 3+2]?=some (fv3 (re_s (k1 t) (k3 t))))
  (ha:W.heap[a]?=some (.cells #[fvl (S.rf i),fvl (S.sf i)] 48)) (hb:W.heap[b]?=some (.cells #[.bool (S.sf i).isNone] 4)) (hag:V.heap.size<=a/\V.heap.size<=b) (hn:∀ t,t < i->k3 t ≠ b) (e:X=W.setRow sb (cur.toList.take (i * 3) ++ [fv3 (re_e b),fv3 (re_r a),fv3 (re_s a b)] ++ cur.toList.drop (i * 3+3)).toArray):Qb S V (upf k1 i a) (upf k3 i b) sb g6 (i+1) X:=by
 have hk:∀ {g:Nat} {c:Array Value} {T:TypeId},W.heap[g]?=some (.cells c T)->T ≠ 73->X.heap[g]?=some (.cells c T):=fun {g c T} hg hT=>by
  rw [e,setRow_other _ _ _ _ (fun q=>?_)]
  ·exact hg
  ·subst q
   rw [r1] at hg
   injection hg with hg
   injection hg with _ hg _
   exact hT hg.symm
 obtain ⟨s1,s2,s3,s4,s5⟩:=row_in (u1:=fv3 (re_e b)) (u2:=fv3 (re_r a)) (u3:=fv3 (re_s a b)) r2 hi
 refine ⟨by rw [e]; exact below4 h.bel h.gsb _,fun t ht=>?_,fun t ht=>?_,fun s t hs ht hst=>?_,⟨_,by rw [e]; exact setRow_heap _ _ _ _ _ _ r1,s1,fun t ht=>?_⟩,hk h.h6 (by decide),h.ge6,h.gsb⟩
 ·by_cases q:t=i
  ·subst q
   rw [upf_at,upf_at]
   exact ⟨hk ha (by decide),hk hb (by decide)⟩
  ·rw [upf_ne _ _ q,upf_ne _ _ q]
   obtain ⟨w1,w2⟩:=h.bx t (by omega)
   exact ⟨hk w1 (by decide),hk w2 (by decide)⟩
 ·by_cases q:t=i
  ·rw [q,upf_at,upf_at]; exact hag
  ·rw [upf_ne _ _ q,upf_ne _ _ q]; exact h.bg t (by omega)
 ·by_cases q:t=i
  ·rw [q,upf_at,upf_ne _ _ (by omega)]
   exact hn s (by omega)
  ·rw [upf_ne k3 b q]
   by_cases q2:s=i
   ·rw [q2,upf_at]
    exact Ne.symm (hn t (by omega))
   ·rw [upf_ne _ _ q2]
    exact h.inj s t (by omega) (by omega) hst
 ·by_cases q:t=i
  ·subst q
   rw [upf_at,upf_at]
   exact ⟨s3,s4,s5⟩
  ·rw [upf_ne _ _ q,upf_ne _ _ q,s2 _ (by omega),s2 _ (by omega),s2 _ (by omega)]
   exact r3 t (by omega)
end
theorem SliceK.at {W:World} {v:Value} {n b off c j:Nat} {x y:Nat->Value} (h:SliceK W v n x y) (e:v=.slice (some ⟨b,off,none⟩) n c) (hj:j < n):b < W.heap.size/\W.cell? ⟨b,off+j * 2,none⟩=some (x j)/\W.cell? ⟨b,off+j * 2+1,none⟩=some (y j):=by
 obtain ⟨a,cap,e1,h1⟩:=h
 obtain ⟨b2,off2,e2,h2,h3⟩:=h1 (by omega)
 rw [e,e2] at e1
 injection e1 with e3
 injection e3 with e3
 injection e3 with e4 e5 _
 rw [e4,e5]
 exact ⟨h2,h3 j hj⟩
theorem ask_live {σ:Type} {S:Sys σ} {k1 k3:Nat->Nat} {inj:(∀ s t,s < S.n->t < S.n->s ≠ t->k3 s ≠ k3 t)/\∀ t,t < S.n->S.lo<=k3 t} {y:(Nat->Bool) × σ}:∀ {j t:Nat},t ∈ ((qS S k1 k3 inj).ask j y).1->((qS S k1 k3 inj).ask S.n y).2.1 t=false
 | j,t,h=>by
  rw [show (qS S k1 k3 inj).ask S.n y=_ from qS_ask S.n]
  rw [show (qS S k1 k3 inj).ask j y=_ from qS_ask j] at h
  show y.1 t=false
  have key:∀ {j t:Nat},t ∈ (S.ask y.1 j y.2).1->y.1 t=false:=fun {j}=>by
   induction j with
   | zero=>intro t h; cases h
   | succ j ih=>
    intro t h
    unfold Sys.ask at h
    by_cases q:y.1 j=true
    ·simp only [if_pos q] at h
     exact ih h
    ·simp only [if_neg q] at h
     have hq:y.1 j=false:=by simpa using q
     cases hr:S.rf j with
     | none=>
      simp only [hr] at h
      rcases List.mem_append.1 h with w | w
      ·exact ih w
      ·rw [List.mem_singleton.1 w]; exact hq
     | some z=>
      simp only [hr] at h
      by_cases w:(S.ra (S.ask y.1 j y.2).2 j).1=true
      ·simp only [if_pos w] at h
       rcases List.mem_append.1 h with w | w
       ·exact ih w
       ·rw [List.mem_singleton.1 w]; exact hq
      ·simp only [if_neg w] at h
       exact ih h
  exact key h
set_option maxRecDepth 100000 in
set_option maxHeartbeats 4000000 in
theorem prun {σ:Type} (S:Sys σ) (tv sv:Value) (m:Nat) (sc:Nat->Int) (most:Int) (x:σ) (F:Nat->Prop) (V:World) (hK:SliceK V tv S.n (fun t=>fvl (S.rf t)) (fun t=>fvl (S.sf t))) (hS:SliceI V sv m sc) (hR:S.R V F x) (hs2:0 < m->∀ a n c,sv=.slice (some a) n c->¬ F a.block) (hn:S.n<=1000) (hmost:most<=1000) (J:Nat->Nat->σ->Prop) (hJ:S.Hold most.toNat x J) :
  Calls Try.prog 14 #[tv,sv,.int .i64 most] V fun e w'=>∃ pk F',RunE S (scr m sc) most.toNat x V F pk F' e w':=by
 go_enter Try.func14,Try.ntmps14
 refine wo_ 30 [(0,tv),(1,sv),(2,.int .i64 most)] ?_
 rintro a A ⟨t0,t1,t2,-⟩
 refine wp_seq ?_
 obtain ⟨g6,e6⟩:∃ z_:Nat,V.heap.size=z_:=⟨_,rfl⟩
 refine wi_ A (h3_ t0 t1 t2) (rs_ 0 (fun a E=>?_))
 refine stepV rfl rfl (execAlH rfl) ⟨.pointer (some ⟨g6,0,none⟩),⟨_,rfl,by subst e6; rfl⟩,fun X1 hX=>?_⟩
 have b1:Below V.heap.size V X1:=by rw [hX]; exact belNew V _
 have F6:X1.heap[g6]?=some (.cells (hC (.slice none 0 0) 0 false false 0 (.slice none 0 0)) 29):=by rw [hX,← e6]; exact heapNew V _
 clear hX E a
 refine rf_ [(6,.pointer (some ⟨g6,0,none⟩))] (h3_ t0 t1 t2) ?_
 rintro a A ⟨t6,-⟩ ⟨t0,t1,t2,-⟩
 have hshp:∃ ao c,tv=.slice ao S.n c:=by
  obtain ⟨ao,c,e,_⟩:=hK
  exact ⟨ao,c,e⟩
 refine wp_seq ?_
 refine wi_ A (h4_ t0 t1 t2 t6) (rv_ 1 (.int .i64 ((S.n:Nat):Int)) (fun a E=>execLnQ rfl (E _) hshp) (rs_ 2 (fun a E=>?_)))
 obtain ⟨sb,esb⟩:∃ z_:Nat,X1.heap.size=z_:=⟨_,rfl⟩
 refine stepV rfl rfl (execMkSt rfl (E _) (E _) (by omega)) ⟨.slice (some ⟨sb,0,none⟩) S.n S.n,⟨_,rfl,by subst esb; rfl⟩,fun X2 hX=>?_⟩
 have b2:Below X1.heap.size X1 X2:=by rw [hX]; exact belNew X1 _
 have Fs:X2.heap[sb]?=some (.cells (madeCells #[.nilFunc,.nilFunc,.nilFunc] (S.n * 3)) 73):=by rw [hX,← esb]; exact heapNew X1 _
 clear hX E a
 have K0:Qb S V (fun _=>0) (fun _=>0) sb g6 0 X2:=⟨b1.trans (b2.mono b1.size),fun t ht=>by omega,fun t ht=>by omega,fun s t hs=>by omega,⟨_,Fs,made_size _ _,fun t ht=>by omega⟩,on9 F6 b2,by omega,by have:=b1.size; omega⟩
 refine rf_ [(7,.slice (some ⟨sb,0,none⟩) S.n S.n)] (h4_ t0 t1 t2 t6) ?_
 rintro a A ⟨t7,-⟩ ⟨t0,t1,t2,t6,-⟩
 refine wp_seq (wp_seq ?_)
 refine wi_ A (h5_ t0 t1 t2 t6 t7) (rv_ 1 (.int .i64 ((S.n:Nat):Int)) (fun a E=>execLnQ rfl (E _) hshp) (rf_ [(13,tv),(14,.int .i64 ((S.n:Nat):Int)),(15,.int .i64 ((0:Nat):Int))] (h4_ t1 t2 t6 t7) ?_))
 rintro a A ⟨t13,t14,t15,-⟩ ⟨t1,t2,t6,t7,-⟩
 refine wp_block ?_
 refine wp_loop (fun a W=>∃ (i:Nat) (k1 k3:Nat->Nat),i<=S.n/\(a.tmps.size=30/\a.defers=[])/\a.eval (.tmp 1)=sv/\a.eval (.tmp 2)=.int .i64 most/\a.eval (.tmp 6)=.pointer (some ⟨g6,0,none⟩)/\a.eval (.tmp 7)=.slice (some ⟨sb,0,none⟩) S.n S.n/\a.eval (.tmp 13)=tv/\a.eval (.tmp 14)=.int .i64 ((S.n:Nat):Int)/\a.eval (.tmp 15)=.int .i64 ((i:Nat):Int)/\Qb S V k1 k3 sb g6 i W) (fun a _=>S.n - (intOf (a.eval (.tmp 15))).toNat) ⟨0,_,_,Nat.zero_le _,A,t1,t2,t6,t7,t13,t14,t15,K0⟩ ?_
 rintro a XL ⟨i,k1,k3,hi,A,t1,t2,t6,t7,t13,t14,t15,K⟩
 have es:=t15
 refine wp_seq ?_
 refine wi_ A (h7_ t1 t2 t6 t7 t13 t14 t15) (rv_ 0 (.bool (decide (i < S.n))) (fun a E=>execLtW (p:=i) (q:=S.n) rfl (E _) (E _)) (rf_ [(16,.bool (decide (i < S.n)))] (h7_ t1 t2 t6 t7 t13 t14 t15) ?_))
 rintro a A ⟨t16,-⟩ ⟨t1,t2,t6,t7,t13,t14,t15,-⟩
 refine wp_seq ?_
 by_cases hlt:i < S.n
 ·rw [decide_eq_true hlt] at t16
  refine wp_cond_true t16 (wp_skip ?_)
  clear t16
  obtain ⟨tb_,to_,tc,et⟩:∃ b off c,tv=.slice (some ⟨b,off,none⟩) S.n c:=by
   obtain ⟨ao,c,e,h1⟩:=hK
   obtain ⟨b,off,e2,_⟩:=h1 (by omega)
   exact ⟨b,off,c,by rw [e,e2]⟩
  obtain ⟨ltb,hc1,hc2⟩:=SliceK.at hK et hlt
  have hcell:XL.cell? ⟨tb_,to_+i * 2,none⟩=some (fvl (S.rf i))/\XL.cell? ⟨tb_,to_+i * 2+1,none⟩=some (fvl (S.sf i)):=by
   rw [cell_below K.bel ltb,cell_below K.bel ltb]
   exact ⟨hc1,hc2⟩
  refine wp_seq (wp_block ?_)
  refine wp_seq ?_
  refine wi_ A (h7_ t1 t2 t6 t7 t13 t14 t15) (rv_ 1 (.pointer (some ⟨tb_,to_+i * 2,none⟩)) (fun a E=>execIxQ (k:=i) rfl ((E _).trans et) (E _) hlt) (rv_ 2 (.agg #[fvl (S.rf i),fvl (S.sf i)]) (fun a E=>execLdTk rfl (E _) hcell) (rs_ 3 (fun a E=>?_))))
  obtain ⟨g9,e9⟩:∃ z_:Nat,XL.heap.size=z_:=⟨_,rfl⟩
  refine stepV rfl rfl (execAlTk rfl) ⟨.pointer (some ⟨g9,0,none⟩),⟨_,rfl,by subst e9; rfl⟩,fun X3 hX=>?_⟩
  have b3:Below XL.heap.size XL X3:=by rw [hX]; exact belNew XL _
  have F9:X3.heap[g9]?=some (.cells #[.nilFunc,.nilFunc] 48):=by rw [hX,← e9]; exact heapNew XL _
  clear hX E a
  refine rs_ 5 (fun a E=>?_)
  refine stepS rfl rfl (execStTk rfl (E _) (E _) F9 (fvl_fn _) (fvl_fn _)) ⟨_,⟨_,rfl,rfl⟩,fun X4 hX=>?_⟩
  have b4:Below XL.heap.size XL X4:=by rw [hX]; exact below4 b3 (by omega) _
  have F9':X4.heap[g9]?=some (.cells #[fvl (S.rf i),fvl (S.sf i)] 48):=by rw [hX]; exact setRow_heap _ _ _ _ _ _ F9
  clear hX E a b3 F9
  have hkl:∀ t,t < i->k3 t < XL.heap.size:=fun t ht=>(Array.getElem?_eq_some_iff.1 (K.bx t ht).2).1
  have hVL:=K.bel.size
  replace K:=K.on b4
  refine rf_ [(8,.int .i64 ((i:Nat):Int)),(9,.pointer (some ⟨g9,0,none⟩))] (h7_ t1 t2 t6 t7 t13 t14 t15) ?_
  rintro a A ⟨t8,t9,-⟩ ⟨t1,t2,t6,t7,t13,t14,t15,-⟩
  refine wi_ A (h9_ t1 t2 t6 t7 t13 t14 t15 t8 t9) (rv_ 2 (.agg #[fvl (S.rf i),fvl (S.sf i)]) (fun a E=>execLdTk rfl (E _) (two_at F9')) (rc_ 3 (prstrand (S.rf i) (S.sf i) X4) (fun e X5 hh=>?_)))
  obtain ⟨ka,kb,he,ga,gb,Fa,Fb,bQ⟩:=hh
  refine ⟨_,he,?_⟩
  have h4L:=b4.size
  replace K:=K.on bQ
  clear bQ he
  obtain ⟨cur,r1,r2,r3⟩:=K.row
  refine rv_ 4 (.pointer (some ⟨sb,0+i * 3,none⟩)) (fun a E=>execIxK (k:=i) rfl (E _) (E _) hlt) (rs_ 5 (fun a E=>?_))
  refine stepS rfl rfl (execStRow (t:=i) (n:=S.n) rfl (E _) (E _) r1 r2 hlt) ⟨_,⟨_,rfl,rfl⟩,fun X6 hX=>?_⟩
  replace K:=K.store hlt r1 r2 r3 Fa Fb ⟨by omega,by omega⟩ (fun t ht w=>by have:=hkl t ht; omega) hX
  clear hX E a r1 r2 r3
  refine rf_ [] (h7_ t1 t2 t6 t7 t13 t14 t15) ?_
  rintro a A - ⟨t1,t2,t6,t7,t13,t14,t15,-⟩
  refine wi_ A (h7_ t1 t2 t6 t7 t13 t14 t15) (rv_ 0 (.int .i64 ((i+1:Nat):Int)) (fun a E=>execAd8 (p:=i) (q:=1) rfl (E _) rfl (by omega)) (rf_ [(15,.int .i64 ((i+1:Nat):Int))] (h6_ t1 t2 t6 t7 t13 t14) ?_))
  rintro a A ⟨t15,-⟩ ⟨t1,t2,t6,t7,t13,t14,-⟩
  exact ⟨⟨i+1,_,_,hlt,A,t1,t2,t6,t7,t13,t14,t15,K⟩,by show S.n - (intOf (a.eval (.tmp 15))).toNat < S.n - (intOf (Act.eval _ (.tmp 15))).toNat; rw [t15,es]; show S.n - (i+1) < S.n - i; omega⟩
 ·rw [decide_eq_false hlt] at t16
  refine wp_cond_false t16 ?_
  refine wp_exit ?_
  repeat (first | with_reducible refine exit_then ?_ | with_reducible refine exit_out (by decide) ?_)
  refine exit_in ?_
  have e1:i=S.n:=by omega
  rw [e1] at K
  clear t16 es t13 t14 t15
  have hFl:∀ b,F b->b < V.heap.size:=S.lt hR
  obtain ⟨F1,eF1⟩:∃ F1,F1=QF S k1 k3 F:=⟨_,rfl⟩
  have KI:(∀ s t,s < S.n->t < S.n->s ≠ t->k3 s ≠ k3 t)/\∀ t,t < S.n->S.lo<=k3 t:=⟨K.inj,fun t ht=>Nat.le_trans (S.low hR) (K.bg t ht).2⟩
  have hQR:(qS S k1 k3 KI).R XL F1 (S.en0,x):=⟨F,S.frame hR (fun b hb=>K.bel.block b (hFl b hb)) (fun b hb=>K.bel.block b (Nat.lt_of_lt_of_le hb (S.low hR))) K.bel.size,fun t ht=>⟨(K.bx t ht).1,(K.bx t ht).2,fun w=>by have:=hFl _ w; have:=(K.bg t ht).1; omega,fun w=>by have:=hFl _ w; have:=(K.bg t ht).2; omega⟩,fun t ht hs=>by show (S.sf t).isNone=true; rw [hs]; rfl,eF1⟩
  have hno:∀ {g:Nat} {c:Array Value} {T:TypeId},V.heap.size<=g->XL.heap[g]?=some (.cells c T)->T ≠ 48->T ≠ 4->¬ F1 g:=fun {g c T} hg hc h1 h2 w=>by
   rw [eF1] at w
   rcases w with w | ⟨t,ht,w | w⟩
   ·have:=hFl _ w; omega
   ·rw [w,(K.bx t ht).1] at hc
    injection hc with hc
    injection hc with _ hc _
    exact h1 hc.symm
   ·rw [w,(K.bx t ht).2] at hc
    injection hc with hc
    injection hc with _ hc _
    exact h2 hc.symm
  have hF1:∀ b,b < V.heap.size->¬ F b->¬ F1 b:=fun b hb h1 w=>by
   rw [eF1] at w
   rcases w with w | ⟨t,ht,w | w⟩
   ·exact h1 w
   ·have:=(K.bg t ht).1; omega
   ·have:=(K.bg t ht).2; omega
  have hFsb:¬ F1 sb:=by
   obtain ⟨cur,r1,_⟩:=K.row
   exact hno K.gsb r1 (by decide) (by decide)
  have hrow:Srow (qS S k1 k3 KI) XL sb:=by
   obtain ⟨cur,r1,_,r3⟩:=K.row
   exact ⟨cur,r1,r3⟩
  have hcF:0 < m->∀ a n c,sv=.slice (some a) n c->¬ F1 a.block:=fun h0 a n c ev=>by
   obtain ⟨b,off,c2,e3,e4,_⟩:=ints_open hS h0
   rw [ev] at e3
   injection e3 with e3
   injection e3 with e3
   have h5:a.block=b:=by rw [e3]
   exact hF1 _ (by rw [h5]; exact e4) (hs2 h0 a n c ev)
  refine wp_seq ?_
  refine wi_ A (h4_ t1 t2 t6 t7) (rc_ 3 (pweave (qS S k1 k3 KI) XL F1 (S.en0,x) sb S.n sv m sc most hQR hrow hFsb (hS.on K.bel) hcF (Nat.le_trans (S.low hR) K.bel.size) (by show S.n<=1000000; omega) (by omega) (fun j hj hgo=>?_) (fun j hj hgo i hi=>(hJ.2.1 j i _ hj hi (qS_J hJ j hj hgo i (Nat.le_of_lt hi))).1)) (fun e XW hh=>?_))
  ·have h1:=Stm.pk_mem _ (hgo j (Nat.le_refl _))
   exact ⟨ask_live h1,(hJ.2.2 j _ _ hj (Stm.ask_lt _ h1) (qS_J hJ j (Nat.le_of_lt hj) (fun i hi=>hgo i (Nat.le_of_lt hi)) S.n (Nat.le_refl _))).1⟩
  obtain ⟨N,pk,F3,hE⟩:=hh
  have hgo:=go_is (S:=S) hE.le hE.go hE.stop
  refine ⟨_,hE.ans,?_⟩
  have hsv:=hE.sv
  have l6:g6 < XL.heap.size:=(Array.getElem?_eq_some_iff.1 K.h6).1
  have n6:¬ F1 g6:=hno K.ge6 K.h6 (by decide) (by decide)
  have F6:XW.heap[g6]?=some (.cells (hC (.slice none 0 0) 0 false false 0 (.slice none 0 0)) 29):=by rw [hsv.block g6 l6 n6]; exact K.h6
  have n63:¬ F3 g6:=fun w=>by
   rcases hE.sub g6 w with z | z
   ·exact n6 z
   ·omega
  refine rs_ 4 (fun a E=>?_)
  refine stepS rfl rfl (execStH rfl (E _) (E _) F6 (sl3 (own_shp hE.own)) ⟨_,_,_,rfl⟩) ⟨_,⟨_,rfl,rfl⟩,fun X7 hX=>?_⟩
  obtain ⟨hv,ehv⟩:∃ hv,hC pk 0 (!(qS S k1 k3 KI).alv (qS S k1 k3 KI).n ((qS S k1 k3 KI).at (scr m sc) (S.en0,x) N)) ((qS S k1 k3 KI).alv (qS S k1 k3 KI).n ((qS S k1 k3 KI).at (scr m sc) (S.en0,x) N) && decide (((qS S k1 k3 KI).ask (qS S k1 k3 KI).n ((qS S k1 k3 KI).at (scr m sc) (S.en0,x) N)).1=[])) 0 (.slice none 0 0)=hv:=⟨_,rfl⟩
  have F7:X7.heap[g6]?=some (.cells hv 29):=by rw [hX,← ehv]; exact setRow_heap _ _ _ _ _ _ F6
  have hb7:Saved (fun b=>b=g6) XW X7:=by
   have hb:Below g6 XW X7:=by rw [hX]; exact below4 (Below.refl _ _) (Nat.le_refl _) _
   exact ⟨hb.os,hb.tape,hb.output,hb.size,fun b _ hn=>by rw [hX,setRow_other _ _ _ _ hn]⟩
  clear hX E a
  refine rf_ [] (h1_ t6) ?_
  rintro a A - ⟨t6,-⟩
  obtain ⟨F5,hR5,hbx5,_,eF5⟩:=hE.R
  have h53:∀ b,F5 b->F3 b:=fun b hb=>by rw [eF5]; exact Or.inl hb
  have ealv:(qS S k1 k3 KI).alv (qS S k1 k3 KI).n ((qS S k1 k3 KI).at (scr m sc) (S.en0,x) N)=S.alive ((qS S k1 k3 KI).at (scr m sc) (S.en0,x) N).1:=qS_alv S.n
  refine wp_ret ?_
  refine bodyPost_ret (results_cell_row Try.results14 _ _ g6 29 _ (0,0) _ t6 F7 Try.underlying29 rfl (by rw [← ehv]; exact sizeHw _ _ _ _ _ _)) A.2 ⟨pk,F5,?_,?_,?_,?_,fun q hq=>?_,fun b hb w=>hE.off b hb (h53 b w)⟩
  ·rw [hgo,← ehv,ealv]
   rfl
  ·rw [hgo]
   have h1:=own_frame (X:=X7) (P:=fun b=>pk.ownBlock=some b) hE.own (fun _ q=>q) (fun b hb=>hb7.block b (hE.own.lt b hb).2 (row_ne hE.own F6 (by decide) b hb))
   have h2:=ownD_base h1 K.bel.size
   show X7.ownsRow V.heap.size 3 1 pk ((qS S k1 k3 KI).pks (scr m sc) (S.en0,x) N).length (intsL ((qS S k1 k3 KI).pks (scr m sc) (S.en0,x) N).length (fun i=>((((qS S k1 k3 KI).pks (scr m sc) (S.en0,x) N).getD i 0:Nat):Int)))
   rw [Stm.pks_len,intsL_congr (g:=fun i=>(((qS S k1 k3 KI).pk (scr m sc) (S.en0,x) i:Nat):Int)) (fun i hi=>by unfold Stm.pks; rw [List.getD_eq_getElem?_getD,List.getElem?_map,List.getElem?_range hi]; rfl)]
   exact h2
  ·rw [hgo]
   exact S.frame hR5 (fun b hb=>hb7.block b (S.lt hR5 b hb) (fun w=>n63 (by rw [← w]; exact h53 b hb))) (fun b hb=>hb7.block b (Nat.lt_of_lt_of_le hb (S.low hR5)) (fun w=>by have:=K.ge6; have:=S.low hR; omega)) hb7.size
  ·refine ⟨hb7.os.trans (hsv.os.trans K.bel.os),hb7.tape.trans (hsv.tape.trans K.bel.tape),hb7.output.trans (hsv.output.trans K.bel.output),Nat.le_trans K.bel.size (Nat.le_trans hsv.size hb7.size),fun b hb hn=>?_⟩
   have lb:=Nat.lt_of_lt_of_le hb K.bel.size
   rw [hb7.block b (Nat.lt_of_lt_of_le lb hsv.size) (fun w=>by have:=K.ge6; omega),hsv.block b lb (hF1 b hb hn),K.bel.block b hb]
  ·rcases hE.sub q (h53 q hq) with w | w
   ·by_cases hq2:q < V.heap.size
    ·by_cases h3:F q
     ·exact Or.inl h3
     ·exact absurd w (hF1 q hq2 h3)
    ·exact Or.inr (by omega)
   ·exact Or.inr (Nat.le_trans K.bel.size w)
theorem limpl:LImpl:=
 { check:=fun p v V h=>pcheck p v V h,play:=fun p v sv m sc V h1 h2=>pplay p v sv m sc V h1 h2,run:=fun S tv sv m sc most x F V h1 h2 h3 _ h5 _ h7 h8 ⟨J,h9⟩=>prun S tv sv m sc most x F V h1 h2 h3 (fun _=>h5) h7 h8 J h9 }
end Go.Proofs.Ytjjegmflllpknaa.Loo

namespace Go.Proofs.Ytjjegmflllpknaa.Loo
open Go.RowKit Gf8 Aes By8 Cel Cf Win Drw Prm
/- LoomPlays. Written by tools/mkT8y.py. -/
structure HiS (W:World) (p:Pl) (s:Nat->Int) (k:Nat) (pkv tkv:Value) (tv:Nat->Value):Prop where
 pp:SliceI W pkv k (fun i=>((pk p s i:Nat):Int))
 tt:SliceV W tkv p.n tv
 ll:∀ t,t < p.n->SliceI W (tv t) ((rk p s k).tk t).length (fun j=>((rk p s k).tk t).getD j 0)
theorem HiS.on {W X:World} {p:Pl} {s:Nat->Int} {k:Nat} {pkv tkv:Value} {tv:Nat->Value} (h:HiS W p s k pkv tkv tv) (b:Below W.heap.size W X):HiS X p s k pkv tkv tv:=⟨h.pp.on b,h.tt.on b,fun t ht=>(h.ll t ht).on b⟩
section
variable {p:Pl} {cv tz sv:Value} {xz:Nat->Value} {m:Nat} {sc:Nat->Int} {V:World}
theorem two_bad (hp:PlV V cv tz xz p) (hS:SliceI V sv m sc) (hc:chk p ≠ 0):Calls Try.prog 6 #[.agg #[cv,tz],sv] V fun e w'=>e=.returned (.tuple #[.agg (hC (.slice none 0 0) 0 false false 0 (.slice none 0 0)),.int .i64 ((chk p:Nat):Int)])/\Below V.heap.size V w':=
 Calls.mono (rplay p cv tz sv xz m sc V hp hS) fun _ _ h=>⟨h.1.1 hc,h.2⟩
theorem two_bad2 (I:LImpl) (hp:PlV V cv tz xz p) (hS:SliceI V sv m sc) (hc:chk p ≠ 0):Calls Try.prog 7 #[.agg #[cv,tz],sv] V fun e w'=>e=.returned (.tuple #[.agg (hC (.slice none 0 0) 0 false false 0 (.slice none 0 0)),.int .i64 ((chk p:Nat):Int)])/\Below V.heap.size V w':=
 Calls.mono (I.play p _ sv m sc V ⟨cv,tz,xz,rfl,hp.c,hp.t,hp.o⟩ hS) fun _ _ h=>⟨h.1.1 hc,h.2⟩
theorem two_ok (hp:PlV V cv tz xz p) (hS:SliceI V sv m sc) (hc:chk p=0) {k:Nat} (hR:Run p (scr m sc) k):Calls Try.prog 6 #[.agg #[cv,tz],sv] V fun e w'=>∃ pkv tkv tv,e=.returned (.tuple #[.agg (hC pkv (mx p (scr m sc) k) (!live p (rk p (scr m sc) k)) (live p (rk p (scr m sc) k) && decide (mayL p (rk p (scr m sc) k)=[])) (rk p (scr m sc) k).lt tkv),.int .i64 ((0:Nat):Int)])/\HiS w' p (scr m sc) k pkv tkv tv/\Below V.heap.size V w':=by
 refine Calls.mono (rplay p cv tz sv xz m sc V hp hS) fun e w' h=>?_
 obtain ⟨pkv,tkv,tv,k2,h1,h2,h3,h4,h5⟩:=h.1.2 hc
 obtain rfl:=h1.uniq hR
 exact ⟨pkv,tkv,tv,h2,⟨h3,h4,h5⟩,h.2⟩
theorem two_ok2 (I:LImpl) (hp:PlV V cv tz xz p) (hS:SliceI V sv m sc) (hc:chk p=0) {k:Nat} (hR:Run p (scr m sc) k):Calls Try.prog 7 #[.agg #[cv,tz],sv] V fun e w'=>∃ pkv tkv tv,e=.returned (.tuple #[.agg (hC pkv (mx p (scr m sc) k) (!live p (rk p (scr m sc) k)) (live p (rk p (scr m sc) k) && decide (mayL p (rk p (scr m sc) k)=[])) (rk p (scr m sc) k).lt tkv),.int .i64 ((0:Nat):Int)])/\HiS w' p (scr m sc) k pkv tkv tv/\Below V.heap.size V w':=by
 refine Calls.mono (I.play p _ sv m sc V ⟨cv,tz,xz,rfl,hp.c,hp.t,hp.o⟩ hS) fun e w' h=>?_
 obtain ⟨pkv,tkv,tv,k2,h1,h2,h3⟩:=h.1.2 hc
 obtain rfl:=h1.uniq hR
 exact ⟨pkv,tkv,tv,h2,⟨h3.picks,h3.lists,fun t ht=>h3.taken ht⟩,h.2⟩
end
theorem nil_Vx {W:World} {x:Nat->Value}:SliceV W (.slice none 0 0) 0 x:=⟨_,_,rfl,fun z=>absurd z (Nat.lt_irrefl 0)⟩
set_option maxRecDepth 100000 in
set_option maxHeartbeats 4000000 in
theorem playsA (I:LImpl) (p:Pl) (cv tz sv:Value) (xz:Nat->Value) (m:Nat) (sc:Nat->Int) (V:World) (hp:PlV V cv tz xz p) (hS:SliceI V sv m sc) :
  Calls Try.prog 3 #[.agg #[cv,tz],sv] V fun e w'=>e=.returned (.bool true)/\Below V.heap.size V w':=by
 by_cases hck:chk p=0
 ·have hok:=chk_okp hck
  have hnn:=hok.n
  obtain ⟨k,hR⟩:=run_ex p (scr m sc)
  have hkk:=hR.le
  have hBk:=rk_bnd hok hR.go k (Nat.le_refl _)
  go_enter Try.func3,Try.ntmps3
  refine wo_ 31 [(0,.agg #[cv,tz]),(1,sv)] ?_
  rintro a A ⟨t0,t1,-⟩
  have BB:Below V.heap.size V V:=Below.refl _ _
  refine wp_seq ?_
  obtain ⟨g2,egg2⟩:∃ z_:Nat,V.heap.size=z_:=⟨_,rfl⟩
  refine wi_ A (h2_ t0 t1) (rs_ 0 (fun a E=>?_))
  refine stepV rfl rfl (execBxP rfl (E _) (sl3 hp.c.shp) (sl3 hp.t.shp)) ⟨.pointer (some ⟨g2,0,none⟩),⟨_,rfl,by subst egg2; rfl⟩,fun X0 hX=>?_⟩
  have bQ:Below V.heap.size V X0:=by subst hX egg2; exact (belNew V _)
  have F2:(X0.heap[g2]?=some (.cells #[cv,tz] 25)):=by subst hX egg2; exact heapNew V _
  replace BB:=BB.trans (bQ.mono BB.size)
  clear bQ hX egg2 E a
  refine rf_ [(2,.pointer (some ⟨g2,0,none⟩))] (h1_ t1) ?_
  rintro a A ⟨t2,-⟩ ⟨t1,-⟩
  refine wp_seq (wp_seq ?_)
  refine wi_ A (h2_ t1 t2) (rc_ 0 (alive19 I X0) (cb_ fun X1 bQ=>?_))
  replace F2:=(on9 F2 bQ)
  replace BB:=BB.trans (bQ.mono BB.size)
  clear bQ
  refine rv_ 1 (.bool false) (fun a E=>execNot8 (b:=true) rfl (E _)) (rf_ [(10,.bool false)] (h2_ t1 t2) ?_)
  rintro a A ⟨t10,-⟩ ⟨t1,t2,-⟩
  refine wp_cond_false t10 (wp_skip ?_)
  clear t10
  have BV5:Below V.heap.size V X1:=BB
  have F25:=F2
  clear BB F2
  have BB:Below X1.heap.size X1 X1:=Below.refl _ _
  refine wp_seq ?_
  refine wi_ A (h2_ t1 t2) (rv_ 0 (.agg #[cv,tz]) (fun a E=>execLdPx rfl (E _) (on9 F25 BB)) (rc_ 2 (two_ok ((hp.on BV5).on BB) ((hS.on BV5).on BB) hck hR) fun e X3_1 hh=>?_))
  obtain ⟨pk5,tk5,tv5,he,hA,hb_⟩:=hh
  refine ⟨_,he,?_⟩
  obtain ⟨BB,FD,FA5⟩:Below X1.heap.size X1 X3_1/\(Below X3_1.heap.size X3_1 X3_1)/\(HiS X3_1 p (scr m sc) k pk5 tk5 tv5):=⟨(BB).trans (hb_.mono (BB).size),Below.refl _ _,hA⟩
  obtain ⟨g5,egg5⟩:∃ z_:Nat,X3_1.heap.size=z_:=⟨_,rfl⟩
  refine rs_ 6 (fun a E=>?_)
  refine stepV rfl rfl (execAlH rfl) ⟨.pointer (some ⟨g5,0,none⟩),⟨_,rfl,by subst egg5; rfl⟩,fun X3_2 hX=>?_⟩
  have bQ:Below X3_1.heap.size X3_1 X3_2:=by subst hX egg5; exact (belNew X3_1 _)
  have Fn5:(X3_2.heap[g5]?=some (.cells (hC (.slice none 0 0) 0 false false 0 (.slice none 0 0)) 29)):=by subst hX egg5; exact heapNew X3_1 _
  have Fz5:(X1.heap.size<=g5):=by subst hX egg5; exact (BB).size
  have Fy5:(X3_1.heap.size<=g5):=by subst hX egg5; exact FD.size
  replace FD:=(FD.trans (bQ.mono FD.size))
  replace BB:=BB.trans (bQ.mono BB.size)
  clear bQ hX egg5 E a
  refine rs_ 7 (fun a E=>?_)
  refine stepS rfl rfl (execStH rfl (E _) (E _) Fn5 (sl3 FA5.pp.shp) (sl3 FA5.tt.shp)) ⟨_,⟨_,rfl,rfl⟩,fun X3 hX=>?_⟩
  obtain ⟨BB,FD,FH5⟩:Below X1.heap.size X1 X3/\(Below X3_1.heap.size X3_1 X3)/\(X3.heap[g5]?=some (.cells (hC pk5 (mx p (scr m sc) k) (!live p (rk p (scr m sc) k)) (live p (rk p (scr m sc) k) && decide (mayL p (rk p (scr m sc) k)=[])) (rk p (scr m sc) k).lt tk5) 29)):=by subst hX; exact ⟨below4 BB Fz5 _,(below4 FD Fy5 _),setRow_heap _ _ _ _ _ _ Fn5⟩
  clear Fn5 hX E a
  refine rf_ [(5,.pointer (some ⟨g5,0,none⟩)),(6,.int .i64 ((0:Nat):Int))] (h2_ t1 t2) ?_
  rintro a A ⟨t5,t6,-⟩ ⟨t1,t2,-⟩
  replace FA5:=FA5.on FD
  clear FD
  have F2:=on9 F25 BB
  have BVp:=BV5.trans (BB.mono BV5.size)
  clear BV5 F25
  have BB5:=BB
  clear BB
  have BB:Below X3.heap.size X3 X3:=Below.refl _ _
  have BVq:=BVp
  have BV7:Below V.heap.size V X3:=BVp.trans (BB.mono BVp.size)
  have F27:=F2
  clear BB F2
  have BB:Below X3.heap.size X3 X3:=Below.refl _ _
  refine wp_seq ?_
  refine wi_ A (h4_ t1 t2 t5 t6) (rv_ 0 (.agg #[cv,tz]) (fun a E=>execLdPx rfl (E _) (on9 F27 BB)) (rc_ 2 (two_ok2 I ((hp.on BV7).on BB) ((hS.on BV7).on BB) hck hR) fun e X4_1 hh=>?_))
  obtain ⟨pk7,tk7,tv7,he,hA,hb_⟩:=hh
  refine ⟨_,he,?_⟩
  obtain ⟨BB,FD,FA7⟩:Below X3.heap.size X3 X4_1/\(Below X4_1.heap.size X4_1 X4_1)/\(HiS X4_1 p (scr m sc) k pk7 tk7 tv7):=⟨(BB).trans (hb_.mono (BB).size),Below.refl _ _,hA⟩
  obtain ⟨g7,egg7⟩:∃ z_:Nat,X4_1.heap.size=z_:=⟨_,rfl⟩
  refine rs_ 6 (fun a E=>?_)
  refine stepV rfl rfl (execAlH rfl) ⟨.pointer (some ⟨g7,0,none⟩),⟨_,rfl,by subst egg7; rfl⟩,fun X4_2 hX=>?_⟩
  have bQ:Below X4_1.heap.size X4_1 X4_2:=by subst hX egg7; exact (belNew X4_1 _)
  have Fn7:(X4_2.heap[g7]?=some (.cells (hC (.slice none 0 0) 0 false false 0 (.slice none 0 0)) 29)):=by subst hX egg7; exact heapNew X4_1 _
  have Fz7:(X3.heap.size<=g7):=by subst hX egg7; exact (BB).size
  have Fy7:(X4_1.heap.size<=g7):=by subst hX egg7; exact FD.size
  replace FD:=(FD.trans (bQ.mono FD.size))
  replace BB:=BB.trans (bQ.mono BB.size)
  clear bQ hX egg7 E a
  refine rs_ 7 (fun a E=>?_)
  refine stepS rfl rfl (execStH rfl (E _) (E _) Fn7 (sl3 FA7.pp.shp) (sl3 FA7.tt.shp)) ⟨_,⟨_,rfl,rfl⟩,fun X4 hX=>?_⟩
  obtain ⟨BB,FD,FH7⟩:Below X3.heap.size X3 X4/\(Below X4_1.heap.size X4_1 X4)/\(X4.heap[g7]?=some (.cells (hC pk7 (mx p (scr m sc) k) (!live p (rk p (scr m sc) k)) (live p (rk p (scr m sc) k) && decide (mayL p (rk p (scr m sc) k)=[])) (rk p (scr m sc) k).lt tk7) 29)):=by subst hX; exact ⟨below4 BB Fz7 _,(below4 FD Fy7 _),setRow_heap _ _ _ _ _ _ Fn7⟩
  clear Fn7 hX E a
  refine rf_ [(7,.pointer (some ⟨g7,0,none⟩)),(8,.int .i64 ((0:Nat):Int))] (h2_ t5 t6) ?_
  rintro a A ⟨t7,t8,-⟩ ⟨t5,t6,-⟩
  replace FA7:=FA7.on FD
  clear FD
  have F2:=on9 F27 BB
  have BVp:=BV7.trans (BB.mono BV7.size)
  clear BV7 F27
  replace FA5:=FA5.on BB
  replace FH5:=on9 FH5 BB
  clear BB
  have BB:Below X4.heap.size X4 X4:=Below.refl _ _
  refine wp_seq ?_
  refine wi_ A (h4_ t5 t6 t7 t8) (rv_ 2 (.bool true) (fun a E=>execDec (exIeql3 (p:=((0:Nat):Int)) (q:=((0:Nat):Int)) rfl (E _) (E _)) (decide_eq_true rfl)) (rv_ 4 (.agg (hC pk7 (mx p (scr m sc) k) (!live p (rk p (scr m sc) k)) (live p (rk p (scr m sc) k) && decide (mayL p (rk p (scr m sc) k)=[])) (rk p (scr m sc) k).lt tk7)) (fun a E=>execLdHw rfl (E _) (on9 FH7 BB)) (rv_ 5 (.agg (hC pk5 (mx p (scr m sc) k) (!live p (rk p (scr m sc) k)) (live p (rk p (scr m sc) k) && decide (mayL p (rk p (scr m sc) k)=[])) (rk p (scr m sc) k).lt tk5)) (fun a E=>execLdHw rfl (E _) (on9 FH5 BB)) (rc_ 6 (sameHistory19 _ _ _ _ (mx p (scr m sc) k) (rk p (scr m sc) k).lt k p.n _ _ _ _ tv7 tv5 (fun t=>((rk p (scr m sc) k).tk t).length) (fun t j=>((rk p (scr m sc) k).tk t).getD j 0) (fun t j=>((rk p (scr m sc) k).tk t).getD j 0) X4 (FA7.on BB).pp (FA5.on BB).pp (fun _ _=>rfl) (by omega) (FA7.on BB).tt (FA5.on BB).tt (fun t ht=>(FA7.on BB).ll t ht) (fun t ht=>(FA5.on BB).ll t ht) (fun _ _ _ _=>rfl) (fun t _=>by have:=hBk.ln t; omega) (by omega)) (cb_ fun X5 bQ=>?_)))))
  replace BB:=BB.trans (bQ.mono BB.size)
  clear bQ
  refine rg_ [(4,.bool true)] ?_
  rintro a A ⟨t4,-⟩
  refine wp_ret ?_
  repeat (first | with_reducible refine ret_in ?_ | with_reducible refine ret_then ?_)
  refine bodyPost_ret (results_tmp rfl _ _ _) A.2 ⟨?_,BVp.trans (BB.mono BVp.size)⟩
  show Ending.returned (a.eval (.tmp 4))=_
  rw [t4]
 ·go_enter Try.func3,Try.ntmps3
  refine wo_ 31 [(0,.agg #[cv,tz]),(1,sv)] ?_
  rintro a A ⟨t0,t1,-⟩
  have BB:Below V.heap.size V V:=Below.refl _ _
  refine wp_seq ?_
  obtain ⟨g2,egg2⟩:∃ z_:Nat,V.heap.size=z_:=⟨_,rfl⟩
  refine wi_ A (h2_ t0 t1) (rs_ 0 (fun a E=>?_))
  refine stepV rfl rfl (execBxP rfl (E _) (sl3 hp.c.shp) (sl3 hp.t.shp)) ⟨.pointer (some ⟨g2,0,none⟩),⟨_,rfl,by subst egg2; rfl⟩,fun X0 hX=>?_⟩
  have bQ:Below V.heap.size V X0:=by subst hX egg2; exact (belNew V _)
  have F2:(X0.heap[g2]?=some (.cells #[cv,tz] 25)):=by subst hX egg2; exact heapNew V _
  replace BB:=BB.trans (bQ.mono BB.size)
  clear bQ hX egg2 E a
  refine rf_ [(2,.pointer (some ⟨g2,0,none⟩))] (h1_ t1) ?_
  rintro a A ⟨t2,-⟩ ⟨t1,-⟩
  refine wp_seq (wp_seq ?_)
  refine wi_ A (h2_ t1 t2) (rc_ 0 (alive19 I X0) (cb_ fun X1 bQ=>?_))
  replace F2:=(on9 F2 bQ)
  replace BB:=BB.trans (bQ.mono BB.size)
  clear bQ
  refine rv_ 1 (.bool false) (fun a E=>execNot8 (b:=true) rfl (E _)) (rf_ [(10,.bool false)] (h2_ t1 t2) ?_)
  rintro a A ⟨t10,-⟩ ⟨t1,t2,-⟩
  refine wp_cond_false t10 (wp_skip ?_)
  clear t10
  have BV5:Below V.heap.size V X1:=BB
  have F25:=F2
  clear BB F2
  have BB:Below X1.heap.size X1 X1:=Below.refl _ _
  refine wp_seq ?_
  refine wi_ A (h2_ t1 t2) (rv_ 0 (.agg #[cv,tz]) (fun a E=>execLdPx rfl (E _) (on9 F25 BB)) (rc_ 2 (two_bad ((hp.on BV5).on BB) ((hS.on BV5).on BB) hck) (cb_ fun X3_1 bQ=>?_)))
  replace BB:=BB.trans (bQ.mono BB.size)
  clear bQ
  obtain ⟨g5,egg5⟩:∃ z_:Nat,X3_1.heap.size=z_:=⟨_,rfl⟩
  refine rs_ 6 (fun a E=>?_)
  refine stepV rfl rfl (execAlH rfl) ⟨.pointer (some ⟨g5,0,none⟩),⟨_,rfl,by subst egg5; rfl⟩,fun X3_2 hX=>?_⟩
  have bQ:Below X3_1.heap.size X3_1 X3_2:=by subst hX egg5; exact (belNew X3_1 _)
  have Fn5:(X3_2.heap[g5]?=some (.cells (hC (.slice none 0 0) 0 false false 0 (.slice none 0 0)) 29)):=by subst hX egg5; exact heapNew X3_1 _
  have Fz5:(X1.heap.size<=g5):=by subst hX egg5; exact (BB).size
  replace BB:=BB.trans (bQ.mono BB.size)
  clear bQ hX egg5 E a
  refine rs_ 7 (fun a E=>?_)
  refine stepS rfl rfl (execStH rfl (E _) (E _) Fn5 ⟨_,_,_,rfl⟩ ⟨_,_,_,rfl⟩) ⟨_,⟨_,rfl,rfl⟩,fun X3 hX=>?_⟩
  obtain ⟨BB,FH5⟩:Below X1.heap.size X1 X3/\(X3.heap[g5]?=some (.cells (hC (.slice none 0 0) 0 false false 0 (.slice none 0 0)) 29)):=by subst hX; exact ⟨below4 BB Fz5 _,setRow_heap _ _ _ _ _ _ Fn5⟩
  clear Fn5 hX E a
  refine rf_ [(5,.pointer (some ⟨g5,0,none⟩)),(6,.int .i64 ((chk p:Nat):Int))] (h2_ t1 t2) ?_
  rintro a A ⟨t5,t6,-⟩ ⟨t1,t2,-⟩
  have F2:=on9 F25 BB
  have BVp:=BV5.trans (BB.mono BV5.size)
  clear BV5 F25
  have BB5:=BB
  clear BB
  have BB:Below X3.heap.size X3 X3:=Below.refl _ _
  have BVq:=BVp
  have BV7:Below V.heap.size V X3:=BVp.trans (BB.mono BVp.size)
  have F27:=F2
  clear BB F2
  have BB:Below X3.heap.size X3 X3:=Below.refl _ _
  refine wp_seq ?_
  refine wi_ A (h4_ t1 t2 t5 t6) (rv_ 0 (.agg #[cv,tz]) (fun a E=>execLdPx rfl (E _) (on9 F27 BB)) (rc_ 2 (two_bad2 I ((hp.on BV7).on BB) ((hS.on BV7).on BB) hck) (cb_ fun X4_1 bQ=>?_)))
  replace BB:=BB.trans (bQ.mono BB.size)
  clear bQ
  obtain ⟨g7,egg7⟩:∃ z_:Nat,X4_1.heap.size=z_:=⟨_,rfl⟩
  refine rs_ 6 (fun a E=>?_)
  refine stepV rfl rfl (execAlH rfl) ⟨.pointer (some ⟨g7,0,none⟩),⟨_,rfl,by subst egg7; rfl⟩,fun X4_2 hX=>?_⟩
  have bQ:Below X4_1.heap.size X4_1 X4_2:=by subst hX egg7; exact (belNew X4_1 _)
  have Fn7:(X4_2.heap[g7]?=some (.cells (hC (.slice none 0 0) 0 false false 0 (.slice none 0 0)) 29)):=by subst hX egg7; exact heapNew X4_1 _
  have Fz7:(X3.heap.size<=g7):=by subst hX egg7; exact (BB).size
  replace BB:=BB.trans (bQ.mono BB.size)
  clear bQ hX egg7 E a
  refine rs_ 7 (fun a E=>?_)
  refine stepS rfl rfl (execStH rfl (E _) (E _) Fn7 ⟨_,_,_,rfl⟩ ⟨_,_,_,rfl⟩) ⟨_,⟨_,rfl,rfl⟩,fun X4 hX=>?_⟩
  obtain ⟨BB,FH7⟩:Below X3.heap.size X3 X4/\(X4.heap[g7]?=some (.cells (hC (.slice none 0 0) 0 false false 0 (.slice none 0 0)) 29)):=by subst hX; exact ⟨below4 BB Fz7 _,setRow_heap _ _ _ _ _ _ Fn7⟩
  clear Fn7 hX E a
  refine rf_ [(7,.pointer (some ⟨g7,0,none⟩)),(8,.int .i64 ((chk p:Nat):Int))] (h2_ t5 t6) ?_
  rintro a A ⟨t7,t8,-⟩ ⟨t5,t6,-⟩
  have F2:=on9 F27 BB
  have BVp:=BV7.trans (BB.mono BV7.size)
  clear BV7 F27
  replace FH5:=on9 FH5 BB
  clear BB
  have BB:Below X4.heap.size X4 X4:=Below.refl _ _
  refine wp_seq ?_
  refine wi_ A (h4_ t5 t6 t7 t8) (rv_ 2 (.bool true) (fun a E=>execDec (exIeql3 (p:=((chk p:Nat):Int)) (q:=((chk p:Nat):Int)) rfl (E _) (E _)) (decide_eq_true rfl)) (rv_ 4 (.agg (hC (.slice none 0 0) 0 false false 0 (.slice none 0 0))) (fun a E=>execLdHw rfl (E _) (on9 FH7 BB)) (rv_ 5 (.agg (hC (.slice none 0 0) 0 false false 0 (.slice none 0 0))) (fun a E=>execLdHw rfl (E _) (on9 FH5 BB)) (rc_ 6 (sameHistory19 _ _ _ _ 0 0 0 0 false false (fun _=>0) (fun _=>0) (fun _=>undef) (fun _=>undef) (fun _=>0) (fun _ _=>0) (fun _ _=>0) X4 slice_nilI slice_nilI (fun _ _=>rfl) (by omega) nil_Vx nil_Vx (fun t ht=>absurd ht (Nat.not_lt_zero t)) (fun t ht=>absurd ht (Nat.not_lt_zero t)) (fun t ht=>absurd ht (Nat.not_lt_zero t)) (fun t ht=>absurd ht (Nat.not_lt_zero t)) (Nat.zero_le _)) (cb_ fun X5 bQ=>?_)))))
  replace BB:=BB.trans (bQ.mono BB.size)
  clear bQ
  refine rg_ [(4,.bool true)] ?_
  rintro a A ⟨t4,-⟩
  refine wp_ret ?_
  repeat (first | with_reducible refine ret_in ?_ | with_reducible refine ret_then ?_)
  refine bodyPost_ret (results_tmp rfl _ _ _) A.2 ⟨?_,BVp.trans (BB.mono BVp.size)⟩
  show Ending.returned (a.eval (.tmp 4))=_
  rw [t4]
theorem plays19 (I:LImpl) (p:Pl) (v sv:Value) (m:Nat) (sc:Nat->Int) (V:World) (hp:PlA V v p) (hS:SliceI V sv m sc):Calls Try.prog 3 #[v,sv] V fun e w'=>e=.returned (.bool true)/\Below V.heap.size V w':=by
 obtain ⟨cv,tz,xz,rfl,h1,h2,h3⟩:=hp
 exact playsA I p cv tz sv xz m sc V ⟨h1,h2,h3⟩ hS
end Go.Proofs.Ytjjegmflllpknaa.Loo
