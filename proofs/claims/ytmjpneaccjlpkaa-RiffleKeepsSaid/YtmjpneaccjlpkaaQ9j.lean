import Derived.Test.YtmjpneaccjlpkaaF9b
import Derived.Test.YtmjpneaccjlpkaaQ9g
namespace Go.Proofs.Ytmjpneaccjlpkaa.Brd
open Go.RowKit Gf8 Aes By8 Cel Cf Tap Drw Prm
/- Stage 12's reference: Bounds. Written by tools/mkQ9h.py. -/
def bdN (k:Int):Nat:=if k<=256 then k.toNat else 0
set_option maxRecDepth 100000 in
set_option maxHeartbeats 4000000 in
theorem rbounds12 (k:Int) (V:World) :
  Calls Try.prog 32 #[.int .i64 k] V fun e w'=>∃ r,e=.returned r/\w'.ownsRow V.heap.size 3 1 r (bdN k) (intsL (bdN k) (fun j=>k - (j:Int)))/\Below V.heap.size V w':=by
 go_enter Try.func32,Try.ntmps32
 refine wp_seq ?_
 refine wo_ 18 [(0,.int .i64 k)] ?_
 rintro a A ⟨t0,-⟩
 refine wi_ A (h1_ t0) (rf_ [] (h1_ t0) ?_)
 rintro a A - ⟨t0,-⟩
 have BW:Below V.heap.size V V:=Below.refl _ _
 have BB:=BW
 refine wp_seq ?_
 refine wi_ A (h1_ t0) (rf_ [(3,.slice none 0 0)] (h1_ t0) ?_)
 rintro a A ⟨t3,-⟩ ⟨t0,-⟩
 refine wp_seq (wp_seq ?_)
 by_cases hk:256 < k
 ·refine wi_ A (h2_ t0 t3) (rv_ 1 (.bool true) (fun a e=>execGtCt (p:=k) (q:=256) rfl (e _) (by exact hk)) (rf_ [(6,.bool true)] (h1_ t3) ?_))
  rintro a A ⟨t6,-⟩ ⟨t3,-⟩
  refine wp_cond_true t6 ?_
  refine wp_seq ?_
  refine wi_ A (h1_ t3) (rg_ [(2,.slice none 0 0)] ?_)
  rintro a A ⟨t2,-⟩
  have hE:bdN k=0:=if_neg (by omega)
  rw [hE]
  refine wp_ret ?_
  repeat (first | with_reducible refine ret_in ?_ | with_reducible refine ret_then ?_)
  refine bodyPost_ret (results_tmp rfl _ _ _) A.2 ⟨_,?_,World.ownsRow_nil _ _ _ _,BB⟩
  show Ending.returned (a.eval (.tmp 2))=_
  rw [t2]
 ·refine wi_ A (h2_ t0 t3) (rv_ 1 (.bool false) (fun a e=>execGtCf (p:=k) (q:=256) rfl (e _) (by exact hk)) (rf_ [(6,.bool false)] (h2_ t0 t3) ?_))
  rintro a A ⟨t6,-⟩ ⟨t0,t3,-⟩
  refine wp_cond_false t6 (wp_skip ?_)
  clear t6
  have hE:bdN k=k.toNat:=if_pos (by omega)
  rw [hE]
  have FO:V.ownsRow V.heap.size 3 1 (.slice none 0 0) 0 (intsL 0 (fun j=>k - (j:Int))):=World.ownsRow_nil _ _ _ _
  refine wp_seq (wp_seq ?_)
  refine wi_ A (h2_ t0 t3) (rf_ [(4,.int .i64 k)] (h1_ t3) ?_)
  rintro a A ⟨t4,-⟩ ⟨t3,-⟩
  rw [show k=k - ((0:Nat):Int) by omega] at t4
  refine wp_block ?_
  refine wp_loop (fun a W=>∃ (i:Nat) (u:Value),i<=k.toNat/\(a.tmps.size=18/\a.defers=[])/\a.eval (.tmp 3)=u/\a.eval (.tmp 4)=.int .i64 (k - (i:Int))/\Below V.heap.size V W/\(W.ownsRow V.heap.size 3 1 u (i) (intsL (i) (fun j=>k - (j:Int))))) (fun a _=>(intOf (a.eval (.tmp 4))).toNat) ⟨0,_,Nat.zero_le _,A,t3,t4,BB,FO⟩ ?_
  rintro a XL ⟨i,u,hi,A,t3,t4,BB,FO⟩
  have es:=t4
  refine wp_seq (wp_seq ?_)
  by_cases hlt:1<=k - (i:Int)
  ·refine wi_ A (h2_ t3 t4) (rv_ 1 (.bool true) (fun a e=>execGeIt (q:=1) rfl (e _) rfl hlt) (rf_ [(10,.bool true)] (h2_ t3 t4) ?_))
   rintro a A ⟨t10,-⟩ ⟨t3,t4,-⟩
   refine wp_cond_true t10 (wp_skip ?_)
   clear t10
   refine wp_seq (wp_block ?_)
   obtain ⟨g15,egg15⟩:∃ z_:Nat,XL.heap.size=z_:=⟨_,rfl⟩
   refine wi_ A (h2_ t3 t4) (rs_ 2 (fun a e=>?_))
   refine stepV rfl rfl (execBsI (z:=k - (i:Int)) rfl (e _)) ⟨.slice (some ⟨g15,0,none⟩) 1 1,⟨_,rfl,by subst egg15; rfl⟩,fun X7_1 hX=>?_⟩
   have bQ:Below XL.heap.size XL X7_1:=by subst hX egg15; exact (belNew XL _)
   have Fg15:(X7_1.heap[g15]?=some (.cells #[.int .i64 (k - (i:Int))] 3)):=by subst hX egg15; exact heapNew XL _
   replace FO:=(ownD_below FO bQ)
   replace BB:=BB.trans (bQ.mono BB.size)
   clear bQ hX egg15 e a
   refine rs_ 3 (fun a e=>?_)
   refine stepAppI (f:=fun j=>k - (j:Int)) rfl rfl rfl (e _) (e _) FO Fg15 (by omega) (BB).size fun v16 X7 own' gr=>⟨_,⟨_,rfl,rfl⟩,eqw ?_⟩
   obtain ⟨BB,FO2⟩:Below V.heap.size V X7/\(X7.ownsRow V.heap.size 3 1 v16 (i+1) (intsL (i+1) (fun j=>k - (j:Int)))):=⟨(BB).grown gr (BB).size (fun k hk=>(FO.lt k hk).1),own'⟩
   clear FO Fg15 e a
   refine rf_ [(3,v16)] (h1_ t4) ?_
   rintro a A ⟨t3,-⟩ ⟨t4,-⟩
   refine wi_ A (h2_ t3 t4) (rv_ 1 (.int .i64 (k - ((i+1:Nat):Int))) (fun a e=>execSubIg (z:=k - ((i+1:Nat):Int)) rfl (e _) rfl (by omega) (by omega) (by omega)) (rf_ [(4,.int .i64 (k - ((i+1:Nat):Int)))] (h1_ t3) ?_))
   rintro a A ⟨t4,-⟩ ⟨t3,-⟩
   refine ⟨⟨i+1,_,by omega,A,t3,t4,BB,FO2⟩,?_⟩
   show (intOf (a.eval (.tmp 4))).toNat < (intOf (Act.eval _ (.tmp 4))).toNat
   rw [t4,es]
   show (k - ((i+1:Nat):Int)).toNat < (k - (i:Int)).toNat
   omega
  ·refine wi_ A (h2_ t3 t4) (rv_ 1 (.bool false) (fun a e=>execGeIf (q:=1) rfl (e _) rfl hlt) (rf_ [(10,.bool false)] (h1_ t3) ?_))
   rintro a A ⟨t10,-⟩ ⟨t3,-⟩
   refine wp_cond_false t10 ?_
   refine wp_exit ?_
   first | with_reducible refine exit_in ?_ | with_reducible refine exit_then (exit_in ?_) | with_reducible refine exit_then (exit_then (exit_in ?_)) | refine exit_in ?_ | refine exit_then (exit_in ?_) | refine exit_then (exit_then (exit_in ?_))
   clear t10 es
   have hin:i=k.toNat:=by omega
   rw [hin] at FO
   refine wp_seq ?_
   refine wi_ A (h1_ t3) (rg_ [(2,u)] ?_)
   rintro a A ⟨t2,-⟩
   refine wp_ret ?_
   refine bodyPost_ret (results_tmp rfl _ _ _) A.2 ⟨u,?_,FO,BB⟩
   show Ending.returned (a.eval (.tmp 2))=_
   rw [t2]
end Go.Proofs.Ytmjpneaccjlpkaa.Brd

namespace Go.Proofs.Ytmjpneaccjlpkaa.Brd
open Go.RowKit Gf8 Aes By8 Cel Cf Tap Drw Prm
/- Several rows of ints of one's own, each appended to in its turn. -/
section
variable {B k:Nat} {x:Nat->Value} {nn:Nat->Nat} {ff:Nat->Nat->Int} {W W':World}
theorem FmI.push {t l:Nat} {v':Value} {q:Nat->Int} (h:FmI B k x nn ff W) (ht:t < k) (own:W'.ownsRow B 3 1 v' (nn t+l) (intsL (nn t+l) (catI (nn t) (ff t) q)))
  (hpl:(∃ b c,x t=.slice (some ⟨b,0,none⟩) (nn t) c/\v'=.slice (some ⟨b,0,none⟩) (nn t+l) c/\W.grownBy W' (some b))\/(Below W.heap.size W W'/\∀ k,v'.ownBlock=some k->W.heap.size<=k)) :
  FmI B k (updX x t v') (updD nn t l) (updG ff t (catI (nn t) (ff t) q)) W':=by
 have xo:∀ s,s ≠ t->updX x t v' s=x s:=fun s hs=>if_neg hs
 have xt:updX x t v' t=v':=if_pos rfl
 have no:∀ s,s ≠ t->updD nn t l s=nn s:=fun s hs=>if_neg hs
 have nt:updD nn t l t=nn t+l:=if_pos rfl
 have fo:∀ s,s ≠ t->updG ff t (catI (nn t) (ff t) q) s=ff s:=fun s hs=>if_neg hs
 have ft:updG ff t (catI (nn t) (ff t) q) t=catI (nn t) (ff t) q:=if_pos rfl
 rcases hpl with ⟨b,c,e1,e2,gr⟩ | ⟨hb,hk⟩
 ·have hxb:(x t).ownBlock=some b:=by rw [e1]; rfl
  have hvb:v'.ownBlock=some b:=by rw [e2]; rfl
  refine ⟨fun s hs=>?_,fun s u hs hu hsu z e w=>?_⟩
  ·by_cases e:s=t
   ·subst e
    rw [xt,nt,ft]
    exact own
   ·rw [xo s e,no s e,fo s e]
    exact ownW_grown (h.rows s hs) gr (fun z e2 w=>h.dis s t hs ht e z e2 (hxb.trans w))
  ·have e':(x s).ownBlock=some z:=by
    by_cases es:s=t
    ·subst es
     rw [xt] at e
     exact hxb.trans (hvb.symm.trans e)
    ·rw [xo s es] at e
     exact e
   have w':(x u).ownBlock=some z:=by
    by_cases eu:u=t
    ·subst eu
     rw [xt] at w
     exact hxb.trans (hvb.symm.trans w)
    ·rw [xo u eu] at w
     exact w
   exact h.dis s u hs hu hsu z e' w'
 ·have ho:=h.on hb
  refine ⟨fun s hs=>?_,fun s u hs hu hsu z e w=>?_⟩
  ·by_cases e:s=t
   ·subst e
    rw [xt,nt,ft]
    exact own
   ·rw [xo s e,no s e,fo s e]
    exact ho.rows s hs
  ·by_cases es:s=t
   ·subst es
    rw [xt] at e
    rw [xo u (fun q=>hsu q.symm)] at w
    have a1:=hk z e
    have a2:=((h.rows u hu).lt z w).2
    omega
   ·rw [xo s es] at e
    by_cases eu:u=t
    ·subst eu
     rw [xt] at w
     have a1:=hk z w
     have a2:=((h.rows s hs).lt z e).2
     omega
    ·rw [xo u eu] at w
     exact h.dis s u hs hu hsu z e w
theorem FmI.cgF {gg:Nat->Nat->Int} (h:FmI B k x nn ff W) (e:∀ t,t < k->∀ j,j < nn t->ff t j=gg t j):FmI B k x nn gg W:=⟨fun t ht=>by rw [← intsL_congr (e t ht)]; exact h.rows t ht,h.dis⟩
theorem FmI.cgN {mm:Nat->Nat} (h:FmI B k x nn ff W) (e:∀ t,t < k->nn t=mm t):FmI B k x mm ff W:=⟨fun t ht=>by rw [← e t ht]; exact h.rows t ht,h.dis⟩
end
theorem stepFm {W:World} {B k t l:Nat} {x:Nat->Value} {nn:Nat->Nat} {ff:Nat->Nat->Int} {u:Value} {q:Nat->Int} {ops:Array Oper} {Q:Exit->Act->World->Prop} {K:Act->World->Prop} {j:Nat} {o:Oper} {a:Act} {s z:Operand} (hos:ops[j]?=some o) (hgd:Region.wanted o (yielded ops a.tmps)=true)
  (ho:o.op=.call { callee:=.builtin .append,args:=#[s,z],argTypes:=#[24,24] }) (hs:a.eval s=x t) (hx:a.eval z=u) (h:FmI B k x nn ff W) (ht:t < k) (hu:SliceI W u l q) (hsome:∃ ad c',u=.slice (some ad) l c') (hl:0 < l) (hn:nn t+l<=17592186044416) (hB:B<=W.heap.size)
  (hK:∀ v' W',FmI B k (updX x t v') (updD nn t l) (updG ff t (catI (nn t) (ff t) q)) W'->W.grownBy W' (x t).ownBlock->K (a.put o.dst v') W'):wpOp Try.prog ops Q j K a W:=by
 obtain ⟨v',W',hr,q1,q3⟩:=run_app2L W o.type _ (nn t) l (x t) u (ff t) q (h.rows t ht) hu hsome hl hn hB
 refine stepV hos hgd (v:=v') (w':=W') ?_ (hK v' W' (FmI.push h ht q1 q3) ?_)
 ·unfold execOp
  simp only [ho,resolve,invoke,builtin,Sem.run_bind,Sem.run_pure,Result.andThen_ok,List.map_toArray,List.map_cons,List.map_nil,hs,hx,hr]
 ·rcases q3 with ⟨b,c,e1,_,gr⟩ | ⟨hb,_⟩
  ·rw [e1]
   exact gr
  ·exact ⟨hb.os,hb.tape,hb.output,hb.size,fun j hj _=>hb.block j hj⟩
theorem FmI.nils (B k:Nat) (ff:Nat->Nat->Int) (W:World):FmI B k (fun _=>.slice none 0 0) (fun _=>0) ff W:=⟨fun _ _=>World.ownsRow_nil _ _ _ _,fun _ _ _ _ _ b e=>by cases e⟩
end Go.Proofs.Ytmjpneaccjlpkaa.Brd

namespace Go.Proofs.Ytmjpneaccjlpkaa.Brd
open Go.RowKit Gf8 Aes By8 Cel Cf Tap Drw Prm
/- Stage 12: what is refused, and what is answered, over Nat and Int (names nothing of a program). -/
def allB (p:Nat->Bool):Nat->Bool
 | 0=>true
 | k+1=>allB p k && p k
theorem allB_iff {p:Nat->Bool}:∀ {k},allB p k=true ↔ ∀ j,j < k->p j=true
 | 0=>⟨fun _ j hj=>absurd hj (Nat.not_lt_zero _),fun _=>rfl⟩
 | k+1=>by
  unfold allB
  rw [Bool.and_eq_true,allB_iff]
  refine ⟨fun h j hj=>?_,fun h=>⟨fun j hj=>h j (by omega),h k (by omega)⟩⟩
  by_cases e:j=k
  ·subst e; exact h.2
  ·exact h.1 j (by omega)
theorem allB_succ {p:Nat->Bool} {i:Nat} (h:allB p i=true) (e:p i=true):allB p (i+1)=true:=by
 show (allB p i && p i)=true
 rw [h,e]
 rfl
theorem allB_bad {p:Nat->Bool} {i n:Nat} (hi:i < n) (e:¬ p i=true):allB p n=false:=Bool.eq_false_iff.2 fun q=>e (allB_iff.1 q i hi)
def faB (f:Nat->Int) (n i:Nat):Bool:=decide (0<=f i/\f i < (n:Int) - (i:Int))
def faQ (f:Nat->Int) (n:Nat):Bool:=allB (faB f n) n
theorem faQ_iff {f:Nat->Int} {n:Nat}:faQ f n=true ↔ ∀ i,i < n->0<=f i/\f i < (n:Int) - (i:Int):=by
 unfold faQ
 rw [allB_iff]
 exact ⟨fun h i hi=>of_decide_eq_true (h i hi),fun h i hi=>decide_eq_true (h i hi)⟩
def inB (f:Nat->Int) (J i:Nat):Bool:=decide (0<=f i/\f i < (J:Int))
def cnB (f:Nat->Int) (n:Nat) (tm:Nat->Int) (j:Nat):Bool:=decide (tm j=(cntC (gN f) j n:Int))
def stQ (f:Nat->Int) (n:Nat) (tm:Nat->Int) (J:Nat):Bool:=allB (inB f J) n && allB (cnB f n tm) J
theorem stQ_iff {f tm:Nat->Int} {n J:Nat}:stQ f n tm J=true ↔ (∀ i,i < n->0<=f i/\f i < (J:Int))/\∀ j,j < J->tm j=(cntC (gN f) j n:Int):=by
 unfold stQ
 rw [Bool.and_eq_true,allB_iff,allB_iff]
 exact ⟨fun h=>⟨fun i hi=>of_decide_eq_true (h.1 i hi),fun j hj=>of_decide_eq_true (h.2 j hj)⟩,fun h=>⟨fun i hi=>decide_eq_true (h.1 i hi),fun j hj=>decide_eq_true (h.2 j hj)⟩⟩
def ofB (sf vf:Nat->Int) (j:Nat):Bool:=faQ (fun k=>vf (sumN (gN sf) j+k)) (gN sf j)
def ofQ (sf:Nat->Int) (J:Nat) (vf:Nat->Int):Bool:=allB (ofB sf vf) J
theorem ofQ_iff {sf vf:Nat->Int} {J:Nat}:ofQ sf J vf=true ↔ ∀ j,j < J->∀ k,k < gN sf j->0<=vf (sumN (gN sf) j+k)/\vf (sumN (gN sf) j+k) < (gN sf j:Int) - (k:Int):=by
 unfold ofQ
 rw [allB_iff]
 exact ⟨fun h j hj=>faQ_iff.1 (h j hj),fun h j hj=>faQ_iff.2 (h j hj)⟩
def szQ (sf:Nat->Int) (J:Nat):Bool:=decide (1<=J/\J<=64) && okS sf J
theorem szQ_iff {sf:Nat->Int} {J:Nat}:szQ sf J=true ↔ (1<=J/\J<=64)/\okS sf J=true:=by
 unfold szQ
 rw [Bool.and_eq_true,decide_eq_true_eq]
theorem okS_sum {sf:Nat->Int}:∀ {k},okS sf k=true->sumN (gN sf) k<=256
 | 0,_=>Nat.zero_le _
 | k+1,h=>by
  have h1:=(okS_iff.1 h) k (by omega)
  show sumN (gN sf) k+(sf k).toNat<=256
  omega
theorem okS_nn {sf:Nat->Int} {j m:Nat} (h:okS sf m=true) (hj:j < m):sf j=(gN sf j:Int):=by
 have h1:=okS_iff.1 h j hj
 show sf j=(((sf j).toNat:Nat):Int)
 omega
theorem szQ_toT {sf:Nat->Int} {J:Nat}:toT sf J=if szQ sf J=true then (sumN (gN sf) J:Int) else -1:=by
 unfold toT
 by_cases h:(1<=J/\J<=64)/\okS sf J=true
 ·rw [if_pos h,if_pos (szQ_iff.2 h)]
 ·rw [if_neg h,if_neg (fun q=>h (szQ_iff.1 q))]
def paQ (sf:Nat->Int) (J:Nat) (df:Nat->Int) (m:Nat):Bool:=szQ sf J && decide (m=sumN (gN sf) J) && faQ df m
def paE (sf:Nat->Int) (J:Nat) (df:Nat->Int) (m:Nat):Nat:=if paQ sf J df m=true then 0 else 2
theorem paQ_iff {sf df:Nat->Int} {J m:Nat}:paQ sf J df m=true ↔ szQ sf J=true/\m=sumN (gN sf) J/\faQ df m=true:=by
 unfold paQ
 rw [Bool.and_eq_true,Bool.and_eq_true,decide_eq_true_eq,and_assoc]
theorem paE_ok {sf df:Nat->Int} {J m:Nat} (h:paQ sf J df m=true):paE sf J df m=0:=if_pos h
theorem paE_no {sf df:Nat->Int} {J m:Nat} (h:¬ paQ sf J df m=true):paE sf J df m=2:=if_neg h
def drQ (sf:Nat->Int) (J:Nat) (cf:Nat->Int) (n:Nat) (vf:Nat->Int) (m:Nat):Bool:=szQ sf J && stQ cf n sf J && (decide (m=sumN (gN sf) J) && ofQ sf J vf)
def drE (sf:Nat->Int) (J:Nat) (cf:Nat->Int) (n:Nat) (vf:Nat->Int) (m:Nat):Nat:=if drQ sf J cf n vf m=true then 0 else 2
theorem drQ_iff {sf cf vf:Nat->Int} {J n m:Nat}:drQ sf J cf n vf m=true ↔ szQ sf J=true/\stQ cf n sf J=true/\m=sumN (gN sf) J/\ofQ sf J vf=true:=by
 unfold drQ
 rw [Bool.and_eq_true,Bool.and_eq_true,Bool.and_eq_true,decide_eq_true_eq,and_assoc]
theorem drE_ok {sf cf vf:Nat->Int} {J n m:Nat} (h:drQ sf J cf n vf m=true):drE sf J cf n vf m=0:=if_pos h
theorem drE_no {sf cf vf:Nat->Int} {J n m:Nat} (h:¬ drQ sf J cf n vf m=true):drE sf J cf n vf m=2:=if_neg h
theorem cnt_all {C:Nat->Nat} {J:Nat}:∀ {n},(∀ k,k < n->C k < J)->sumN (fun j=>cntC C j n) J=n
 | 0,_=>by
  have h:∀ J,sumN (fun j=>cntC C j 0) J=0:=fun J=>by
   induction J with
   | zero=>rfl
   | succ J ih=>show sumN (fun j=>cntC C j 0) J+0=0; omega
  exact h J
 | n+1,h=>by
  have ih:=cnt_all (C:=C) (J:=J) (n:=n) fun k hk=>h k (by omega)
  have hc:=h n (by omega)
  have e:∀ J,sumN (fun j=>cntC C j (n+1)) J=sumN (fun j=>cntC C j n) J+if C n < J then 1 else 0:=fun J=>by
   induction J with
   | zero=>rfl
   | succ J ih=>
    show sumN (fun j=>cntC C j (n+1)) J+(cntC C J n+if C n=J then 1 else 0)=sumN (fun j=>cntC C j n) J+cntC C J n+if C n < J+1 then 1 else 0
    rw [ih]
    by_cases q:C n=J
    ·rw [if_pos q,if_neg (by omega),if_pos (by omega)]; omega
    ·rw [if_neg q]
     by_cases q2:C n < J
     ·rw [if_pos q2,if_pos (by omega)]; omega
     ·rw [if_neg q2,if_neg (by omega)]; omega
  rw [e J,ih,if_pos hc]
theorem stQ_pat {cf sf:Nat->Int} {n J:Nat} (h:stQ cf n sf J=true):IsPat (gN sf) J n (gN cf):=by
 obtain ⟨h1,h2⟩:=stQ_iff.1 h
 refine ⟨fun k hk=>?_,fun j hj=>?_⟩
 ·have:=h1 k hk
  show (cf k).toNat < J
  omega
 ·have:=h2 j hj
  show _=(sf j).toNat
  omega
theorem stQ_len {cf sf:Nat->Int} {n J:Nat} (h:stQ cf n sf J=true):n=sumN (gN sf) J:=by
 have hp:=stQ_pat h
 rw [← cnt_all hp.lt]
 exact sumN_cg hp.cnt
def rdB (sf:Nat->Int) (J:Nat) (cf vf:Nat->Int) (i:Nat):Bool:=decide ((0<=cf i/\cf i < (J:Int))/\0<=vf (poC (gN sf) (gN cf) i)/\vf (poC (gN sf) (gN cf) i) < (lefC (gN sf) (gN cf) i (gN cf i):Int))
theorem rdB_iff {sf cf vf:Nat->Int} {J i:Nat}:rdB sf J cf vf i=true ↔ (0<=cf i/\cf i < (J:Int))/\0<=vf (poC (gN sf) (gN cf) i)/\vf (poC (gN sf) (gN cf) i) < (lefC (gN sf) (gN cf) i (gN cf i):Int):=by
 unfold rdB
 rw [decide_eq_true_eq]
section
variable {sf cf vf:Nat->Int} {J n m:Nat}
def vfO (sf cf vf:Nat->Int) (k:Nat):Nat:=gN vf (poC (gN sf) (gN cf) k)
theorem rd_lt (h:allB (rdB sf J cf vf) n=true) {k:Nat} (hk:k < n):gN cf k < J/\vfO sf cf vf k < lefC (gN sf) (gN cf) k (gN cf k):=by
 have h1:=rdB_iff.1 (allB_iff.1 h k hk)
 refine ⟨?_,?_⟩
 ·show (cf k).toNat < J
  omega
 ·show (vf (poC (gN sf) (gN cf) k)).toNat < _
  omega
theorem cnt_le_rd (h:allB (rdB sf J cf vf) n=true):∀ {k},k<=n->∀ j,cntC (gN cf) j k<=gN sf j
 | 0,_,j=>Nat.zero_le _
 | k+1,hk,j=>by
  have ih:=cnt_le_rd h (k:=k) (by omega) j
  show cntC (gN cf) j k+_<=gN sf j
  by_cases e:gN cf k=j
  ·rw [if_pos e]
   have h1:=(rd_lt h (k:=k) (by omega)).2
   rw [e] at h1
   have h2:lefC (gN sf) (gN cf) k j=gN sf j - cntC (gN cf) j k:=rfl
   omega
  ·rw [if_neg e]
   omega
theorem rd_pat (h:allB (rdB sf J cf vf) n=true) (hn:n=sumN (gN sf) J):IsPat (gN sf) J n (gN cf):=by
 refine ⟨fun k hk=>(rd_lt h hk).1,fun j hj=>?_⟩
 have h1:=lefC_sum hn.symm (fun k hk=>(rd_lt h hk).1) (o:=vfO sf cf vf) (fun k hk=>(rd_lt h hk).2) (k:=n) (Nat.le_refl _)
 rw [Nat.sub_self] at h1
 have h2:gN sf j - cntC (gN cf) j n=0:=sumN_zero h1 hj
 have h3:=cnt_le_rd h (Nat.le_refl n) j
 omega
theorem rd_dr (hs:szQ sf J=true):(n=sumN (gN sf) J/\m=sumN (gN sf) J/\allB (rdB sf J cf vf) n=true) ↔ drQ sf J cf n vf m=true:=by
 have hok:=(szQ_iff.1 hs).2
 rw [drQ_iff]
 constructor
 ·rintro ⟨hn,hm,h⟩
  have hp:=rd_pat h hn
  refine ⟨hs,stQ_iff.2 ⟨fun i hi=>(rdB_iff.1 (allB_iff.1 h i hi)).1,fun j hj=>?_⟩,hm,ofQ_iff.2 fun j hj k hk=>?_⟩
  ·rw [hp.cnt j hj]
   exact okS_nn hok hj
  ·have h2:=sumN_at (r:=gN sf) hj
   obtain ⟨p,hpn,e⟩:=poC_onto hn.symm hp (x:=sumN (gN sf) j+k) (by omega)
   have h3:=rdB_iff.1 (allB_iff.1 h p hpn)
   rw [e] at h3
   have e2:gN cf p=j:=by
    rw [← poC_pj hp hpn,e]
    exact pj_is hj (by omega) (by omega)
   have e3:lefC (gN sf) (gN cf) p (gN cf p)=gN sf j - k:=by
    show gN sf (gN cf p) - cntC (gN cf) (gN cf p) p=_
    have e4:poC (gN sf) (gN cf) p=sumN (gN sf) (gN cf p)+cntC (gN cf) (gN cf p) p:=rfl
    rw [e2] at e4 ⊢
    omega
   rw [e3] at h3
   omega
 ·rintro ⟨_,hst,hm,ho⟩
  have hp:=stQ_pat hst
  have hn:=stQ_len hst
  refine ⟨hn,hm,allB_iff.2 fun i hi=>rdB_iff.2 ⟨(stQ_iff.1 hst).1 i hi,?_⟩⟩
  have h1:=ofQ_iff.1 ho (gN cf i) (hp.lt i hi) (cntC (gN cf) (gN cf i) i) (hp.vis hi)
  have e:lefC (gN sf) (gN cf) i (gN cf i)=gN sf (gN cf i) - cntC (gN cf) (gN cf i) i:=rfl
  have h2:=hp.vis hi
  have h3:poC (gN sf) (gN cf) i=sumN (gN sf) (gN cf i)+cntC (gN cf) (gN cf i) i:=rfl
  rw [h3,e]
  omega
end
def ofv (s C o:Nat->Nat):Nat->Nat->Nat
 | 0,_=>0
 | i+1,x=>if x=poC s C i then o i else ofv s C o i x
theorem ofv_end {s C o:Nat->Nat} {J n:Nat} (hn:sumN s J=n) (h:IsPat s J n C) {x:Nat} (hx:x < n):ofv s C o n x=ovF s J C o n x:=by
 obtain ⟨k,hk,rfl⟩:=poC_onto hn h hx
 rw [ovF_at h o hk]
 have h1:∀ i,k < i->i<=n->ofv s C o i (poC s C k)=o k:=fun i=>by
  induction i with
  | zero=>intro q; omega
  | succ i ih=>
   intro q1 q2
   show (if poC s C k=poC s C i then o i else ofv s C o i (poC s C k))=o k
   by_cases e:k=i
   ·subst e; exact if_pos rfl
   ·rw [if_neg fun z=>e (poC_inj h hk (by omega) z)]
    exact ih (by omega) (by omega)
 exact h1 n hk (Nat.le_refl _)
def pcF (sf:Nat->Int) (J:Nat) (df:Nat->Int) (k:Nat):Int:=(chD (gN sf) J (gN df) k:Int)
def poF (sf:Nat->Int) (J:Nat) (df:Nat->Int) (m x:Nat):Int:=(ovF (gN sf) J (chD (gN sf) J (gN df)) (ofD (gN sf) J (gN df)) m x:Int)
def dwF (sf cf vf:Nat->Int) (k:Nat):Int:=(drC (gN sf) (gN cf) (vfO sf cf vf) k:Int)
theorem pa_draws {sf df:Nat->Int} {J m:Nat} (h:paQ sf J df m=true):sumN (gN sf) J=m/\∀ i,i < m->gN df i < m - i:=by
 obtain ⟨_,h2,h3⟩:=paQ_iff.1 h
 refine ⟨h2.symm,fun i hi=>?_⟩
 have:=faQ_iff.1 h3 i hi
 show (df i).toNat < m - i
 omega
end Go.Proofs.Ytmjpneaccjlpkaa.Brd
