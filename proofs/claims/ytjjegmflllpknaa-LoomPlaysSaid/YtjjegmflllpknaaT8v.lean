import Derived.Test.YtjjegmflllpknaaT8s
namespace Go.Proofs.Ytjjegmflllpknaa.Loo
open Go.RowKit Gf8 Aes By8 Cel Cf Win Drw Prm
/- LoomPlays: a Room that is new; the room beside other memory. Written by tools/mkT8t.py. -/
section
variable {B:Nat} {W X:World} {q:RK} {p:Pl} {cv tz:Value} {r:Rm} {gv kv:Nat->Int} {tv hv:Nat->Value} {ow:Nat->Nat}
theorem RmM.grow0 (h:RmM B W q p cv tz r gv kv tv hv ow) {row:Option Nat} (gr:W.grownBy X row) (hr:∀ b,row=some b->ow b=0):RmM B X q p cv tz r gv kv tv hv ow:=by
 have k:∀ {b m:Nat} {o:Obj},W.heap[b]?=some o->ow b=m->m ≠ 0->X.heap[b]?=some o:=fun {b m o} h1 h2 h3=>(gr.block b (Array.getElem?_eq_some_iff.1 h1).1 (fun e=>h3 (by rw [← h2]; exact hr b e.symm))).trans h1
 exact ⟨k h.hg h.lg (by decide),k h.hP h.lP (by decide),k h.hR h.lR (by decide),k h.hE h.lE (by decide),k h.hT h.lT (by decide),k h.hH h.lH (by decide),k h.hC h.lC (by decide),k h.hG h.lG (by decide),k h.hK h.lK (by decide),fun t ht=>(h.tk t ht).keep fun b hb=>gr.block b ((h.tk t ht).lt b hb).2 (fun e=>by have:=h.ltk t ht b hb; have:=hr b e.symm; omega),fun t ht=>(h.hd t ht).keep fun b hb=>gr.block b ((h.hd t ht).lt b hb).2 (fun e=>by have:=h.lhd t ht b hb; have:=hr b e.symm; omega),h.lg,h.lP,h.lR,h.lE,h.lT,h.lH,h.lC,h.lG,h.lK,h.ltk,h.lhd,h.low,Nat.le_trans h.le gr.size⟩
end
def ow0 (q:RK) (b:Nat):Nat:=if b=q.g then 9 else if b=q.P then 1 else if b=q.R then 2 else if b=q.E then 3 else if b=q.T then 4 else if b=q.H then 5 else if b=q.C then 6 else if b=q.G then 7 else if b=q.K then 8 else 0
theorem ne_ty {W:World} {a b:Nat} {c d:Array Value} {t u:TypeId} (h:W.heap[a]?=some (.cells c t)) (h2:W.heap[b]?=some (.cells d u)) (e:t ≠ u):a ≠ b:=fun z=>by
 rw [z,h2] at h
 injection h with h
 injection h with _ h _
 exact e h.symm
theorem room0 {B:Nat} {W:World} {q:RK} {p:Pl} {cv tz:Value} (hg:W.heap[q.g]?=some (.cells (gR q p.n p.d cv tz 0) 57)) (hP:W.heap[q.P]?=some (.cells (madeCells #[.int .i64 0] p.n) 3)) (hR:W.heap[q.R]?=some (.cells (madeCells #[.int .i64 0] p.n) 3)) (hE:W.heap[q.E]?=some (.cells (madeCells #[.bool false] p.n) 4)) (hT:W.heap[q.T]?=some (.cells (madeCells #[.slice none 0 0] p.n) 22)) (hH:W.heap[q.H]?=some (.cells (madeCells #[.slice none 0 0] p.d) 22)) (hC:W.heap[q.C]?=some (.cells (madeCells #[.bool false] p.d) 4)) (hG:W.heap[q.G]?=some (.cells (madeCells #[.int .i64 0] p.d) 3)) (hK:W.heap[q.K]?=some (.cells (madeCells #[.int .i64 0] p.d) 3)) (nPR:q.P ≠ q.R) (nPG:q.P ≠ q.G) (nPK:q.P ≠ q.K) (nRG:q.R ≠ q.G) (nRK:q.R ≠ q.K) (nEC:q.E ≠ q.C) (nTH:q.T ≠ q.H) (nGK:q.G ≠ q.K) (bg:B<=q.g) (bP:B<=q.P) (bR:B<=q.R) (bE:B<=q.E) (bT:B<=q.T) (bH:B<=q.H) (bC:B<=q.C) (bG:B<=q.G) (bK:B<=q.K) (hB:B<=W.heap.size):RmM B W q p cv tz r0 (fun _=>0) (fun _=>0) (fun _=>.slice none 0 0) (fun _=>.slice none 0 0) (ow0 q):=by
 have ngP:=ne_ty hg hP (by decide)
 have ngR:=ne_ty hg hR (by decide)
 have ngE:=ne_ty hg hE (by decide)
 have ngT:=ne_ty hg hT (by decide)
 have ngH:=ne_ty hg hH (by decide)
 have ngC:=ne_ty hg hC (by decide)
 have ngG:=ne_ty hg hG (by decide)
 have ngK:=ne_ty hg hK (by decide)
 have nPE:=ne_ty hP hE (by decide)
 have nPT:=ne_ty hP hT (by decide)
 have nPH:=ne_ty hP hH (by decide)
 have nPC:=ne_ty hP hC (by decide)
 have nRE:=ne_ty hR hE (by decide)
 have nRT:=ne_ty hR hT (by decide)
 have nRH:=ne_ty hR hH (by decide)
 have nRC:=ne_ty hR hC (by decide)
 have nET:=ne_ty hE hT (by decide)
 have nEH:=ne_ty hE hH (by decide)
 have nEG:=ne_ty hE hG (by decide)
 have nEK:=ne_ty hE hK (by decide)
 have nTC:=ne_ty hT hC (by decide)
 have nTG:=ne_ty hT hG (by decide)
 have nTK:=ne_ty hT hK (by decide)
 have nHC:=ne_ty hH hC (by decide)
 have nHG:=ne_ty hH hG (by decide)
 have nHK:=ne_ty hH hK (by decide)
 have nCG:=ne_ty hC hG (by decide)
 have nCK:=ne_ty hC hK (by decide)
 rw [Duc.rA_made] at hP hR hE hT hH hC hG hK
 refine ⟨hg,hP,hR,hE,hT,hH,hC,hG,hK,fun t _=>Hd.nil,fun t _=>Hd.nil,?_,?_,?_,?_,?_,?_,?_,?_,?_,fun t _ b hb=>(by cases hb),fun t _ b hb=>(by cases hb),fun b hb=>?_,hB⟩
 ·simp [ow0]
 ·simp [ow0,Ne.symm ngP]
 ·simp [ow0,Ne.symm ngR,Ne.symm nPR]
 ·simp [ow0,Ne.symm ngE,Ne.symm nPE,Ne.symm nRE]
 ·simp [ow0,Ne.symm ngT,Ne.symm nPT,Ne.symm nRT,Ne.symm nET]
 ·simp [ow0,Ne.symm ngH,Ne.symm nPH,Ne.symm nRH,Ne.symm nEH,Ne.symm nTH]
 ·simp [ow0,Ne.symm ngC,Ne.symm nPC,Ne.symm nRC,Ne.symm nEC,Ne.symm nTC,Ne.symm nHC]
 ·simp [ow0,Ne.symm ngG,Ne.symm nPG,Ne.symm nRG,Ne.symm nEG,Ne.symm nTG,Ne.symm nHG,Ne.symm nCG]
 ·simp [ow0,Ne.symm ngK,Ne.symm nPK,Ne.symm nRK,Ne.symm nEK,Ne.symm nTK,Ne.symm nHK,Ne.symm nCK,Ne.symm nGK]
 ·have z:∀ c,B<=c->b ≠ c:=fun c hc e=>by omega
  simp [ow0,z _ bg,z _ bP,z _ bR,z _ bE,z _ bT,z _ bH,z _ bC,z _ bG,z _ bK]
section
variable {o:Oper} {a:Act} {w:World}
theorem execBdR9 {u v:Value} {q:RK} {n d:Nat} {x0 xP xR xE xT xH xC xG xK:Operand} (ho:o.op=.build 57 #[(0,x0),(1,xP),(2,xR),(3,xE),(4,xT),(5,xH),(6,xC),(7,xG),(8,xK)]) (h0:a.eval x0=.agg #[u,v]) (hP:a.eval xP=sl0 q.P n) (hR:a.eval xR=sl0 q.R n) (hE:a.eval xE=sl0 q.E n) (hT:a.eval xT=sl0 q.T n) (hH:a.eval xH=sl0 q.H d) (hC:a.eval xC=sl0 q.C d) (hG:a.eval xG=sl0 q.G d) (hK:a.eval xK=sl0 q.K d):(execOp a.eval o).run Try.prog w=.ok (.value (.agg (gR q n d u v 0))) w:=by
 unfold execOp
 simp only [ho,List.map_toArray,List.map_cons,List.map_nil,h0,hP,hR,hE,hT,hH,hC,hG,hK]
 kernel_rfl
theorem execBxR9 {x:Operand} {u v:Value} {q:RK} {n d:Nat} (ho:o.op=.box 57 x) (hx:a.eval x=.agg (gR q n d u v 0)) (hu:∃ a n c,u=.slice a n c) (hv:∃ a n c,v=.slice a n c):(execOp a.eval o).run Try.prog w=.ok (.value (.pointer (some ⟨w.heap.size,0,none⟩))) (w.alloc (.cells (gR q n d u v 0) 57)):=by
 obtain ⟨a1,n1,c1,rfl⟩:=hu
 obtain ⟨a2,n2,c2,rfl⟩:=hv
 unfold execOp
 simp only [ho,hx,gR]
 simp [go_sem]
end
end Go.Proofs.Ytjjegmflllpknaa.Loo

namespace Go.Proofs.Ytjjegmflllpknaa.Loo
open Go.RowKit Gf8 Aes By8 Cel Cf Win Drw Prm
/- LoomPlays: the reference's Play, who may be picked. Written by tools/mkT8u.py. -/
def headOf:Code->Code
 | .seq x _=>x
 | c=>c
def loop10 (c:Code):Code:=headOf (findR 10 c)
def mayT (p:Pl) (r:Rm) (i:Nat):List Nat:=(List.range i).filter (may p r)
def lvP (p:Pl) (r:Rm) (i:Nat):Bool:=(List.range i).any fun t=>decide ((at_ p r t).k ≠ 0)
section
variable {p:Pl} {r:Rm} {i:Nat}
theorem mayT_y (h:may p r i=true):mayT p r (i+1)=mayT p r i ++ [i]:=by unfold mayT; rw [List.range_succ,List.filter_append,List.filter_cons_of_pos h]; rfl
theorem mayT_n (h:may p r i=false):mayT p r (i+1)=mayT p r i:=by unfold mayT; rw [List.range_succ,List.filter_append,List.filter_cons_of_neg (by rw [h]; decide)]; simp
theorem mayT_len:(mayT p r i).length<=i:=by unfold mayT; exact Nat.le_trans (List.length_filter_le _ _) (by simp)
theorem lvP_s:lvP p r (i+1)=(lvP p r i || decide ((at_ p r i).k ≠ 0)):=by unfold lvP; rw [List.range_succ,List.any_append]; simp
end
set_option maxRecDepth 100000 in
set_option maxHeartbeats 4000000 in
theorem rmays (B:Nat) (q:RK) (p:Pl) (cv tz sv:Value) (xz:Nat->Value) (r:Rm) (gv kv:Nat->Int) (tv hv:Nat->Value) (ow:Nat->Nat) (S:World) (g4 g10:Nat) (Q:Exit->Act->World->Prop) (hp:PlV S cv tz xz p) (hM:RmM B S q p cv tz r gv kv tv hv ow) (hok:Okp p) (hlk:Lkd p r gv kv) (hQ:∀ (a:Act) (W:World) (mv:Value),(a.tmps.size=141/\a.defers=[])->a.eval (.tmp 1)=sv->a.eval (.tmp 4)=.pointer (some ⟨g4,0,none⟩)->a.eval (.tmp 7)=.int .i64 ((p.n:Nat):Int)->a.eval (.tmp 8)=.int .i64 ((p.d:Nat):Int)->a.eval (.tmp 9)=.pointer (some ⟨q.g,0,none⟩)->a.eval (.tmp 10)=.pointer (some ⟨g10,0,none⟩)->a.eval (.tmp 11)=mv->a.eval (.tmp 12)=.bool (lvP p r p.n)->Below S.heap.size S W->(W.ownsRow S.heap.size 3 1 mv (mayT p r p.n).length (intsL (mayT p r p.n).length (caF (mayT p r p.n))))->Q .normal a W):∀ (a:Act),(a.tmps.size=141/\a.defers=[])->a.eval (.tmp 1)=sv->a.eval (.tmp 4)=.pointer (some ⟨g4,0,none⟩)->a.eval (.tmp 7)=.int .i64 ((p.n:Nat):Int)->a.eval (.tmp 8)=.int .i64 ((p.d:Nat):Int)->a.eval (.tmp 9)=.pointer (some ⟨q.g,0,none⟩)->a.eval (.tmp 10)=.pointer (some ⟨g10,0,none⟩)->a.eval (.tmp 11)=.slice none 0 0->a.eval (.tmp 12)=.bool false->(loop10 (Try.f6.body.getD .skip)).wp Try.prog Q a S:=by
 intro a A t1 t4 t7 t8 t9 t10 t11 t12
 have BB:Below S.heap.size S S:=Below.refl _ _
 have hnn:=hok.n
 have FY:S.ownsRow S.heap.size 3 1 (.slice none 0 0) (mayT p r 0).length (intsL (mayT p r 0).length (caF (mayT p r 0))):=World.ownsRow_nil _ _ _ _
 refine wp_seq ?_
 refine wi_ A (h8_ t1 t4 t7 t8 t9 t10 t11 t12) (rf_ [(13,.int .i64 ((0:Nat):Int))] (h8_ t1 t4 t7 t8 t9 t10 t11 t12) ?_)
 rintro a A ⟨t13,-⟩ ⟨t1,t4,t7,t8,t9,t10,t11,t12,-⟩
 replace t12:a.eval (.tmp 12)=.bool (lvP p r 0):=t12
 refine wp_block ?_
 refine wp_loop (fun a W=>∃ (i:Nat) (mv:Value),i<=p.n/\(a.tmps.size=141/\a.defers=[])/\a.eval (.tmp 1)=sv/\a.eval (.tmp 4)=.pointer (some ⟨g4,0,none⟩)/\a.eval (.tmp 7)=.int .i64 ((p.n:Nat):Int)/\a.eval (.tmp 8)=.int .i64 ((p.d:Nat):Int)/\a.eval (.tmp 9)=.pointer (some ⟨q.g,0,none⟩)/\a.eval (.tmp 10)=.pointer (some ⟨g10,0,none⟩)/\a.eval (.tmp 11)=mv/\a.eval (.tmp 12)=.bool (lvP p r i)/\a.eval (.tmp 13)=.int .i64 ((i:Nat):Int)/\Below S.heap.size S W/\(W.ownsRow S.heap.size 3 1 mv (mayT p r i).length (intsL (mayT p r i).length (caF (mayT p r i))))) (fun a _=>p.n - (intOf (a.eval (.tmp 13))).toNat) ⟨0,_,Nat.zero_le _,A,t1,t4,t7,t8,t9,t10,t11,t12,t13,BB,FY⟩ ?_
 rintro a XL ⟨i,mv,hi,A,t1,t4,t7,t8,t9,t10,t11,t12,t13,BB,FY⟩
 have esi:=t13
 refine wp_seq (wp_seq ?_)
 refine wi_ A (h9_ t1 t4 t7 t8 t9 t10 t11 t12 t13) (rv_ 2 (.bool (decide (i < p.n))) (fun a e=>execLtW (p:=i) (q:=p.n) rfl (e _) (e _)) (rf_ [(53,.bool (decide (i < p.n)))] (h9_ t1 t4 t7 t8 t9 t10 t11 t12 t13) ?_))
 rintro a A ⟨t53,-⟩ ⟨t1,t4,t7,t8,t9,t10,t11,t12,t13,-⟩
 by_cases lti:i < p.n
 ·rw [decide_eq_true lti] at t53
  refine wp_cond_true t53 (wp_skip ?_)
  clear t53
  refine wp_seq (wp_block ?_)
  refine wp_seq ?_
  refine wi_ A (h9_ t1 t4 t7 t8 t9 t10 t11 t12 t13) (rc_ 2 (rat B q p cv tz xz r gv kv tv hv ow XL (hp.on BB) (hM.on BB) i lti) (cb_ fun X13_1 bQ=>?_))
  replace FY:=(ownD_below FY bQ)
  replace BB:=BB.trans (bQ.mono BB.size)
  clear bQ
  obtain ⟨g14,egg14⟩:∃ z_:Nat,X13_1.heap.size=z_:=⟨_,rfl⟩
  refine rs_ 3 (fun a e=>?_)
  refine stepV rfl rfl (execAlO rfl) ⟨.pointer (some ⟨g14,0,none⟩),⟨_,rfl,by subst egg14; rfl⟩,fun X13_2 hX=>?_⟩
  have bQ:Below X13_1.heap.size X13_1 X13_2:=by subst hX egg14; exact (belNew X13_1 _)
  have FO0:(X13_2.heap[g14]?=some (.cells (oC 0 0 0) 59)):=by subst hX egg14; exact heapNew X13_1 _
  have Fgo:(S.heap.size<=g14):=by subst hX egg14; exact (BB).size
  replace FY:=(ownD_below FY bQ)
  replace BB:=BB.trans (bQ.mono BB.size)
  clear bQ hX egg14 e a
  refine rs_ 4 (fun a e=>?_)
  refine stepS rfl rfl (execStO rfl (e _) (e _) FO0) ⟨_,⟨_,rfl,rfl⟩,fun X13 hX=>?_⟩
  obtain ⟨BB,FY,FO⟩:Below S.heap.size S X13/\(X13.ownsRow S.heap.size 3 1 mv (mayT p r i).length (intsL (mayT p r i).length (caF (mayT p r i))))/\(X13.heap[g14]?=some (.cells (oC (at_ p r i).k (at_ p r i).a (at_ p r i).b) 59)):=by subst hX; exact ⟨below4 BB Fgo _,(ownG_T FY FO0 (by decide) grR19),setRow_heap _ _ _ _ _ _ FO0⟩
  clear FO0 hX e a
  refine rf_ [(14,.pointer (some ⟨g14,0,none⟩))] (h9_ t1 t4 t7 t8 t9 t10 t11 t12 t13) ?_
  rintro a A ⟨t14,-⟩ ⟨t1,t4,t7,t8,t9,t10,t11,t12,t13,-⟩
  have els:=lvP_s (p:=p) (r:=r) (i:=i)
  have hml:=mayT_len (p:=p) (r:=r) (i:=i)
  cases hlv:lvP p r i with
  | true=>
   cases hmy:may p r i with
   | true=>
    rw [hlv] at t12
    refine wp_seq ?_
    refine wi_ A (h10_ t1 t4 t7 t8 t9 t10 t11 t12 t13 t14) (rf_ [(12,.bool true)] (h8_ t1 t4 t7 t8 t9 t10 t11 t13) ?_)
    rintro a A ⟨t12,-⟩ ⟨t1,t4,t7,t8,t9,t10,t11,t13,-⟩
    clear FO
    replace t12:a.eval (.tmp 12)=.bool (lvP p r (i+1)):=by rw [els,hlv,Bool.true_or]; exact t12
    refine wp_seq ?_
    refine wi_ A (h9_ t1 t4 t7 t8 t9 t10 t11 t12 t13) (rc_ 2 (hmy ▸ rmay B q p cv tz xz r gv kv tv hv ow X13 (hp.on BB) (hM.on BB) i lti hok hlk) (cb_ fun X15 bQ=>?_))
    replace FY:=(ownD_below FY bQ)
    replace BB:=BB.trans (bQ.mono BB.size)
    clear bQ
    refine rf_ [(67,.bool true)] (h9_ t1 t4 t7 t8 t9 t10 t11 t12 t13) ?_
    rintro a A ⟨t67,-⟩ ⟨t1,t4,t7,t8,t9,t10,t11,t12,t13,-⟩
    refine wp_cond_true t67 ?_
    clear t67
    obtain ⟨gs,eggs⟩:∃ z_:Nat,X15.heap.size=z_:=⟨_,rfl⟩
    refine wi_ A (h9_ t1 t4 t7 t8 t9 t10 t11 t12 t13) (rs_ 2 (fun a e=>?_))
    refine stepV rfl rfl (execBs1 rfl (e _)) ⟨.slice (some ⟨gs,0,none⟩) 1 1,⟨_,rfl,by subst eggs; rfl⟩,fun X16_1 hX=>?_⟩
    have bQ:Below X15.heap.size X15 X16_1:=by subst hX eggs; exact (belNew X15 _)
    have Fs:(X16_1.heap[gs]?=some (.cells #[.int .i64 ((i:Nat):Int)] 3)):=by subst hX eggs; exact heapNew X15 _
    replace FY:=(ownD_below FY bQ)
    replace BB:=BB.trans (bQ.mono BB.size)
    clear bQ hX eggs e a
    refine rs_ 3 (fun a e=>?_)
    refine stepAppIP (f:=caF (mayT p r i)) (z:=((i:Nat):Int)) rfl rfl rfl (e _) (e _) FY Fs (by omega) (BB).size fun m2 X16 own' gr hpl_=>⟨_,⟨_,rfl,rfl⟩,eqw ?_⟩
    obtain ⟨BB,FY2⟩:Below S.heap.size S X16/\(X16.ownsRow S.heap.size 3 1 m2 (mayT p r i ++ [i]).length (intsL (mayT p r i ++ [i]).length (caF (mayT p r i ++ [i])))):=⟨(BB).grown gr (BB).size (fun k_ hk=>(FY.lt k_ hk).1),(own_ca own')⟩
    clear FY Fs e a
    refine rf_ [(11,m2)] (h8_ t1 t4 t7 t8 t9 t10 t12 t13) ?_
    rintro a A ⟨t11,-⟩ ⟨t1,t4,t7,t8,t9,t10,t12,t13,-⟩
    have FY:=FY2
    clear FY2
    rw [← mayT_y hmy] at FY
    refine wi_ A (h9_ t1 t4 t7 t8 t9 t10 t11 t12 t13) (rv_ 1 (.int .i64 ((i+1:Nat):Int)) (fun a e=>execAd8 (p:=i) (q:=1) rfl (e _) rfl (by omega)) (rf_ [(13,.int .i64 ((i+1:Nat):Int))] (h8_ t1 t4 t7 t8 t9 t10 t11 t12) ?_))
    rintro a A ⟨t13,-⟩ ⟨t1,t4,t7,t8,t9,t10,t11,t12,-⟩
    exact ⟨⟨i+1,m2,lti,A,t1,t4,t7,t8,t9,t10,t11,t12,t13,BB,FY⟩,by show p.n - (intOf (a.eval (.tmp 13))).toNat < p.n - (intOf (Act.eval _ (.tmp 13))).toNat; rw [t13,esi]; show p.n - (i+1) < p.n - i; omega⟩
   | false=>
    rw [hlv] at t12
    refine wp_seq ?_
    refine wi_ A (h10_ t1 t4 t7 t8 t9 t10 t11 t12 t13 t14) (rf_ [(12,.bool true)] (h8_ t1 t4 t7 t8 t9 t10 t11 t13) ?_)
    rintro a A ⟨t12,-⟩ ⟨t1,t4,t7,t8,t9,t10,t11,t13,-⟩
    clear FO
    replace t12:a.eval (.tmp 12)=.bool (lvP p r (i+1)):=by rw [els,hlv,Bool.true_or]; exact t12
    refine wp_seq ?_
    refine wi_ A (h9_ t1 t4 t7 t8 t9 t10 t11 t12 t13) (rc_ 2 (hmy ▸ rmay B q p cv tz xz r gv kv tv hv ow X13 (hp.on BB) (hM.on BB) i lti hok hlk) (cb_ fun X15 bQ=>?_))
    replace FY:=(ownD_below FY bQ)
    replace BB:=BB.trans (bQ.mono BB.size)
    clear bQ
    refine rf_ [(67,.bool false)] (h9_ t1 t4 t7 t8 t9 t10 t11 t12 t13) ?_
    rintro a A ⟨t67,-⟩ ⟨t1,t4,t7,t8,t9,t10,t11,t12,t13,-⟩
    refine wp_cond_false t67 (wp_skip ?_)
    clear t67
    rw [← mayT_n hmy] at FY
    refine wi_ A (h9_ t1 t4 t7 t8 t9 t10 t11 t12 t13) (rv_ 1 (.int .i64 ((i+1:Nat):Int)) (fun a e=>execAd8 (p:=i) (q:=1) rfl (e _) rfl (by omega)) (rf_ [(13,.int .i64 ((i+1:Nat):Int))] (h8_ t1 t4 t7 t8 t9 t10 t11 t12) ?_))
    rintro a A ⟨t13,-⟩ ⟨t1,t4,t7,t8,t9,t10,t11,t12,-⟩
    exact ⟨⟨i+1,mv,lti,A,t1,t4,t7,t8,t9,t10,t11,t12,t13,BB,FY⟩,by show p.n - (intOf (a.eval (.tmp 13))).toNat < p.n - (intOf (Act.eval _ (.tmp 13))).toNat; rw [t13,esi]; show p.n - (i+1) < p.n - i; omega⟩
  | false=>
   by_cases hne:(at_ p r i).k ≠ 0
   ·cases hmy:may p r i with
    | true=>
     rw [hlv] at t12
     refine wp_seq ?_
     refine wi_ A (h10_ t1 t4 t7 t8 t9 t10 t11 t12 t13 t14) (rv_ 2 (.pointer (some ⟨g14,0,none⟩)) (fun a e=>execOf0 rfl (e _)) (rv_ 3 (.int .i64 (at_ p r i).k) (fun a e=>execLr rfl (Or.inl rfl) (e _) (oC_at FO).1) (rv_ 4 (.bool true) (fun a e=>execDec (exIneq3 (p:=(at_ p r i).k) (q:=0) rfl (e _) rfl) (decide_eq_true hne)) (rf_ [(12,.bool true)] (h8_ t1 t4 t7 t8 t9 t10 t11 t13) ?_))))
     rintro a A ⟨t12,-⟩ ⟨t1,t4,t7,t8,t9,t10,t11,t13,-⟩
     clear FO
     replace t12:a.eval (.tmp 12)=.bool (lvP p r (i+1)):=by rw [els,hlv,Bool.false_or,decide_eq_true hne]; exact t12
     refine wp_seq ?_
     refine wi_ A (h9_ t1 t4 t7 t8 t9 t10 t11 t12 t13) (rc_ 2 (hmy ▸ rmay B q p cv tz xz r gv kv tv hv ow X13 (hp.on BB) (hM.on BB) i lti hok hlk) (cb_ fun X15 bQ=>?_))
     replace FY:=(ownD_below FY bQ)
     replace BB:=BB.trans (bQ.mono BB.size)
     clear bQ
     refine rf_ [(67,.bool true)] (h9_ t1 t4 t7 t8 t9 t10 t11 t12 t13) ?_
     rintro a A ⟨t67,-⟩ ⟨t1,t4,t7,t8,t9,t10,t11,t12,t13,-⟩
     refine wp_cond_true t67 ?_
     clear t67
     obtain ⟨gs,eggs⟩:∃ z_:Nat,X15.heap.size=z_:=⟨_,rfl⟩
     refine wi_ A (h9_ t1 t4 t7 t8 t9 t10 t11 t12 t13) (rs_ 2 (fun a e=>?_))
     refine stepV rfl rfl (execBs1 rfl (e _)) ⟨.slice (some ⟨gs,0,none⟩) 1 1,⟨_,rfl,by subst eggs; rfl⟩,fun X16_1 hX=>?_⟩
     have bQ:Below X15.heap.size X15 X16_1:=by subst hX eggs; exact (belNew X15 _)
     have Fs:(X16_1.heap[gs]?=some (.cells #[.int .i64 ((i:Nat):Int)] 3)):=by subst hX eggs; exact heapNew X15 _
     replace FY:=(ownD_below FY bQ)
     replace BB:=BB.trans (bQ.mono BB.size)
     clear bQ hX eggs e a
     refine rs_ 3 (fun a e=>?_)
     refine stepAppIP (f:=caF (mayT p r i)) (z:=((i:Nat):Int)) rfl rfl rfl (e _) (e _) FY Fs (by omega) (BB).size fun m2 X16 own' gr hpl_=>⟨_,⟨_,rfl,rfl⟩,eqw ?_⟩
     obtain ⟨BB,FY2⟩:Below S.heap.size S X16/\(X16.ownsRow S.heap.size 3 1 m2 (mayT p r i ++ [i]).length (intsL (mayT p r i ++ [i]).length (caF (mayT p r i ++ [i])))):=⟨(BB).grown gr (BB).size (fun k_ hk=>(FY.lt k_ hk).1),(own_ca own')⟩
     clear FY Fs e a
     refine rf_ [(11,m2)] (h8_ t1 t4 t7 t8 t9 t10 t12 t13) ?_
     rintro a A ⟨t11,-⟩ ⟨t1,t4,t7,t8,t9,t10,t12,t13,-⟩
     have FY:=FY2
     clear FY2
     rw [← mayT_y hmy] at FY
     refine wi_ A (h9_ t1 t4 t7 t8 t9 t10 t11 t12 t13) (rv_ 1 (.int .i64 ((i+1:Nat):Int)) (fun a e=>execAd8 (p:=i) (q:=1) rfl (e _) rfl (by omega)) (rf_ [(13,.int .i64 ((i+1:Nat):Int))] (h8_ t1 t4 t7 t8 t9 t10 t11 t12) ?_))
     rintro a A ⟨t13,-⟩ ⟨t1,t4,t7,t8,t9,t10,t11,t12,-⟩
     exact ⟨⟨i+1,m2,lti,A,t1,t4,t7,t8,t9,t10,t11,t12,t13,BB,FY⟩,by show p.n - (intOf (a.eval (.tmp 13))).toNat < p.n - (intOf (Act.eval _ (.tmp 13))).toNat; rw [t13,esi]; show p.n - (i+1) < p.n - i; omega⟩
    | false=>
     rw [hlv] at t12
     refine wp_seq ?_
     refine wi_ A (h10_ t1 t4 t7 t8 t9 t10 t11 t12 t13 t14) (rv_ 2 (.pointer (some ⟨g14,0,none⟩)) (fun a e=>execOf0 rfl (e _)) (rv_ 3 (.int .i64 (at_ p r i).k) (fun a e=>execLr rfl (Or.inl rfl) (e _) (oC_at FO).1) (rv_ 4 (.bool true) (fun a e=>execDec (exIneq3 (p:=(at_ p r i).k) (q:=0) rfl (e _) rfl) (decide_eq_true hne)) (rf_ [(12,.bool true)] (h8_ t1 t4 t7 t8 t9 t10 t11 t13) ?_))))
     rintro a A ⟨t12,-⟩ ⟨t1,t4,t7,t8,t9,t10,t11,t13,-⟩
     clear FO
     replace t12:a.eval (.tmp 12)=.bool (lvP p r (i+1)):=by rw [els,hlv,Bool.false_or,decide_eq_true hne]; exact t12
     refine wp_seq ?_
     refine wi_ A (h9_ t1 t4 t7 t8 t9 t10 t11 t12 t13) (rc_ 2 (hmy ▸ rmay B q p cv tz xz r gv kv tv hv ow X13 (hp.on BB) (hM.on BB) i lti hok hlk) (cb_ fun X15 bQ=>?_))
     replace FY:=(ownD_below FY bQ)
     replace BB:=BB.trans (bQ.mono BB.size)
     clear bQ
     refine rf_ [(67,.bool false)] (h9_ t1 t4 t7 t8 t9 t10 t11 t12 t13) ?_
     rintro a A ⟨t67,-⟩ ⟨t1,t4,t7,t8,t9,t10,t11,t12,t13,-⟩
     refine wp_cond_false t67 (wp_skip ?_)
     clear t67
     rw [← mayT_n hmy] at FY
     refine wi_ A (h9_ t1 t4 t7 t8 t9 t10 t11 t12 t13) (rv_ 1 (.int .i64 ((i+1:Nat):Int)) (fun a e=>execAd8 (p:=i) (q:=1) rfl (e _) rfl (by omega)) (rf_ [(13,.int .i64 ((i+1:Nat):Int))] (h8_ t1 t4 t7 t8 t9 t10 t11 t12) ?_))
     rintro a A ⟨t13,-⟩ ⟨t1,t4,t7,t8,t9,t10,t11,t12,-⟩
     exact ⟨⟨i+1,mv,lti,A,t1,t4,t7,t8,t9,t10,t11,t12,t13,BB,FY⟩,by show p.n - (intOf (a.eval (.tmp 13))).toNat < p.n - (intOf (Act.eval _ (.tmp 13))).toNat; rw [t13,esi]; show p.n - (i+1) < p.n - i; omega⟩
   ·cases hmy:may p r i with
    | true=>
     rw [hlv] at t12
     refine wp_seq ?_
     refine wi_ A (h10_ t1 t4 t7 t8 t9 t10 t11 t12 t13 t14) (rv_ 2 (.pointer (some ⟨g14,0,none⟩)) (fun a e=>execOf0 rfl (e _)) (rv_ 3 (.int .i64 (at_ p r i).k) (fun a e=>execLr rfl (Or.inl rfl) (e _) (oC_at FO).1) (rv_ 4 (.bool false) (fun a e=>execDec (exIneq3 (p:=(at_ p r i).k) (q:=0) rfl (e _) rfl) (decide_eq_false hne)) (rf_ [(12,.bool false)] (h8_ t1 t4 t7 t8 t9 t10 t11 t13) ?_))))
     rintro a A ⟨t12,-⟩ ⟨t1,t4,t7,t8,t9,t10,t11,t13,-⟩
     clear FO
     replace t12:a.eval (.tmp 12)=.bool (lvP p r (i+1)):=by rw [els,hlv,Bool.false_or,decide_eq_false hne]; exact t12
     refine wp_seq ?_
     refine wi_ A (h9_ t1 t4 t7 t8 t9 t10 t11 t12 t13) (rc_ 2 (hmy ▸ rmay B q p cv tz xz r gv kv tv hv ow X13 (hp.on BB) (hM.on BB) i lti hok hlk) (cb_ fun X15 bQ=>?_))
     replace FY:=(ownD_below FY bQ)
     replace BB:=BB.trans (bQ.mono BB.size)
     clear bQ
     refine rf_ [(67,.bool true)] (h9_ t1 t4 t7 t8 t9 t10 t11 t12 t13) ?_
     rintro a A ⟨t67,-⟩ ⟨t1,t4,t7,t8,t9,t10,t11,t12,t13,-⟩
     refine wp_cond_true t67 ?_
     clear t67
     obtain ⟨gs,eggs⟩:∃ z_:Nat,X15.heap.size=z_:=⟨_,rfl⟩
     refine wi_ A (h9_ t1 t4 t7 t8 t9 t10 t11 t12 t13) (rs_ 2 (fun a e=>?_))
     refine stepV rfl rfl (execBs1 rfl (e _)) ⟨.slice (some ⟨gs,0,none⟩) 1 1,⟨_,rfl,by subst eggs; rfl⟩,fun X16_1 hX=>?_⟩
     have bQ:Below X15.heap.size X15 X16_1:=by subst hX eggs; exact (belNew X15 _)
     have Fs:(X16_1.heap[gs]?=some (.cells #[.int .i64 ((i:Nat):Int)] 3)):=by subst hX eggs; exact heapNew X15 _
     replace FY:=(ownD_below FY bQ)
     replace BB:=BB.trans (bQ.mono BB.size)
     clear bQ hX eggs e a
     refine rs_ 3 (fun a e=>?_)
     refine stepAppIP (f:=caF (mayT p r i)) (z:=((i:Nat):Int)) rfl rfl rfl (e _) (e _) FY Fs (by omega) (BB).size fun m2 X16 own' gr hpl_=>⟨_,⟨_,rfl,rfl⟩,eqw ?_⟩
     obtain ⟨BB,FY2⟩:Below S.heap.size S X16/\(X16.ownsRow S.heap.size 3 1 m2 (mayT p r i ++ [i]).length (intsL (mayT p r i ++ [i]).length (caF (mayT p r i ++ [i])))):=⟨(BB).grown gr (BB).size (fun k_ hk=>(FY.lt k_ hk).1),(own_ca own')⟩
     clear FY Fs e a
     refine rf_ [(11,m2)] (h8_ t1 t4 t7 t8 t9 t10 t12 t13) ?_
     rintro a A ⟨t11,-⟩ ⟨t1,t4,t7,t8,t9,t10,t12,t13,-⟩
     have FY:=FY2
     clear FY2
     rw [← mayT_y hmy] at FY
     refine wi_ A (h9_ t1 t4 t7 t8 t9 t10 t11 t12 t13) (rv_ 1 (.int .i64 ((i+1:Nat):Int)) (fun a e=>execAd8 (p:=i) (q:=1) rfl (e _) rfl (by omega)) (rf_ [(13,.int .i64 ((i+1:Nat):Int))] (h8_ t1 t4 t7 t8 t9 t10 t11 t12) ?_))
     rintro a A ⟨t13,-⟩ ⟨t1,t4,t7,t8,t9,t10,t11,t12,-⟩
     exact ⟨⟨i+1,m2,lti,A,t1,t4,t7,t8,t9,t10,t11,t12,t13,BB,FY⟩,by show p.n - (intOf (a.eval (.tmp 13))).toNat < p.n - (intOf (Act.eval _ (.tmp 13))).toNat; rw [t13,esi]; show p.n - (i+1) < p.n - i; omega⟩
    | false=>
     rw [hlv] at t12
     refine wp_seq ?_
     refine wi_ A (h10_ t1 t4 t7 t8 t9 t10 t11 t12 t13 t14) (rv_ 2 (.pointer (some ⟨g14,0,none⟩)) (fun a e=>execOf0 rfl (e _)) (rv_ 3 (.int .i64 (at_ p r i).k) (fun a e=>execLr rfl (Or.inl rfl) (e _) (oC_at FO).1) (rv_ 4 (.bool false) (fun a e=>execDec (exIneq3 (p:=(at_ p r i).k) (q:=0) rfl (e _) rfl) (decide_eq_false hne)) (rf_ [(12,.bool false)] (h8_ t1 t4 t7 t8 t9 t10 t11 t13) ?_))))
     rintro a A ⟨t12,-⟩ ⟨t1,t4,t7,t8,t9,t10,t11,t13,-⟩
     clear FO
     replace t12:a.eval (.tmp 12)=.bool (lvP p r (i+1)):=by rw [els,hlv,Bool.false_or,decide_eq_false hne]; exact t12
     refine wp_seq ?_
     refine wi_ A (h9_ t1 t4 t7 t8 t9 t10 t11 t12 t13) (rc_ 2 (hmy ▸ rmay B q p cv tz xz r gv kv tv hv ow X13 (hp.on BB) (hM.on BB) i lti hok hlk) (cb_ fun X15 bQ=>?_))
     replace FY:=(ownD_below FY bQ)
     replace BB:=BB.trans (bQ.mono BB.size)
     clear bQ
     refine rf_ [(67,.bool false)] (h9_ t1 t4 t7 t8 t9 t10 t11 t12 t13) ?_
     rintro a A ⟨t67,-⟩ ⟨t1,t4,t7,t8,t9,t10,t11,t12,t13,-⟩
     refine wp_cond_false t67 (wp_skip ?_)
     clear t67
     rw [← mayT_n hmy] at FY
     refine wi_ A (h9_ t1 t4 t7 t8 t9 t10 t11 t12 t13) (rv_ 1 (.int .i64 ((i+1:Nat):Int)) (fun a e=>execAd8 (p:=i) (q:=1) rfl (e _) rfl (by omega)) (rf_ [(13,.int .i64 ((i+1:Nat):Int))] (h8_ t1 t4 t7 t8 t9 t10 t11 t12) ?_))
     rintro a A ⟨t13,-⟩ ⟨t1,t4,t7,t8,t9,t10,t11,t12,-⟩
     exact ⟨⟨i+1,mv,lti,A,t1,t4,t7,t8,t9,t10,t11,t12,t13,BB,FY⟩,by show p.n - (intOf (a.eval (.tmp 13))).toNat < p.n - (intOf (Act.eval _ (.tmp 13))).toNat; rw [t13,esi]; show p.n - (i+1) < p.n - i; omega⟩
 ·rw [decide_eq_false lti] at t53
  refine wp_cond_false t53 ?_
  refine wp_exit ?_
  first | with_reducible refine exit_in ?_ | with_reducible refine exit_then (exit_in ?_) | with_reducible refine exit_then (exit_then (exit_in ?_)) | refine exit_in ?_ | refine exit_then (exit_in ?_) | refine exit_then (exit_then (exit_in ?_))
  clear t53 esi
  obtain rfl:p.n=i:=by omega
  exact hQ a XL mv A t1 t4 t7 t8 t9 t10 t11 t12 BB FY
end Go.Proofs.Ytjjegmflllpknaa.Loo

namespace Go.Proofs.Ytjjegmflllpknaa.Loo
open Go.RowKit Gf8 Aes By8 Cel Cf Win Drw Prm
/- LoomPlays: the reference's Play, how much lies in the ducts. Written by tools/mkT8v.py. -/
def loop24 (c:Code):Code:=headOf (findR 24 c)
def lyT (r:Rm) (i:Nat):Nat:=((List.range i).map fun j=>(r.hd j).length).sum
theorem lyT_s {r:Rm} {i:Nat}:lyT r (i+1)=lyT r i+(r.hd i).length:=by unfold lyT; rw [List.range_succ,List.map_append,List.sum_append]; simp
theorem lyT_le {r:Rm} {n m:Nat} (h:∀ i,i < n->(r.hd i).length<=m):∀ i,i<=n->lyT r i<=i * m
 | 0,_=>Nat.zero_le _
 | i+1,hi=>by
  have h1:=lyT_le h i (by omega)
  have h2:=h i (by omega)
  rw [lyT_s,Nat.add_mul,Nat.one_mul]
  omega
set_option maxRecDepth 100000 in
set_option maxHeartbeats 4000000 in
theorem rlying (B:Nat) (q:RK) (p:Pl) (cv tz sv:Value) (r:Rm) (gv kv:Nat->Int) (tv hv:Nat->Value) (ow:Nat->Nat) (S:World) (g4 g10:Nat) (Q:Exit->Act->World->Prop) (hM:RmM B S q p cv tz r gv kv tv hv ow) (hok:Okp p) (hcp:∀ i,i < p.d->(r.hd i).length<=1024) (hQ:∀ (a:Act) (W:World),(a.tmps.size=141/\a.defers=[])->a.eval (.tmp 1)=sv->a.eval (.tmp 4)=.pointer (some ⟨g4,0,none⟩)->a.eval (.tmp 7)=.int .i64 ((p.n:Nat):Int)->a.eval (.tmp 8)=.int .i64 ((p.d:Nat):Int)->a.eval (.tmp 9)=.pointer (some ⟨q.g,0,none⟩)->a.eval (.tmp 10)=.pointer (some ⟨g10,0,none⟩)->a.eval (.tmp 16)=.int .i64 ((lyT r p.d:Nat):Int)->Below S.heap.size S W->Q .normal a W):∀ (a:Act),(a.tmps.size=141/\a.defers=[])->a.eval (.tmp 1)=sv->a.eval (.tmp 4)=.pointer (some ⟨g4,0,none⟩)->a.eval (.tmp 7)=.int .i64 ((p.n:Nat):Int)->a.eval (.tmp 8)=.int .i64 ((p.d:Nat):Int)->a.eval (.tmp 9)=.pointer (some ⟨q.g,0,none⟩)->a.eval (.tmp 10)=.pointer (some ⟨g10,0,none⟩)->a.eval (.tmp 16)=.int .i64 ((0:Nat):Int)->(loop24 (Try.f6.body.getD .skip)).wp Try.prog Q a S:=by
 intro a A t1 t4 t7 t8 t9 t10 t16
 have BB:Below S.heap.size S S:=Below.refl _ _
 have hdd:=hok.d
 refine wp_seq ?_
 refine wi_ A (h7_ t1 t4 t7 t8 t9 t10 t16) (rf_ [(17,.int .i64 ((0:Nat):Int))] (h7_ t1 t4 t7 t8 t9 t10 t16) ?_)
 rintro a A ⟨t17,-⟩ ⟨t1,t4,t7,t8,t9,t10,t16,-⟩
 refine wp_block ?_
 refine wp_loop (fun a W=>∃ (i:Nat),i<=p.d/\(a.tmps.size=141/\a.defers=[])/\a.eval (.tmp 1)=sv/\a.eval (.tmp 4)=.pointer (some ⟨g4,0,none⟩)/\a.eval (.tmp 7)=.int .i64 ((p.n:Nat):Int)/\a.eval (.tmp 8)=.int .i64 ((p.d:Nat):Int)/\a.eval (.tmp 9)=.pointer (some ⟨q.g,0,none⟩)/\a.eval (.tmp 10)=.pointer (some ⟨g10,0,none⟩)/\a.eval (.tmp 16)=.int .i64 ((lyT r i:Nat):Int)/\a.eval (.tmp 17)=.int .i64 ((i:Nat):Int)/\Below S.heap.size S W) (fun a _=>p.d - (intOf (a.eval (.tmp 17))).toNat) ⟨0,Nat.zero_le _,A,t1,t4,t7,t8,t9,t10,t16,t17,BB⟩ ?_
 rintro a XL ⟨i,hi,A,t1,t4,t7,t8,t9,t10,t16,t17,BB⟩
 have esi:=t17
 refine wp_seq (wp_seq ?_)
 refine wi_ A (h8_ t1 t4 t7 t8 t9 t10 t16 t17) (rv_ 2 (.bool (decide (i < p.d))) (fun a e=>execLtW (p:=i) (q:=p.d) rfl (e _) (e _)) (rf_ [(112,.bool (decide (i < p.d)))] (h8_ t1 t4 t7 t8 t9 t10 t16 t17) ?_))
 rintro a A ⟨t112,-⟩ ⟨t1,t4,t7,t8,t9,t10,t16,t17,-⟩
 by_cases lti:i < p.d
 ·rw [decide_eq_true lti] at t112
  refine wp_cond_true t112 (wp_skip ?_)
  clear t112
  refine wp_seq (wp_block ?_)
  have hly:=lyT_le hcp i (by omega)
  have hli:=hcp i lti
  have hm_:i * 1024<=64 * 1024:=Nat.mul_le_mul_right _ (by omega)
  refine wi_ A (h8_ t1 t4 t7 t8 t9 t10 t16 t17) (rv_ 2 (.pointer (some ⟨q.g,0,none⟩)) (fun a e=>execNlm rfl (e _)) (rv_ 3 (.pointer (some ⟨q.g,6,none⟩)) (fun a e=>execRo5 rfl (e _)) (rv_ 4 (sl0 q.H p.d) (fun a e=>execLr rfl (Or.inr (Or.inr (Or.inr (Or.inr (Or.inl rfl))))) (e _) (gR_at (hM.on BB)).2.2.2.2.2.2.1) (rv_ 6 (.pointer (some ⟨q.H,0+i,none⟩)) (fun a e=>execIxLL (k:=i) rfl (e _) (e _) lti) (rv_ 7 (hv i) (fun a e=>execLr rfl (Or.inr (Or.inr (Or.inl rfl))) (e _) (rA_c (hM.on BB).hH lti)) (rv_ 8 (.int .i64 (((r.hd i).length:Nat):Int)) (fun a e=>execLenI (len:=(r.hd i).length) rfl (e _) (hM.hd i lti).shp) (rv_ 9 (.int .i64 (((lyT r i:Nat):Int)+(((r.hd i).length:Nat):Int))) (fun a e=>execAddZ rfl (e _) (e _) ⟨by omega,by omega⟩) (rf_ [(16,.int .i64 (((lyT r i:Nat):Int)+(((r.hd i).length:Nat):Int)))] (h7_ t1 t4 t7 t8 t9 t10 t17) ?_))))))))
  rintro a A ⟨t16,-⟩ ⟨t1,t4,t7,t8,t9,t10,t17,-⟩
  replace t16:a.eval (.tmp 16)=.int .i64 ((lyT r (i+1):Nat):Int):=t16.trans (congrArg (Value.int .i64) (by rw [lyT_s]; omega))
  refine wi_ A (h8_ t1 t4 t7 t8 t9 t10 t16 t17) (rv_ 1 (.int .i64 ((i+1:Nat):Int)) (fun a e=>execAd8 (p:=i) (q:=1) rfl (e _) rfl (by omega)) (rf_ [(17,.int .i64 ((i+1:Nat):Int))] (h7_ t1 t4 t7 t8 t9 t10 t16) ?_))
  rintro a A ⟨t17,-⟩ ⟨t1,t4,t7,t8,t9,t10,t16,-⟩
  exact ⟨⟨i+1,lti,A,t1,t4,t7,t8,t9,t10,t16,t17,BB⟩,by show p.d - (intOf (a.eval (.tmp 17))).toNat < p.d - (intOf (Act.eval _ (.tmp 17))).toNat; rw [t17,esi]; show p.d - (i+1) < p.d - i; omega⟩
 ·rw [decide_eq_false lti] at t112
  refine wp_cond_false t112 ?_
  refine wp_exit ?_
  first | with_reducible refine exit_in ?_ | with_reducible refine exit_then (exit_in ?_) | with_reducible refine exit_then (exit_then (exit_in ?_)) | refine exit_in ?_ | refine exit_then (exit_in ?_) | refine exit_then (exit_then (exit_in ?_))
  clear t112 esi
  obtain rfl:p.d=i:=by omega
  exact hQ a XL A t1 t4 t7 t8 t9 t10 t16 BB
end Go.Proofs.Ytjjegmflllpknaa.Loo
