import Derived.Test.YtjjegmflllpknaaT8v
namespace Go.Proofs.Ytjjegmflllpknaa.Loo
open Go.RowKit Gf8 Aes By8 Cel Cf Win Drw Prm
/- LoomPlays: the loop of the reference's Play. Written by tools/mkT8w.py. -/
section
variable {B:Nat} {W X:World} {q:RK} {p:Pl} {cv tz:Value} {r:Rm} {gv kv:Nat->Int} {tv hv:Nat->Value} {ow:Nat->Nat}
theorem RmM.relabs (h:RmM B W q p cv tz r gv kv tv hv ow):RmM B W q p cv tz r gv kv tv hv (fun b=>if W.heap.size<=b then 0 else ow b):=by
 have k:∀ {b m:Nat},b < W.heap.size->ow b=m->(if W.heap.size<=b then 0 else ow b)=m:=fun {b m} h1 h2=>by rw [if_neg (by omega)]; exact h2
 exact ⟨h.hg,h.hP,h.hR,h.hE,h.hT,h.hH,h.hC,h.hG,h.hK,h.tk,h.hd,k (Array.getElem?_eq_some_iff.1 h.hg).1 h.lg,k (Array.getElem?_eq_some_iff.1 h.hP).1 h.lP,k (Array.getElem?_eq_some_iff.1 h.hR).1 h.lR,k (Array.getElem?_eq_some_iff.1 h.hE).1 h.lE,k (Array.getElem?_eq_some_iff.1 h.hT).1 h.lT,k (Array.getElem?_eq_some_iff.1 h.hH).1 h.lH,k (Array.getElem?_eq_some_iff.1 h.hC).1 h.lC,k (Array.getElem?_eq_some_iff.1 h.hG).1 h.lG,k (Array.getElem?_eq_some_iff.1 h.hK).1 h.lK,fun t ht b hb=>k ((h.tk t ht).lt b hb).2 (h.ltk t ht b hb),fun t ht b hb=>k ((h.hd t ht).lt b hb).2 (h.lhd t ht b hb),fun b hb=>by
  show (if W.heap.size<=b then 0 else ow b)=0
  split
  ·rfl
  ·exact h.low b hb,h.le⟩
end
def restOf:Code->Code
 | .seq _ y=>y
 | c=>c
def after6 (c:Code):Code:=restOf (findR 6 c)
theorem hC_s1 {W:World} {g:Nat} {pk tk:Value} {m l n:Nat} {en st:Bool} {t:TypeId} (h:W.heap[g]?=some (.cells (hC pk m en st l tk) t)):(W.setCell ⟨g,1,none⟩ (.int .i64 ((n:Nat):Int))).heap[g]?=some (.cells (hC pk n en st l tk) t):=heap4 _ h
def OffL (ow:Nat->Nat) (g4 g10:Nat) (pkv:Value):Prop:=ow g4=0/\ow g10=0/\∀ b,pkv.ownBlock=some b->ow b=0
theorem pkf_up {f:Nat->Int} {k:Nat} {z:Int} (h:z=f k):intsL (k+1) (up f k z)=intsL (k+1) f:=intsL_congr fun j _=>by
 by_cases e:j=k
 ·rw [e,up_at,h]
 ·rw [up_ne _ _ e]
theorem own_pk {W:World} {B k:Nat} {v:Value} {f:Nat->Int} {z:Int} (h:W.ownsRow B 3 1 v (k+1) (intsL (k+1) (up f k z))) (hz:z=f k):W.ownsRow B 3 1 v (k+1) (intsL (k+1) f):=by
 rw [← pkf_up hz]
 exact h
set_option maxRecDepth 100000 in
set_option maxHeartbeats 4000000 in
theorem rplayL (V:World) (q:RK) (p:Pl) (cv tz sv:Value) (xz:Nat->Value) (m:Nat) (sc:Nat->Int) (g4 g10:Nat) (Q:Exit->Act->World->Prop) (hp:PlV V cv tz xz p) (hok:Okp p) (hS:SliceI V sv m sc) (hg10:V.heap.size<=g10) (hne:g4 ≠ g10) (hE:∀ (a:Act) (W:World) (k:Nat) (gv kv:Nat->Int) (tv hv:Nat->Value) (ow:Nat->Nat) (pkv:Value),Run p (scr m sc) k->OffL ow g4 g10 pkv->(a.tmps.size=141/\a.defers=[])->a.eval (.tmp 1)=sv->a.eval (.tmp 4)=.pointer (some ⟨g4,0,none⟩)->a.eval (.tmp 7)=.int .i64 ((p.n:Nat):Int)->a.eval (.tmp 8)=.int .i64 ((p.d:Nat):Int)->a.eval (.tmp 9)=.pointer (some ⟨q.g,0,none⟩)->a.eval (.tmp 10)=.pointer (some ⟨g10,0,none⟩)->Below V.heap.size V W->(RmM V.heap.size W q p cv tz (rk p (scr m sc) k) gv kv tv hv ow)->(W.heap[g4]?=some (.cells (hC (.slice none 0 0) 0 false false 0 (.slice none 0 0)) 29))->(W.heap[g10]?=some (.cells (hC pkv (mx p (scr m sc) k) (!live p (rk p (scr m sc) k)) (live p (rk p (scr m sc) k) && decide (mayL p (rk p (scr m sc) k)=[])) 0 (.slice none 0 0)) 29))->(W.ownsRow V.heap.size 3 1 pkv k (intsL k (fun i=>((pk p (scr m sc) i:Nat):Int))))->(findR 29 (Try.f6.body.getD .skip)).wp Try.prog Q a W):∀ (a:Act) (S:World) (gv kv:Nat->Int) (tv hv:Nat->Value) (ow:Nat->Nat),(a.tmps.size=141/\a.defers=[])->a.eval (.tmp 1)=sv->a.eval (.tmp 4)=.pointer (some ⟨g4,0,none⟩)->a.eval (.tmp 7)=.int .i64 ((p.n:Nat):Int)->a.eval (.tmp 8)=.int .i64 ((p.d:Nat):Int)->a.eval (.tmp 9)=.pointer (some ⟨q.g,0,none⟩)->a.eval (.tmp 10)=.pointer (some ⟨g10,0,none⟩)->Below V.heap.size V S->(RmM V.heap.size S q p cv tz r0 gv kv tv hv ow)->(S.heap[g4]?=some (.cells (hC (.slice none 0 0) 0 false false 0 (.slice none 0 0)) 29))->(S.heap[g10]?=some (.cells (hC (.slice none 0 0) 0 false false 0 (.slice none 0 0)) 29))->OffL ow g4 g10 (.slice none 0 0)->(after6 (Try.f6.body.getD .skip)).wp Try.prog Q a S:=by
 intro a S gv kv tv hv ow A t1 t4 t7 t8 t9 t10 BB FM F4 F10 hoff
 have FP:S.ownsRow V.heap.size 3 1 (.slice none 0 0) 0 (intsL 0 (fun i=>((pk p (scr m sc) i:Nat):Int))):=World.ownsRow_nil _ _ _ _
 have hnn:=hok.n
 refine wp_seq (wp_block ?_)
 refine wp_loop (fun a W=>∃ (k:Nat) (gv kv:Nat->Int) (tv hv:Nat->Value) (ow:Nat->Nat) (pkv:Value),k<=65536/\(∀ j,j < k->mayL p (rk p (scr m sc) j) ≠ [])/\OffL ow g4 g10 pkv/\(a.tmps.size=141/\a.defers=[])/\a.eval (.tmp 1)=sv/\a.eval (.tmp 4)=.pointer (some ⟨g4,0,none⟩)/\a.eval (.tmp 7)=.int .i64 ((p.n:Nat):Int)/\a.eval (.tmp 8)=.int .i64 ((p.d:Nat):Int)/\a.eval (.tmp 9)=.pointer (some ⟨q.g,0,none⟩)/\a.eval (.tmp 10)=.pointer (some ⟨g10,0,none⟩)/\Below V.heap.size V W/\(RmM V.heap.size W q p cv tz (rk p (scr m sc) k) gv kv tv hv ow)/\(W.heap[g4]?=some (.cells (hC (.slice none 0 0) 0 false false 0 (.slice none 0 0)) 29))/\(W.heap[g10]?=some (.cells (hC pkv (mx p (scr m sc) k) false false 0 (.slice none 0 0)) 29))/\(W.ownsRow V.heap.size 3 1 pkv k (intsL k (fun i=>((pk p (scr m sc) i:Nat):Int))))) (fun _ W=>65536 - npk W g10) ⟨0,gv,kv,tv,hv,ow,(.slice none 0 0),Nat.zero_le _,fun j hj=>absurd hj (Nat.not_lt_zero j),hoff,A,t1,t4,t7,t8,t9,t10,BB,FM,F4,F10,FP⟩ ?_
 rintro a XR ⟨k,gv,kv,tv,hv,ow,pkv,hk,hgo,hoff,A,t1,t4,t7,t8,t9,t10,BB,FM,F4,F10,FP⟩
 have enp:npk XR g10=k:=npk_of F10 (own_shpZ FP)
 obtain ⟨r,er⟩:∃ r,rk p (scr m sc) k=r:=⟨_,rfl⟩
 have hB:=rk_bnd hok hgo k (Nat.le_refl _)
 rw [er] at FM hB
 refine wp_block ?_
 refine wp_seq ?_
 refine wi_ A (h6_ t1 t4 t7 t8 t9 t10) (rc_ 1 (rlook V q p cv tz xz r gv kv tv hv ow XR hp BB FM hok) fun e X7 hh=>?_)
 obtain ⟨he,⟨gv2,kv2,hlk_,⟨⟨tv2,hv2,ow2,hM2_,hl2_⟩,hs2_⟩⟩,hb_⟩:=hh
 refine ⟨_,he,?_⟩
 obtain ⟨BB,F4,F10,FP,FM2,Flk,Fof⟩:Below V.heap.size V X7/\(X7.heap[g4]?=some (.cells (hC (.slice none 0 0) 0 false false 0 (.slice none 0 0)) 29))/\(X7.heap[g10]?=some (.cells (hC pkv (mx p (scr m sc) k) false false 0 (.slice none 0 0)) 29))/\(X7.ownsRow V.heap.size 3 1 pkv k (intsL k (fun i=>((pk p (scr m sc) i:Nat):Int))))/\(RmM V.heap.size X7 q p cv tz r gv2 kv2 tv2 hv2 ow2)/\(Lkd p r gv2 kv2)/\(OffL ow2 g4 g10 pkv):=⟨hb_,(bk_sv19 F4 hs2_ (fun w=>w hoff.1)),(bk_sv19 F10 hs2_ (fun w=>w hoff.2.1)),(own_sv19 FP hs2_ (fun b hb w=>w (hoff.2.2 b hb))),hM2_,hlk_,⟨(hl2_ g4 (Array.getElem?_eq_some_iff.1 F4).1).trans hoff.1,(hl2_ g10 (Array.getElem?_eq_some_iff.1 F10).1).trans hoff.2.1,fun b hb=>(hl2_ b (FP.lt b hb).2).trans (hoff.2.2 b hb)⟩⟩
 clear FM
 refine rf_ [] (h6_ t1 t4 t7 t8 t9 t10) ?_
 rintro a A - ⟨t1,t4,t7,t8,t9,t10,-⟩
 have FM:=FM2
 clear FM2
 replace hoff:=Fof
 clear Fof
 refine wp_seq ?_
 refine wi_ A (h6_ t1 t4 t7 t8 t9 t10) (rf_ [(11,.slice none 0 0)] (h6_ t1 t4 t7 t8 t9 t10) ?_)
 rintro a A ⟨t11,-⟩ ⟨t1,t4,t7,t8,t9,t10,-⟩
 refine wp_seq ?_
 refine wi_ A (h7_ t1 t4 t7 t8 t9 t10 t11) (rf_ [(12,.bool false)] (h7_ t1 t4 t7 t8 t9 t10 t11) ?_)
 rintro a A ⟨t12,-⟩ ⟨t1,t4,t7,t8,t9,t10,t11,-⟩
 refine wp_seq ?_
 refine rmays V.heap.size q p cv tz sv xz r gv2 kv2 tv2 hv2 ow2 X7 g4 g10 _ (hp.on BB) FM hok Flk ?_ a A t1 t4 t7 t8 t9 t10 t11 t12
 clear A t1 t4 t7 t8 t9 t10 t11 t12 a
 intro a XM mv A t1 t4 t7 t8 t9 t10 t11 t12 B10 FY
 replace FY:=ownD_base FY BB.size
 replace FM:=FM.on B10
 replace F4:=on9 F4 B10
 replace F10:=on9 F10 B10
 replace FP:=ownD_below FP B10
 replace BB:=BB.trans (B10.mono BB.size)
 clear B10
 obtain ⟨ml,eml⟩:∃ ml,mayT p r p.n=ml:=⟨_,rfl⟩
 have eml2:mayL p r=ml:=eml
 obtain ⟨lv,elv⟩:∃ lv,lvP p r p.n=lv:=⟨_,rfl⟩
 have elv2:live p r=lv:=elv
 rw [eml] at FY
 rw [elv] at t12
 have hmlen:ml.length<=128:=by have:=mayT_len (p:=p) (r:=r) (i:=p.n); rw [eml] at this; omega
 by_cases hml:ml=[]
 ·have hm0:ml.length=0:=by rw [hml]; rfl
  cases hlv:lv with
  | true=>
   rw [hlv] at t12
   refine wp_seq (wp_seq ?_)
   refine wi_ A (h8_ t1 t4 t7 t8 t9 t10 t11 t12) (rv_ 1 (.int .i64 ((ml.length:Nat):Int)) (fun a E=>execLenI (len:=ml.length) rfl (E _) (own_shpZ FY)) (rv_ 2 (.bool true) (fun a E=>execDec (exIeql3 (p:=((ml.length:Nat):Int)) (q:=0) rfl (E _) rfl) (decide_eq_true (by omega))) (rf_ [(80,.bool true)] (h8_ t1 t4 t7 t8 t9 t10 t11 t12) ?_)))
   rintro a A ⟨t80,-⟩ ⟨t1,t4,t7,t8,t9,t10,t11,t12,-⟩
   refine wp_cond_true t80 ?_
   clear t80
   refine wp_seq ?_
   refine wi_ A (h8_ t1 t4 t7 t8 t9 t10 t11 t12) (rv_ 1 (.bool false) (fun a E=>execNot8 (b:=true) rfl (E _)) (rv_ 2 (.pointer (some ⟨g10,2,none⟩)) (fun a E=>execFh2 rfl (E _)) (rs_ 3 (fun a E=>?_))))
   refine stepS rfl rfl (execSm rfl (Or.inr (Or.inl rfl)) (E _) (E _) (Or.inr (Or.inl ⟨_,rfl⟩)) (hC_at F10).2.2.1 (frozen4 F10)) ⟨_,⟨_,rfl,rfl⟩,fun X18 hX=>?_⟩
   obtain ⟨BB,F4,FP,FM,FY,F10b⟩:Below V.heap.size V X18/\(X18.heap[g4]?=some (.cells (hC (.slice none 0 0) 0 false false 0 (.slice none 0 0)) 29))/\(X18.ownsRow V.heap.size 3 1 pkv k (intsL k (fun i=>((pk p (scr m sc) i:Nat):Int))))/\(RmM V.heap.size X18 q p cv tz r gv2 kv2 tv2 hv2 ow2)/\(X18.ownsRow V.heap.size 3 1 mv ml.length (intsL ml.length (caF ml)))/\(X18.heap[g10]?=some (.cells (hC pkv (mx p (scr m sc) k) false false 0 (.slice none 0 0)) 29)):=by subst hX; exact ⟨(BB).setCell hg10 _,(keepN19 F4 hne grC19),(ownG_T FP F10 (by decide) grC19),(FM.grow0 grC19 (fun b e=>by cases e; exact hoff.2.1)),(ownG_T FY F10 (by decide) grC19),hC_s2 F10⟩
   clear F10 hX E a
   refine rf_ [] (h8_ t1 t4 t7 t8 t9 t10 t11 t12) ?_
   rintro a A - ⟨t1,t4,t7,t8,t9,t10,t11,t12,-⟩
   refine wp_seq ?_
   refine wi_ A (h8_ t1 t4 t7 t8 t9 t10 t11 t12) (rv_ 3 (.int .i64 ((ml.length:Nat):Int)) (fun a E=>execLenI (len:=ml.length) rfl (E _) (own_shpZ FY)) (rv_ 4 (.bool true) (fun a E=>execDec (exIeql3 (p:=((ml.length:Nat):Int)) (q:=0) rfl (E _) rfl) (decide_eq_true (by omega))) (rv_ 6 (.pointer (some ⟨g10,3,none⟩)) (fun a E=>execFh3 rfl (E _)) (rs_ 7 (fun a E=>?_)))))
   refine stepS rfl rfl (execSm rfl (Or.inr (Or.inl rfl)) (E _) (E _) (Or.inr (Or.inl ⟨_,rfl⟩)) (hC_at F10b).2.2.2.1 (frozen4 F10b)) ⟨_,⟨_,rfl,rfl⟩,fun X19 hX=>?_⟩
   obtain ⟨BB,F4,FP,FM,FY,F10c⟩:Below V.heap.size V X19/\(X19.heap[g4]?=some (.cells (hC (.slice none 0 0) 0 false false 0 (.slice none 0 0)) 29))/\(X19.ownsRow V.heap.size 3 1 pkv k (intsL k (fun i=>((pk p (scr m sc) i:Nat):Int))))/\(RmM V.heap.size X19 q p cv tz r gv2 kv2 tv2 hv2 ow2)/\(X19.ownsRow V.heap.size 3 1 mv ml.length (intsL ml.length (caF ml)))/\(X19.heap[g10]?=some (.cells (hC pkv (mx p (scr m sc) k) false true 0 (.slice none 0 0)) 29)):=by subst hX; exact ⟨(BB).setCell hg10 _,(keepN19 F4 hne grC19),(ownG_T FP F10b (by decide) grC19),(FM.grow0 grC19 (fun b e=>by cases e; exact hoff.2.1)),(ownG_T FY F10b (by decide) grC19),hC_s3 F10b⟩
   clear F10b hX E a
   refine rf_ [] (h6_ t1 t4 t7 t8 t9 t10) ?_
   rintro a A - ⟨t1,t4,t7,t8,t9,t10,-⟩
   refine wp_exit ?_
   repeat (first | with_reducible refine exit_then ?_ | with_reducible refine exit_past19 (by decide) ?_)
   refine exit_in ?_
   have hrun:Run p (scr m sc) k:=⟨hk,hgo,by rw [er,eml2]; exact Or.inl hml⟩
   refine hE a X19 k gv2 kv2 tv2 hv2 ow2 pkv hrun hoff A t1 t4 t7 t8 t9 t10 BB (by rw [er]; exact FM) F4 ?_ FP
   rw [er,eml2,elv2,hlv,decide_eq_true hml]
   exact F10c
  | false=>
   rw [hlv] at t12
   refine wp_seq (wp_seq ?_)
   refine wi_ A (h8_ t1 t4 t7 t8 t9 t10 t11 t12) (rv_ 1 (.int .i64 ((ml.length:Nat):Int)) (fun a E=>execLenI (len:=ml.length) rfl (E _) (own_shpZ FY)) (rv_ 2 (.bool true) (fun a E=>execDec (exIeql3 (p:=((ml.length:Nat):Int)) (q:=0) rfl (E _) rfl) (decide_eq_true (by omega))) (rf_ [(80,.bool true)] (h8_ t1 t4 t7 t8 t9 t10 t11 t12) ?_)))
   rintro a A ⟨t80,-⟩ ⟨t1,t4,t7,t8,t9,t10,t11,t12,-⟩
   refine wp_cond_true t80 ?_
   clear t80
   refine wp_seq ?_
   refine wi_ A (h8_ t1 t4 t7 t8 t9 t10 t11 t12) (rv_ 1 (.bool true) (fun a E=>execNot8 (b:=false) rfl (E _)) (rv_ 2 (.pointer (some ⟨g10,2,none⟩)) (fun a E=>execFh2 rfl (E _)) (rs_ 3 (fun a E=>?_))))
   refine stepS rfl rfl (execSm rfl (Or.inr (Or.inl rfl)) (E _) (E _) (Or.inr (Or.inl ⟨_,rfl⟩)) (hC_at F10).2.2.1 (frozen4 F10)) ⟨_,⟨_,rfl,rfl⟩,fun X18 hX=>?_⟩
   obtain ⟨BB,F4,FP,FM,FY,F10b⟩:Below V.heap.size V X18/\(X18.heap[g4]?=some (.cells (hC (.slice none 0 0) 0 false false 0 (.slice none 0 0)) 29))/\(X18.ownsRow V.heap.size 3 1 pkv k (intsL k (fun i=>((pk p (scr m sc) i:Nat):Int))))/\(RmM V.heap.size X18 q p cv tz r gv2 kv2 tv2 hv2 ow2)/\(X18.ownsRow V.heap.size 3 1 mv ml.length (intsL ml.length (caF ml)))/\(X18.heap[g10]?=some (.cells (hC pkv (mx p (scr m sc) k) true false 0 (.slice none 0 0)) 29)):=by subst hX; exact ⟨(BB).setCell hg10 _,(keepN19 F4 hne grC19),(ownG_T FP F10 (by decide) grC19),(FM.grow0 grC19 (fun b e=>by cases e; exact hoff.2.1)),(ownG_T FY F10 (by decide) grC19),hC_s2 F10⟩
   clear F10 hX E a
   refine rf_ [] (h8_ t1 t4 t7 t8 t9 t10 t11 t12) ?_
   rintro a A - ⟨t1,t4,t7,t8,t9,t10,t11,t12,-⟩
   refine wp_seq ?_
   refine wi_ A (h8_ t1 t4 t7 t8 t9 t10 t11 t12) (rv_ 6 (.pointer (some ⟨g10,3,none⟩)) (fun a E=>execFh3 rfl (E _)) (rs_ 7 (fun a E=>?_)))
   refine stepS rfl rfl (execSm rfl (Or.inr (Or.inl rfl)) (E _) (E _) (Or.inr (Or.inl ⟨_,rfl⟩)) (hC_at F10b).2.2.2.1 (frozen4 F10b)) ⟨_,⟨_,rfl,rfl⟩,fun X19 hX=>?_⟩
   obtain ⟨BB,F4,FP,FM,FY,F10c⟩:Below V.heap.size V X19/\(X19.heap[g4]?=some (.cells (hC (.slice none 0 0) 0 false false 0 (.slice none 0 0)) 29))/\(X19.ownsRow V.heap.size 3 1 pkv k (intsL k (fun i=>((pk p (scr m sc) i:Nat):Int))))/\(RmM V.heap.size X19 q p cv tz r gv2 kv2 tv2 hv2 ow2)/\(X19.ownsRow V.heap.size 3 1 mv ml.length (intsL ml.length (caF ml)))/\(X19.heap[g10]?=some (.cells (hC pkv (mx p (scr m sc) k) true false 0 (.slice none 0 0)) 29)):=by subst hX; exact ⟨(BB).setCell hg10 _,(keepN19 F4 hne grC19),(ownG_T FP F10b (by decide) grC19),(FM.grow0 grC19 (fun b e=>by cases e; exact hoff.2.1)),(ownG_T FY F10b (by decide) grC19),hC_s3 F10b⟩
   clear F10b hX E a
   refine rf_ [] (h6_ t1 t4 t7 t8 t9 t10) ?_
   rintro a A - ⟨t1,t4,t7,t8,t9,t10,-⟩
   refine wp_exit ?_
   repeat (first | with_reducible refine exit_then ?_ | with_reducible refine exit_past19 (by decide) ?_)
   refine exit_in ?_
   have hrun:Run p (scr m sc) k:=⟨hk,hgo,by rw [er,eml2]; exact Or.inl hml⟩
   refine hE a X19 k gv2 kv2 tv2 hv2 ow2 pkv hrun hoff A t1 t4 t7 t8 t9 t10 BB (by rw [er]; exact FM) F4 ?_ FP
   rw [er,eml2,elv2,hlv,decide_eq_true hml]
   exact F10c
 have hm0:0 < ml.length:=List.length_pos_iff.2 hml
 by_cases hmo:k=65536
 ·cases hlv:lv with
  | true=>
   rw [hlv] at t12
   refine wp_seq (wp_seq ?_)
   refine wi_ A (h8_ t1 t4 t7 t8 t9 t10 t11 t12) (rv_ 1 (.int .i64 ((ml.length:Nat):Int)) (fun a E=>execLenI (len:=ml.length) rfl (E _) (own_shpZ FY)) (rv_ 2 (.bool false) (fun a E=>execDec (exIeql3 (p:=((ml.length:Nat):Int)) (q:=0) rfl (E _) rfl) (decide_eq_false (by omega))) (rv_ 4 (.pointer (some ⟨g10,0,none⟩)) (fun a E=>execFh0 rfl (E _)) (rv_ 5 (pkv) (fun a E=>execLr rfl (Or.inr (Or.inr (Or.inl rfl))) (E _) (hC_at F10).1) (rv_ 6 (.int .i64 ((k:Nat):Int)) (fun a E=>execLenI (len:=k) rfl (E _) (own_shpZ FP)) (rv_ 7 (.bool true) (fun a E=>execDec (exIeql3 (p:=((k:Nat):Int)) (q:=65536) rfl (E _) rfl) (decide_eq_true (by omega))) (rf_ [(80,.bool true)] (h8_ t1 t4 t7 t8 t9 t10 t11 t12) ?_)))))))
   rintro a A ⟨t80,-⟩ ⟨t1,t4,t7,t8,t9,t10,t11,t12,-⟩
   refine wp_cond_true t80 ?_
   clear t80
   refine wp_seq ?_
   refine wi_ A (h8_ t1 t4 t7 t8 t9 t10 t11 t12) (rv_ 1 (.bool false) (fun a E=>execNot8 (b:=true) rfl (E _)) (rv_ 2 (.pointer (some ⟨g10,2,none⟩)) (fun a E=>execFh2 rfl (E _)) (rs_ 3 (fun a E=>?_))))
   refine stepS rfl rfl (execSm rfl (Or.inr (Or.inl rfl)) (E _) (E _) (Or.inr (Or.inl ⟨_,rfl⟩)) (hC_at F10).2.2.1 (frozen4 F10)) ⟨_,⟨_,rfl,rfl⟩,fun X18 hX=>?_⟩
   obtain ⟨BB,F4,FP,FM,FY,F10b⟩:Below V.heap.size V X18/\(X18.heap[g4]?=some (.cells (hC (.slice none 0 0) 0 false false 0 (.slice none 0 0)) 29))/\(X18.ownsRow V.heap.size 3 1 pkv k (intsL k (fun i=>((pk p (scr m sc) i:Nat):Int))))/\(RmM V.heap.size X18 q p cv tz r gv2 kv2 tv2 hv2 ow2)/\(X18.ownsRow V.heap.size 3 1 mv ml.length (intsL ml.length (caF ml)))/\(X18.heap[g10]?=some (.cells (hC pkv (mx p (scr m sc) k) false false 0 (.slice none 0 0)) 29)):=by subst hX; exact ⟨(BB).setCell hg10 _,(keepN19 F4 hne grC19),(ownG_T FP F10 (by decide) grC19),(FM.grow0 grC19 (fun b e=>by cases e; exact hoff.2.1)),(ownG_T FY F10 (by decide) grC19),hC_s2 F10⟩
   clear F10 hX E a
   refine rf_ [] (h8_ t1 t4 t7 t8 t9 t10 t11 t12) ?_
   rintro a A - ⟨t1,t4,t7,t8,t9,t10,t11,t12,-⟩
   refine wp_seq ?_
   refine wi_ A (h8_ t1 t4 t7 t8 t9 t10 t11 t12) (rv_ 3 (.int .i64 ((ml.length:Nat):Int)) (fun a E=>execLenI (len:=ml.length) rfl (E _) (own_shpZ FY)) (rv_ 4 (.bool false) (fun a E=>execDec (exIeql3 (p:=((ml.length:Nat):Int)) (q:=0) rfl (E _) rfl) (decide_eq_false (by omega))) (rv_ 6 (.pointer (some ⟨g10,3,none⟩)) (fun a E=>execFh3 rfl (E _)) (rs_ 7 (fun a E=>?_)))))
   refine stepS rfl rfl (execSm rfl (Or.inr (Or.inl rfl)) (E _) (E _) (Or.inr (Or.inl ⟨_,rfl⟩)) (hC_at F10b).2.2.2.1 (frozen4 F10b)) ⟨_,⟨_,rfl,rfl⟩,fun X19 hX=>?_⟩
   obtain ⟨BB,F4,FP,FM,FY,F10c⟩:Below V.heap.size V X19/\(X19.heap[g4]?=some (.cells (hC (.slice none 0 0) 0 false false 0 (.slice none 0 0)) 29))/\(X19.ownsRow V.heap.size 3 1 pkv k (intsL k (fun i=>((pk p (scr m sc) i:Nat):Int))))/\(RmM V.heap.size X19 q p cv tz r gv2 kv2 tv2 hv2 ow2)/\(X19.ownsRow V.heap.size 3 1 mv ml.length (intsL ml.length (caF ml)))/\(X19.heap[g10]?=some (.cells (hC pkv (mx p (scr m sc) k) false false 0 (.slice none 0 0)) 29)):=by subst hX; exact ⟨(BB).setCell hg10 _,(keepN19 F4 hne grC19),(ownG_T FP F10b (by decide) grC19),(FM.grow0 grC19 (fun b e=>by cases e; exact hoff.2.1)),(ownG_T FY F10b (by decide) grC19),hC_s3 F10b⟩
   clear F10b hX E a
   refine rf_ [] (h6_ t1 t4 t7 t8 t9 t10) ?_
   rintro a A - ⟨t1,t4,t7,t8,t9,t10,-⟩
   refine wp_exit ?_
   repeat (first | with_reducible refine exit_then ?_ | with_reducible refine exit_past19 (by decide) ?_)
   refine exit_in ?_
   have hrun:Run p (scr m sc) k:=⟨hk,hgo,by rw [er,eml2]; exact Or.inr (by omega)⟩
   refine hE a X19 k gv2 kv2 tv2 hv2 ow2 pkv hrun hoff A t1 t4 t7 t8 t9 t10 BB (by rw [er]; exact FM) F4 ?_ FP
   rw [er,eml2,elv2,hlv,decide_eq_false hml]
   exact F10c
  | false=>
   rw [hlv] at t12
   refine wp_seq (wp_seq ?_)
   refine wi_ A (h8_ t1 t4 t7 t8 t9 t10 t11 t12) (rv_ 1 (.int .i64 ((ml.length:Nat):Int)) (fun a E=>execLenI (len:=ml.length) rfl (E _) (own_shpZ FY)) (rv_ 2 (.bool false) (fun a E=>execDec (exIeql3 (p:=((ml.length:Nat):Int)) (q:=0) rfl (E _) rfl) (decide_eq_false (by omega))) (rv_ 4 (.pointer (some ⟨g10,0,none⟩)) (fun a E=>execFh0 rfl (E _)) (rv_ 5 (pkv) (fun a E=>execLr rfl (Or.inr (Or.inr (Or.inl rfl))) (E _) (hC_at F10).1) (rv_ 6 (.int .i64 ((k:Nat):Int)) (fun a E=>execLenI (len:=k) rfl (E _) (own_shpZ FP)) (rv_ 7 (.bool true) (fun a E=>execDec (exIeql3 (p:=((k:Nat):Int)) (q:=65536) rfl (E _) rfl) (decide_eq_true (by omega))) (rf_ [(80,.bool true)] (h8_ t1 t4 t7 t8 t9 t10 t11 t12) ?_)))))))
   rintro a A ⟨t80,-⟩ ⟨t1,t4,t7,t8,t9,t10,t11,t12,-⟩
   refine wp_cond_true t80 ?_
   clear t80
   refine wp_seq ?_
   refine wi_ A (h8_ t1 t4 t7 t8 t9 t10 t11 t12) (rv_ 1 (.bool true) (fun a E=>execNot8 (b:=false) rfl (E _)) (rv_ 2 (.pointer (some ⟨g10,2,none⟩)) (fun a E=>execFh2 rfl (E _)) (rs_ 3 (fun a E=>?_))))
   refine stepS rfl rfl (execSm rfl (Or.inr (Or.inl rfl)) (E _) (E _) (Or.inr (Or.inl ⟨_,rfl⟩)) (hC_at F10).2.2.1 (frozen4 F10)) ⟨_,⟨_,rfl,rfl⟩,fun X18 hX=>?_⟩
   obtain ⟨BB,F4,FP,FM,FY,F10b⟩:Below V.heap.size V X18/\(X18.heap[g4]?=some (.cells (hC (.slice none 0 0) 0 false false 0 (.slice none 0 0)) 29))/\(X18.ownsRow V.heap.size 3 1 pkv k (intsL k (fun i=>((pk p (scr m sc) i:Nat):Int))))/\(RmM V.heap.size X18 q p cv tz r gv2 kv2 tv2 hv2 ow2)/\(X18.ownsRow V.heap.size 3 1 mv ml.length (intsL ml.length (caF ml)))/\(X18.heap[g10]?=some (.cells (hC pkv (mx p (scr m sc) k) true false 0 (.slice none 0 0)) 29)):=by subst hX; exact ⟨(BB).setCell hg10 _,(keepN19 F4 hne grC19),(ownG_T FP F10 (by decide) grC19),(FM.grow0 grC19 (fun b e=>by cases e; exact hoff.2.1)),(ownG_T FY F10 (by decide) grC19),hC_s2 F10⟩
   clear F10 hX E a
   refine rf_ [] (h8_ t1 t4 t7 t8 t9 t10 t11 t12) ?_
   rintro a A - ⟨t1,t4,t7,t8,t9,t10,t11,t12,-⟩
   refine wp_seq ?_
   refine wi_ A (h8_ t1 t4 t7 t8 t9 t10 t11 t12) (rv_ 6 (.pointer (some ⟨g10,3,none⟩)) (fun a E=>execFh3 rfl (E _)) (rs_ 7 (fun a E=>?_)))
   refine stepS rfl rfl (execSm rfl (Or.inr (Or.inl rfl)) (E _) (E _) (Or.inr (Or.inl ⟨_,rfl⟩)) (hC_at F10b).2.2.2.1 (frozen4 F10b)) ⟨_,⟨_,rfl,rfl⟩,fun X19 hX=>?_⟩
   obtain ⟨BB,F4,FP,FM,FY,F10c⟩:Below V.heap.size V X19/\(X19.heap[g4]?=some (.cells (hC (.slice none 0 0) 0 false false 0 (.slice none 0 0)) 29))/\(X19.ownsRow V.heap.size 3 1 pkv k (intsL k (fun i=>((pk p (scr m sc) i:Nat):Int))))/\(RmM V.heap.size X19 q p cv tz r gv2 kv2 tv2 hv2 ow2)/\(X19.ownsRow V.heap.size 3 1 mv ml.length (intsL ml.length (caF ml)))/\(X19.heap[g10]?=some (.cells (hC pkv (mx p (scr m sc) k) true false 0 (.slice none 0 0)) 29)):=by subst hX; exact ⟨(BB).setCell hg10 _,(keepN19 F4 hne grC19),(ownG_T FP F10b (by decide) grC19),(FM.grow0 grC19 (fun b e=>by cases e; exact hoff.2.1)),(ownG_T FY F10b (by decide) grC19),hC_s3 F10b⟩
   clear F10b hX E a
   refine rf_ [] (h6_ t1 t4 t7 t8 t9 t10) ?_
   rintro a A - ⟨t1,t4,t7,t8,t9,t10,-⟩
   refine wp_exit ?_
   repeat (first | with_reducible refine exit_then ?_ | with_reducible refine exit_past19 (by decide) ?_)
   refine exit_in ?_
   have hrun:Run p (scr m sc) k:=⟨hk,hgo,by rw [er,eml2]; exact Or.inr (by omega)⟩
   refine hE a X19 k gv2 kv2 tv2 hv2 ow2 pkv hrun hoff A t1 t4 t7 t8 t9 t10 BB (by rw [er]; exact FM) F4 ?_ FP
   rw [er,eml2,elv2,hlv,decide_eq_false hml]
   exact F10c
 refine wp_seq (wp_seq ?_)
 refine wi_ A (h8_ t1 t4 t7 t8 t9 t10 t11 t12) (rv_ 1 (.int .i64 ((ml.length:Nat):Int)) (fun a E=>execLenI (len:=ml.length) rfl (E _) (own_shpZ FY)) (rv_ 2 (.bool false) (fun a E=>execDec (exIeql3 (p:=((ml.length:Nat):Int)) (q:=0) rfl (E _) rfl) (decide_eq_false (by omega))) (rv_ 4 (.pointer (some ⟨g10,0,none⟩)) (fun a E=>execFh0 rfl (E _)) (rv_ 5 (pkv) (fun a E=>execLr rfl (Or.inr (Or.inr (Or.inl rfl))) (E _) (hC_at F10).1) (rv_ 6 (.int .i64 ((k:Nat):Int)) (fun a E=>execLenI (len:=k) rfl (E _) (own_shpZ FP)) (rv_ 7 (.bool false) (fun a E=>execDec (exIeql3 (p:=((k:Nat):Int)) (q:=65536) rfl (E _) rfl) (decide_eq_false (by omega))) (rf_ [(80,.bool false)] (h7_ t1 t4 t7 t8 t9 t10 t11) ?_)))))))
 rintro a A ⟨t80,-⟩ ⟨t1,t4,t7,t8,t9,t10,t11,-⟩
 refine wp_cond_false t80 (wp_skip ?_)
 clear t80
 have hcl:(chn ((scr m sc) k) ml.length) < ml.length:=chn_lt (by omega)
 obtain ⟨t,et⟩:∃ t,ml.getD (chn ((scr m sc) k) ml.length) 0=t:=⟨_,rfl⟩
 have htm:t ∈ mayL p r:=by rw [eml2,← et,List.getD_eq_getElem?_getD,List.getElem?_eq_getElem hcl]; exact List.getElem_mem hcl
 have htn:t < p.n:=List.mem_range.1 (List.mem_filter.1 htm).1
 have hmay:may p r t=true:=(List.mem_filter.1 htm).2
 have hpk:pk p (scr m sc) k=t:=by unfold pk; rw [er,eml2]; exact et
 have hst:rk p (scr m sc) (k+1)=stp p r t:=by show stp p (rk p (scr m sc) k) _=_; rw [er,eml2,et]
 obtain ⟨mb,mc,em,-,-⟩:=ownL_some9 FY (show 0 < ml.length by omega)
 subst em
 refine wp_seq ?_
 refine wi_ A (h7_ t1 t4 t7 t8 t9 t10 t11) (rv_ 2 (.pointer (some ⟨g10,0,none⟩)) (fun a E=>execFh0 rfl (E _)) (rv_ 3 (pkv) (fun a E=>execLr rfl (Or.inr (Or.inr (Or.inl rfl))) (E _) (hC_at F10).1) (rv_ 4 (.int .i64 ((k:Nat):Int)) (fun a E=>execLenI (len:=k) rfl (E _) (own_shpZ FP)) (rv_ 6 (.int .i64 ((ml.length:Nat):Int)) (fun a E=>execLenI (len:=ml.length) rfl (E _) ⟨_,_,rfl⟩) (rc_ 7 (rchosen sv m sc k ml.length XM (hS.on BB) (by omega) (by omega)) (cb_ fun X20 bQ=>?_))))))
 replace F4:=(on9 F4 bQ)
 replace F10:=(on9 F10 bQ)
 replace FP:=(ownD_below FP bQ)
 replace FM:=(FM.on bQ)
 replace FY:=(ownD_below FY bQ)
 replace BB:=BB.trans (bQ.mono BB.size)
 clear bQ
 refine rv_ 8 (.pointer (some ⟨mb,0+(chn ((scr m sc) k) ml.length),none⟩)) (fun a E=>execIdxN (k:=chn ((scr m sc) k) ml.length) rfl (E _) (E _) hcl) (rv_ 9 (.int .i64 ((t:Nat):Int)) (fun a E=>execLr rfl (Or.inl rfl) (E _) ((own_cellI FY hcl).1.trans (by rw [← et]; rfl))) (rf_ [(15,.int .i64 ((t:Nat):Int))] (h6_ t1 t4 t7 t8 t9 t10) ?_))
 rintro a A ⟨t15,-⟩ ⟨t1,t4,t7,t8,t9,t10,-⟩
 clear FY
 refine wp_seq ?_
 refine wi_ A (h7_ t1 t4 t7 t8 t9 t10 t15) (rc_ 2 (rstep V q p cv tz xz r gv2 kv2 tv2 hv2 ow2 X20 hp BB FM t k htn hok hB hk Flk hmay) fun e X21 hh=>?_)
 obtain ⟨he,⟨⟨tv3,hv3,ow3,hM3_,hl3_⟩,hs3_⟩,hb_⟩:=hh
 refine ⟨_,he,?_⟩
 obtain ⟨BB,F4,F10,FP,FM3,Fof3⟩:Below V.heap.size V X21/\(X21.heap[g4]?=some (.cells (hC (.slice none 0 0) 0 false false 0 (.slice none 0 0)) 29))/\(X21.heap[g10]?=some (.cells (hC pkv (mx p (scr m sc) k) false false 0 (.slice none 0 0)) 29))/\(X21.ownsRow V.heap.size 3 1 pkv k (intsL k (fun i=>((pk p (scr m sc) i:Nat):Int))))/\(RmM V.heap.size X21 q p cv tz (stp p r t) gv2 kv2 tv3 hv3 ow3)/\(OffL ow3 g4 g10 pkv):=⟨hb_,(bk_sv19 F4 hs3_ (fun w=>w hoff.1)),(bk_sv19 F10 hs3_ (fun w=>w hoff.2.1)),(own_sv19 FP hs3_ (fun b hb w=>w (hoff.2.2 b hb))),hM3_,⟨(hl3_ g4 (Array.getElem?_eq_some_iff.1 F4).1).trans hoff.1,(hl3_ g10 (Array.getElem?_eq_some_iff.1 F10).1).trans hoff.2.1,fun b hb=>(hl3_ b (FP.lt b hb).2).trans (hoff.2.2 b hb)⟩⟩
 clear FM
 refine rf_ [] (h7_ t1 t4 t7 t8 t9 t10 t15) ?_
 rintro a A - ⟨t1,t4,t7,t8,t9,t10,t15,-⟩
 have FM:=FM3
 clear FM3
 replace hoff:=Fof3
 clear Fof3
 refine wp_seq ?_
 obtain ⟨gs,eggs⟩:∃ z_:Nat,X21.heap.size=z_:=⟨_,rfl⟩
 refine wi_ A (h7_ t1 t4 t7 t8 t9 t10 t15) (rv_ 0 (.pointer (some ⟨g10,0,none⟩)) (fun a E=>execFh0 rfl (E _)) (rv_ 1 (pkv) (fun a E=>execLr rfl (Or.inr (Or.inr (Or.inl rfl))) (E _) (hC_at F10).1) (rs_ 3 (fun a E=>?_))))
 refine stepV rfl rfl (execBs1 rfl (E _)) ⟨.slice (some ⟨gs,0,none⟩) 1 1,⟨_,rfl,by subst eggs; rfl⟩,fun X22_1 hX=>?_⟩
 have bQ:Below X21.heap.size X21 X22_1:=by subst hX eggs; exact (belNew X21 _)
 have Fs:(X22_1.heap[gs]?=some (.cells #[.int .i64 ((t:Nat):Int)] 3)):=by subst hX eggs; exact heapNew X21 _
 replace F4:=(on9 F4 bQ)
 replace F10:=(on9 F10 bQ)
 replace FP:=(ownD_below FP bQ)
 replace FM:=(FM.on bQ)
 replace BB:=BB.trans (bQ.mono BB.size)
 clear bQ hX eggs E a
 refine rs_ 4 (fun a E=>?_)
 refine stepAppIP (f:=fun i=>((pk p (scr m sc) i:Nat):Int)) (z:=((t:Nat):Int)) rfl rfl rfl (E _) (E _) FP Fs (by omega) (BB).size fun p2 X22_2 own' gr hpl_=>⟨_,⟨_,rfl,rfl⟩,eqw ?_⟩
 obtain ⟨BB,F4,F10,FP2,FM4,Fof4⟩:Below V.heap.size V X22_2/\(X22_2.heap[g4]?=some (.cells (hC (.slice none 0 0) 0 false false 0 (.slice none 0 0)) 29))/\(X22_2.heap[g10]?=some (.cells (hC pkv (mx p (scr m sc) k) false false 0 (.slice none 0 0)) 29))/\(X22_2.ownsRow V.heap.size 3 1 p2 (k+1) (intsL (k+1) (fun i=>((pk p (scr m sc) i:Nat):Int))))/\(RmM V.heap.size X22_2 q p cv tz (stp p r t) gv2 kv2 tv3 hv3 (fun b=>if X22_1.heap.size<=b then 0 else ow3 b))/\(OffL (fun b=>if X22_1.heap.size<=b then 0 else ow3 b) g4 g10 p2):=⟨(BB).grown gr (BB).size (fun k_ hk_=>(FP.lt k_ hk_).1),(keep_over19 F4 FP gr (by decide)),(keep_over19 F10 FP gr (by decide)),(own_pk (f:=fun i=>((pk p (scr m sc) i:Nat):Int)) own' (by show _=((pk p (scr m sc) k:Nat):Int); rw [hpk])),(FM.relabs.grow0 gr (fun b e=>(if_neg (Nat.not_le.2 (FP.lt b e).2)).trans (hoff.2.2 b e))),⟨(if_neg (Nat.not_le.2 (Array.getElem?_eq_some_iff.1 F4).1)).trans hoff.1,(if_neg (Nat.not_le.2 (Array.getElem?_eq_some_iff.1 F10).1)).trans hoff.2.1,fun b hb=>(hpl_ b hb).elim (fun e=>(if_neg (Nat.not_le.2 (FP.lt b e).2)).trans (hoff.2.2 b e)) (fun e=>if_pos e)⟩⟩
 clear FP FM Fs E a
 refine rv_ 5 (.pointer (some ⟨g10,0,none⟩)) (fun a E=>execFh0 rfl (E _)) (rs_ 6 (fun a E=>?_))
 refine stepS rfl rfl (execSm rfl (Or.inr (Or.inr (Or.inl rfl))) (E _) (E _) (Or.inr (Or.inr (Or.inl (sl3 (own_shpZ FP2))))) (hC_at F10).1 (frozen4 F10)) ⟨_,⟨_,rfl,rfl⟩,fun X22 hX=>?_⟩
 obtain ⟨BB,F4,FP2,FM4,F10b⟩:Below V.heap.size V X22/\(X22.heap[g4]?=some (.cells (hC (.slice none 0 0) 0 false false 0 (.slice none 0 0)) 29))/\(X22.ownsRow V.heap.size 3 1 p2 (k+1) (intsL (k+1) (fun i=>((pk p (scr m sc) i:Nat):Int))))/\(RmM V.heap.size X22 q p cv tz (stp p r t) gv2 kv2 tv3 hv3 (fun b=>if X22_1.heap.size<=b then 0 else ow3 b))/\(X22.heap[g10]?=some (.cells (hC p2 (mx p (scr m sc) k) false false 0 (.slice none 0 0)) 29)):=by subst hX; exact ⟨(BB).setCell hg10 _,(keepN19 F4 hne grC19),(ownG_T FP2 F10 (by decide) grC19),(FM4.grow0 grC19 (fun b e=>by cases e; exact Fof4.2.1)),hC_s0 F10⟩
 clear F10 hX E a
 refine rf_ [] (h6_ t1 t4 t7 t8 t9 t10) ?_
 rintro a A - ⟨t1,t4,t7,t8,t9,t10,-⟩
 have FM:=FM4
 have FP:=FP2
 have F10:=F10b
 replace hoff:=Fof4
 clear FM4 FP2 F10b Fof4
 refine wp_seq ?_
 refine wi_ A (h6_ t1 t4 t7 t8 t9 t10) (rf_ [(16,.int .i64 ((0:Nat):Int))] (h6_ t1 t4 t7 t8 t9 t10) ?_)
 rintro a A ⟨t16,-⟩ ⟨t1,t4,t7,t8,t9,t10,-⟩
 have hB2:=rk_bnd hok (N:=k+1) (s:=(scr m sc)) (fun j hj=>by
  by_cases e:j=k
  ·rw [e,er,eml2]; exact hml
  ·exact hgo j (by omega)) (k+1) (Nat.le_refl _)
 rw [hst] at hB2
 have hcp:∀ i,i < p.d->((stp p r t).hd i).length<=1024:=fun i hi=>by have h1:=hB2.cp i hi; have h2:=hok.cap i hi; omega
 refine wp_seq ?_
 refine rlying V.heap.size q p cv tz sv (stp p r t) gv2 kv2 tv3 hv3 _ X22 g4 g10 _ FM hok hcp ?_ a A t1 t4 t7 t8 t9 t10 t16
 clear A t1 t4 t7 t8 t9 t10 t16 a
 intro a XN A t1 t4 t7 t8 t9 t10 t16 B11
 replace FM:=FM.on B11
 replace F4:=on9 F4 B11
 replace F10:=on9 F10 B11
 replace FP:=ownD_below FP B11
 replace BB:=BB.trans (B11.mono BB.size)
 clear B11
 refine wi_ A (h7_ t1 t4 t7 t8 t9 t10 t16) (rv_ 0 (.pointer (some ⟨g10,1,none⟩)) (fun a E=>execFh1 rfl (E _)) (rv_ 1 (.int .i64 ((mx p (scr m sc) k:Nat):Int)) (fun a E=>execLr rfl (Or.inl rfl) (E _) (hC_at F10).2.1) (rv_ 3 (.int .i64 ((max (mx p (scr m sc) k) (lyT (stp p r t) p.d):Nat):Int)) (fun a E=>execMaxN rfl (E _) (E _)) (rv_ 4 (.pointer (some ⟨g10,1,none⟩)) (fun a E=>execFh1 rfl (E _)) (rs_ 5 (fun a E=>?_))))))
 refine stepS rfl rfl (execSm rfl (Or.inl rfl) (E _) (E _) (Or.inl ⟨_,rfl⟩) (hC_at F10).2.1 (frozen4 F10)) ⟨_,⟨_,rfl,rfl⟩,fun X28 hX=>?_⟩
 obtain ⟨BB,FM,F4,FP,F10b⟩:Below V.heap.size V X28/\(RmM V.heap.size X28 q p cv tz (stp p r t) gv2 kv2 tv3 hv3 (fun b=>if X22_1.heap.size<=b then 0 else ow3 b))/\(X28.heap[g4]?=some (.cells (hC (.slice none 0 0) 0 false false 0 (.slice none 0 0)) 29))/\(X28.ownsRow V.heap.size 3 1 p2 (k+1) (intsL (k+1) (fun i=>((pk p (scr m sc) i:Nat):Int))))/\(X28.heap[g10]?=some (.cells (hC p2 (max (mx p (scr m sc) k) (lyT (stp p r t) p.d)) false false 0 (.slice none 0 0)) 29)):=by subst hX; exact ⟨(BB).setCell hg10 _,(FM.grow0 grC19 (fun b e=>by cases e; exact hoff.2.1)),(keepN19 F4 hne grC19),(ownG_T FP F10 (by decide) grC19),hC_s1 F10⟩
 clear F10 hX E a
 refine rf_ [] (h6_ t1 t4 t7 t8 t9 t10) ?_
 rintro a A - ⟨t1,t4,t7,t8,t9,t10,-⟩
 have emx:mx p (scr m sc) (k+1)=max (mx p (scr m sc) k) (lyT (stp p r t) p.d):=by show max _ (lyg p (rk p (scr m sc) (k+1)))=_; rw [hst]; rfl
 rw [← emx] at F10b
 rw [← hst] at FM
 have enp2:npk X28 g10=k+1:=npk_of F10b (own_shpZ FP)
 exact ⟨⟨k+1,gv2,kv2,tv3,hv3,_,p2,by omega,fun j hj=>by
  by_cases e:j=k
  ·rw [e,er,eml2]; exact hml
  ·exact hgo j (by omega),hoff,A,t1,t4,t7,t8,t9,t10,BB,FM,F4,F10b,FP⟩,by show 65536 - npk X28 g10 < 65536 - npk XR g10; rw [enp,enp2]; omega⟩
end Go.Proofs.Ytjjegmflllpknaa.Loo
