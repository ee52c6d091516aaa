import Derived.Test.YtjckkdjldnobmaaGreatDoorV8b
import Derived.Test.YtjckkdjldnobmaaGreatDoorB7l
import Derived.Test.YtjckkdjldnobmaaGreatDoorB7e
namespace Go.Proofs.YtjckkdjldnobmaaGreatDoor.Cas
open Go.RowKit Gf8 Aes By8 Cel Cf Tap Drw Dro Oni Rou
/- The reference's Submit. Written by tools/mkC8a.py. -/
def kyE (lk:Nat->Nat) (ep:Int):Nat->Nat
 | 0=>0
 | k+1=>if kyE lk ep k=0 then rkE (lk k) ep else kyE lk ep k
def suE (h hn:Nat) (lk:Nat->Nat) (ep:Int) (n:Nat):Nat:=if kyE lk ep h=0 then rwE h hn (fun _=>32) n else kyE lk ep h
def suN (h hn:Nat) (lk:Nat->Nat) (ep:Int) (n:Nat):Nat:=if suE h hn lk ep n=0 then 320 else 0
def suF (h:Nat) (mk:Nat->Nat->Nat) (ep:Int) (q:Nat->Nat->Nat) (n:Nat) (p:Nat->Nat):Nat->Nat:=rwF h (fun i=>rk (mk i) ep.toNat) q n p
theorem ky_stop {lk:Nat->Nat} {ep:Int} {i:Nat} (h0:kyE lk ep i=0) (h1:rkE (lk i) ep ≠ 0):∀ {h:Nat},i < h->kyE lk ep h=rkE (lk i) ep
 | 0,hi=>absurd hi (Nat.not_lt_zero i)
 | h+1,hi=>by
  unfold kyE
  by_cases e:i=h
  ·subst e
   rw [if_pos h0]
  ·have q:=ky_stop h0 h1 (h:=h) (by omega)
   rw [if_neg (by rw [q]; exact h1),q]
theorem ky_on {lk:Nat->Nat} {ep:Int} {i:Nat} (h0:kyE lk ep i=0) (h1:rkE (lk i) ep=0):kyE lk ep (i+1)=0:=by
 unfold kyE
 rw [if_pos h0,h1]
theorem su_stop {h hn n i:Nat} {lk:Nat->Nat} {ep:Int} (h0:kyE lk ep i=0) (h1:rkE (lk i) ep ≠ 0) (hi:i < h):suE h hn lk ep n=rkE (lk i) ep:=by
 unfold suE
 rw [ky_stop h0 h1 hi,if_neg h1]
theorem su_on {h hn n:Nat} {lk:Nat->Nat} {ep:Int} (h0:kyE lk ep h=0):suE h hn lk ep n=rwE h hn (fun _=>32) n:=if_pos h0
theorem suN_on {h hn n:Nat} {lk:Nat->Nat} {ep:Int} (h0:kyE lk ep h=0):suN h hn lk ep n=rwN h hn (fun _=>32) n:=by
 unfold suN rwN
 rw [su_on h0]
theorem suN_no {h hn n:Nat} {lk:Nat->Nat} {ep:Int} (h0:suE h hn lk ep n ≠ 0):suN h hn lk ep n=0:=if_neg h0
theorem rkN_on {l:Nat} {ep:Int} (h:rkE l ep=0):rkN l ep=32:=by
 unfold rkN
 rw [h]
 rfl
def TyB (W:World) (v:Value):Prop:=∀ (ad:Addr) (n c:Nat),v=.slice (some ad) n c->∃ cur,W.heap[ad.block]?=some (.cells cur 5)
structure Kys (W:World) (k:Nat) (y:Nat->Value) (key:Nat->Nat->Nat):Prop where
 sl:∀ i,i < k->SliceN W (y i) 32 (key i)
 ty:∀ i,i < k->TyB W (y i)
theorem TyB.on {W X:World} {v:Value} (h:TyB W v) (b:Below W.heap.size W X):TyB X v:=fun ad n c e=>by
 obtain ⟨cur,q⟩:=h ad n c e
 exact ⟨cur,by rw [b.block _ (Array.getElem?_eq_some_iff.1 q).1]; exact q⟩
theorem Kys.none (W:World) (y:Nat->Value) (key:Nat->Nat->Nat):Kys W 0 y key:=⟨fun i hi=>absurd hi (Nat.not_lt_zero i),fun i hi=>absurd hi (Nat.not_lt_zero i)⟩
theorem Kys.on {W X:World} {k:Nat} {y:Nat->Value} {key:Nat->Nat->Nat} (h:Kys W k y key) (b:Below W.heap.size W X):Kys X k y key:=⟨fun i hi=>(h.sl i hi).on b,fun i hi=>(h.ty i hi).on b⟩
theorem Kys.add {W:World} {k:Nat} {y:Nat->Value} {key:Nat->Nat->Nat} {r:Value} (h:Kys W k y key) (hs:SliceN W r 32 (key k)) (ht:TyB W r):Kys W (k+1) (updX y k r) key:=by
 refine ⟨fun i hi=>?_,fun i hi=>?_⟩
 ·by_cases e:i=k
  ·subst e; rw [updX_at]; exact hs
  ·rw [updX_lt _ _ (by omega)]; exact h.sl i (by omega)
 ·by_cases e:i=k
  ·subst e; rw [updX_at]; exact ht
  ·rw [updX_lt _ _ (by omega)]; exact h.ty i (by omega)
theorem Kys.grown {W X:World} {k n C:Nat} {y:Nat->Value} {key:Nat->Nat->Nat} {u:Value} {ys:List Value} (h:Kys W k y key) (hu:W.ownsRow C 24 1 u n ys) (hg:W.grownBy X u.ownBlock):Kys X k y key:=by
 have keep:∀ (b:Nat) (cur:Array Value),W.heap[b]?=some (.cells cur 5)->X.heap[b]?=W.heap[b]?:=fun b cur q=>hg.block b (Array.getElem?_eq_some_iff.1 q).1 (fun e=>by
  obtain ⟨c2,q2⟩:=own_typeL hu e.symm
  rw [q] at q2
  injection q2 with q3
  injection q3 with _ q5
  exact absurd q5 (by decide))
 refine ⟨fun i hi=>?_,fun i hi ad n c e=>?_⟩
 ·obtain ⟨⟨a,cap,e,h1,h2,h3⟩,hb⟩:=h.sl i hi
  refine ⟨⟨a,cap,e,h1,h2,fun h0=>?_⟩,hb⟩
  obtain ⟨b,off,rfl,hlt,hc⟩:=h3 h0
  obtain ⟨cur,q⟩:=h.ty i hi _ _ _ e
  refine ⟨b,off,rfl,Nat.lt_of_lt_of_le hlt hg.size,fun j hj=>?_⟩
  have k1:=keep b cur q
  rw [q] at k1
  rw [cell_of_row _ _ _ _ _ _ k1,← cell_of_row _ _ _ _ _ _ q]
  exact hc j hj
 ·obtain ⟨cur,q⟩:=h.ty i hi ad n c e
  exact ⟨cur,by rw [keep _ cur q]; exact q⟩
theorem keys_cells {W:World} {B k:Nat} {u:Value} {y:Nat->Value} {key:Nat->Nat->Nat} (hu:W.ownsRow B 24 1 u k (lL y k)) (h:Kys W k y key):Cells W u k y (fun _=>32) key:=by
 refine ⟨?_,h.sl,fun i hi l cc e=>?_,fun i hi=>by omega⟩
 ·rcases hu.2 with ⟨rfl,e⟩ | ⟨g,cap,cur,rfl,h1,h2,h3,h4,h5,h6⟩
  ·obtain rfl:k=0:=by
    cases k with
    | zero=>rfl
    | succ n=>simp at e
   exact ⟨none,0,rfl,Nat.le_refl _,by omega,fun q=>absurd q (Nat.lt_irrefl 0)⟩
  ·have hc:=hu.cells (g:=g) rfl
   refine ⟨_,cap,rfl,h3,by unfold maxLen at h4; omega,fun _=>⟨g,0,rfl,(Array.getElem?_eq_some_iff.1 h2).1,fun i hi=>?_⟩⟩
   have:=hc i (y i) (lL_get y k i hi)
   rw [Go.WideShapes.add_plain] at this
   exact this
 ·obtain ⟨⟨a,cap,e2,h1,h2,h3⟩,_⟩:=h.sl i hi
  rw [e] at e2
  injection e2 with e3
  obtain ⟨b,off,e4,_⟩:=h3 (by omega)
  rw [← e3] at e4
  cases e4
section
variable {o:Oper} {a:Act} {W:World}
theorem execAppLB {s x:Operand} {B n m g:Nat} {v:Value} {xs:List Value} {ls:Array Value}
  (ho:o.op=.call { callee:=.builtin .append,args:=#[s,x],argTypes:=#[22,22] }) (hs:a.eval s=v) (hx:a.eval x=.slice (some ⟨g,0,none⟩) m m) (hown:W.ownsRow B 24 1 v n xs) (hg:W.heap[g]?=some (.cells ls 24)) (hl:ls.size=m) (h1:∀ u ∈ ls.toList,u.oneCell'=true) (hn:(n+m) * 24<=140737488355328) (hB:B<=W.heap.size) :
  ∃ v' W',(execOp a.eval o).run Tryz.prog W=.ok (.value v') W'/\W'.ownsRow B 24 1 v' (n+m) (xs ++ ls.toList)/\W.grownBy W' v.ownBlock:=by
 obtain ⟨i,i1,i2,i3,i4⟩:=infoL8
 exact execAppO ho Tryz.underlying22 i1 i2 i3 i4 (by simp [Value.cells]) (by decide) hs hown hx (by rw [Array.length_toList,hl,Nat.mul_one]) (fun j u hu=>by
  rw [Go.WideShapes.add_plain,cell_of_row _ _ _ _ _ _ hg,Nat.zero_add]
  simpa using hu) h1 (by unfold maxLen; omega) hn hB
end
theorem stepAppLB {ops:Array Oper} {Q:Exit->Act->World->Prop} {K:Act->World->Prop} {j:Nat} {o:Oper} {a:Act} {W:World} {s x:Operand} {B n m g:Nat} {v:Value} {xs:List Value} {ls:Array Value} (hos:ops[j]?=some o) (hgd:Region.wanted o (yielded ops a.tmps)=true)
  (ho:o.op=.call { callee:=.builtin .append,args:=#[s,x],argTypes:=#[22,22] }) (hs:a.eval s=v) (hx:a.eval x=.slice (some ⟨g,0,none⟩) m m) (hown:W.ownsRow B 24 1 v n xs) (hg:W.heap[g]?=some (.cells ls 24)) (hl:ls.size=m) (h1:∀ u ∈ ls.toList,u.oneCell'=true) (hn:(n+m) * 24<=140737488355328) (hB:B<=W.heap.size)
  (hK:∀ v' W',W'.ownsRow B 24 1 v' (n+m) (xs ++ ls.toList)->W.grownBy W' v.ownBlock->K (a.put o.dst v') W'):wpOp Tryz.prog ops Q j K a W:=by
 obtain ⟨v',W',run,q1,q2⟩:=execAppLB ho hs hx hown hg hl h1 hn hB
 exact stepV hos hgd run (hK v' W' q1 q2)
theorem one25 {v:Value} {n:Nat} (h:∃ a c,v=.slice a n c):∀ u ∈ (#[v]:Array Value).toList,u.oneCell'=true:=by
 obtain ⟨a,c,rfl⟩:=h
 intro u hu
 simp at hu
 subst hu
 rfl
set_option maxRecDepth 100000 in
set_option maxHeartbeats 4000000 in
theorem rsubmit25 (h hn n:Nat) (ep:Int) (mv nv pv:Value) (xv:Nat->Value) (lk:Nat->Nat) (mk q:Nat->Nat->Nat) (p:Nat->Nat) (V:World) (hL:Ls V mv h xv lk mk) (hq:Nons V nv hn q) (hp:SliceZ V pv n p) (hb1:h * 24<=140737488351232) (hb2:hn<=140737488351232) (hb3:n<=140737488351232) :
  Calls Tryz.prog 5 #[mv,.int .i64 ep,nv,pv] V fun e w'=>(∃ r,e=.returned (.tuple #[r,.int .i64 ((suE h hn lk ep n:Nat):Int)])/\w'.ownsRow V.heap.size 5 1 r (suN h hn lk ep n) (bytesL (suN h hn lk ep n) (suF h mk ep q n p)))/\Below V.heap.size V w':=by
 go_enter Tryz.func5,Tryz.ntmps5
 refine wo_ 41 [(0,mv),(1,.int .i64 ep),(2,nv),(3,pv)] ?_
 rintro a A ⟨t0,t1,t2,t3,-⟩
 have BW:Below V.heap.size V V:=Below.refl _ _
 have BB:=BW
 refine wp_seq ?_
 refine wi_ A (h4_ t0 t1 t2 t3) (rf_ [] (h4_ t0 t1 t2 t3) ?_)
 rintro a A - ⟨t0,t1,t2,t3,-⟩
 refine wp_seq ?_
 refine wi_ A (h4_ t0 t1 t2 t3) (rf_ [(10,.slice none 0 0)] (h4_ t0 t1 t2 t3) ?_)
 rintro a A ⟨t10,-⟩ ⟨t0,t1,t2,t3,-⟩
 refine wp_seq (wp_seq ?_)
 refine wi_ A (h5_ t0 t1 t2 t3 t10) (rv_ 1 (.int .i64 ((h:Nat):Int)) (fun a E=>execLenLL rfl (E _) (hL.on BB).shp) (rf_ [(15,mv),(16,.int .i64 ((h:Nat):Int)),(17,.int .i64 ((0:Nat):Int))] (h5_ t0 t1 t2 t3 t10) ?_))
 rintro a A ⟨t15,t16,t17,-⟩ ⟨t0,t1,t2,t3,t10,-⟩
 have FU:(V.ownsRow V.heap.size 24 1 (.slice none 0 0) (0) (lL (fun _=>undef) (0))):=World.ownsRow_nil _ _ _ _
 have FK:(Kys V (0) (fun _=>undef) (fun i=>rk (mk i) ep.toNat)):=Kys.none _ _ _
 refine wp_block ?_
 refine wp_loop (fun a W=>∃ (i:Nat) (u:Value) (y:Nat->Value),i<=h/\(kyE lk ep i=0)/\(a.tmps.size=41/\a.defers=[])/\a.eval (.tmp 0)=mv/\a.eval (.tmp 1)=.int .i64 ep/\a.eval (.tmp 2)=nv/\a.eval (.tmp 3)=pv/\a.eval (.tmp 10)=u/\a.eval (.tmp 15)=mv/\a.eval (.tmp 16)=.int .i64 ((h:Nat):Int)/\a.eval (.tmp 17)=.int .i64 ((i:Nat):Int)/\Below V.heap.size V W/\(W.ownsRow V.heap.size 24 1 u (i) (lL y (i)))/\(Kys W (i) y (fun i=>rk (mk i) ep.toNat))) (fun a _=>h - (intOf (a.eval (.tmp 17))).toNat) ⟨0,.slice none 0 0,fun _=>undef,Nat.zero_le _,rfl,A,t0,t1,t2,t3,t10,t15,t16,t17,BB,FU,FK⟩ ?_
 rintro a XL3 ⟨i,u,y,hi,hky,A,t0,t1,t2,t3,t10,t15,t16,t17,BB,FU,FK⟩
 have esi:=t17
 refine wp_seq ?_
 refine wi_ A (h8_ t0 t1 t2 t3 t10 t15 t16 t17) (rv_ 0 (.bool (decide (i < h))) (fun a E=>execLtW (p:=i) (q:=h) rfl (E _) (E _)) (rf_ [(18,.bool (decide (i < h)))] (h8_ t0 t1 t2 t3 t10 t15 t16 t17) ?_))
 rintro a A ⟨t18,-⟩ ⟨t0,t1,t2,t3,t10,t15,t16,t17,-⟩
 refine wp_seq ?_
 by_cases lti:i < h
 ·rw [decide_eq_true lti] at t18
  refine wp_cond_true t18 (wp_skip ?_)
  clear t18
  refine wp_seq (wp_block ?_)
  refine wp_seq ?_
  refine wi_ A (h8_ t0 t1 t2 t3 t10 t15 t16 t17) (rv_ 0 (.pointer (some ⟨adB mv,adO mv+i,none⟩)) (fun a E=>execIdxLs (k:=i) (hL.on BB) rfl (E _) (E _) lti) (rv_ 1 (xv i) (fun a E=>execLdLs (k:=i) (hL.on BB) rfl (E _) lti) (rf_ [(12,xv i)] (h8_ t0 t1 t2 t3 t10 t15 t16 t17) ?_)))
  rintro a A ⟨t12,-⟩ ⟨t0,t1,t2,t3,t10,t15,t16,t17,-⟩
  refine wp_seq ?_
  refine wi_ A (h9_ t0 t1 t2 t3 t10 t15 t16 t17 t12) (rc_ 2 (rkey_fr (mk i) (lk i) ep (xv i) XL3 ((hL.on BB).cell i lti)) fun e X5 hh=>?_)
  obtain ⟨v13,he,hs_,hf_,hb⟩:=hh
  refine ⟨_,he,?_⟩
  have bQ:Below XL3.heap.size XL3 X5:=hb
  have FN:(SliceN X5 v13 (rkN (lk i) ep) (rk (mk i) ep.toNat)):=hs_
  have FT:(TyB X5 v13):=fun ad n c e_=>(hf_ ad n c e_).2
  replace FU:=(ownD_below FU bQ)
  replace FK:=(FK.on bQ)
  replace BB:=BB.trans (bQ.mono BB.size)
  clear bQ
  refine rf_ [(13,v13),(14,.int .i64 ((rkE (lk i) ep:Nat):Int))] (h8_ t0 t1 t2 t3 t10 t15 t16 t17) ?_
  rintro a A ⟨t13,t14,-⟩ ⟨t0,t1,t2,t3,t10,t15,t16,t17,-⟩
  refine wp_seq (wp_seq ?_)
  by_cases hk0:rkE (lk i) ep=0
  ·refine wi_ A (h10_ t0 t1 t2 t3 t10 t15 t16 t17 t13 t14) (rv_ 1 (.bool false) (fun a E=>execDec (execNeN (p:=rkE (lk i) ep) (q:=0) rfl (E _) rfl) (decide_eq_false (by omega))) (rf_ [(28,.bool false)] (h9_ t0 t1 t2 t3 t10 t15 t16 t17 t13) ?_))
   rintro a A ⟨t28,-⟩ ⟨t0,t1,t2,t3,t10,t15,t16,t17,t13,-⟩
   refine wp_cond_false t28 (wp_skip ?_)
   clear t28
   rw [rkN_on hk0] at FN
   have hsl:∃ a c,v13=.slice a 32 c:=by obtain ⟨a,c,e,_⟩:=FN.shape; exact ⟨a,c,e⟩
   have FK1:=FK.add FN FT
   clear FN FT FK
   obtain ⟨g32,egg32⟩:∃ z_:Nat,X5.heap.size=z_:=⟨_,rfl⟩
   refine wi_ A (h9_ t0 t1 t2 t3 t10 t15 t16 t17 t13) (rs_ 2 (fun a E=>?_))
   refine stepV rfl rfl (execBsL rfl (E _) (by obtain ⟨q1,q2,q3⟩:=hsl; exact ⟨q1,_,q2,q3⟩)) ⟨.slice (some ⟨g32,0,none⟩) 1 1,⟨_,rfl,by subst egg32; rfl⟩,fun X8_1 hX=>?_⟩
   have bQ:Below X5.heap.size X5 X8_1:=by subst hX egg32; exact (belNew X5 _)
   have Fg32:(X8_1.heap[g32]?=some (.cells #[v13] 24)):=by subst hX egg32; exact heapNew X5 _
   replace FU:=(ownD_below FU bQ)
   replace FK1:=(FK1.on bQ)
   replace BB:=BB.trans (bQ.mono BB.size)
   clear bQ hX egg32 E a
   refine rs_ 3 (fun a E=>?_)
   refine stepAppLB rfl rfl rfl (E _) (E _) FU Fg32 rfl (one25 hsl) (by omega) (BB).size fun v33 X8 own' gr=>⟨_,⟨_,rfl,rfl⟩,eqw ?_⟩
   obtain ⟨BB,FK1,FU1⟩:Below V.heap.size V X8/\(Kys X8 (i+1) (updX y i v13) (fun i=>rk (mk i) ep.toNat))/\(X8.ownsRow V.heap.size 24 1 v33 (i+1) (lL (updX y i v13) (i+1))):=⟨(BB).grown gr (BB).size (fun k hk=>(FU.lt k hk).1),(FK1.grown FU gr),(lL_upd y i _ ▸ own')⟩
   clear FU Fg32 E a
   refine rf_ [(10,v33)] (h7_ t0 t1 t2 t3 t15 t16 t17) ?_
   rintro a A ⟨t10,-⟩ ⟨t0,t1,t2,t3,t15,t16,t17,-⟩
   refine wi_ A (h8_ t0 t1 t2 t3 t10 t15 t16 t17) (rv_ 0 (.int .i64 ((i+1:Nat):Int)) (fun a E=>execAd8 (p:=i) (q:=1) rfl (E _) rfl (by omega)) (rf_ [(17,.int .i64 ((i+1:Nat):Int))] (h7_ t0 t1 t2 t3 t10 t15 t16) ?_))
   rintro a A ⟨t17,-⟩ ⟨t0,t1,t2,t3,t10,t15,t16,-⟩
   exact ⟨⟨i+1,v33,updX y i v13,lti,ky_on hky hk0,A,t0,t1,t2,t3,t10,t15,t16,t17,BB,FU1,FK1⟩,by show h - (intOf (a.eval (.tmp 17))).toNat < h - (intOf (Act.eval _ (.tmp 17))).toNat; rw [t17,esi]; show h - (i+1) < h - i; omega⟩
  ·refine wi_ A (h10_ t0 t1 t2 t3 t10 t15 t16 t17 t13 t14) (rv_ 1 (.bool true) (fun a E=>execDec (execNeN (p:=rkE (lk i) ep) (q:=0) rfl (E _) rfl) (decide_eq_true (by omega))) (rf_ [(28,.bool true)] (h10_ t0 t1 t2 t3 t10 t15 t16 t17 t13 t14) ?_))
   rintro a A ⟨t28,-⟩ ⟨t0,t1,t2,t3,t10,t15,t16,t17,t13,t14,-⟩
   refine wp_cond_true t28 ?_
   clear t28
   refine wp_seq ?_
   refine wi_ A (h10_ t0 t1 t2 t3 t10 t15 t16 t17 t13 t14) (rg_ [(8,.slice none 0 0),(9,.int .i64 ((rkE (lk i) ep:Nat):Int))] ?_)
   rintro a A ⟨t8,t9,-⟩
   have hE:suE h hn lk ep n=rkE (lk i) ep:=su_stop hky hk0 lti
   have hN:suN h hn lk ep n=0:=suN_no (by rw [hE]; exact hk0)
   refine wp_ret ?_
   repeat (first | with_reducible refine ret_in ?_ | with_reducible refine ret_then ?_)
   refine bodyPost_ret (results_tmp2 rfl _ _ _) A.2 ⟨⟨.slice none 0 0,?_,?_⟩,BB⟩
   ·show Ending.returned (.tuple #[a.eval (.tmp 8),a.eval (.tmp 9)])=_
    rw [t8,t9]
    rw [hE]
   ·rw [hN]
    exact World.ownsRow_nil _ _ _ _
 ·rw [decide_eq_false lti] at t18
  refine wp_cond_false t18 ?_
  refine wp_exit ?_
  first | with_reducible refine exit_in ?_ | with_reducible refine exit_then (exit_in ?_) | with_reducible refine exit_then (exit_then (exit_in ?_)) | refine exit_in ?_ | refine exit_then (exit_in ?_) | refine exit_then (exit_then (exit_in ?_))
  clear t18 esi
  obtain rfl:i=h:=by omega
  refine wp_seq ?_
  refine wi_ A (h8_ t0 t1 t2 t3 t10 t15 t16 t17) (rc_ 3 (refwrap_any u nv pv i hn n y (fun _=>32) (fun i=>rk (mk i) ep.toNat) q p XL3 (keys_cells FU FK) (hq.on BB) (hp.on BB) (by omega) hb2 hb3) fun e X10 hh=>?_)
  obtain ⟨v39,he,hk,hb⟩:=hh
  refine ⟨_,he,?_⟩
  have bQ:Below XL3.heap.size XL3 X10:=hb
  have FR:(X10.ownsRow V.heap.size 5 1 v39 (rwN i hn (fun _=>32) n) (bytesL (rwN i hn (fun _=>32) n) (rwF i (fun i=>rk (mk i) ep.toNat) q n p))):=own_base hk (BB).size
  replace FU:=(ownD_below FU bQ)
  replace FK:=(FK.on bQ)
  replace BB:=BB.trans (bQ.mono BB.size)
  clear bQ
  refine rg_ [(8,v39),(9,.int .i64 ((rwE i hn (fun _=>32) n:Nat):Int))] ?_
  rintro a A ⟨t8,t9,-⟩
  refine wp_ret ?_
  refine bodyPost_ret (results_tmp2 rfl _ _ _) A.2 ⟨⟨v39,?_,?_⟩,BB⟩
  ·show Ending.returned (.tuple #[a.eval (.tmp 8),a.eval (.tmp 9)])=_
   rw [t8,t9]
   rw [su_on hky]
  ·rw [suN_on hky]
   exact FR
end Go.Proofs.YtjckkdjldnobmaaGreatDoor.Cas
