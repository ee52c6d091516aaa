import Derived.Test.YtjckkdjldnobmaaGreatDoorC8b
import Derived.Test.YtjckkdjldnobmaaGreatDoorB7d
import Derived.Test.YtjckkdjldnobmaaGreatDoorB7g
namespace Go.Proofs.YtjckkdjldnobmaaGreatDoor.Cas
open Go.RowKit Gf8 Aes By8 Cel Cf Tap Drw Dro Oni Rou
/- The landed cascade: keysOf, Submit; New and Round of none. Written by tools/mkC8g.py. -/
theorem own_tyB {W:World} {B n:Nat} {v:Value} {xs:List Value} (h:W.ownsRow B 5 1 v n xs):TyB W v:=fun ad m c e=>by
 rcases h.2 with ⟨rfl,_⟩ | ⟨g,cap,cur,rfl,h1,h2,_⟩
 ·cases e
 ·cases e
  exact ⟨cur,h2⟩
theorem ls_none (V:World):Ls V (.slice none 0 0) 0 (fun _=>undef) (fun _=>0) (fun _ _=>0):=⟨⟨none,0,rfl,Nat.le_refl _,by omega,fun h=>absurd h (Nat.lt_irrefl 0)⟩,fun i hi=>absurd hi (Nat.not_lt_zero i),fun i hi=>absurd hi (Nat.not_lt_zero i),fun i hi=>absurd hi (Nat.not_lt_zero i)⟩
theorem ischain0 (u:Value) (V:World) (hu:∃ a c,u=.slice a 0 c):Calls Tryz.prog 29 #[u] V fun e w'=>e=.returned (.bool false)/\w'=V:=(ischain_any u 0 V hu (by omega)).mono fun _ _ h=>⟨h.1,h.2⟩
section
variable {o:Oper} {a:Act} {w:World}
theorem execPqC0 {x:Operand} (ho:o.op=.binOp .eql 41 x (.const (.pointer none)) 41) (hx:a.eval x=.pointer none):(execOp a.eval o).run Tryz.prog w=.ok (.value (.bool true)) w:=by
 unfold execOp
 simp only [ho,hx]
 simp [go_sem]
theorem execLenCf {x:Operand} (ho:o.op=.call { callee:=.builtin .len,args:=#[x],argTypes:=#[63] }) (hx:a.eval x=.slice none 0 0):(execOp a.eval o).run Tryz.prog w=.ok (.value (.int .i64 ((0:Nat):Int))) w:=by
 unfold execOp
 simp only [ho,resolve,invoke,builtin,List.map_toArray,List.map_cons,List.map_nil,hx]
 simp [go_sem]
end
set_option maxRecDepth 100000 in
set_option maxHeartbeats 4000000 in
theorem pnew0 (V:World) :
  Calls Tryz.prog 11 #[.slice none 0 0] V fun e w'=>e=.returned (.tuple #[.pointer none,.int .i64 ((80:Nat):Int)])/\Below V.heap.size V w':=by
 go_enter Tryz.func11,Tryz.ntmps11
 refine wo_ 47 [(0,.slice none 0 0)] ?_
 rintro a A ⟨t0,-⟩
 have BW:Below V.heap.size V V:=Below.refl _ _
 have BB:=BW
 refine wp_seq ?_
 refine wi_ A (h1_ t0) (rf_ [] (h1_ t0) ?_)
 rintro a A - ⟨t0,-⟩
 refine wp_seq (wp_seq ?_)
 refine wi_ A (h1_ t0) (rv_ 1 (.int .i64 ((0:Nat):Int)) (fun a E=>execLenCf rfl (E _)) (rv_ 2 (.bool true) (fun a E=>execDec (execLtW (p:=0) (q:=1) rfl (E _) rfl) (decide_eq_true (by omega))) (rg_ [(16,.bool true)] ?_)))
 rintro a A ⟨t16,-⟩
 refine wp_cond_true t16 ?_
 clear t16
 refine wp_seq ?_
 refine wi_ A h0_ (rg_ [(2,.pointer none),(3,.int .i64 ((80:Nat):Int))] ?_)
 rintro a A ⟨t2,t3,-⟩
 refine wp_ret ?_
 repeat (first | with_reducible refine ret_in ?_ | with_reducible refine ret_then ?_)
 refine bodyPost_ret (results_tmp2 rfl _ _ _) A.2 ⟨?_,BB⟩
 show Ending.returned (.tuple #[a.eval (.tmp 2),a.eval (.tmp 3)])=_
 rw [t2,t3]
set_option maxRecDepth 100000 in
set_option maxHeartbeats 4000000 in
theorem pround25 (en:Int) (rv tv sv:Value) (V:World) :
  Calls Tryz.prog 12 #[.pointer none,.int .i64 en,rv,tv,sv] V fun e w'=>e=.returned (.slice none 0 0)/\Below V.heap.size V w':=by
 go_enter Tryz.func12,Tryz.ntmps12
 refine wo_ 46 [(0,.pointer none)] ?_
 rintro a A ⟨t0,-⟩
 have BW:Below V.heap.size V V:=Below.refl _ _
 have BB:=BW
 refine wp_seq ?_
 refine wi_ A (h1_ t0) (rf_ [] (h1_ t0) ?_)
 rintro a A - ⟨t0,-⟩
 refine wp_seq (wp_seq ?_)
 refine wi_ A (h1_ t0) (rv_ 1 (.bool true) (fun a E=>execPqC0 rfl (E _)) (rg_ [(16,.bool true)] ?_))
 rintro a A ⟨t16,-⟩
 refine wp_cond_true t16 ?_
 clear t16
 refine wp_seq ?_
 refine wi_ A h0_ (rg_ [(10,.slice none 0 0)] ?_)
 rintro a A ⟨t10,-⟩
 refine wp_ret ?_
 repeat (first | with_reducible refine ret_in ?_ | with_reducible refine ret_then ?_)
 refine bodyPost_ret (results_tmp rfl _ _ _) A.2 ⟨?_,BB⟩
 show Ending.returned (a.eval (.tmp 10))=_
 rw [t10]
set_option maxRecDepth 100000 in
set_option maxHeartbeats 4000000 in
theorem pkeys (h:Nat) (ep:Int) (mv:Value) (xv:Nat->Value) (lk:Nat->Nat) (mk:Nat->Nat->Nat) (V:World) (hL:Ls V mv h xv lk mk) (hb1:h * 24<=140737488351232) (hK:∀ i,i < h->∀ X:World,Below V.heap.size V X->Calls Tryz.prog 28 #[xv i,.int .i64 ep] X fun e w'=>∃ r,e=.returned (.tuple #[r,.int .i64 (rkE (lk i) ep:Nat)])/\w'.ownsRow X.heap.size 5 1 r (rkN (lk i) ep) (bytesL (rkN (lk i) ep) (rk (mk i) ep.toNat))/\Below X.heap.size X w') :
  Calls Tryz.prog 15 #[mv,.int .i64 ep] V fun e w'=>(∃ r y,e=.returned (.tuple #[r,.int .i64 ((kyE lk ep h:Nat):Int)])/\(kyE lk ep h=0->w'.ownsRow V.heap.size 24 1 r h (lL y h)/\Kys w' h y (fun i=>rk (mk i) ep.toNat)))/\Below V.heap.size V w':=by
 go_enter Tryz.func15,Tryz.ntmps15
 refine wo_ 32 [(0,mv),(1,.int .i64 ep)] ?_
 rintro a A ⟨t0,t1,-⟩
 have BW:Below V.heap.size V V:=Below.refl _ _
 have BB:=BW
 refine wp_seq ?_
 refine wi_ A (h2_ t0 t1) (rf_ [] (h2_ t0 t1) ?_)
 rintro a A - ⟨t0,t1,-⟩
 refine wp_seq ?_
 refine wi_ A (h2_ t0 t1) (rf_ [(6,.slice none 0 0)] (h2_ t0 t1) ?_)
 rintro a A ⟨t6,-⟩ ⟨t0,t1,-⟩
 refine wp_seq (wp_seq ?_)
 refine wi_ A (h3_ t0 t1 t6) (rv_ 1 (.int .i64 ((h:Nat):Int)) (fun a E=>execLenLL rfl (E _) (hL.on BB).shp) (rf_ [(11,mv),(12,.int .i64 ((h:Nat):Int)),(13,.int .i64 ((0:Nat):Int))] (h3_ t0 t1 t6) ?_))
 rintro a A ⟨t11,t12,t13,-⟩ ⟨t0,t1,t6,-⟩
 have FU:(V.ownsRow V.heap.size 24 1 (.slice none 0 0) (0) (lL (fun _=>undef) (0))):=World.ownsRow_nil _ _ _ _
 have FK:(Kys V (0) (fun _=>undef) (fun i=>rk (mk i) ep.toNat)):=Kys.none _ _ _
 refine wp_block ?_
 refine wp_loop (fun a W=>∃ (i:Nat) (u:Value) (y:Nat->Value),i<=h/\(kyE lk ep i=0)/\(a.tmps.size=32/\a.defers=[])/\a.eval (.tmp 0)=mv/\a.eval (.tmp 1)=.int .i64 ep/\a.eval (.tmp 6)=u/\a.eval (.tmp 11)=mv/\a.eval (.tmp 12)=.int .i64 ((h:Nat):Int)/\a.eval (.tmp 13)=.int .i64 ((i:Nat):Int)/\Below V.heap.size V W/\(W.ownsRow V.heap.size 24 1 u (i) (lL y (i)))/\(Kys W (i) y (fun i=>rk (mk i) ep.toNat))) (fun a _=>h - (intOf (a.eval (.tmp 13))).toNat) ⟨0,.slice none 0 0,fun _=>undef,Nat.zero_le _,rfl,A,t0,t1,t6,t11,t12,t13,BB,FU,FK⟩ ?_
 rintro a XL3 ⟨i,u,y,hi,hky,A,t0,t1,t6,t11,t12,t13,BB,FU,FK⟩
 have esi:=t13
 refine wp_seq ?_
 refine wi_ A (h6_ t0 t1 t6 t11 t12 t13) (rv_ 0 (.bool (decide (i < h))) (fun a E=>execLtW (p:=i) (q:=h) rfl (E _) (E _)) (rf_ [(14,.bool (decide (i < h)))] (h6_ t0 t1 t6 t11 t12 t13) ?_))
 rintro a A ⟨t14,-⟩ ⟨t0,t1,t6,t11,t12,t13,-⟩
 refine wp_seq ?_
 by_cases lti:i < h
 ·rw [decide_eq_true lti] at t14
  refine wp_cond_true t14 (wp_skip ?_)
  clear t14
  refine wp_seq (wp_block ?_)
  refine wp_seq ?_
  refine wi_ A (h6_ t0 t1 t6 t11 t12 t13) (rv_ 0 (.pointer (some ⟨adB mv,adO mv+i,none⟩)) (fun a E=>execIdxLs (k:=i) (hL.on BB) rfl (E _) (E _) lti) (rv_ 1 (xv i) (fun a E=>execLdLs (k:=i) (hL.on BB) rfl (E _) lti) (rf_ [(8,xv i)] (h6_ t0 t1 t6 t11 t12 t13) ?_)))
  rintro a A ⟨t8,-⟩ ⟨t0,t1,t6,t11,t12,t13,-⟩
  refine wp_seq ?_
  refine wi_ A (h7_ t0 t1 t6 t11 t12 t13 t8) (rc_ 2 (hK i lti XL3 BB) fun e X5 hh=>?_)
  obtain ⟨v9,he,hk_,hb⟩:=hh
  refine ⟨_,he,?_⟩
  have bQ:Below XL3.heap.size XL3 X5:=hb
  have FN:(SliceN X5 v9 (rkN (lk i) ep) (rk (mk i) ep.toNat)):=own_slice hk_ (fun j _=>rk_lt _ _ j)
  have FT:(TyB X5 v9):=own_tyB hk_
  replace FU:=(ownD_below FU bQ)
  replace FK:=(FK.on bQ)
  replace BB:=BB.trans (bQ.mono BB.size)
  clear bQ
  refine rf_ [(9,v9),(10,.int .i64 ((rkE (lk i) ep:Nat):Int))] (h6_ t0 t1 t6 t11 t12 t13) ?_
  rintro a A ⟨t9,t10,-⟩ ⟨t0,t1,t6,t11,t12,t13,-⟩
  refine wp_seq (wp_seq ?_)
  by_cases hk0:rkE (lk i) ep=0
  ·refine wi_ A (h8_ t0 t1 t6 t11 t12 t13 t9 t10) (rv_ 1 (.bool false) (fun a E=>execDec (execNeE (p:=rkE (lk i) ep) (q:=0) rfl (E _) rfl) (decide_eq_false (by omega))) (rf_ [(24,.bool false)] (h7_ t0 t1 t6 t11 t12 t13 t9) ?_))
   rintro a A ⟨t24,-⟩ ⟨t0,t1,t6,t11,t12,t13,t9,-⟩
   refine wp_cond_false t24 (wp_skip ?_)
   clear t24
   rw [rkN_on hk0] at FN
   have hsl:∃ a c,v9=.slice a 32 c:=by obtain ⟨a,c,e,_⟩:=FN.shape; exact ⟨a,c,e⟩
   have FK1:=FK.add FN FT
   clear FN FT FK
   obtain ⟨g28,egg28⟩:∃ z_:Nat,X5.heap.size=z_:=⟨_,rfl⟩
   refine wi_ A (h7_ t0 t1 t6 t11 t12 t13 t9) (rs_ 2 (fun a E=>?_))
   refine stepV rfl rfl (Cf.execBsL rfl (E _) (by obtain ⟨q1,q2,q3⟩:=hsl; exact ⟨q1,_,q2,q3⟩)) ⟨.slice (some ⟨g28,0,none⟩) 1 1,⟨_,rfl,by subst egg28; rfl⟩,fun X8_1 hX=>?_⟩
   have bQ:Below X5.heap.size X5 X8_1:=by subst hX egg28; exact (belNew X5 _)
   have Fg28:(X8_1.heap[g28]?=some (.cells #[v9] 24)):=by subst hX egg28; exact heapNew X5 _
   replace FU:=(ownD_below FU bQ)
   replace FK1:=(FK1.on bQ)
   replace BB:=BB.trans (bQ.mono BB.size)
   clear bQ hX egg28 E a
   refine rs_ 3 (fun a E=>?_)
   refine stepAppLB rfl rfl rfl (E _) (E _) FU Fg28 rfl (one25 hsl) (by omega) (BB).size fun v29 X8 own' gr=>⟨_,⟨_,rfl,rfl⟩,eqw ?_⟩
   obtain ⟨BB,FK1,FU1⟩:Below V.heap.size V X8/\(Kys X8 (i+1) (updX y i v9) (fun i=>rk (mk i) ep.toNat))/\(X8.ownsRow V.heap.size 24 1 v29 (i+1) (lL (updX y i v9) (i+1))):=⟨(BB).grown gr (BB).size (fun k hk=>(FU.lt k hk).1),(FK1.grown FU gr),(lL_upd y i _ ▸ own')⟩
   clear FU Fg28 E a
   refine rf_ [(6,v29)] (h5_ t0 t1 t11 t12 t13) ?_
   rintro a A ⟨t6,-⟩ ⟨t0,t1,t11,t12,t13,-⟩
   refine wi_ A (h6_ t0 t1 t6 t11 t12 t13) (rv_ 0 (.int .i64 ((i+1:Nat):Int)) (fun a E=>execAd8 (p:=i) (q:=1) rfl (E _) rfl (by omega)) (rf_ [(13,.int .i64 ((i+1:Nat):Int))] (h5_ t0 t1 t6 t11 t12) ?_))
   rintro a A ⟨t13,-⟩ ⟨t0,t1,t6,t11,t12,-⟩
   exact ⟨⟨i+1,v29,updX y i v9,lti,ky_on hky hk0,A,t0,t1,t6,t11,t12,t13,BB,FU1,FK1⟩,by show h - (intOf (a.eval (.tmp 13))).toNat < h - (intOf (Act.eval _ (.tmp 13))).toNat; rw [t13,esi]; show h - (i+1) < h - i; omega⟩
  ·refine wi_ A (h8_ t0 t1 t6 t11 t12 t13 t9 t10) (rv_ 1 (.bool true) (fun a E=>execDec (execNeE (p:=rkE (lk i) ep) (q:=0) rfl (E _) rfl) (decide_eq_true (by omega))) (rf_ [(24,.bool true)] (h8_ t0 t1 t6 t11 t12 t13 t9 t10) ?_))
   rintro a A ⟨t24,-⟩ ⟨t0,t1,t6,t11,t12,t13,t9,t10,-⟩
   refine wp_cond_true t24 ?_
   clear t24
   refine wp_seq ?_
   refine wi_ A (h8_ t0 t1 t6 t11 t12 t13 t9 t10) (rg_ [(4,.slice none 0 0),(5,.int .i64 ((rkE (lk i) ep:Nat):Int))] ?_)
   rintro a A ⟨t4,t5,-⟩
   have hE:kyE lk ep h=rkE (lk i) ep:=ky_stop hky hk0 lti
   refine wp_ret ?_
   repeat (first | with_reducible refine ret_in ?_ | with_reducible refine ret_then ?_)
   refine bodyPost_ret (results_tmp2 rfl _ _ _) A.2 ⟨⟨.slice none 0 0,fun _=>undef,?_,fun q=>absurd (hE.symm.trans q) hk0⟩,BB⟩
   show Ending.returned (.tuple #[a.eval (.tmp 4),a.eval (.tmp 5)])=_
   rw [t4,t5]
   rw [hE]
 ·rw [decide_eq_false lti] at t14
  refine wp_cond_false t14 ?_
  refine wp_exit ?_
  first | with_reducible refine exit_in ?_ | with_reducible refine exit_then (exit_in ?_) | with_reducible refine exit_then (exit_then (exit_in ?_)) | refine exit_in ?_ | refine exit_then (exit_in ?_) | refine exit_then (exit_then (exit_in ?_))
  clear t14 esi
  obtain rfl:i=h:=by omega
  refine wp_seq ?_
  refine wi_ A (h6_ t0 t1 t6 t11 t12 t13) (rg_ [(4,u),(5,.int .i64 ((0:Nat):Int))] ?_)
  rintro a A ⟨t4,t5,-⟩
  refine wp_ret ?_
  refine bodyPost_ret (results_tmp2 rfl _ _ _) A.2 ⟨⟨u,y,?_,fun _=>⟨FU,FK⟩⟩,BB⟩
  show Ending.returned (.tuple #[a.eval (.tmp 4),a.eval (.tmp 5)])=_
  rw [t4,t5]
  rw [hky]
set_option maxRecDepth 100000 in
set_option maxHeartbeats 4000000 in
theorem psubH (h hn n:Nat) (ep:Int) (mv nv pv:Value) (xv:Nat->Value) (lk:Nat->Nat) (mk q:Nat->Nat->Nat) (p:Nat->Nat) (V:World) (hL:Ls V mv h xv lk mk) (hb1:h * 24<=140737488351232) (hK:∀ i,i < h->∀ X:World,Below V.heap.size V X->Calls Tryz.prog 28 #[xv i,.int .i64 ep] X fun e w'=>∃ r,e=.returned (.tuple #[r,.int .i64 (rkE (lk i) ep:Nat)])/\w'.ownsRow X.heap.size 5 1 r (rkN (lk i) ep) (bytesL (rkN (lk i) ep) (rk (mk i) ep.toNat))/\Below X.heap.size X w') (hW:∀ (u:Value) (y:Nat->Value) (X:World),Below V.heap.size V X->Cells X u h y (fun _=>32) (fun i=>rk (mk i) ep.toNat)->Calls Tryz.prog 16 #[u,nv,pv] X fun e w'=>∃ r,e=.returned (.tuple #[r,.int .i64 (rwE h hn (fun _=>32) n:Nat)])/\w'.ownsRow X.heap.size 5 1 r (rwN h hn (fun _=>32) n) (bytesL (rwN h hn (fun _=>32) n) (rwF h (fun i=>rk (mk i) ep.toNat) q n p))/\Below X.heap.size X w') :
  Calls Tryz.prog 6 #[mv,.int .i64 ep,nv,pv] V fun e w'=>(∃ r,e=.returned (.tuple #[r,.int .i64 ((suE h hn lk ep n:Nat):Int)])/\w'.ownsRow V.heap.size 5 1 r (suN h hn lk ep n) (bytesL (suN h hn lk ep n) (suF h mk ep q n p)))/\Below V.heap.size V w':=by
 go_enter Tryz.func6,Tryz.ntmps6
 refine wo_ 27 [(0,mv),(1,.int .i64 ep),(2,nv),(3,pv)] ?_
 rintro a A ⟨t0,t1,t2,t3,-⟩
 have BW:Below V.heap.size V V:=Below.refl _ _
 have BB:=BW
 refine wp_seq ?_
 refine wi_ A (h4_ t0 t1 t2 t3) (rf_ [] (h4_ t0 t1 t2 t3) ?_)
 rintro a A - ⟨t0,t1,t2,t3,-⟩
 refine wp_seq ?_
 refine wi_ A (h4_ t0 t1 t2 t3) (rc_ 2 (pkeys h ep mv xv lk mk V (hL.on BB) hb1 (fun i hi Y b=>hK i hi Y ((BB).trans (b.mono (BB).size)))) fun e X1 hh=>?_)
 obtain ⟨⟨v10,y10,he,hk_⟩,hb⟩:=hh
 refine ⟨_,he,?_⟩
 have bQ:Below V.heap.size V X1:=hb
 have FK:((kyE lk ep h=0->X1.ownsRow V.heap.size 24 1 v10 h (lL y10 h)/\Kys X1 h y10 (fun i=>rk (mk i) ep.toNat))):=fun q_=>⟨ownD_base (hk_ q_).1 (BB).size,(hk_ q_).2⟩
 replace BB:=BB.trans (bQ.mono BB.size)
 clear bQ
 refine rf_ [(10,v10),(11,.int .i64 ((kyE lk ep h:Nat):Int))] (h2_ t2 t3) ?_
 rintro a A ⟨t10,t11,-⟩ ⟨t2,t3,-⟩
 refine wp_seq (wp_seq ?_)
 by_cases hk0:kyE lk ep h=0
 ·refine wi_ A (h4_ t2 t3 t10 t11) (rv_ 1 (.bool false) (fun a E=>execDec (execNeE (p:=kyE lk ep h) (q:=0) rfl (E _) rfl) (decide_eq_false (by omega))) (rf_ [(19,.bool false)] (h3_ t2 t3 t10) ?_))
  rintro a A ⟨t19,-⟩ ⟨t2,t3,t10,-⟩
  refine wp_cond_false t19 (wp_skip ?_)
  clear t19
  obtain ⟨FO,FY⟩:=FK hk0
  clear FK
  refine wp_seq ?_
  refine wi_ A (h3_ t2 t3 t10) (rc_ 3 (hW v10 y10 X1 BB (keys_cells FO FY)) fun e X4 hh=>?_)
  obtain ⟨v25,he,hk_,hb⟩:=hh
  refine ⟨_,he,?_⟩
  have bQ:Below X1.heap.size X1 X4:=hb
  have FR:(X4.ownsRow V.heap.size 5 1 v25 (rwN h hn (fun _=>32) n) (bytesL (rwN h hn (fun _=>32) n) (rwF h (fun i=>rk (mk i) ep.toNat) q n p))):=own_base hk_ (BB).size
  replace FO:=(ownD_below FO bQ)
  replace FY:=(FY.on bQ)
  replace BB:=BB.trans (bQ.mono BB.size)
  clear bQ
  refine rg_ [(8,v25),(9,.int .i64 ((rwE h hn (fun _=>32) n:Nat):Int))] ?_
  rintro a A ⟨t8,t9,-⟩
  refine wp_ret ?_
  refine bodyPost_ret (results_tmp2 rfl _ _ _) A.2 ⟨⟨v25,?_,?_⟩,BB⟩
  ·show Ending.returned (.tuple #[a.eval (.tmp 8),a.eval (.tmp 9)])=_
   rw [t8,t9]
   rw [su_on hk0]
  ·rw [suN_on hk0]
   exact FR
 ·refine wi_ A (h4_ t2 t3 t10 t11) (rv_ 1 (.bool true) (fun a E=>execDec (execNeE (p:=kyE lk ep h) (q:=0) rfl (E _) rfl) (decide_eq_true (by omega))) (rf_ [(19,.bool true)] (h1_ t11) ?_))
  rintro a A ⟨t19,-⟩ ⟨t11,-⟩
  refine wp_cond_true t19 ?_
  clear t19
  refine wp_seq ?_
  refine wi_ A (h1_ t11) (rg_ [(8,.slice none 0 0),(9,.int .i64 ((kyE lk ep h:Nat):Int))] ?_)
  rintro a A ⟨t8,t9,-⟩
  have hE:suE h hn lk ep n=kyE lk ep h:=if_neg hk0
  have hN:suN h hn lk ep n=0:=suN_no (by rw [hE]; exact hk0)
  refine wp_ret ?_
  repeat (first | with_reducible refine ret_in ?_ | with_reducible refine ret_then ?_)
  refine bodyPost_ret (results_tmp2 rfl _ _ _) A.2 ⟨⟨.slice none 0 0,?_,?_⟩,BB⟩
  ·show Ending.returned (.tuple #[a.eval (.tmp 8),a.eval (.tmp 9)])=_
   rw [t8,t9]
   rw [hE]
  ·rw [hN]
   exact World.ownsRow_nil _ _ _ _
set_option maxRecDepth 100000 in
set_option maxHeartbeats 4000000 in
theorem pwrap0 (u nv pv:Value) (V:World) (hu:∃ a c,u=.slice a 0 c) :
  Calls Tryz.prog 16 #[u,nv,pv] V fun e w'=>(∃ r,e=.returned (.tuple #[r,.int .i64 ((80:Nat):Int)])/\w'.ownsRow V.heap.size 5 1 r 0 (bytesL 0 (fun _=>0)))/\Below V.heap.size V w':=by
 go_enter Tryz.func16,Tryz.ntmps16
 refine wo_ 40 [(0,u),(1,nv),(2,pv)] ?_
 rintro a A ⟨t0,t1,t2,-⟩
 have BW:Below V.heap.size V V:=Below.refl _ _
 have BB:=BW
 refine wp_seq ?_
 refine wi_ A (h3_ t0 t1 t2) (rf_ [] (h1_ t0) ?_)
 rintro a A - ⟨t0,-⟩
 refine wp_seq (wp_seq ?_)
 refine wi_ A (h1_ t0) (rc_ 1 (ischain0 u V hu) (cs_ (rv_ 2 (.bool true) (fun a E=>execNot8 (b:=false) rfl (E _)) (rg_ [(19,.bool true)] ?_))))
 rintro a A ⟨t19,-⟩
 refine wp_cond_true t19 ?_
 clear t19
 refine wp_seq ?_
 refine wi_ A h0_ (rg_ [(6,.slice none 0 0),(7,.int .i64 ((80:Nat):Int))] ?_)
 rintro a A ⟨t6,t7,-⟩
 refine wp_ret ?_
 repeat (first | with_reducible refine ret_in ?_ | with_reducible refine ret_then ?_)
 refine bodyPost_ret (results_tmp2 rfl _ _ _) A.2 ⟨⟨.slice none 0 0,?_,World.ownsRow_nil _ _ _ _⟩,BB⟩
 show Ending.returned (.tuple #[a.eval (.tmp 6),a.eval (.tmp 7)])=_
 rw [t6,t7]
theorem su_none:suE 0 0 (fun _=>0) 0 0=80:=by decide
theorem rwN_none:rwN 0 0 (fun _=>32) 0=0:=by decide
theorem rwE_none:rwE 0 0 (fun _=>32) 0=80:=by decide
theorem psub0 (V:World):Calls Tryz.prog 6 #[.slice none 0 0,.int .i64 ((0:Nat):Int),.slice none 0 0,.slice none 0 0] V fun e w'=>(∃ (r:Value) (x:Nat),e=.returned (.tuple #[r,.int .i64 (x:Int)])/\x ≠ 0)/\Below V.heap.size V w':=
 (psubH 0 0 0 0 _ _ _ (fun _=>undef) (fun _=>0) (fun _ _=>0) (fun _ _=>0) (fun _=>0) V (ls_none V) (by omega) (fun i hi=>absurd hi (Nat.not_lt_zero i)) (fun u y X hb hc=>(pwrap0 u _ _ X (by obtain ⟨a,c,e,_⟩:=hc.shape; exact ⟨a,c,e⟩)).mono fun e w' ⟨⟨r,he,ho⟩,hb2⟩=>⟨r,by rw [rwE_none]; exact he,by rw [rwN_none]; exact ho,hb2⟩)).mono fun _ _ ⟨⟨r,he,_⟩,hb⟩=>⟨⟨r,_,he,by rw [su_none]; decide⟩,hb⟩
end Go.Proofs.YtjckkdjldnobmaaGreatDoor.Cas
