import Derived.Test.YtjjegmflllpknaaE8j
import Derived.Test.YtjjegmflllpknaaL9c
import Derived.WalkKit
import Derived.Maps.AppendAt
namespace Go.Proofs.Ytjjegmflllpknaa.Loo
open Go.RowKit Gf8 Aes By8 Cel Cf Win Drw Prm
/- The laws' pair and alive. Written by tools/mkE8k.py. -/
theorem grR18 {W:World} {g:Nat} {c:Array Value}:W.grownBy (W.setRow g c) (some g):=by
 have hb:Below g W (W.setRow g c):=below4 (Below.refl _ _) (Nat.le_refl _) c
 refine ⟨hb.os,hb.tape,hb.output,hb.size,fun b hbs hne=>?_⟩
 rw [setRow_other _ _ _ _ (fun e=>hne (by rw [e]))]
theorem keepT {W X:World} {g k:Nat} {c d:Array Value} {t u:TypeId} (h:W.heap[k]?=some (.cells d u)) (hg:W.heap[g]?=some (.cells c t)) (ht:t ≠ u) (gr:W.grownBy X (some g)):X.heap[k]?=some (.cells d u):=by
 rw [gr.block k (Array.getElem?_eq_some_iff.1 h).1 (fun e=>by cases e; rw [h] at hg; cases hg; exact ht rfl)]
 exact h
theorem res_c0 {P:Program} {fn:Func} {p:Tmp} {ty:TypeId} (tmps:Array Value) (w:World) (g:Nat) (t:TypeId) (cs:Array Value) (fr:Nat × Nat) (d:TypeDesc) (h:fn.results=#[.cell p ty]) (hp:tmps.getD p undef=.pointer (some ⟨g,0,none⟩)) (hg:w.heap[g]?=some (.cells cs t fr)) (hu:P.underlying ty=some d) (hd:(match d with | .struct _ | .array _ _=>true | _=>false)=true) (hi:(P.info? ty).map (·.size)=some cs.size) :
  (results fn tmps).run P w=.ok (.agg cs) w:=Tap.results_cell9 h tmps w g t cs fr d hp hg hu hd hi
theorem pairP_slices {W:World} {g4 g8 g10 g11:Nat} {c:Int} (hc:I64 c) (h4:W.heap[g4]?=some (.cells (iR 1 (fun _=>c)) 3)) (h8:W.heap[g8]?=some (.cells (oR 3 (pairO 0)) 59)) (h10:W.heap[g10]?=some (.cells (oR 1 (pairO 1)) 59)) (h11:W.heap[g11]?=some (.cells (vR 2 (fun i=>if i=0 then .slice (some ⟨g8,0,none⟩) 3 3 else .slice (some ⟨g10,0,none⟩) 1 1)) 79)) :
  PlA W (.agg #[.slice (some ⟨g4,0,none⟩) 1 1,.slice (some ⟨g11,0,none⟩) 2 2]) (pairP c):=by
 refine ⟨_,_,_,rfl,iR_slice h4 (by omega) (fun _ _=>hc),vR_slice h11,fun t ht=>?_⟩
 have ht':t < 2:=ht
 rcases (show t=0\/t=1 by omega) with rfl | rfl
 ·exact oR_slice h8 fun j hj=>pairO_fit 0 (by omega) j hj
 ·exact oR_slice h10 fun j hj=>pairO_fit 1 (by omega) j (by omega)
section
variable {B N n:Nat} {W X:World} {pk tk:Value} {tv:Nat->Value} {pf:Nat->Int} {tl:Nat->List Int}
theorem His.keepT (h:His B W pk tk tv N n pf tl) {g:Nat} {c:Array Value} {t:TypeId} (hg:W.heap[g]?=some (.cells c t)) (h1:t ≠ 3) (h2:t ≠ 22) (gr:W.grownBy X (some g)):His B X pk tk tv N n pf tl:=
 ⟨⟨fun i hi=>ownG_T (h.fm.rows i hi) hg h1 gr,h.fm.dis⟩,ownG_T h.tk hg h2 gr,h.pfit,h.tfit⟩
theorem His.base (h:His B W pk tk tv N n pf tl) {A:Nat} (hA:A<=B):His A W pk tk tv N n pf tl:=
 ⟨⟨fun i hi=>ownD_base (h.fm.rows i hi) hA,h.fm.dis⟩,ownD_base h.tk hA,h.pfit,h.tfit⟩
theorem SliceV.at {v:Value} {x:Nat->Value} {b off c t:Nat} (h:SliceV W v n x) (e:v=.slice (some ⟨b,off,none⟩) n c) (ht:t < n):W.cell? ⟨b,off+t,none⟩=some (x t):=by
 obtain ⟨a,cap,e1,h1⟩:=h
 rw [e] at e1
 obtain ⟨b2,off2,e2,_,h3⟩:=h1 (by omega)
 rw [e2] at e1
 injection e1 with e3
 injection e3 with e3
 injection e3 with e4 e5 _
 rw [e4,e5]
 exact h3 t ht
theorem SliceV.open {v:Value} {x:Nat->Value} (h:SliceV W v n x) (h0:0 < n):∃ b off c,v=.slice (some ⟨b,off,none⟩) n c:=by
 obtain ⟨a,cap,e1,h1⟩:=h
 obtain ⟨b,off,e2,_⟩:=h1 h0
 exact ⟨b,off,cap,by rw [e1,e2]⟩
theorem saved_bel {V:World} {F:Nat->Prop} (hb:Below V.heap.size V W) (hs:Saved F W X) (hF:∀ b,F b->V.heap.size<=b):Below V.heap.size V X:=
 ⟨hs.os.trans hb.os,hs.tape.trans hb.tape,hs.output.trans hb.output,Nat.le_trans hb.size hs.size,fun b hlt=>by rw [hs.block b (Nat.lt_of_lt_of_le hlt hb.size) (fun z=>by have:=hF b z; omega)]; exact hb.block b hlt⟩
end
theorem chk_bad (I:LImpl) (g:Nat) (V:World) (h:V.heap[g]?=some (.cells (iR 1 (fun _=>-1)) 3)):Calls Try.prog 18 #[.agg #[.slice (some ⟨g,0,none⟩) 1 1,.slice none 0 0]] V fun e w'=>e=.returned (.int .i64 ((190:Nat):Int))/\Below V.heap.size V w':=by
 have h1:=I.check badP (.agg #[.slice (some ⟨g,0,none⟩) 1 1,.slice none 0 0]) V ⟨_,_,fun _=>undef,rfl,iR_slice (f:=fun _=>-1) h (by omega) (fun _ _=>by decide),⟨_,_,rfl,fun z=>absurd z (Nat.lt_irrefl 0)⟩,fun t ht=>absurd ht (Nat.not_lt_zero t)⟩
 rw [bad_chk] at h1
 exact h1
theorem count_run (I:LImpl) (g k:Nat) (V:World) (hg:V.heap[g]?=some (.cells #[.int .i64 0] 3)) (hk:V.heap[k]?=some (.cells #[.nilFunc,.func (.func cF) #[] #[.pointer (some ⟨g,0,none⟩)]] 48)):Calls Try.prog 14 #[.slice (some ⟨k,0,none⟩) 1 1,.slice none 0 0,.int .i64 9] V fun e w'=>∃ pk,e=.returned (.agg (hC pk 0 true false 0 (.slice none 0 0)))/\w'.ownsRow V.heap.size 3 1 pk 2 (intsL 2 (fun _=>0))/\w'.heap[g]?=some (.cells #[.int .i64 2] 3)/\Saved (·=g) V w':=by
 have hK:SliceK V (.slice (some ⟨k,0,none⟩) 1 1) 1 (fun t=>fvl ((aSys g).rf t)) (fun t=>fvl ((aSys g).sf t)):=by
  refine ⟨_,_,rfl,fun _=>⟨k,0,rfl,(Array.getElem?_eq_some_iff.1 hk).1,fun t ht=>?_⟩⟩
  obtain rfl:t=0:=by omega
  exact ⟨by rw [cell_of_row _ _ _ _ _ _ hk]; rfl,by rw [cell_of_row _ _ _ _ _ _ hk]; rfl⟩
 refine Calls.mono (I.run (aSys g) _ _ 0 (fun _=>0) 9 0 (·=g) V hK slice_nilI ⟨fun b=>Iff.rfl,hg⟩ (fun a n c e=>?_) (fun a n c e=>by cases e) ⟨by omega,by omega⟩ (by show 1<=1000; omega) (by omega) ⟨fun _ _ _=>True,trivial,fun _ _ _ _ _ _=>⟨trivial,trivial,trivial⟩,fun _ _ _ _ _ _=>⟨trivial,trivial⟩⟩) ?_
 ·injection e with e1
  injection e1 with e1
  subst e1
  intro z
  have z':k=g:=z
  rw [z',hg] at hk
  injection hk with hk
  injection hk with _ hk _
  exact absurd hk (by decide)
 ·rintro e w' ⟨pk,F',h⟩
  obtain ⟨e1,e2,e3⟩:=aSys_go g (scr 0 fun _=>0)
  refine ⟨pk,?_,?_,?_,h.sv⟩
  ·have:=h.ans
   rw [show (9:Int).toNat=9 from rfl,e2] at this
   exact this
  ·have:=h.own
   rw [show (9:Int).toNat=9 from rfl,e1] at this
   have e4:intsL 2 (fun i=>((([0,0]:List Nat).getD i 0:Nat):Int))=intsL 2 (fun _=>0):=rfl
   exact e4 ▸ this
  ·have:=h.R.2
   rw [show (9:Int).toNat=9 from rfl,e3] at this
   exact this
theorem own_slq2 {W:World} {B n:Nat} {v:Value} {xs:List Value} {t:TypeId} {s:Nat} (h:W.ownsRow B t s v n xs):∃ g m c,v=.slice g m c:=by
 rcases h.2 with ⟨rfl,rfl⟩ | ⟨g,cap,cur,rfl,_⟩
 ·exact ⟨_,_,_,rfl⟩
 ·exact ⟨_,_,_,rfl⟩
set_option maxRecDepth 100000 in
set_option maxHeartbeats 4000000 in
theorem pair19 (c:Int) (V:World) (hc:I64 c) :
  Calls Try.prog 16 #[.int .i64 c] V fun e w'=>(∃ v,e=.returned v/\PlA w' v (pairP c))/\Below V.heap.size V w':=by
 go_enter Try.func16,Try.ntmps16
 refine wo_ 13 [(0,.int .i64 c)] ?_
 rintro a A ⟨t0,-⟩
 have BW:Below V.heap.size V V:=Below.refl _ _
 have BB:Below V.heap.size V V:=Below.refl _ _
 refine wp_seq ?_
 obtain ⟨g2,egg2⟩:∃ z_:Nat,V.heap.size=z_:=⟨_,rfl⟩
 refine wi_ A (h1_ t0) (rs_ 0 (fun a E=>?_))
 refine stepV rfl rfl (execAlP rfl) ⟨.pointer (some ⟨g2,0,none⟩),⟨_,rfl,by subst egg2; rfl⟩,fun X0 hX=>?_⟩
 have bQ:Below V.heap.size V X0:=by subst hX egg2; exact (belNew V _)
 have Fg2:(X0.heap[g2]?=some (.cells (#[.slice none 0 0,.slice none 0 0]) 25)):=by subst hX egg2; exact heapNew V _
 have Fgeg2:(V.heap.size<=g2):=by subst hX egg2; exact (BB).size
 replace BB:=BB.trans (bQ.mono BB.size)
 clear bQ hX egg2 E a
 refine rf_ [(2,.pointer (some ⟨g2,0,none⟩))] (h1_ t0) ?_
 rintro a A ⟨t2,-⟩ ⟨t0,-⟩
 refine wp_seq ?_
 obtain ⟨g4,egg4⟩:∃ z_:Nat,X0.heap.size=z_:=⟨_,rfl⟩
 refine wi_ A (h2_ t0 t2) (rs_ 1 (fun a E=>?_))
 refine stepV rfl rfl (execBs1I (fun _=>c) rfl (E _)) ⟨.slice (some ⟨g4,0,none⟩) 1 1,⟨_,rfl,by subst egg4; rfl⟩,fun X1_1 hX=>?_⟩
 have bQ:Below X0.heap.size X0 X1_1:=by subst hX egg4; exact (belNew X0 _)
 have Fg4:(X1_1.heap[g4]?=some (.cells (iR 1 (fun _=>c)) 3)):=by subst hX egg4; exact heapNew X0 _
 have Fgeg4:(V.heap.size<=g4):=by subst hX egg4; exact (BB).size
 replace Fg2:=(on9 Fg2 bQ)
 replace BB:=BB.trans (bQ.mono BB.size)
 clear bQ hX egg4 E a
 obtain ⟨g8,egg8⟩:∃ z_:Nat,X1_1.heap.size=z_:=⟨_,rfl⟩
 refine rv_ 2 (.agg (oC 4 7 0)) (fun a E=>execBo01 rfl rfl rfl) (rv_ 3 (.agg (oC 1 0 0)) (fun a E=>execBo0 rfl rfl) (rv_ 4 (.agg (oC 3 0 0)) (fun a E=>execBo0 rfl rfl) (rs_ 5 (fun a E=>?_))))
 refine stepV rfl rfl (execBs3O (pairO 0) rfl (E _) (E _) (E _)) ⟨.slice (some ⟨g8,0,none⟩) 3 3,⟨_,rfl,by subst egg8; rfl⟩,fun X1_2 hX=>?_⟩
 have bQ:Below X1_1.heap.size X1_1 X1_2:=by subst hX egg8; exact (belNew X1_1 _)
 have Fg8:(X1_2.heap[g8]?=some (.cells (oR 3 (pairO 0)) 59)):=by subst hX egg8; exact heapNew X1_1 _
 have Fgeg8:(V.heap.size<=g8):=by subst hX egg8; exact (BB).size
 replace Fg2:=(on9 Fg2 bQ)
 replace Fg4:=(on9 Fg4 bQ)
 replace BB:=BB.trans (bQ.mono BB.size)
 clear bQ hX egg8 E a
 obtain ⟨g10,egg10⟩:∃ z_:Nat,X1_2.heap.size=z_:=⟨_,rfl⟩
 refine rv_ 6 (.agg (oC 2 0 1)) (fun a E=>execBo02 rfl rfl rfl) (rs_ 7 (fun a E=>?_))
 refine stepV rfl rfl (execBs1O (pairO 1) rfl (E _)) ⟨.slice (some ⟨g10,0,none⟩) 1 1,⟨_,rfl,by subst egg10; rfl⟩,fun X1_3 hX=>?_⟩
 have bQ:Below X1_2.heap.size X1_2 X1_3:=by subst hX egg10; exact (belNew X1_2 _)
 have Fg10:(X1_3.heap[g10]?=some (.cells (oR 1 (pairO 1)) 59)):=by subst hX egg10; exact heapNew X1_2 _
 have Fgeg10:(V.heap.size<=g10):=by subst hX egg10; exact (BB).size
 replace Fg2:=(on9 Fg2 bQ)
 replace Fg4:=(on9 Fg4 bQ)
 replace Fg8:=(on9 Fg8 bQ)
 replace BB:=BB.trans (bQ.mono BB.size)
 clear bQ hX egg10 E a
 obtain ⟨g11,egg11⟩:∃ z_:Nat,X1_3.heap.size=z_:=⟨_,rfl⟩
 refine rs_ 8 (fun a E=>?_)
 refine stepV rfl rfl (execBs2V (fun i=>if i=0 then .slice (some ⟨g8,0,none⟩) 3 3 else .slice (some ⟨g10,0,none⟩) 1 1) rfl (E _) (E _) (fun i hi=>by rcases (show i=0\/i=1 by omega) with rfl | rfl <;> exact ⟨_,_,_,rfl⟩)) ⟨.slice (some ⟨g11,0,none⟩) 2 2,⟨_,rfl,by subst egg11; rfl⟩,fun X1_4 hX=>?_⟩
 have bQ:Below X1_3.heap.size X1_3 X1_4:=by subst hX egg11; exact (belNew X1_3 _)
 have Fg11:(X1_4.heap[g11]?=some (.cells (vR 2 (fun i=>if i=0 then .slice (some ⟨g8,0,none⟩) 3 3 else .slice (some ⟨g10,0,none⟩) 1 1)) 79)):=by subst hX egg11; exact heapNew X1_3 _
 have Fgeg11:(V.heap.size<=g11):=by subst hX egg11; exact (BB).size
 replace Fg2:=(on9 Fg2 bQ)
 replace Fg4:=(on9 Fg4 bQ)
 replace Fg8:=(on9 Fg8 bQ)
 replace Fg10:=(on9 Fg10 bQ)
 replace BB:=BB.trans (bQ.mono BB.size)
 clear bQ hX egg11 E a
 refine rv_ 9 (.agg #[.slice (some ⟨g4,0,none⟩) 1 1,.slice (some ⟨g11,0,none⟩) 2 2]) (fun a E=>execBp01 rfl (E _) (E _) ⟨_,_,_,rfl⟩ ⟨_,_,_,rfl⟩) (rs_ 10 (fun a E=>?_))
 refine stepS rfl rfl (execStP rfl (E _) (E _) Fg2 ⟨_,_,_,rfl⟩ ⟨_,_,_,rfl⟩) ⟨_,⟨_,rfl,rfl⟩,fun X1 hX=>?_⟩
 obtain ⟨BB,Fg4,Fg8,Fg10,Fg11,Fg2s⟩:Below V.heap.size V X1/\(X1.heap[g4]?=some (.cells (iR 1 (fun _=>c)) 3))/\(X1.heap[g8]?=some (.cells (oR 3 (pairO 0)) 59))/\(X1.heap[g10]?=some (.cells (oR 1 (pairO 1)) 59))/\(X1.heap[g11]?=some (.cells (vR 2 (fun i=>if i=0 then .slice (some ⟨g8,0,none⟩) 3 3 else .slice (some ⟨g10,0,none⟩) 1 1)) 79))/\(X1.heap[g2]?=some (.cells (#[.slice (some ⟨g4,0,none⟩) 1 1,.slice (some ⟨g11,0,none⟩) 2 2]) 25)):=by subst hX; exact ⟨below4 BB Fgeg2 _,(keepT Fg4 Fg2 (by decide) grR18),(keepT Fg8 Fg2 (by decide) grR18),(keepT Fg10 Fg2 (by decide) grR18),(keepT Fg11 Fg2 (by decide) grR18),setRow_heap _ _ _ _ _ _ Fg2⟩
 clear Fg2 hX E a
 refine rf_ [] (h1_ t2) ?_
 rintro a A - ⟨t2,-⟩
 refine wp_ret ?_
 refine bodyPost_ret (res_c0 _ _ g2 25 _ (0,0) _ Try.results16 t2 Fg2s Try.underlying25 rfl (by show _=some 2; kernel_rfl)) A.2 ⟨⟨_,rfl,pairP_slices hc Fg4 Fg8 Fg10 Fg11⟩,BB⟩
set_option maxRecDepth 100000 in
set_option maxHeartbeats 4000000 in
theorem alive19 (I:LImpl) (V:World) :
  Calls Try.prog 5 #[] V fun e w'=>e=.returned (.bool true)/\Below V.heap.size V w':=by
 go_enter Try.func5,Try.ntmps5
 refine wo_ 67 [] ?_
 rintro a A -
 have BW:Below V.heap.size V V:=Below.refl _ _
 have BB:Below V.heap.size V V:=Below.refl _ _
 refine wp_seq ?_
 refine wi_ A h0_ (rg_ [] ?_)
 rintro a A -
 refine wp_seq ?_
 refine wi_ A h0_ (rc_ 0 (pair19 1 V ⟨by omega,by omega⟩) fun e X1_1 hh=>?_)
 obtain ⟨⟨v6,he,hP⟩,hb⟩:=hh
 refine ⟨_,he,?_⟩
 have bQ:Below V.heap.size V X1_1:=hb
 have FP:(PlA X1_1 v6 (pairP 1)):=hP
 replace BB:=BB.trans (bQ.mono BB.size)
 clear bQ
 obtain ⟨g7,egg7⟩:∃ z_:Nat,X1_1.heap.size=z_:=⟨_,rfl⟩
 refine rs_ 1 (fun a E=>?_)
 refine stepV rfl rfl (execBs4I (fun _=>1) rfl rfl rfl rfl rfl) ⟨.slice (some ⟨g7,0,none⟩) 4 4,⟨_,rfl,by subst egg7; rfl⟩,fun X1_2 hX=>?_⟩
 have bQ:Below X1_1.heap.size X1_1 X1_2:=by subst hX egg7; exact (belNew X1_1 _)
 have Fg7:(X1_2.heap[g7]?=some (.cells (iR 4 (fun _=>1)) 3)):=by subst hX egg7; exact heapNew X1_1 _
 have Fgeg7:(V.heap.size<=g7):=by subst hX egg7; exact (BB).size
 replace FP:=(FP.on bQ)
 replace BB:=BB.trans (bQ.mono BB.size)
 clear bQ hX egg7 E a
 refine rc_ 2 (pair1_play I _ _ X1_2 FP (iR_slice Fg7 (by omega) (fun _ _=>⟨by omega,by omega⟩))) fun e X1_3 hh=>?_
 obtain ⟨pk,tk,tv,he,hH,hb⟩:=hh
 refine ⟨_,he,?_⟩
 have bQ:Below X1_2.heap.size X1_2 X1_3:=hb
 have FH:(His V.heap.size X1_3 pk tk tv 4 2 pair1F pair1T):=hH.base (BB).size
 replace BB:=BB.trans (bQ.mono BB.size)
 clear FP Fg7 bQ
 obtain ⟨g1,egg1⟩:∃ z_:Nat,X1_3.heap.size=z_:=⟨_,rfl⟩
 refine rs_ 6 (fun a E=>?_)
 refine stepV rfl rfl (execAlH rfl) ⟨.pointer (some ⟨g1,0,none⟩),⟨_,rfl,by subst egg1; rfl⟩,fun X1_4 hX=>?_⟩
 have bQ:Below X1_3.heap.size X1_3 X1_4:=by subst hX egg1; exact (belNew X1_3 _)
 have Fg1:(X1_4.heap[g1]?=some (.cells (hC (.slice none 0 0) 0 false false 0 (.slice none 0 0)) 29)):=by subst hX egg1; exact heapNew X1_3 _
 have Fgeg1:(V.heap.size<=g1):=by subst hX egg1; exact (BB).size
 replace FH:=(FH.on bQ)
 replace BB:=BB.trans (bQ.mono BB.size)
 clear bQ hX egg1 E a
 refine rs_ 7 (fun a E=>?_)
 refine stepS rfl rfl (execStH rfl (E _) (E _) Fg1 (sl3 FH.picks.shp) (sl3 FH.lists.shp)) ⟨_,⟨_,rfl,rfl⟩,fun X1 hX=>?_⟩
 obtain ⟨BB,FH,Fg1s⟩:Below V.heap.size V X1/\(His V.heap.size X1 pk tk tv 4 2 pair1F pair1T)/\(X1.heap[g1]?=some (.cells (hC pk 1 true false 0 tk) 29)):=by subst hX; exact ⟨below4 BB Fgeg1 _,(FH.keepT Fg1 (by decide) (by decide) grR18),setRow_heap _ _ _ _ _ _ Fg1⟩
 clear Fg1 hX E a
 refine rg_ [(1,.pointer (some ⟨g1,0,none⟩)),(2,.int .i64 ((0:Nat):Int))] ?_
 rintro a A ⟨t1,t2,-⟩
 obtain ⟨tb,to_,tc,etk⟩:=FH.lists.open (by omega)
 refine wp_seq (wp_seq ?_)
 obtain ⟨g16,egg16⟩:∃ z_:Nat,X1.heap.size=z_:=⟨_,rfl⟩
 refine wi_ A (h2_ t1 t2) (rv_ 1 (.bool false) (fun a E=>execDec (execErneq (p:=0) (q:=0) rfl (E _)) (by decide)) (rv_ 3 (.pointer (some ⟨g1,0,none⟩)) (fun a E=>execFh0 rfl (E _)) (rv_ 4 (pk) (fun a E=>execLdG rfl (Or.inl rfl) (E _) (hC_at Fg1s).1) (rs_ 5 (fun a E=>?_)))))
 refine stepV rfl (wy rfl rfl rfl (E _)) (execBs4I (fun i=>if i=2 then 1 else 0) rfl rfl rfl rfl rfl) ⟨.slice (some ⟨g16,0,none⟩) 4 4,⟨_,rfl,by subst egg16; rfl⟩,fun X2_1 hX=>?_⟩
 have bQ:Below X1.heap.size X1 X2_1:=by subst hX egg16; exact (belNew X1 _)
 have Fg16:(X2_1.heap[g16]?=some (.cells (iR 4 (fun i=>if i=2 then 1 else 0)) 3)):=by subst hX egg16; exact heapNew X1 _
 have Fgeg16:(V.heap.size<=g16):=by subst hX egg16; exact (BB).size
 replace FH:=(FH.on bQ)
 replace Fg1s:=(on9 Fg1s bQ)
 replace BB:=BB.trans (bQ.mono BB.size)
 clear bQ hX egg16 E a
 refine rc_ 6 (same19 _ _ 4 _ _ X2_1 (pair1_picks FH) (iR_slice Fg16 (by omega) (fun i _=>by split <;> exact ⟨by omega,by omega⟩)) (fun _ _=>rfl) (by omega)) (cb_ fun X2_2 bQ=>?_)
 replace FH:=(FH.on bQ)
 replace Fg1s:=(on9 Fg1s bQ)
 replace Fg16:=(on9 Fg16 bQ)
 replace BB:=BB.trans (bQ.mono BB.size)
 clear bQ
 obtain ⟨g41,egg41⟩:∃ z_:Nat,X2_2.heap.size=z_:=⟨_,rfl⟩
 refine rv_ 7 (.bool false) (fun a E=>execNot8 (b:=true) rfl (E _)) (rv_ 10 (.pointer (some ⟨g1,1,none⟩)) (fun a E=>execFh1 rfl (E _)) (rv_ 11 (.int .i64 ((1:Nat):Int)) (fun a E=>execLdG rfl (Or.inr (Or.inl rfl)) (E _) (hC_at Fg1s).2.1) (rv_ 12 (.bool false) (fun a E=>execDec (execNeN (p:=1) (q:=1) rfl (E _) rfl) (decide_eq_false (by decide))) (rv_ 15 (.pointer (some ⟨g1,2,none⟩)) (fun a E=>execFh2 rfl (E _)) (rv_ 16 (.bool true) (fun a E=>execLdG rfl (Or.inr (Or.inr (Or.inl rfl))) (E _) (hC_at Fg1s).2.2.1) (rv_ 17 (.bool false) (fun a E=>execNot8 (b:=true) rfl (E _)) (rv_ 20 (.pointer (some ⟨g1,5,none⟩)) (fun a E=>execFh5 rfl (E _)) (rv_ 21 (tk) (fun a E=>execLdG rfl (Or.inr (Or.inr (Or.inr (Or.inl rfl)))) (E _) (hC_at Fg1s).2.2.2.2.2) (rv_ 22 (.int .i64 ((2:Nat):Int)) (fun a E=>execLnLL (len:=2) rfl (E _) (FH).lists.shp) (rv_ 23 (.bool false) (fun a E=>execDec (execNeN (p:=2) (q:=2) rfl (E _) rfl) (decide_eq_false (by decide))) (rv_ 26 (.pointer (some ⟨g1,5,none⟩)) (fun a E=>execFh5 rfl (E _)) (rv_ 27 (tk) (fun a E=>execLdG rfl (Or.inr (Or.inr (Or.inr (Or.inl rfl)))) (E _) (hC_at Fg1s).2.2.2.2.2) (rv_ 28 (.pointer (some ⟨tb,to_+1,none⟩)) (fun a E=>execIxLL (k:=1) rfl ((E _).trans etk) rfl (by omega)) (rv_ 29 (tv 1) (fun a E=>execLdG rfl (Or.inl rfl) (E _) (SliceV.at (FH).lists etk (by omega))) (rs_ 30 (fun a E=>?_))))))))))))))))
 refine stepV rfl (wy rfl rfl rfl (E _)) (execBs1I (fun _=>7) rfl rfl) ⟨.slice (some ⟨g41,0,none⟩) 1 1,⟨_,rfl,by subst egg41; rfl⟩,fun X2_3 hX=>?_⟩
 have bQ:Below X2_2.heap.size X2_2 X2_3:=by subst hX egg41; exact (belNew X2_2 _)
 have Fg41:(X2_3.heap[g41]?=some (.cells (iR 1 (fun _=>7)) 3)):=by subst hX egg41; exact heapNew X2_2 _
 have Fgeg41:(V.heap.size<=g41):=by subst hX egg41; exact (BB).size
 replace FH:=(FH.on bQ)
 replace Fg1s:=(on9 Fg1s bQ)
 replace Fg16:=(on9 Fg16 bQ)
 replace BB:=BB.trans (bQ.mono BB.size)
 clear bQ hX egg41 E a
 refine rc_ 31 (same19 _ _ 1 _ _ X2_3 (pair1_taken FH) (iR_slice Fg41 (by omega) (fun _ _=>⟨by omega,by omega⟩)) (fun _ _=>rfl) (by omega)) (cb_ fun X2 bQ=>?_)
 replace FH:=(FH.on bQ)
 replace Fg1s:=(on9 Fg1s bQ)
 replace Fg16:=(on9 Fg16 bQ)
 replace Fg41:=(on9 Fg41 bQ)
 replace BB:=BB.trans (bQ.mono BB.size)
 clear bQ
 refine rv_ 32 (.bool false) (fun a E=>execNot8 (b:=true) rfl (E _)) (rg_ [(44,.bool false)] ?_)
 rintro a A ⟨t44,-⟩
 refine wp_cond_false t44 (wp_skip ?_)
 clear t44
 clear FH Fg1s Fg16 Fg41
 refine wp_seq ?_
 obtain ⟨g3,egg3⟩:∃ z_:Nat,X2.heap.size=z_:=⟨_,rfl⟩
 refine wi_ A h0_ (rs_ 0 (fun a E=>?_))
 refine stepV rfl rfl (execAlI rfl) ⟨.pointer (some ⟨g3,0,none⟩),⟨_,rfl,by subst egg3; rfl⟩,fun X4_1 hX=>?_⟩
 have bQ:Below X2.heap.size X2 X4_1:=by subst hX egg3; exact (belNew X2 _)
 have Fg3:(X4_1.heap[g3]?=some (.cells (#[.int .i64 0]) 3)):=by subst hX egg3; exact heapNew X2 _
 have Fgeg3:(V.heap.size<=g3):=by subst hX egg3; exact (BB).size
 replace BB:=BB.trans (bQ.mono BB.size)
 clear bQ hX egg3 E a
 refine rs_ 1 (fun a E=>?_)
 refine stepS rfl rfl (execStI19 rfl (E _) rfl Fg3) ⟨_,⟨_,rfl,rfl⟩,fun X4 hX=>?_⟩
 obtain ⟨BB,Fg3s⟩:Below V.heap.size V X4/\(X4.heap[g3]?=some (.cells (#[.int .i64 0]) 3)):=by subst hX; exact ⟨below4 BB Fgeg3 _,setRow_heap _ _ _ _ _ _ Fg3⟩
 clear Fg3 hX E a
 refine rg_ [(3,.pointer (some ⟨g3,0,none⟩))] ?_
 rintro a A ⟨t3,-⟩
 refine wp_seq ?_
 obtain ⟨g47,egg47⟩:∃ z_:Nat,X4.heap.size=z_:=⟨_,rfl⟩
 refine wi_ A (h1_ t3) (rv_ 0 (.func (.func cF) #[] #[.pointer (some ⟨g3,0,none⟩)]) (fun a E=>execMkF19 rfl (E _)) (rv_ 1 (.agg #[.nilFunc,.func (.func cF) #[] #[.pointer (some ⟨g3,0,none⟩)]]) (fun a E=>execBt1 rfl (E _)) (rs_ 2 (fun a E=>?_))))
 refine stepV rfl rfl (execBs1T rfl (E _)) ⟨.slice (some ⟨g47,0,none⟩) 1 1,⟨_,rfl,by subst egg47; rfl⟩,fun X5_1 hX=>?_⟩
 have bQ:Below X4.heap.size X4 X5_1:=by subst hX egg47; exact (belNew X4 _)
 have Fg47:(X5_1.heap[g47]?=some (.cells (#[.nilFunc,.func (.func cF) #[] #[.pointer (some ⟨g3,0,none⟩)]]) 48)):=by subst hX egg47; exact heapNew X4 _
 have Fgeg47:(V.heap.size<=g47):=by subst hX egg47; exact (BB).size
 replace Fg3s:=(on9 Fg3s bQ)
 replace BB:=BB.trans (bQ.mono BB.size)
 clear bQ hX egg47 E a
 refine rc_ 3 (count_run I g3 _ X5_1 Fg3s Fg47) fun e X5_2 hh=>?_
 obtain ⟨pk2,he,hO,hn,hs⟩:=hh
 refine ⟨_,he,?_⟩
 obtain ⟨BB,FO,Fn⟩:Below V.heap.size V X5_2/\(X5_2.ownsRow V.heap.size 3 1 pk2 2 (intsL 2 (fun _=>0)))/\(X5_2.heap[g3]?=some (.cells (#[.int .i64 2]) 3)):=⟨saved_bel BB hs (fun b hb=>hb ▸ Fgeg3),ownD_base hO (BB).size,hn⟩
 clear Fg3s Fg47
 obtain ⟨g4,egg4⟩:∃ z_:Nat,X5_2.heap.size=z_:=⟨_,rfl⟩
 refine rs_ 4 (fun a E=>?_)
 refine stepV rfl rfl (execAlH rfl) ⟨.pointer (some ⟨g4,0,none⟩),⟨_,rfl,by subst egg4; rfl⟩,fun X5_3 hX=>?_⟩
 have bQ:Below X5_2.heap.size X5_2 X5_3:=by subst hX egg4; exact (belNew X5_2 _)
 have Fg4:(X5_3.heap[g4]?=some (.cells (hC (.slice none 0 0) 0 false false 0 (.slice none 0 0)) 29)):=by subst hX egg4; exact heapNew X5_2 _
 have Fgeg4:(V.heap.size<=g4):=by subst hX egg4; exact (BB).size
 replace FO:=(ownD_below FO bQ)
 replace Fn:=(on9 Fn bQ)
 replace BB:=BB.trans (bQ.mono BB.size)
 clear bQ hX egg4 E a
 refine rs_ 5 (fun a E=>?_)
 refine stepS rfl rfl (execStH rfl (E _) (E _) Fg4 (own_slq2 FO) ⟨_,_,_,rfl⟩) ⟨_,⟨_,rfl,rfl⟩,fun X5 hX=>?_⟩
 obtain ⟨BB,FO,Fn,Fg4s⟩:Below V.heap.size V X5/\(X5.ownsRow V.heap.size 3 1 pk2 2 (intsL 2 (fun _=>0)))/\(X5.heap[g3]?=some (.cells (#[.int .i64 2]) 3))/\(X5.heap[g4]?=some (.cells (hC pk2 0 true false 0 (.slice none 0 0)) 29)):=by subst hX; exact ⟨below4 BB Fgeg4 _,(ownG_T FO Fg4 (by decide) grR18),(keepT Fn Fg4 (by decide) grR18),setRow_heap _ _ _ _ _ _ Fg4⟩
 clear Fg4 hX E a
 refine rf_ [(4,.pointer (some ⟨g4,0,none⟩))] (h1_ t3) ?_
 rintro a A ⟨t4,-⟩ ⟨t3,-⟩
 refine wp_seq ?_
 obtain ⟨g58,egg58⟩:∃ z_:Nat,X5.heap.size=z_:=⟨_,rfl⟩
 refine wi_ A (h2_ t3 t4) (rv_ 0 (.int .i64 ((2:Nat):Int)) (fun a E=>execLdG rfl (Or.inr (Or.inl rfl)) (E _) (by rw [cell_of_row _ _ _ _ _ _ (Fn)]; rfl)) (rv_ 1 (.bool true) (fun a E=>execDec (execEqN (p:=2) (q:=2) rfl (E _) rfl) (decide_eq_true (by decide))) (rv_ 3 (.pointer (some ⟨g4,2,none⟩)) (fun a E=>execFh2 rfl (E _)) (rv_ 4 (.bool true) (fun a E=>execLdG rfl (Or.inr (Or.inr (Or.inl rfl))) (E _) (hC_at Fg4s).2.2.1) (rv_ 7 (.pointer (some ⟨g4,0,none⟩)) (fun a E=>execFh0 rfl (E _)) (rv_ 8 (pk2) (fun a E=>execLdG rfl (Or.inl rfl) (E _) (hC_at Fg4s).1) (rs_ 9 (fun a E=>?_))))))))
 refine stepV rfl (wy rfl rfl rfl (E _)) (execBs2I (fun _=>0) rfl rfl rfl) ⟨.slice (some ⟨g58,0,none⟩) 2 2,⟨_,rfl,by subst egg58; rfl⟩,fun X6_1 hX=>?_⟩
 have bQ:Below X5.heap.size X5 X6_1:=by subst hX egg58; exact (belNew X5 _)
 have Fg58:(X6_1.heap[g58]?=some (.cells (iR 2 (fun _=>0)) 3)):=by subst hX egg58; exact heapNew X5 _
 have Fgeg58:(V.heap.size<=g58):=by subst hX egg58; exact (BB).size
 replace FO:=(ownD_below FO bQ)
 replace Fn:=(on9 Fn bQ)
 replace Fg4s:=(on9 Fg4s bQ)
 replace BB:=BB.trans (bQ.mono BB.size)
 clear bQ hX egg58 E a
 refine rc_ 10 (same19 _ _ 2 _ _ X6_1 (own_ints FO (fun _ _=>⟨by omega,by omega⟩)) (iR_slice Fg58 (by omega) (fun _ _=>⟨by omega,by omega⟩)) (fun _ _=>rfl) (by omega)) (cb_ fun X6_2 bQ=>?_)
 replace FO:=(ownD_below FO bQ)
 replace Fn:=(on9 Fn bQ)
 replace Fg4s:=(on9 Fg4s bQ)
 replace Fg58:=(on9 Fg58 bQ)
 replace BB:=BB.trans (bQ.mono BB.size)
 clear bQ
 obtain ⟨g62,egg62⟩:∃ z_:Nat,X6_2.heap.size=z_:=⟨_,rfl⟩
 refine rs_ 13 (fun a E=>?_)
 refine stepV rfl (wy rfl rfl rfl (E _)) (execBs1I (fun _=>-1) rfl rfl) ⟨.slice (some ⟨g62,0,none⟩) 1 1,⟨_,rfl,by subst egg62; rfl⟩,fun X6_3 hX=>?_⟩
 have bQ:Below X6_2.heap.size X6_2 X6_3:=by subst hX egg62; exact (belNew X6_2 _)
 have Fg62:(X6_3.heap[g62]?=some (.cells (iR 1 (fun _=>-1)) 3)):=by subst hX egg62; exact heapNew X6_2 _
 have Fgeg62:(V.heap.size<=g62):=by subst hX egg62; exact (BB).size
 replace FO:=(ownD_below FO bQ)
 replace Fn:=(on9 Fn bQ)
 replace Fg4s:=(on9 Fg4s bQ)
 replace Fg58:=(on9 Fg58 bQ)
 replace BB:=BB.trans (bQ.mono BB.size)
 clear bQ hX egg62 E a
 refine rv_ 14 (.agg #[.slice (some ⟨g62,0,none⟩) 1 1,.slice none 0 0]) (fun a E=>execBp0 rfl (E _) ⟨_,_,_,rfl⟩) (rc_ 15 (chk_bad I _ X6_3 Fg62) (cb_ fun X6 bQ=>?_))
 replace FO:=(ownD_below FO bQ)
 replace Fn:=(on9 Fn bQ)
 replace Fg4s:=(on9 Fg4s bQ)
 replace Fg58:=(on9 Fg58 bQ)
 replace Fg62:=(on9 Fg62 bQ)
 replace BB:=BB.trans (bQ.mono BB.size)
 clear bQ
 refine rv_ 16 (.bool true) (fun a E=>execDec (execEreql (p:=190) (q:=190) rfl (E _)) (by decide)) (rg_ [(0,.bool true)] ?_)
 rintro a A ⟨t0,-⟩
 refine wp_ret ?_
 refine bodyPost_ret (results_tmp rfl _ _ _) A.2 ⟨?_,BB⟩
 show Ending.returned (a.eval (.tmp 0))=_
 rw [t0]
end Go.Proofs.Ytjjegmflllpknaa.Loo

namespace Go.Proofs.Ytjjegmflllpknaa.Loo
open Go.RowKit Gf8 Aes By8 Cel Cf Win Drw Prm
/- LoomRuns: tasks made of plain data (shams), and the log of their calls, in memory. -/
structure Sd where
 n:Nat
 na:Nat->Nat
 an:Nat->Nat->Bool
 th:Nat->Bool
 la:Nat->Int
 nr:Nat->Bool
structure Lg where
 ca:List Nat
 ak:Nat->Nat
 dn:Nat->Nat
def SliceBl (w:World) (v:Value) (n:Nat) (x:Nat->Bool):Prop:=SliceV w v n (fun j=>.bool (x j))
def ShL (w:World) (v:Value) (D:Sd):Prop:=∃ a cap,v=.slice a D.n cap/\∃ y:Nat->Value,(∀ t,t < D.n->SliceBl w (y t) (D.na t) (D.an t))/\(0 < D.n->∃ b off,a=some ⟨b,off,none⟩/\b < w.heap.size/\∀ t,t < D.n->w.cell? ⟨b,off+t * 4,none⟩=some (y t)/\w.cell? ⟨b,off+t * 4+1,none⟩=some (.bool (D.th t))/\w.cell? ⟨b,off+t * 4+2,none⟩=some (.int .i64 (D.la t))/\w.cell? ⟨b,off+t * 4+3,none⟩=some (.bool (D.nr t)))
theorem ShL.on {w w':World} {v:Value} {D:Sd} (h:ShL w v D) (hb:Below w.heap.size w w'):ShL w' v D:=by
 obtain ⟨a,cap,e,y,h2,h3⟩:=h
 refine ⟨a,cap,e,y,fun t ht=>(h2 t ht).on hb,fun h0=>?_⟩
 obtain ⟨b,off,e1,e2,e3⟩:=h3 h0
 exact ⟨b,off,e1,Nat.lt_of_lt_of_le e2 hb.size,fun t ht=>by rw [cell_below hb e2,cell_below hb e2,cell_below hb e2,cell_below hb e2]; exact e3 t ht⟩
theorem ShL.shp {w:World} {v:Value} {D:Sd} (h:ShL w v D):∃ a c,v=.slice a D.n c:=by
 obtain ⟨a,c,e,_⟩:=h
 exact ⟨a,c,e⟩
theorem ShL.at {w:World} {v:Value} {D:Sd} (h:ShL w v D) (h0:0 < D.n):∃ (b off c:Nat) (y:Nat->Value),v=.slice (some ⟨b,off,none⟩) D.n c/\b < w.heap.size/\(∀ t,t < D.n->SliceBl w (y t) (D.na t) (D.an t))/\∀ t,t < D.n->w.cell? ⟨b,off+t * 4,none⟩=some (y t)/\w.cell? ⟨b,off+t * 4+1,none⟩=some (.bool (D.th t))/\w.cell? ⟨b,off+t * 4+2,none⟩=some (.int .i64 (D.la t))/\w.cell? ⟨b,off+t * 4+3,none⟩=some (.bool (D.nr t)):=by
 obtain ⟨a,cap,e,y,h2,h3⟩:=h
 obtain ⟨b,off,e1,e2,e3⟩:=h3 h0
 exact ⟨b,off,cap,y,by rw [e,e1],e2,h2,e3⟩
def gC (cv av dv:Value):Array Value:=#[cv,av,dv]
def Lf (g:Nat) (cv av dv:Value) (b:Nat):Prop:=b=g\/cv.ownBlock=some b\/av.ownBlock=some b\/dv.ownBlock=some b
def caF (l:List Nat) (i:Nat):Int:=((l.getD i 0:Nat):Int)
abbrev natF (f:Nat->Nat) (i:Nat):Int:=((f i:Nat):Int)
structure LgM (B:Nat) (W:World) (g:Nat) (cv av dv:Value) (n:Nat) (x:Lg):Prop where
 hg:W.heap[g]?=some (.cells (gC cv av dv) 40)
 gB:B<=g
 oc:W.ownsRow B 3 1 cv x.ca.length (intsL x.ca.length (caF x.ca))
 oa:W.ownsRow B 3 1 av n (intsL n (natF x.ak))
 od:W.ownsRow B 3 1 dv n (intsL n (natF x.dn))
 ca:∀ b,cv.ownBlock=some b->av.ownBlock ≠ some b
 cd:∀ b,cv.ownBlock=some b->dv.ownBlock ≠ some b
 ad:∀ b,av.ownBlock=some b->dv.ownBlock ≠ some b
def LgR (B:Nat) (W:World) (F:Nat->Prop) (g n:Nat) (x:Lg):Prop:=∃ cv av dv,LgM B W g cv av dv n x/\∀ b,F b ↔ Lf g cv av dv b
theorem own_keep {W X:World} {B t s n:Nat} {v:Value} {xs:List Value} (h:W.ownsRow B t s v n xs) (e:∀ b,v.ownBlock=some b->X.heap[b]?=W.heap[b]?):X.ownsRow B t s v n xs:=by
 refine ⟨h.1,?_⟩
 rcases h.2 with h2 | ⟨g,cap,cur,e1,h1,hg,h3⟩
 ·exact Or.inl h2
 ·exact Or.inr ⟨g,cap,cur,e1,h1,by rw [e g (by rw [e1]; rfl)]; exact hg,h3⟩
section
variable {B:Nat} {W X:World} {F:Nat->Prop} {g n:Nat} {x:Lg} {cv av dv:Value}
theorem LgM.keep (h:LgM B W g cv av dv n x) (e:∀ b,Lf g cv av dv b->X.heap[b]?=W.heap[b]?):LgM B X g cv av dv n x:=
 ⟨by rw [e g (Or.inl rfl)]; exact h.hg,h.gB,own_keep h.oc fun b q=>e b (Or.inr (Or.inl q)),own_keep h.oa fun b q=>e b (Or.inr (Or.inr (Or.inl q))),own_keep h.od fun b q=>e b (Or.inr (Or.inr (Or.inr q))),h.ca,h.cd,h.ad⟩
theorem LgM.lt (h:LgM B W g cv av dv n x):∀ b,Lf g cv av dv b->b < W.heap.size:=by
 rintro b (rfl | q | q | q)
 ·exact (Array.getElem?_eq_some_iff.1 h.hg).1
 ·exact (h.oc.lt b q).2
 ·exact (h.oa.lt b q).2
 ·exact (h.od.lt b q).2
theorem LgM.ge (h:LgM B W g cv av dv n x):∀ b,Lf g cv av dv b->B<=b:=by
 rintro b (rfl | q | q | q)
 ·exact h.gB
 ·exact (h.oc.lt b q).1
 ·exact (h.oa.lt b q).1
 ·exact (h.od.lt b q).1
theorem LgM.on (h:LgM B W g cv av dv n x) (hb:Below W.heap.size W X):LgM B X g cv av dv n x:=h.keep fun b q=>hb.block b (h.lt b q)
theorem LgR.keep (h:LgR B W F g n x) (e:∀ b,F b->X.heap[b]?=W.heap[b]?):LgR B X F g n x:=by
 obtain ⟨cv,av,dv,h1,h2⟩:=h
 exact ⟨cv,av,dv,h1.keep fun b q=>e b ((h2 b).2 q),h2⟩
theorem LgR.lt (h:LgR B W F g n x):∀ b,F b->b < W.heap.size:=by
 obtain ⟨cv,av,dv,h1,h2⟩:=h
 exact fun b q=>h1.lt b ((h2 b).1 q)
theorem LgR.ge (h:LgR B W F g n x):∀ b,F b->B<=b:=by
 obtain ⟨cv,av,dv,h1,h2⟩:=h
 exact fun b q=>h1.ge b ((h2 b).1 q)
theorem LgR.on (h:LgR B W F g n x) (hb:Below W.heap.size W X):LgR B X F g n x:=h.keep fun b q=>hb.block b (h.lt b q)
end
set_option maxRecDepth 100000 in
theorem stepAppIP {ops:Array Oper} {Q:Exit->Act->World->Prop} {K:Act->World->Prop} {k:Nat} {o:Oper} {a:Act} {W:World} {s x:Operand} {B n g:Nat} {v:Value} {f:Nat->Int} {z:Int} (hos:ops[k]?=some o) (hgd:Region.wanted o (yielded ops a.tmps)=true)
  (ho:o.op=.call { callee:=.builtin .append,args:=#[s,x],argTypes:=#[22,22] }) (hs:a.eval s=v) (hx:a.eval x=.slice (some ⟨g,0,none⟩) 1 1)
  (hown:W.ownsRow B 3 1 v n (intsL n f)) (hg:W.heap[g]?=some (.cells #[.int .i64 z] 3)) (hn:n+1<=8796093022208) (hB:B<=W.heap.size)
  (hK:∀ v' W',W'.ownsRow B 3 1 v' (n+1) (intsL (n+1) (up f n z))->W.grownBy W' v.ownBlock->(∀ b,v'.ownBlock=some b->v.ownBlock=some b\/W.heap.size<=b)->K (a.put o.dst v') W'):wpOp Try.prog ops Q k K a W:=by
 obtain ⟨i,i1,i2,i3,i4⟩:=infoI
 obtain ⟨v',W',run,q1,q2,-,q4⟩:=run_append_own_at (P:=Try.prog) W B 22 o.type 3 i _ 1 8 Try.underlying22 i1 i2 i3 i4 rfl (by decide) v n _ hown ⟨g,0,none⟩ 1 1 [.int .i64 z] rfl (fun j u hu=>by
  rw [Go.WideShapes.add_plain,cell_of_row _ _ _ _ _ _ hg,Nat.zero_add]
  exact (List.getElem?_toArray ..).trans hu) (fun u hu=>by
   simp only [List.mem_cons,List.not_mem_nil,or_false] at hu
   rw [hu]; rfl) (by unfold maxLen; omega) (by omega) hB
 have e:intsL n f ++ [.int .i64 z]=intsL (n+1) (up f n z):=by
  rw [intsL_congr (fun j hj=>(up_ne f z (Nat.ne_of_lt hj)).symm)]
  unfold intsL
  rw [List.range_succ,List.map_append]
  simp [up_at]
 rw [e] at q1
 refine stepV hos hgd ?_ (hK v' W' q1 q2 (fun b hb=>q4.elim (fun e=>Or.inl (e ▸ hb)) (fun e=>Or.inr (by rw [e] at hb; cases hb; exact Nat.le_refl _))))
 unfold execOp
 simp only [ho,resolve,invoke,builtin,Sem.run_bind,Sem.run_pure,Result.andThen_ok,List.map_toArray,List.map_cons,List.map_nil,hs,hx,run]
section
variable {o:Oper} {a:Act} {w:World}
theorem execIxBo {x i:Operand} {b off n cap k:Nat} (ho:o.op=.indexAddr 43 x i) (hx:a.eval x=.slice (some ⟨b,off,none⟩) n cap) (hi:a.eval i=.int .i64 ((k:Nat):Int)) (hk:k < n):(execOp a.eval o).run Try.prog w=.ok (.value (.pointer (some ⟨b,off+k,none⟩))) w:=by
 unfold execOp
 simp only [ho,hx,hi]
 simp [go_sem,hk]
theorem execLm {t:TypeId} {x:Operand} {b k:Nat} {v:Value} (ho:o.op=.load t x) (ht:t=3\/t=4\/t=22\/t=43\/t=37\/t=38) (hx:a.eval x=.pointer (some ⟨b,k,none⟩)) (hc:w.cell? ⟨b,k,none⟩=some v):(execOp a.eval o).run Try.prog w=.ok (.value v) w:=by
 unfold execOp
 rcases ht with rfl | rfl | rfl | rfl | rfl | rfl <;> (simp only [ho,hx]; simp [go_sem,hc])
theorem execSm {t:TypeId} {x y:Operand} {b k:Nat} {u old:Value} (ho:o.op=.store t x y) (ht:t=3\/t=4\/t=22\/t=43\/t=37\/t=38) (hx:a.eval x=.pointer (some ⟨b,k,none⟩)) (hy:a.eval y=u) (hu:(∃ z,u=.int .i64 z)\/(∃ z,u=.bool z)\/(∃ q n c,u=.slice q n c)\/∃ q,u=.pointer q) (hc:w.cell? ⟨b,k,none⟩=some old) (hf:w.frozen? ⟨b,k,none⟩=false):(execOp a.eval o).run Try.prog w=.ok .skip (w.setCell ⟨b,k,none⟩ u):=by
 unfold execOp
 rcases hu with ⟨_,rfl⟩ | ⟨_,rfl⟩ | ⟨_,_,_,rfl⟩ | ⟨_,rfl⟩ <;> (rcases ht with rfl | rfl | rfl | rfl | rfl | rfl <;> (simp only [ho,hx,hy]; simp [go_sem,hc,hf]))
theorem execNlm {P:Program} {x:Operand} {ad:Addr} (ho:o.op=.nilCheck x) (hx:a.eval x=.pointer (some ad)):(execOp a.eval o).run P w=.ok (.value (.pointer (some ad))) w:=by
 unfold execOp
 simp only [ho,hx]
 simp [go_sem]
theorem execBs1 {x:Operand} {z:Int} (ho:o.op=.buildSlice 22 1 #[(0,x)]) (hx:a.eval x=.int .i64 z):(execOp a.eval o).run Try.prog w=.ok (.value (.slice (some ⟨w.heap.size,0,none⟩) 1 1)) (w.alloc (.cells #[.int .i64 z] 3)):=by
 unfold execOp
 simp only [ho,List.map_toArray,List.map_cons,List.map_nil,hx]
 simp [go_sem]
end
end Go.Proofs.Ytjjegmflllpknaa.Loo

namespace Go.Proofs.Ytjjegmflllpknaa.Loo
open Go.RowKit Gf8 Aes By8 Cel Cf Win Drw Prm
/- The log's ready and step. Written by tools/mkT8b.py. -/
theorem grC19 {W:World} {g k:Nat} {u:Value}:W.grownBy (W.setCell ⟨g,k,none⟩ u) (some g):=by
 have hb:Below g W (W.setCell ⟨g,k,none⟩ u):=(Below.refl _ _).setCell (p:=⟨g,k,none⟩) (Nat.le_refl _) u
 refine ⟨hb.os,hb.tape,hb.output,hb.size,fun b hbs hne=>?_⟩
 have hn:b ≠ g:=fun e=>hne (by rw [e])
 simp [World.setCell,Array.getElem?_modify,hn.symm]
theorem keep_over19 {W X:World} {B n g s:Nat} {v:Value} {xs:List Value} {t u:TypeId} {c:Array Value} (hg:W.heap[g]?=some (.cells c t)) (own:W.ownsRow B u s v n xs) (gr:W.grownBy X v.ownBlock) (ht:t ≠ u):X.heap[g]?=some (.cells c t):=by
 rw [gr.block g (Array.getElem?_eq_some_iff.1 hg).1 (fun e=>?_)]
 ·exact hg
 ·rcases own.2 with ⟨e1,_⟩ | ⟨k,cap,cur,e1,_,hk,_⟩
  ·rw [e1] at e; cases e
  ·rw [e1] at e
   cases e
   rw [hg] at hk
   cases hk
   exact ht rfl
theorem ca_up (l:List Nat) (z:Nat):intsL (l.length+1) (up (caF l) l.length ((z:Nat):Int))=intsL (l ++ [z]).length (caF (l ++ [z])):=by
 rw [List.length_append]
 refine intsL_congr fun j hj=>?_
 unfold caF
 by_cases e:j=l.length
 ·rw [e,up_at]; simp
 ·rw [up_ne _ _ e]
  congr 1
  have:j < l.length:=by omega
  simp [List.getD_eq_getElem?_getD,List.getElem?_append_left this]
theorem own_shpZ {W:World} {B n:Nat} {v:Value} {xs:List Value} {t:TypeId} {s:Nat} (h:W.ownsRow B t s v n xs):∃ ao c,v=.slice ao n c:=by
 rcases h.2 with ⟨rfl,rfl⟩ | ⟨g,cap,cur,rfl,_⟩
 ·exact ⟨_,_,rfl⟩
 ·exact ⟨_,_,rfl⟩
theorem own_ca {W:World} {B:Nat} {v:Value} {l:List Nat} {z:Nat} (h:W.ownsRow B 3 1 v (l.length+1) (intsL (l.length+1) (up (caF l) l.length ((z:Nat):Int)))):W.ownsRow B 3 1 v (l ++ [z]).length (intsL (l ++ [z]).length (caF (l ++ [z]))):=by
 rw [← ca_up,List.length_append]
 exact h
end Go.Proofs.Ytjjegmflllpknaa.Loo
