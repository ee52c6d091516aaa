import Derived.Test.YtjjegmflllpknaaN8f
namespace Go.Proofs.Ytjjegmflllpknaa.Loo
open Go.RowKit Gf8 Aes By8 Cel Cf Win Drw Prm
/- The landed loom's isBelow, choose, do. Written by tools/mkN8g.py. -/
theorem norm_in {id:Nat} {Q:Exit->Act->World->Prop} {a:Act} {w:World} (h:Q .normal a w):Exit.inBlock id Q .normal a w:=h
def Does (p:Pl) (G:Ad) (U:World) (M N:Mm) (f:FuncId) (xs:Array Value):Prop:=∀ (ow:Nat->Nat) (V:World),RN p G U ow M V->Calls Try.prog f xs V fun e w'=>e=.returned (.tuple #[])/\To p G U ow V N w'
set_option maxRecDepth 100000 in
set_option maxHeartbeats 4000000 in
theorem pbelow (x b:Int) (V:World) :
  Calls Try.prog 52 #[.int .i64 x,.int .i64 b] V fun e w'=>e=.returned (.bool (decide (0<=x/\x < b)))/\Below V.heap.size V w':=by
 go_enter Try.func52,Try.ntmps52
 refine wo_ 12 [(0,.int .i64 x),(1,.int .i64 b)] ?_
 rintro a A ⟨t0,t1,-⟩
 have BW:Below V.heap.size V V:=Below.refl _ _
 have BB:Below V.heap.size V V:=Below.refl _ _
 refine wp_seq ?_
 refine wi_ A (h2_ t0 t1) (rf_ [] (h2_ t0 t1) ?_)
 rintro a A - ⟨t0,t1,-⟩
 by_cases hg:0<=x
 ·have hr:decide (0<=x/\x < b)=decide (x < b):=decide_eq_decide.2 ⟨fun q=>q.2,fun q=>⟨hg,q⟩⟩
  refine wp_seq ?_
  refine wi_ A (h2_ t0 t1) (rv_ 1 (.bool true) (fun a E=>execDec (exIgeq3 (p:=x) (q:=0) rfl (E _) rfl) (decide_eq_true hg)) (rv_ 5 (.bool (decide (x < b))) (fun a E=>exIlss3 (p:=x) (q:=b) rfl (E _) (E _)) (rg_ [(4,.bool (decide (x < b)))] ?_)))
  rintro a A ⟨t4,-⟩
  refine wp_ret ?_
  repeat (first | with_reducible refine ret_in ?_ | with_reducible refine ret_then ?_)
  refine bodyPost_ret (results_tmp rfl _ _ _) A.2 ⟨?_,BB⟩
  show Ending.returned (a.eval (.tmp 4))=_
  rw [t4]
  rw [hr]
 ·have hr:decide (0<=x/\x < b)=false:=decide_eq_false (fun q=>hg q.1)
  refine wp_seq ?_
  refine wi_ A (h2_ t0 t1) (rv_ 1 (.bool false) (fun a E=>execDec (exIgeq3 (p:=x) (q:=0) rfl (E _) rfl) (decide_eq_false hg)) (rg_ [(4,.bool false)] ?_))
  rintro a A ⟨t4,-⟩
  refine wp_ret ?_
  repeat (first | with_reducible refine ret_in ?_ | with_reducible refine ret_then ?_)
  refine bodyPost_ret (results_tmp rfl _ _ _) A.2 ⟨?_,BB⟩
  show Ending.returned (a.eval (.tmp 4))=_
  rw [t4]
  rw [hr]
set_option maxRecDepth 100000 in
set_option maxHeartbeats 4000000 in
theorem pchoose_a {p:Pl} {G:Ad} {U V:World} {ow:Nat->Nat} {M:Mm} {N_:Mm} {u i j:Nat} {k:Int} (hR:RN p G U ow M V) (_hu:u < p.n) (hi:i < p.d) (hy:rdyM p M i=true) (hT:Does p G U M N_ 66 #[.pointer (some ⟨G.rb,0,none⟩),.pointer (some ⟨G.hn u,0,none⟩),.int .i64 ((i:Nat):Int)]) :
  Calls Try.prog 67 #[.pointer (some ⟨G.rb,0,none⟩),.pointer (some ⟨G.hn u,0,none⟩),.agg (oC k ((i:Nat):Int) ((j:Nat):Int))] V fun e w'=>e=.returned (.tuple #[])/\To p G U ow V N_ w':=by
 go_enter Try.func67,Try.ntmps67
 refine wo_ 46 [(0,.pointer (some ⟨G.rb,0,none⟩)),(1,.pointer (some ⟨G.hn u,0,none⟩)),(2,.agg (oC k ((i:Nat):Int) ((j:Nat):Int)))] ?_
 rintro a A ⟨t0,t1,t2,-⟩
 have BW:Below V.heap.size V V:=Below.refl _ _
 have BB:Below V.heap.size V V:=Below.refl _ _
 refine wp_seq ?_
 obtain ⟨g5,egg5⟩:∃ z_:Nat,V.heap.size=z_:=⟨_,rfl⟩
 refine wi_ A (h3_ t0 t1 t2) (rs_ 0 (fun a E=>?_))
 refine stepV rfl rfl (execBxO rfl (E _)) ⟨.pointer (some ⟨g5,0,none⟩),⟨_,rfl,by subst egg5; rfl⟩,fun X0 hX=>?_⟩
 have bQ:Below V.heap.size V X0:=by subst hX egg5; exact (belNew V _)
 have Fg5:(X0.heap[g5]?=some (.cells (oC k ((i:Nat):Int) ((j:Nat):Int)) 59)):=by subst hX egg5; exact heapNew V _
 replace BB:=BB.trans (bQ.mono BB.size)
 clear bQ hX egg5 E a
 refine rf_ [(5,.pointer (some ⟨g5,0,none⟩))] (h2_ t0 t1) ?_
 rintro a A ⟨t5,-⟩ ⟨t0,t1,-⟩
 refine wp_block ?_
 refine wp_seq ?_
 refine wi_ A (h3_ t0 t1 t5) (rv_ 1 (.pointer (some ⟨g5,1,none⟩)) (fun a E=>execOf1 rfl (E _)) (rv_ 2 (.int .i64 ((i:Nat):Int)) (fun a E=>execLdG rfl (Or.inr (Or.inl rfl)) (E _) (oC_at Fg5).2.1) (rc_ 3 ((hy ▸ pready (hR.on BB) hi)) (cb_ fun X2 bQ=>?_))))
 replace Fg5:=(on9 Fg5 bQ)
 replace BB:=BB.trans (bQ.mono BB.size)
 clear bQ
 refine rf_ [(8,.bool true)] (h3_ t0 t1 t5) ?_
 rintro a A ⟨t8,-⟩ ⟨t0,t1,t5,-⟩
 have S0:=hR.st
 replace S0:=S0.on BB
 clear BB
 have BB:Below X2.heap.size X2 X2:=Below.refl _ _
 refine wp_cond_true t8 ?_
 clear t8
 refine wi_ A (h3_ t0 t1 t5) (rv_ 2 (.pointer (some ⟨g5,1,none⟩)) (fun a E=>execOf1 rfl (E _)) (rv_ 3 (.int .i64 ((i:Nat):Int)) (fun a E=>execLdG rfl (Or.inr (Or.inl rfl)) (E _) (oC_at (on9 Fg5 BB)).2.1) (rc_ 4 (hT ow X2 (S0.rn.on BB)) (fun e X1 hh=>?_))))
 obtain ⟨he,ow1,S1⟩:=hh
 refine ⟨_,he,?_⟩
 refine rg_ [] ?_
 rintro a A -
 refine norm_in ?_
 exact bodyPost_end (results_none rfl _ _ _) A.2 ⟨rfl,ow1,(S0.on BB).then_ S1⟩
set_option maxRecDepth 100000 in
set_option maxHeartbeats 4000000 in
theorem pchoose_b {p:Pl} {G:Ad} {U V:World} {ow:Nat->Nat} {M:Mm} {N_:Mm} {u i j:Nat} {k:Int} (hR:RN p G U ow M V) (_hu:u < p.n) (hi:i < p.d) (hj:j < p.d) (hy:rdyM p M i=false) (hz:rdyM p M j=true) (hT:Does p G U M N_ 66 #[.pointer (some ⟨G.rb,0,none⟩),.pointer (some ⟨G.hn u,0,none⟩),.int .i64 ((j:Nat):Int)]) :
  Calls Try.prog 67 #[.pointer (some ⟨G.rb,0,none⟩),.pointer (some ⟨G.hn u,0,none⟩),.agg (oC k ((i:Nat):Int) ((j:Nat):Int))] V fun e w'=>e=.returned (.tuple #[])/\To p G U ow V N_ w':=by
 go_enter Try.func67,Try.ntmps67
 refine wo_ 46 [(0,.pointer (some ⟨G.rb,0,none⟩)),(1,.pointer (some ⟨G.hn u,0,none⟩)),(2,.agg (oC k ((i:Nat):Int) ((j:Nat):Int)))] ?_
 rintro a A ⟨t0,t1,t2,-⟩
 have BW:Below V.heap.size V V:=Below.refl _ _
 have BB:Below V.heap.size V V:=Below.refl _ _
 refine wp_seq ?_
 obtain ⟨g5,egg5⟩:∃ z_:Nat,V.heap.size=z_:=⟨_,rfl⟩
 refine wi_ A (h3_ t0 t1 t2) (rs_ 0 (fun a E=>?_))
 refine stepV rfl rfl (execBxO rfl (E _)) ⟨.pointer (some ⟨g5,0,none⟩),⟨_,rfl,by subst egg5; rfl⟩,fun X0 hX=>?_⟩
 have bQ:Below V.heap.size V X0:=by subst hX egg5; exact (belNew V _)
 have Fg5:(X0.heap[g5]?=some (.cells (oC k ((i:Nat):Int) ((j:Nat):Int)) 59)):=by subst hX egg5; exact heapNew V _
 replace BB:=BB.trans (bQ.mono BB.size)
 clear bQ hX egg5 E a
 refine rf_ [(5,.pointer (some ⟨g5,0,none⟩))] (h2_ t0 t1) ?_
 rintro a A ⟨t5,-⟩ ⟨t0,t1,-⟩
 refine wp_block ?_
 refine wp_seq ?_
 refine wi_ A (h3_ t0 t1 t5) (rv_ 1 (.pointer (some ⟨g5,1,none⟩)) (fun a E=>execOf1 rfl (E _)) (rv_ 2 (.int .i64 ((i:Nat):Int)) (fun a E=>execLdG rfl (Or.inr (Or.inl rfl)) (E _) (oC_at Fg5).2.1) (rc_ 3 ((hy ▸ pready (hR.on BB) hi)) (cb_ fun X2 bQ=>?_))))
 replace Fg5:=(on9 Fg5 bQ)
 replace BB:=BB.trans (bQ.mono BB.size)
 clear bQ
 refine rf_ [(8,.bool false)] (h3_ t0 t1 t5) ?_
 rintro a A ⟨t8,-⟩ ⟨t0,t1,t5,-⟩
 have S0:=hR.st
 replace S0:=S0.on BB
 clear BB
 have BB:Below X2.heap.size X2 X2:=Below.refl _ _
 refine wp_cond_false t8 ?_
 clear t8
 refine wp_seq ?_
 refine wi_ A (h3_ t0 t1 t5) (rv_ 1 (.pointer (some ⟨g5,2,none⟩)) (fun a E=>execOf2 rfl (E _)) (rv_ 2 (.int .i64 ((j:Nat):Int)) (fun a E=>execLdG rfl (Or.inr (Or.inl rfl)) (E _) (oC_at (on9 Fg5 BB)).2.2) (rc_ 3 ((hz ▸ pready (S0.rn.on BB) hj)) (cb_ fun X4 bQ=>?_))))
 replace BB:=BB.trans (bQ.mono BB.size)
 clear bQ
 refine rf_ [(18,.bool true)] (h3_ t0 t1 t5) ?_
 rintro a A ⟨t18,-⟩ ⟨t0,t1,t5,-⟩
 replace S0:=S0.on BB
 replace Fg5:=on9 Fg5 BB
 clear BB
 have BB:Below X4.heap.size X4 X4:=Below.refl _ _
 refine wp_cond_true t18 ?_
 clear t18
 refine wi_ A (h3_ t0 t1 t5) (rv_ 2 (.pointer (some ⟨g5,2,none⟩)) (fun a E=>execOf2 rfl (E _)) (rv_ 3 (.int .i64 ((j:Nat):Int)) (fun a E=>execLdG rfl (Or.inr (Or.inl rfl)) (E _) (oC_at (on9 Fg5 BB)).2.2) (rc_ 4 (hT ow X4 (S0.rn.on BB)) (fun e X1 hh=>?_))))
 obtain ⟨he,ow1,S1⟩:=hh
 refine ⟨_,he,?_⟩
 refine rg_ [] ?_
 rintro a A -
 refine norm_in ?_
 exact bodyPost_end (results_none rfl _ _ _) A.2 ⟨rfl,ow1,(S0.on BB).then_ S1⟩
set_option maxRecDepth 100000 in
set_option maxHeartbeats 4000000 in
theorem pchoose_w {p:Pl} {G:Ad} {U V:World} {ow:Nat->Nat} {M:Mm} {u i j:Nat} {k:Int} (hR:RN p G U ow M V) (hu:u < p.n) (hi:i < p.d) (hj:j < p.d) (hy:rdyM p M i=false) (hz:rdyM p M j=false) {z:Nat} (hz0:M.rg u=((z:Nat):Int)) (hzl:z < p.ln u) :
  Calls Try.prog 67 #[.pointer (some ⟨G.rb,0,none⟩),.pointer (some ⟨G.hn u,0,none⟩),.agg (oC k ((i:Nat):Int) ((j:Nat):Int))] V fun e w'=>e=.returned (.tuple #[])/\To p G U ow V { M with pl:=upf M.pl u z } w':=by
 have hq:decide (0<=M.rg u/\M.rg u < ((p.ln u:Nat):Int))=true:=decide_eq_true (by omega)
 go_enter Try.func67,Try.ntmps67
 refine wo_ 46 [(0,.pointer (some ⟨G.rb,0,none⟩)),(1,.pointer (some ⟨G.hn u,0,none⟩)),(2,.agg (oC k ((i:Nat):Int) ((j:Nat):Int)))] ?_
 rintro a A ⟨t0,t1,t2,-⟩
 have BW:Below V.heap.size V V:=Below.refl _ _
 have BB:Below V.heap.size V V:=Below.refl _ _
 refine wp_seq ?_
 obtain ⟨g5,egg5⟩:∃ z_:Nat,V.heap.size=z_:=⟨_,rfl⟩
 refine wi_ A (h3_ t0 t1 t2) (rs_ 0 (fun a E=>?_))
 refine stepV rfl rfl (execBxO rfl (E _)) ⟨.pointer (some ⟨g5,0,none⟩),⟨_,rfl,by subst egg5; rfl⟩,fun X0 hX=>?_⟩
 have bQ:Below V.heap.size V X0:=by subst hX egg5; exact (belNew V _)
 have Fg5:(X0.heap[g5]?=some (.cells (oC k ((i:Nat):Int) ((j:Nat):Int)) 59)):=by subst hX egg5; exact heapNew V _
 replace BB:=BB.trans (bQ.mono BB.size)
 clear bQ hX egg5 E a
 refine rf_ [(5,.pointer (some ⟨g5,0,none⟩))] (h2_ t0 t1) ?_
 rintro a A ⟨t5,-⟩ ⟨t0,t1,-⟩
 refine wp_block ?_
 refine wp_seq ?_
 refine wi_ A (h3_ t0 t1 t5) (rv_ 1 (.pointer (some ⟨g5,1,none⟩)) (fun a E=>execOf1 rfl (E _)) (rv_ 2 (.int .i64 ((i:Nat):Int)) (fun a E=>execLdG rfl (Or.inr (Or.inl rfl)) (E _) (oC_at Fg5).2.1) (rc_ 3 ((hy ▸ pready (hR.on BB) hi)) (cb_ fun X2 bQ=>?_))))
 replace Fg5:=(on9 Fg5 bQ)
 replace BB:=BB.trans (bQ.mono BB.size)
 clear bQ
 refine rf_ [(8,.bool false)] (h3_ t0 t1 t5) ?_
 rintro a A ⟨t8,-⟩ ⟨t0,t1,t5,-⟩
 have S0:=hR.st
 replace S0:=S0.on BB
 clear BB
 have BB:Below X2.heap.size X2 X2:=Below.refl _ _
 refine wp_cond_false t8 ?_
 clear t8
 refine wp_seq ?_
 refine wi_ A (h3_ t0 t1 t5) (rv_ 1 (.pointer (some ⟨g5,2,none⟩)) (fun a E=>execOf2 rfl (E _)) (rv_ 2 (.int .i64 ((j:Nat):Int)) (fun a E=>execLdG rfl (Or.inr (Or.inl rfl)) (E _) (oC_at (on9 Fg5 BB)).2.2) (rc_ 3 ((hz ▸ pready (S0.rn.on BB) hj)) (cb_ fun X4 bQ=>?_))))
 replace BB:=BB.trans (bQ.mono BB.size)
 clear bQ
 refine rf_ [(18,.bool false)] (h3_ t0 t1 t5) ?_
 rintro a A ⟨t18,-⟩ ⟨t0,t1,t5,-⟩
 replace S0:=S0.on BB
 replace Fg5:=on9 Fg5 BB
 clear BB
 have BB:Below X4.heap.size X4 X4:=Below.refl _ _
 refine wp_cond_false t18 ?_
 clear t18
 refine wp_seq ?_
 refine wj_ [0,1,2,3,4,5,6,7,8,9,10] [9] [3,7] [] A (h3_ t0 t1 t5) (fun X6_0 bD=>?_)
 refine dw_ 1 (.pointer (some ⟨G.hn u,0,none⟩)) (fun a X E=>Duc.execNl rfl (E _)) (dw_ 2 (.pointer (some ⟨G.hn u,2,none⟩)) (fun a X E=>execNf2 rfl (E _)) (dv_ 3 (.int .i64 (M.rg u)) (fun a X E hb=>execLdG rfl (Or.inr (Or.inl rfl)) (E _) ((S0.rn.on (BB.trans (hb.mono BB.size))).nc hu).2.2) (dw_ 5 (.pointer (some ⟨G.hn u,0,none⟩)) (fun a X E=>Duc.execNl rfl (E _)) (dw_ 6 (.pointer (some ⟨G.hn u,0,none⟩)) (fun a X E=>execNf0 rfl (E _)) (dv_ 7 (G.ops u) (fun a X E hb=>execLdG rfl (Or.inr (Or.inr (Or.inr (Or.inr (Or.inr rfl))))) (E _) ((S0.rn.on (BB.trans (hb.mono BB.size))).nc hu).1) (dw_ 8 (.int .i64 ((p.ln u:Nat):Int)) (fun a X E=>execLnOs (len:=p.ln u) rfl (E _) ((hR.ops u hu).shp)) (dc_ 9 ((hq ▸ pbelow (M.rg u) ((p.ln u:Nat):Int) X6_0)) (cb_ fun X6 bQ=>?_))))))))
 replace bD:=bD.trans (bQ.mono bD.size)
 clear bQ
 refine ⟨Or.inr bD,?_⟩
 refine dz_ [(28,.bool true)] (h2_ t0 t1) ?_
 rintro a A ⟨t28,-⟩ ⟨t0,t1,-⟩
 replace BB:=BB.trans (bD.mono BB.size)
 clear bD
 replace S0:=S0.on BB
 replace Fg5:=on9 Fg5 BB
 clear BB
 have BB:Below X6.heap.size X6 X6:=Below.refl _ _
 refine wp_cond_true t28 ?_
 clear t28
 refine wi_ A (h2_ t0 t1) (rv_ 2 (.pointer (some ⟨G.hn u,0,none⟩)) (fun a E=>Duc.execNl rfl (E _)) (rv_ 3 (.pointer (some ⟨G.hn u,2,none⟩)) (fun a E=>execNf2 rfl (E _)) (rv_ 4 (.int .i64 ((z:Nat):Int)) (fun a E=>execLdG rfl (Or.inr (Or.inl rfl)) (E _) (hz0 ▸ ((S0.rn.on BB).nc hu).2.2)) (rv_ 5 (.pointer (some ⟨G.hn u,0,none⟩)) (fun a E=>Duc.execNl rfl (E _)) (rv_ 6 (.pointer (some ⟨G.hn u,1,none⟩)) (fun a E=>execNf1 rfl (E _)) (rs_ 7 (fun a E=>?_)))))))
 refine stepS rfl rfl (execSt9 rfl (Or.inl rfl) (E _) (E _) (Or.inl ⟨_,_,rfl⟩) ((S0.rn.on BB).nc hu).2.1 ((S0.rn.on BB).fzH hu 1)) ⟨_,⟨_,rfl,rfl⟩,fun X1 hX=>?_⟩
 refine rg_ [] ?_
 rintro a A -
 refine norm_in ?_
 exact bodyPost_end (results_none rfl _ _ _) A.2 ⟨rfl,ow,(S0.on BB).setPl hu (by omega) hX⟩
set_option maxRecDepth 100000 in
set_option maxHeartbeats 4000000 in
theorem pchoose_e {p:Pl} {G:Ad} {U V:World} {ow:Nat->Nat} {M:Mm} {u i j:Nat} {k:Int} (hR:RN p G U ow M V) (hu:u < p.n) (hi:i < p.d) (hj:j < p.d) (hy:rdyM p M i=false) (hz:rdyM p M j=false) (hq0:¬ (0<=M.rg u/\M.rg u < ((p.ln u:Nat):Int))) :
  Calls Try.prog 67 #[.pointer (some ⟨G.rb,0,none⟩),.pointer (some ⟨G.hn u,0,none⟩),.agg (oC k ((i:Nat):Int) ((j:Nat):Int))] V fun e w'=>e=.returned (.tuple #[])/\To p G U ow V { M with pl:=upf M.pl u (p.ln u) } w':=by
 have hq:decide (0<=M.rg u/\M.rg u < ((p.ln u:Nat):Int))=false:=decide_eq_false hq0
 go_enter Try.func67,Try.ntmps67
 refine wo_ 46 [(0,.pointer (some ⟨G.rb,0,none⟩)),(1,.pointer (some ⟨G.hn u,0,none⟩)),(2,.agg (oC k ((i:Nat):Int) ((j:Nat):Int)))] ?_
 rintro a A ⟨t0,t1,t2,-⟩
 have BW:Below V.heap.size V V:=Below.refl _ _
 have BB:Below V.heap.size V V:=Below.refl _ _
 refine wp_seq ?_
 obtain ⟨g5,egg5⟩:∃ z_:Nat,V.heap.size=z_:=⟨_,rfl⟩
 refine wi_ A (h3_ t0 t1 t2) (rs_ 0 (fun a E=>?_))
 refine stepV rfl rfl (execBxO rfl (E _)) ⟨.pointer (some ⟨g5,0,none⟩),⟨_,rfl,by subst egg5; rfl⟩,fun X0 hX=>?_⟩
 have bQ:Below V.heap.size V X0:=by subst hX egg5; exact (belNew V _)
 have Fg5:(X0.heap[g5]?=some (.cells (oC k ((i:Nat):Int) ((j:Nat):Int)) 59)):=by subst hX egg5; exact heapNew V _
 replace BB:=BB.trans (bQ.mono BB.size)
 clear bQ hX egg5 E a
 refine rf_ [(5,.pointer (some ⟨g5,0,none⟩))] (h2_ t0 t1) ?_
 rintro a A ⟨t5,-⟩ ⟨t0,t1,-⟩
 refine wp_block ?_
 refine wp_seq ?_
 refine wi_ A (h3_ t0 t1 t5) (rv_ 1 (.pointer (some ⟨g5,1,none⟩)) (fun a E=>execOf1 rfl (E _)) (rv_ 2 (.int .i64 ((i:Nat):Int)) (fun a E=>execLdG rfl (Or.inr (Or.inl rfl)) (E _) (oC_at Fg5).2.1) (rc_ 3 ((hy ▸ pready (hR.on BB) hi)) (cb_ fun X2 bQ=>?_))))
 replace Fg5:=(on9 Fg5 bQ)
 replace BB:=BB.trans (bQ.mono BB.size)
 clear bQ
 refine rf_ [(8,.bool false)] (h3_ t0 t1 t5) ?_
 rintro a A ⟨t8,-⟩ ⟨t0,t1,t5,-⟩
 have S0:=hR.st
 replace S0:=S0.on BB
 clear BB
 have BB:Below X2.heap.size X2 X2:=Below.refl _ _
 refine wp_cond_false t8 ?_
 clear t8
 refine wp_seq ?_
 refine wi_ A (h3_ t0 t1 t5) (rv_ 1 (.pointer (some ⟨g5,2,none⟩)) (fun a E=>execOf2 rfl (E _)) (rv_ 2 (.int .i64 ((j:Nat):Int)) (fun a E=>execLdG rfl (Or.inr (Or.inl rfl)) (E _) (oC_at (on9 Fg5 BB)).2.2) (rc_ 3 ((hz ▸ pready (S0.rn.on BB) hj)) (cb_ fun X4 bQ=>?_))))
 replace BB:=BB.trans (bQ.mono BB.size)
 clear bQ
 refine rf_ [(18,.bool false)] (h3_ t0 t1 t5) ?_
 rintro a A ⟨t18,-⟩ ⟨t0,t1,t5,-⟩
 replace S0:=S0.on BB
 replace Fg5:=on9 Fg5 BB
 clear BB
 have BB:Below X4.heap.size X4 X4:=Below.refl _ _
 refine wp_cond_false t18 ?_
 clear t18
 refine wp_seq ?_
 refine wj_ [0,1,2,3,4,5,6,7,8,9,10] [9] [3,7] [] A (h3_ t0 t1 t5) (fun X6_0 bD=>?_)
 refine dw_ 1 (.pointer (some ⟨G.hn u,0,none⟩)) (fun a X E=>Duc.execNl rfl (E _)) (dw_ 2 (.pointer (some ⟨G.hn u,2,none⟩)) (fun a X E=>execNf2 rfl (E _)) (dv_ 3 (.int .i64 (M.rg u)) (fun a X E hb=>execLdG rfl (Or.inr (Or.inl rfl)) (E _) ((S0.rn.on (BB.trans (hb.mono BB.size))).nc hu).2.2) (dw_ 5 (.pointer (some ⟨G.hn u,0,none⟩)) (fun a X E=>Duc.execNl rfl (E _)) (dw_ 6 (.pointer (some ⟨G.hn u,0,none⟩)) (fun a X E=>execNf0 rfl (E _)) (dv_ 7 (G.ops u) (fun a X E hb=>execLdG rfl (Or.inr (Or.inr (Or.inr (Or.inr (Or.inr rfl))))) (E _) ((S0.rn.on (BB.trans (hb.mono BB.size))).nc hu).1) (dw_ 8 (.int .i64 ((p.ln u:Nat):Int)) (fun a X E=>execLnOs (len:=p.ln u) rfl (E _) ((hR.ops u hu).shp)) (dc_ 9 ((hq ▸ pbelow (M.rg u) ((p.ln u:Nat):Int) X6_0)) (cb_ fun X6 bQ=>?_))))))))
 replace bD:=bD.trans (bQ.mono bD.size)
 clear bQ
 refine ⟨Or.inr bD,?_⟩
 refine dz_ [(28,.bool false)] (h2_ t0 t1) ?_
 rintro a A ⟨t28,-⟩ ⟨t0,t1,-⟩
 replace BB:=BB.trans (bD.mono BB.size)
 clear bD
 replace S0:=S0.on BB
 replace Fg5:=on9 Fg5 BB
 clear BB
 have BB:Below X6.heap.size X6 X6:=Below.refl _ _
 refine wp_cond_false t28 ?_
 clear t28
 refine wi_ A (h2_ t0 t1) (rc_ 1 (phend (S0.rn.on BB) hu) (fun e X1 hh=>?_))
 obtain ⟨he,ow1,S1⟩:=hh
 refine ⟨_,he,?_⟩
 refine rg_ [] ?_
 rintro a A -
 refine norm_in ?_
 exact bodyPost_end (results_none rfl _ _ _) A.2 ⟨rfl,ow1,(S0.on BB).then_ S1⟩
structure DoC (p:Pl) (G:Ad) (U:World) (M:Mm) (u:Nat) (k ka kb:Int) (N_:Mm):Prop where
 c1:k=1->∃ i:Nat,ka=((i:Nat):Int)/\Does p G U { M with pl:=upf M.pl u (M.pl u+1) } N_ 65 #[.pointer (some ⟨G.rb,0,none⟩),.pointer (some ⟨G.hn u,0,none⟩),.int .i64 ((i:Nat):Int)]:=by intro e; omega
 c2:k=2->∃ i j:Nat,ka=((i:Nat):Int)/\kb=((j:Nat):Int)/\i < p.d/\(rdyM p { M with pl:=upf M.pl u (M.pl u+1) } i=true/\Does p G U { M with pl:=upf M.pl u (M.pl u+1) } N_ 66 #[.pointer (some ⟨G.rb,0,none⟩),.pointer (some ⟨G.hn u,0,none⟩),.int .i64 ((i:Nat):Int)]\/rdyM p { M with pl:=upf M.pl u (M.pl u+1) } i=false/\j<=p.ln u/\N_={ M with pl:=upf (upf M.pl u (M.pl u+1)) u j }):=by intro e; omega
 c8:k=8->∃ i j:Nat,ka=((i:Nat):Int)/\kb=((j:Nat):Int)/\Does p G U { M with pl:=upf M.pl u (M.pl u+1) } N_ 67 #[.pointer (some ⟨G.rb,0,none⟩),.pointer (some ⟨G.hn u,0,none⟩),.agg (oC 8 ((i:Nat):Int) ((j:Nat):Int))]:=by intro e; omega
 c3:k=3->∃ i:Nat,ka=((i:Nat):Int)/\i < p.d/\(M.cl i=true/\M.lt < 1000000/\N_={ M with pl:=upf M.pl u (M.pl u+1),cl:=upf M.cl i true,lt:=M.lt+1 }\/M.cl i=false/\N_={ M with pl:=upf M.pl u (M.pl u+1),cl:=upf M.cl i true }):=by intro e; omega
 c4:k=4->I64 ((0:Int)+ka)/\N_={ M with pl:=upf M.pl u (M.pl u+1),rg:=upf (upf M.rg u 0) u (0+ka) }:=by intro e; omega
 c5:k=5->I64 (M.rg u+ka)/\N_={ M with pl:=upf M.pl u (M.pl u+1),rg:=upf M.rg u (M.rg u+ka) }:=by intro e; omega
 c7:k=7->∃ i:Nat,ka=((i:Nat):Int)/\(M.rg u=kb/\N_={ M with pl:=upf M.pl u (M.pl u+1) }\/¬ M.rg u=kb/\i<=p.ln u/\N_={ M with pl:=upf (upf M.pl u (M.pl u+1)) u i }):=by intro e; omega
 c6:k=6->∃ i:Nat,ka=((i:Nat):Int)/\i<=p.ln u/\N_={ M with pl:=upf (upf M.pl u (M.pl u+1)) u i }:=by intro e; omega
 c10:k=10->N_={ M with pl:=upf (upf M.pl u (M.pl u+1)) u (p.ln u) }:=by intro e; omega
 c0:k ≠ 1/\k ≠ 2/\k ≠ 3/\k ≠ 4/\k ≠ 5/\k ≠ 6/\k ≠ 7/\k ≠ 8/\k ≠ 10->N_={ M with pl:=upf M.pl u (M.pl u+1) }:=by intro e; omega
set_option maxRecDepth 100000 in
set_option maxHeartbeats 4000000 in
theorem pdoC {p:Pl} {G:Ad} {U V:World} {ow:Nat->Nat} {M:Mm} {N_:Mm} {u:Nat} {k ka kb:Int} (hR:RN p G U ow M V) (hu:u < p.n) (hl:M.pl u < p.ln u) (hop:p.op u (M.pl u)=⟨k,ka,kb⟩) (C:DoC p G U M u k ka kb N_) :
  Calls Try.prog 60 #[.pointer (some ⟨G.rb,0,none⟩),.pointer (some ⟨G.hn u,0,none⟩)] V fun e w'=>e=.returned (.tuple #[])/\To p G U ow V N_ w':=by
 obtain ⟨ob_,oo,oc_,eo⟩:=hR.opf hu hl
 have hb2:=hR.ok.ln u hu
 go_enter Try.func60,Try.ntmps60
 refine wo_ 108 [(0,.pointer (some ⟨G.rb,0,none⟩)),(1,.pointer (some ⟨G.hn u,0,none⟩))] ?_
 rintro a A ⟨t0,t1,-⟩
 have BW:Below V.heap.size V V:=Below.refl _ _
 have BB:Below V.heap.size V V:=Below.refl _ _
 refine wp_seq ?_
 refine wj_ [0,1,2,3,4,5,6,7,8,9,10,11] [10,11] [3,7,9] [11] A (h2_ t0 t1) (fun X0_0 bD=>?_)
 obtain ⟨g4,egg4⟩:∃ z_:Nat,X0_0.heap.size=z_:=⟨_,rfl⟩
 refine dw_ 1 (.pointer (some ⟨G.hn u,0,none⟩)) (fun a X E=>Duc.execNl rfl (E _)) (dw_ 2 (.pointer (some ⟨G.hn u,0,none⟩)) (fun a X E=>execNf0 rfl (E _)) (dv_ 3 (G.ops u) (fun a X E hb=>execLdG rfl (Or.inr (Or.inr (Or.inr (Or.inr (Or.inr rfl))))) (E _) ((hR.on (BB.trans (hb.mono BB.size))).nc hu).1) (dw_ 5 (.pointer (some ⟨G.hn u,0,none⟩)) (fun a X E=>Duc.execNl rfl (E _)) (dw_ 6 (.pointer (some ⟨G.hn u,1,none⟩)) (fun a X E=>execNf1 rfl (E _)) (dv_ 7 (.int .i64 ((M.pl u:Nat):Int)) (fun a X E hb=>execLdG rfl (Or.inr (Or.inl rfl)) (E _) ((hR.on (BB.trans (hb.mono BB.size))).nc hu).2.1) (dw_ 8 (.pointer (some ⟨ob_,oo+(M.pl u) * 3,none⟩)) (fun a X E=>execIxOs (k:=M.pl u) rfl ((E _).trans eo) (E _) hl) (dv_ 9 (.agg (oC k ka kb)) (fun a X E hb=>execLdO rfl (E _) (hop ▸ SliceO.at ((hR.on (BB.trans (hb.mono BB.size))).opl hu) eo hl)) (ds_ 10 (fun a E=>?_)))))))))
 refine stepV rfl rfl (execAlO rfl) ⟨.pointer (some ⟨g4,0,none⟩),⟨_,rfl,by subst egg4; rfl⟩,fun X0_1 hX=>?_⟩
 have bQ:Below X0_0.heap.size X0_0 X0_1:=by subst hX egg4; exact (belNew X0_0 _)
 have Fg4:X0_1.heap[g4]?=some (.cells (oC 0 0 0) 59):=by subst hX egg4; exact heapNew X0_0 _
 have Fgeg4:(V.heap.size<=g4):=by subst hX egg4; exact ((BB.trans (bD.mono BB.size))).size
 replace bD:=bD.trans (bQ.mono bD.size)
 clear bQ hX egg4 E a
 refine ⟨Or.inr bD,?_⟩
 refine ds_ 11 (fun a E=>?_)
 refine stepS rfl rfl (execStO rfl (E _) (E _) Fg4) ⟨_,⟨_,rfl,rfl⟩,fun X0 hX=>?_⟩
 obtain ⟨BB,Fg4s⟩:Below V.heap.size V X0/\X0.heap[g4]?=some (.cells (oC k ka kb) 59):=by rw [hX]; exact ⟨below4 (BB.trans (bD.mono BB.size)) Fgeg4 _,setRow_heap _ _ _ _ _ _ Fg4⟩
 clear hX E a Fg4 bD
 refine ⟨Or.inl rfl,?_⟩
 refine dz_ [(4,.pointer (some ⟨g4,0,none⟩))] (h2_ t0 t1) ?_
 rintro a A ⟨t4,-⟩ ⟨t0,t1,-⟩
 refine wp_seq ?_
 refine wi_ A (h3_ t0 t1 t4) (rv_ 1 (.pointer (some ⟨G.hn u,0,none⟩)) (fun a E=>Duc.execNl rfl (E _)) (rv_ 2 (.pointer (some ⟨G.hn u,1,none⟩)) (fun a E=>execNf1 rfl (E _)) (rv_ 3 (.int .i64 ((M.pl u:Nat):Int)) (fun a E=>execLdG rfl (Or.inr (Or.inl rfl)) (E _) ((hR.on BB).nc hu).2.1) (rv_ 4 (.int .i64 ((M.pl u+1:Nat):Int)) (fun a E=>execAd8 (p:=M.pl u) (q:=1) rfl (E _) rfl (by omega)) (rv_ 5 (.pointer (some ⟨G.hn u,0,none⟩)) (fun a E=>Duc.execNl rfl (E _)) (rv_ 6 (.pointer (some ⟨G.hn u,1,none⟩)) (fun a E=>execNf1 rfl (E _)) (rs_ 7 (fun a E=>?_))))))))
 refine stepS rfl rfl (execSt9 rfl (Or.inl rfl) (E _) (E _) (Or.inl ⟨_,_,rfl⟩) ((hR.on BB).nc hu).2.1 ((hR.on BB).fzH hu 1)) ⟨_,⟨_,rfl,rfl⟩,fun X1 hX=>?_⟩
 refine rf_ [] (h3_ t0 t1 t4) ?_
 rintro a A - ⟨t0,t1,t4,-⟩
 have S1g:=((hR.on BB).st).setPl (z:=M.pl u+1) hu hl hX
 obtain ⟨Fo,Fz⟩:=S1g.local Fg4s (hR.no Fgeg4)
 have S1:=(hR.st.on BB).then_ S1g
 clear BB
 have BB:Below X1.heap.size X1 X1:=Below.refl _ _
 have Fg4:=Fo
 refine wp_seq ?_
 refine wi_ A (h3_ t0 t1 t4) (rv_ 0 (.pointer (some ⟨g4,0,none⟩)) (fun a E=>execOf0 rfl (E _)) (rv_ 1 (.int .i64 k) (fun a E=>execLdG rfl (Or.inr (Or.inl rfl)) (E _) (oC_at (on9 Fg4 BB)).1) (rf_ [(23,.int .i64 k)] (h3_ t0 t1 t4) ?_)))
 rintro a A ⟨t23,-⟩ ⟨t0,t1,t4,-⟩
 refine wp_block ?_
 refine wp_seq (wp_block ?_)
 refine wp_seq (wp_block ?_)
 refine wp_seq (wp_block ?_)
 refine wp_seq (wp_block ?_)
 refine wp_seq (wp_block ?_)
 refine wp_seq (wp_block ?_)
 refine wp_seq (wp_block ?_)
 refine wp_seq (wp_block ?_)
 refine wp_seq (wp_block ?_)
 refine wp_seq (wp_seq ?_)
 refine wp_seq ?_
 by_cases ek:k=1
 ·refine wi_ A (h4_ t0 t1 t4 t23) (rv_ 0 (.bool true) (fun a E=>execDec (exIeql3 (p:=k) (q:=1) rfl (E _) rfl) (decide_eq_true ek)) (rf_ [(24,.bool true)] (h4_ t0 t1 t4 t23) ?_))
  rintro a A ⟨t24,-⟩ ⟨t0,t1,t4,t23,-⟩
  refine wp_cond_true t24 ?_
  clear t24 t23
  refine wp_exit ?_
  repeat (first | with_reducible refine exit_then ?_ | with_reducible refine exit_out (by decide) ?_)
  refine exit_in ?_
  obtain ⟨i,rfl,hT⟩:=C.c1 ek
  subst ek
  refine wp_seq ?_
  refine wi_ A (h3_ t0 t1 t4) (rv_ 2 (.pointer (some ⟨g4,1,none⟩)) (fun a E=>execOf1 rfl (E _)) (rv_ 3 (.int .i64 ((i:Nat):Int)) (fun a E=>execLdG rfl (Or.inr (Or.inl rfl)) (E _) (oC_at (on9 Fg4 BB)).2.1) (rc_ 4 (hT ow X1 (S1.rn.on BB)) (fun e X2 hh=>?_))))
  obtain ⟨he,ow2,S2⟩:=hh
  refine ⟨_,he,?_⟩
  refine rg_ [] ?_
  rintro a A -
  refine wp_exit ?_
  repeat (first | with_reducible refine exit_then ?_ | with_reducible refine exit_out (by decide) ?_)
  refine exit_in ?_
  exact bodyPost_end (results_none rfl _ _ _) A.2 ⟨rfl,ow2,(S1.on BB).then_ S2⟩
 refine wi_ A (h4_ t0 t1 t4 t23) (rv_ 0 (.bool false) (fun a E=>execDec (exIeql3 (p:=k) (q:=1) rfl (E _) rfl) (decide_eq_false ek)) (rf_ [(24,.bool false)] (h4_ t0 t1 t4 t23) ?_))
 rintro a A ⟨t24,-⟩ ⟨t0,t1,t4,t23,-⟩
 refine wp_cond_false t24 ?_
 clear t24
 refine wp_skip ?_
 have k1:=ek
 clear ek
 refine wp_seq (wp_seq ?_)
 by_cases ek:k=2
 ·refine wi_ A (h4_ t0 t1 t4 t23) (rv_ 0 (.bool true) (fun a E=>execDec (exIeql3 (p:=k) (q:=2) rfl (E _) rfl) (decide_eq_true ek)) (rf_ [(26,.bool true)] (h4_ t0 t1 t4 t23) ?_))
  rintro a A ⟨t26,-⟩ ⟨t0,t1,t4,t23,-⟩
  refine wp_cond_true t26 ?_
  clear t26 t23
  refine wp_exit ?_
  repeat (first | with_reducible refine exit_then ?_ | with_reducible refine exit_out (by decide) ?_)
  refine exit_in ?_
  obtain ⟨i,j,rfl,rfl,hi,hc⟩:=C.c2 ek
  subst ek
  refine wp_seq (wp_seq ?_)
  rcases hc with ⟨hy,hT⟩ | ⟨hy,hj,rfl⟩
  ·refine wi_ A (h3_ t0 t1 t4) (rv_ 1 (.pointer (some ⟨g4,1,none⟩)) (fun a E=>execOf1 rfl (E _)) (rv_ 2 (.int .i64 ((i:Nat):Int)) (fun a E=>execLdG rfl (Or.inr (Or.inl rfl)) (E _) (oC_at (on9 Fg4 BB)).2.1) (rc_ 3 ((hy ▸ pready (S1.rn.on BB) hi)) (cb_ fun X13 bQ=>?_))))
   replace BB:=BB.trans (bQ.mono BB.size)
   clear bQ
   refine rf_ [(50,.bool true)] (h3_ t0 t1 t4) ?_
   rintro a A ⟨t50,-⟩ ⟨t0,t1,t4,-⟩
   refine wp_cond_true t50 ?_
   clear t50
   refine wi_ A (h3_ t0 t1 t4) (rv_ 2 (.pointer (some ⟨g4,1,none⟩)) (fun a E=>execOf1 rfl (E _)) (rv_ 3 (.int .i64 ((i:Nat):Int)) (fun a E=>execLdG rfl (Or.inr (Or.inl rfl)) (E _) (oC_at (on9 Fg4 BB)).2.1) (rc_ 4 (hT ow X13 (S1.rn.on BB)) (fun e X2 hh=>?_))))
   obtain ⟨he,ow2,S2⟩:=hh
   refine ⟨_,he,?_⟩
   refine rg_ [] ?_
   rintro a A -
   refine wp_exit ?_
   repeat (first | with_reducible refine exit_then ?_ | with_reducible refine exit_out (by decide) ?_)
   refine exit_in ?_
   exact bodyPost_end (results_none rfl _ _ _) A.2 ⟨rfl,ow2,(S1.on BB).then_ S2⟩
  ·refine wi_ A (h3_ t0 t1 t4) (rv_ 1 (.pointer (some ⟨g4,1,none⟩)) (fun a E=>execOf1 rfl (E _)) (rv_ 2 (.int .i64 ((i:Nat):Int)) (fun a E=>execLdG rfl (Or.inr (Or.inl rfl)) (E _) (oC_at (on9 Fg4 BB)).2.1) (rc_ 3 ((hy ▸ pready (S1.rn.on BB) hi)) (cb_ fun X13 bQ=>?_))))
   replace BB:=BB.trans (bQ.mono BB.size)
   clear bQ
   refine rf_ [(50,.bool false)] (h3_ t0 t1 t4) ?_
   rintro a A ⟨t50,-⟩ ⟨t0,t1,t4,-⟩
   refine wp_cond_false t50 ?_
   clear t50
   refine wi_ A (h3_ t0 t1 t4) (rv_ 1 (.pointer (some ⟨g4,2,none⟩)) (fun a E=>execOf2 rfl (E _)) (rv_ 2 (.int .i64 ((j:Nat):Int)) (fun a E=>execLdG rfl (Or.inr (Or.inl rfl)) (E _) (oC_at (on9 Fg4 BB)).2.2) (rv_ 3 (.pointer (some ⟨G.hn u,0,none⟩)) (fun a E=>Duc.execNl rfl (E _)) (rv_ 4 (.pointer (some ⟨G.hn u,1,none⟩)) (fun a E=>execNf1 rfl (E _)) (rs_ 5 (fun a E=>?_))))))
   refine stepS rfl rfl (execSt9 rfl (Or.inl rfl) (E _) (E _) (Or.inl ⟨_,_,rfl⟩) ((S1.rn.on BB).nc hu).2.1 ((S1.rn.on BB).fzH hu 1)) ⟨_,⟨_,rfl,rfl⟩,fun X2 hX=>?_⟩
   refine rg_ [] ?_
   rintro a A -
   refine wp_exit ?_
   repeat (first | with_reducible refine exit_then ?_ | with_reducible refine exit_out (by decide) ?_)
   refine exit_in ?_
   exact bodyPost_end (results_none rfl _ _ _) A.2 ⟨rfl,ow,(S1.on BB).setPl hu hj hX⟩
 refine wi_ A (h4_ t0 t1 t4 t23) (rv_ 0 (.bool false) (fun a E=>execDec (exIeql3 (p:=k) (q:=2) rfl (E _) rfl) (decide_eq_false ek)) (rf_ [(26,.bool false)] (h4_ t0 t1 t4 t23) ?_))
 rintro a A ⟨t26,-⟩ ⟨t0,t1,t4,t23,-⟩
 refine wp_cond_false t26 ?_
 clear t26
 refine wp_skip ?_
 have k2:=ek
 clear ek
 refine wp_seq (wp_seq ?_)
 by_cases ek:k=8
 ·refine wi_ A (h4_ t0 t1 t4 t23) (rv_ 0 (.bool true) (fun a E=>execDec (exIeql3 (p:=k) (q:=8) rfl (E _) rfl) (decide_eq_true ek)) (rf_ [(28,.bool true)] (h4_ t0 t1 t4 t23) ?_))
  rintro a A ⟨t28,-⟩ ⟨t0,t1,t4,t23,-⟩
  refine wp_cond_true t28 ?_
  clear t28 t23
  refine wp_exit ?_
  repeat (first | with_reducible refine exit_then ?_ | with_reducible refine exit_out (by decide) ?_)
  refine exit_in ?_
  obtain ⟨i,j,rfl,rfl,hT⟩:=C.c8 ek
  subst ek
  refine wp_seq ?_
  refine wi_ A (h3_ t0 t1 t4) (rv_ 2 (.agg (oC 8 ((i:Nat):Int) ((j:Nat):Int))) (fun a E=>execLdO0 rfl (E _) (on9 Fg4 BB)) (rc_ 3 (hT ow X1 (S1.rn.on BB)) (fun e X2 hh=>?_)))
  obtain ⟨he,ow2,S2⟩:=hh
  refine ⟨_,he,?_⟩
  refine rg_ [] ?_
  rintro a A -
  refine wp_exit ?_
  repeat (first | with_reducible refine exit_then ?_ | with_reducible refine exit_out (by decide) ?_)
  refine exit_in ?_
  exact bodyPost_end (results_none rfl _ _ _) A.2 ⟨rfl,ow2,(S1.on BB).then_ S2⟩
 refine wi_ A (h4_ t0 t1 t4 t23) (rv_ 0 (.bool false) (fun a E=>execDec (exIeql3 (p:=k) (q:=8) rfl (E _) rfl) (decide_eq_false ek)) (rf_ [(28,.bool false)] (h4_ t0 t1 t4 t23) ?_))
 rintro a A ⟨t28,-⟩ ⟨t0,t1,t4,t23,-⟩
 refine wp_cond_false t28 ?_
 clear t28
 refine wp_skip ?_
 have k8:=ek
 clear ek
 refine wp_seq (wp_seq ?_)
 by_cases ek:k=3
 ·refine wi_ A (h4_ t0 t1 t4 t23) (rv_ 0 (.bool true) (fun a E=>execDec (exIeql3 (p:=k) (q:=3) rfl (E _) rfl) (decide_eq_true ek)) (rf_ [(30,.bool true)] (h4_ t0 t1 t4 t23) ?_))
  rintro a A ⟨t30,-⟩ ⟨t0,t1,t4,t23,-⟩
  refine wp_cond_true t30 ?_
  clear t30 t23
  refine wp_exit ?_
  repeat (first | with_reducible refine exit_then ?_ | with_reducible refine exit_out (by decide) ?_)
  refine exit_in ?_
  obtain ⟨i,rfl,hi,hc⟩:=C.c3 ek
  subst ek
  obtain ⟨db,dc,eD⟩:=hR.dO hi
  refine wp_seq (wp_seq ?_)
  rcases hc with ⟨hcl,hlt,rfl⟩ | ⟨hcl,rfl⟩
  ·have hcq:(if M.cl i then 180 else 0:Nat)=180:=by rw [hcl]; rfl
   refine wj_ [0,1,2,3,4,5,6,7,8,9] [8] [3,5,7] [8] A (h3_ t0 t1 t4) (fun X2_0 bD=>?_)
   refine dw_ 1 (.pointer (some ⟨G.rb,0,none⟩)) (fun a X E=>Duc.execNl rfl (E _)) (dw_ 2 (.pointer (some ⟨G.rb,0,none⟩)) (fun a X E=>execRf0 rfl (E _)) (dv_ 3 (G.dS) (fun a X E hb=>execLdP rfl (Or.inl rfl) (E _) (S1.rn.on (BB.trans (hb.mono BB.size))).rc.1) (dw_ 4 (.pointer (some ⟨g4,1,none⟩)) (fun a X E=>execOf1 rfl (E _)) (dv_ 5 (.int .i64 ((i:Nat):Int)) (fun a X E hb=>execLdG rfl (Or.inr (Or.inl rfl)) (E _) (oC_at (on9 Fg4 (BB.trans (hb.mono BB.size)))).2.1) (dw_ 6 (.pointer (some ⟨db,i,none⟩)) (fun a X E=>execIxD (k:=i) rfl ((E _).trans eD) (E _) hi) (dv_ 7 (G.dv i) (fun a X E hb=>execLdP rfl (Or.inr (Or.inr (Or.inr (Or.inl rfl)))) (E _) (RowP.at (S1.rn.on (BB.trans (hb.mono BB.size))).dR eD hi)) (?_)))))))
   replace BB:=BB.trans (bD.mono BB.size)
   clear bD
   refine dc_ 8 (hcq ▸ RN.dclose (S1.rn.on BB) hi) (fun e X2 hh=>?_)
   obtain ⟨he,ow2,S2⟩:=hh
   refine ⟨_,he,Or.inl rfl,?_⟩
   refine dw_ 9 (.bool true) (fun a X E=>execDec (execErneq (p:=180) (q:=0) rfl (E _)) (by decide)) (dz_ [(74,.bool true)] (h2_ t0 t1) ?_)
   rintro a A ⟨t74,-⟩ ⟨t0,t1,-⟩
   replace S2:=(S1.on BB).then_ S2
   clear BB
   have BB:Below X2.heap.size X2 X2:=Below.refl _ _
   refine wp_cond_true t74 ?_
   clear t74
   refine wi_ A (h2_ t0 t1) (rv_ 1 (.pointer (some ⟨G.rb,0,none⟩)) (fun a E=>Duc.execNl rfl (E _)) (rv_ 2 (.pointer (some ⟨G.rb,5,none⟩)) (fun a E=>execRf5 rfl (E _)) (rv_ 3 (.int .i64 ((M.lt:Nat):Int)) (fun a E=>execLdG rfl (Or.inr (Or.inl rfl)) (E _) (S2.rn.on BB).rc.2.2.2.2.2) (rv_ 4 (.int .i64 ((M.lt+1:Nat):Int)) (fun a E=>execAd8 (p:=M.lt) (q:=1) rfl (E _) rfl (by omega)) (rv_ 5 (.pointer (some ⟨G.rb,0,none⟩)) (fun a E=>Duc.execNl rfl (E _)) (rv_ 6 (.pointer (some ⟨G.rb,5,none⟩)) (fun a E=>execRf5 rfl (E _)) (rs_ 7 (fun a E=>?_))))))))
   refine stepS rfl rfl (execSt9 rfl (Or.inl rfl) (E _) (E _) (Or.inl ⟨_,_,rfl⟩) (S2.rn.on BB).rc.2.2.2.2.2 ((S2.rn.on BB).fzR 5)) ⟨_,⟨_,rfl,rfl⟩,fun X3 hX=>?_⟩
   refine rg_ [] ?_
   rintro a A -
   refine wp_exit ?_
   repeat (first | with_reducible refine exit_then ?_ | with_reducible refine exit_out (by decide) ?_)
   refine exit_in ?_
   exact bodyPost_end (results_none rfl _ _ _) A.2 ⟨rfl,ow2,(S2.on BB).setLt (by omega) hX⟩
  ·have hcq:(if M.cl i then 180 else 0:Nat)=0:=by rw [hcl]; rfl
   refine wj_ [0,1,2,3,4,5,6,7,8,9] [8] [3,5,7] [8] A (h3_ t0 t1 t4) (fun X2_0 bD=>?_)
   refine dw_ 1 (.pointer (some ⟨G.rb,0,none⟩)) (fun a X E=>Duc.execNl rfl (E _)) (dw_ 2 (.pointer (some ⟨G.rb,0,none⟩)) (fun a X E=>execRf0 rfl (E _)) (dv_ 3 (G.dS) (fun a X E hb=>execLdP rfl (Or.inl rfl) (E _) (S1.rn.on (BB.trans (hb.mono BB.size))).rc.1) (dw_ 4 (.pointer (some ⟨g4,1,none⟩)) (fun a X E=>execOf1 rfl (E _)) (dv_ 5 (.int .i64 ((i:Nat):Int)) (fun a X E hb=>execLdG rfl (Or.inr (Or.inl rfl)) (E _) (oC_at (on9 Fg4 (BB.trans (hb.mono BB.size)))).2.1) (dw_ 6 (.pointer (some ⟨db,i,none⟩)) (fun a X E=>execIxD (k:=i) rfl ((E _).trans eD) (E _) hi) (dv_ 7 (G.dv i) (fun a X E hb=>execLdP rfl (Or.inr (Or.inr (Or.inr (Or.inl rfl)))) (E _) (RowP.at (S1.rn.on (BB.trans (hb.mono BB.size))).dR eD hi)) (?_)))))))
   replace BB:=BB.trans (bD.mono BB.size)
   clear bD
   refine dc_ 8 (hcq ▸ RN.dclose (S1.rn.on BB) hi) (fun e X2 hh=>?_)
   obtain ⟨he,ow2,S2⟩:=hh
   refine ⟨_,he,Or.inl rfl,?_⟩
   refine dw_ 9 (.bool false) (fun a X E=>execDec (execErneq (p:=0) (q:=0) rfl (E _)) (by decide)) (dz_ [(74,.bool false)] (h2_ t0 t1) ?_)
   rintro a A ⟨t74,-⟩ ⟨t0,t1,-⟩
   replace S2:=(S1.on BB).then_ S2
   clear BB
   have BB:Below X2.heap.size X2 X2:=Below.refl _ _
   refine wp_cond_false t74 ?_
   clear t74
   refine wp_skip ?_
   refine wp_exit ?_
   repeat (first | with_reducible refine exit_then ?_ | with_reducible refine exit_out (by decide) ?_)
   refine exit_in ?_
   exact bodyPost_end (results_none rfl _ _ _) A.2 ⟨rfl,ow2,S2⟩
 refine wi_ A (h4_ t0 t1 t4 t23) (rv_ 0 (.bool false) (fun a E=>execDec (exIeql3 (p:=k) (q:=3) rfl (E _) rfl) (decide_eq_false ek)) (rf_ [(30,.bool false)] (h4_ t0 t1 t4 t23) ?_))
 rintro a A ⟨t30,-⟩ ⟨t0,t1,t4,t23,-⟩
 refine wp_cond_false t30 ?_
 clear t30
 refine wp_skip ?_
 have k3:=ek
 clear ek
 refine wp_seq (wp_seq ?_)
 by_cases ek:k=4
 ·refine wi_ A (h4_ t0 t1 t4 t23) (rv_ 0 (.bool true) (fun a E=>execDec (exIeql3 (p:=k) (q:=4) rfl (E _) rfl) (decide_eq_true ek)) (rf_ [(32,.bool true)] (h4_ t0 t1 t4 t23) ?_))
  rintro a A ⟨t32,-⟩ ⟨t0,t1,t4,t23,-⟩
  refine wp_cond_true t32 ?_
  clear t32 t23
  refine wp_exit ?_
  repeat (first | with_reducible refine exit_then ?_ | with_reducible refine exit_out (by decide) ?_)
  refine exit_in ?_
  obtain ⟨hA,rfl⟩:=C.c4 ek
  subst ek
  unfold I64 at hA
  refine wi_ A (h3_ t0 t1 t4) (rv_ 1 (.pointer (some ⟨G.hn u,0,none⟩)) (fun a E=>Duc.execNl rfl (E _)) (rv_ 2 (.pointer (some ⟨G.hn u,2,none⟩)) (fun a E=>execNf2 rfl (E _)) (rs_ 3 (fun a E=>?_))))
  refine stepS rfl rfl (execSt9 rfl (Or.inl rfl) (E _) rfl (Or.inl ⟨_,_,rfl⟩) ((S1.rn.on BB).nc hu).2.2 ((S1.rn.on BB).fzH hu 2)) ⟨_,⟨_,rfl,rfl⟩,fun X2 hX=>?_⟩
  refine rf_ [] (h3_ t0 t1 t4) ?_
  rintro a A - ⟨t0,t1,t4,-⟩
  have S2g:=((S1.rn.on BB).st).setRg (y:=0) hu (by unfold I64; omega) hX
  obtain ⟨Fo2,Fz2⟩:=S2g.local (on9 Fg4 BB) Fz
  have S2:=(S1.on BB).then_ S2g
  clear BB
  have BB:Below X2.heap.size X2 X2:=Below.refl _ _
  replace Fg4:=Fo2
  refine wp_seq ?_
  refine wj_ [0,1,2,3,4,5,6,7,8,9] [9] [3,5] [9] A (h3_ t0 t1 t4) (fun X3_0 bD=>?_)
  refine dw_ 1 (.pointer (some ⟨G.hn u,0,none⟩)) (fun a X E=>Duc.execNl rfl (E _)) (dw_ 2 (.pointer (some ⟨G.hn u,2,none⟩)) (fun a X E=>execNf2 rfl (E _)) (dv_ 3 (.int .i64 0) (fun a X E hb=>execLdG rfl (Or.inr (Or.inl rfl)) (E _) ((((S2.rn.on (BB.trans (hb.mono BB.size))).nc hu).2.2).trans (congrArg some (congrArg (Value.int .i64) (upf_at _ _ _))))) (dw_ 4 (.pointer (some ⟨g4,1,none⟩)) (fun a X E=>execOf1 rfl (E _)) (dv_ 5 (.int .i64 ka) (fun a X E hb=>execLdG rfl (Or.inr (Or.inl rfl)) (E _) (oC_at (on9 Fg4 (BB.trans (hb.mono BB.size)))).2.1) (dw_ 6 (.int .i64 (0+ka)) (fun a X E=>exAddZ (p:=0) (q:=ka) rfl (E _) (E _) ⟨by omega,by omega⟩) (dw_ 7 (.pointer (some ⟨G.hn u,0,none⟩)) (fun a X E=>Duc.execNl rfl (E _)) (dw_ 8 (.pointer (some ⟨G.hn u,2,none⟩)) (fun a X E=>execNf2 rfl (E _)) (ds_ 9 (fun a E=>?_)))))))))
  replace BB:=BB.trans (bD.mono BB.size)
  clear bD
  refine stepS rfl rfl (execSt9 rfl (Or.inl rfl) (E _) (E _) (Or.inl ⟨_,_,rfl⟩) ((S2.rn.on BB).nc hu).2.2 ((S2.rn.on BB).fzH hu 2)) ⟨_,⟨_,rfl,rfl⟩,fun X3 hX=>?_⟩
  refine ⟨Or.inl rfl,?_⟩
  refine dy_ [] ?_
  rintro a A -
  refine wp_exit ?_
  repeat (first | with_reducible refine exit_then ?_ | with_reducible refine exit_out (by decide) ?_)
  refine exit_in ?_
  exact bodyPost_end (results_none rfl _ _ _) A.2 ⟨rfl,ow,(S2.on BB).setRg hu hA hX⟩
 refine wi_ A (h4_ t0 t1 t4 t23) (rv_ 0 (.bool false) (fun a E=>execDec (exIeql3 (p:=k) (q:=4) rfl (E _) rfl) (decide_eq_false ek)) (rf_ [(32,.bool false)] (h4_ t0 t1 t4 t23) ?_))
 rintro a A ⟨t32,-⟩ ⟨t0,t1,t4,t23,-⟩
 refine wp_cond_false t32 ?_
 clear t32
 refine wp_skip ?_
 have k4:=ek
 clear ek
 refine wp_seq (wp_seq ?_)
 by_cases ek:k=5
 ·refine wi_ A (h4_ t0 t1 t4 t23) (rv_ 0 (.bool true) (fun a E=>execDec (exIeql3 (p:=k) (q:=5) rfl (E _) rfl) (decide_eq_true ek)) (rf_ [(34,.bool true)] (h4_ t0 t1 t4 t23) ?_))
  rintro a A ⟨t34,-⟩ ⟨t0,t1,t4,t23,-⟩
  refine wp_cond_true t34 ?_
  clear t34 t23
  refine wp_exit ?_
  repeat (first | with_reducible refine exit_then ?_ | with_reducible refine exit_out (by decide) ?_)
  refine exit_in ?_
  obtain ⟨hA,rfl⟩:=C.c5 ek
  subst ek
  unfold I64 at hA
  refine wp_seq ?_
  refine wj_ [0,1,2,3,4,5,6,7,8,9] [9] [3,5] [9] A (h3_ t0 t1 t4) (fun X3_0 bD=>?_)
  refine dw_ 1 (.pointer (some ⟨G.hn u,0,none⟩)) (fun a X E=>Duc.execNl rfl (E _)) (dw_ 2 (.pointer (some ⟨G.hn u,2,none⟩)) (fun a X E=>execNf2 rfl (E _)) (dv_ 3 (.int .i64 (M.rg u)) (fun a X E hb=>execLdG rfl (Or.inr (Or.inl rfl)) (E _) ((S1.rn.on (BB.trans (hb.mono BB.size))).nc hu).2.2) (dw_ 4 (.pointer (some ⟨g4,1,none⟩)) (fun a X E=>execOf1 rfl (E _)) (dv_ 5 (.int .i64 ka) (fun a X E hb=>execLdG rfl (Or.inr (Or.inl rfl)) (E _) (oC_at (on9 Fg4 (BB.trans (hb.mono BB.size)))).2.1) (dw_ 6 (.int .i64 ((M.rg u)+ka)) (fun a X E=>exAddZ (p:=(M.rg u)) (q:=ka) rfl (E _) (E _) ⟨by omega,by omega⟩) (dw_ 7 (.pointer (some ⟨G.hn u,0,none⟩)) (fun a X E=>Duc.execNl rfl (E _)) (dw_ 8 (.pointer (some ⟨G.hn u,2,none⟩)) (fun a X E=>execNf2 rfl (E _)) (ds_ 9 (fun a E=>?_)))))))))
  replace BB:=BB.trans (bD.mono BB.size)
  clear bD
  refine stepS rfl rfl (execSt9 rfl (Or.inl rfl) (E _) (E _) (Or.inl ⟨_,_,rfl⟩) ((S1.rn.on BB).nc hu).2.2 ((S1.rn.on BB).fzH hu 2)) ⟨_,⟨_,rfl,rfl⟩,fun X3 hX=>?_⟩
  refine ⟨Or.inl rfl,?_⟩
  refine dy_ [] ?_
  rintro a A -
  refine wp_exit ?_
  repeat (first | with_reducible refine exit_then ?_ | with_reducible refine exit_out (by decide) ?_)
  refine exit_in ?_
  exact bodyPost_end (results_none rfl _ _ _) A.2 ⟨rfl,ow,(S1.on BB).setRg hu hA hX⟩
 refine wi_ A (h4_ t0 t1 t4 t23) (rv_ 0 (.bool false) (fun a E=>execDec (exIeql3 (p:=k) (q:=5) rfl (E _) rfl) (decide_eq_false ek)) (rf_ [(34,.bool false)] (h4_ t0 t1 t4 t23) ?_))
 rintro a A ⟨t34,-⟩ ⟨t0,t1,t4,t23,-⟩
 refine wp_cond_false t34 ?_
 clear t34
 refine wp_skip ?_
 have k5:=ek
 clear ek
 refine wp_seq (wp_seq ?_)
 by_cases ek:k=7
 ·refine wi_ A (h4_ t0 t1 t4 t23) (rv_ 0 (.bool true) (fun a E=>execDec (exIeql3 (p:=k) (q:=7) rfl (E _) rfl) (decide_eq_true ek)) (rf_ [(36,.bool true)] (h4_ t0 t1 t4 t23) ?_))
  rintro a A ⟨t36,-⟩ ⟨t0,t1,t4,t23,-⟩
  refine wp_cond_true t36 ?_
  clear t36 t23
  refine wp_exit ?_
  repeat (first | with_reducible refine exit_then ?_ | with_reducible refine exit_out (by decide) ?_)
  refine exit_in ?_
  obtain ⟨i,rfl,hc⟩:=C.c7 ek
  subst ek
  refine wp_seq ?_
  rcases hc with ⟨hB,rfl⟩ | ⟨hB,hi,rfl⟩
  ·refine wj_ [0,1,2,3,4,5,6] [] [3,5] [] A (h3_ t0 t1 t4) (fun X21 bD=>?_)
   refine dw_ 1 (.pointer (some ⟨G.hn u,0,none⟩)) (fun a X E=>Duc.execNl rfl (E _)) (dw_ 2 (.pointer (some ⟨G.hn u,2,none⟩)) (fun a X E=>execNf2 rfl (E _)) (dv_ 3 (.int .i64 (M.rg u)) (fun a X E hb=>execLdG rfl (Or.inr (Or.inl rfl)) (E _) ((S1.rn.on (BB.trans (hb.mono BB.size))).nc hu).2.2) (dw_ 4 (.pointer (some ⟨g4,2,none⟩)) (fun a X E=>execOf2 rfl (E _)) (dv_ 5 (.int .i64 kb) (fun a X E hb=>execLdG rfl (Or.inr (Or.inl rfl)) (E _) (oC_at (on9 Fg4 (BB.trans (hb.mono BB.size)))).2.2) (dw_ 6 (.bool true) (fun a X E=>execDec (exIeql3 (p:=(M.rg u)) (q:=kb) rfl (E _) (E _)) (decide_eq_true hB)) (dz_ [(100,.bool true)] (h3_ t0 t1 t4) ?_))))))
   rintro a A ⟨t100,-⟩ ⟨t0,t1,t4,-⟩
   replace BB:=BB.trans (bD.mono BB.size)
   clear bD
   refine wp_cond_true t100 ?_
   refine wp_ret ?_
   repeat (first | with_reducible refine ret_in ?_ | with_reducible refine ret_then ?_)
   exact bodyPost_ret (results_none rfl _ _ _) A.2 ⟨rfl,ow,S1.on BB⟩
  ·refine wj_ [0,1,2,3,4,5,6] [] [3,5] [] A (h3_ t0 t1 t4) (fun X21 bD=>?_)
   refine dw_ 1 (.pointer (some ⟨G.hn u,0,none⟩)) (fun a X E=>Duc.execNl rfl (E _)) (dw_ 2 (.pointer (some ⟨G.hn u,2,none⟩)) (fun a X E=>execNf2 rfl (E _)) (dv_ 3 (.int .i64 (M.rg u)) (fun a X E hb=>execLdG rfl (Or.inr (Or.inl rfl)) (E _) ((S1.rn.on (BB.trans (hb.mono BB.size))).nc hu).2.2) (dw_ 4 (.pointer (some ⟨g4,2,none⟩)) (fun a X E=>execOf2 rfl (E _)) (dv_ 5 (.int .i64 kb) (fun a X E hb=>execLdG rfl (Or.inr (Or.inl rfl)) (E _) (oC_at (on9 Fg4 (BB.trans (hb.mono BB.size)))).2.2) (dw_ 6 (.bool false) (fun a X E=>execDec (exIeql3 (p:=(M.rg u)) (q:=kb) rfl (E _) (E _)) (decide_eq_false hB)) (dz_ [(100,.bool false)] (h3_ t0 t1 t4) ?_))))))
   rintro a A ⟨t100,-⟩ ⟨t0,t1,t4,-⟩
   replace BB:=BB.trans (bD.mono BB.size)
   clear bD
   refine wp_cond_false t100 ?_
   clear t100
   refine wp_skip ?_
   refine wp_seq ?_
   refine wi_ A (h3_ t0 t1 t4) (rv_ 1 (.pointer (some ⟨g4,1,none⟩)) (fun a E=>execOf1 rfl (E _)) (rv_ 2 (.int .i64 ((i:Nat):Int)) (fun a E=>execLdG rfl (Or.inr (Or.inl rfl)) (E _) (oC_at (on9 Fg4 BB)).2.1) (rv_ 3 (.pointer (some ⟨G.hn u,0,none⟩)) (fun a E=>Duc.execNl rfl (E _)) (rv_ 4 (.pointer (some ⟨G.hn u,1,none⟩)) (fun a E=>execNf1 rfl (E _)) (rs_ 5 (fun a E=>?_))))))
   refine stepS rfl rfl (execSt9 rfl (Or.inl rfl) (E _) (E _) (Or.inl ⟨_,_,rfl⟩) ((S1.rn.on BB).nc hu).2.1 ((S1.rn.on BB).fzH hu 1)) ⟨_,⟨_,rfl,rfl⟩,fun X2 hX=>?_⟩
   refine rg_ [] ?_
   rintro a A -
   refine wp_exit ?_
   repeat (first | with_reducible refine exit_then ?_ | with_reducible refine exit_out (by decide) ?_)
   refine exit_in ?_
   exact bodyPost_end (results_none rfl _ _ _) A.2 ⟨rfl,ow,(S1.on BB).setPl hu hi hX⟩
 refine wi_ A (h4_ t0 t1 t4 t23) (rv_ 0 (.bool false) (fun a E=>execDec (exIeql3 (p:=k) (q:=7) rfl (E _) rfl) (decide_eq_false ek)) (rf_ [(36,.bool false)] (h4_ t0 t1 t4 t23) ?_))
 rintro a A ⟨t36,-⟩ ⟨t0,t1,t4,t23,-⟩
 refine wp_cond_false t36 ?_
 clear t36
 refine wp_skip ?_
 have k7:=ek
 clear ek
 refine wp_seq (wp_seq ?_)
 by_cases ek:k=6
 ·refine wi_ A (h4_ t0 t1 t4 t23) (rv_ 0 (.bool true) (fun a E=>execDec (exIeql3 (p:=k) (q:=6) rfl (E _) rfl) (decide_eq_true ek)) (rf_ [(38,.bool true)] (h4_ t0 t1 t4 t23) ?_))
  rintro a A ⟨t38,-⟩ ⟨t0,t1,t4,t23,-⟩
  refine wp_cond_true t38 ?_
  clear t38 t23
  refine wp_exit ?_
  repeat (first | with_reducible refine exit_then ?_ | with_reducible refine exit_out (by decide) ?_)
  refine exit_in ?_
  obtain ⟨i,rfl,hi,rfl⟩:=C.c6 ek
  subst ek
  refine wp_seq ?_
  refine wi_ A (h3_ t0 t1 t4) (rv_ 1 (.pointer (some ⟨g4,1,none⟩)) (fun a E=>execOf1 rfl (E _)) (rv_ 2 (.int .i64 ((i:Nat):Int)) (fun a E=>execLdG rfl (Or.inr (Or.inl rfl)) (E _) (oC_at (on9 Fg4 BB)).2.1) (rv_ 3 (.pointer (some ⟨G.hn u,0,none⟩)) (fun a E=>Duc.execNl rfl (E _)) (rv_ 4 (.pointer (some ⟨G.hn u,1,none⟩)) (fun a E=>execNf1 rfl (E _)) (rs_ 5 (fun a E=>?_))))))
  refine stepS rfl rfl (execSt9 rfl (Or.inl rfl) (E _) (E _) (Or.inl ⟨_,_,rfl⟩) ((S1.rn.on BB).nc hu).2.1 ((S1.rn.on BB).fzH hu 1)) ⟨_,⟨_,rfl,rfl⟩,fun X2 hX=>?_⟩
  refine rg_ [] ?_
  rintro a A -
  refine wp_exit ?_
  repeat (first | with_reducible refine exit_then ?_ | with_reducible refine exit_out (by decide) ?_)
  refine exit_in ?_
  exact bodyPost_end (results_none rfl _ _ _) A.2 ⟨rfl,ow,(S1.on BB).setPl hu hi hX⟩
 refine wi_ A (h4_ t0 t1 t4 t23) (rv_ 0 (.bool false) (fun a E=>execDec (exIeql3 (p:=k) (q:=6) rfl (E _) rfl) (decide_eq_false ek)) (rf_ [(38,.bool false)] (h4_ t0 t1 t4 t23) ?_))
 rintro a A ⟨t38,-⟩ ⟨t0,t1,t4,t23,-⟩
 refine wp_cond_false t38 ?_
 clear t38
 refine wp_skip ?_
 have k6:=ek
 clear ek
 refine wp_seq ?_
 by_cases ek:k=10
 ·refine wi_ A (h4_ t0 t1 t4 t23) (rv_ 0 (.bool true) (fun a E=>execDec (exIeql3 (p:=k) (q:=10) rfl (E _) rfl) (decide_eq_true ek)) (rf_ [(40,.bool true)] (h4_ t0 t1 t4 t23) ?_))
  rintro a A ⟨t40,-⟩ ⟨t0,t1,t4,t23,-⟩
  refine wp_cond_true t40 ?_
  clear t40 t23
  refine wp_exit ?_
  repeat (first | with_reducible refine exit_then ?_ | with_reducible refine exit_out (by decide) ?_)
  refine exit_in ?_
  have hN:=C.c10 ek
  subst hN ek
  refine wp_seq ?_
  refine wi_ A (h3_ t0 t1 t4) (rc_ 1 (phend (S1.rn.on BB) hu) (fun e X2 hh=>?_))
  obtain ⟨he,ow2,S2⟩:=hh
  refine ⟨_,he,?_⟩
  refine rg_ [] ?_
  rintro a A -
  refine wp_exit ?_
  repeat (first | with_reducible refine exit_then ?_ | with_reducible refine exit_out (by decide) ?_)
  refine exit_in ?_
  exact bodyPost_end (results_none rfl _ _ _) A.2 ⟨rfl,ow2,(S1.on BB).then_ S2⟩
 refine wi_ A (h4_ t0 t1 t4 t23) (rv_ 0 (.bool false) (fun a E=>execDec (exIeql3 (p:=k) (q:=10) rfl (E _) rfl) (decide_eq_false ek)) (rf_ [(40,.bool false)] (h4_ t0 t1 t4 t23) ?_))
 rintro a A ⟨t40,-⟩ ⟨t0,t1,t4,t23,-⟩
 refine wp_cond_false t40 ?_
 clear t40
 refine wp_skip ?_
 have k10:=ek
 clear ek
 have hN:=C.c0 ⟨k1,k2,k3,k4,k5,k6,k7,k8,k10⟩
 subst hN
 refine wp_exit ?_
 repeat (first | with_reducible refine exit_then ?_ | with_reducible refine exit_out (by decide) ?_)
 refine exit_in ?_
 exact bodyPost_end (results_none rfl _ _ _) A.2 ⟨rfl,ow,S1.on BB⟩
theorem pdo_1 {p:Pl} {G:Ad} {U V:World} {ow:Nat->Nat} {M:Mm} {N_:Mm} {u i:Nat} {kb:Int} (hR:RN p G U ow M V) (hu:u < p.n) (hl:M.pl u < p.ln u) (hop:p.op u (M.pl u)=⟨1,((i:Nat):Int),kb⟩) (hT:Does p G U { M with pl:=upf M.pl u (M.pl u+1) } N_ 65 #[.pointer (some ⟨G.rb,0,none⟩),.pointer (some ⟨G.hn u,0,none⟩),.int .i64 ((i:Nat):Int)]):Calls Try.prog 60 #[.pointer (some ⟨G.rb,0,none⟩),.pointer (some ⟨G.hn u,0,none⟩)] V fun e w'=>e=.returned (.tuple #[])/\To p G U ow V N_ w':=pdoC hR hu hl hop { c1:=fun _=>⟨i,rfl,hT⟩ }
theorem pdo_2r {p:Pl} {G:Ad} {U V:World} {ow:Nat->Nat} {M:Mm} {N_:Mm} {u i j:Nat} (hR:RN p G U ow M V) (hu:u < p.n) (hl:M.pl u < p.ln u) (hop:p.op u (M.pl u)=⟨2,((i:Nat):Int),((j:Nat):Int)⟩) (hi:i < p.d) (hy:rdyM p { M with pl:=upf M.pl u (M.pl u+1) } i=true) (hT:Does p G U { M with pl:=upf M.pl u (M.pl u+1) } N_ 66 #[.pointer (some ⟨G.rb,0,none⟩),.pointer (some ⟨G.hn u,0,none⟩),.int .i64 ((i:Nat):Int)]):Calls Try.prog 60 #[.pointer (some ⟨G.rb,0,none⟩),.pointer (some ⟨G.hn u,0,none⟩)] V fun e w'=>e=.returned (.tuple #[])/\To p G U ow V N_ w':=pdoC hR hu hl hop { c2:=fun _=>⟨i,j,rfl,rfl,hi,Or.inl ⟨hy,hT⟩⟩ }
theorem pdo_2s {p:Pl} {G:Ad} {U V:World} {ow:Nat->Nat} {M:Mm} {u i j:Nat} (hR:RN p G U ow M V) (hu:u < p.n) (hl:M.pl u < p.ln u) (hop:p.op u (M.pl u)=⟨2,((i:Nat):Int),((j:Nat):Int)⟩) (hi:i < p.d) (hy:rdyM p { M with pl:=upf M.pl u (M.pl u+1) } i=false) (hj:j<=p.ln u):Calls Try.prog 60 #[.pointer (some ⟨G.rb,0,none⟩),.pointer (some ⟨G.hn u,0,none⟩)] V fun e w'=>e=.returned (.tuple #[])/\To p G U ow V { M with pl:=upf (upf M.pl u (M.pl u+1)) u j } w':=pdoC hR hu hl hop { c2:=fun _=>⟨i,j,rfl,rfl,hi,Or.inr ⟨hy,hj,rfl⟩⟩ }
theorem pdo_8 {p:Pl} {G:Ad} {U V:World} {ow:Nat->Nat} {M:Mm} {N_:Mm} {u i j:Nat} (hR:RN p G U ow M V) (hu:u < p.n) (hl:M.pl u < p.ln u) (hop:p.op u (M.pl u)=⟨8,((i:Nat):Int),((j:Nat):Int)⟩) (hT:Does p G U { M with pl:=upf M.pl u (M.pl u+1) } N_ 67 #[.pointer (some ⟨G.rb,0,none⟩),.pointer (some ⟨G.hn u,0,none⟩),.agg (oC 8 ((i:Nat):Int) ((j:Nat):Int))]):Calls Try.prog 60 #[.pointer (some ⟨G.rb,0,none⟩),.pointer (some ⟨G.hn u,0,none⟩)] V fun e w'=>e=.returned (.tuple #[])/\To p G U ow V N_ w':=pdoC hR hu hl hop { c8:=fun _=>⟨i,j,rfl,rfl,hT⟩ }
theorem pdo_3t {p:Pl} {G:Ad} {U V:World} {ow:Nat->Nat} {M:Mm} {u i:Nat} {kb:Int} (hR:RN p G U ow M V) (hu:u < p.n) (hl:M.pl u < p.ln u) (hop:p.op u (M.pl u)=⟨3,((i:Nat):Int),kb⟩) (hi:i < p.d) (hcl:M.cl i=true) (hlt:M.lt < 1000000):Calls Try.prog 60 #[.pointer (some ⟨G.rb,0,none⟩),.pointer (some ⟨G.hn u,0,none⟩)] V fun e w'=>e=.returned (.tuple #[])/\To p G U ow V { M with pl:=upf M.pl u (M.pl u+1),cl:=upf M.cl i true,lt:=M.lt+1 } w':=pdoC hR hu hl hop { c3:=fun _=>⟨i,rfl,hi,Or.inl ⟨hcl,hlt,rfl⟩⟩ }
theorem pdo_3f {p:Pl} {G:Ad} {U V:World} {ow:Nat->Nat} {M:Mm} {u i:Nat} {kb:Int} (hR:RN p G U ow M V) (hu:u < p.n) (hl:M.pl u < p.ln u) (hop:p.op u (M.pl u)=⟨3,((i:Nat):Int),kb⟩) (hi:i < p.d) (hcl:M.cl i=false):Calls Try.prog 60 #[.pointer (some ⟨G.rb,0,none⟩),.pointer (some ⟨G.hn u,0,none⟩)] V fun e w'=>e=.returned (.tuple #[])/\To p G U ow V { M with pl:=upf M.pl u (M.pl u+1),cl:=upf M.cl i true } w':=pdoC hR hu hl hop { c3:=fun _=>⟨i,rfl,hi,Or.inr ⟨hcl,rfl⟩⟩ }
theorem pdo_4 {p:Pl} {G:Ad} {U V:World} {ow:Nat->Nat} {M:Mm} {u:Nat} {ka kb:Int} (hR:RN p G U ow M V) (hu:u < p.n) (hl:M.pl u < p.ln u) (hop:p.op u (M.pl u)=⟨4,ka,kb⟩) (hA:I64 ((0:Int)+ka)):Calls Try.prog 60 #[.pointer (some ⟨G.rb,0,none⟩),.pointer (some ⟨G.hn u,0,none⟩)] V fun e w'=>e=.returned (.tuple #[])/\To p G U ow V { M with pl:=upf M.pl u (M.pl u+1),rg:=upf (upf M.rg u 0) u (0+ka) } w':=pdoC hR hu hl hop { c4:=fun _=>⟨hA,rfl⟩ }
theorem pdo_5 {p:Pl} {G:Ad} {U V:World} {ow:Nat->Nat} {M:Mm} {u:Nat} {ka kb:Int} (hR:RN p G U ow M V) (hu:u < p.n) (hl:M.pl u < p.ln u) (hop:p.op u (M.pl u)=⟨5,ka,kb⟩) (hA:I64 (M.rg u+ka)):Calls Try.prog 60 #[.pointer (some ⟨G.rb,0,none⟩),.pointer (some ⟨G.hn u,0,none⟩)] V fun e w'=>e=.returned (.tuple #[])/\To p G U ow V { M with pl:=upf M.pl u (M.pl u+1),rg:=upf M.rg u (M.rg u+ka) } w':=pdoC hR hu hl hop { c5:=fun _=>⟨hA,rfl⟩ }
theorem pdo_7e {p:Pl} {G:Ad} {U V:World} {ow:Nat->Nat} {M:Mm} {u i:Nat} {kb:Int} (hR:RN p G U ow M V) (hu:u < p.n) (hl:M.pl u < p.ln u) (hop:p.op u (M.pl u)=⟨7,((i:Nat):Int),kb⟩) (hB:M.rg u=kb):Calls Try.prog 60 #[.pointer (some ⟨G.rb,0,none⟩),.pointer (some ⟨G.hn u,0,none⟩)] V fun e w'=>e=.returned (.tuple #[])/\To p G U ow V { M with pl:=upf M.pl u (M.pl u+1) } w':=pdoC hR hu hl hop { c7:=fun _=>⟨i,rfl,Or.inl ⟨hB,rfl⟩⟩ }
theorem pdo_7n {p:Pl} {G:Ad} {U V:World} {ow:Nat->Nat} {M:Mm} {u i:Nat} {kb:Int} (hR:RN p G U ow M V) (hu:u < p.n) (hl:M.pl u < p.ln u) (hop:p.op u (M.pl u)=⟨7,((i:Nat):Int),kb⟩) (hB:¬ M.rg u=kb) (hi:i<=p.ln u):Calls Try.prog 60 #[.pointer (some ⟨G.rb,0,none⟩),.pointer (some ⟨G.hn u,0,none⟩)] V fun e w'=>e=.returned (.tuple #[])/\To p G U ow V { M with pl:=upf (upf M.pl u (M.pl u+1)) u i } w':=pdoC hR hu hl hop { c7:=fun _=>⟨i,rfl,Or.inr ⟨hB,hi,rfl⟩⟩ }
theorem pdo_6 {p:Pl} {G:Ad} {U V:World} {ow:Nat->Nat} {M:Mm} {u i:Nat} {kb:Int} (hR:RN p G U ow M V) (hu:u < p.n) (hl:M.pl u < p.ln u) (hop:p.op u (M.pl u)=⟨6,((i:Nat):Int),kb⟩) (hi:i<=p.ln u):Calls Try.prog 60 #[.pointer (some ⟨G.rb,0,none⟩),.pointer (some ⟨G.hn u,0,none⟩)] V fun e w'=>e=.returned (.tuple #[])/\To p G U ow V { M with pl:=upf (upf M.pl u (M.pl u+1)) u i } w':=pdoC hR hu hl hop { c6:=fun _=>⟨i,rfl,hi,rfl⟩ }
theorem pdo_10 {p:Pl} {G:Ad} {U V:World} {ow:Nat->Nat} {M:Mm} {u:Nat} {ka kb:Int} (hR:RN p G U ow M V) (hu:u < p.n) (hl:M.pl u < p.ln u) (hop:p.op u (M.pl u)=⟨10,ka,kb⟩):Calls Try.prog 60 #[.pointer (some ⟨G.rb,0,none⟩),.pointer (some ⟨G.hn u,0,none⟩)] V fun e w'=>e=.returned (.tuple #[])/\To p G U ow V { M with pl:=upf (upf M.pl u (M.pl u+1)) u (p.ln u) } w':=pdoC hR hu hl hop { c10:=fun _=>rfl }
theorem pdo_0 {p:Pl} {G:Ad} {U V:World} {ow:Nat->Nat} {M:Mm} {u:Nat} {ka kb k:Int} (hR:RN p G U ow M V) (hu:u < p.n) (hl:M.pl u < p.ln u) (hop:p.op u (M.pl u)=⟨k,ka,kb⟩) (hk:k ≠ 1/\k ≠ 2/\k ≠ 3/\k ≠ 4/\k ≠ 5/\k ≠ 6/\k ≠ 7/\k ≠ 8/\k ≠ 10):Calls Try.prog 60 #[.pointer (some ⟨G.rb,0,none⟩),.pointer (some ⟨G.hn u,0,none⟩)] V fun e w'=>e=.returned (.tuple #[])/\To p G U ow V { M with pl:=upf M.pl u (M.pl u+1) } w':=pdoC hR hu hl hop { c0:=fun _=>rfl }
end Go.Proofs.Ytjjegmflllpknaa.Loo
