import Derived.Test.YtjjegmflllpknaaN8g
import Derived.Test.YtjjegmflllpknaaE8u
namespace Go.Proofs.Ytjjegmflllpknaa.Loo
open Go.RowKit Gf8 Aes By8 Cel Cf Win Drw Prm
/- The landed loom's Check. Written by tools/mkN8p.py. -/
theorem on9t {W:World} {g k:Nat} {c d cs:Array Value} {t u:TypeId} (h:W.heap[k]?=some (.cells d u)) (hg:W.heap[g]?=some (.cells c t)) (ht:t ≠ u):(W.setRow g cs).heap[k]?=some (.cells d u):=by
 rw [setRow_other _ _ _ _ (fun e=>?_)]
 ·exact h
 ·subst e
  rw [hg] at h
  injection h with h
  injection h with _ h _
  exact ht h
theorem below_in {x:Int} {d:Nat}:decide (0<=x/\x < ((d:Nat):Int))=inB x 0 (((d:Nat):Int) - 1):=by
 unfold inB
 exact decide_eq_decide.2 (by omega)
theorem below_in1 {x:Int} {d:Nat}:decide (0<=x/\x < ((d+1:Nat):Int))=inB x 0 ((d:Nat):Int):=by
 unfold inB
 exact decide_eq_decide.2 (by omega)
theorem any_no9 {n:Nat} {f:Nat->Bool} (h:∀ t,t < n->f t=false):(List.range n).any f=false:=by
 rw [List.any_eq_false]
 intro t ht
 rw [h t (List.mem_range.1 ht)]
 decide
set_option maxRecDepth 100000 in
set_option maxHeartbeats 4000000 in
theorem pnumber (x:Int) (V:World) :
  Calls Try.prog 53 #[.int .i64 x] V fun e w'=>e=.returned (.bool (inB x (-1024) 1024))/\Below V.heap.size V w':=by
 go_enter Try.func53,Try.ntmps53
 refine wo_ 9 [(0,.int .i64 x)] ?_
 rintro a A ⟨t0,-⟩
 have BW:Below V.heap.size V V:=Below.refl _ _
 have BB:Below V.heap.size V V:=Below.refl _ _
 refine wp_seq ?_
 refine wi_ A (h1_ t0) (rf_ [] (h1_ t0) ?_)
 rintro a A - ⟨t0,-⟩
 by_cases hg:x ≥ -1024
 ·have hr:inB x (-1024) 1024=decide (x<=1024):=by unfold inB; exact decide_eq_decide.2 (by omega)
  refine wp_seq ?_
  refine wi_ A (h1_ t0) (rv_ 1 (.bool true) (fun a E=>execDec (exIgeq3 (p:=x) (q:=-1024) rfl (E _) rfl) (decide_eq_true hg)) (rv_ 4 (.bool (decide (x<=1024))) (fun a E=>exIleq3 (p:=x) (q:=1024) rfl (E _) rfl) (rg_ [(2,.bool (decide (x<=1024)))] ?_)))
  rintro a A ⟨t2,-⟩
  refine wp_ret ?_
  repeat (first | with_reducible refine ret_in ?_ | with_reducible refine ret_then ?_)
  refine bodyPost_ret (results_tmp rfl _ _ _) A.2 ⟨?_,BB⟩
  show Ending.returned (a.eval (.tmp 2))=_
  rw [t2]
  rw [hr]
 ·have hr:inB x (-1024) 1024=false:=decide_eq_false (by omega)
  refine wp_seq ?_
  refine wi_ A (h1_ t0) (rv_ 1 (.bool false) (fun a E=>execDec (exIgeq3 (p:=x) (q:=-1024) rfl (E _) rfl) (decide_eq_false hg)) (rg_ [(2,.bool false)] ?_))
  rintro a A ⟨t2,-⟩
  refine wp_ret ?_
  repeat (first | with_reducible refine ret_in ?_ | with_reducible refine ret_then ?_)
  refine bodyPost_ret (results_tmp rfl _ _ _) A.2 ⟨?_,BB⟩
  show Ending.returned (a.eval (.tmp 2))=_
  rw [t2]
  rw [hr]
set_option maxRecDepth 100000 in
set_option maxHeartbeats 4000000 in
theorem pright_2t (k oa ob:Int) (ops d n:Nat) (V:World) (_ho:ops<=1000000) (hk:k=2) (hA:inB oa 0 (((d:Nat):Int) - 1)=true) :
  Calls Try.prog 32 #[.agg (oC k oa ob),.int .i64 ((ops:Nat):Int),.int .i64 ((d:Nat):Int),.int .i64 ((n:Nat):Int)] V fun e w'=>e=.returned (.bool (rgt ⟨k,oa,ob⟩ ops d n))/\Below V.heap.size V w':=by
 have hr:rgt ⟨k,oa,ob⟩ ops d n=inB ob 0 ((ops:Nat):Int):=by
  subst hk
  show (inB oa 0 (((d:Nat):Int) - 1) && inB ob 0 ((ops:Nat):Int))=_
  rw [hA]
  first | rfl | rw [Bool.true_and] | rw [Bool.and_true] | rw [Bool.and_false]
 go_enter Try.func32,Try.ntmps32
 refine wo_ 65 [(0,.agg (oC k oa ob)),(1,.int .i64 ((ops:Nat):Int)),(2,.int .i64 ((d:Nat):Int)),(3,.int .i64 ((n:Nat):Int))] ?_
 rintro a A ⟨t0,t1,t2,t3,-⟩
 have BW:Below V.heap.size V V:=Below.refl _ _
 have BB:Below V.heap.size V V:=Below.refl _ _
 refine wp_seq ?_
 obtain ⟨g4,egg4⟩:∃ z_:Nat,V.heap.size=z_:=⟨_,rfl⟩
 refine wi_ A (h4_ t0 t1 t2 t3) (rs_ 0 (fun a E=>?_))
 refine stepV rfl rfl (execBxO rfl (E _)) ⟨.pointer (some ⟨g4,0,none⟩),⟨_,rfl,by subst egg4; rfl⟩,fun X0 hX=>?_⟩
 have bQ:Below V.heap.size V X0:=by subst hX egg4; exact (belNew V _)
 have Fg4:(X0.heap[g4]?=some (.cells (oC k oa ob) 59)):=by subst hX egg4; exact heapNew V _
 replace BB:=BB.trans (bQ.mono BB.size)
 clear bQ hX egg4 E a
 refine rf_ [(4,.pointer (some ⟨g4,0,none⟩))] (h3_ t1 t2 t3) ?_
 rintro a A ⟨t4,-⟩ ⟨t1,t2,t3,-⟩
 refine wp_seq (wp_seq ?_)
 refine wi_ A (h4_ t1 t2 t3 t4) (rv_ 0 (.pointer (some ⟨g4,0,none⟩)) (fun a E=>execOf0 rfl (E _)) (rv_ 1 (.int .i64 k) (fun a E=>execLdG rfl (Or.inr (Or.inl rfl)) (E _) (oC_at Fg4).1) (rf_ [(10,.int .i64 k)] (h4_ t1 t2 t3 t4) ?_)))
 rintro a A ⟨t10,-⟩ ⟨t1,t2,t3,t4,-⟩
 refine wp_block ?_
 refine wp_seq (wp_block ?_)
 refine wp_seq (wp_block ?_)
 refine wp_seq (wp_block ?_)
 refine wp_seq (wp_block ?_)
 refine wp_seq (wp_block ?_)
 refine wp_seq (wp_block ?_)
 refine wp_seq (wp_block ?_)
 refine wp_seq (wp_block ?_)
 refine wp_seq (wp_seq ?_)
 refine wp_seq ?_
 refine wi_ A (h5_ t1 t2 t3 t4 t10) (rv_ 0 (.bool true) (fun a E=>execDec (exIeql3 (p:=k) (q:=2) rfl (E _) rfl) (decide_eq_true hk)) (rf_ [(11,.bool true)] (h5_ t1 t2 t3 t4 t10) ?_))
 rintro a A ⟨t11,-⟩ ⟨t1,t2,t3,t4,t10,-⟩
 refine wp_cond_true t11 ?_
 clear t11
 refine wp_exit ?_
 repeat (first | with_reducible refine exit_then ?_ | with_reducible refine exit_out (by decide) ?_)
 refine exit_in ?_
 refine wp_seq (wp_seq ?_)
 refine wi_ A (h5_ t1 t2 t3 t4 t10) (rv_ 0 (.pointer (some ⟨g4,1,none⟩)) (fun a E=>execOf1 rfl (E _)) (rv_ 1 (.int .i64 oa) (fun a E=>execLdG rfl (Or.inr (Or.inl rfl)) (E _) (oC_at Fg4).2.1) (rc_ 3 ((hA ▸ (below_in (d:=d) (x:=oa) ▸ pbelow oa ((d:Nat):Int) X0))) (cb_ fun X12_1 bQ=>?_))))
 replace Fg4:=(on9 Fg4 bQ)
 replace BB:=BB.trans (bQ.mono BB.size)
 clear bQ
 refine rv_ 5 (.pointer (some ⟨g4,2,none⟩)) (fun a E=>execOf2 rfl (E _)) (rv_ 6 (.int .i64 ob) (fun a E=>execLdG rfl (Or.inr (Or.inl rfl)) (E _) (oC_at Fg4).2.2) (rv_ 8 (.int .i64 ((ops+1:Nat):Int)) (fun a E=>execAd8 (p:=ops) (q:=1) rfl (E _) rfl (by omega)) (rc_ 9 ((below_in1 (d:=ops) (x:=ob) ▸ pbelow ob ((ops+1:Nat):Int) X12_1)) (cb_ fun X12 bQ=>?_))))
 replace Fg4:=(on9 Fg4 bQ)
 replace BB:=BB.trans (bQ.mono BB.size)
 clear bQ
 refine rg_ [(8,.bool (inB ob 0 ((ops:Nat):Int)))] ?_
 rintro a A ⟨t8,-⟩
 refine wp_ret ?_
 repeat (first | with_reducible refine ret_in ?_ | with_reducible refine ret_then ?_)
 refine bodyPost_ret (results_tmp rfl _ _ _) A.2 ⟨?_,BB⟩
 show Ending.returned (a.eval (.tmp 8))=_
 rw [t8,hr]
set_option maxRecDepth 100000 in
set_option maxHeartbeats 4000000 in
theorem pright_2f (k oa ob:Int) (ops d n:Nat) (V:World) (_ho:ops<=1000000) (hk:k=2) (hA:inB oa 0 (((d:Nat):Int) - 1)=false) :
  Calls Try.prog 32 #[.agg (oC k oa ob),.int .i64 ((ops:Nat):Int),.int .i64 ((d:Nat):Int),.int .i64 ((n:Nat):Int)] V fun e w'=>e=.returned (.bool (rgt ⟨k,oa,ob⟩ ops d n))/\Below V.heap.size V w':=by
 have hr:rgt ⟨k,oa,ob⟩ ops d n=false:=by
  subst hk
  show (inB oa 0 (((d:Nat):Int) - 1) && inB ob 0 ((ops:Nat):Int))=_
  rw [hA]
  first | rfl | rw [Bool.true_and] | rw [Bool.and_true] | rw [Bool.and_false]
 go_enter Try.func32,Try.ntmps32
 refine wo_ 65 [(0,.agg (oC k oa ob)),(1,.int .i64 ((ops:Nat):Int)),(2,.int .i64 ((d:Nat):Int)),(3,.int .i64 ((n:Nat):Int))] ?_
 rintro a A ⟨t0,t1,t2,t3,-⟩
 have BW:Below V.heap.size V V:=Below.refl _ _
 have BB:Below V.heap.size V V:=Below.refl _ _
 refine wp_seq ?_
 obtain ⟨g4,egg4⟩:∃ z_:Nat,V.heap.size=z_:=⟨_,rfl⟩
 refine wi_ A (h4_ t0 t1 t2 t3) (rs_ 0 (fun a E=>?_))
 refine stepV rfl rfl (execBxO rfl (E _)) ⟨.pointer (some ⟨g4,0,none⟩),⟨_,rfl,by subst egg4; rfl⟩,fun X0 hX=>?_⟩
 have bQ:Below V.heap.size V X0:=by subst hX egg4; exact (belNew V _)
 have Fg4:(X0.heap[g4]?=some (.cells (oC k oa ob) 59)):=by subst hX egg4; exact heapNew V _
 replace BB:=BB.trans (bQ.mono BB.size)
 clear bQ hX egg4 E a
 refine rf_ [(4,.pointer (some ⟨g4,0,none⟩))] (h3_ t1 t2 t3) ?_
 rintro a A ⟨t4,-⟩ ⟨t1,t2,t3,-⟩
 refine wp_seq (wp_seq ?_)
 refine wi_ A (h4_ t1 t2 t3 t4) (rv_ 0 (.pointer (some ⟨g4,0,none⟩)) (fun a E=>execOf0 rfl (E _)) (rv_ 1 (.int .i64 k) (fun a E=>execLdG rfl (Or.inr (Or.inl rfl)) (E _) (oC_at Fg4).1) (rf_ [(10,.int .i64 k)] (h4_ t1 t2 t3 t4) ?_)))
 rintro a A ⟨t10,-⟩ ⟨t1,t2,t3,t4,-⟩
 refine wp_block ?_
 refine wp_seq (wp_block ?_)
 refine wp_seq (wp_block ?_)
 refine wp_seq (wp_block ?_)
 refine wp_seq (wp_block ?_)
 refine wp_seq (wp_block ?_)
 refine wp_seq (wp_block ?_)
 refine wp_seq (wp_block ?_)
 refine wp_seq (wp_block ?_)
 refine wp_seq (wp_seq ?_)
 refine wp_seq ?_
 refine wi_ A (h5_ t1 t2 t3 t4 t10) (rv_ 0 (.bool true) (fun a E=>execDec (exIeql3 (p:=k) (q:=2) rfl (E _) rfl) (decide_eq_true hk)) (rf_ [(11,.bool true)] (h5_ t1 t2 t3 t4 t10) ?_))
 rintro a A ⟨t11,-⟩ ⟨t1,t2,t3,t4,t10,-⟩
 refine wp_cond_true t11 ?_
 clear t11
 refine wp_exit ?_
 repeat (first | with_reducible refine exit_then ?_ | with_reducible refine exit_out (by decide) ?_)
 refine exit_in ?_
 refine wp_seq (wp_seq ?_)
 refine wi_ A (h5_ t1 t2 t3 t4 t10) (rv_ 0 (.pointer (some ⟨g4,1,none⟩)) (fun a E=>execOf1 rfl (E _)) (rv_ 1 (.int .i64 oa) (fun a E=>execLdG rfl (Or.inr (Or.inl rfl)) (E _) (oC_at Fg4).2.1) (rc_ 3 ((hA ▸ (below_in (d:=d) (x:=oa) ▸ pbelow oa ((d:Nat):Int) X0))) (cb_ fun X12 bQ=>?_))))
 replace Fg4:=(on9 Fg4 bQ)
 replace BB:=BB.trans (bQ.mono BB.size)
 clear bQ
 refine rg_ [(8,.bool false)] ?_
 rintro a A ⟨t8,-⟩
 refine wp_ret ?_
 repeat (first | with_reducible refine ret_in ?_ | with_reducible refine ret_then ?_)
 refine bodyPost_ret (results_tmp rfl _ _ _) A.2 ⟨?_,BB⟩
 show Ending.returned (a.eval (.tmp 8))=_
 rw [t8,hr]
set_option maxRecDepth 100000 in
set_option maxHeartbeats 4000000 in
theorem pright_8t (k oa ob:Int) (ops d n:Nat) (V:World) (_ho:ops<=1000000) (hk:k=8) (hA:inB ob 0 (((d:Nat):Int) - 1)=true) :
  Calls Try.prog 32 #[.agg (oC k oa ob),.int .i64 ((ops:Nat):Int),.int .i64 ((d:Nat):Int),.int .i64 ((n:Nat):Int)] V fun e w'=>e=.returned (.bool (rgt ⟨k,oa,ob⟩ ops d n))/\Below V.heap.size V w':=by
 have hr:rgt ⟨k,oa,ob⟩ ops d n=inB oa 0 (((d:Nat):Int) - 1):=by
  subst hk
  show (inB oa 0 (((d:Nat):Int) - 1) && inB ob 0 (((d:Nat):Int) - 1))=_
  rw [hA]
  first | rfl | rw [Bool.true_and] | rw [Bool.and_true] | rw [Bool.and_false]
 go_enter Try.func32,Try.ntmps32
 refine wo_ 65 [(0,.agg (oC k oa ob)),(1,.int .i64 ((ops:Nat):Int)),(2,.int .i64 ((d:Nat):Int)),(3,.int .i64 ((n:Nat):Int))] ?_
 rintro a A ⟨t0,t1,t2,t3,-⟩
 have BW:Below V.heap.size V V:=Below.refl _ _
 have BB:Below V.heap.size V V:=Below.refl _ _
 refine wp_seq ?_
 obtain ⟨g4,egg4⟩:∃ z_:Nat,V.heap.size=z_:=⟨_,rfl⟩
 refine wi_ A (h4_ t0 t1 t2 t3) (rs_ 0 (fun a E=>?_))
 refine stepV rfl rfl (execBxO rfl (E _)) ⟨.pointer (some ⟨g4,0,none⟩),⟨_,rfl,by subst egg4; rfl⟩,fun X0 hX=>?_⟩
 have bQ:Below V.heap.size V X0:=by subst hX egg4; exact (belNew V _)
 have Fg4:(X0.heap[g4]?=some (.cells (oC k oa ob) 59)):=by subst hX egg4; exact heapNew V _
 replace BB:=BB.trans (bQ.mono BB.size)
 clear bQ hX egg4 E a
 refine rf_ [(4,.pointer (some ⟨g4,0,none⟩))] (h3_ t1 t2 t3) ?_
 rintro a A ⟨t4,-⟩ ⟨t1,t2,t3,-⟩
 refine wp_seq (wp_seq ?_)
 refine wi_ A (h4_ t1 t2 t3 t4) (rv_ 0 (.pointer (some ⟨g4,0,none⟩)) (fun a E=>execOf0 rfl (E _)) (rv_ 1 (.int .i64 k) (fun a E=>execLdG rfl (Or.inr (Or.inl rfl)) (E _) (oC_at Fg4).1) (rf_ [(10,.int .i64 k)] (h4_ t1 t2 t3 t4) ?_)))
 rintro a A ⟨t10,-⟩ ⟨t1,t2,t3,t4,-⟩
 refine wp_block ?_
 refine wp_seq (wp_block ?_)
 refine wp_seq (wp_block ?_)
 refine wp_seq (wp_block ?_)
 refine wp_seq (wp_block ?_)
 refine wp_seq (wp_block ?_)
 refine wp_seq (wp_block ?_)
 refine wp_seq (wp_block ?_)
 refine wp_seq (wp_block ?_)
 refine wp_seq (wp_seq ?_)
 refine wp_seq ?_
 refine wi_ A (h5_ t1 t2 t3 t4 t10) (rv_ 0 (.bool false) (fun a E=>execDec (exIeql3 (p:=k) (q:=2) rfl (E _) rfl) (decide_eq_false (by omega))) (rf_ [(11,.bool false)] (h5_ t1 t2 t3 t4 t10) ?_))
 rintro a A ⟨t11,-⟩ ⟨t1,t2,t3,t4,t10,-⟩
 refine wp_cond_false t11 ?_
 clear t11
 refine wp_skip ?_
 refine wp_seq (wp_seq ?_)
 refine wi_ A (h5_ t1 t2 t3 t4 t10) (rv_ 0 (.bool true) (fun a E=>execDec (exIeql3 (p:=k) (q:=8) rfl (E _) rfl) (decide_eq_true hk)) (rf_ [(13,.bool true)] (h5_ t1 t2 t3 t4 t10) ?_))
 rintro a A ⟨t13,-⟩ ⟨t1,t2,t3,t4,t10,-⟩
 refine wp_cond_true t13 ?_
 clear t13
 refine wp_exit ?_
 repeat (first | with_reducible refine exit_then ?_ | with_reducible refine exit_out (by decide) ?_)
 refine exit_in ?_
 refine wp_seq ?_
 refine wi_ A (h5_ t1 t2 t3 t4 t10) (rv_ 0 (.pointer (some ⟨g4,2,none⟩)) (fun a E=>execOf2 rfl (E _)) (rv_ 1 (.int .i64 ob) (fun a E=>execLdG rfl (Or.inr (Or.inl rfl)) (E _) (oC_at Fg4).2.2) (rc_ 3 ((hA ▸ (below_in (d:=d) (x:=ob) ▸ pbelow ob ((d:Nat):Int) X0))) (cb_ fun X13 bQ=>?_))))
 replace Fg4:=(on9 Fg4 bQ)
 replace BB:=BB.trans (bQ.mono BB.size)
 clear bQ
 refine rv_ 4 (.bool false) (fun a E=>execNot8 (b:=true) rfl (E _)) (rf_ [(44,.bool false)] (h4_ t1 t2 t3 t4) ?_)
 rintro a A ⟨t44,-⟩ ⟨t1,t2,t3,t4,-⟩
 refine wp_cond_false t44 ?_
 clear t44
 refine wp_skip ?_
 refine wp_seq (wp_seq ?_)
 refine wi_ A (h4_ t1 t2 t3 t4) (rv_ 0 (.pointer (some ⟨g4,1,none⟩)) (fun a E=>execOf1 rfl (E _)) (rv_ 1 (.int .i64 oa) (fun a E=>execLdG rfl (Or.inr (Or.inl rfl)) (E _) (oC_at Fg4).2.1) (rc_ 3 ((below_in (d:=d) (x:=oa) ▸ pbelow oa ((d:Nat):Int) X13)) (cb_ fun X15 bQ=>?_))))
 replace Fg4:=(on9 Fg4 bQ)
 replace BB:=BB.trans (bQ.mono BB.size)
 clear bQ
 refine rg_ [(8,.bool (inB oa 0 (((d:Nat):Int) - 1)))] ?_
 rintro a A ⟨t8,-⟩
 refine wp_ret ?_
 repeat (first | with_reducible refine ret_in ?_ | with_reducible refine ret_then ?_)
 refine bodyPost_ret (results_tmp rfl _ _ _) A.2 ⟨?_,BB⟩
 show Ending.returned (a.eval (.tmp 8))=_
 rw [t8,hr]
set_option maxRecDepth 100000 in
set_option maxHeartbeats 4000000 in
theorem pright_8f (k oa ob:Int) (ops d n:Nat) (V:World) (_ho:ops<=1000000) (hk:k=8) (hA:inB ob 0 (((d:Nat):Int) - 1)=false) :
  Calls Try.prog 32 #[.agg (oC k oa ob),.int .i64 ((ops:Nat):Int),.int .i64 ((d:Nat):Int),.int .i64 ((n:Nat):Int)] V fun e w'=>e=.returned (.bool (rgt ⟨k,oa,ob⟩ ops d n))/\Below V.heap.size V w':=by
 have hr:rgt ⟨k,oa,ob⟩ ops d n=false:=by
  subst hk
  show (inB oa 0 (((d:Nat):Int) - 1) && inB ob 0 (((d:Nat):Int) - 1))=_
  rw [hA]
  first | rfl | rw [Bool.true_and] | rw [Bool.and_true] | rw [Bool.and_false]
 go_enter Try.func32,Try.ntmps32
 refine wo_ 65 [(0,.agg (oC k oa ob)),(1,.int .i64 ((ops:Nat):Int)),(2,.int .i64 ((d:Nat):Int)),(3,.int .i64 ((n:Nat):Int))] ?_
 rintro a A ⟨t0,t1,t2,t3,-⟩
 have BW:Below V.heap.size V V:=Below.refl _ _
 have BB:Below V.heap.size V V:=Below.refl _ _
 refine wp_seq ?_
 obtain ⟨g4,egg4⟩:∃ z_:Nat,V.heap.size=z_:=⟨_,rfl⟩
 refine wi_ A (h4_ t0 t1 t2 t3) (rs_ 0 (fun a E=>?_))
 refine stepV rfl rfl (execBxO rfl (E _)) ⟨.pointer (some ⟨g4,0,none⟩),⟨_,rfl,by subst egg4; rfl⟩,fun X0 hX=>?_⟩
 have bQ:Below V.heap.size V X0:=by subst hX egg4; exact (belNew V _)
 have Fg4:(X0.heap[g4]?=some (.cells (oC k oa ob) 59)):=by subst hX egg4; exact heapNew V _
 replace BB:=BB.trans (bQ.mono BB.size)
 clear bQ hX egg4 E a
 refine rf_ [(4,.pointer (some ⟨g4,0,none⟩))] (h3_ t1 t2 t3) ?_
 rintro a A ⟨t4,-⟩ ⟨t1,t2,t3,-⟩
 refine wp_seq (wp_seq ?_)
 refine wi_ A (h4_ t1 t2 t3 t4) (rv_ 0 (.pointer (some ⟨g4,0,none⟩)) (fun a E=>execOf0 rfl (E _)) (rv_ 1 (.int .i64 k) (fun a E=>execLdG rfl (Or.inr (Or.inl rfl)) (E _) (oC_at Fg4).1) (rf_ [(10,.int .i64 k)] (h4_ t1 t2 t3 t4) ?_)))
 rintro a A ⟨t10,-⟩ ⟨t1,t2,t3,t4,-⟩
 refine wp_block ?_
 refine wp_seq (wp_block ?_)
 refine wp_seq (wp_block ?_)
 refine wp_seq (wp_block ?_)
 refine wp_seq (wp_block ?_)
 refine wp_seq (wp_block ?_)
 refine wp_seq (wp_block ?_)
 refine wp_seq (wp_block ?_)
 refine wp_seq (wp_block ?_)
 refine wp_seq (wp_seq ?_)
 refine wp_seq ?_
 refine wi_ A (h5_ t1 t2 t3 t4 t10) (rv_ 0 (.bool false) (fun a E=>execDec (exIeql3 (p:=k) (q:=2) rfl (E _) rfl) (decide_eq_false (by omega))) (rf_ [(11,.bool false)] (h5_ t1 t2 t3 t4 t10) ?_))
 rintro a A ⟨t11,-⟩ ⟨t1,t2,t3,t4,t10,-⟩
 refine wp_cond_false t11 ?_
 clear t11
 refine wp_skip ?_
 refine wp_seq (wp_seq ?_)
 refine wi_ A (h5_ t1 t2 t3 t4 t10) (rv_ 0 (.bool true) (fun a E=>execDec (exIeql3 (p:=k) (q:=8) rfl (E _) rfl) (decide_eq_true hk)) (rf_ [(13,.bool true)] (h5_ t1 t2 t3 t4 t10) ?_))
 rintro a A ⟨t13,-⟩ ⟨t1,t2,t3,t4,t10,-⟩
 refine wp_cond_true t13 ?_
 clear t13
 refine wp_exit ?_
 repeat (first | with_reducible refine exit_then ?_ | with_reducible refine exit_out (by decide) ?_)
 refine exit_in ?_
 refine wp_seq ?_
 refine wi_ A (h5_ t1 t2 t3 t4 t10) (rv_ 0 (.pointer (some ⟨g4,2,none⟩)) (fun a E=>execOf2 rfl (E _)) (rv_ 1 (.int .i64 ob) (fun a E=>execLdG rfl (Or.inr (Or.inl rfl)) (E _) (oC_at Fg4).2.2) (rc_ 3 ((hA ▸ (below_in (d:=d) (x:=ob) ▸ pbelow ob ((d:Nat):Int) X0))) (cb_ fun X13 bQ=>?_))))
 replace Fg4:=(on9 Fg4 bQ)
 replace BB:=BB.trans (bQ.mono BB.size)
 clear bQ
 refine rv_ 4 (.bool true) (fun a E=>execNot8 (b:=false) rfl (E _)) (rf_ [(44,.bool true)] (h4_ t1 t2 t3 t4) ?_)
 rintro a A ⟨t44,-⟩ ⟨t1,t2,t3,t4,-⟩
 refine wp_cond_true t44 ?_
 clear t44
 refine wp_seq ?_
 refine wi_ A (h4_ t1 t2 t3 t4) (rg_ [(8,.bool false)] ?_)
 rintro a A ⟨t8,-⟩
 refine wp_ret ?_
 repeat (first | with_reducible refine ret_in ?_ | with_reducible refine ret_then ?_)
 refine bodyPost_ret (results_tmp rfl _ _ _) A.2 ⟨?_,BB⟩
 show Ending.returned (a.eval (.tmp 8))=_
 rw [t8,hr]
set_option maxRecDepth 100000 in
set_option maxHeartbeats 4000000 in
theorem pright_1 (k oa ob:Int) (ops d n:Nat) (V:World) (_ho:ops<=1000000) (hk:k=1) :
  Calls Try.prog 32 #[.agg (oC k oa ob),.int .i64 ((ops:Nat):Int),.int .i64 ((d:Nat):Int),.int .i64 ((n:Nat):Int)] V fun e w'=>e=.returned (.bool (rgt ⟨k,oa,ob⟩ ops d n))/\Below V.heap.size V w':=by
 have hr:rgt ⟨k,oa,ob⟩ ops d n=inB oa 0 (((d:Nat):Int) - 1):=by
  subst hk
  rfl
 go_enter Try.func32,Try.ntmps32
 refine wo_ 65 [(0,.agg (oC k oa ob)),(1,.int .i64 ((ops:Nat):Int)),(2,.int .i64 ((d:Nat):Int)),(3,.int .i64 ((n:Nat):Int))] ?_
 rintro a A ⟨t0,t1,t2,t3,-⟩
 have BW:Below V.heap.size V V:=Below.refl _ _
 have BB:Below V.heap.size V V:=Below.refl _ _
 refine wp_seq ?_
 obtain ⟨g4,egg4⟩:∃ z_:Nat,V.heap.size=z_:=⟨_,rfl⟩
 refine wi_ A (h4_ t0 t1 t2 t3) (rs_ 0 (fun a E=>?_))
 refine stepV rfl rfl (execBxO rfl (E _)) ⟨.pointer (some ⟨g4,0,none⟩),⟨_,rfl,by subst egg4; rfl⟩,fun X0 hX=>?_⟩
 have bQ:Below V.heap.size V X0:=by subst hX egg4; exact (belNew V _)
 have Fg4:(X0.heap[g4]?=some (.cells (oC k oa ob) 59)):=by subst hX egg4; exact heapNew V _
 replace BB:=BB.trans (bQ.mono BB.size)
 clear bQ hX egg4 E a
 refine rf_ [(4,.pointer (some ⟨g4,0,none⟩))] (h3_ t1 t2 t3) ?_
 rintro a A ⟨t4,-⟩ ⟨t1,t2,t3,-⟩
 refine wp_seq (wp_seq ?_)
 refine wi_ A (h4_ t1 t2 t3 t4) (rv_ 0 (.pointer (some ⟨g4,0,none⟩)) (fun a E=>execOf0 rfl (E _)) (rv_ 1 (.int .i64 k) (fun a E=>execLdG rfl (Or.inr (Or.inl rfl)) (E _) (oC_at Fg4).1) (rf_ [(10,.int .i64 k)] (h4_ t1 t2 t3 t4) ?_)))
 rintro a A ⟨t10,-⟩ ⟨t1,t2,t3,t4,-⟩
 refine wp_block ?_
 refine wp_seq (wp_block ?_)
 refine wp_seq (wp_block ?_)
 refine wp_seq (wp_block ?_)
 refine wp_seq (wp_block ?_)
 refine wp_seq (wp_block ?_)
 refine wp_seq (wp_block ?_)
 refine wp_seq (wp_block ?_)
 refine wp_seq (wp_block ?_)
 refine wp_seq (wp_seq ?_)
 refine wp_seq ?_
 refine wi_ A (h5_ t1 t2 t3 t4 t10) (rv_ 0 (.bool false) (fun a E=>execDec (exIeql3 (p:=k) (q:=2) rfl (E _) rfl) (decide_eq_false (by omega))) (rf_ [(11,.bool false)] (h5_ t1 t2 t3 t4 t10) ?_))
 rintro a A ⟨t11,-⟩ ⟨t1,t2,t3,t4,t10,-⟩
 refine wp_cond_false t11 ?_
 clear t11
 refine wp_skip ?_
 refine wp_seq (wp_seq ?_)
 refine wi_ A (h5_ t1 t2 t3 t4 t10) (rv_ 0 (.bool false) (fun a E=>execDec (exIeql3 (p:=k) (q:=8) rfl (E _) rfl) (decide_eq_false (by omega))) (rf_ [(13,.bool false)] (h5_ t1 t2 t3 t4 t10) ?_))
 rintro a A ⟨t13,-⟩ ⟨t1,t2,t3,t4,t10,-⟩
 refine wp_cond_false t13 ?_
 clear t13
 refine wp_skip ?_
 refine wp_seq (wp_seq ?_)
 refine wp_seq ?_
 refine wi_ A (h5_ t1 t2 t3 t4 t10) (rv_ 0 (.bool true) (fun a E=>execDec (exIeql3 (p:=k) (q:=1) rfl (E _) rfl) (decide_eq_true hk)) (rf_ [(15,.bool true)] (h5_ t1 t2 t3 t4 t10) ?_))
 rintro a A ⟨t15,-⟩ ⟨t1,t2,t3,t4,t10,-⟩
 refine wp_cond_true t15 (wp_skip ?_)
 refine wp_cond_true t15 ?_
 clear t15
 refine wp_exit ?_
 repeat (first | with_reducible refine exit_then ?_ | with_reducible refine exit_out (by decide) ?_)
 refine exit_in ?_
 refine wp_seq (wp_seq ?_)
 refine wi_ A (h5_ t1 t2 t3 t4 t10) (rv_ 0 (.pointer (some ⟨g4,1,none⟩)) (fun a E=>execOf1 rfl (E _)) (rv_ 1 (.int .i64 oa) (fun a E=>execLdG rfl (Or.inr (Or.inl rfl)) (E _) (oC_at Fg4).2.1) (rc_ 3 ((below_in (d:=d) (x:=oa) ▸ pbelow oa ((d:Nat):Int) X0)) (cb_ fun X15 bQ=>?_))))
 replace Fg4:=(on9 Fg4 bQ)
 replace BB:=BB.trans (bQ.mono BB.size)
 clear bQ
 refine rg_ [(8,.bool (inB oa 0 (((d:Nat):Int) - 1)))] ?_
 rintro a A ⟨t8,-⟩
 refine wp_ret ?_
 repeat (first | with_reducible refine ret_in ?_ | with_reducible refine ret_then ?_)
 refine bodyPost_ret (results_tmp rfl _ _ _) A.2 ⟨?_,BB⟩
 show Ending.returned (a.eval (.tmp 8))=_
 rw [t8,hr]
set_option maxRecDepth 100000 in
set_option maxHeartbeats 4000000 in
theorem pright_3 (k oa ob:Int) (ops d n:Nat) (V:World) (_ho:ops<=1000000) (hk:k=3) :
  Calls Try.prog 32 #[.agg (oC k oa ob),.int .i64 ((ops:Nat):Int),.int .i64 ((d:Nat):Int),.int .i64 ((n:Nat):Int)] V fun e w'=>e=.returned (.bool (rgt ⟨k,oa,ob⟩ ops d n))/\Below V.heap.size V w':=by
 have hr:rgt ⟨k,oa,ob⟩ ops d n=inB oa 0 (((d:Nat):Int) - 1):=by
  subst hk
  rfl
 go_enter Try.func32,Try.ntmps32
 refine wo_ 65 [(0,.agg (oC k oa ob)),(1,.int .i64 ((ops:Nat):Int)),(2,.int .i64 ((d:Nat):Int)),(3,.int .i64 ((n:Nat):Int))] ?_
 rintro a A ⟨t0,t1,t2,t3,-⟩
 have BW:Below V.heap.size V V:=Below.refl _ _
 have BB:Below V.heap.size V V:=Below.refl _ _
 refine wp_seq ?_
 obtain ⟨g4,egg4⟩:∃ z_:Nat,V.heap.size=z_:=⟨_,rfl⟩
 refine wi_ A (h4_ t0 t1 t2 t3) (rs_ 0 (fun a E=>?_))
 refine stepV rfl rfl (execBxO rfl (E _)) ⟨.pointer (some ⟨g4,0,none⟩),⟨_,rfl,by subst egg4; rfl⟩,fun X0 hX=>?_⟩
 have bQ:Below V.heap.size V X0:=by subst hX egg4; exact (belNew V _)
 have Fg4:(X0.heap[g4]?=some (.cells (oC k oa ob) 59)):=by subst hX egg4; exact heapNew V _
 replace BB:=BB.trans (bQ.mono BB.size)
 clear bQ hX egg4 E a
 refine rf_ [(4,.pointer (some ⟨g4,0,none⟩))] (h3_ t1 t2 t3) ?_
 rintro a A ⟨t4,-⟩ ⟨t1,t2,t3,-⟩
 refine wp_seq (wp_seq ?_)
 refine wi_ A (h4_ t1 t2 t3 t4) (rv_ 0 (.pointer (some ⟨g4,0,none⟩)) (fun a E=>execOf0 rfl (E _)) (rv_ 1 (.int .i64 k) (fun a E=>execLdG rfl (Or.inr (Or.inl rfl)) (E _) (oC_at Fg4).1) (rf_ [(10,.int .i64 k)] (h4_ t1 t2 t3 t4) ?_)))
 rintro a A ⟨t10,-⟩ ⟨t1,t2,t3,t4,-⟩
 refine wp_block ?_
 refine wp_seq (wp_block ?_)
 refine wp_seq (wp_block ?_)
 refine wp_seq (wp_block ?_)
 refine wp_seq (wp_block ?_)
 refine wp_seq (wp_block ?_)
 refine wp_seq (wp_block ?_)
 refine wp_seq (wp_block ?_)
 refine wp_seq (wp_block ?_)
 refine wp_seq (wp_seq ?_)
 refine wp_seq ?_
 refine wi_ A (h5_ t1 t2 t3 t4 t10) (rv_ 0 (.bool false) (fun a E=>execDec (exIeql3 (p:=k) (q:=2) rfl (E _) rfl) (decide_eq_false (by omega))) (rf_ [(11,.bool false)] (h5_ t1 t2 t3 t4 t10) ?_))
 rintro a A ⟨t11,-⟩ ⟨t1,t2,t3,t4,t10,-⟩
 refine wp_cond_false t11 ?_
 clear t11
 refine wp_skip ?_
 refine wp_seq (wp_seq ?_)
 refine wi_ A (h5_ t1 t2 t3 t4 t10) (rv_ 0 (.bool false) (fun a E=>execDec (exIeql3 (p:=k) (q:=8) rfl (E _) rfl) (decide_eq_false (by omega))) (rf_ [(13,.bool false)] (h5_ t1 t2 t3 t4 t10) ?_))
 rintro a A ⟨t13,-⟩ ⟨t1,t2,t3,t4,t10,-⟩
 refine wp_cond_false t13 ?_
 clear t13
 refine wp_skip ?_
 refine wp_seq (wp_seq ?_)
 refine wp_seq ?_
 refine wi_ A (h5_ t1 t2 t3 t4 t10) (rv_ 0 (.bool false) (fun a E=>execDec (exIeql3 (p:=k) (q:=1) rfl (E _) rfl) (decide_eq_false (by omega))) (rf_ [(15,.bool false)] (h5_ t1 t2 t3 t4 t10) ?_))
 rintro a A ⟨t15,-⟩ ⟨t1,t2,t3,t4,t10,-⟩
 refine wp_cond_false t15 ?_
 clear t15
 refine wi_ A (h5_ t1 t2 t3 t4 t10) (rv_ 0 (.bool true) (fun a E=>execDec (exIeql3 (p:=k) (q:=3) rfl (E _) rfl) (decide_eq_true hk)) (rf_ [(15,.bool true)] (h5_ t1 t2 t3 t4 t10) ?_))
 rintro a A ⟨t15,-⟩ ⟨t1,t2,t3,t4,t10,-⟩
 refine wp_cond_true t15 ?_
 clear t15
 refine wp_exit ?_
 repeat (first | with_reducible refine exit_then ?_ | with_reducible refine exit_out (by decide) ?_)
 refine exit_in ?_
 refine wp_seq (wp_seq ?_)
 refine wi_ A (h5_ t1 t2 t3 t4 t10) (rv_ 0 (.pointer (some ⟨g4,1,none⟩)) (fun a E=>execOf1 rfl (E _)) (rv_ 1 (.int .i64 oa) (fun a E=>execLdG rfl (Or.inr (Or.inl rfl)) (E _) (oC_at Fg4).2.1) (rc_ 3 ((below_in (d:=d) (x:=oa) ▸ pbelow oa ((d:Nat):Int) X0)) (cb_ fun X15 bQ=>?_))))
 replace Fg4:=(on9 Fg4 bQ)
 replace BB:=BB.trans (bQ.mono BB.size)
 clear bQ
 refine rg_ [(8,.bool (inB oa 0 (((d:Nat):Int) - 1)))] ?_
 rintro a A ⟨t8,-⟩
 refine wp_ret ?_
 repeat (first | with_reducible refine ret_in ?_ | with_reducible refine ret_then ?_)
 refine bodyPost_ret (results_tmp rfl _ _ _) A.2 ⟨?_,BB⟩
 show Ending.returned (a.eval (.tmp 8))=_
 rw [t8,hr]
set_option maxRecDepth 100000 in
set_option maxHeartbeats 4000000 in
theorem pright_7t (k oa ob:Int) (ops d n:Nat) (V:World) (_ho:ops<=1000000) (hk:k=7) (hA:inB ob (-1024) 1024=true) :
  Calls Try.prog 32 #[.agg (oC k oa ob),.int .i64 ((ops:Nat):Int),.int .i64 ((d:Nat):Int),.int .i64 ((n:Nat):Int)] V fun e w'=>e=.returned (.bool (rgt ⟨k,oa,ob⟩ ops d n))/\Below V.heap.size V w':=by
 have hr:rgt ⟨k,oa,ob⟩ ops d n=inB oa 0 ((ops:Nat):Int):=by
  subst hk
  show (inB oa 0 ((ops:Nat):Int) && inB ob (-1024) 1024)=_
  rw [hA]
  first | rfl | rw [Bool.true_and] | rw [Bool.and_true] | rw [Bool.and_false]
 go_enter Try.func32,Try.ntmps32
 refine wo_ 65 [(0,.agg (oC k oa ob)),(1,.int .i64 ((ops:Nat):Int)),(2,.int .i64 ((d:Nat):Int)),(3,.int .i64 ((n:Nat):Int))] ?_
 rintro a A ⟨t0,t1,t2,t3,-⟩
 have BW:Below V.heap.size V V:=Below.refl _ _
 have BB:Below V.heap.size V V:=Below.refl _ _
 refine wp_seq ?_
 obtain ⟨g4,egg4⟩:∃ z_:Nat,V.heap.size=z_:=⟨_,rfl⟩
 refine wi_ A (h4_ t0 t1 t2 t3) (rs_ 0 (fun a E=>?_))
 refine stepV rfl rfl (execBxO rfl (E _)) ⟨.pointer (some ⟨g4,0,none⟩),⟨_,rfl,by subst egg4; rfl⟩,fun X0 hX=>?_⟩
 have bQ:Below V.heap.size V X0:=by subst hX egg4; exact (belNew V _)
 have Fg4:(X0.heap[g4]?=some (.cells (oC k oa ob) 59)):=by subst hX egg4; exact heapNew V _
 replace BB:=BB.trans (bQ.mono BB.size)
 clear bQ hX egg4 E a
 refine rf_ [(4,.pointer (some ⟨g4,0,none⟩))] (h3_ t1 t2 t3) ?_
 rintro a A ⟨t4,-⟩ ⟨t1,t2,t3,-⟩
 refine wp_seq (wp_seq ?_)
 refine wi_ A (h4_ t1 t2 t3 t4) (rv_ 0 (.pointer (some ⟨g4,0,none⟩)) (fun a E=>execOf0 rfl (E _)) (rv_ 1 (.int .i64 k) (fun a E=>execLdG rfl (Or.inr (Or.inl rfl)) (E _) (oC_at Fg4).1) (rf_ [(10,.int .i64 k)] (h4_ t1 t2 t3 t4) ?_)))
 rintro a A ⟨t10,-⟩ ⟨t1,t2,t3,t4,-⟩
 refine wp_block ?_
 refine wp_seq (wp_block ?_)
 refine wp_seq (wp_block ?_)
 refine wp_seq (wp_block ?_)
 refine wp_seq (wp_block ?_)
 refine wp_seq (wp_block ?_)
 refine wp_seq (wp_block ?_)
 refine wp_seq (wp_block ?_)
 refine wp_seq (wp_block ?_)
 refine wp_seq (wp_seq ?_)
 refine wp_seq ?_
 refine wi_ A (h5_ t1 t2 t3 t4 t10) (rv_ 0 (.bool false) (fun a E=>execDec (exIeql3 (p:=k) (q:=2) rfl (E _) rfl) (decide_eq_false (by omega))) (rf_ [(11,.bool false)] (h5_ t1 t2 t3 t4 t10) ?_))
 rintro a A ⟨t11,-⟩ ⟨t1,t2,t3,t4,t10,-⟩
 refine wp_cond_false t11 ?_
 clear t11
 refine wp_skip ?_
 refine wp_seq (wp_seq ?_)
 refine wi_ A (h5_ t1 t2 t3 t4 t10) (rv_ 0 (.bool false) (fun a E=>execDec (exIeql3 (p:=k) (q:=8) rfl (E _) rfl) (decide_eq_false (by omega))) (rf_ [(13,.bool false)] (h5_ t1 t2 t3 t4 t10) ?_))
 rintro a A ⟨t13,-⟩ ⟨t1,t2,t3,t4,t10,-⟩
 refine wp_cond_false t13 ?_
 clear t13
 refine wp_skip ?_
 refine wp_seq (wp_seq ?_)
 refine wp_seq ?_
 refine wi_ A (h5_ t1 t2 t3 t4 t10) (rv_ 0 (.bool false) (fun a E=>execDec (exIeql3 (p:=k) (q:=1) rfl (E _) rfl) (decide_eq_false (by omega))) (rf_ [(15,.bool false)] (h5_ t1 t2 t3 t4 t10) ?_))
 rintro a A ⟨t15,-⟩ ⟨t1,t2,t3,t4,t10,-⟩
 refine wp_cond_false t15 ?_
 clear t15
 refine wi_ A (h5_ t1 t2 t3 t4 t10) (rv_ 0 (.bool false) (fun a E=>execDec (exIeql3 (p:=k) (q:=3) rfl (E _) rfl) (decide_eq_false (by omega))) (rf_ [(15,.bool false)] (h5_ t1 t2 t3 t4 t10) ?_))
 rintro a A ⟨t15,-⟩ ⟨t1,t2,t3,t4,t10,-⟩
 refine wp_cond_false t15 ?_
 clear t15
 refine wp_skip ?_
 refine wp_seq (wp_seq ?_)
 refine wi_ A (h5_ t1 t2 t3 t4 t10) (rv_ 0 (.bool true) (fun a E=>execDec (exIeql3 (p:=k) (q:=7) rfl (E _) rfl) (decide_eq_true hk)) (rf_ [(18,.bool true)] (h5_ t1 t2 t3 t4 t10) ?_))
 rintro a A ⟨t18,-⟩ ⟨t1,t2,t3,t4,t10,-⟩
 refine wp_cond_true t18 ?_
 clear t18
 refine wp_exit ?_
 repeat (first | with_reducible refine exit_then ?_ | with_reducible refine exit_out (by decide) ?_)
 refine exit_in ?_
 refine wp_seq ?_
 refine wi_ A (h5_ t1 t2 t3 t4 t10) (rv_ 0 (.pointer (some ⟨g4,2,none⟩)) (fun a E=>execOf2 rfl (E _)) (rv_ 1 (.int .i64 ob) (fun a E=>execLdG rfl (Or.inr (Or.inl rfl)) (E _) (oC_at Fg4).2.2) (rc_ 2 ((hA ▸ pnumber ob X0)) (cb_ fun X16 bQ=>?_))))
 replace Fg4:=(on9 Fg4 bQ)
 replace BB:=BB.trans (bQ.mono BB.size)
 clear bQ
 refine rv_ 3 (.bool false) (fun a E=>execNot8 (b:=true) rfl (E _)) (rf_ [(52,.bool false)] (h4_ t1 t2 t3 t4) ?_)
 rintro a A ⟨t52,-⟩ ⟨t1,t2,t3,t4,-⟩
 refine wp_cond_false t52 ?_
 clear t52
 refine wp_skip ?_
 refine wp_seq (wp_seq ?_)
 refine wi_ A (h4_ t1 t2 t3 t4) (rv_ 0 (.pointer (some ⟨g4,1,none⟩)) (fun a E=>execOf1 rfl (E _)) (rv_ 1 (.int .i64 oa) (fun a E=>execLdG rfl (Or.inr (Or.inl rfl)) (E _) (oC_at Fg4).2.1) (rv_ 3 (.int .i64 ((ops+1:Nat):Int)) (fun a E=>execAd8 (p:=ops) (q:=1) rfl (E _) rfl (by omega)) (rc_ 4 ((below_in1 (d:=ops) (x:=oa) ▸ pbelow oa ((ops+1:Nat):Int) X16)) (cb_ fun X18 bQ=>?_)))))
 replace Fg4:=(on9 Fg4 bQ)
 replace BB:=BB.trans (bQ.mono BB.size)
 clear bQ
 refine rg_ [(8,.bool (inB oa 0 ((ops:Nat):Int)))] ?_
 rintro a A ⟨t8,-⟩
 refine wp_ret ?_
 repeat (first | with_reducible refine ret_in ?_ | with_reducible refine ret_then ?_)
 refine bodyPost_ret (results_tmp rfl _ _ _) A.2 ⟨?_,BB⟩
 show Ending.returned (a.eval (.tmp 8))=_
 rw [t8,hr]
set_option maxRecDepth 100000 in
set_option maxHeartbeats 4000000 in
theorem pright_7f (k oa ob:Int) (ops d n:Nat) (V:World) (_ho:ops<=1000000) (hk:k=7) (hA:inB ob (-1024) 1024=false) :
  Calls Try.prog 32 #[.agg (oC k oa ob),.int .i64 ((ops:Nat):Int),.int .i64 ((d:Nat):Int),.int .i64 ((n:Nat):Int)] V fun e w'=>e=.returned (.bool (rgt ⟨k,oa,ob⟩ ops d n))/\Below V.heap.size V w':=by
 have hr:rgt ⟨k,oa,ob⟩ ops d n=false:=by
  subst hk
  show (inB oa 0 ((ops:Nat):Int) && inB ob (-1024) 1024)=_
  rw [hA]
  first | rfl | rw [Bool.true_and] | rw [Bool.and_true] | rw [Bool.and_false]
 go_enter Try.func32,Try.ntmps32
 refine wo_ 65 [(0,.agg (oC k oa ob)),(1,.int .i64 ((ops:Nat):Int)),(2,.int .i64 ((d:Nat):Int)),(3,.int .i64 ((n:Nat):Int))] ?_
 rintro a A ⟨t0,t1,t2,t3,-⟩
 have BW:Below V.heap.size V V:=Below.refl _ _
 have BB:Below V.heap.size V V:=Below.refl _ _
 refine wp_seq ?_
 obtain ⟨g4,egg4⟩:∃ z_:Nat,V.heap.size=z_:=⟨_,rfl⟩
 refine wi_ A (h4_ t0 t1 t2 t3) (rs_ 0 (fun a E=>?_))
 refine stepV rfl rfl (execBxO rfl (E _)) ⟨.pointer (some ⟨g4,0,none⟩),⟨_,rfl,by subst egg4; rfl⟩,fun X0 hX=>?_⟩
 have bQ:Below V.heap.size V X0:=by subst hX egg4; exact (belNew V _)
 have Fg4:(X0.heap[g4]?=some (.cells (oC k oa ob) 59)):=by subst hX egg4; exact heapNew V _
 replace BB:=BB.trans (bQ.mono BB.size)
 clear bQ hX egg4 E a
 refine rf_ [(4,.pointer (some ⟨g4,0,none⟩))] (h3_ t1 t2 t3) ?_
 rintro a A ⟨t4,-⟩ ⟨t1,t2,t3,-⟩
 refine wp_seq (wp_seq ?_)
 refine wi_ A (h4_ t1 t2 t3 t4) (rv_ 0 (.pointer (some ⟨g4,0,none⟩)) (fun a E=>execOf0 rfl (E _)) (rv_ 1 (.int .i64 k) (fun a E=>execLdG rfl (Or.inr (Or.inl rfl)) (E _) (oC_at Fg4).1) (rf_ [(10,.int .i64 k)] (h4_ t1 t2 t3 t4) ?_)))
 rintro a A ⟨t10,-⟩ ⟨t1,t2,t3,t4,-⟩
 refine wp_block ?_
 refine wp_seq (wp_block ?_)
 refine wp_seq (wp_block ?_)
 refine wp_seq (wp_block ?_)
 refine wp_seq (wp_block ?_)
 refine wp_seq (wp_block ?_)
 refine wp_seq (wp_block ?_)
 refine wp_seq (wp_block ?_)
 refine wp_seq (wp_block ?_)
 refine wp_seq (wp_seq ?_)
 refine wp_seq ?_
 refine wi_ A (h5_ t1 t2 t3 t4 t10) (rv_ 0 (.bool false) (fun a E=>execDec (exIeql3 (p:=k) (q:=2) rfl (E _) rfl) (decide_eq_false (by omega))) (rf_ [(11,.bool false)] (h5_ t1 t2 t3 t4 t10) ?_))
 rintro a A ⟨t11,-⟩ ⟨t1,t2,t3,t4,t10,-⟩
 refine wp_cond_false t11 ?_
 clear t11
 refine wp_skip ?_
 refine wp_seq (wp_seq ?_)
 refine wi_ A (h5_ t1 t2 t3 t4 t10) (rv_ 0 (.bool false) (fun a E=>execDec (exIeql3 (p:=k) (q:=8) rfl (E _) rfl) (decide_eq_false (by omega))) (rf_ [(13,.bool false)] (h5_ t1 t2 t3 t4 t10) ?_))
 rintro a A ⟨t13,-⟩ ⟨t1,t2,t3,t4,t10,-⟩
 refine wp_cond_false t13 ?_
 clear t13
 refine wp_skip ?_
 refine wp_seq (wp_seq ?_)
 refine wp_seq ?_
 refine wi_ A (h5_ t1 t2 t3 t4 t10) (rv_ 0 (.bool false) (fun a E=>execDec (exIeql3 (p:=k) (q:=1) rfl (E _) rfl) (decide_eq_false (by omega))) (rf_ [(15,.bool false)] (h5_ t1 t2 t3 t4 t10) ?_))
 rintro a A ⟨t15,-⟩ ⟨t1,t2,t3,t4,t10,-⟩
 refine wp_cond_false t15 ?_
 clear t15
 refine wi_ A (h5_ t1 t2 t3 t4 t10) (rv_ 0 (.bool false) (fun a E=>execDec (exIeql3 (p:=k) (q:=3) rfl (E _) rfl) (decide_eq_false (by omega))) (rf_ [(15,.bool false)] (h5_ t1 t2 t3 t4 t10) ?_))
 rintro a A ⟨t15,-⟩ ⟨t1,t2,t3,t4,t10,-⟩
 refine wp_cond_false t15 ?_
 clear t15
 refine wp_skip ?_
 refine wp_seq (wp_seq ?_)
 refine wi_ A (h5_ t1 t2 t3 t4 t10) (rv_ 0 (.bool true) (fun a E=>execDec (exIeql3 (p:=k) (q:=7) rfl (E _) rfl) (decide_eq_true hk)) (rf_ [(18,.bool true)] (h5_ t1 t2 t3 t4 t10) ?_))
 rintro a A ⟨t18,-⟩ ⟨t1,t2,t3,t4,t10,-⟩
 refine wp_cond_true t18 ?_
 clear t18
 refine wp_exit ?_
 repeat (first | with_reducible refine exit_then ?_ | with_reducible refine exit_out (by decide) ?_)
 refine exit_in ?_
 refine wp_seq ?_
 refine wi_ A (h5_ t1 t2 t3 t4 t10) (rv_ 0 (.pointer (some ⟨g4,2,none⟩)) (fun a E=>execOf2 rfl (E _)) (rv_ 1 (.int .i64 ob) (fun a E=>execLdG rfl (Or.inr (Or.inl rfl)) (E _) (oC_at Fg4).2.2) (rc_ 2 ((hA ▸ pnumber ob X0)) (cb_ fun X16 bQ=>?_))))
 replace Fg4:=(on9 Fg4 bQ)
 replace BB:=BB.trans (bQ.mono BB.size)
 clear bQ
 refine rv_ 3 (.bool true) (fun a E=>execNot8 (b:=false) rfl (E _)) (rf_ [(52,.bool true)] (h4_ t1 t2 t3 t4) ?_)
 rintro a A ⟨t52,-⟩ ⟨t1,t2,t3,t4,-⟩
 refine wp_cond_true t52 ?_
 clear t52
 refine wp_seq ?_
 refine wi_ A (h4_ t1 t2 t3 t4) (rg_ [(8,.bool false)] ?_)
 rintro a A ⟨t8,-⟩
 refine wp_ret ?_
 repeat (first | with_reducible refine ret_in ?_ | with_reducible refine ret_then ?_)
 refine bodyPost_ret (results_tmp rfl _ _ _) A.2 ⟨?_,BB⟩
 show Ending.returned (a.eval (.tmp 8))=_
 rw [t8,hr]
set_option maxRecDepth 100000 in
set_option maxHeartbeats 4000000 in
theorem pright_6 (k oa ob:Int) (ops d n:Nat) (V:World) (_ho:ops<=1000000) (hk:k=6) :
  Calls Try.prog 32 #[.agg (oC k oa ob),.int .i64 ((ops:Nat):Int),.int .i64 ((d:Nat):Int),.int .i64 ((n:Nat):Int)] V fun e w'=>e=.returned (.bool (rgt ⟨k,oa,ob⟩ ops d n))/\Below V.heap.size V w':=by
 have hr:rgt ⟨k,oa,ob⟩ ops d n=inB oa 0 ((ops:Nat):Int):=by
  subst hk
  rfl
 go_enter Try.func32,Try.ntmps32
 refine wo_ 65 [(0,.agg (oC k oa ob)),(1,.int .i64 ((ops:Nat):Int)),(2,.int .i64 ((d:Nat):Int)),(3,.int .i64 ((n:Nat):Int))] ?_
 rintro a A ⟨t0,t1,t2,t3,-⟩
 have BW:Below V.heap.size V V:=Below.refl _ _
 have BB:Below V.heap.size V V:=Below.refl _ _
 refine wp_seq ?_
 obtain ⟨g4,egg4⟩:∃ z_:Nat,V.heap.size=z_:=⟨_,rfl⟩
 refine wi_ A (h4_ t0 t1 t2 t3) (rs_ 0 (fun a E=>?_))
 refine stepV rfl rfl (execBxO rfl (E _)) ⟨.pointer (some ⟨g4,0,none⟩),⟨_,rfl,by subst egg4; rfl⟩,fun X0 hX=>?_⟩
 have bQ:Below V.heap.size V X0:=by subst hX egg4; exact (belNew V _)
 have Fg4:(X0.heap[g4]?=some (.cells (oC k oa ob) 59)):=by subst hX egg4; exact heapNew V _
 replace BB:=BB.trans (bQ.mono BB.size)
 clear bQ hX egg4 E a
 refine rf_ [(4,.pointer (some ⟨g4,0,none⟩))] (h3_ t1 t2 t3) ?_
 rintro a A ⟨t4,-⟩ ⟨t1,t2,t3,-⟩
 refine wp_seq (wp_seq ?_)
 refine wi_ A (h4_ t1 t2 t3 t4) (rv_ 0 (.pointer (some ⟨g4,0,none⟩)) (fun a E=>execOf0 rfl (E _)) (rv_ 1 (.int .i64 k) (fun a E=>execLdG rfl (Or.inr (Or.inl rfl)) (E _) (oC_at Fg4).1) (rf_ [(10,.int .i64 k)] (h4_ t1 t2 t3 t4) ?_)))
 rintro a A ⟨t10,-⟩ ⟨t1,t2,t3,t4,-⟩
 refine wp_block ?_
 refine wp_seq (wp_block ?_)
 refine wp_seq (wp_block ?_)
 refine wp_seq (wp_block ?_)
 refine wp_seq (wp_block ?_)
 refine wp_seq (wp_block ?_)
 refine wp_seq (wp_block ?_)
 refine wp_seq (wp_block ?_)
 refine wp_seq (wp_block ?_)
 refine wp_seq (wp_seq ?_)
 refine wp_seq ?_
 refine wi_ A (h5_ t1 t2 t3 t4 t10) (rv_ 0 (.bool false) (fun a E=>execDec (exIeql3 (p:=k) (q:=2) rfl (E _) rfl) (decide_eq_false (by omega))) (rf_ [(11,.bool false)] (h5_ t1 t2 t3 t4 t10) ?_))
 rintro a A ⟨t11,-⟩ ⟨t1,t2,t3,t4,t10,-⟩
 refine wp_cond_false t11 ?_
 clear t11
 refine wp_skip ?_
 refine wp_seq (wp_seq ?_)
 refine wi_ A (h5_ t1 t2 t3 t4 t10) (rv_ 0 (.bool false) (fun a E=>execDec (exIeql3 (p:=k) (q:=8) rfl (E _) rfl) (decide_eq_false (by omega))) (rf_ [(13,.bool false)] (h5_ t1 t2 t3 t4 t10) ?_))
 rintro a A ⟨t13,-⟩ ⟨t1,t2,t3,t4,t10,-⟩
 refine wp_cond_false t13 ?_
 clear t13
 refine wp_skip ?_
 refine wp_seq (wp_seq ?_)
 refine wp_seq ?_
 refine wi_ A (h5_ t1 t2 t3 t4 t10) (rv_ 0 (.bool false) (fun a E=>execDec (exIeql3 (p:=k) (q:=1) rfl (E _) rfl) (decide_eq_false (by omega))) (rf_ [(15,.bool false)] (h5_ t1 t2 t3 t4 t10) ?_))
 rintro a A ⟨t15,-⟩ ⟨t1,t2,t3,t4,t10,-⟩
 refine wp_cond_false t15 ?_
 clear t15
 refine wi_ A (h5_ t1 t2 t3 t4 t10) (rv_ 0 (.bool false) (fun a E=>execDec (exIeql3 (p:=k) (q:=3) rfl (E _) rfl) (decide_eq_false (by omega))) (rf_ [(15,.bool false)] (h5_ t1 t2 t3 t4 t10) ?_))
 rintro a A ⟨t15,-⟩ ⟨t1,t2,t3,t4,t10,-⟩
 refine wp_cond_false t15 ?_
 clear t15
 refine wp_skip ?_
 refine wp_seq (wp_seq ?_)
 refine wi_ A (h5_ t1 t2 t3 t4 t10) (rv_ 0 (.bool false) (fun a E=>execDec (exIeql3 (p:=k) (q:=7) rfl (E _) rfl) (decide_eq_false (by omega))) (rf_ [(18,.bool false)] (h5_ t1 t2 t3 t4 t10) ?_))
 rintro a A ⟨t18,-⟩ ⟨t1,t2,t3,t4,t10,-⟩
 refine wp_cond_false t18 ?_
 clear t18
 refine wp_skip ?_
 refine wp_seq (wp_seq ?_)
 refine wi_ A (h5_ t1 t2 t3 t4 t10) (rv_ 0 (.bool true) (fun a E=>execDec (exIeql3 (p:=k) (q:=6) rfl (E _) rfl) (decide_eq_true hk)) (rf_ [(20,.bool true)] (h5_ t1 t2 t3 t4 t10) ?_))
 rintro a A ⟨t20,-⟩ ⟨t1,t2,t3,t4,t10,-⟩
 refine wp_cond_true t20 ?_
 clear t20
 refine wp_exit ?_
 repeat (first | with_reducible refine exit_then ?_ | with_reducible refine exit_out (by decide) ?_)
 refine exit_in ?_
 refine wp_seq (wp_seq ?_)
 refine wi_ A (h5_ t1 t2 t3 t4 t10) (rv_ 0 (.pointer (some ⟨g4,1,none⟩)) (fun a E=>execOf1 rfl (E _)) (rv_ 1 (.int .i64 oa) (fun a E=>execLdG rfl (Or.inr (Or.inl rfl)) (E _) (oC_at Fg4).2.1) (rv_ 3 (.int .i64 ((ops+1:Nat):Int)) (fun a E=>execAd8 (p:=ops) (q:=1) rfl (E _) rfl (by omega)) (rc_ 4 ((below_in1 (d:=ops) (x:=oa) ▸ pbelow oa ((ops+1:Nat):Int) X0)) (cb_ fun X18 bQ=>?_)))))
 replace Fg4:=(on9 Fg4 bQ)
 replace BB:=BB.trans (bQ.mono BB.size)
 clear bQ
 refine rg_ [(8,.bool (inB oa 0 ((ops:Nat):Int)))] ?_
 rintro a A ⟨t8,-⟩
 refine wp_ret ?_
 repeat (first | with_reducible refine ret_in ?_ | with_reducible refine ret_then ?_)
 refine bodyPost_ret (results_tmp rfl _ _ _) A.2 ⟨?_,BB⟩
 show Ending.returned (a.eval (.tmp 8))=_
 rw [t8,hr]
set_option maxRecDepth 100000 in
set_option maxHeartbeats 4000000 in
theorem pright_4 (k oa ob:Int) (ops d n:Nat) (V:World) (_ho:ops<=1000000) (hk:k=4) :
  Calls Try.prog 32 #[.agg (oC k oa ob),.int .i64 ((ops:Nat):Int),.int .i64 ((d:Nat):Int),.int .i64 ((n:Nat):Int)] V fun e w'=>e=.returned (.bool (rgt ⟨k,oa,ob⟩ ops d n))/\Below V.heap.size V w':=by
 have hr:rgt ⟨k,oa,ob⟩ ops d n=inB oa (-1024) 1024:=by
  subst hk
  rfl
 go_enter Try.func32,Try.ntmps32
 refine wo_ 65 [(0,.agg (oC k oa ob)),(1,.int .i64 ((ops:Nat):Int)),(2,.int .i64 ((d:Nat):Int)),(3,.int .i64 ((n:Nat):Int))] ?_
 rintro a A ⟨t0,t1,t2,t3,-⟩
 have BW:Below V.heap.size V V:=Below.refl _ _
 have BB:Below V.heap.size V V:=Below.refl _ _
 refine wp_seq ?_
 obtain ⟨g4,egg4⟩:∃ z_:Nat,V.heap.size=z_:=⟨_,rfl⟩
 refine wi_ A (h4_ t0 t1 t2 t3) (rs_ 0 (fun a E=>?_))
 refine stepV rfl rfl (execBxO rfl (E _)) ⟨.pointer (some ⟨g4,0,none⟩),⟨_,rfl,by subst egg4; rfl⟩,fun X0 hX=>?_⟩
 have bQ:Below V.heap.size V X0:=by subst hX egg4; exact (belNew V _)
 have Fg4:(X0.heap[g4]?=some (.cells (oC k oa ob) 59)):=by subst hX egg4; exact heapNew V _
 replace BB:=BB.trans (bQ.mono BB.size)
 clear bQ hX egg4 E a
 refine rf_ [(4,.pointer (some ⟨g4,0,none⟩))] (h3_ t1 t2 t3) ?_
 rintro a A ⟨t4,-⟩ ⟨t1,t2,t3,-⟩
 refine wp_seq (wp_seq ?_)
 refine wi_ A (h4_ t1 t2 t3 t4) (rv_ 0 (.pointer (some ⟨g4,0,none⟩)) (fun a E=>execOf0 rfl (E _)) (rv_ 1 (.int .i64 k) (fun a E=>execLdG rfl (Or.inr (Or.inl rfl)) (E _) (oC_at Fg4).1) (rf_ [(10,.int .i64 k)] (h4_ t1 t2 t3 t4) ?_)))
 rintro a A ⟨t10,-⟩ ⟨t1,t2,t3,t4,-⟩
 refine wp_block ?_
 refine wp_seq (wp_block ?_)
 refine wp_seq (wp_block ?_)
 refine wp_seq (wp_block ?_)
 refine wp_seq (wp_block ?_)
 refine wp_seq (wp_block ?_)
 refine wp_seq (wp_block ?_)
 refine wp_seq (wp_block ?_)
 refine wp_seq (wp_block ?_)
 refine wp_seq (wp_seq ?_)
 refine wp_seq ?_
 refine wi_ A (h5_ t1 t2 t3 t4 t10) (rv_ 0 (.bool false) (fun a E=>execDec (exIeql3 (p:=k) (q:=2) rfl (E _) rfl) (decide_eq_false (by omega))) (rf_ [(11,.bool false)] (h5_ t1 t2 t3 t4 t10) ?_))
 rintro a A ⟨t11,-⟩ ⟨t1,t2,t3,t4,t10,-⟩
 refine wp_cond_false t11 ?_
 clear t11
 refine wp_skip ?_
 refine wp_seq (wp_seq ?_)
 refine wi_ A (h5_ t1 t2 t3 t4 t10) (rv_ 0 (.bool false) (fun a E=>execDec (exIeql3 (p:=k) (q:=8) rfl (E _) rfl) (decide_eq_false (by omega))) (rf_ [(13,.bool false)] (h5_ t1 t2 t3 t4 t10) ?_))
 rintro a A ⟨t13,-⟩ ⟨t1,t2,t3,t4,t10,-⟩
 refine wp_cond_false t13 ?_
 clear t13
 refine wp_skip ?_
 refine wp_seq (wp_seq ?_)
 refine wp_seq ?_
 refine wi_ A (h5_ t1 t2 t3 t4 t10) (rv_ 0 (.bool false) (fun a E=>execDec (exIeql3 (p:=k) (q:=1) rfl (E _) rfl) (decide_eq_false (by omega))) (rf_ [(15,.bool false)] (h5_ t1 t2 t3 t4 t10) ?_))
 rintro a A ⟨t15,-⟩ ⟨t1,t2,t3,t4,t10,-⟩
 refine wp_cond_false t15 ?_
 clear t15
 refine wi_ A (h5_ t1 t2 t3 t4 t10) (rv_ 0 (.bool false) (fun a E=>execDec (exIeql3 (p:=k) (q:=3) rfl (E _) rfl) (decide_eq_false (by omega))) (rf_ [(15,.bool false)] (h5_ t1 t2 t3 t4 t10) ?_))
 rintro a A ⟨t15,-⟩ ⟨t1,t2,t3,t4,t10,-⟩
 refine wp_cond_false t15 ?_
 clear t15
 refine wp_skip ?_
 refine wp_seq (wp_seq ?_)
 refine wi_ A (h5_ t1 t2 t3 t4 t10) (rv_ 0 (.bool false) (fun a E=>execDec (exIeql3 (p:=k) (q:=7) rfl (E _) rfl) (decide_eq_false (by omega))) (rf_ [(18,.bool false)] (h5_ t1 t2 t3 t4 t10) ?_))
 rintro a A ⟨t18,-⟩ ⟨t1,t2,t3,t4,t10,-⟩
 refine wp_cond_false t18 ?_
 clear t18
 refine wp_skip ?_
 refine wp_seq (wp_seq ?_)
 refine wi_ A (h5_ t1 t2 t3 t4 t10) (rv_ 0 (.bool false) (fun a E=>execDec (exIeql3 (p:=k) (q:=6) rfl (E _) rfl) (decide_eq_false (by omega))) (rf_ [(20,.bool false)] (h5_ t1 t2 t3 t4 t10) ?_))
 rintro a A ⟨t20,-⟩ ⟨t1,t2,t3,t4,t10,-⟩
 refine wp_cond_false t20 ?_
 clear t20
 refine wp_skip ?_
 refine wp_seq (wp_seq ?_)
 refine wp_seq ?_
 refine wi_ A (h5_ t1 t2 t3 t4 t10) (rv_ 0 (.bool true) (fun a E=>execDec (exIeql3 (p:=k) (q:=4) rfl (E _) rfl) (decide_eq_true hk)) (rf_ [(22,.bool true)] (h5_ t1 t2 t3 t4 t10) ?_))
 rintro a A ⟨t22,-⟩ ⟨t1,t2,t3,t4,t10,-⟩
 refine wp_cond_true t22 (wp_skip ?_)
 refine wp_cond_true t22 ?_
 clear t22
 refine wp_exit ?_
 repeat (first | with_reducible refine exit_then ?_ | with_reducible refine exit_out (by decide) ?_)
 refine exit_in ?_
 refine wp_seq (wp_seq ?_)
 refine wi_ A (h5_ t1 t2 t3 t4 t10) (rv_ 0 (.pointer (some ⟨g4,1,none⟩)) (fun a E=>execOf1 rfl (E _)) (rv_ 1 (.int .i64 oa) (fun a E=>execLdG rfl (Or.inr (Or.inl rfl)) (E _) (oC_at Fg4).2.1) (rc_ 2 (pnumber oa X0) (cb_ fun X19 bQ=>?_))))
 replace Fg4:=(on9 Fg4 bQ)
 replace BB:=BB.trans (bQ.mono BB.size)
 clear bQ
 refine rg_ [(8,.bool (inB oa (-1024) 1024))] ?_
 rintro a A ⟨t8,-⟩
 refine wp_ret ?_
 repeat (first | with_reducible refine ret_in ?_ | with_reducible refine ret_then ?_)
 refine bodyPost_ret (results_tmp rfl _ _ _) A.2 ⟨?_,BB⟩
 show Ending.returned (a.eval (.tmp 8))=_
 rw [t8,hr]
set_option maxRecDepth 100000 in
set_option maxHeartbeats 4000000 in
theorem pright_5 (k oa ob:Int) (ops d n:Nat) (V:World) (_ho:ops<=1000000) (hk:k=5) :
  Calls Try.prog 32 #[.agg (oC k oa ob),.int .i64 ((ops:Nat):Int),.int .i64 ((d:Nat):Int),.int .i64 ((n:Nat):Int)] V fun e w'=>e=.returned (.bool (rgt ⟨k,oa,ob⟩ ops d n))/\Below V.heap.size V w':=by
 have hr:rgt ⟨k,oa,ob⟩ ops d n=inB oa (-1024) 1024:=by
  subst hk
  rfl
 go_enter Try.func32,Try.ntmps32
 refine wo_ 65 [(0,.agg (oC k oa ob)),(1,.int .i64 ((ops:Nat):Int)),(2,.int .i64 ((d:Nat):Int)),(3,.int .i64 ((n:Nat):Int))] ?_
 rintro a A ⟨t0,t1,t2,t3,-⟩
 have BW:Below V.heap.size V V:=Below.refl _ _
 have BB:Below V.heap.size V V:=Below.refl _ _
 refine wp_seq ?_
 obtain ⟨g4,egg4⟩:∃ z_:Nat,V.heap.size=z_:=⟨_,rfl⟩
 refine wi_ A (h4_ t0 t1 t2 t3) (rs_ 0 (fun a E=>?_))
 refine stepV rfl rfl (execBxO rfl (E _)) ⟨.pointer (some ⟨g4,0,none⟩),⟨_,rfl,by subst egg4; rfl⟩,fun X0 hX=>?_⟩
 have bQ:Below V.heap.size V X0:=by subst hX egg4; exact (belNew V _)
 have Fg4:(X0.heap[g4]?=some (.cells (oC k oa ob) 59)):=by subst hX egg4; exact heapNew V _
 replace BB:=BB.trans (bQ.mono BB.size)
 clear bQ hX egg4 E a
 refine rf_ [(4,.pointer (some ⟨g4,0,none⟩))] (h3_ t1 t2 t3) ?_
 rintro a A ⟨t4,-⟩ ⟨t1,t2,t3,-⟩
 refine wp_seq (wp_seq ?_)
 refine wi_ A (h4_ t1 t2 t3 t4) (rv_ 0 (.pointer (some ⟨g4,0,none⟩)) (fun a E=>execOf0 rfl (E _)) (rv_ 1 (.int .i64 k) (fun a E=>execLdG rfl (Or.inr (Or.inl rfl)) (E _) (oC_at Fg4).1) (rf_ [(10,.int .i64 k)] (h4_ t1 t2 t3 t4) ?_)))
 rintro a A ⟨t10,-⟩ ⟨t1,t2,t3,t4,-⟩
 refine wp_block ?_
 refine wp_seq (wp_block ?_)
 refine wp_seq (wp_block ?_)
 refine wp_seq (wp_block ?_)
 refine wp_seq (wp_block ?_)
 refine wp_seq (wp_block ?_)
 refine wp_seq (wp_block ?_)
 refine wp_seq (wp_block ?_)
 refine wp_seq (wp_block ?_)
 refine wp_seq (wp_seq ?_)
 refine wp_seq ?_
 refine wi_ A (h5_ t1 t2 t3 t4 t10) (rv_ 0 (.bool false) (fun a E=>execDec (exIeql3 (p:=k) (q:=2) rfl (E _) rfl) (decide_eq_false (by omega))) (rf_ [(11,.bool false)] (h5_ t1 t2 t3 t4 t10) ?_))
 rintro a A ⟨t11,-⟩ ⟨t1,t2,t3,t4,t10,-⟩
 refine wp_cond_false t11 ?_
 clear t11
 refine wp_skip ?_
 refine wp_seq (wp_seq ?_)
 refine wi_ A (h5_ t1 t2 t3 t4 t10) (rv_ 0 (.bool false) (fun a E=>execDec (exIeql3 (p:=k) (q:=8) rfl (E _) rfl) (decide_eq_false (by omega))) (rf_ [(13,.bool false)] (h5_ t1 t2 t3 t4 t10) ?_))
 rintro a A ⟨t13,-⟩ ⟨t1,t2,t3,t4,t10,-⟩
 refine wp_cond_false t13 ?_
 clear t13
 refine wp_skip ?_
 refine wp_seq (wp_seq ?_)
 refine wp_seq ?_
 refine wi_ A (h5_ t1 t2 t3 t4 t10) (rv_ 0 (.bool false) (fun a E=>execDec (exIeql3 (p:=k) (q:=1) rfl (E _) rfl) (decide_eq_false (by omega))) (rf_ [(15,.bool false)] (h5_ t1 t2 t3 t4 t10) ?_))
 rintro a A ⟨t15,-⟩ ⟨t1,t2,t3,t4,t10,-⟩
 refine wp_cond_false t15 ?_
 clear t15
 refine wi_ A (h5_ t1 t2 t3 t4 t10) (rv_ 0 (.bool false) (fun a E=>execDec (exIeql3 (p:=k) (q:=3) rfl (E _) rfl) (decide_eq_false (by omega))) (rf_ [(15,.bool false)] (h5_ t1 t2 t3 t4 t10) ?_))
 rintro a A ⟨t15,-⟩ ⟨t1,t2,t3,t4,t10,-⟩
 refine wp_cond_false t15 ?_
 clear t15
 refine wp_skip ?_
 refine wp_seq (wp_seq ?_)
 refine wi_ A (h5_ t1 t2 t3 t4 t10) (rv_ 0 (.bool false) (fun a E=>execDec (exIeql3 (p:=k) (q:=7) rfl (E _) rfl) (decide_eq_false (by omega))) (rf_ [(18,.bool false)] (h5_ t1 t2 t3 t4 t10) ?_))
 rintro a A ⟨t18,-⟩ ⟨t1,t2,t3,t4,t10,-⟩
 refine wp_cond_false t18 ?_
 clear t18
 refine wp_skip ?_
 refine wp_seq (wp_seq ?_)
 refine wi_ A (h5_ t1 t2 t3 t4 t10) (rv_ 0 (.bool false) (fun a E=>execDec (exIeql3 (p:=k) (q:=6) rfl (E _) rfl) (decide_eq_false (by omega))) (rf_ [(20,.bool false)] (h5_ t1 t2 t3 t4 t10) ?_))
 rintro a A ⟨t20,-⟩ ⟨t1,t2,t3,t4,t10,-⟩
 refine wp_cond_false t20 ?_
 clear t20
 refine wp_skip ?_
 refine wp_seq (wp_seq ?_)
 refine wp_seq ?_
 refine wi_ A (h5_ t1 t2 t3 t4 t10) (rv_ 0 (.bool false) (fun a E=>execDec (exIeql3 (p:=k) (q:=4) rfl (E _) rfl) (decide_eq_false (by omega))) (rf_ [(22,.bool false)] (h5_ t1 t2 t3 t4 t10) ?_))
 rintro a A ⟨t22,-⟩ ⟨t1,t2,t3,t4,t10,-⟩
 refine wp_cond_false t22 ?_
 clear t22
 refine wi_ A (h5_ t1 t2 t3 t4 t10) (rv_ 0 (.bool true) (fun a E=>execDec (exIeql3 (p:=k) (q:=5) rfl (E _) rfl) (decide_eq_true hk)) (rf_ [(22,.bool true)] (h5_ t1 t2 t3 t4 t10) ?_))
 rintro a A ⟨t22,-⟩ ⟨t1,t2,t3,t4,t10,-⟩
 refine wp_cond_true t22 ?_
 clear t22
 refine wp_exit ?_
 repeat (first | with_reducible refine exit_then ?_ | with_reducible refine exit_out (by decide) ?_)
 refine exit_in ?_
 refine wp_seq (wp_seq ?_)
 refine wi_ A (h5_ t1 t2 t3 t4 t10) (rv_ 0 (.pointer (some ⟨g4,1,none⟩)) (fun a E=>execOf1 rfl (E _)) (rv_ 1 (.int .i64 oa) (fun a E=>execLdG rfl (Or.inr (Or.inl rfl)) (E _) (oC_at Fg4).2.1) (rc_ 2 (pnumber oa X0) (cb_ fun X19 bQ=>?_))))
 replace Fg4:=(on9 Fg4 bQ)
 replace BB:=BB.trans (bQ.mono BB.size)
 clear bQ
 refine rg_ [(8,.bool (inB oa (-1024) 1024))] ?_
 rintro a A ⟨t8,-⟩
 refine wp_ret ?_
 repeat (first | with_reducible refine ret_in ?_ | with_reducible refine ret_then ?_)
 refine bodyPost_ret (results_tmp rfl _ _ _) A.2 ⟨?_,BB⟩
 show Ending.returned (a.eval (.tmp 8))=_
 rw [t8,hr]
set_option maxRecDepth 100000 in
set_option maxHeartbeats 4000000 in
theorem pright_9 (k oa ob:Int) (ops d n:Nat) (V:World) (_ho:ops<=1000000) (hk:k=9) :
  Calls Try.prog 32 #[.agg (oC k oa ob),.int .i64 ((ops:Nat):Int),.int .i64 ((d:Nat):Int),.int .i64 ((n:Nat):Int)] V fun e w'=>e=.returned (.bool (rgt ⟨k,oa,ob⟩ ops d n))/\Below V.heap.size V w':=by
 have hr:rgt ⟨k,oa,ob⟩ ops d n=inB oa 0 (((n:Nat):Int) - 1):=by
  subst hk
  rfl
 go_enter Try.func32,Try.ntmps32
 refine wo_ 65 [(0,.agg (oC k oa ob)),(1,.int .i64 ((ops:Nat):Int)),(2,.int .i64 ((d:Nat):Int)),(3,.int .i64 ((n:Nat):Int))] ?_
 rintro a A ⟨t0,t1,t2,t3,-⟩
 have BW:Below V.heap.size V V:=Below.refl _ _
 have BB:Below V.heap.size V V:=Below.refl _ _
 refine wp_seq ?_
 obtain ⟨g4,egg4⟩:∃ z_:Nat,V.heap.size=z_:=⟨_,rfl⟩
 refine wi_ A (h4_ t0 t1 t2 t3) (rs_ 0 (fun a E=>?_))
 refine stepV rfl rfl (execBxO rfl (E _)) ⟨.pointer (some ⟨g4,0,none⟩),⟨_,rfl,by subst egg4; rfl⟩,fun X0 hX=>?_⟩
 have bQ:Below V.heap.size V X0:=by subst hX egg4; exact (belNew V _)
 have Fg4:(X0.heap[g4]?=some (.cells (oC k oa ob) 59)):=by subst hX egg4; exact heapNew V _
 replace BB:=BB.trans (bQ.mono BB.size)
 clear bQ hX egg4 E a
 refine rf_ [(4,.pointer (some ⟨g4,0,none⟩))] (h3_ t1 t2 t3) ?_
 rintro a A ⟨t4,-⟩ ⟨t1,t2,t3,-⟩
 refine wp_seq (wp_seq ?_)
 refine wi_ A (h4_ t1 t2 t3 t4) (rv_ 0 (.pointer (some ⟨g4,0,none⟩)) (fun a E=>execOf0 rfl (E _)) (rv_ 1 (.int .i64 k) (fun a E=>execLdG rfl (Or.inr (Or.inl rfl)) (E _) (oC_at Fg4).1) (rf_ [(10,.int .i64 k)] (h4_ t1 t2 t3 t4) ?_)))
 rintro a A ⟨t10,-⟩ ⟨t1,t2,t3,t4,-⟩
 refine wp_block ?_
 refine wp_seq (wp_block ?_)
 refine wp_seq (wp_block ?_)
 refine wp_seq (wp_block ?_)
 refine wp_seq (wp_block ?_)
 refine wp_seq (wp_block ?_)
 refine wp_seq (wp_block ?_)
 refine wp_seq (wp_block ?_)
 refine wp_seq (wp_block ?_)
 refine wp_seq (wp_seq ?_)
 refine wp_seq ?_
 refine wi_ A (h5_ t1 t2 t3 t4 t10) (rv_ 0 (.bool false) (fun a E=>execDec (exIeql3 (p:=k) (q:=2) rfl (E _) rfl) (decide_eq_false (by omega))) (rf_ [(11,.bool false)] (h5_ t1 t2 t3 t4 t10) ?_))
 rintro a A ⟨t11,-⟩ ⟨t1,t2,t3,t4,t10,-⟩
 refine wp_cond_false t11 ?_
 clear t11
 refine wp_skip ?_
 refine wp_seq (wp_seq ?_)
 refine wi_ A (h5_ t1 t2 t3 t4 t10) (rv_ 0 (.bool false) (fun a E=>execDec (exIeql3 (p:=k) (q:=8) rfl (E _) rfl) (decide_eq_false (by omega))) (rf_ [(13,.bool false)] (h5_ t1 t2 t3 t4 t10) ?_))
 rintro a A ⟨t13,-⟩ ⟨t1,t2,t3,t4,t10,-⟩
 refine wp_cond_false t13 ?_
 clear t13
 refine wp_skip ?_
 refine wp_seq (wp_seq ?_)
 refine wp_seq ?_
 refine wi_ A (h5_ t1 t2 t3 t4 t10) (rv_ 0 (.bool false) (fun a E=>execDec (exIeql3 (p:=k) (q:=1) rfl (E _) rfl) (decide_eq_false (by omega))) (rf_ [(15,.bool false)] (h5_ t1 t2 t3 t4 t10) ?_))
 rintro a A ⟨t15,-⟩ ⟨t1,t2,t3,t4,t10,-⟩
 refine wp_cond_false t15 ?_
 clear t15
 refine wi_ A (h5_ t1 t2 t3 t4 t10) (rv_ 0 (.bool false) (fun a E=>execDec (exIeql3 (p:=k) (q:=3) rfl (E _) rfl) (decide_eq_false (by omega))) (rf_ [(15,.bool false)] (h5_ t1 t2 t3 t4 t10) ?_))
 rintro a A ⟨t15,-⟩ ⟨t1,t2,t3,t4,t10,-⟩
 refine wp_cond_false t15 ?_
 clear t15
 refine wp_skip ?_
 refine wp_seq (wp_seq ?_)
 refine wi_ A (h5_ t1 t2 t3 t4 t10) (rv_ 0 (.bool false) (fun a E=>execDec (exIeql3 (p:=k) (q:=7) rfl (E _) rfl) (decide_eq_false (by omega))) (rf_ [(18,.bool false)] (h5_ t1 t2 t3 t4 t10) ?_))
 rintro a A ⟨t18,-⟩ ⟨t1,t2,t3,t4,t10,-⟩
 refine wp_cond_false t18 ?_
 clear t18
 refine wp_skip ?_
 refine wp_seq (wp_seq ?_)
 refine wi_ A (h5_ t1 t2 t3 t4 t10) (rv_ 0 (.bool false) (fun a E=>execDec (exIeql3 (p:=k) (q:=6) rfl (E _) rfl) (decide_eq_false (by omega))) (rf_ [(20,.bool false)] (h5_ t1 t2 t3 t4 t10) ?_))
 rintro a A ⟨t20,-⟩ ⟨t1,t2,t3,t4,t10,-⟩
 refine wp_cond_false t20 ?_
 clear t20
 refine wp_skip ?_
 refine wp_seq (wp_seq ?_)
 refine wp_seq ?_
 refine wi_ A (h5_ t1 t2 t3 t4 t10) (rv_ 0 (.bool false) (fun a E=>execDec (exIeql3 (p:=k) (q:=4) rfl (E _) rfl) (decide_eq_false (by omega))) (rf_ [(22,.bool false)] (h5_ t1 t2 t3 t4 t10) ?_))
 rintro a A ⟨t22,-⟩ ⟨t1,t2,t3,t4,t10,-⟩
 refine wp_cond_false t22 ?_
 clear t22
 refine wi_ A (h5_ t1 t2 t3 t4 t10) (rv_ 0 (.bool false) (fun a E=>execDec (exIeql3 (p:=k) (q:=5) rfl (E _) rfl) (decide_eq_false (by omega))) (rf_ [(22,.bool false)] (h5_ t1 t2 t3 t4 t10) ?_))
 rintro a A ⟨t22,-⟩ ⟨t1,t2,t3,t4,t10,-⟩
 refine wp_cond_false t22 ?_
 clear t22
 refine wp_skip ?_
 refine wp_seq (wp_seq ?_)
 refine wi_ A (h5_ t1 t2 t3 t4 t10) (rv_ 0 (.bool true) (fun a E=>execDec (exIeql3 (p:=k) (q:=9) rfl (E _) rfl) (decide_eq_true hk)) (rf_ [(25,.bool true)] (h5_ t1 t2 t3 t4 t10) ?_))
 rintro a A ⟨t25,-⟩ ⟨t1,t2,t3,t4,t10,-⟩
 refine wp_cond_true t25 ?_
 clear t25
 refine wp_exit ?_
 repeat (first | with_reducible refine exit_then ?_ | with_reducible refine exit_out (by decide) ?_)
 refine exit_in ?_
 refine wp_seq (wp_seq ?_)
 refine wi_ A (h5_ t1 t2 t3 t4 t10) (rv_ 0 (.pointer (some ⟨g4,1,none⟩)) (fun a E=>execOf1 rfl (E _)) (rv_ 1 (.int .i64 oa) (fun a E=>execLdG rfl (Or.inr (Or.inl rfl)) (E _) (oC_at Fg4).2.1) (rc_ 3 ((below_in (d:=n) (x:=oa) ▸ pbelow oa ((n:Nat):Int) X0)) (cb_ fun X20 bQ=>?_))))
 replace Fg4:=(on9 Fg4 bQ)
 replace BB:=BB.trans (bQ.mono BB.size)
 clear bQ
 refine rg_ [(8,.bool (inB oa 0 (((n:Nat):Int) - 1)))] ?_
 rintro a A ⟨t8,-⟩
 refine wp_ret ?_
 repeat (first | with_reducible refine ret_in ?_ | with_reducible refine ret_then ?_)
 refine bodyPost_ret (results_tmp rfl _ _ _) A.2 ⟨?_,BB⟩
 show Ending.returned (a.eval (.tmp 8))=_
 rw [t8,hr]
set_option maxRecDepth 100000 in
set_option maxHeartbeats 4000000 in
theorem pright_10 (k oa ob:Int) (ops d n:Nat) (V:World) (_ho:ops<=1000000) (hk:k=10) :
  Calls Try.prog 32 #[.agg (oC k oa ob),.int .i64 ((ops:Nat):Int),.int .i64 ((d:Nat):Int),.int .i64 ((n:Nat):Int)] V fun e w'=>e=.returned (.bool (rgt ⟨k,oa,ob⟩ ops d n))/\Below V.heap.size V w':=by
 have hr:rgt ⟨k,oa,ob⟩ ops d n=true:=by
  subst hk
  rfl
 go_enter Try.func32,Try.ntmps32
 refine wo_ 65 [(0,.agg (oC k oa ob)),(1,.int .i64 ((ops:Nat):Int)),(2,.int .i64 ((d:Nat):Int)),(3,.int .i64 ((n:Nat):Int))] ?_
 rintro a A ⟨t0,t1,t2,t3,-⟩
 have BW:Below V.heap.size V V:=Below.refl _ _
 have BB:Below V.heap.size V V:=Below.refl _ _
 refine wp_seq ?_
 obtain ⟨g4,egg4⟩:∃ z_:Nat,V.heap.size=z_:=⟨_,rfl⟩
 refine wi_ A (h4_ t0 t1 t2 t3) (rs_ 0 (fun a E=>?_))
 refine stepV rfl rfl (execBxO rfl (E _)) ⟨.pointer (some ⟨g4,0,none⟩),⟨_,rfl,by subst egg4; rfl⟩,fun X0 hX=>?_⟩
 have bQ:Below V.heap.size V X0:=by subst hX egg4; exact (belNew V _)
 have Fg4:(X0.heap[g4]?=some (.cells (oC k oa ob) 59)):=by subst hX egg4; exact heapNew V _
 replace BB:=BB.trans (bQ.mono BB.size)
 clear bQ hX egg4 E a
 refine rf_ [(4,.pointer (some ⟨g4,0,none⟩))] (h3_ t1 t2 t3) ?_
 rintro a A ⟨t4,-⟩ ⟨t1,t2,t3,-⟩
 refine wp_seq (wp_seq ?_)
 refine wi_ A (h4_ t1 t2 t3 t4) (rv_ 0 (.pointer (some ⟨g4,0,none⟩)) (fun a E=>execOf0 rfl (E _)) (rv_ 1 (.int .i64 k) (fun a E=>execLdG rfl (Or.inr (Or.inl rfl)) (E _) (oC_at Fg4).1) (rf_ [(10,.int .i64 k)] (h4_ t1 t2 t3 t4) ?_)))
 rintro a A ⟨t10,-⟩ ⟨t1,t2,t3,t4,-⟩
 refine wp_block ?_
 refine wp_seq (wp_block ?_)
 refine wp_seq (wp_block ?_)
 refine wp_seq (wp_block ?_)
 refine wp_seq (wp_block ?_)
 refine wp_seq (wp_block ?_)
 refine wp_seq (wp_block ?_)
 refine wp_seq (wp_block ?_)
 refine wp_seq (wp_block ?_)
 refine wp_seq (wp_seq ?_)
 refine wp_seq ?_
 refine wi_ A (h5_ t1 t2 t3 t4 t10) (rv_ 0 (.bool false) (fun a E=>execDec (exIeql3 (p:=k) (q:=2) rfl (E _) rfl) (decide_eq_false (by omega))) (rf_ [(11,.bool false)] (h5_ t1 t2 t3 t4 t10) ?_))
 rintro a A ⟨t11,-⟩ ⟨t1,t2,t3,t4,t10,-⟩
 refine wp_cond_false t11 ?_
 clear t11
 refine wp_skip ?_
 refine wp_seq (wp_seq ?_)
 refine wi_ A (h5_ t1 t2 t3 t4 t10) (rv_ 0 (.bool false) (fun a E=>execDec (exIeql3 (p:=k) (q:=8) rfl (E _) rfl) (decide_eq_false (by omega))) (rf_ [(13,.bool false)] (h5_ t1 t2 t3 t4 t10) ?_))
 rintro a A ⟨t13,-⟩ ⟨t1,t2,t3,t4,t10,-⟩
 refine wp_cond_false t13 ?_
 clear t13
 refine wp_skip ?_
 refine wp_seq (wp_seq ?_)
 refine wp_seq ?_
 refine wi_ A (h5_ t1 t2 t3 t4 t10) (rv_ 0 (.bool false) (fun a E=>execDec (exIeql3 (p:=k) (q:=1) rfl (E _) rfl) (decide_eq_false (by omega))) (rf_ [(15,.bool false)] (h5_ t1 t2 t3 t4 t10) ?_))
 rintro a A ⟨t15,-⟩ ⟨t1,t2,t3,t4,t10,-⟩
 refine wp_cond_false t15 ?_
 clear t15
 refine wi_ A (h5_ t1 t2 t3 t4 t10) (rv_ 0 (.bool false) (fun a E=>execDec (exIeql3 (p:=k) (q:=3) rfl (E _) rfl) (decide_eq_false (by omega))) (rf_ [(15,.bool false)] (h5_ t1 t2 t3 t4 t10) ?_))
 rintro a A ⟨t15,-⟩ ⟨t1,t2,t3,t4,t10,-⟩
 refine wp_cond_false t15 ?_
 clear t15
 refine wp_skip ?_
 refine wp_seq (wp_seq ?_)
 refine wi_ A (h5_ t1 t2 t3 t4 t10) (rv_ 0 (.bool false) (fun a E=>execDec (exIeql3 (p:=k) (q:=7) rfl (E _) rfl) (decide_eq_false (by omega))) (rf_ [(18,.bool false)] (h5_ t1 t2 t3 t4 t10) ?_))
 rintro a A ⟨t18,-⟩ ⟨t1,t2,t3,t4,t10,-⟩
 refine wp_cond_false t18 ?_
 clear t18
 refine wp_skip ?_
 refine wp_seq (wp_seq ?_)
 refine wi_ A (h5_ t1 t2 t3 t4 t10) (rv_ 0 (.bool false) (fun a E=>execDec (exIeql3 (p:=k) (q:=6) rfl (E _) rfl) (decide_eq_false (by omega))) (rf_ [(20,.bool false)] (h5_ t1 t2 t3 t4 t10) ?_))
 rintro a A ⟨t20,-⟩ ⟨t1,t2,t3,t4,t10,-⟩
 refine wp_cond_false t20 ?_
 clear t20
 refine wp_skip ?_
 refine wp_seq (wp_seq ?_)
 refine wp_seq ?_
 refine wi_ A (h5_ t1 t2 t3 t4 t10) (rv_ 0 (.bool false) (fun a E=>execDec (exIeql3 (p:=k) (q:=4) rfl (E _) rfl) (decide_eq_false (by omega))) (rf_ [(22,.bool false)] (h5_ t1 t2 t3 t4 t10) ?_))
 rintro a A ⟨t22,-⟩ ⟨t1,t2,t3,t4,t10,-⟩
 refine wp_cond_false t22 ?_
 clear t22
 refine wi_ A (h5_ t1 t2 t3 t4 t10) (rv_ 0 (.bool false) (fun a E=>execDec (exIeql3 (p:=k) (q:=5) rfl (E _) rfl) (decide_eq_false (by omega))) (rf_ [(22,.bool false)] (h5_ t1 t2 t3 t4 t10) ?_))
 rintro a A ⟨t22,-⟩ ⟨t1,t2,t3,t4,t10,-⟩
 refine wp_cond_false t22 ?_
 clear t22
 refine wp_skip ?_
 refine wp_seq (wp_seq ?_)
 refine wi_ A (h5_ t1 t2 t3 t4 t10) (rv_ 0 (.bool false) (fun a E=>execDec (exIeql3 (p:=k) (q:=9) rfl (E _) rfl) (decide_eq_false (by omega))) (rf_ [(25,.bool false)] (h5_ t1 t2 t3 t4 t10) ?_))
 rintro a A ⟨t25,-⟩ ⟨t1,t2,t3,t4,t10,-⟩
 refine wp_cond_false t25 ?_
 clear t25
 refine wp_skip ?_
 refine wp_seq ?_
 refine wi_ A (h5_ t1 t2 t3 t4 t10) (rv_ 0 (.bool true) (fun a E=>execDec (exIeql3 (p:=k) (q:=10) rfl (E _) rfl) (decide_eq_true hk)) (rf_ [(27,.bool true)] (h5_ t1 t2 t3 t4 t10) ?_))
 rintro a A ⟨t27,-⟩ ⟨t1,t2,t3,t4,t10,-⟩
 refine wp_cond_true t27 ?_
 clear t27
 refine wp_exit ?_
 repeat (first | with_reducible refine exit_then ?_ | with_reducible refine exit_out (by decide) ?_)
 refine exit_in ?_
 refine wp_seq (wp_seq ?_)
 refine wi_ A (h5_ t1 t2 t3 t4 t10) (rg_ [(8,.bool true)] ?_)
 rintro a A ⟨t8,-⟩
 refine wp_ret ?_
 repeat (first | with_reducible refine ret_in ?_ | with_reducible refine ret_then ?_)
 refine bodyPost_ret (results_tmp rfl _ _ _) A.2 ⟨?_,BB⟩
 show Ending.returned (a.eval (.tmp 8))=_
 rw [t8,hr]
set_option maxRecDepth 100000 in
set_option maxHeartbeats 4000000 in
theorem pright_0 (k oa ob:Int) (ops d n:Nat) (V:World) (_ho:ops<=1000000) (hk:k ≠ 1/\k ≠ 2/\k ≠ 3/\k ≠ 4/\k ≠ 5/\k ≠ 6/\k ≠ 7/\k ≠ 8/\k ≠ 9/\k ≠ 10) :
  Calls Try.prog 32 #[.agg (oC k oa ob),.int .i64 ((ops:Nat):Int),.int .i64 ((d:Nat):Int),.int .i64 ((n:Nat):Int)] V fun e w'=>e=.returned (.bool (rgt ⟨k,oa,ob⟩ ops d n))/\Below V.heap.size V w':=by
 have hr:rgt ⟨k,oa,ob⟩ ops d n=false:=by
  unfold rgt
  rw [if_neg (by show ¬ (k=1\/k=3); omega),if_neg (by show ¬ k=2; omega),if_neg (by show ¬ k=8; omega),if_neg (by show ¬ (k=4\/k=5); omega),if_neg (by show ¬ k=6; omega),if_neg (by show ¬ k=7; omega),if_neg (by show ¬ k=9; omega)]
  exact decide_eq_false (by show ¬ k=10; omega)
 go_enter Try.func32,Try.ntmps32
 refine wo_ 65 [(0,.agg (oC k oa ob)),(1,.int .i64 ((ops:Nat):Int)),(2,.int .i64 ((d:Nat):Int)),(3,.int .i64 ((n:Nat):Int))] ?_
 rintro a A ⟨t0,t1,t2,t3,-⟩
 have BW:Below V.heap.size V V:=Below.refl _ _
 have BB:Below V.heap.size V V:=Below.refl _ _
 refine wp_seq ?_
 obtain ⟨g4,egg4⟩:∃ z_:Nat,V.heap.size=z_:=⟨_,rfl⟩
 refine wi_ A (h4_ t0 t1 t2 t3) (rs_ 0 (fun a E=>?_))
 refine stepV rfl rfl (execBxO rfl (E _)) ⟨.pointer (some ⟨g4,0,none⟩),⟨_,rfl,by subst egg4; rfl⟩,fun X0 hX=>?_⟩
 have bQ:Below V.heap.size V X0:=by subst hX egg4; exact (belNew V _)
 have Fg4:(X0.heap[g4]?=some (.cells (oC k oa ob) 59)):=by subst hX egg4; exact heapNew V _
 replace BB:=BB.trans (bQ.mono BB.size)
 clear bQ hX egg4 E a
 refine rf_ [(4,.pointer (some ⟨g4,0,none⟩))] (h3_ t1 t2 t3) ?_
 rintro a A ⟨t4,-⟩ ⟨t1,t2,t3,-⟩
 refine wp_seq (wp_seq ?_)
 refine wi_ A (h4_ t1 t2 t3 t4) (rv_ 0 (.pointer (some ⟨g4,0,none⟩)) (fun a E=>execOf0 rfl (E _)) (rv_ 1 (.int .i64 k) (fun a E=>execLdG rfl (Or.inr (Or.inl rfl)) (E _) (oC_at Fg4).1) (rf_ [(10,.int .i64 k)] (h4_ t1 t2 t3 t4) ?_)))
 rintro a A ⟨t10,-⟩ ⟨t1,t2,t3,t4,-⟩
 refine wp_block ?_
 refine wp_seq (wp_block ?_)
 refine wp_seq (wp_block ?_)
 refine wp_seq (wp_block ?_)
 refine wp_seq (wp_block ?_)
 refine wp_seq (wp_block ?_)
 refine wp_seq (wp_block ?_)
 refine wp_seq (wp_block ?_)
 refine wp_seq (wp_block ?_)
 refine wp_seq (wp_seq ?_)
 refine wp_seq ?_
 refine wi_ A (h5_ t1 t2 t3 t4 t10) (rv_ 0 (.bool false) (fun a E=>execDec (exIeql3 (p:=k) (q:=2) rfl (E _) rfl) (decide_eq_false (by omega))) (rf_ [(11,.bool false)] (h5_ t1 t2 t3 t4 t10) ?_))
 rintro a A ⟨t11,-⟩ ⟨t1,t2,t3,t4,t10,-⟩
 refine wp_cond_false t11 ?_
 clear t11
 refine wp_skip ?_
 refine wp_seq (wp_seq ?_)
 refine wi_ A (h5_ t1 t2 t3 t4 t10) (rv_ 0 (.bool false) (fun a E=>execDec (exIeql3 (p:=k) (q:=8) rfl (E _) rfl) (decide_eq_false (by omega))) (rf_ [(13,.bool false)] (h5_ t1 t2 t3 t4 t10) ?_))
 rintro a A ⟨t13,-⟩ ⟨t1,t2,t3,t4,t10,-⟩
 refine wp_cond_false t13 ?_
 clear t13
 refine wp_skip ?_
 refine wp_seq (wp_seq ?_)
 refine wp_seq ?_
 refine wi_ A (h5_ t1 t2 t3 t4 t10) (rv_ 0 (.bool false) (fun a E=>execDec (exIeql3 (p:=k) (q:=1) rfl (E _) rfl) (decide_eq_false (by omega))) (rf_ [(15,.bool false)] (h5_ t1 t2 t3 t4 t10) ?_))
 rintro a A ⟨t15,-⟩ ⟨t1,t2,t3,t4,t10,-⟩
 refine wp_cond_false t15 ?_
 clear t15
 refine wi_ A (h5_ t1 t2 t3 t4 t10) (rv_ 0 (.bool false) (fun a E=>execDec (exIeql3 (p:=k) (q:=3) rfl (E _) rfl) (decide_eq_false (by omega))) (rf_ [(15,.bool false)] (h5_ t1 t2 t3 t4 t10) ?_))
 rintro a A ⟨t15,-⟩ ⟨t1,t2,t3,t4,t10,-⟩
 refine wp_cond_false t15 ?_
 clear t15
 refine wp_skip ?_
 refine wp_seq (wp_seq ?_)
 refine wi_ A (h5_ t1 t2 t3 t4 t10) (rv_ 0 (.bool false) (fun a E=>execDec (exIeql3 (p:=k) (q:=7) rfl (E _) rfl) (decide_eq_false (by omega))) (rf_ [(18,.bool false)] (h5_ t1 t2 t3 t4 t10) ?_))
 rintro a A ⟨t18,-⟩ ⟨t1,t2,t3,t4,t10,-⟩
 refine wp_cond_false t18 ?_
 clear t18
 refine wp_skip ?_
 refine wp_seq (wp_seq ?_)
 refine wi_ A (h5_ t1 t2 t3 t4 t10) (rv_ 0 (.bool false) (fun a E=>execDec (exIeql3 (p:=k) (q:=6) rfl (E _) rfl) (decide_eq_false (by omega))) (rf_ [(20,.bool false)] (h5_ t1 t2 t3 t4 t10) ?_))
 rintro a A ⟨t20,-⟩ ⟨t1,t2,t3,t4,t10,-⟩
 refine wp_cond_false t20 ?_
 clear t20
 refine wp_skip ?_
 refine wp_seq (wp_seq ?_)
 refine wp_seq ?_
 refine wi_ A (h5_ t1 t2 t3 t4 t10) (rv_ 0 (.bool false) (fun a E=>execDec (exIeql3 (p:=k) (q:=4) rfl (E _) rfl) (decide_eq_false (by omega))) (rf_ [(22,.bool false)] (h5_ t1 t2 t3 t4 t10) ?_))
 rintro a A ⟨t22,-⟩ ⟨t1,t2,t3,t4,t10,-⟩
 refine wp_cond_false t22 ?_
 clear t22
 refine wi_ A (h5_ t1 t2 t3 t4 t10) (rv_ 0 (.bool false) (fun a E=>execDec (exIeql3 (p:=k) (q:=5) rfl (E _) rfl) (decide_eq_false (by omega))) (rf_ [(22,.bool false)] (h5_ t1 t2 t3 t4 t10) ?_))
 rintro a A ⟨t22,-⟩ ⟨t1,t2,t3,t4,t10,-⟩
 refine wp_cond_false t22 ?_
 clear t22
 refine wp_skip ?_
 refine wp_seq (wp_seq ?_)
 refine wi_ A (h5_ t1 t2 t3 t4 t10) (rv_ 0 (.bool false) (fun a E=>execDec (exIeql3 (p:=k) (q:=9) rfl (E _) rfl) (decide_eq_false (by omega))) (rf_ [(25,.bool false)] (h5_ t1 t2 t3 t4 t10) ?_))
 rintro a A ⟨t25,-⟩ ⟨t1,t2,t3,t4,t10,-⟩
 refine wp_cond_false t25 ?_
 clear t25
 refine wp_skip ?_
 refine wp_seq ?_
 refine wi_ A (h5_ t1 t2 t3 t4 t10) (rv_ 0 (.bool false) (fun a E=>execDec (exIeql3 (p:=k) (q:=10) rfl (E _) rfl) (decide_eq_false (by omega))) (rf_ [(27,.bool false)] (h5_ t1 t2 t3 t4 t10) ?_))
 rintro a A ⟨t27,-⟩ ⟨t1,t2,t3,t4,t10,-⟩
 refine wp_cond_false t27 ?_
 clear t27
 refine wp_skip ?_
 refine wp_exit ?_
 repeat (first | with_reducible refine exit_then ?_ | with_reducible refine exit_out (by decide) ?_)
 refine exit_in ?_
 refine wp_seq ?_
 refine wi_ A (h5_ t1 t2 t3 t4 t10) (rg_ [(8,.bool false)] ?_)
 rintro a A ⟨t8,-⟩
 refine wp_ret ?_
 refine bodyPost_ret (results_tmp rfl _ _ _) A.2 ⟨?_,BB⟩
 show Ending.returned (a.eval (.tmp 8))=_
 rw [t8,hr]
theorem pright (k oa ob:Int) (ops d n:Nat) (V:World) (ho:ops<=1000000):Calls Try.prog 32 #[.agg (oC k oa ob),.int .i64 ((ops:Nat):Int),.int .i64 ((d:Nat):Int),.int .i64 ((n:Nat):Int)] V fun e w'=>e=.returned (.bool (rgt ⟨k,oa,ob⟩ ops d n))/\Below V.heap.size V w':=by
 by_cases h2:k=2
 ·cases hA:inB oa 0 (((d:Nat):Int) - 1) with
  | true=>exact pright_2t k oa ob ops d n V ho h2 hA
  | false=>exact pright_2f k oa ob ops d n V ho h2 hA
 by_cases h8:k=8
 ·cases hA:inB ob 0 (((d:Nat):Int) - 1) with
  | true=>exact pright_8t k oa ob ops d n V ho h8 hA
  | false=>exact pright_8f k oa ob ops d n V ho h8 hA
 by_cases h1:k=1
 ·exact pright_1 k oa ob ops d n V ho h1
 by_cases h3:k=3
 ·exact pright_3 k oa ob ops d n V ho h3
 by_cases h7:k=7
 ·cases hA:inB ob (-1024) 1024 with
  | true=>exact pright_7t k oa ob ops d n V ho h7 hA
  | false=>exact pright_7f k oa ob ops d n V ho h7 hA
 by_cases h6:k=6
 ·exact pright_6 k oa ob ops d n V ho h6
 by_cases h4:k=4
 ·exact pright_4 k oa ob ops d n V ho h4
 by_cases h5:k=5
 ·exact pright_5 k oa ob ops d n V ho h5
 by_cases h9:k=9
 ·exact pright_9 k oa ob ops d n V ho h9
 by_cases h10:k=10
 ·exact pright_10 k oa ob ops d n V ho h10
 exact pright_0 k oa ob ops d n V ho ⟨h1,h2,h3,h4,h5,h6,h7,h8,h9,h10⟩
def lgB (p:Pl):Bool:=decide (128 < p.n\/64 < p.d) || lnB p
set_option maxRecDepth 100000 in
set_option maxHeartbeats 4000000 in
theorem plong (p:Pl) (v:Value) (V:World) (hp:PlA V v p) :
  Calls Try.prog 31 #[v] V fun e w'=>e=.returned (.bool (lgB p))/\Below V.heap.size V w':=by
 obtain ⟨cv,tv,x,rfl,hcv,htv,hops⟩:=hp
 go_enter Try.func31,Try.ntmps31
 refine wo_ 26 [(0,.agg #[cv,tv])] ?_
 rintro a A ⟨t0,-⟩
 have BW:Below V.heap.size V V:=Below.refl _ _
 have BB:Below V.heap.size V V:=Below.refl _ _
 refine wp_seq ?_
 obtain ⟨g1,egg1⟩:∃ z_:Nat,V.heap.size=z_:=⟨_,rfl⟩
 refine wi_ A (h1_ t0) (rs_ 0 (fun a E=>?_))
 refine stepV rfl rfl (execBxP rfl (E _) (sl3 hcv.shp) (sl3 htv.shp)) ⟨.pointer (some ⟨g1,0,none⟩),⟨_,rfl,by subst egg1; rfl⟩,fun X0 hX=>?_⟩
 have bQ:Below V.heap.size V X0:=by subst hX egg1; exact (belNew V _)
 have Fg1:(X0.heap[g1]?=some (.cells (#[cv,tv]) 25)):=by subst hX egg1; exact heapNew V _
 replace BB:=BB.trans (bQ.mono BB.size)
 clear bQ hX egg1 E a
 refine rg_ [(1,.pointer (some ⟨g1,0,none⟩))] ?_
 rintro a A ⟨t1,-⟩
 by_cases hn:128 < p.n
 ·have hr:lgB p=true:=by unfold lgB; rw [decide_eq_true (Or.inl hn)]; rfl
  refine wp_seq (wp_seq ?_)
  refine wi_ A (h1_ t1) (rv_ 0 (.pointer (some ⟨g1,1,none⟩)) (fun a E=>execPf1 rfl (E _)) (rv_ 1 (tv) (fun a E=>execLdG rfl (Or.inr (Or.inr (Or.inr (Or.inr (Or.inl rfl))))) (E _) (plB_at Fg1).2) (rv_ 2 (.int .i64 ((p.n:Nat):Int)) (fun a E=>execLnOO (len:=p.n) rfl (E _) htv.shp) (rv_ 3 (.bool true) (fun a E=>execDec (execGtN (p:=p.n) (q:=128) rfl (E _) rfl) (decide_eq_true (by omega))) (rf_ [(14,.bool true)] (h1_ t1) ?_)))))
  rintro a A ⟨t14,-⟩ ⟨t1,-⟩
  refine wp_cond_true t14 ?_
  clear t14
  refine wp_seq ?_
  refine wi_ A (h1_ t1) (rg_ [(2,.bool true)] ?_)
  rintro a A ⟨t2,-⟩
  refine wp_ret ?_
  repeat (first | with_reducible refine ret_in ?_ | with_reducible refine ret_then ?_)
  refine bodyPost_ret (results_tmp rfl _ _ _) A.2 ⟨?_,BB⟩
  show Ending.returned (a.eval (.tmp 2))=_
  rw [t2,hr]
 ·by_cases hd:64 < p.d
  ·have hr:lgB p=true:=by unfold lgB; rw [decide_eq_true (Or.inr hd)]; rfl
   refine wp_seq (wp_seq ?_)
   refine wi_ A (h1_ t1) (rv_ 0 (.pointer (some ⟨g1,1,none⟩)) (fun a E=>execPf1 rfl (E _)) (rv_ 1 (tv) (fun a E=>execLdG rfl (Or.inr (Or.inr (Or.inr (Or.inr (Or.inl rfl))))) (E _) (plB_at Fg1).2) (rv_ 2 (.int .i64 ((p.n:Nat):Int)) (fun a E=>execLnOO (len:=p.n) rfl (E _) htv.shp) (rv_ 3 (.bool false) (fun a E=>execDec (execGtN (p:=p.n) (q:=128) rfl (E _) rfl) (decide_eq_false (by omega))) (rv_ 5 (.pointer (some ⟨g1,0,none⟩)) (fun a E=>execPf0 rfl (E _)) (rv_ 6 (cv) (fun a E=>execLdG rfl (Or.inl rfl) (E _) (plB_at Fg1).1) (rv_ 7 (.int .i64 ((p.d:Nat):Int)) (fun a E=>execLenI (len:=p.d) rfl (E _) hcv.shp) (rv_ 8 (.bool true) (fun a E=>execDec (execGtN (p:=p.d) (q:=64) rfl (E _) rfl) (decide_eq_true (by omega))) (rf_ [(14,.bool true)] (h1_ t1) ?_)))))))))
   rintro a A ⟨t14,-⟩ ⟨t1,-⟩
   refine wp_cond_true t14 ?_
   clear t14
   refine wp_seq ?_
   refine wi_ A (h1_ t1) (rg_ [(2,.bool true)] ?_)
   rintro a A ⟨t2,-⟩
   refine wp_ret ?_
   repeat (first | with_reducible refine ret_in ?_ | with_reducible refine ret_then ?_)
   refine bodyPost_ret (results_tmp rfl _ _ _) A.2 ⟨?_,BB⟩
   show Ending.returned (a.eval (.tmp 2))=_
   rw [t2,hr]
  ·refine wp_seq (wp_seq ?_)
   refine wi_ A (h1_ t1) (rv_ 0 (.pointer (some ⟨g1,1,none⟩)) (fun a E=>execPf1 rfl (E _)) (rv_ 1 (tv) (fun a E=>execLdG rfl (Or.inr (Or.inr (Or.inr (Or.inr (Or.inl rfl))))) (E _) (plB_at Fg1).2) (rv_ 2 (.int .i64 ((p.n:Nat):Int)) (fun a E=>execLnOO (len:=p.n) rfl (E _) htv.shp) (rv_ 3 (.bool false) (fun a E=>execDec (execGtN (p:=p.n) (q:=128) rfl (E _) rfl) (decide_eq_false (by omega))) (rv_ 5 (.pointer (some ⟨g1,0,none⟩)) (fun a E=>execPf0 rfl (E _)) (rv_ 6 (cv) (fun a E=>execLdG rfl (Or.inl rfl) (E _) (plB_at Fg1).1) (rv_ 7 (.int .i64 ((p.d:Nat):Int)) (fun a E=>execLenI (len:=p.d) rfl (E _) hcv.shp) (rv_ 8 (.bool false) (fun a E=>execDec (execGtN (p:=p.d) (q:=64) rfl (E _) rfl) (decide_eq_false (by omega))) (rf_ [(14,.bool false)] (h1_ t1) ?_)))))))))
   rintro a A ⟨t14,-⟩ ⟨t1,-⟩
   refine wp_cond_false t14 (wp_skip ?_)
   clear t14
   refine wp_seq (wp_seq ?_)
   refine wi_ A (h1_ t1) (rv_ 0 (.pointer (some ⟨g1,1,none⟩)) (fun a E=>execPf1 rfl (E _)) (rv_ 1 (tv) (fun a E=>execLdG rfl (Or.inr (Or.inr (Or.inr (Or.inr (Or.inl rfl))))) (E _) (plB_at Fg1).2) (rv_ 2 (.int .i64 ((p.n:Nat):Int)) (fun a E=>execLnOO (len:=p.n) rfl (E _) htv.shp) (rf_ [(16,tv),(17,.int .i64 ((p.n:Nat):Int)),(18,.int .i64 ((0:Nat):Int))] (h1_ t1) ?_))))
   rintro a A ⟨t16,t17,t18,-⟩ ⟨t1,-⟩
   refine wp_block ?_
   refine wp_loop (fun a W=>∃ (i:Nat),i<=p.n/\(∀ t,t < i->p.ln t<=256)/\(a.tmps.size=26/\a.defers=[])/\a.eval (.tmp 1)=.pointer (some ⟨g1,0,none⟩)/\a.eval (.tmp 16)=tv/\a.eval (.tmp 17)=.int .i64 ((p.n:Nat):Int)/\a.eval (.tmp 18)=.int .i64 ((i:Nat):Int)/\Below V.heap.size V W/\(W.heap[g1]?=some (.cells (#[cv,tv]) 25))) (fun a _=>p.n - (intOf (a.eval (.tmp 18))).toNat) ⟨0,Nat.zero_le _,(fun t ht=>absurd ht (Nat.not_lt_zero t)),A,t1,t16,t17,t18,BB,Fg1⟩ ?_
   rintro a XL4 ⟨i,hi,hl,A,t1,t16,t17,t18,BB,Fg1⟩
   have esi:=t18
   refine wp_seq ?_
   refine wi_ A (h4_ t1 t16 t17 t18) (rv_ 0 (.bool (decide (i < p.n))) (fun a E=>execLtW (p:=i) (q:=p.n) rfl (E _) (E _)) (rf_ [(19,.bool (decide (i < p.n)))] (h4_ t1 t16 t17 t18) ?_))
   rintro a A ⟨t19,-⟩ ⟨t1,t16,t17,t18,-⟩
   refine wp_seq ?_
   by_cases lti:i < p.n
   ·rw [decide_eq_true lti] at t19
    refine wp_cond_true t19 (wp_skip ?_)
    clear t19
    refine wp_seq (wp_block ?_)
    obtain ⟨tb,to_,tc,et⟩:=htv.open (by omega)
    refine wp_seq ?_
    refine wi_ A (h4_ t1 t16 t17 t18) (rv_ 0 (.pointer (some ⟨tb,to_+i,none⟩)) (fun a E=>execIxOO (k:=i) rfl ((E _).trans et) (E _) lti) (rv_ 1 (x i) (fun a E=>execLdG rfl (Or.inr (Or.inr (Or.inr (Or.inr (Or.inr rfl))))) (E _) (SliceV.at (htv.on BB) et lti)) (rf_ [(4,x i)] (h4_ t1 t16 t17 t18) ?_)))
    rintro a A ⟨t4,-⟩ ⟨t1,t16,t17,t18,-⟩
    by_cases hb:256 < p.ln i
    ·have hr:lgB p=true:=by unfold lgB lnB; rw [List.any_eq_true.2 ⟨i,List.mem_range.2 lti,decide_eq_true hb⟩]; exact Bool.or_true _
     refine wp_seq ?_
     refine wi_ A (h5_ t1 t16 t17 t18 t4) (rv_ 1 (.int .i64 ((p.ln i:Nat):Int)) (fun a E=>execLnOs (len:=p.ln i) rfl (E _) ((hops i lti).shp)) (rv_ 2 (.bool true) (fun a E=>execDec (execGtN (p:=p.ln i) (q:=256) rfl (E _) rfl) (decide_eq_true (by omega))) (rg_ [(24,.bool true)] ?_)))
     rintro a A ⟨t24,-⟩
     refine wp_cond_true t24 ?_
     clear t24
     refine wp_seq ?_
     refine wi_ A h0_ (rg_ [(2,.bool true)] ?_)
     rintro a A ⟨t2,-⟩
     refine wp_ret ?_
     repeat (first | with_reducible refine ret_in ?_ | with_reducible refine ret_then ?_)
     refine bodyPost_ret (results_tmp rfl _ _ _) A.2 ⟨?_,BB⟩
     show Ending.returned (a.eval (.tmp 2))=_
     rw [t2,hr]
    ·refine wp_seq ?_
     refine wi_ A (h5_ t1 t16 t17 t18 t4) (rv_ 1 (.int .i64 ((p.ln i:Nat):Int)) (fun a E=>execLnOs (len:=p.ln i) rfl (E _) ((hops i lti).shp)) (rv_ 2 (.bool false) (fun a E=>execDec (execGtN (p:=p.ln i) (q:=256) rfl (E _) rfl) (decide_eq_false (by omega))) (rf_ [(24,.bool false)] (h4_ t1 t16 t17 t18) ?_)))
     rintro a A ⟨t24,-⟩ ⟨t1,t16,t17,t18,-⟩
     refine wp_cond_false t24 (wp_skip ?_)
     clear t24
     refine wi_ A (h4_ t1 t16 t17 t18) (rv_ 0 (.int .i64 ((i+1:Nat):Int)) (fun a E=>execAd8 (p:=i) (q:=1) rfl (E _) rfl (by omega)) (rf_ [(18,.int .i64 ((i+1:Nat):Int))] (h3_ t1 t16 t17) ?_))
     rintro a A ⟨t18,-⟩ ⟨t1,t16,t17,-⟩
     exact ⟨⟨i+1,lti,(lt_next hl (by omega)),A,t1,t16,t17,t18,BB,Fg1⟩,by show p.n - (intOf (a.eval (.tmp 18))).toNat < p.n - (intOf (Act.eval _ (.tmp 18))).toNat; rw [t18,esi]; show p.n - (i+1) < p.n - i; omega⟩
   ·rw [decide_eq_false lti] at t19
    refine wp_cond_false t19 ?_
    refine wp_exit ?_
    first | with_reducible refine exit_in ?_ | with_reducible refine exit_then (exit_in ?_) | with_reducible refine exit_then (exit_then (exit_in ?_)) | refine exit_in ?_ | refine exit_then (exit_in ?_) | refine exit_then (exit_then (exit_in ?_))
    clear t19 esi
    have e1:i=p.n:=by omega
    rw [e1] at hl
    have hr:lgB p=false:=by
     unfold lgB lnB
     rw [decide_eq_false (by omega),any_no9 (fun t ht=>decide_eq_false (by have:=hl t ht; omega))]
     rfl
    refine wp_seq ?_
    refine wi_ A (h1_ t1) (rg_ [(2,.bool false)] ?_)
    rintro a A ⟨t2,-⟩
    refine wp_ret ?_
    repeat (first | with_reducible refine ret_in ?_ | with_reducible refine ret_then ?_)
    refine bodyPost_ret (results_tmp rfl _ _ _) A.2 ⟨?_,BB⟩
    show Ending.returned (a.eval (.tmp 2))=_
    rw [t2,hr]
theorem lg_yes {p:Pl} (h:lgB p=true):chk p=1:=by
 by_cases q:128 < p.n\/64 < p.d
 ·exact chk_a q
 ·unfold lgB at h
  rw [decide_eq_false q,Bool.false_or] at h
  unfold chk
  rw [if_neg q,if_pos h]
theorem lg_no {p:Pl} (h:lgB p=false):¬ (128 < p.n\/64 < p.d)/\∀ t,t < p.n->p.ln t<=256:=by
 unfold lgB at h
 rw [Bool.or_eq_false_iff] at h
 refine ⟨of_decide_eq_false h.1,fun t ht=>?_⟩
 have:=of_decide_eq_false (any_false (f:=fun t=>decide (256 < p.ln t)) (fun w=>by rw [show (List.range p.n).any (fun t=>decide (256 < p.ln t))=lnB p from rfl,h.2] at w; cases w) ht)
 omega
theorem execLdPn {o:Oper} {a:Act} {w:World} {x:Operand} {g:Nat} {u v:Value} (ho:o.op=.load 25 x) (hx:a.eval x=.pointer (some ⟨g,0,none⟩)) (hg:w.heap[g]?=some (.cells #[u,v] 25)):(execOp a.eval o).run Try.prog w=.ok (.value (.agg #[u,v])) w:=by
 have h:=execLoadMid (P:=Try.prog) (cs:=[u,v]) ho hx (fun j z hv=>by
  match j,hv with
  | 0,hv=>exact (plB_at hg).1.trans hv
  | 1,hv=>exact (plB_at hg).2.trans hv
  | j+2,hv=>cases hv) Try.underlying25 rfl (by show _=some 2; kernel_rfl)
 exact h
set_option maxRecDepth 100000 in
set_option maxHeartbeats 4000000 in
theorem pcheck (p:Pl) (v:Value) (V:World) (hp:PlA V v p) :
  Calls Try.prog 18 #[v] V fun e w'=>e=.returned (.int .i64 ((chk p:Nat):Int))/\Below V.heap.size V w':=by
 obtain ⟨cv,tv,x,rfl,hcv,htv,hops⟩:=hp
 go_enter Try.func18,Try.ntmps18
 refine wo_ 51 [(0,.agg #[cv,tv])] ?_
 rintro a A ⟨t0,-⟩
 have BW:Below V.heap.size V V:=Below.refl _ _
 have BB:Below V.heap.size V V:=Below.refl _ _
 refine wp_seq ?_
 obtain ⟨g1,egg1⟩:∃ z_:Nat,V.heap.size=z_:=⟨_,rfl⟩
 refine wi_ A (h1_ t0) (rs_ 0 (fun a E=>?_))
 refine stepV rfl rfl (execBxP rfl (E _) (sl3 hcv.shp) (sl3 htv.shp)) ⟨.pointer (some ⟨g1,0,none⟩),⟨_,rfl,by subst egg1; rfl⟩,fun X0 hX=>?_⟩
 have bQ:Below V.heap.size V X0:=by subst hX egg1; exact (belNew V _)
 have Fg1:(X0.heap[g1]?=some (.cells (#[cv,tv]) 25)):=by subst hX egg1; exact heapNew V _
 replace BB:=BB.trans (bQ.mono BB.size)
 clear bQ hX egg1 E a
 refine rg_ [(1,.pointer (some ⟨g1,0,none⟩))] ?_
 rintro a A ⟨t1,-⟩
 cases hB:lgB p with
 | true=>
  have hr:chk p=1:=lg_yes hB
  refine wp_seq (wp_seq ?_)
  refine wi_ A (h1_ t1) (rv_ 0 (.agg #[cv,tv]) (fun a E=>execLdPn rfl (E _) Fg1) (rc_ 1 ((hB ▸ plong p (.agg #[cv,tv]) X0 ⟨cv,tv,x,rfl,hcv.on BB,htv.on BB,fun t ht=>(hops t ht).on BB⟩)) (cb_ fun X1 bQ=>?_)))
  replace Fg1:=(on9 Fg1 bQ)
  replace BB:=BB.trans (bQ.mono BB.size)
  clear bQ
  refine rf_ [(10,.bool true)] (h1_ t1) ?_
  rintro a A ⟨t10,-⟩ ⟨t1,-⟩
  refine wp_cond_true t10 ?_
  clear t10
  refine wp_seq ?_
  refine wi_ A (h1_ t1) (rg_ [(2,.int .i64 ((1:Nat):Int))] ?_)
  rintro a A ⟨t2,-⟩
  refine wp_ret ?_
  repeat (first | with_reducible refine ret_in ?_ | with_reducible refine ret_then ?_)
  refine bodyPost_ret (results_tmp rfl _ _ _) A.2 ⟨?_,BB⟩
  show Ending.returned (a.eval (.tmp 2))=_
  rw [t2,hr]
 | false=>
  obtain ⟨hnd,hl⟩:=lg_no hB
  refine wp_seq (wp_seq ?_)
  refine wi_ A (h1_ t1) (rv_ 0 (.agg #[cv,tv]) (fun a E=>execLdPn rfl (E _) Fg1) (rc_ 1 ((hB ▸ plong p (.agg #[cv,tv]) X0 ⟨cv,tv,x,rfl,hcv.on BB,htv.on BB,fun t ht=>(hops t ht).on BB⟩)) (cb_ fun X1 bQ=>?_)))
  replace Fg1:=(on9 Fg1 bQ)
  replace BB:=BB.trans (bQ.mono BB.size)
  clear bQ
  refine rf_ [(10,.bool false)] (h1_ t1) ?_
  rintro a A ⟨t10,-⟩ ⟨t1,-⟩
  refine wp_cond_false t10 (wp_skip ?_)
  clear t10
  refine wp_seq (wp_seq ?_)
  refine wi_ A (h1_ t1) (rv_ 0 (.pointer (some ⟨g1,0,none⟩)) (fun a E=>execPf0 rfl (E _)) (rv_ 1 (cv) (fun a E=>execLdG rfl (Or.inl rfl) (E _) (plB_at Fg1).1) (rv_ 2 (.int .i64 ((p.d:Nat):Int)) (fun a E=>execLenI (len:=p.d) rfl (E _) hcv.shp) (rf_ [(12,cv),(13,.int .i64 ((p.d:Nat):Int)),(14,.int .i64 ((0:Nat):Int))] (h1_ t1) ?_))))
  rintro a A ⟨t12,t13,t14,-⟩ ⟨t1,-⟩
  refine wp_block ?_
  refine wp_loop (fun a W=>∃ (q:Nat),q<=p.d/\(∀ t,t < q->inB (p.cap t) 0 1024=true)/\(a.tmps.size=51/\a.defers=[])/\a.eval (.tmp 1)=.pointer (some ⟨g1,0,none⟩)/\a.eval (.tmp 12)=cv/\a.eval (.tmp 13)=.int .i64 ((p.d:Nat):Int)/\a.eval (.tmp 14)=.int .i64 ((q:Nat):Int)/\Below V.heap.size V W/\(W.heap[g1]?=some (.cells (#[cv,tv]) 25))) (fun a _=>p.d - (intOf (a.eval (.tmp 14))).toNat) ⟨0,Nat.zero_le _,(fun t ht=>absurd ht (Nat.not_lt_zero t)),A,t1,t12,t13,t14,BB,Fg1⟩ ?_
  rintro a XL4 ⟨q,hq,hc,A,t1,t12,t13,t14,BB,Fg1⟩
  have esq:=t14
  refine wp_seq ?_
  refine wi_ A (h4_ t1 t12 t13 t14) (rv_ 0 (.bool (decide (q < p.d))) (fun a E=>execLtW (p:=q) (q:=p.d) rfl (E _) (E _)) (rf_ [(15,.bool (decide (q < p.d)))] (h4_ t1 t12 t13 t14) ?_))
  rintro a A ⟨t15,-⟩ ⟨t1,t12,t13,t14,-⟩
  refine wp_seq ?_
  by_cases ltq:q < p.d
  ·rw [decide_eq_true ltq] at t15
   refine wp_cond_true t15 (wp_skip ?_)
   clear t15
   refine wp_seq (wp_block ?_)
   obtain ⟨cb,co,cc,ec,hcb,hcc⟩:=ints_open hcv (by omega)
   have cX:∀ X,Below V.heap.size V X->X.cell? ⟨cb,co+q,none⟩=some (.int .i64 (p.cap q)):=fun X hX=>by rw [cell_below hX hcb]; exact hcc q ltq
   refine wp_seq ?_
   refine wi_ A (h4_ t1 t12 t13 t14) (rv_ 0 (.pointer (some ⟨cb,co+q,none⟩)) (fun a E=>execIdxN (k:=q) rfl ((E _).trans ec) (E _) ltq) (rv_ 1 (.int .i64 (p.cap q)) (fun a E=>execLdG rfl (Or.inr (Or.inl rfl)) (E _) (cX XL4 BB)) (rf_ [(4,.int .i64 (p.cap q))] (h4_ t1 t12 t13 t14) ?_)))
   rintro a A ⟨t4,-⟩ ⟨t1,t12,t13,t14,-⟩
   by_cases hlo:p.cap q < 0
   ·have hB2:inB (p.cap q) 0 1024=false:=decide_eq_false (by omega)
    refine wp_seq ?_
    refine wi_ A (h5_ t1 t12 t13 t14 t4) (rv_ 1 (.bool true) (fun a E=>execDec (exIlss3 (p:=(p.cap q)) (q:=0) rfl (E _) rfl) (decide_eq_true hlo)) (rg_ [(23,.bool true)] ?_))
    rintro a A ⟨t23,-⟩
    refine wp_cond_true t23 ?_
    clear t23
    refine wp_seq ?_
    refine wi_ A h0_ (rg_ [(2,.int .i64 ((190:Nat):Int))] ?_)
    rintro a A ⟨t2,-⟩
    refine wp_ret ?_
    repeat (first | with_reducible refine ret_in ?_ | with_reducible refine ret_then ?_)
    refine bodyPost_ret (results_tmp rfl _ _ _) A.2 ⟨?_,BB⟩
    show Ending.returned (a.eval (.tmp 2))=_
    rw [t2,chk_c hnd hl ltq hB2]
   ·by_cases hhi:p.cap q > 1024
    ·have hB2:inB (p.cap q) 0 1024=false:=decide_eq_false (by omega)
     refine wp_seq ?_
     refine wi_ A (h5_ t1 t12 t13 t14 t4) (rv_ 1 (.bool false) (fun a E=>execDec (exIlss3 (p:=(p.cap q)) (q:=0) rfl (E _) rfl) (decide_eq_false hlo)) (rv_ 4 (.bool true) (fun a E=>execDec (exIgtr3 (p:=(p.cap q)) (q:=1024) rfl (E _) rfl) (decide_eq_true hhi)) (rg_ [(23,.bool true)] ?_)))
     rintro a A ⟨t23,-⟩
     refine wp_cond_true t23 ?_
     clear t23
     refine wp_seq ?_
     refine wi_ A h0_ (rg_ [(2,.int .i64 ((190:Nat):Int))] ?_)
     rintro a A ⟨t2,-⟩
     refine wp_ret ?_
     repeat (first | with_reducible refine ret_in ?_ | with_reducible refine ret_then ?_)
     refine bodyPost_ret (results_tmp rfl _ _ _) A.2 ⟨?_,BB⟩
     show Ending.returned (a.eval (.tmp 2))=_
     rw [t2,chk_c hnd hl ltq hB2]
    ·have hB2:inB (p.cap q) 0 1024=true:=decide_eq_true (by omega)
     refine wp_seq ?_
     refine wi_ A (h5_ t1 t12 t13 t14 t4) (rv_ 1 (.bool false) (fun a E=>execDec (exIlss3 (p:=(p.cap q)) (q:=0) rfl (E _) rfl) (decide_eq_false hlo)) (rv_ 4 (.bool false) (fun a E=>execDec (exIgtr3 (p:=(p.cap q)) (q:=1024) rfl (E _) rfl) (decide_eq_false hhi)) (rf_ [(23,.bool false)] (h4_ t1 t12 t13 t14) ?_)))
     rintro a A ⟨t23,-⟩ ⟨t1,t12,t13,t14,-⟩
     refine wp_cond_false t23 (wp_skip ?_)
     clear t23
     refine wi_ A (h4_ t1 t12 t13 t14) (rv_ 0 (.int .i64 ((q+1:Nat):Int)) (fun a E=>execAd8 (p:=q) (q:=1) rfl (E _) rfl (by omega)) (rf_ [(14,.int .i64 ((q+1:Nat):Int))] (h3_ t1 t12 t13) ?_))
     rintro a A ⟨t14,-⟩ ⟨t1,t12,t13,-⟩
     exact ⟨⟨q+1,ltq,(lt_next hc hB2),A,t1,t12,t13,t14,BB,Fg1⟩,by show p.d - (intOf (a.eval (.tmp 14))).toNat < p.d - (intOf (Act.eval _ (.tmp 14))).toNat; rw [t14,esq]; show p.d - (q+1) < p.d - q; omega⟩
  ·rw [decide_eq_false ltq] at t15
   refine wp_cond_false t15 ?_
   refine wp_exit ?_
   first | with_reducible refine exit_in ?_ | with_reducible refine exit_then (exit_in ?_) | with_reducible refine exit_then (exit_then (exit_in ?_)) | refine exit_in ?_ | refine exit_then (exit_in ?_) | refine exit_then (exit_then (exit_in ?_))
   clear t15 esq
   have e2:q=p.d:=by omega
   rw [e2] at hc
   refine wp_seq (wp_seq ?_)
   refine wi_ A (h1_ t1) (rv_ 0 (.pointer (some ⟨g1,1,none⟩)) (fun a E=>execPf1 rfl (E _)) (rv_ 1 (tv) (fun a E=>execLdG rfl (Or.inr (Or.inr (Or.inr (Or.inr (Or.inl rfl))))) (E _) (plB_at Fg1).2) (rv_ 2 (.int .i64 ((p.n:Nat):Int)) (fun a E=>execLnOO (len:=p.n) rfl (E _) htv.shp) (rf_ [(26,tv),(27,.int .i64 ((p.n:Nat):Int)),(28,.int .i64 ((0:Nat):Int))] (h1_ t1) ?_))))
   rintro a A ⟨t26,t27,t28,-⟩ ⟨t1,-⟩
   refine wp_block ?_
   refine wp_loop (fun a W=>∃ (m:Nat),m<=p.n/\(∀ t,t < m->∀ j,j < p.ln t->rgt (p.op t j) (p.ln t) p.d p.n=true)/\(a.tmps.size=51/\a.defers=[])/\a.eval (.tmp 1)=.pointer (some ⟨g1,0,none⟩)/\a.eval (.tmp 26)=tv/\a.eval (.tmp 27)=.int .i64 ((p.n:Nat):Int)/\a.eval (.tmp 28)=.int .i64 ((m:Nat):Int)/\Below V.heap.size V W/\(W.heap[g1]?=some (.cells (#[cv,tv]) 25))) (fun a _=>p.n - (intOf (a.eval (.tmp 28))).toNat) ⟨0,Nat.zero_le _,(fun t ht=>absurd ht (Nat.not_lt_zero t)),A,t1,t26,t27,t28,BB,Fg1⟩ ?_
   rintro a XL10 ⟨m,hm,hm,A,t1,t26,t27,t28,BB,Fg1⟩
   have esm:=t28
   refine wp_seq ?_
   refine wi_ A (h4_ t1 t26 t27 t28) (rv_ 0 (.bool (decide (m < p.n))) (fun a E=>execLtW (p:=m) (q:=p.n) rfl (E _) (E _)) (rf_ [(29,.bool (decide (m < p.n)))] (h4_ t1 t26 t27 t28) ?_))
   rintro a A ⟨t29,-⟩ ⟨t1,t26,t27,t28,-⟩
   refine wp_seq ?_
   by_cases ltm:m < p.n
   ·rw [decide_eq_true ltm] at t29
    refine wp_cond_true t29 (wp_skip ?_)
    clear t29
    refine wp_seq (wp_block ?_)
    have hlm:=hl m ltm
    obtain ⟨tb,to_,tc,et⟩:=htv.open (by omega)
    refine wp_seq ?_
    refine wi_ A (h4_ t1 t26 t27 t28) (rv_ 0 (.pointer (some ⟨tb,to_+m,none⟩)) (fun a E=>execIxOO (k:=m) rfl ((E _).trans et) (E _) ltm) (rv_ 1 (x m) (fun a E=>execLdG rfl (Or.inr (Or.inr (Or.inr (Or.inr (Or.inr rfl))))) (E _) (SliceV.at (htv.on BB) et ltm)) (rf_ [(6,x m)] (h4_ t1 t26 t27 t28) ?_)))
    rintro a A ⟨t6,-⟩ ⟨t1,t26,t27,t28,-⟩
    refine wp_seq ?_
    refine wi_ A (h5_ t1 t26 t27 t28 t6) (rv_ 1 (.int .i64 ((p.ln m:Nat):Int)) (fun a E=>execLnOs (len:=p.ln m) rfl (E _) ((hops m ltm).shp)) (rf_ [(32,x m),(33,.int .i64 ((p.ln m:Nat):Int)),(34,.int .i64 ((0:Nat):Int))] (h5_ t1 t26 t27 t28 t6) ?_))
    rintro a A ⟨t32,t33,t34,-⟩ ⟨t1,t26,t27,t28,t6,-⟩
    refine wp_block ?_
    refine wp_loop (fun a W=>∃ (j:Nat),j<=p.ln m/\(∀ t,t < j->rgt (p.op m t) (p.ln m) p.d p.n=true)/\(a.tmps.size=51/\a.defers=[])/\a.eval (.tmp 1)=.pointer (some ⟨g1,0,none⟩)/\a.eval (.tmp 26)=tv/\a.eval (.tmp 27)=.int .i64 ((p.n:Nat):Int)/\a.eval (.tmp 28)=.int .i64 ((m:Nat):Int)/\a.eval (.tmp 6)=x m/\a.eval (.tmp 32)=x m/\a.eval (.tmp 33)=.int .i64 ((p.ln m:Nat):Int)/\a.eval (.tmp 34)=.int .i64 ((j:Nat):Int)/\Below V.heap.size V W/\(W.heap[g1]?=some (.cells (#[cv,tv]) 25))) (fun a _=>p.ln m - (intOf (a.eval (.tmp 34))).toNat) ⟨0,Nat.zero_le _,(fun t ht=>absurd ht (Nat.not_lt_zero t)),A,t1,t26,t27,t28,t6,t32,t33,t34,BB,Fg1⟩ ?_
    rintro a XL13 ⟨j,hj,hj,A,t1,t26,t27,t28,t6,t32,t33,t34,BB,Fg1⟩
    have esj:=t34
    refine wp_seq ?_
    refine wi_ A (h8_ t1 t26 t27 t28 t6 t32 t33 t34) (rv_ 0 (.bool (decide (j < p.ln m))) (fun a E=>execLtW (p:=j) (q:=p.ln m) rfl (E _) (E _)) (rf_ [(35,.bool (decide (j < p.ln m)))] (h8_ t1 t26 t27 t28 t6 t32 t33 t34) ?_))
    rintro a A ⟨t35,-⟩ ⟨t1,t26,t27,t28,t6,t32,t33,t34,-⟩
    refine wp_seq ?_
    by_cases ltj:j < p.ln m
    ·rw [decide_eq_true ltj] at t35
     refine wp_cond_true t35 (wp_skip ?_)
     clear t35
     refine wp_seq (wp_block ?_)
     obtain ⟨ob_,oo,oc,eo⟩:=(hops m ltm).open (by omega)
     refine wp_seq ?_
     obtain ⟨g8,egg8⟩:∃ z_:Nat,XL13.heap.size=z_:=⟨_,rfl⟩
     refine wi_ A (h8_ t1 t26 t27 t28 t6 t32 t33 t34) (rv_ 0 (.pointer (some ⟨ob_,oo+j * 3,none⟩)) (fun a E=>execIxOs (k:=j) rfl ((E _).trans eo) (E _) ltj) (rv_ 1 (.agg (oC (p.op m j).k (p.op m j).a (p.op m j).b)) (fun a E=>execLdO rfl (E _) (SliceO.at ((hops m ltm).on BB) eo ltj)) (rs_ 2 (fun a E=>?_))))
     refine stepV rfl rfl (execAlO rfl) ⟨.pointer (some ⟨g8,0,none⟩),⟨_,rfl,by subst egg8; rfl⟩,fun X14_1 hX=>?_⟩
     have bQ:Below XL13.heap.size XL13 X14_1:=by subst hX egg8; exact (belNew XL13 _)
     have Fg8:X14_1.heap[g8]?=some (.cells (oC 0 0 0) 59):=by subst hX egg8; exact heapNew XL13 _
     have Fgeg8:(V.heap.size<=g8):=by subst hX egg8; exact (BB).size
     replace Fg1:=(on9 Fg1 bQ)
     replace BB:=BB.trans (bQ.mono BB.size)
     clear bQ hX egg8 E a
     refine rs_ 3 (fun a E=>?_)
     refine stepS rfl rfl (execStO rfl (E _) (E _) Fg8) ⟨_,⟨_,rfl,rfl⟩,fun X14 hX=>?_⟩
     obtain ⟨BB,Fg1,Fg8⟩:Below V.heap.size V X14/\(X14.heap[g1]?=some (.cells (#[cv,tv]) 25))/\X14.heap[g8]?=some (.cells (oC (p.op m j).k (p.op m j).a (p.op m j).b) 59):=by rw [hX]; exact ⟨below4 BB Fgeg8 _,(on9t Fg1 Fg8 (by decide)),setRow_heap _ _ _ _ _ _ Fg8⟩
     clear hX E a
     refine rf_ [(8,.pointer (some ⟨g8,0,none⟩))] (h8_ t1 t26 t27 t28 t6 t32 t33 t34) ?_
     rintro a A ⟨t8,-⟩ ⟨t1,t26,t27,t28,t6,t32,t33,t34,-⟩
     cases hB3:rgt (p.op m j) (p.ln m) p.d p.n with
     | false=>
      refine wp_seq ?_
      refine wi_ A (h9_ t1 t26 t27 t28 t6 t32 t33 t34 t8) (rv_ 0 (.agg (oC (p.op m j).k (p.op m j).a (p.op m j).b)) (fun a E=>execLdO0 rfl (E _) Fg8) (rv_ 2 (.int .i64 ((p.ln m:Nat):Int)) (fun a E=>execLnOs (len:=p.ln m) rfl (E _) ((hops m ltm).shp)) (rv_ 3 (.pointer (some ⟨g1,0,none⟩)) (fun a E=>execPf0 rfl (E _)) (rv_ 4 (cv) (fun a E=>execLdG rfl (Or.inl rfl) (E _) (plB_at Fg1).1) (rv_ 5 (.int .i64 ((p.d:Nat):Int)) (fun a E=>execLenI (len:=p.d) rfl (E _) hcv.shp) (rv_ 6 (.pointer (some ⟨g1,1,none⟩)) (fun a E=>execPf1 rfl (E _)) (rv_ 7 (tv) (fun a E=>execLdG rfl (Or.inr (Or.inr (Or.inr (Or.inr (Or.inl rfl))))) (E _) (plB_at Fg1).2) (rv_ 8 (.int .i64 ((p.n:Nat):Int)) (fun a E=>execLnOO (len:=p.n) rfl (E _) htv.shp) (rc_ 9 ((hB3 ▸ pright (p.op m j).k (p.op m j).a (p.op m j).b (p.ln m) p.d p.n X14 (by omega))) (cb_ fun X15 bQ=>?_))))))))))
      replace Fg1:=(on9 Fg1 bQ)
      replace Fg8:=(on9 Fg8 bQ)
      replace BB:=BB.trans (bQ.mono BB.size)
      clear bQ
      refine rv_ 10 (.bool true) (fun a E=>execNot8 (b:=false) rfl (E _)) (rg_ [(48,.bool true)] ?_)
      rintro a A ⟨t48,-⟩
      refine wp_cond_true t48 ?_
      clear t48
      refine wp_seq ?_
      refine wi_ A h0_ (rg_ [(2,.int .i64 ((190:Nat):Int))] ?_)
      rintro a A ⟨t2,-⟩
      refine wp_ret ?_
      repeat (first | with_reducible refine ret_in ?_ | with_reducible refine ret_then ?_)
      refine bodyPost_ret (results_tmp rfl _ _ _) A.2 ⟨?_,BB⟩
      show Ending.returned (a.eval (.tmp 2))=_
      rw [t2,chk_d hnd hl hc ltm ltj hB3]
     | true=>
      refine wp_seq ?_
      refine wi_ A (h9_ t1 t26 t27 t28 t6 t32 t33 t34 t8) (rv_ 0 (.agg (oC (p.op m j).k (p.op m j).a (p.op m j).b)) (fun a E=>execLdO0 rfl (E _) Fg8) (rv_ 2 (.int .i64 ((p.ln m:Nat):Int)) (fun a E=>execLnOs (len:=p.ln m) rfl (E _) ((hops m ltm).shp)) (rv_ 3 (.pointer (some ⟨g1,0,none⟩)) (fun a E=>execPf0 rfl (E _)) (rv_ 4 (cv) (fun a E=>execLdG rfl (Or.inl rfl) (E _) (plB_at Fg1).1) (rv_ 5 (.int .i64 ((p.d:Nat):Int)) (fun a E=>execLenI (len:=p.d) rfl (E _) hcv.shp) (rv_ 6 (.pointer (some ⟨g1,1,none⟩)) (fun a E=>execPf1 rfl (E _)) (rv_ 7 (tv) (fun a E=>execLdG rfl (Or.inr (Or.inr (Or.inr (Or.inr (Or.inl rfl))))) (E _) (plB_at Fg1).2) (rv_ 8 (.int .i64 ((p.n:Nat):Int)) (fun a E=>execLnOO (len:=p.n) rfl (E _) htv.shp) (rc_ 9 ((hB3 ▸ pright (p.op m j).k (p.op m j).a (p.op m j).b (p.ln m) p.d p.n X14 (by omega))) (cb_ fun X15 bQ=>?_))))))))))
      replace Fg1:=(on9 Fg1 bQ)
      replace Fg8:=(on9 Fg8 bQ)
      replace BB:=BB.trans (bQ.mono BB.size)
      clear bQ
      refine rv_ 10 (.bool false) (fun a E=>execNot8 (b:=true) rfl (E _)) (rf_ [(48,.bool false)] (h8_ t1 t26 t27 t28 t6 t32 t33 t34) ?_)
      rintro a A ⟨t48,-⟩ ⟨t1,t26,t27,t28,t6,t32,t33,t34,-⟩
      refine wp_cond_false t48 (wp_skip ?_)
      clear t48
      refine wi_ A (h8_ t1 t26 t27 t28 t6 t32 t33 t34) (rv_ 0 (.int .i64 ((j+1:Nat):Int)) (fun a E=>execAd8 (p:=j) (q:=1) rfl (E _) rfl (by omega)) (rf_ [(34,.int .i64 ((j+1:Nat):Int))] (h7_ t1 t26 t27 t28 t6 t32 t33) ?_))
      rintro a A ⟨t34,-⟩ ⟨t1,t26,t27,t28,t6,t32,t33,-⟩
      exact ⟨⟨j+1,ltj,(lt_next hj hB3),A,t1,t26,t27,t28,t6,t32,t33,t34,BB,Fg1⟩,by show p.ln m - (intOf (a.eval (.tmp 34))).toNat < p.ln m - (intOf (Act.eval _ (.tmp 34))).toNat; rw [t34,esj]; show p.ln m - (j+1) < p.ln m - j; omega⟩
    ·rw [decide_eq_false ltj] at t35
     refine wp_cond_false t35 ?_
     refine wp_exit ?_
     first | with_reducible refine exit_in ?_ | with_reducible refine exit_then (exit_in ?_) | with_reducible refine exit_then (exit_then (exit_in ?_)) | refine exit_in ?_ | refine exit_then (exit_in ?_) | refine exit_then (exit_then (exit_in ?_))
     clear t35 esj
     have e3:j=p.ln m:=by omega
     rw [e3] at hj
     refine wi_ A (h4_ t1 t26 t27 t28) (rv_ 0 (.int .i64 ((m+1:Nat):Int)) (fun a E=>execAd8 (p:=m) (q:=1) rfl (E _) rfl (by omega)) (rf_ [(28,.int .i64 ((m+1:Nat):Int))] (h3_ t1 t26 t27) ?_))
     rintro a A ⟨t28,-⟩ ⟨t1,t26,t27,-⟩
     exact ⟨⟨m+1,ltm,(lt_next hm hj),A,t1,t26,t27,t28,BB,Fg1⟩,by show p.n - (intOf (a.eval (.tmp 28))).toNat < p.n - (intOf (Act.eval _ (.tmp 28))).toNat; rw [t28,esm]; show p.n - (m+1) < p.n - m; omega⟩
   ·rw [decide_eq_false ltm] at t29
    refine wp_cond_false t29 ?_
    refine wp_exit ?_
    first | with_reducible refine exit_in ?_ | with_reducible refine exit_then (exit_in ?_) | with_reducible refine exit_then (exit_then (exit_in ?_)) | refine exit_in ?_ | refine exit_then (exit_in ?_) | refine exit_then (exit_then (exit_in ?_))
    clear t29 esm
    have e4:m=p.n:=by omega
    rw [e4] at hm
    refine wp_seq ?_
    refine wi_ A (h1_ t1) (rg_ [(2,.int .i64 ((0:Nat):Int))] ?_)
    rintro a A ⟨t2,-⟩
    refine wp_ret ?_
    repeat (first | with_reducible refine ret_in ?_ | with_reducible refine ret_then ?_)
    refine bodyPost_ret (results_tmp rfl _ _ _) A.2 ⟨?_,BB⟩
    show Ending.returned (a.eval (.tmp 2))=_
    rw [t2,chk_e hnd hl hc hm]
end Go.Proofs.Ytjjegmflllpknaa.Loo
