import Derived.Test.YtjjegmflllpknaaE8n
namespace Go.Proofs.Ytjjegmflllpknaa.Loo
open Go.RowKit Gf8 Aes By8 Cel Cf Win Drw Prm
/- The reference's within, right, Check. Written by tools/mkE8t.py. -/
theorem oC_at {W:World} {g:Nat} {p q r:Int} {t:TypeId} (h:W.heap[g]?=some (.cells (oC p q r) t)):W.cell? ⟨g,0,none⟩=some (.int .i64 p)/\W.cell? ⟨g,1,none⟩=some (.int .i64 q)/\W.cell? ⟨g,2,none⟩=some (.int .i64 r):=
 ⟨by rw [cell_of_row _ _ _ _ _ _ h]; rfl,by rw [cell_of_row _ _ _ _ _ _ h]; rfl,by rw [cell_of_row _ _ _ _ _ _ h]; rfl⟩
theorem plB_at {W:World} {g:Nat} {u v:Value} {t:TypeId} (h:W.heap[g]?=some (.cells #[u,v] t)):W.cell? ⟨g,0,none⟩=some u/\W.cell? ⟨g,1,none⟩=some v:=
 ⟨by rw [cell_of_row _ _ _ _ _ _ h]; rfl,by rw [cell_of_row _ _ _ _ _ _ h]; rfl⟩
section
variable {o:Oper} {a:Act} {w:World}
theorem execOf0 {x:Operand} {b:Nat} (ho:o.op=.fieldAddr 59 x 0) (hx:a.eval x=.pointer (some ⟨b,0,none⟩)):(execOp a.eval o).run Try.prog w=.ok (.value (.pointer (some ⟨b,0,none⟩))) w:=by
 unfold execOp
 simp only [ho,hx]
 simp [go_sem]
theorem execOf1 {x:Operand} {b:Nat} (ho:o.op=.fieldAddr 59 x 1) (hx:a.eval x=.pointer (some ⟨b,0,none⟩)):(execOp a.eval o).run Try.prog w=.ok (.value (.pointer (some ⟨b,1,none⟩))) w:=by
 unfold execOp
 simp only [ho,hx]
 simp [go_sem]
theorem execOf2 {x:Operand} {b:Nat} (ho:o.op=.fieldAddr 59 x 2) (hx:a.eval x=.pointer (some ⟨b,0,none⟩)):(execOp a.eval o).run Try.prog w=.ok (.value (.pointer (some ⟨b,2,none⟩))) w:=by
 unfold execOp
 simp only [ho,hx]
 simp [go_sem]
theorem execPf0 {x:Operand} {b:Nat} (ho:o.op=.fieldAddr 25 x 0) (hx:a.eval x=.pointer (some ⟨b,0,none⟩)):(execOp a.eval o).run Try.prog w=.ok (.value (.pointer (some ⟨b,0,none⟩))) w:=by
 unfold execOp
 simp only [ho,hx]
 simp [go_sem]
theorem execPf1 {x:Operand} {b:Nat} (ho:o.op=.fieldAddr 25 x 1) (hx:a.eval x=.pointer (some ⟨b,0,none⟩)):(execOp a.eval o).run Try.prog w=.ok (.value (.pointer (some ⟨b,1,none⟩))) w:=by
 unfold execOp
 simp only [ho,hx]
 simp [go_sem]
theorem execBxO {x:Operand} {p q r:Int} (ho:o.op=.box 59 x) (hx:a.eval x=.agg (oC p q r)):(execOp a.eval o).run Try.prog w=.ok (.value (.pointer (some ⟨w.heap.size,0,none⟩))) (w.alloc (.cells (oC p q r) 59)):=by
 unfold execOp
 simp only [ho,hx]
 simp [go_sem]
theorem execBxP {x:Operand} {u v:Value} (ho:o.op=.box 25 x) (hx:a.eval x=.agg #[u,v]) (hu:∃ a n c,u=.slice a n c) (hv:∃ a n c,v=.slice a n c):(execOp a.eval o).run Try.prog w=.ok (.value (.pointer (some ⟨w.heap.size,0,none⟩))) (w.alloc (.cells #[u,v] 25)):=by
 obtain ⟨a1,n1,c1,rfl⟩:=hu
 obtain ⟨a2,n2,c2,rfl⟩:=hv
 unfold execOp
 simp only [ho,hx]
 simp [go_sem]
theorem execLnOO {x:Operand} {v:Value} {len:Nat} (ho:o.op=.call { callee:=.builtin .len,args:=#[x],argTypes:=#[23] }) (hx:a.eval x=v) (hv:∃ ao c,v=.slice ao len c):(execOp a.eval o).run Try.prog w=.ok (.value (.int .i64 ((len:Nat):Int))) w:=by
 obtain ⟨ao,c,rfl⟩:=hv
 unfold execOp
 simp only [ho,resolve,invoke,builtin,Sem.run_bind,Sem.run_pure,Result.andThen_ok,List.map_toArray,List.map_cons,List.map_nil,hx]
 simp [go_sem]
theorem execLnOs {x:Operand} {v:Value} {len:Nat} (ho:o.op=.call { callee:=.builtin .len,args:=#[x],argTypes:=#[79] }) (hx:a.eval x=v) (hv:∃ ao c,v=.slice ao len c):(execOp a.eval o).run Try.prog w=.ok (.value (.int .i64 ((len:Nat):Int))) w:=by
 obtain ⟨ao,c,rfl⟩:=hv
 unfold execOp
 simp only [ho,resolve,invoke,builtin,Sem.run_bind,Sem.run_pure,Result.andThen_ok,List.map_toArray,List.map_cons,List.map_nil,hx]
 simp [go_sem]
theorem execIxOO {x i:Operand} {g off n cap k:Nat} (ho:o.op=.indexAddr 23 x i) (hx:a.eval x=.slice (some ⟨g,off,none⟩) n cap) (hi:a.eval i=.int .i64 (k:Int)) (hk:k < n):(execOp a.eval o).run Try.prog w=.ok (.value (.pointer (some ⟨g,off+k,none⟩))) w:=by
 have h1:(k:Int) < n:=by omega
 unfold execOp
 simp only [ho,hx,hi]
 simp [go_sem,h1]
theorem execIxOs {x i:Operand} {g off n cap k:Nat} (ho:o.op=.indexAddr 79 x i) (hx:a.eval x=.slice (some ⟨g,off,none⟩) n cap) (hi:a.eval i=.int .i64 (k:Int)) (hk:k < n):(execOp a.eval o).run Try.prog w=.ok (.value (.pointer (some ⟨g,off+k * 3,none⟩))) w:=by
 have h1:(k:Int) < n:=by omega
 unfold execOp
 simp only [ho,hx,hi]
 simp [go_sem,h1]
theorem execLdO {x:Operand} {g f:Nat} {q:Op3} (ho:o.op=.load 59 x) (hx:a.eval x=.pointer (some ⟨g,f,none⟩)) (h:w.cell? ⟨g,f,none⟩=some (.int .i64 q.k)/\w.cell? ⟨g,f+1,none⟩=some (.int .i64 q.a)/\w.cell? ⟨g,f+2,none⟩=some (.int .i64 q.b)):(execOp a.eval o).run Try.prog w=.ok (.value (.agg (oC q.k q.a q.b))) w:=by
 have h:=execLoadMid (P:=Try.prog) (cs:=(oC q.k q.a q.b).toList) ho hx (fun j v hv=>by
  match j,hv with
  | 0,hv=>exact h.1.trans hv
  | 1,hv=>exact h.2.1.trans hv
  | 2,hv=>exact h.2.2.trans hv
  | j+3,hv=>cases hv) Try.underlying59 rfl (by show _=some 3; kernel_rfl)
 exact h
end
theorem SliceO.shp {W:World} {v:Value} {n:Nat} {q:Nat->Op3} (h:SliceO W v n q):∃ a c,v=.slice a n c:=by
 obtain ⟨a,c,e,_⟩:=h.shape
 exact ⟨a,c,e⟩
theorem SliceO.open {W:World} {v:Value} {n:Nat} {q:Nat->Op3} (h:SliceO W v n q) (h0:0 < n):∃ b off c,v=.slice (some ⟨b,off,none⟩) n c:=by
 obtain ⟨a,cap,e1,h1⟩:=h.shape
 obtain ⟨b,off,e2,_⟩:=h1 h0
 exact ⟨b,off,cap,by rw [e1,e2]⟩
theorem SliceO.at {W:World} {v:Value} {n b off c j:Nat} {q:Nat->Op3} (h:SliceO W v n q) (e:v=.slice (some ⟨b,off,none⟩) n c) (hj:j < n):W.cell? ⟨b,off+j * 3,none⟩=some (.int .i64 (q j).k)/\W.cell? ⟨b,off+j * 3+1,none⟩=some (.int .i64 (q j).a)/\W.cell? ⟨b,off+j * 3+2,none⟩=some (.int .i64 (q j).b):=by
 obtain ⟨a,cap,e1,h1⟩:=h.shape
 rw [e] at e1
 obtain ⟨b2,off2,e2,_,h3⟩:=h1 (by omega)
 rw [e2] at e1
 injection e1 with e3
 injection e3 with e3
 injection e3 with e4 e5 _
 rw [e4,e5]
 exact h3 j hj
set_option maxRecDepth 100000 in
set_option maxHeartbeats 4000000 in
theorem rwithin (n lo hi:Int) (V:World) :
  Calls Try.prog 33 #[.int .i64 n,.int .i64 lo,.int .i64 hi] V fun e w'=>e=.returned (.bool (inB n lo hi))/\Below V.heap.size V w':=by
 by_cases hg:lo<=n
 ·have hr:inB n lo hi=decide (n<=hi):=by unfold inB; exact decide_eq_decide.2 ⟨fun q=>q.2,fun q=>⟨hg,q⟩⟩
  go_enter Try.func33,Try.ntmps33
  refine wo_ 15 [(0,.int .i64 n),(1,.int .i64 lo),(2,.int .i64 hi)] ?_
  rintro a A ⟨t0,t1,t2,-⟩
  have BW:Below V.heap.size V V:=Below.refl _ _
  have BB:Below V.heap.size V V:=Below.refl _ _
  refine wp_seq ?_
  refine wi_ A (h3_ t0 t1 t2) (rf_ [] (h3_ t0 t1 t2) ?_)
  rintro a A - ⟨t0,t1,t2,-⟩
  refine wp_seq ?_
  refine wi_ A (h3_ t0 t1 t2) (rv_ 2 (.bool true) (fun a E=>execDec (exIgeq3 (p:=n) (q:=lo) rfl (E _) (E _)) (decide_eq_true hg)) (rv_ 6 (.bool (decide (n<=hi))) (fun a E=>exIleq3 (p:=n) (q:=hi) rfl (E _) (E _)) (rg_ [(6,.bool (decide (n<=hi)))] ?_)))
  rintro a A ⟨t6,-⟩
  refine wp_ret ?_
  refine bodyPost_ret (results_tmp rfl _ _ _) A.2 ⟨?_,BB⟩
  show Ending.returned (a.eval (.tmp 6))=_
  rw [t6]
  rw [hr]
 ·have hr:inB n lo hi=false:=decide_eq_false (fun q=>hg q.1)
  go_enter Try.func33,Try.ntmps33
  refine wo_ 15 [(0,.int .i64 n),(1,.int .i64 lo),(2,.int .i64 hi)] ?_
  rintro a A ⟨t0,t1,t2,-⟩
  have BW:Below V.heap.size V V:=Below.refl _ _
  have BB:Below V.heap.size V V:=Below.refl _ _
  refine wp_seq ?_
  refine wi_ A (h3_ t0 t1 t2) (rf_ [] (h3_ t0 t1 t2) ?_)
  rintro a A - ⟨t0,t1,t2,-⟩
  refine wp_seq ?_
  refine wi_ A (h3_ t0 t1 t2) (rv_ 2 (.bool false) (fun a E=>execDec (exIgeq3 (p:=n) (q:=lo) rfl (E _) (E _)) (decide_eq_false hg)) (rg_ [(6,.bool false)] ?_))
  rintro a A ⟨t6,-⟩
  refine wp_ret ?_
  refine bodyPost_ret (results_tmp rfl _ _ _) A.2 ⟨?_,BB⟩
  show Ending.returned (a.eval (.tmp 6))=_
  rw [t6]
  rw [hr]
set_option maxRecDepth 100000 in
set_option maxHeartbeats 4000000 in
theorem rright_1 (k oa ob:Int) (ops d n:Nat) (V:World) (_hd:d<=1000000) (_hn:n<=1000000) (hk:k=1) :
  Calls Try.prog 34 #[.agg (oC k oa ob),.int .i64 ((ops:Nat):Int),.int .i64 ((d:Nat):Int),.int .i64 ((n:Nat):Int)] V fun e w'=>e=.returned (.bool (rgt ⟨k,oa,ob⟩ ops d n))/\Below V.heap.size V w':=by
 have hr:rgt ⟨k,oa,ob⟩ ops d n=inB oa 0 (((d:Nat):Int) - 1):=by
  subst hk
  rfl
 go_enter Try.func34,Try.ntmps34
 refine wo_ 79 [(0,.agg (oC k oa ob)),(1,.int .i64 ((ops:Nat):Int)),(2,.int .i64 ((d:Nat):Int)),(3,.int .i64 ((n:Nat):Int))] ?_
 rintro a A ⟨t0,t1,t2,t3,-⟩
 have BW:Below V.heap.size V V:=Below.refl _ _
 have BB:Below V.heap.size V V:=Below.refl _ _
 refine wp_seq ?_
 obtain ⟨g4,egg4⟩:∃ z_:Nat,V.heap.size=z_:=⟨_,rfl⟩
 refine wi_ A (h4_ t0 t1 t2 t3) (rs_ 0 (fun a E=>?_))
 refine stepV rfl rfl (execBxO rfl (E _)) ⟨.pointer (some ⟨g4,0,none⟩),⟨_,rfl,by subst egg4; rfl⟩,fun X0 hX=>?_⟩
 have bQ:Below V.heap.size V X0:=by subst hX egg4; exact (belNew V _)
 have Fg4:(X0.heap[g4]?=some (.cells (oC k oa ob) 59)):=by subst hX egg4; exact heapNew V _
 replace BB:=BB.trans (bQ.mono BB.size)
 clear bQ hX egg4 E a
 refine rf_ [(4,.pointer (some ⟨g4,0,none⟩))] (h3_ t1 t2 t3) ?_
 rintro a A ⟨t4,-⟩ ⟨t1,t2,t3,-⟩
 refine wp_seq (wp_seq ?_)
 refine wi_ A (h4_ t1 t2 t3 t4) (rv_ 0 (.pointer (some ⟨g4,0,none⟩)) (fun a E=>execOf0 rfl (E _)) (rv_ 1 (.int .i64 k) (fun a E=>execLdG rfl (Or.inr (Or.inl rfl)) (E _) (oC_at Fg4).1) (rf_ [(10,.int .i64 k)] (h4_ t1 t2 t3 t4) ?_)))
 rintro a A ⟨t10,-⟩ ⟨t1,t2,t3,t4,-⟩
 refine wp_block ?_
 refine wp_seq (wp_seq ?_)
 refine wi_ A (h5_ t1 t2 t3 t4 t10) (rv_ 0 (.bool true) (fun a E=>execDec (exIeql3 (p:=k) (q:=1) rfl (E _) rfl) (decide_eq_true hk)) (rf_ [(11,.bool true)] (h5_ t1 t2 t3 t4 t10) ?_))
 rintro a A ⟨t11,-⟩ ⟨t1,t2,t3,t4,t10,-⟩
 refine wp_cond_true t11 (wp_skip ?_)
 refine wp_cond_true t11 ?_
 clear t11
 refine wp_seq ?_
 refine wi_ A (h5_ t1 t2 t3 t4 t10) (rv_ 0 (.pointer (some ⟨g4,1,none⟩)) (fun a E=>execOf1 rfl (E _)) (rv_ 1 (.int .i64 oa) (fun a E=>execLdG rfl (Or.inr (Or.inl rfl)) (E _) (oC_at Fg4).2.1) (rv_ 3 (.int .i64 (((d:Nat):Int) - 1)) (fun a E=>exSubZ (p:=((d:Nat):Int)) (q:=1) rfl (E _) rfl ⟨by omega,by omega⟩) (rc_ 4 (rwithin oa 0 (((d:Nat):Int) - 1) X0) (cb_ fun X4 bQ=>?_)))))
 replace Fg4:=(on9 Fg4 bQ)
 replace BB:=BB.trans (bQ.mono BB.size)
 clear bQ
 refine rg_ [(8,.bool (inB oa 0 (((d:Nat):Int) - 1)))] ?_
 rintro a A ⟨t8,-⟩
 refine wp_ret ?_
 repeat (first | with_reducible refine ret_in ?_ | with_reducible refine ret_then ?_)
 refine bodyPost_ret (results_tmp rfl _ _ _) A.2 ⟨?_,BB⟩
 show Ending.returned (a.eval (.tmp 8))=_
 rw [t8,hr]
set_option maxRecDepth 100000 in
set_option maxHeartbeats 4000000 in
theorem rright_3 (k oa ob:Int) (ops d n:Nat) (V:World) (_hd:d<=1000000) (_hn:n<=1000000) (hk:k=3) :
  Calls Try.prog 34 #[.agg (oC k oa ob),.int .i64 ((ops:Nat):Int),.int .i64 ((d:Nat):Int),.int .i64 ((n:Nat):Int)] V fun e w'=>e=.returned (.bool (rgt ⟨k,oa,ob⟩ ops d n))/\Below V.heap.size V w':=by
 have hr:rgt ⟨k,oa,ob⟩ ops d n=inB oa 0 (((d:Nat):Int) - 1):=by
  subst hk
  rfl
 go_enter Try.func34,Try.ntmps34
 refine wo_ 79 [(0,.agg (oC k oa ob)),(1,.int .i64 ((ops:Nat):Int)),(2,.int .i64 ((d:Nat):Int)),(3,.int .i64 ((n:Nat):Int))] ?_
 rintro a A ⟨t0,t1,t2,t3,-⟩
 have BW:Below V.heap.size V V:=Below.refl _ _
 have BB:Below V.heap.size V V:=Below.refl _ _
 refine wp_seq ?_
 obtain ⟨g4,egg4⟩:∃ z_:Nat,V.heap.size=z_:=⟨_,rfl⟩
 refine wi_ A (h4_ t0 t1 t2 t3) (rs_ 0 (fun a E=>?_))
 refine stepV rfl rfl (execBxO rfl (E _)) ⟨.pointer (some ⟨g4,0,none⟩),⟨_,rfl,by subst egg4; rfl⟩,fun X0 hX=>?_⟩
 have bQ:Below V.heap.size V X0:=by subst hX egg4; exact (belNew V _)
 have Fg4:(X0.heap[g4]?=some (.cells (oC k oa ob) 59)):=by subst hX egg4; exact heapNew V _
 replace BB:=BB.trans (bQ.mono BB.size)
 clear bQ hX egg4 E a
 refine rf_ [(4,.pointer (some ⟨g4,0,none⟩))] (h3_ t1 t2 t3) ?_
 rintro a A ⟨t4,-⟩ ⟨t1,t2,t3,-⟩
 refine wp_seq (wp_seq ?_)
 refine wi_ A (h4_ t1 t2 t3 t4) (rv_ 0 (.pointer (some ⟨g4,0,none⟩)) (fun a E=>execOf0 rfl (E _)) (rv_ 1 (.int .i64 k) (fun a E=>execLdG rfl (Or.inr (Or.inl rfl)) (E _) (oC_at Fg4).1) (rf_ [(10,.int .i64 k)] (h4_ t1 t2 t3 t4) ?_)))
 rintro a A ⟨t10,-⟩ ⟨t1,t2,t3,t4,-⟩
 refine wp_block ?_
 refine wp_seq (wp_seq ?_)
 refine wi_ A (h5_ t1 t2 t3 t4 t10) (rv_ 0 (.bool false) (fun a E=>execDec (exIeql3 (p:=k) (q:=1) rfl (E _) rfl) (decide_eq_false (by omega))) (rf_ [(11,.bool false)] (h5_ t1 t2 t3 t4 t10) ?_))
 rintro a A ⟨t11,-⟩ ⟨t1,t2,t3,t4,t10,-⟩
 refine wp_cond_false t11 ?_
 clear t11
 refine wi_ A (h5_ t1 t2 t3 t4 t10) (rv_ 0 (.bool true) (fun a E=>execDec (exIeql3 (p:=k) (q:=3) rfl (E _) rfl) (decide_eq_true hk)) (rf_ [(11,.bool true)] (h5_ t1 t2 t3 t4 t10) ?_))
 rintro a A ⟨t11,-⟩ ⟨t1,t2,t3,t4,t10,-⟩
 refine wp_cond_true t11 ?_
 clear t11
 refine wp_seq ?_
 refine wi_ A (h5_ t1 t2 t3 t4 t10) (rv_ 0 (.pointer (some ⟨g4,1,none⟩)) (fun a E=>execOf1 rfl (E _)) (rv_ 1 (.int .i64 oa) (fun a E=>execLdG rfl (Or.inr (Or.inl rfl)) (E _) (oC_at Fg4).2.1) (rv_ 3 (.int .i64 (((d:Nat):Int) - 1)) (fun a E=>exSubZ (p:=((d:Nat):Int)) (q:=1) rfl (E _) rfl ⟨by omega,by omega⟩) (rc_ 4 (rwithin oa 0 (((d:Nat):Int) - 1) X0) (cb_ fun X4 bQ=>?_)))))
 replace Fg4:=(on9 Fg4 bQ)
 replace BB:=BB.trans (bQ.mono BB.size)
 clear bQ
 refine rg_ [(8,.bool (inB oa 0 (((d:Nat):Int) - 1)))] ?_
 rintro a A ⟨t8,-⟩
 refine wp_ret ?_
 repeat (first | with_reducible refine ret_in ?_ | with_reducible refine ret_then ?_)
 refine bodyPost_ret (results_tmp rfl _ _ _) A.2 ⟨?_,BB⟩
 show Ending.returned (a.eval (.tmp 8))=_
 rw [t8,hr]
set_option maxRecDepth 100000 in
set_option maxHeartbeats 4000000 in
theorem rright_2t (k oa ob:Int) (ops d n:Nat) (V:World) (_hd:d<=1000000) (_hn:n<=1000000) (hk:k=2) (hA:inB oa 0 (((d:Nat):Int) - 1)=true) :
  Calls Try.prog 34 #[.agg (oC k oa ob),.int .i64 ((ops:Nat):Int),.int .i64 ((d:Nat):Int),.int .i64 ((n:Nat):Int)] V fun e w'=>e=.returned (.bool (rgt ⟨k,oa,ob⟩ ops d n))/\Below V.heap.size V w':=by
 have hr:rgt ⟨k,oa,ob⟩ ops d n=inB ob 0 ((ops:Nat):Int):=by
  subst hk
  show (inB oa 0 (((d:Nat):Int) - 1) && inB ob 0 ((ops:Nat):Int))=_
  rw [hA]
  rw [Bool.true_and]
 go_enter Try.func34,Try.ntmps34
 refine wo_ 79 [(0,.agg (oC k oa ob)),(1,.int .i64 ((ops:Nat):Int)),(2,.int .i64 ((d:Nat):Int)),(3,.int .i64 ((n:Nat):Int))] ?_
 rintro a A ⟨t0,t1,t2,t3,-⟩
 have BW:Below V.heap.size V V:=Below.refl _ _
 have BB:Below V.heap.size V V:=Below.refl _ _
 refine wp_seq ?_
 obtain ⟨g4,egg4⟩:∃ z_:Nat,V.heap.size=z_:=⟨_,rfl⟩
 refine wi_ A (h4_ t0 t1 t2 t3) (rs_ 0 (fun a E=>?_))
 refine stepV rfl rfl (execBxO rfl (E _)) ⟨.pointer (some ⟨g4,0,none⟩),⟨_,rfl,by subst egg4; rfl⟩,fun X0 hX=>?_⟩
 have bQ:Below V.heap.size V X0:=by subst hX egg4; exact (belNew V _)
 have Fg4:(X0.heap[g4]?=some (.cells (oC k oa ob) 59)):=by subst hX egg4; exact heapNew V _
 replace BB:=BB.trans (bQ.mono BB.size)
 clear bQ hX egg4 E a
 refine rf_ [(4,.pointer (some ⟨g4,0,none⟩))] (h3_ t1 t2 t3) ?_
 rintro a A ⟨t4,-⟩ ⟨t1,t2,t3,-⟩
 refine wp_seq (wp_seq ?_)
 refine wi_ A (h4_ t1 t2 t3 t4) (rv_ 0 (.pointer (some ⟨g4,0,none⟩)) (fun a E=>execOf0 rfl (E _)) (rv_ 1 (.int .i64 k) (fun a E=>execLdG rfl (Or.inr (Or.inl rfl)) (E _) (oC_at Fg4).1) (rf_ [(10,.int .i64 k)] (h4_ t1 t2 t3 t4) ?_)))
 rintro a A ⟨t10,-⟩ ⟨t1,t2,t3,t4,-⟩
 refine wp_block ?_
 refine wp_seq (wp_seq ?_)
 refine wi_ A (h5_ t1 t2 t3 t4 t10) (rv_ 0 (.bool false) (fun a E=>execDec (exIeql3 (p:=k) (q:=1) rfl (E _) rfl) (decide_eq_false (by omega))) (rf_ [(11,.bool false)] (h5_ t1 t2 t3 t4 t10) ?_))
 rintro a A ⟨t11,-⟩ ⟨t1,t2,t3,t4,t10,-⟩
 refine wp_cond_false t11 ?_
 clear t11
 refine wi_ A (h5_ t1 t2 t3 t4 t10) (rv_ 0 (.bool false) (fun a E=>execDec (exIeql3 (p:=k) (q:=3) rfl (E _) rfl) (decide_eq_false (by omega))) (rf_ [(11,.bool false)] (h5_ t1 t2 t3 t4 t10) ?_))
 rintro a A ⟨t11,-⟩ ⟨t1,t2,t3,t4,t10,-⟩
 refine wp_cond_false t11 ?_
 clear t11
 refine wp_seq ?_
 refine wi_ A (h5_ t1 t2 t3 t4 t10) (rv_ 0 (.bool true) (fun a E=>execDec (exIeql3 (p:=k) (q:=2) rfl (E _) rfl) (decide_eq_true hk)) (rf_ [(19,.bool true)] (h5_ t1 t2 t3 t4 t10) ?_))
 rintro a A ⟨t19,-⟩ ⟨t1,t2,t3,t4,t10,-⟩
 refine wp_cond_true t19 ?_
 clear t19
 refine wp_seq ?_
 refine wi_ A (h5_ t1 t2 t3 t4 t10) (rv_ 0 (.pointer (some ⟨g4,1,none⟩)) (fun a E=>execOf1 rfl (E _)) (rv_ 1 (.int .i64 oa) (fun a E=>execLdG rfl (Or.inr (Or.inl rfl)) (E _) (oC_at Fg4).2.1) (rv_ 3 (.int .i64 (((d:Nat):Int) - 1)) (fun a E=>exSubZ (p:=((d:Nat):Int)) (q:=1) rfl (E _) rfl ⟨by omega,by omega⟩) (rc_ 4 ((hA ▸ rwithin oa 0 (((d:Nat):Int) - 1) X0)) (cb_ fun X6_1 bQ=>?_)))))
 replace Fg4:=(on9 Fg4 bQ)
 replace BB:=BB.trans (bQ.mono BB.size)
 clear bQ
 refine rv_ 6 (.pointer (some ⟨g4,2,none⟩)) (fun a E=>execOf2 rfl (E _)) (rv_ 7 (.int .i64 ob) (fun a E=>execLdG rfl (Or.inr (Or.inl rfl)) (E _) (oC_at Fg4).2.2) (rc_ 9 (rwithin ob 0 (((ops:Nat):Int)) X6_1) (cb_ fun X6 bQ=>?_)))
 replace Fg4:=(on9 Fg4 bQ)
 replace BB:=BB.trans (bQ.mono BB.size)
 clear bQ
 refine rg_ [(8,.bool (inB ob 0 ((ops:Nat):Int)))] ?_
 rintro a A ⟨t8,-⟩
 refine wp_ret ?_
 repeat (first | with_reducible refine ret_in ?_ | with_reducible refine ret_then ?_)
 refine bodyPost_ret (results_tmp rfl _ _ _) A.2 ⟨?_,BB⟩
 show Ending.returned (a.eval (.tmp 8))=_
 rw [t8,hr]
set_option maxRecDepth 100000 in
set_option maxHeartbeats 4000000 in
theorem rright_2f (k oa ob:Int) (ops d n:Nat) (V:World) (_hd:d<=1000000) (_hn:n<=1000000) (hk:k=2) (hA:inB oa 0 (((d:Nat):Int) - 1)=false) :
  Calls Try.prog 34 #[.agg (oC k oa ob),.int .i64 ((ops:Nat):Int),.int .i64 ((d:Nat):Int),.int .i64 ((n:Nat):Int)] V fun e w'=>e=.returned (.bool (rgt ⟨k,oa,ob⟩ ops d n))/\Below V.heap.size V w':=by
 have hr:rgt ⟨k,oa,ob⟩ ops d n=false:=by
  subst hk
  show (inB oa 0 (((d:Nat):Int) - 1) && inB ob 0 ((ops:Nat):Int))=_
  rw [hA]
  rfl
 go_enter Try.func34,Try.ntmps34
 refine wo_ 79 [(0,.agg (oC k oa ob)),(1,.int .i64 ((ops:Nat):Int)),(2,.int .i64 ((d:Nat):Int)),(3,.int .i64 ((n:Nat):Int))] ?_
 rintro a A ⟨t0,t1,t2,t3,-⟩
 have BW:Below V.heap.size V V:=Below.refl _ _
 have BB:Below V.heap.size V V:=Below.refl _ _
 refine wp_seq ?_
 obtain ⟨g4,egg4⟩:∃ z_:Nat,V.heap.size=z_:=⟨_,rfl⟩
 refine wi_ A (h4_ t0 t1 t2 t3) (rs_ 0 (fun a E=>?_))
 refine stepV rfl rfl (execBxO rfl (E _)) ⟨.pointer (some ⟨g4,0,none⟩),⟨_,rfl,by subst egg4; rfl⟩,fun X0 hX=>?_⟩
 have bQ:Below V.heap.size V X0:=by subst hX egg4; exact (belNew V _)
 have Fg4:(X0.heap[g4]?=some (.cells (oC k oa ob) 59)):=by subst hX egg4; exact heapNew V _
 replace BB:=BB.trans (bQ.mono BB.size)
 clear bQ hX egg4 E a
 refine rf_ [(4,.pointer (some ⟨g4,0,none⟩))] (h3_ t1 t2 t3) ?_
 rintro a A ⟨t4,-⟩ ⟨t1,t2,t3,-⟩
 refine wp_seq (wp_seq ?_)
 refine wi_ A (h4_ t1 t2 t3 t4) (rv_ 0 (.pointer (some ⟨g4,0,none⟩)) (fun a E=>execOf0 rfl (E _)) (rv_ 1 (.int .i64 k) (fun a E=>execLdG rfl (Or.inr (Or.inl rfl)) (E _) (oC_at Fg4).1) (rf_ [(10,.int .i64 k)] (h4_ t1 t2 t3 t4) ?_)))
 rintro a A ⟨t10,-⟩ ⟨t1,t2,t3,t4,-⟩
 refine wp_block ?_
 refine wp_seq (wp_seq ?_)
 refine wi_ A (h5_ t1 t2 t3 t4 t10) (rv_ 0 (.bool false) (fun a E=>execDec (exIeql3 (p:=k) (q:=1) rfl (E _) rfl) (decide_eq_false (by omega))) (rf_ [(11,.bool false)] (h5_ t1 t2 t3 t4 t10) ?_))
 rintro a A ⟨t11,-⟩ ⟨t1,t2,t3,t4,t10,-⟩
 refine wp_cond_false t11 ?_
 clear t11
 refine wi_ A (h5_ t1 t2 t3 t4 t10) (rv_ 0 (.bool false) (fun a E=>execDec (exIeql3 (p:=k) (q:=3) rfl (E _) rfl) (decide_eq_false (by omega))) (rf_ [(11,.bool false)] (h5_ t1 t2 t3 t4 t10) ?_))
 rintro a A ⟨t11,-⟩ ⟨t1,t2,t3,t4,t10,-⟩
 refine wp_cond_false t11 ?_
 clear t11
 refine wp_seq ?_
 refine wi_ A (h5_ t1 t2 t3 t4 t10) (rv_ 0 (.bool true) (fun a E=>execDec (exIeql3 (p:=k) (q:=2) rfl (E _) rfl) (decide_eq_true hk)) (rf_ [(19,.bool true)] (h5_ t1 t2 t3 t4 t10) ?_))
 rintro a A ⟨t19,-⟩ ⟨t1,t2,t3,t4,t10,-⟩
 refine wp_cond_true t19 ?_
 clear t19
 refine wp_seq ?_
 refine wi_ A (h5_ t1 t2 t3 t4 t10) (rv_ 0 (.pointer (some ⟨g4,1,none⟩)) (fun a E=>execOf1 rfl (E _)) (rv_ 1 (.int .i64 oa) (fun a E=>execLdG rfl (Or.inr (Or.inl rfl)) (E _) (oC_at Fg4).2.1) (rv_ 3 (.int .i64 (((d:Nat):Int) - 1)) (fun a E=>exSubZ (p:=((d:Nat):Int)) (q:=1) rfl (E _) rfl ⟨by omega,by omega⟩) (rc_ 4 ((hA ▸ rwithin oa 0 (((d:Nat):Int) - 1) X0)) (cb_ fun X6 bQ=>?_)))))
 replace Fg4:=(on9 Fg4 bQ)
 replace BB:=BB.trans (bQ.mono BB.size)
 clear bQ
 refine rg_ [(8,.bool false)] ?_
 rintro a A ⟨t8,-⟩
 refine wp_ret ?_
 repeat (first | with_reducible refine ret_in ?_ | with_reducible refine ret_then ?_)
 refine bodyPost_ret (results_tmp rfl _ _ _) A.2 ⟨?_,BB⟩
 show Ending.returned (a.eval (.tmp 8))=_
 rw [t8,hr]
set_option maxRecDepth 100000 in
set_option maxHeartbeats 4000000 in
theorem rright_8t (k oa ob:Int) (ops d n:Nat) (V:World) (_hd:d<=1000000) (_hn:n<=1000000) (hk:k=8) (hA:inB oa 0 (((d:Nat):Int) - 1)=true) :
  Calls Try.prog 34 #[.agg (oC k oa ob),.int .i64 ((ops:Nat):Int),.int .i64 ((d:Nat):Int),.int .i64 ((n:Nat):Int)] V fun e w'=>e=.returned (.bool (rgt ⟨k,oa,ob⟩ ops d n))/\Below V.heap.size V w':=by
 have hr:rgt ⟨k,oa,ob⟩ ops d n=inB ob 0 (((d:Nat):Int) - 1):=by
  subst hk
  show (inB oa 0 (((d:Nat):Int) - 1) && inB ob 0 (((d:Nat):Int) - 1))=_
  rw [hA]
  rw [Bool.true_and]
 go_enter Try.func34,Try.ntmps34
 refine wo_ 79 [(0,.agg (oC k oa ob)),(1,.int .i64 ((ops:Nat):Int)),(2,.int .i64 ((d:Nat):Int)),(3,.int .i64 ((n:Nat):Int))] ?_
 rintro a A ⟨t0,t1,t2,t3,-⟩
 have BW:Below V.heap.size V V:=Below.refl _ _
 have BB:Below V.heap.size V V:=Below.refl _ _
 refine wp_seq ?_
 obtain ⟨g4,egg4⟩:∃ z_:Nat,V.heap.size=z_:=⟨_,rfl⟩
 refine wi_ A (h4_ t0 t1 t2 t3) (rs_ 0 (fun a E=>?_))
 refine stepV rfl rfl (execBxO rfl (E _)) ⟨.pointer (some ⟨g4,0,none⟩),⟨_,rfl,by subst egg4; rfl⟩,fun X0 hX=>?_⟩
 have bQ:Below V.heap.size V X0:=by subst hX egg4; exact (belNew V _)
 have Fg4:(X0.heap[g4]?=some (.cells (oC k oa ob) 59)):=by subst hX egg4; exact heapNew V _
 replace BB:=BB.trans (bQ.mono BB.size)
 clear bQ hX egg4 E a
 refine rf_ [(4,.pointer (some ⟨g4,0,none⟩))] (h3_ t1 t2 t3) ?_
 rintro a A ⟨t4,-⟩ ⟨t1,t2,t3,-⟩
 refine wp_seq (wp_seq ?_)
 refine wi_ A (h4_ t1 t2 t3 t4) (rv_ 0 (.pointer (some ⟨g4,0,none⟩)) (fun a E=>execOf0 rfl (E _)) (rv_ 1 (.int .i64 k) (fun a E=>execLdG rfl (Or.inr (Or.inl rfl)) (E _) (oC_at Fg4).1) (rf_ [(10,.int .i64 k)] (h4_ t1 t2 t3 t4) ?_)))
 rintro a A ⟨t10,-⟩ ⟨t1,t2,t3,t4,-⟩
 refine wp_block ?_
 refine wp_seq (wp_seq ?_)
 refine wi_ A (h5_ t1 t2 t3 t4 t10) (rv_ 0 (.bool false) (fun a E=>execDec (exIeql3 (p:=k) (q:=1) rfl (E _) rfl) (decide_eq_false (by omega))) (rf_ [(11,.bool false)] (h5_ t1 t2 t3 t4 t10) ?_))
 rintro a A ⟨t11,-⟩ ⟨t1,t2,t3,t4,t10,-⟩
 refine wp_cond_false t11 ?_
 clear t11
 refine wi_ A (h5_ t1 t2 t3 t4 t10) (rv_ 0 (.bool false) (fun a E=>execDec (exIeql3 (p:=k) (q:=3) rfl (E _) rfl) (decide_eq_false (by omega))) (rf_ [(11,.bool false)] (h5_ t1 t2 t3 t4 t10) ?_))
 rintro a A ⟨t11,-⟩ ⟨t1,t2,t3,t4,t10,-⟩
 refine wp_cond_false t11 ?_
 clear t11
 refine wp_seq ?_
 refine wi_ A (h5_ t1 t2 t3 t4 t10) (rv_ 0 (.bool false) (fun a E=>execDec (exIeql3 (p:=k) (q:=2) rfl (E _) rfl) (decide_eq_false (by omega))) (rf_ [(19,.bool false)] (h5_ t1 t2 t3 t4 t10) ?_))
 rintro a A ⟨t19,-⟩ ⟨t1,t2,t3,t4,t10,-⟩
 refine wp_cond_false t19 ?_
 clear t19
 refine wp_seq ?_
 refine wi_ A (h5_ t1 t2 t3 t4 t10) (rv_ 0 (.bool true) (fun a E=>execDec (exIeql3 (p:=k) (q:=8) rfl (E _) rfl) (decide_eq_true hk)) (rf_ [(32,.bool true)] (h5_ t1 t2 t3 t4 t10) ?_))
 rintro a A ⟨t32,-⟩ ⟨t1,t2,t3,t4,t10,-⟩
 refine wp_cond_true t32 ?_
 clear t32
 refine wp_seq ?_
 refine wi_ A (h5_ t1 t2 t3 t4 t10) (rv_ 0 (.pointer (some ⟨g4,1,none⟩)) (fun a E=>execOf1 rfl (E _)) (rv_ 1 (.int .i64 oa) (fun a E=>execLdG rfl (Or.inr (Or.inl rfl)) (E _) (oC_at Fg4).2.1) (rv_ 3 (.int .i64 (((d:Nat):Int) - 1)) (fun a E=>exSubZ (p:=((d:Nat):Int)) (q:=1) rfl (E _) rfl ⟨by omega,by omega⟩) (rc_ 4 ((hA ▸ rwithin oa 0 (((d:Nat):Int) - 1) X0)) (cb_ fun X8_1 bQ=>?_)))))
 replace Fg4:=(on9 Fg4 bQ)
 replace BB:=BB.trans (bQ.mono BB.size)
 clear bQ
 refine rv_ 6 (.pointer (some ⟨g4,2,none⟩)) (fun a E=>execOf2 rfl (E _)) (rv_ 7 (.int .i64 ob) (fun a E=>execLdG rfl (Or.inr (Or.inl rfl)) (E _) (oC_at Fg4).2.2) (rv_ 9 (.int .i64 (((d:Nat):Int) - 1)) (fun a E=>exSubZ (p:=((d:Nat):Int)) (q:=1) rfl (E _) rfl ⟨by omega,by omega⟩) (rc_ 10 (rwithin ob 0 (((d:Nat):Int) - 1) X8_1) (cb_ fun X8 bQ=>?_))))
 replace Fg4:=(on9 Fg4 bQ)
 replace BB:=BB.trans (bQ.mono BB.size)
 clear bQ
 refine rg_ [(8,.bool (inB ob 0 (((d:Nat):Int) - 1)))] ?_
 rintro a A ⟨t8,-⟩
 refine wp_ret ?_
 repeat (first | with_reducible refine ret_in ?_ | with_reducible refine ret_then ?_)
 refine bodyPost_ret (results_tmp rfl _ _ _) A.2 ⟨?_,BB⟩
 show Ending.returned (a.eval (.tmp 8))=_
 rw [t8,hr]
set_option maxRecDepth 100000 in
set_option maxHeartbeats 4000000 in
theorem rright_8f (k oa ob:Int) (ops d n:Nat) (V:World) (_hd:d<=1000000) (_hn:n<=1000000) (hk:k=8) (hA:inB oa 0 (((d:Nat):Int) - 1)=false) :
  Calls Try.prog 34 #[.agg (oC k oa ob),.int .i64 ((ops:Nat):Int),.int .i64 ((d:Nat):Int),.int .i64 ((n:Nat):Int)] V fun e w'=>e=.returned (.bool (rgt ⟨k,oa,ob⟩ ops d n))/\Below V.heap.size V w':=by
 have hr:rgt ⟨k,oa,ob⟩ ops d n=false:=by
  subst hk
  show (inB oa 0 (((d:Nat):Int) - 1) && inB ob 0 (((d:Nat):Int) - 1))=_
  rw [hA]
  rfl
 go_enter Try.func34,Try.ntmps34
 refine wo_ 79 [(0,.agg (oC k oa ob)),(1,.int .i64 ((ops:Nat):Int)),(2,.int .i64 ((d:Nat):Int)),(3,.int .i64 ((n:Nat):Int))] ?_
 rintro a A ⟨t0,t1,t2,t3,-⟩
 have BW:Below V.heap.size V V:=Below.refl _ _
 have BB:Below V.heap.size V V:=Below.refl _ _
 refine wp_seq ?_
 obtain ⟨g4,egg4⟩:∃ z_:Nat,V.heap.size=z_:=⟨_,rfl⟩
 refine wi_ A (h4_ t0 t1 t2 t3) (rs_ 0 (fun a E=>?_))
 refine stepV rfl rfl (execBxO rfl (E _)) ⟨.pointer (some ⟨g4,0,none⟩),⟨_,rfl,by subst egg4; rfl⟩,fun X0 hX=>?_⟩
 have bQ:Below V.heap.size V X0:=by subst hX egg4; exact (belNew V _)
 have Fg4:(X0.heap[g4]?=some (.cells (oC k oa ob) 59)):=by subst hX egg4; exact heapNew V _
 replace BB:=BB.trans (bQ.mono BB.size)
 clear bQ hX egg4 E a
 refine rf_ [(4,.pointer (some ⟨g4,0,none⟩))] (h3_ t1 t2 t3) ?_
 rintro a A ⟨t4,-⟩ ⟨t1,t2,t3,-⟩
 refine wp_seq (wp_seq ?_)
 refine wi_ A (h4_ t1 t2 t3 t4) (rv_ 0 (.pointer (some ⟨g4,0,none⟩)) (fun a E=>execOf0 rfl (E _)) (rv_ 1 (.int .i64 k) (fun a E=>execLdG rfl (Or.inr (Or.inl rfl)) (E _) (oC_at Fg4).1) (rf_ [(10,.int .i64 k)] (h4_ t1 t2 t3 t4) ?_)))
 rintro a A ⟨t10,-⟩ ⟨t1,t2,t3,t4,-⟩
 refine wp_block ?_
 refine wp_seq (wp_seq ?_)
 refine wi_ A (h5_ t1 t2 t3 t4 t10) (rv_ 0 (.bool false) (fun a E=>execDec (exIeql3 (p:=k) (q:=1) rfl (E _) rfl) (decide_eq_false (by omega))) (rf_ [(11,.bool false)] (h5_ t1 t2 t3 t4 t10) ?_))
 rintro a A ⟨t11,-⟩ ⟨t1,t2,t3,t4,t10,-⟩
 refine wp_cond_false t11 ?_
 clear t11
 refine wi_ A (h5_ t1 t2 t3 t4 t10) (rv_ 0 (.bool false) (fun a E=>execDec (exIeql3 (p:=k) (q:=3) rfl (E _) rfl) (decide_eq_false (by omega))) (rf_ [(11,.bool false)] (h5_ t1 t2 t3 t4 t10) ?_))
 rintro a A ⟨t11,-⟩ ⟨t1,t2,t3,t4,t10,-⟩
 refine wp_cond_false t11 ?_
 clear t11
 refine wp_seq ?_
 refine wi_ A (h5_ t1 t2 t3 t4 t10) (rv_ 0 (.bool false) (fun a E=>execDec (exIeql3 (p:=k) (q:=2) rfl (E _) rfl) (decide_eq_false (by omega))) (rf_ [(19,.bool false)] (h5_ t1 t2 t3 t4 t10) ?_))
 rintro a A ⟨t19,-⟩ ⟨t1,t2,t3,t4,t10,-⟩
 refine wp_cond_false t19 ?_
 clear t19
 refine wp_seq ?_
 refine wi_ A (h5_ t1 t2 t3 t4 t10) (rv_ 0 (.bool true) (fun a E=>execDec (exIeql3 (p:=k) (q:=8) rfl (E _) rfl) (decide_eq_true hk)) (rf_ [(32,.bool true)] (h5_ t1 t2 t3 t4 t10) ?_))
 rintro a A ⟨t32,-⟩ ⟨t1,t2,t3,t4,t10,-⟩
 refine wp_cond_true t32 ?_
 clear t32
 refine wp_seq ?_
 refine wi_ A (h5_ t1 t2 t3 t4 t10) (rv_ 0 (.pointer (some ⟨g4,1,none⟩)) (fun a E=>execOf1 rfl (E _)) (rv_ 1 (.int .i64 oa) (fun a E=>execLdG rfl (Or.inr (Or.inl rfl)) (E _) (oC_at Fg4).2.1) (rv_ 3 (.int .i64 (((d:Nat):Int) - 1)) (fun a E=>exSubZ (p:=((d:Nat):Int)) (q:=1) rfl (E _) rfl ⟨by omega,by omega⟩) (rc_ 4 ((hA ▸ rwithin oa 0 (((d:Nat):Int) - 1) X0)) (cb_ fun X8 bQ=>?_)))))
 replace Fg4:=(on9 Fg4 bQ)
 replace BB:=BB.trans (bQ.mono BB.size)
 clear bQ
 refine rg_ [(8,.bool false)] ?_
 rintro a A ⟨t8,-⟩
 refine wp_ret ?_
 repeat (first | with_reducible refine ret_in ?_ | with_reducible refine ret_then ?_)
 refine bodyPost_ret (results_tmp rfl _ _ _) A.2 ⟨?_,BB⟩
 show Ending.returned (a.eval (.tmp 8))=_
 rw [t8,hr]
set_option maxRecDepth 100000 in
set_option maxHeartbeats 4000000 in
theorem rright_4 (k oa ob:Int) (ops d n:Nat) (V:World) (_hd:d<=1000000) (_hn:n<=1000000) (hk:k=4) :
  Calls Try.prog 34 #[.agg (oC k oa ob),.int .i64 ((ops:Nat):Int),.int .i64 ((d:Nat):Int),.int .i64 ((n:Nat):Int)] V fun e w'=>e=.returned (.bool (rgt ⟨k,oa,ob⟩ ops d n))/\Below V.heap.size V w':=by
 have hr:rgt ⟨k,oa,ob⟩ ops d n=inB oa (-1024) 1024:=by
  subst hk
  rfl
 go_enter Try.func34,Try.ntmps34
 refine wo_ 79 [(0,.agg (oC k oa ob)),(1,.int .i64 ((ops:Nat):Int)),(2,.int .i64 ((d:Nat):Int)),(3,.int .i64 ((n:Nat):Int))] ?_
 rintro a A ⟨t0,t1,t2,t3,-⟩
 have BW:Below V.heap.size V V:=Below.refl _ _
 have BB:Below V.heap.size V V:=Below.refl _ _
 refine wp_seq ?_
 obtain ⟨g4,egg4⟩:∃ z_:Nat,V.heap.size=z_:=⟨_,rfl⟩
 refine wi_ A (h4_ t0 t1 t2 t3) (rs_ 0 (fun a E=>?_))
 refine stepV rfl rfl (execBxO rfl (E _)) ⟨.pointer (some ⟨g4,0,none⟩),⟨_,rfl,by subst egg4; rfl⟩,fun X0 hX=>?_⟩
 have bQ:Below V.heap.size V X0:=by subst hX egg4; exact (belNew V _)
 have Fg4:(X0.heap[g4]?=some (.cells (oC k oa ob) 59)):=by subst hX egg4; exact heapNew V _
 replace BB:=BB.trans (bQ.mono BB.size)
 clear bQ hX egg4 E a
 refine rf_ [(4,.pointer (some ⟨g4,0,none⟩))] (h3_ t1 t2 t3) ?_
 rintro a A ⟨t4,-⟩ ⟨t1,t2,t3,-⟩
 refine wp_seq (wp_seq ?_)
 refine wi_ A (h4_ t1 t2 t3 t4) (rv_ 0 (.pointer (some ⟨g4,0,none⟩)) (fun a E=>execOf0 rfl (E _)) (rv_ 1 (.int .i64 k) (fun a E=>execLdG rfl (Or.inr (Or.inl rfl)) (E _) (oC_at Fg4).1) (rf_ [(10,.int .i64 k)] (h4_ t1 t2 t3 t4) ?_)))
 rintro a A ⟨t10,-⟩ ⟨t1,t2,t3,t4,-⟩
 refine wp_block ?_
 refine wp_seq (wp_seq ?_)
 refine wi_ A (h5_ t1 t2 t3 t4 t10) (rv_ 0 (.bool false) (fun a E=>execDec (exIeql3 (p:=k) (q:=1) rfl (E _) rfl) (decide_eq_false (by omega))) (rf_ [(11,.bool false)] (h5_ t1 t2 t3 t4 t10) ?_))
 rintro a A ⟨t11,-⟩ ⟨t1,t2,t3,t4,t10,-⟩
 refine wp_cond_false t11 ?_
 clear t11
 refine wi_ A (h5_ t1 t2 t3 t4 t10) (rv_ 0 (.bool false) (fun a E=>execDec (exIeql3 (p:=k) (q:=3) rfl (E _) rfl) (decide_eq_false (by omega))) (rf_ [(11,.bool false)] (h5_ t1 t2 t3 t4 t10) ?_))
 rintro a A ⟨t11,-⟩ ⟨t1,t2,t3,t4,t10,-⟩
 refine wp_cond_false t11 ?_
 clear t11
 refine wp_seq ?_
 refine wi_ A (h5_ t1 t2 t3 t4 t10) (rv_ 0 (.bool false) (fun a E=>execDec (exIeql3 (p:=k) (q:=2) rfl (E _) rfl) (decide_eq_false (by omega))) (rf_ [(19,.bool false)] (h5_ t1 t2 t3 t4 t10) ?_))
 rintro a A ⟨t19,-⟩ ⟨t1,t2,t3,t4,t10,-⟩
 refine wp_cond_false t19 ?_
 clear t19
 refine wp_seq ?_
 refine wi_ A (h5_ t1 t2 t3 t4 t10) (rv_ 0 (.bool false) (fun a E=>execDec (exIeql3 (p:=k) (q:=8) rfl (E _) rfl) (decide_eq_false (by omega))) (rf_ [(32,.bool false)] (h5_ t1 t2 t3 t4 t10) ?_))
 rintro a A ⟨t32,-⟩ ⟨t1,t2,t3,t4,t10,-⟩
 refine wp_cond_false t32 ?_
 clear t32
 refine wp_seq (wp_seq ?_)
 refine wi_ A (h5_ t1 t2 t3 t4 t10) (rv_ 0 (.bool true) (fun a E=>execDec (exIeql3 (p:=k) (q:=4) rfl (E _) rfl) (decide_eq_true hk)) (rf_ [(46,.bool true)] (h5_ t1 t2 t3 t4 t10) ?_))
 rintro a A ⟨t46,-⟩ ⟨t1,t2,t3,t4,t10,-⟩
 refine wp_cond_true t46 (wp_skip ?_)
 refine wp_cond_true t46 ?_
 clear t46
 refine wp_seq ?_
 refine wi_ A (h5_ t1 t2 t3 t4 t10) (rv_ 0 (.pointer (some ⟨g4,1,none⟩)) (fun a E=>execOf1 rfl (E _)) (rv_ 1 (.int .i64 oa) (fun a E=>execLdG rfl (Or.inr (Or.inl rfl)) (E _) (oC_at Fg4).2.1) (rc_ 2 (rwithin oa (-1024) (1024) X0) (cb_ fun X11 bQ=>?_))))
 replace Fg4:=(on9 Fg4 bQ)
 replace BB:=BB.trans (bQ.mono BB.size)
 clear bQ
 refine rg_ [(8,.bool (inB oa (-1024) 1024))] ?_
 rintro a A ⟨t8,-⟩
 refine wp_ret ?_
 repeat (first | with_reducible refine ret_in ?_ | with_reducible refine ret_then ?_)
 refine bodyPost_ret (results_tmp rfl _ _ _) A.2 ⟨?_,BB⟩
 show Ending.returned (a.eval (.tmp 8))=_
 rw [t8,hr]
set_option maxRecDepth 100000 in
set_option maxHeartbeats 4000000 in
theorem rright_5 (k oa ob:Int) (ops d n:Nat) (V:World) (_hd:d<=1000000) (_hn:n<=1000000) (hk:k=5) :
  Calls Try.prog 34 #[.agg (oC k oa ob),.int .i64 ((ops:Nat):Int),.int .i64 ((d:Nat):Int),.int .i64 ((n:Nat):Int)] V fun e w'=>e=.returned (.bool (rgt ⟨k,oa,ob⟩ ops d n))/\Below V.heap.size V w':=by
 have hr:rgt ⟨k,oa,ob⟩ ops d n=inB oa (-1024) 1024:=by
  subst hk
  rfl
 go_enter Try.func34,Try.ntmps34
 refine wo_ 79 [(0,.agg (oC k oa ob)),(1,.int .i64 ((ops:Nat):Int)),(2,.int .i64 ((d:Nat):Int)),(3,.int .i64 ((n:Nat):Int))] ?_
 rintro a A ⟨t0,t1,t2,t3,-⟩
 have BW:Below V.heap.size V V:=Below.refl _ _
 have BB:Below V.heap.size V V:=Below.refl _ _
 refine wp_seq ?_
 obtain ⟨g4,egg4⟩:∃ z_:Nat,V.heap.size=z_:=⟨_,rfl⟩
 refine wi_ A (h4_ t0 t1 t2 t3) (rs_ 0 (fun a E=>?_))
 refine stepV rfl rfl (execBxO rfl (E _)) ⟨.pointer (some ⟨g4,0,none⟩),⟨_,rfl,by subst egg4; rfl⟩,fun X0 hX=>?_⟩
 have bQ:Below V.heap.size V X0:=by subst hX egg4; exact (belNew V _)
 have Fg4:(X0.heap[g4]?=some (.cells (oC k oa ob) 59)):=by subst hX egg4; exact heapNew V _
 replace BB:=BB.trans (bQ.mono BB.size)
 clear bQ hX egg4 E a
 refine rf_ [(4,.pointer (some ⟨g4,0,none⟩))] (h3_ t1 t2 t3) ?_
 rintro a A ⟨t4,-⟩ ⟨t1,t2,t3,-⟩
 refine wp_seq (wp_seq ?_)
 refine wi_ A (h4_ t1 t2 t3 t4) (rv_ 0 (.pointer (some ⟨g4,0,none⟩)) (fun a E=>execOf0 rfl (E _)) (rv_ 1 (.int .i64 k) (fun a E=>execLdG rfl (Or.inr (Or.inl rfl)) (E _) (oC_at Fg4).1) (rf_ [(10,.int .i64 k)] (h4_ t1 t2 t3 t4) ?_)))
 rintro a A ⟨t10,-⟩ ⟨t1,t2,t3,t4,-⟩
 refine wp_block ?_
 refine wp_seq (wp_seq ?_)
 refine wi_ A (h5_ t1 t2 t3 t4 t10) (rv_ 0 (.bool false) (fun a E=>execDec (exIeql3 (p:=k) (q:=1) rfl (E _) rfl) (decide_eq_false (by omega))) (rf_ [(11,.bool false)] (h5_ t1 t2 t3 t4 t10) ?_))
 rintro a A ⟨t11,-⟩ ⟨t1,t2,t3,t4,t10,-⟩
 refine wp_cond_false t11 ?_
 clear t11
 refine wi_ A (h5_ t1 t2 t3 t4 t10) (rv_ 0 (.bool false) (fun a E=>execDec (exIeql3 (p:=k) (q:=3) rfl (E _) rfl) (decide_eq_false (by omega))) (rf_ [(11,.bool false)] (h5_ t1 t2 t3 t4 t10) ?_))
 rintro a A ⟨t11,-⟩ ⟨t1,t2,t3,t4,t10,-⟩
 refine wp_cond_false t11 ?_
 clear t11
 refine wp_seq ?_
 refine wi_ A (h5_ t1 t2 t3 t4 t10) (rv_ 0 (.bool false) (fun a E=>execDec (exIeql3 (p:=k) (q:=2) rfl (E _) rfl) (decide_eq_false (by omega))) (rf_ [(19,.bool false)] (h5_ t1 t2 t3 t4 t10) ?_))
 rintro a A ⟨t19,-⟩ ⟨t1,t2,t3,t4,t10,-⟩
 refine wp_cond_false t19 ?_
 clear t19
 refine wp_seq ?_
 refine wi_ A (h5_ t1 t2 t3 t4 t10) (rv_ 0 (.bool false) (fun a E=>execDec (exIeql3 (p:=k) (q:=8) rfl (E _) rfl) (decide_eq_false (by omega))) (rf_ [(32,.bool false)] (h5_ t1 t2 t3 t4 t10) ?_))
 rintro a A ⟨t32,-⟩ ⟨t1,t2,t3,t4,t10,-⟩
 refine wp_cond_false t32 ?_
 clear t32
 refine wp_seq (wp_seq ?_)
 refine wi_ A (h5_ t1 t2 t3 t4 t10) (rv_ 0 (.bool false) (fun a E=>execDec (exIeql3 (p:=k) (q:=4) rfl (E _) rfl) (decide_eq_false (by omega))) (rf_ [(46,.bool false)] (h5_ t1 t2 t3 t4 t10) ?_))
 rintro a A ⟨t46,-⟩ ⟨t1,t2,t3,t4,t10,-⟩
 refine wp_cond_false t46 ?_
 clear t46
 refine wi_ A (h5_ t1 t2 t3 t4 t10) (rv_ 0 (.bool true) (fun a E=>execDec (exIeql3 (p:=k) (q:=5) rfl (E _) rfl) (decide_eq_true hk)) (rf_ [(46,.bool true)] (h5_ t1 t2 t3 t4 t10) ?_))
 rintro a A ⟨t46,-⟩ ⟨t1,t2,t3,t4,t10,-⟩
 refine wp_cond_true t46 ?_
 clear t46
 refine wp_seq ?_
 refine wi_ A (h5_ t1 t2 t3 t4 t10) (rv_ 0 (.pointer (some ⟨g4,1,none⟩)) (fun a E=>execOf1 rfl (E _)) (rv_ 1 (.int .i64 oa) (fun a E=>execLdG rfl (Or.inr (Or.inl rfl)) (E _) (oC_at Fg4).2.1) (rc_ 2 (rwithin oa (-1024) (1024) X0) (cb_ fun X11 bQ=>?_))))
 replace Fg4:=(on9 Fg4 bQ)
 replace BB:=BB.trans (bQ.mono BB.size)
 clear bQ
 refine rg_ [(8,.bool (inB oa (-1024) 1024))] ?_
 rintro a A ⟨t8,-⟩
 refine wp_ret ?_
 repeat (first | with_reducible refine ret_in ?_ | with_reducible refine ret_then ?_)
 refine bodyPost_ret (results_tmp rfl _ _ _) A.2 ⟨?_,BB⟩
 show Ending.returned (a.eval (.tmp 8))=_
 rw [t8,hr]
set_option maxRecDepth 100000 in
set_option maxHeartbeats 4000000 in
theorem rright_6 (k oa ob:Int) (ops d n:Nat) (V:World) (_hd:d<=1000000) (_hn:n<=1000000) (hk:k=6) :
  Calls Try.prog 34 #[.agg (oC k oa ob),.int .i64 ((ops:Nat):Int),.int .i64 ((d:Nat):Int),.int .i64 ((n:Nat):Int)] V fun e w'=>e=.returned (.bool (rgt ⟨k,oa,ob⟩ ops d n))/\Below V.heap.size V w':=by
 have hr:rgt ⟨k,oa,ob⟩ ops d n=inB oa 0 ((ops:Nat):Int):=by
  subst hk
  rfl
 go_enter Try.func34,Try.ntmps34
 refine wo_ 79 [(0,.agg (oC k oa ob)),(1,.int .i64 ((ops:Nat):Int)),(2,.int .i64 ((d:Nat):Int)),(3,.int .i64 ((n:Nat):Int))] ?_
 rintro a A ⟨t0,t1,t2,t3,-⟩
 have BW:Below V.heap.size V V:=Below.refl _ _
 have BB:Below V.heap.size V V:=Below.refl _ _
 refine wp_seq ?_
 obtain ⟨g4,egg4⟩:∃ z_:Nat,V.heap.size=z_:=⟨_,rfl⟩
 refine wi_ A (h4_ t0 t1 t2 t3) (rs_ 0 (fun a E=>?_))
 refine stepV rfl rfl (execBxO rfl (E _)) ⟨.pointer (some ⟨g4,0,none⟩),⟨_,rfl,by subst egg4; rfl⟩,fun X0 hX=>?_⟩
 have bQ:Below V.heap.size V X0:=by subst hX egg4; exact (belNew V _)
 have Fg4:(X0.heap[g4]?=some (.cells (oC k oa ob) 59)):=by subst hX egg4; exact heapNew V _
 replace BB:=BB.trans (bQ.mono BB.size)
 clear bQ hX egg4 E a
 refine rf_ [(4,.pointer (some ⟨g4,0,none⟩))] (h3_ t1 t2 t3) ?_
 rintro a A ⟨t4,-⟩ ⟨t1,t2,t3,-⟩
 refine wp_seq (wp_seq ?_)
 refine wi_ A (h4_ t1 t2 t3 t4) (rv_ 0 (.pointer (some ⟨g4,0,none⟩)) (fun a E=>execOf0 rfl (E _)) (rv_ 1 (.int .i64 k) (fun a E=>execLdG rfl (Or.inr (Or.inl rfl)) (E _) (oC_at Fg4).1) (rf_ [(10,.int .i64 k)] (h4_ t1 t2 t3 t4) ?_)))
 rintro a A ⟨t10,-⟩ ⟨t1,t2,t3,t4,-⟩
 refine wp_block ?_
 refine wp_seq (wp_seq ?_)
 refine wi_ A (h5_ t1 t2 t3 t4 t10) (rv_ 0 (.bool false) (fun a E=>execDec (exIeql3 (p:=k) (q:=1) rfl (E _) rfl) (decide_eq_false (by omega))) (rf_ [(11,.bool false)] (h5_ t1 t2 t3 t4 t10) ?_))
 rintro a A ⟨t11,-⟩ ⟨t1,t2,t3,t4,t10,-⟩
 refine wp_cond_false t11 ?_
 clear t11
 refine wi_ A (h5_ t1 t2 t3 t4 t10) (rv_ 0 (.bool false) (fun a E=>execDec (exIeql3 (p:=k) (q:=3) rfl (E _) rfl) (decide_eq_false (by omega))) (rf_ [(11,.bool false)] (h5_ t1 t2 t3 t4 t10) ?_))
 rintro a A ⟨t11,-⟩ ⟨t1,t2,t3,t4,t10,-⟩
 refine wp_cond_false t11 ?_
 clear t11
 refine wp_seq ?_
 refine wi_ A (h5_ t1 t2 t3 t4 t10) (rv_ 0 (.bool false) (fun a E=>execDec (exIeql3 (p:=k) (q:=2) rfl (E _) rfl) (decide_eq_false (by omega))) (rf_ [(19,.bool false)] (h5_ t1 t2 t3 t4 t10) ?_))
 rintro a A ⟨t19,-⟩ ⟨t1,t2,t3,t4,t10,-⟩
 refine wp_cond_false t19 ?_
 clear t19
 refine wp_seq ?_
 refine wi_ A (h5_ t1 t2 t3 t4 t10) (rv_ 0 (.bool false) (fun a E=>execDec (exIeql3 (p:=k) (q:=8) rfl (E _) rfl) (decide_eq_false (by omega))) (rf_ [(32,.bool false)] (h5_ t1 t2 t3 t4 t10) ?_))
 rintro a A ⟨t32,-⟩ ⟨t1,t2,t3,t4,t10,-⟩
 refine wp_cond_false t32 ?_
 clear t32
 refine wp_seq (wp_seq ?_)
 refine wi_ A (h5_ t1 t2 t3 t4 t10) (rv_ 0 (.bool false) (fun a E=>execDec (exIeql3 (p:=k) (q:=4) rfl (E _) rfl) (decide_eq_false (by omega))) (rf_ [(46,.bool false)] (h5_ t1 t2 t3 t4 t10) ?_))
 rintro a A ⟨t46,-⟩ ⟨t1,t2,t3,t4,t10,-⟩
 refine wp_cond_false t46 ?_
 clear t46
 refine wi_ A (h5_ t1 t2 t3 t4 t10) (rv_ 0 (.bool false) (fun a E=>execDec (exIeql3 (p:=k) (q:=5) rfl (E _) rfl) (decide_eq_false (by omega))) (rf_ [(46,.bool false)] (h5_ t1 t2 t3 t4 t10) ?_))
 rintro a A ⟨t46,-⟩ ⟨t1,t2,t3,t4,t10,-⟩
 refine wp_cond_false t46 ?_
 clear t46
 refine wp_seq ?_
 refine wi_ A (h5_ t1 t2 t3 t4 t10) (rv_ 0 (.bool true) (fun a E=>execDec (exIeql3 (p:=k) (q:=6) rfl (E _) rfl) (decide_eq_true hk)) (rf_ [(52,.bool true)] (h5_ t1 t2 t3 t4 t10) ?_))
 rintro a A ⟨t52,-⟩ ⟨t1,t2,t3,t4,t10,-⟩
 refine wp_cond_true t52 ?_
 clear t52
 refine wp_seq ?_
 refine wi_ A (h5_ t1 t2 t3 t4 t10) (rv_ 0 (.pointer (some ⟨g4,1,none⟩)) (fun a E=>execOf1 rfl (E _)) (rv_ 1 (.int .i64 oa) (fun a E=>execLdG rfl (Or.inr (Or.inl rfl)) (E _) (oC_at Fg4).2.1) (rc_ 3 (rwithin oa 0 (((ops:Nat):Int)) X0) (cb_ fun X13 bQ=>?_))))
 replace Fg4:=(on9 Fg4 bQ)
 replace BB:=BB.trans (bQ.mono BB.size)
 clear bQ
 refine rg_ [(8,.bool (inB oa 0 ((ops:Nat):Int)))] ?_
 rintro a A ⟨t8,-⟩
 refine wp_ret ?_
 repeat (first | with_reducible refine ret_in ?_ | with_reducible refine ret_then ?_)
 refine bodyPost_ret (results_tmp rfl _ _ _) A.2 ⟨?_,BB⟩
 show Ending.returned (a.eval (.tmp 8))=_
 rw [t8,hr]
set_option maxRecDepth 100000 in
set_option maxHeartbeats 4000000 in
theorem rright_7t (k oa ob:Int) (ops d n:Nat) (V:World) (_hd:d<=1000000) (_hn:n<=1000000) (hk:k=7) (hA:inB oa 0 ((ops:Nat):Int)=true) :
  Calls Try.prog 34 #[.agg (oC k oa ob),.int .i64 ((ops:Nat):Int),.int .i64 ((d:Nat):Int),.int .i64 ((n:Nat):Int)] V fun e w'=>e=.returned (.bool (rgt ⟨k,oa,ob⟩ ops d n))/\Below V.heap.size V w':=by
 have hr:rgt ⟨k,oa,ob⟩ ops d n=inB ob (-1024) 1024:=by
  subst hk
  show (inB oa 0 ((ops:Nat):Int) && inB ob (-1024) 1024)=_
  rw [hA]
  rw [Bool.true_and]
 go_enter Try.func34,Try.ntmps34
 refine wo_ 79 [(0,.agg (oC k oa ob)),(1,.int .i64 ((ops:Nat):Int)),(2,.int .i64 ((d:Nat):Int)),(3,.int .i64 ((n:Nat):Int))] ?_
 rintro a A ⟨t0,t1,t2,t3,-⟩
 have BW:Below V.heap.size V V:=Below.refl _ _
 have BB:Below V.heap.size V V:=Below.refl _ _
 refine wp_seq ?_
 obtain ⟨g4,egg4⟩:∃ z_:Nat,V.heap.size=z_:=⟨_,rfl⟩
 refine wi_ A (h4_ t0 t1 t2 t3) (rs_ 0 (fun a E=>?_))
 refine stepV rfl rfl (execBxO rfl (E _)) ⟨.pointer (some ⟨g4,0,none⟩),⟨_,rfl,by subst egg4; rfl⟩,fun X0 hX=>?_⟩
 have bQ:Below V.heap.size V X0:=by subst hX egg4; exact (belNew V _)
 have Fg4:(X0.heap[g4]?=some (.cells (oC k oa ob) 59)):=by subst hX egg4; exact heapNew V _
 replace BB:=BB.trans (bQ.mono BB.size)
 clear bQ hX egg4 E a
 refine rf_ [(4,.pointer (some ⟨g4,0,none⟩))] (h3_ t1 t2 t3) ?_
 rintro a A ⟨t4,-⟩ ⟨t1,t2,t3,-⟩
 refine wp_seq (wp_seq ?_)
 refine wi_ A (h4_ t1 t2 t3 t4) (rv_ 0 (.pointer (some ⟨g4,0,none⟩)) (fun a E=>execOf0 rfl (E _)) (rv_ 1 (.int .i64 k) (fun a E=>execLdG rfl (Or.inr (Or.inl rfl)) (E _) (oC_at Fg4).1) (rf_ [(10,.int .i64 k)] (h4_ t1 t2 t3 t4) ?_)))
 rintro a A ⟨t10,-⟩ ⟨t1,t2,t3,t4,-⟩
 refine wp_block ?_
 refine wp_seq (wp_seq ?_)
 refine wi_ A (h5_ t1 t2 t3 t4 t10) (rv_ 0 (.bool false) (fun a E=>execDec (exIeql3 (p:=k) (q:=1) rfl (E _) rfl) (decide_eq_false (by omega))) (rf_ [(11,.bool false)] (h5_ t1 t2 t3 t4 t10) ?_))
 rintro a A ⟨t11,-⟩ ⟨t1,t2,t3,t4,t10,-⟩
 refine wp_cond_false t11 ?_
 clear t11
 refine wi_ A (h5_ t1 t2 t3 t4 t10) (rv_ 0 (.bool false) (fun a E=>execDec (exIeql3 (p:=k) (q:=3) rfl (E _) rfl) (decide_eq_false (by omega))) (rf_ [(11,.bool false)] (h5_ t1 t2 t3 t4 t10) ?_))
 rintro a A ⟨t11,-⟩ ⟨t1,t2,t3,t4,t10,-⟩
 refine wp_cond_false t11 ?_
 clear t11
 refine wp_seq ?_
 refine wi_ A (h5_ t1 t2 t3 t4 t10) (rv_ 0 (.bool false) (fun a E=>execDec (exIeql3 (p:=k) (q:=2) rfl (E _) rfl) (decide_eq_false (by omega))) (rf_ [(19,.bool false)] (h5_ t1 t2 t3 t4 t10) ?_))
 rintro a A ⟨t19,-⟩ ⟨t1,t2,t3,t4,t10,-⟩
 refine wp_cond_false t19 ?_
 clear t19
 refine wp_seq ?_
 refine wi_ A (h5_ t1 t2 t3 t4 t10) (rv_ 0 (.bool false) (fun a E=>execDec (exIeql3 (p:=k) (q:=8) rfl (E _) rfl) (decide_eq_false (by omega))) (rf_ [(32,.bool false)] (h5_ t1 t2 t3 t4 t10) ?_))
 rintro a A ⟨t32,-⟩ ⟨t1,t2,t3,t4,t10,-⟩
 refine wp_cond_false t32 ?_
 clear t32
 refine wp_seq (wp_seq ?_)
 refine wi_ A (h5_ t1 t2 t3 t4 t10) (rv_ 0 (.bool false) (fun a E=>execDec (exIeql3 (p:=k) (q:=4) rfl (E _) rfl) (decide_eq_false (by omega))) (rf_ [(46,.bool false)] (h5_ t1 t2 t3 t4 t10) ?_))
 rintro a A ⟨t46,-⟩ ⟨t1,t2,t3,t4,t10,-⟩
 refine wp_cond_false t46 ?_
 clear t46
 refine wi_ A (h5_ t1 t2 t3 t4 t10) (rv_ 0 (.bool false) (fun a E=>execDec (exIeql3 (p:=k) (q:=5) rfl (E _) rfl) (decide_eq_false (by omega))) (rf_ [(46,.bool false)] (h5_ t1 t2 t3 t4 t10) ?_))
 rintro a A ⟨t46,-⟩ ⟨t1,t2,t3,t4,t10,-⟩
 refine wp_cond_false t46 ?_
 clear t46
 refine wp_seq ?_
 refine wi_ A (h5_ t1 t2 t3 t4 t10) (rv_ 0 (.bool false) (fun a E=>execDec (exIeql3 (p:=k) (q:=6) rfl (E _) rfl) (decide_eq_false (by omega))) (rf_ [(52,.bool false)] (h5_ t1 t2 t3 t4 t10) ?_))
 rintro a A ⟨t52,-⟩ ⟨t1,t2,t3,t4,t10,-⟩
 refine wp_cond_false t52 ?_
 clear t52
 refine wp_seq ?_
 refine wi_ A (h5_ t1 t2 t3 t4 t10) (rv_ 0 (.bool true) (fun a E=>execDec (exIeql3 (p:=k) (q:=7) rfl (E _) rfl) (decide_eq_true hk)) (rf_ [(58,.bool true)] (h5_ t1 t2 t3 t4 t10) ?_))
 rintro a A ⟨t58,-⟩ ⟨t1,t2,t3,t4,t10,-⟩
 refine wp_cond_true t58 ?_
 clear t58
 refine wp_seq ?_
 refine wi_ A (h5_ t1 t2 t3 t4 t10) (rv_ 0 (.pointer (some ⟨g4,1,none⟩)) (fun a E=>execOf1 rfl (E _)) (rv_ 1 (.int .i64 oa) (fun a E=>execLdG rfl (Or.inr (Or.inl rfl)) (E _) (oC_at Fg4).2.1) (rc_ 3 ((hA ▸ rwithin oa 0 (((ops:Nat):Int)) X0)) (cb_ fun X15_1 bQ=>?_))))
 replace Fg4:=(on9 Fg4 bQ)
 replace BB:=BB.trans (bQ.mono BB.size)
 clear bQ
 refine rv_ 5 (.pointer (some ⟨g4,2,none⟩)) (fun a E=>execOf2 rfl (E _)) (rv_ 6 (.int .i64 ob) (fun a E=>execLdG rfl (Or.inr (Or.inl rfl)) (E _) (oC_at Fg4).2.2) (rc_ 7 (rwithin ob (-1024) (1024) X15_1) (cb_ fun X15 bQ=>?_)))
 replace Fg4:=(on9 Fg4 bQ)
 replace BB:=BB.trans (bQ.mono BB.size)
 clear bQ
 refine rg_ [(8,.bool (inB ob (-1024) 1024))] ?_
 rintro a A ⟨t8,-⟩
 refine wp_ret ?_
 repeat (first | with_reducible refine ret_in ?_ | with_reducible refine ret_then ?_)
 refine bodyPost_ret (results_tmp rfl _ _ _) A.2 ⟨?_,BB⟩
 show Ending.returned (a.eval (.tmp 8))=_
 rw [t8,hr]
set_option maxRecDepth 100000 in
set_option maxHeartbeats 4000000 in
theorem rright_7f (k oa ob:Int) (ops d n:Nat) (V:World) (_hd:d<=1000000) (_hn:n<=1000000) (hk:k=7) (hA:inB oa 0 ((ops:Nat):Int)=false) :
  Calls Try.prog 34 #[.agg (oC k oa ob),.int .i64 ((ops:Nat):Int),.int .i64 ((d:Nat):Int),.int .i64 ((n:Nat):Int)] V fun e w'=>e=.returned (.bool (rgt ⟨k,oa,ob⟩ ops d n))/\Below V.heap.size V w':=by
 have hr:rgt ⟨k,oa,ob⟩ ops d n=false:=by
  subst hk
  show (inB oa 0 ((ops:Nat):Int) && inB ob (-1024) 1024)=_
  rw [hA]
  rfl
 go_enter Try.func34,Try.ntmps34
 refine wo_ 79 [(0,.agg (oC k oa ob)),(1,.int .i64 ((ops:Nat):Int)),(2,.int .i64 ((d:Nat):Int)),(3,.int .i64 ((n:Nat):Int))] ?_
 rintro a A ⟨t0,t1,t2,t3,-⟩
 have BW:Below V.heap.size V V:=Below.refl _ _
 have BB:Below V.heap.size V V:=Below.refl _ _
 refine wp_seq ?_
 obtain ⟨g4,egg4⟩:∃ z_:Nat,V.heap.size=z_:=⟨_,rfl⟩
 refine wi_ A (h4_ t0 t1 t2 t3) (rs_ 0 (fun a E=>?_))
 refine stepV rfl rfl (execBxO rfl (E _)) ⟨.pointer (some ⟨g4,0,none⟩),⟨_,rfl,by subst egg4; rfl⟩,fun X0 hX=>?_⟩
 have bQ:Below V.heap.size V X0:=by subst hX egg4; exact (belNew V _)
 have Fg4:(X0.heap[g4]?=some (.cells (oC k oa ob) 59)):=by subst hX egg4; exact heapNew V _
 replace BB:=BB.trans (bQ.mono BB.size)
 clear bQ hX egg4 E a
 refine rf_ [(4,.pointer (some ⟨g4,0,none⟩))] (h3_ t1 t2 t3) ?_
 rintro a A ⟨t4,-⟩ ⟨t1,t2,t3,-⟩
 refine wp_seq (wp_seq ?_)
 refine wi_ A (h4_ t1 t2 t3 t4) (rv_ 0 (.pointer (some ⟨g4,0,none⟩)) (fun a E=>execOf0 rfl (E _)) (rv_ 1 (.int .i64 k) (fun a E=>execLdG rfl (Or.inr (Or.inl rfl)) (E _) (oC_at Fg4).1) (rf_ [(10,.int .i64 k)] (h4_ t1 t2 t3 t4) ?_)))
 rintro a A ⟨t10,-⟩ ⟨t1,t2,t3,t4,-⟩
 refine wp_block ?_
 refine wp_seq (wp_seq ?_)
 refine wi_ A (h5_ t1 t2 t3 t4 t10) (rv_ 0 (.bool false) (fun a E=>execDec (exIeql3 (p:=k) (q:=1) rfl (E _) rfl) (decide_eq_false (by omega))) (rf_ [(11,.bool false)] (h5_ t1 t2 t3 t4 t10) ?_))
 rintro a A ⟨t11,-⟩ ⟨t1,t2,t3,t4,t10,-⟩
 refine wp_cond_false t11 ?_
 clear t11
 refine wi_ A (h5_ t1 t2 t3 t4 t10) (rv_ 0 (.bool false) (fun a E=>execDec (exIeql3 (p:=k) (q:=3) rfl (E _) rfl) (decide_eq_false (by omega))) (rf_ [(11,.bool false)] (h5_ t1 t2 t3 t4 t10) ?_))
 rintro a A ⟨t11,-⟩ ⟨t1,t2,t3,t4,t10,-⟩
 refine wp_cond_false t11 ?_
 clear t11
 refine wp_seq ?_
 refine wi_ A (h5_ t1 t2 t3 t4 t10) (rv_ 0 (.bool false) (fun a E=>execDec (exIeql3 (p:=k) (q:=2) rfl (E _) rfl) (decide_eq_false (by omega))) (rf_ [(19,.bool false)] (h5_ t1 t2 t3 t4 t10) ?_))
 rintro a A ⟨t19,-⟩ ⟨t1,t2,t3,t4,t10,-⟩
 refine wp_cond_false t19 ?_
 clear t19
 refine wp_seq ?_
 refine wi_ A (h5_ t1 t2 t3 t4 t10) (rv_ 0 (.bool false) (fun a E=>execDec (exIeql3 (p:=k) (q:=8) rfl (E _) rfl) (decide_eq_false (by omega))) (rf_ [(32,.bool false)] (h5_ t1 t2 t3 t4 t10) ?_))
 rintro a A ⟨t32,-⟩ ⟨t1,t2,t3,t4,t10,-⟩
 refine wp_cond_false t32 ?_
 clear t32
 refine wp_seq (wp_seq ?_)
 refine wi_ A (h5_ t1 t2 t3 t4 t10) (rv_ 0 (.bool false) (fun a E=>execDec (exIeql3 (p:=k) (q:=4) rfl (E _) rfl) (decide_eq_false (by omega))) (rf_ [(46,.bool false)] (h5_ t1 t2 t3 t4 t10) ?_))
 rintro a A ⟨t46,-⟩ ⟨t1,t2,t3,t4,t10,-⟩
 refine wp_cond_false t46 ?_
 clear t46
 refine wi_ A (h5_ t1 t2 t3 t4 t10) (rv_ 0 (.bool false) (fun a E=>execDec (exIeql3 (p:=k) (q:=5) rfl (E _) rfl) (decide_eq_false (by omega))) (rf_ [(46,.bool false)] (h5_ t1 t2 t3 t4 t10) ?_))
 rintro a A ⟨t46,-⟩ ⟨t1,t2,t3,t4,t10,-⟩
 refine wp_cond_false t46 ?_
 clear t46
 refine wp_seq ?_
 refine wi_ A (h5_ t1 t2 t3 t4 t10) (rv_ 0 (.bool false) (fun a E=>execDec (exIeql3 (p:=k) (q:=6) rfl (E _) rfl) (decide_eq_false (by omega))) (rf_ [(52,.bool false)] (h5_ t1 t2 t3 t4 t10) ?_))
 rintro a A ⟨t52,-⟩ ⟨t1,t2,t3,t4,t10,-⟩
 refine wp_cond_false t52 ?_
 clear t52
 refine wp_seq ?_
 refine wi_ A (h5_ t1 t2 t3 t4 t10) (rv_ 0 (.bool true) (fun a E=>execDec (exIeql3 (p:=k) (q:=7) rfl (E _) rfl) (decide_eq_true hk)) (rf_ [(58,.bool true)] (h5_ t1 t2 t3 t4 t10) ?_))
 rintro a A ⟨t58,-⟩ ⟨t1,t2,t3,t4,t10,-⟩
 refine wp_cond_true t58 ?_
 clear t58
 refine wp_seq ?_
 refine wi_ A (h5_ t1 t2 t3 t4 t10) (rv_ 0 (.pointer (some ⟨g4,1,none⟩)) (fun a E=>execOf1 rfl (E _)) (rv_ 1 (.int .i64 oa) (fun a E=>execLdG rfl (Or.inr (Or.inl rfl)) (E _) (oC_at Fg4).2.1) (rc_ 3 ((hA ▸ rwithin oa 0 (((ops:Nat):Int)) X0)) (cb_ fun X15 bQ=>?_))))
 replace Fg4:=(on9 Fg4 bQ)
 replace BB:=BB.trans (bQ.mono BB.size)
 clear bQ
 refine rg_ [(8,.bool false)] ?_
 rintro a A ⟨t8,-⟩
 refine wp_ret ?_
 repeat (first | with_reducible refine ret_in ?_ | with_reducible refine ret_then ?_)
 refine bodyPost_ret (results_tmp rfl _ _ _) A.2 ⟨?_,BB⟩
 show Ending.returned (a.eval (.tmp 8))=_
 rw [t8,hr]
set_option maxRecDepth 100000 in
set_option maxHeartbeats 4000000 in
theorem rright_9 (k oa ob:Int) (ops d n:Nat) (V:World) (_hd:d<=1000000) (_hn:n<=1000000) (hk:k=9) :
  Calls Try.prog 34 #[.agg (oC k oa ob),.int .i64 ((ops:Nat):Int),.int .i64 ((d:Nat):Int),.int .i64 ((n:Nat):Int)] V fun e w'=>e=.returned (.bool (rgt ⟨k,oa,ob⟩ ops d n))/\Below V.heap.size V w':=by
 have hr:rgt ⟨k,oa,ob⟩ ops d n=inB oa 0 (((n:Nat):Int) - 1):=by
  subst hk
  rfl
 go_enter Try.func34,Try.ntmps34
 refine wo_ 79 [(0,.agg (oC k oa ob)),(1,.int .i64 ((ops:Nat):Int)),(2,.int .i64 ((d:Nat):Int)),(3,.int .i64 ((n:Nat):Int))] ?_
 rintro a A ⟨t0,t1,t2,t3,-⟩
 have BW:Below V.heap.size V V:=Below.refl _ _
 have BB:Below V.heap.size V V:=Below.refl _ _
 refine wp_seq ?_
 obtain ⟨g4,egg4⟩:∃ z_:Nat,V.heap.size=z_:=⟨_,rfl⟩
 refine wi_ A (h4_ t0 t1 t2 t3) (rs_ 0 (fun a E=>?_))
 refine stepV rfl rfl (execBxO rfl (E _)) ⟨.pointer (some ⟨g4,0,none⟩),⟨_,rfl,by subst egg4; rfl⟩,fun X0 hX=>?_⟩
 have bQ:Below V.heap.size V X0:=by subst hX egg4; exact (belNew V _)
 have Fg4:(X0.heap[g4]?=some (.cells (oC k oa ob) 59)):=by subst hX egg4; exact heapNew V _
 replace BB:=BB.trans (bQ.mono BB.size)
 clear bQ hX egg4 E a
 refine rf_ [(4,.pointer (some ⟨g4,0,none⟩))] (h3_ t1 t2 t3) ?_
 rintro a A ⟨t4,-⟩ ⟨t1,t2,t3,-⟩
 refine wp_seq (wp_seq ?_)
 refine wi_ A (h4_ t1 t2 t3 t4) (rv_ 0 (.pointer (some ⟨g4,0,none⟩)) (fun a E=>execOf0 rfl (E _)) (rv_ 1 (.int .i64 k) (fun a E=>execLdG rfl (Or.inr (Or.inl rfl)) (E _) (oC_at Fg4).1) (rf_ [(10,.int .i64 k)] (h4_ t1 t2 t3 t4) ?_)))
 rintro a A ⟨t10,-⟩ ⟨t1,t2,t3,t4,-⟩
 refine wp_block ?_
 refine wp_seq (wp_seq ?_)
 refine wi_ A (h5_ t1 t2 t3 t4 t10) (rv_ 0 (.bool false) (fun a E=>execDec (exIeql3 (p:=k) (q:=1) rfl (E _) rfl) (decide_eq_false (by omega))) (rf_ [(11,.bool false)] (h5_ t1 t2 t3 t4 t10) ?_))
 rintro a A ⟨t11,-⟩ ⟨t1,t2,t3,t4,t10,-⟩
 refine wp_cond_false t11 ?_
 clear t11
 refine wi_ A (h5_ t1 t2 t3 t4 t10) (rv_ 0 (.bool false) (fun a E=>execDec (exIeql3 (p:=k) (q:=3) rfl (E _) rfl) (decide_eq_false (by omega))) (rf_ [(11,.bool false)] (h5_ t1 t2 t3 t4 t10) ?_))
 rintro a A ⟨t11,-⟩ ⟨t1,t2,t3,t4,t10,-⟩
 refine wp_cond_false t11 ?_
 clear t11
 refine wp_seq ?_
 refine wi_ A (h5_ t1 t2 t3 t4 t10) (rv_ 0 (.bool false) (fun a E=>execDec (exIeql3 (p:=k) (q:=2) rfl (E _) rfl) (decide_eq_false (by omega))) (rf_ [(19,.bool false)] (h5_ t1 t2 t3 t4 t10) ?_))
 rintro a A ⟨t19,-⟩ ⟨t1,t2,t3,t4,t10,-⟩
 refine wp_cond_false t19 ?_
 clear t19
 refine wp_seq ?_
 refine wi_ A (h5_ t1 t2 t3 t4 t10) (rv_ 0 (.bool false) (fun a E=>execDec (exIeql3 (p:=k) (q:=8) rfl (E _) rfl) (decide_eq_false (by omega))) (rf_ [(32,.bool false)] (h5_ t1 t2 t3 t4 t10) ?_))
 rintro a A ⟨t32,-⟩ ⟨t1,t2,t3,t4,t10,-⟩
 refine wp_cond_false t32 ?_
 clear t32
 refine wp_seq (wp_seq ?_)
 refine wi_ A (h5_ t1 t2 t3 t4 t10) (rv_ 0 (.bool false) (fun a E=>execDec (exIeql3 (p:=k) (q:=4) rfl (E _) rfl) (decide_eq_false (by omega))) (rf_ [(46,.bool false)] (h5_ t1 t2 t3 t4 t10) ?_))
 rintro a A ⟨t46,-⟩ ⟨t1,t2,t3,t4,t10,-⟩
 refine wp_cond_false t46 ?_
 clear t46
 refine wi_ A (h5_ t1 t2 t3 t4 t10) (rv_ 0 (.bool false) (fun a E=>execDec (exIeql3 (p:=k) (q:=5) rfl (E _) rfl) (decide_eq_false (by omega))) (rf_ [(46,.bool false)] (h5_ t1 t2 t3 t4 t10) ?_))
 rintro a A ⟨t46,-⟩ ⟨t1,t2,t3,t4,t10,-⟩
 refine wp_cond_false t46 ?_
 clear t46
 refine wp_seq ?_
 refine wi_ A (h5_ t1 t2 t3 t4 t10) (rv_ 0 (.bool false) (fun a E=>execDec (exIeql3 (p:=k) (q:=6) rfl (E _) rfl) (decide_eq_false (by omega))) (rf_ [(52,.bool false)] (h5_ t1 t2 t3 t4 t10) ?_))
 rintro a A ⟨t52,-⟩ ⟨t1,t2,t3,t4,t10,-⟩
 refine wp_cond_false t52 ?_
 clear t52
 refine wp_seq ?_
 refine wi_ A (h5_ t1 t2 t3 t4 t10) (rv_ 0 (.bool false) (fun a E=>execDec (exIeql3 (p:=k) (q:=7) rfl (E _) rfl) (decide_eq_false (by omega))) (rf_ [(58,.bool false)] (h5_ t1 t2 t3 t4 t10) ?_))
 rintro a A ⟨t58,-⟩ ⟨t1,t2,t3,t4,t10,-⟩
 refine wp_cond_false t58 ?_
 clear t58
 refine wp_seq ?_
 refine wi_ A (h5_ t1 t2 t3 t4 t10) (rv_ 0 (.bool true) (fun a E=>execDec (exIeql3 (p:=k) (q:=9) rfl (E _) rfl) (decide_eq_true hk)) (rf_ [(69,.bool true)] (h5_ t1 t2 t3 t4 t10) ?_))
 rintro a A ⟨t69,-⟩ ⟨t1,t2,t3,t4,t10,-⟩
 refine wp_cond_true t69 ?_
 clear t69
 refine wp_seq ?_
 refine wi_ A (h5_ t1 t2 t3 t4 t10) (rv_ 0 (.pointer (some ⟨g4,1,none⟩)) (fun a E=>execOf1 rfl (E _)) (rv_ 1 (.int .i64 oa) (fun a E=>execLdG rfl (Or.inr (Or.inl rfl)) (E _) (oC_at Fg4).2.1) (rv_ 3 (.int .i64 (((n:Nat):Int) - 1)) (fun a E=>exSubZ (p:=((n:Nat):Int)) (q:=1) rfl (E _) rfl ⟨by omega,by omega⟩) (rc_ 4 (rwithin oa 0 (((n:Nat):Int) - 1) X0) (cb_ fun X17 bQ=>?_)))))
 replace Fg4:=(on9 Fg4 bQ)
 replace BB:=BB.trans (bQ.mono BB.size)
 clear bQ
 refine rg_ [(8,.bool (inB oa 0 (((n:Nat):Int) - 1)))] ?_
 rintro a A ⟨t8,-⟩
 refine wp_ret ?_
 repeat (first | with_reducible refine ret_in ?_ | with_reducible refine ret_then ?_)
 refine bodyPost_ret (results_tmp rfl _ _ _) A.2 ⟨?_,BB⟩
 show Ending.returned (a.eval (.tmp 8))=_
 rw [t8,hr]
set_option maxRecDepth 100000 in
set_option maxHeartbeats 4000000 in
theorem rright_0 (k oa ob:Int) (ops d n:Nat) (V:World) (_hd:d<=1000000) (_hn:n<=1000000) (hk:k ≠ 1/\k ≠ 2/\k ≠ 3/\k ≠ 4/\k ≠ 5/\k ≠ 6/\k ≠ 7/\k ≠ 8/\k ≠ 9) :
  Calls Try.prog 34 #[.agg (oC k oa ob),.int .i64 ((ops:Nat):Int),.int .i64 ((d:Nat):Int),.int .i64 ((n:Nat):Int)] V fun e w'=>e=.returned (.bool (rgt ⟨k,oa,ob⟩ ops d n))/\Below V.heap.size V w':=by
 have hr:rgt ⟨k,oa,ob⟩ ops d n=decide (k=10):=by
  unfold rgt
  rw [if_neg (by show ¬ (k=1\/k=3); omega),if_neg (by show ¬ k=2; omega),if_neg (by show ¬ k=8; omega),if_neg (by show ¬ (k=4\/k=5); omega),if_neg (by show ¬ k=6; omega),if_neg (by show ¬ k=7; omega),if_neg (by show ¬ k=9; omega)]
 go_enter Try.func34,Try.ntmps34
 refine wo_ 79 [(0,.agg (oC k oa ob)),(1,.int .i64 ((ops:Nat):Int)),(2,.int .i64 ((d:Nat):Int)),(3,.int .i64 ((n:Nat):Int))] ?_
 rintro a A ⟨t0,t1,t2,t3,-⟩
 have BW:Below V.heap.size V V:=Below.refl _ _
 have BB:Below V.heap.size V V:=Below.refl _ _
 refine wp_seq ?_
 obtain ⟨g4,egg4⟩:∃ z_:Nat,V.heap.size=z_:=⟨_,rfl⟩
 refine wi_ A (h4_ t0 t1 t2 t3) (rs_ 0 (fun a E=>?_))
 refine stepV rfl rfl (execBxO rfl (E _)) ⟨.pointer (some ⟨g4,0,none⟩),⟨_,rfl,by subst egg4; rfl⟩,fun X0 hX=>?_⟩
 have bQ:Below V.heap.size V X0:=by subst hX egg4; exact (belNew V _)
 have Fg4:(X0.heap[g4]?=some (.cells (oC k oa ob) 59)):=by subst hX egg4; exact heapNew V _
 replace BB:=BB.trans (bQ.mono BB.size)
 clear bQ hX egg4 E a
 refine rf_ [(4,.pointer (some ⟨g4,0,none⟩))] (h3_ t1 t2 t3) ?_
 rintro a A ⟨t4,-⟩ ⟨t1,t2,t3,-⟩
 refine wp_seq (wp_seq ?_)
 refine wi_ A (h4_ t1 t2 t3 t4) (rv_ 0 (.pointer (some ⟨g4,0,none⟩)) (fun a E=>execOf0 rfl (E _)) (rv_ 1 (.int .i64 k) (fun a E=>execLdG rfl (Or.inr (Or.inl rfl)) (E _) (oC_at Fg4).1) (rf_ [(10,.int .i64 k)] (h4_ t1 t2 t3 t4) ?_)))
 rintro a A ⟨t10,-⟩ ⟨t1,t2,t3,t4,-⟩
 refine wp_block ?_
 refine wp_seq (wp_seq ?_)
 refine wi_ A (h5_ t1 t2 t3 t4 t10) (rv_ 0 (.bool false) (fun a E=>execDec (exIeql3 (p:=k) (q:=1) rfl (E _) rfl) (decide_eq_false (by omega))) (rf_ [(11,.bool false)] (h5_ t1 t2 t3 t4 t10) ?_))
 rintro a A ⟨t11,-⟩ ⟨t1,t2,t3,t4,t10,-⟩
 refine wp_cond_false t11 ?_
 clear t11
 refine wi_ A (h5_ t1 t2 t3 t4 t10) (rv_ 0 (.bool false) (fun a E=>execDec (exIeql3 (p:=k) (q:=3) rfl (E _) rfl) (decide_eq_false (by omega))) (rf_ [(11,.bool false)] (h5_ t1 t2 t3 t4 t10) ?_))
 rintro a A ⟨t11,-⟩ ⟨t1,t2,t3,t4,t10,-⟩
 refine wp_cond_false t11 ?_
 clear t11
 refine wp_seq ?_
 refine wi_ A (h5_ t1 t2 t3 t4 t10) (rv_ 0 (.bool false) (fun a E=>execDec (exIeql3 (p:=k) (q:=2) rfl (E _) rfl) (decide_eq_false (by omega))) (rf_ [(19,.bool false)] (h5_ t1 t2 t3 t4 t10) ?_))
 rintro a A ⟨t19,-⟩ ⟨t1,t2,t3,t4,t10,-⟩
 refine wp_cond_false t19 ?_
 clear t19
 refine wp_seq ?_
 refine wi_ A (h5_ t1 t2 t3 t4 t10) (rv_ 0 (.bool false) (fun a E=>execDec (exIeql3 (p:=k) (q:=8) rfl (E _) rfl) (decide_eq_false (by omega))) (rf_ [(32,.bool false)] (h5_ t1 t2 t3 t4 t10) ?_))
 rintro a A ⟨t32,-⟩ ⟨t1,t2,t3,t4,t10,-⟩
 refine wp_cond_false t32 ?_
 clear t32
 refine wp_seq (wp_seq ?_)
 refine wi_ A (h5_ t1 t2 t3 t4 t10) (rv_ 0 (.bool false) (fun a E=>execDec (exIeql3 (p:=k) (q:=4) rfl (E _) rfl) (decide_eq_false (by omega))) (rf_ [(46,.bool false)] (h5_ t1 t2 t3 t4 t10) ?_))
 rintro a A ⟨t46,-⟩ ⟨t1,t2,t3,t4,t10,-⟩
 refine wp_cond_false t46 ?_
 clear t46
 refine wi_ A (h5_ t1 t2 t3 t4 t10) (rv_ 0 (.bool false) (fun a E=>execDec (exIeql3 (p:=k) (q:=5) rfl (E _) rfl) (decide_eq_false (by omega))) (rf_ [(46,.bool false)] (h5_ t1 t2 t3 t4 t10) ?_))
 rintro a A ⟨t46,-⟩ ⟨t1,t2,t3,t4,t10,-⟩
 refine wp_cond_false t46 ?_
 clear t46
 refine wp_seq ?_
 refine wi_ A (h5_ t1 t2 t3 t4 t10) (rv_ 0 (.bool false) (fun a E=>execDec (exIeql3 (p:=k) (q:=6) rfl (E _) rfl) (decide_eq_false (by omega))) (rf_ [(52,.bool false)] (h5_ t1 t2 t3 t4 t10) ?_))
 rintro a A ⟨t52,-⟩ ⟨t1,t2,t3,t4,t10,-⟩
 refine wp_cond_false t52 ?_
 clear t52
 refine wp_seq ?_
 refine wi_ A (h5_ t1 t2 t3 t4 t10) (rv_ 0 (.bool false) (fun a E=>execDec (exIeql3 (p:=k) (q:=7) rfl (E _) rfl) (decide_eq_false (by omega))) (rf_ [(58,.bool false)] (h5_ t1 t2 t3 t4 t10) ?_))
 rintro a A ⟨t58,-⟩ ⟨t1,t2,t3,t4,t10,-⟩
 refine wp_cond_false t58 ?_
 clear t58
 refine wp_seq ?_
 refine wi_ A (h5_ t1 t2 t3 t4 t10) (rv_ 0 (.bool false) (fun a E=>execDec (exIeql3 (p:=k) (q:=9) rfl (E _) rfl) (decide_eq_false (by omega))) (rf_ [(69,.bool false)] (h5_ t1 t2 t3 t4 t10) ?_))
 rintro a A ⟨t69,-⟩ ⟨t1,t2,t3,t4,t10,-⟩
 refine wp_cond_false t69 ?_
 clear t69
 refine wp_skip ?_
 refine wp_seq ?_
 refine wi_ A (h5_ t1 t2 t3 t4 t10) (rv_ 0 (.pointer (some ⟨g4,0,none⟩)) (fun a E=>execOf0 rfl (E _)) (rv_ 1 (.int .i64 k) (fun a E=>execLdG rfl (Or.inr (Or.inl rfl)) (E _) (oC_at Fg4).1) (rv_ 2 (.bool (decide (k=10))) (fun a E=>exIeql3 (p:=k) (q:=10) rfl (E _) rfl) (rg_ [(8,.bool (decide (k=10)))] ?_))))
 rintro a A ⟨t8,-⟩
 refine wp_ret ?_
 refine bodyPost_ret (results_tmp rfl _ _ _) A.2 ⟨?_,BB⟩
 show Ending.returned (a.eval (.tmp 8))=_
 rw [t8,hr]
theorem rright (k oa ob:Int) (ops d n:Nat) (V:World) (hd:d<=1000000) (hn:n<=1000000):Calls Try.prog 34 #[.agg (oC k oa ob),.int .i64 ((ops:Nat):Int),.int .i64 ((d:Nat):Int),.int .i64 ((n:Nat):Int)] V fun e w'=>e=.returned (.bool (rgt ⟨k,oa,ob⟩ ops d n))/\Below V.heap.size V w':=by
 by_cases h1:k=1
 ·exact rright_1 k oa ob ops d n V hd hn h1
 by_cases h3:k=3
 ·exact rright_3 k oa ob ops d n V hd hn h3
 by_cases h2:k=2
 ·cases hA:inB oa 0 (((d:Nat):Int) - 1) with
  | true=>exact rright_2t k oa ob ops d n V hd hn h2 hA
  | false=>exact rright_2f k oa ob ops d n V hd hn h2 hA
 by_cases h8:k=8
 ·cases hA:inB oa 0 (((d:Nat):Int) - 1) with
  | true=>exact rright_8t k oa ob ops d n V hd hn h8 hA
  | false=>exact rright_8f k oa ob ops d n V hd hn h8 hA
 by_cases h4:k=4
 ·exact rright_4 k oa ob ops d n V hd hn h4
 by_cases h5:k=5
 ·exact rright_5 k oa ob ops d n V hd hn h5
 by_cases h6:k=6
 ·exact rright_6 k oa ob ops d n V hd hn h6
 by_cases h7:k=7
 ·cases hA:inB oa 0 ((ops:Nat):Int) with
  | true=>exact rright_7t k oa ob ops d n V hd hn h7 hA
  | false=>exact rright_7f k oa ob ops d n V hd hn h7 hA
 by_cases h9:k=9
 ·exact rright_9 k oa ob ops d n V hd hn h9
 exact rright_0 k oa ob ops d n V hd hn ⟨h1,h2,h3,h4,h5,h6,h7,h8,h9⟩
end Go.Proofs.Ytjjegmflllpknaa.Loo
