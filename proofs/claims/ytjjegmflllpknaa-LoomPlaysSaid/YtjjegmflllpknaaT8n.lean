import Derived.Test.YtjjegmflllpknaaT8m
import Derived.Test.YtjjegmflllpknaaN8d
namespace Go.Proofs.Ytjjegmflllpknaa.Loo
open Go.RowKit Gf8 Aes By8 Cel Cf Win Drw Prm
/- LoomPlays: the reference's at, meets, spent, ready. Written by tools/mkT8n.py. -/
section
variable {o:Oper} {a:Act} {w:World}
theorem execRo0 {x:Operand} {b:Nat} (ho:o.op=.fieldAddr 57 x 0) (hx:a.eval x=.pointer (some ⟨b,0,none⟩)):(execOp a.eval o).run Try.prog w=.ok (.value (.pointer (some ⟨b,0,none⟩))) w:=by
 unfold execOp
 simp only [ho,hx]
 simp [go_sem]
theorem execRo1 {x:Operand} {b:Nat} (ho:o.op=.fieldAddr 57 x 1) (hx:a.eval x=.pointer (some ⟨b,0,none⟩)):(execOp a.eval o).run Try.prog w=.ok (.value (.pointer (some ⟨b,2,none⟩))) w:=by
 unfold execOp
 simp only [ho,hx]
 simp [go_sem]
theorem execRo2 {x:Operand} {b:Nat} (ho:o.op=.fieldAddr 57 x 2) (hx:a.eval x=.pointer (some ⟨b,0,none⟩)):(execOp a.eval o).run Try.prog w=.ok (.value (.pointer (some ⟨b,3,none⟩))) w:=by
 unfold execOp
 simp only [ho,hx]
 simp [go_sem]
theorem execRo3 {x:Operand} {b:Nat} (ho:o.op=.fieldAddr 57 x 3) (hx:a.eval x=.pointer (some ⟨b,0,none⟩)):(execOp a.eval o).run Try.prog w=.ok (.value (.pointer (some ⟨b,4,none⟩))) w:=by
 unfold execOp
 simp only [ho,hx]
 simp [go_sem]
theorem execRo4 {x:Operand} {b:Nat} (ho:o.op=.fieldAddr 57 x 4) (hx:a.eval x=.pointer (some ⟨b,0,none⟩)):(execOp a.eval o).run Try.prog w=.ok (.value (.pointer (some ⟨b,5,none⟩))) w:=by
 unfold execOp
 simp only [ho,hx]
 simp [go_sem]
theorem execRo5 {x:Operand} {b:Nat} (ho:o.op=.fieldAddr 57 x 5) (hx:a.eval x=.pointer (some ⟨b,0,none⟩)):(execOp a.eval o).run Try.prog w=.ok (.value (.pointer (some ⟨b,6,none⟩))) w:=by
 unfold execOp
 simp only [ho,hx]
 simp [go_sem]
theorem execRo6 {x:Operand} {b:Nat} (ho:o.op=.fieldAddr 57 x 6) (hx:a.eval x=.pointer (some ⟨b,0,none⟩)):(execOp a.eval o).run Try.prog w=.ok (.value (.pointer (some ⟨b,7,none⟩))) w:=by
 unfold execOp
 simp only [ho,hx]
 simp [go_sem]
theorem execRo7 {x:Operand} {b:Nat} (ho:o.op=.fieldAddr 57 x 7) (hx:a.eval x=.pointer (some ⟨b,0,none⟩)):(execOp a.eval o).run Try.prog w=.ok (.value (.pointer (some ⟨b,8,none⟩))) w:=by
 unfold execOp
 simp only [ho,hx]
 simp [go_sem]
theorem execRo8 {x:Operand} {b:Nat} (ho:o.op=.fieldAddr 57 x 8) (hx:a.eval x=.pointer (some ⟨b,0,none⟩)):(execOp a.eval o).run Try.prog w=.ok (.value (.pointer (some ⟨b,9,none⟩))) w:=by
 unfold execOp
 simp only [ho,hx]
 simp [go_sem]
theorem execRo9 {x:Operand} {b:Nat} (ho:o.op=.fieldAddr 57 x 9) (hx:a.eval x=.pointer (some ⟨b,0,none⟩)):(execOp a.eval o).run Try.prog w=.ok (.value (.pointer (some ⟨b,10,none⟩))) w:=by
 unfold execOp
 simp only [ho,hx]
 simp [go_sem]
theorem execLr {t:TypeId} {x:Operand} {b k:Nat} {v:Value} (ho:o.op=.load t x) (ht:t=3\/t=4\/t=22\/t=43\/t=27\/t=23\/t=79) (hx:a.eval x=.pointer (some ⟨b,k,none⟩)) (hc:w.cell? ⟨b,k,none⟩=some v):(execOp a.eval o).run Try.prog w=.ok (.value v) w:=by
 unfold execOp
 rcases ht with rfl | rfl | rfl | rfl | rfl | rfl | rfl <;> (simp only [ho,hx]; simp [go_sem,hc])
theorem execBdO0 (ho:o.op=.build 59 #[]):(execOp a.eval o).run Try.prog w=.ok (.value (.agg (oC 0 0 0))) w:=by
 unfold execOp
 simp only [ho,List.map_toArray,List.map_nil]
 kernel_rfl
end
structure PlV (U:World) (cv tz:Value) (xz:Nat->Value) (p:Pl):Prop where
 c:SliceI U cv p.d p.cap
 t:SliceV U tz p.n xz
 o:∀ t,t < p.n->SliceO U (xz t) (p.ln t) (p.op t)
theorem PlV.on {U V:World} {cv tz:Value} {xz:Nat->Value} {p:Pl} (h:PlV U cv tz xz p) (b:Below U.heap.size U V):PlV V cv tz xz p:=⟨h.c.on b,h.t.on b,fun t ht=>(h.o t ht).on b⟩
set_option maxRecDepth 100000 in
set_option maxHeartbeats 4000000 in
theorem rat (B:Nat) (q:RK) (p:Pl) (cv tz:Value) (xz:Nat->Value) (r:Rm) (gv kv:Nat->Int) (tv hv:Nat->Value) (ow:Nat->Nat) (V:World) (hp:PlV V cv tz xz p) (h:RmM B V q p cv tz r gv kv tv hv ow) (t:Nat) (ht:t < p.n) :
  Calls Try.prog 21 #[.pointer (some ⟨q.g,0,none⟩),.int .i64 ((t:Nat):Int)] V fun e w'=>e=.returned (.agg (oC (at_ p r t).k (at_ p r t).a (at_ p r t).b))/\Below V.heap.size V w':=by
 cases he:r.en t with
 | true=>
  have ha:at_ p r t=⟨0,0,0⟩:=by unfold at_ gone; rw [he,Bool.true_or,if_pos rfl]
  go_enter Try.func21,Try.ntmps21
  refine wo_ 49 [(0,.pointer (some ⟨q.g,0,none⟩)),(1,.int .i64 ((t:Nat):Int))] ?_
  rintro a A ⟨t0,t1,-⟩
  have BW:Below V.heap.size V V:=Below.refl _ _
  have BB:Below V.heap.size V V:=Below.refl _ _
  refine wp_seq ?_
  obtain ⟨g4,egg4⟩:∃ z_:Nat,V.heap.size=z_:=⟨_,rfl⟩
  refine wi_ A (h2_ t0 t1) (rs_ 0 (fun a E=>?_))
  refine stepV rfl rfl (execAlO rfl) ⟨.pointer (some ⟨g4,0,none⟩),⟨_,rfl,by subst egg4; rfl⟩,fun X0 hX=>?_⟩
  have bQ:Below V.heap.size V X0:=by subst hX egg4; exact (belNew V _)
  have F4:(X0.heap[g4]?=some (.cells (oC 0 0 0) 59)):=by subst hX egg4; exact heapNew V _
  have Fg4:(V.heap.size<=g4):=by subst hX egg4; exact (BB).size
  replace BB:=BB.trans (bQ.mono BB.size)
  clear bQ hX egg4 E a
  refine rf_ [(4,.pointer (some ⟨g4,0,none⟩))] (h2_ t0 t1) ?_
  rintro a A ⟨t4,-⟩ ⟨t0,t1,-⟩
  obtain ⟨tb,to_,tc,etz⟩:=hp.t.open (by omega)
  refine wp_seq (wp_seq ?_)
  refine wj_ [0,1,2,3,4,5,6,7,8,9,10,11,12,13,14,15,16,17,18,19,20,21,22,23,24,25] [] [3,6] [] A (h3_ t0 t1 t4) (fun X1 bD=>?_)
  refine dw_ 1 (.pointer (some ⟨q.g,0,none⟩)) (fun a X E=>execNlm rfl (E _)) (dw_ 2 (.pointer (some ⟨q.g,4,none⟩)) (fun a X E=>execRo3 rfl (E _)) (dv_ 3 (sl0 q.E p.n) (fun a X E hb=>execLr rfl (Or.inr (Or.inr (Or.inr (Or.inl rfl)))) (E _) (gR_at (h.on (BB.trans (hb.mono BB.size)))).2.2.2.2.1) (dw_ 5 (.pointer (some ⟨q.E,0+t,none⟩)) (fun a X E=>execIxBo (k:=t) rfl (E _) (E _) ht) (dv_ 6 (.bool true) (fun a X E hb=>execLr rfl (Or.inr (Or.inl rfl)) (E _) ((rA_c (h.on (BB.trans (hb.mono BB.size))).hE ht).trans (by rw [he]))) (dz_ [(30,.bool true)] (h3_ t0 t1 t4) ?_)))))
  rintro a A ⟨t30,-⟩ ⟨t0,t1,t4,-⟩
  replace F4:=(on9 F4 bD)
  replace BB:=BB.trans (bD.mono BB.size)
  clear bD
  refine wp_cond_true t30 ?_
  clear t30
  refine wp_seq ?_
  refine wi_ A (h3_ t0 t1 t4) (rv_ 0 (.agg (oC 0 0 0)) (fun a E=>execBdO0 rfl) (rs_ 1 (fun a E=>?_)))
  refine stepS rfl rfl (execStO rfl (E _) (E _) F4) ⟨_,⟨_,rfl,rfl⟩,fun X2 hX=>?_⟩
  obtain ⟨BB,F4s⟩:Below V.heap.size V X2/\(X2.heap[g4]?=some (.cells (oC 0 0 0) 59)):=by subst hX; exact ⟨below4 BB Fg4 _,setRow_heap _ _ _ _ _ _ F4⟩
  clear F4 hX E a
  refine rf_ [] (h1_ t4) ?_
  rintro a A - ⟨t4,-⟩
  refine wp_ret ?_
  repeat (first | with_reducible refine ret_in ?_ | with_reducible refine ret_then ?_)
  refine bodyPost_ret (res_c0 _ _ g4 59 _ (0,0) _ Try.results21 t4 F4s Try.underlying59 rfl (by show _=some 3; kernel_rfl)) A.2 ⟨?_,BB⟩
  rw [ha]
 | false=>
  by_cases hpl:r.pl t < p.ln t
  ·have ha:at_ p r t=p.op t (r.pl t):=by unfold at_ gone; rw [he,Bool.false_or,if_neg (by rw [decide_eq_false (by omega)]; decide)]
   go_enter Try.func21,Try.ntmps21
   refine wo_ 49 [(0,.pointer (some ⟨q.g,0,none⟩)),(1,.int .i64 ((t:Nat):Int))] ?_
   rintro a A ⟨t0,t1,-⟩
   have BW:Below V.heap.size V V:=Below.refl _ _
   have BB:Below V.heap.size V V:=Below.refl _ _
   refine wp_seq ?_
   obtain ⟨g4,egg4⟩:∃ z_:Nat,V.heap.size=z_:=⟨_,rfl⟩
   refine wi_ A (h2_ t0 t1) (rs_ 0 (fun a E=>?_))
   refine stepV rfl rfl (execAlO rfl) ⟨.pointer (some ⟨g4,0,none⟩),⟨_,rfl,by subst egg4; rfl⟩,fun X0 hX=>?_⟩
   have bQ:Below V.heap.size V X0:=by subst hX egg4; exact (belNew V _)
   have F4:(X0.heap[g4]?=some (.cells (oC 0 0 0) 59)):=by subst hX egg4; exact heapNew V _
   have Fg4:(V.heap.size<=g4):=by subst hX egg4; exact (BB).size
   replace BB:=BB.trans (bQ.mono BB.size)
   clear bQ hX egg4 E a
   refine rf_ [(4,.pointer (some ⟨g4,0,none⟩))] (h2_ t0 t1) ?_
   rintro a A ⟨t4,-⟩ ⟨t0,t1,-⟩
   obtain ⟨tb,to_,tc,etz⟩:=hp.t.open (by omega)
   refine wp_seq (wp_seq ?_)
   refine wj_ [0,1,2,3,4,5,6,7,8,9,10,11,12,13,14,15,16,17,18,19,20,21,22,23,24,25] [] [3,6,11,14,19,22] [] A (h3_ t0 t1 t4) (fun X1 bD=>?_)
   refine dw_ 1 (.pointer (some ⟨q.g,0,none⟩)) (fun a X E=>execNlm rfl (E _)) (dw_ 2 (.pointer (some ⟨q.g,4,none⟩)) (fun a X E=>execRo3 rfl (E _)) (dv_ 3 (sl0 q.E p.n) (fun a X E hb=>execLr rfl (Or.inr (Or.inr (Or.inr (Or.inl rfl)))) (E _) (gR_at (h.on (BB.trans (hb.mono BB.size)))).2.2.2.2.1) (dw_ 5 (.pointer (some ⟨q.E,0+t,none⟩)) (fun a X E=>execIxBo (k:=t) rfl (E _) (E _) ht) (dv_ 6 (.bool false) (fun a X E hb=>execLr rfl (Or.inr (Or.inl rfl)) (E _) ((rA_c (h.on (BB.trans (hb.mono BB.size))).hE ht).trans (by rw [he]))) (dw_ 9 (.pointer (some ⟨q.g,0,none⟩)) (fun a X E=>execNlm rfl (E _)) (dw_ 10 (.pointer (some ⟨q.g,2,none⟩)) (fun a X E=>execRo1 rfl (E _)) (dv_ 11 (sl0 q.P p.n) (fun a X E hb=>execLr rfl (Or.inr (Or.inr (Or.inl rfl))) (E _) (gR_at (h.on (BB.trans (hb.mono BB.size)))).2.2.1) (dw_ 13 (.pointer (some ⟨q.P,0+t,none⟩)) (fun a X E=>execIdxN (k:=t) rfl (E _) (E _) ht) (dv_ 14 (.int .i64 ((r.pl t:Nat):Int)) (fun a X E hb=>execLr rfl (Or.inl rfl) (E _) (rA_c (h.on (BB.trans (hb.mono BB.size))).hP ht)) (dw_ 16 (.pointer (some ⟨q.g,0,none⟩)) (fun a X E=>execNlm rfl (E _)) (dw_ 17 (.pointer (some ⟨q.g,0,none⟩)) (fun a X E=>execRo0 rfl (E _)) (dw_ 18 (.pointer (some ⟨q.g,1,none⟩)) (fun a X E=>execPf1 rfl (E _)) (dv_ 19 (tz) (fun a X E hb=>execLr rfl (Or.inr (Or.inr (Or.inr (Or.inr (Or.inr (Or.inl rfl)))))) (E _) (gR_at (h.on (BB.trans (hb.mono BB.size)))).2.1) (dw_ 21 (.pointer (some ⟨tb,to_+t,none⟩)) (fun a X E=>execIxOO (k:=t) rfl ((E _).trans etz) (E _) ht) (dv_ 22 (xz t) (fun a X E hb=>execLr rfl (Or.inr (Or.inr (Or.inr (Or.inr (Or.inr (Or.inr (rfl))))))) (E _) (SliceV.at (hp.on (BB.trans (hb.mono BB.size))).t etz ht)) (dw_ 23 (.int .i64 ((p.ln t:Nat):Int)) (fun a X E=>execLnOs (len:=p.ln t) rfl (E _) (hp.o t ht).shp) (dw_ 24 (.bool false) (fun a X E=>execDec (exIgeq3 (p:=((r.pl t:Nat):Int)) (q:=((p.ln t:Nat):Int)) rfl (E _) (E _)) (decide_eq_false (by omega))) (dz_ [(30,.bool false)] (h3_ t0 t1 t4) ?_))))))))))))))))))
   rintro a A ⟨t30,-⟩ ⟨t0,t1,t4,-⟩
   replace F4:=(on9 F4 bD)
   replace BB:=BB.trans (bD.mono BB.size)
   clear bD
   refine wp_cond_false t30 (wp_skip ?_)
   clear t30
   obtain ⟨ob,oo,oc,eo⟩:=(hp.o t ht).open (by omega)
   refine wp_seq ?_
   refine wj_ [0,1,2,3,4,5,6,7,8,9,10,11,12,13,14,15,16,17] [17] [4,7,11,14,16] [17] A (h3_ t0 t1 t4) (fun X3_0 bD=>?_)
   refine dw_ 1 (.pointer (some ⟨q.g,0,none⟩)) (fun a X E=>execNlm rfl (E _)) (dw_ 2 (.pointer (some ⟨q.g,0,none⟩)) (fun a X E=>execRo0 rfl (E _)) (dw_ 3 (.pointer (some ⟨q.g,1,none⟩)) (fun a X E=>execPf1 rfl (E _)) (dv_ 4 (tz) (fun a X E hb=>execLr rfl (Or.inr (Or.inr (Or.inr (Or.inr (Or.inr (Or.inl rfl)))))) (E _) (gR_at (h.on (BB.trans (hb.mono BB.size)))).2.1) (dw_ 6 (.pointer (some ⟨tb,to_+t,none⟩)) (fun a X E=>execIxOO (k:=t) rfl ((E _).trans etz) (E _) ht) (dv_ 7 (xz t) (fun a X E hb=>execLr rfl (Or.inr (Or.inr (Or.inr (Or.inr (Or.inr (Or.inr (rfl))))))) (E _) (SliceV.at (hp.on (BB.trans (hb.mono BB.size))).t etz ht)) (dw_ 9 (.pointer (some ⟨q.g,0,none⟩)) (fun a X E=>execNlm rfl (E _)) (dw_ 10 (.pointer (some ⟨q.g,2,none⟩)) (fun a X E=>execRo1 rfl (E _)) (dv_ 11 (sl0 q.P p.n) (fun a X E hb=>execLr rfl (Or.inr (Or.inr (Or.inl rfl))) (E _) (gR_at (h.on (BB.trans (hb.mono BB.size)))).2.2.1) (dw_ 13 (.pointer (some ⟨q.P,0+t,none⟩)) (fun a X E=>execIdxN (k:=t) rfl (E _) (E _) ht) (dv_ 14 (.int .i64 ((r.pl t:Nat):Int)) (fun a X E hb=>execLr rfl (Or.inl rfl) (E _) (rA_c (h.on (BB.trans (hb.mono BB.size))).hP ht)) (dw_ 15 (.pointer (some ⟨ob,oo+(r.pl t) * 3,none⟩)) (fun a X E=>execIxOs (k:=r.pl t) rfl ((E _).trans eo) (E _) hpl) (dv_ 16 (.agg (oC (p.op t (r.pl t)).k (p.op t (r.pl t)).a (p.op t (r.pl t)).b)) (fun a X E hb=>execLdO rfl (E _) (SliceO.at ((hp.on (BB.trans (hb.mono BB.size))).o t ht) eo hpl)) (ds_ 17 (fun a E=>?_))))))))))))))
   refine stepS rfl rfl (execStO rfl (E _) (E _) (on9 F4 bD)) ⟨_,⟨_,rfl,rfl⟩,fun X3 hX=>?_⟩
   obtain ⟨BB,F4s⟩:Below V.heap.size V X3/\(X3.heap[g4]?=some (.cells (oC (p.op t (r.pl t)).k (p.op t (r.pl t)).a (p.op t (r.pl t)).b) 59)):=by subst hX; exact ⟨below4 (BB.trans (bD.mono BB.size)) Fg4 _,setRow_heap _ _ _ _ _ _ (on9 F4 bD)⟩
   clear bD F4 hX E a
   refine ⟨Or.inl rfl,?_⟩
   refine dz_ [] (h1_ t4) ?_
   rintro a A - ⟨t4,-⟩
   refine wp_ret ?_
   repeat (first | with_reducible refine ret_in ?_ | with_reducible refine ret_then ?_)
   refine bodyPost_ret (res_c0 _ _ g4 59 _ (0,0) _ Try.results21 t4 F4s Try.underlying59 rfl (by show _=some 3; kernel_rfl)) A.2 ⟨?_,BB⟩
   rw [ha]
  ·have ha:at_ p r t=⟨0,0,0⟩:=by unfold at_ gone; rw [he,Bool.false_or,if_pos (decide_eq_true (by omega))]
   go_enter Try.func21,Try.ntmps21
   refine wo_ 49 [(0,.pointer (some ⟨q.g,0,none⟩)),(1,.int .i64 ((t:Nat):Int))] ?_
   rintro a A ⟨t0,t1,-⟩
   have BW:Below V.heap.size V V:=Below.refl _ _
   have BB:Below V.heap.size V V:=Below.refl _ _
   refine wp_seq ?_
   obtain ⟨g4,egg4⟩:∃ z_:Nat,V.heap.size=z_:=⟨_,rfl⟩
   refine wi_ A (h2_ t0 t1) (rs_ 0 (fun a E=>?_))
   refine stepV rfl rfl (execAlO rfl) ⟨.pointer (some ⟨g4,0,none⟩),⟨_,rfl,by subst egg4; rfl⟩,fun X0 hX=>?_⟩
   have bQ:Below V.heap.size V X0:=by subst hX egg4; exact (belNew V _)
   have F4:(X0.heap[g4]?=some (.cells (oC 0 0 0) 59)):=by subst hX egg4; exact heapNew V _
   have Fg4:(V.heap.size<=g4):=by subst hX egg4; exact (BB).size
   replace BB:=BB.trans (bQ.mono BB.size)
   clear bQ hX egg4 E a
   refine rf_ [(4,.pointer (some ⟨g4,0,none⟩))] (h2_ t0 t1) ?_
   rintro a A ⟨t4,-⟩ ⟨t0,t1,-⟩
   obtain ⟨tb,to_,tc,etz⟩:=hp.t.open (by omega)
   refine wp_seq (wp_seq ?_)
   refine wj_ [0,1,2,3,4,5,6,7,8,9,10,11,12,13,14,15,16,17,18,19,20,21,22,23,24,25] [] [3,6,11,14,19,22] [] A (h3_ t0 t1 t4) (fun X1 bD=>?_)
   refine dw_ 1 (.pointer (some ⟨q.g,0,none⟩)) (fun a X E=>execNlm rfl (E _)) (dw_ 2 (.pointer (some ⟨q.g,4,none⟩)) (fun a X E=>execRo3 rfl (E _)) (dv_ 3 (sl0 q.E p.n) (fun a X E hb=>execLr rfl (Or.inr (Or.inr (Or.inr (Or.inl rfl)))) (E _) (gR_at (h.on (BB.trans (hb.mono BB.size)))).2.2.2.2.1) (dw_ 5 (.pointer (some ⟨q.E,0+t,none⟩)) (fun a X E=>execIxBo (k:=t) rfl (E _) (E _) ht) (dv_ 6 (.bool false) (fun a X E hb=>execLr rfl (Or.inr (Or.inl rfl)) (E _) ((rA_c (h.on (BB.trans (hb.mono BB.size))).hE ht).trans (by rw [he]))) (dw_ 9 (.pointer (some ⟨q.g,0,none⟩)) (fun a X E=>execNlm rfl (E _)) (dw_ 10 (.pointer (some ⟨q.g,2,none⟩)) (fun a X E=>execRo1 rfl (E _)) (dv_ 11 (sl0 q.P p.n) (fun a X E hb=>execLr rfl (Or.inr (Or.inr (Or.inl rfl))) (E _) (gR_at (h.on (BB.trans (hb.mono BB.size)))).2.2.1) (dw_ 13 (.pointer (some ⟨q.P,0+t,none⟩)) (fun a X E=>execIdxN (k:=t) rfl (E _) (E _) ht) (dv_ 14 (.int .i64 ((r.pl t:Nat):Int)) (fun a X E hb=>execLr rfl (Or.inl rfl) (E _) (rA_c (h.on (BB.trans (hb.mono BB.size))).hP ht)) (dw_ 16 (.pointer (some ⟨q.g,0,none⟩)) (fun a X E=>execNlm rfl (E _)) (dw_ 17 (.pointer (some ⟨q.g,0,none⟩)) (fun a X E=>execRo0 rfl (E _)) (dw_ 18 (.pointer (some ⟨q.g,1,none⟩)) (fun a X E=>execPf1 rfl (E _)) (dv_ 19 (tz) (fun a X E hb=>execLr rfl (Or.inr (Or.inr (Or.inr (Or.inr (Or.inr (Or.inl rfl)))))) (E _) (gR_at (h.on (BB.trans (hb.mono BB.size)))).2.1) (dw_ 21 (.pointer (some ⟨tb,to_+t,none⟩)) (fun a X E=>execIxOO (k:=t) rfl ((E _).trans etz) (E _) ht) (dv_ 22 (xz t) (fun a X E hb=>execLr rfl (Or.inr (Or.inr (Or.inr (Or.inr (Or.inr (Or.inr (rfl))))))) (E _) (SliceV.at (hp.on (BB.trans (hb.mono BB.size))).t etz ht)) (dw_ 23 (.int .i64 ((p.ln t:Nat):Int)) (fun a X E=>execLnOs (len:=p.ln t) rfl (E _) (hp.o t ht).shp) (dw_ 24 (.bool true) (fun a X E=>execDec (exIgeq3 (p:=((r.pl t:Nat):Int)) (q:=((p.ln t:Nat):Int)) rfl (E _) (E _)) (decide_eq_true (by omega))) (dz_ [(30,.bool true)] (h3_ t0 t1 t4) ?_))))))))))))))))))
   rintro a A ⟨t30,-⟩ ⟨t0,t1,t4,-⟩
   replace F4:=(on9 F4 bD)
   replace BB:=BB.trans (bD.mono BB.size)
   clear bD
   refine wp_cond_true t30 ?_
   clear t30
   refine wp_seq ?_
   refine wi_ A (h3_ t0 t1 t4) (rv_ 0 (.agg (oC 0 0 0)) (fun a E=>execBdO0 rfl) (rs_ 1 (fun a E=>?_)))
   refine stepS rfl rfl (execStO rfl (E _) (E _) F4) ⟨_,⟨_,rfl,rfl⟩,fun X2 hX=>?_⟩
   obtain ⟨BB,F4s⟩:Below V.heap.size V X2/\(X2.heap[g4]?=some (.cells (oC 0 0 0) 59)):=by subst hX; exact ⟨below4 BB Fg4 _,setRow_heap _ _ _ _ _ _ F4⟩
   clear F4 hX E a
   refine rf_ [] (h1_ t4) ?_
   rintro a A - ⟨t4,-⟩
   refine wp_ret ?_
   repeat (first | with_reducible refine ret_in ?_ | with_reducible refine ret_then ?_)
   refine bodyPost_ret (res_c0 _ _ g4 59 _ (0,0) _ Try.results21 t4 F4s Try.underlying59 rfl (by show _=some 3; kernel_rfl)) A.2 ⟨?_,BB⟩
   rw [ha]
set_option maxRecDepth 100000 in
set_option maxHeartbeats 4000000 in
theorem rmeets (B:Nat) (q:RK) (p:Pl) (cv tz:Value) (xz:Nat->Value) (r:Rm) (gv kv:Nat->Int) (tv hv:Nat->Value) (ow:Nat->Nat) (V:World) (hp:PlV V cv tz xz p) (h:RmM B V q p cv tz r gv kv tv hv ow) (d:Nat) (z:Int) (hd:d < p.d) :
  Calls Try.prog 35 #[.pointer (some ⟨q.g,0,none⟩),.int .i64 ((d:Nat):Int),.int .i64 z] V fun e w'=>e=.returned (.bool (decide (p.cap d=0) && !r.cl d && decide (0<=z)))/\Below V.heap.size V w':=by
 by_cases hc:p.cap d=0
 ·cases hcl:r.cl d with
  | true=>
   go_enter Try.func35,Try.ntmps35
   refine wo_ 30 [(0,.pointer (some ⟨q.g,0,none⟩)),(1,.int .i64 ((d:Nat):Int)),(2,.int .i64 z)] ?_
   rintro a A ⟨t0,t1,t2,-⟩
   have BW:Below V.heap.size V V:=Below.refl _ _
   have BB:Below V.heap.size V V:=Below.refl _ _
   refine wp_seq ?_
   refine wi_ A (h3_ t0 t1 t2) (rf_ [] (h3_ t0 t1 t2) ?_)
   rintro a A - ⟨t0,t1,t2,-⟩
   obtain ⟨cb,co,cc,ecv,lcb,hcb⟩:=ints_open hp.c (by omega)
   refine wp_seq ?_
   refine wi_ A (h3_ t0 t1 t2) (rv_ 1 (.pointer (some ⟨q.g,0,none⟩)) (fun a E=>execNlm rfl (E _)) (rv_ 2 (.pointer (some ⟨q.g,0,none⟩)) (fun a E=>execRo0 rfl (E _)) (rv_ 3 (.pointer (some ⟨q.g,0,none⟩)) (fun a E=>execPf0 rfl (E _)) (rv_ 4 (cv) (fun a E=>execLr rfl (Or.inr (Or.inr (Or.inl rfl))) (E _) (gR_at (h.on BB)).1) (rv_ 6 (.pointer (some ⟨cb,co+d,none⟩)) (fun a E=>execIdxN (k:=d) rfl ((E _).trans ecv) (E _) hd) (rv_ 7 (.int .i64 (p.cap d)) (fun a E=>execLr rfl (Or.inl rfl) (E _) (by rw [cell_below BB lcb]; exact hcb d hd)) (rv_ 8 (.bool true) (fun a E=>execDec (exIeql3 (p:=(p.cap d)) (q:=0) rfl (E _) rfl) (decide_eq_true hc)) (rv_ 11 (.pointer (some ⟨q.g,0,none⟩)) (fun a E=>execNlm rfl (E _)) (rv_ 12 (.pointer (some ⟨q.g,7,none⟩)) (fun a E=>execRo6 rfl (E _)) (rv_ 13 (sl0 q.C p.d) (fun a E=>execLr rfl (Or.inr (Or.inr (Or.inr (Or.inl rfl)))) (E _) (gR_at (h.on BB)).2.2.2.2.2.2.2.1) (rv_ 15 (.pointer (some ⟨q.C,0+d,none⟩)) (fun a E=>execIxBo (k:=d) rfl (E _) (E _) hd) (rv_ 16 (.bool true) (fun a E=>execLr rfl (Or.inr (Or.inl rfl)) (E _) ((rA_c (h.on BB).hC hd).trans (by rw [hcl]))) (rv_ 17 (.bool false) (fun a E=>execNot8 (b:=true) rfl (E _)) (rg_ [(6,.bool false)] ?_))))))))))))))
   rintro a A ⟨t6,-⟩
   refine wp_ret ?_
   refine bodyPost_ret (results_tmp rfl _ _ _) A.2 ⟨?_,BB⟩
   show Ending.returned (a.eval (.tmp 6))=_
   rw [t6]
   rw [decide_eq_true hc]; rfl
  | false=>
   go_enter Try.func35,Try.ntmps35
   refine wo_ 30 [(0,.pointer (some ⟨q.g,0,none⟩)),(1,.int .i64 ((d:Nat):Int)),(2,.int .i64 z)] ?_
   rintro a A ⟨t0,t1,t2,-⟩
   have BW:Below V.heap.size V V:=Below.refl _ _
   have BB:Below V.heap.size V V:=Below.refl _ _
   refine wp_seq ?_
   refine wi_ A (h3_ t0 t1 t2) (rf_ [] (h3_ t0 t1 t2) ?_)
   rintro a A - ⟨t0,t1,t2,-⟩
   obtain ⟨cb,co,cc,ecv,lcb,hcb⟩:=ints_open hp.c (by omega)
   refine wp_seq ?_
   refine wi_ A (h3_ t0 t1 t2) (rv_ 1 (.pointer (some ⟨q.g,0,none⟩)) (fun a E=>execNlm rfl (E _)) (rv_ 2 (.pointer (some ⟨q.g,0,none⟩)) (fun a E=>execRo0 rfl (E _)) (rv_ 3 (.pointer (some ⟨q.g,0,none⟩)) (fun a E=>execPf0 rfl (E _)) (rv_ 4 (cv) (fun a E=>execLr rfl (Or.inr (Or.inr (Or.inl rfl))) (E _) (gR_at (h.on BB)).1) (rv_ 6 (.pointer (some ⟨cb,co+d,none⟩)) (fun a E=>execIdxN (k:=d) rfl ((E _).trans ecv) (E _) hd) (rv_ 7 (.int .i64 (p.cap d)) (fun a E=>execLr rfl (Or.inl rfl) (E _) (by rw [cell_below BB lcb]; exact hcb d hd)) (rv_ 8 (.bool true) (fun a E=>execDec (exIeql3 (p:=(p.cap d)) (q:=0) rfl (E _) rfl) (decide_eq_true hc)) (rv_ 11 (.pointer (some ⟨q.g,0,none⟩)) (fun a E=>execNlm rfl (E _)) (rv_ 12 (.pointer (some ⟨q.g,7,none⟩)) (fun a E=>execRo6 rfl (E _)) (rv_ 13 (sl0 q.C p.d) (fun a E=>execLr rfl (Or.inr (Or.inr (Or.inr (Or.inl rfl)))) (E _) (gR_at (h.on BB)).2.2.2.2.2.2.2.1) (rv_ 15 (.pointer (some ⟨q.C,0+d,none⟩)) (fun a E=>execIxBo (k:=d) rfl (E _) (E _) hd) (rv_ 16 (.bool false) (fun a E=>execLr rfl (Or.inr (Or.inl rfl)) (E _) ((rA_c (h.on BB).hC hd).trans (by rw [hcl]))) (rv_ 17 (.bool true) (fun a E=>execNot8 (b:=false) rfl (E _)) (rv_ 21 (.bool (decide (0<=z))) (fun a E=>exIgeq3 (p:=z) (q:=0) rfl (E _) rfl) (rg_ [(6,.bool (decide (0<=z)))] ?_)))))))))))))))
   rintro a A ⟨t6,-⟩
   refine wp_ret ?_
   refine bodyPost_ret (results_tmp rfl _ _ _) A.2 ⟨?_,BB⟩
   show Ending.returned (a.eval (.tmp 6))=_
   rw [t6]
   rw [decide_eq_true hc]; simp
 ·cases hcl:r.cl d with
  | true=>
   go_enter Try.func35,Try.ntmps35
   refine wo_ 30 [(0,.pointer (some ⟨q.g,0,none⟩)),(1,.int .i64 ((d:Nat):Int)),(2,.int .i64 z)] ?_
   rintro a A ⟨t0,t1,t2,-⟩
   have BW:Below V.heap.size V V:=Below.refl _ _
   have BB:Below V.heap.size V V:=Below.refl _ _
   refine wp_seq ?_
   refine wi_ A (h3_ t0 t1 t2) (rf_ [] (h3_ t0 t1 t2) ?_)
   rintro a A - ⟨t0,t1,t2,-⟩
   obtain ⟨cb,co,cc,ecv,lcb,hcb⟩:=ints_open hp.c (by omega)
   refine wp_seq ?_
   refine wi_ A (h3_ t0 t1 t2) (rv_ 1 (.pointer (some ⟨q.g,0,none⟩)) (fun a E=>execNlm rfl (E _)) (rv_ 2 (.pointer (some ⟨q.g,0,none⟩)) (fun a E=>execRo0 rfl (E _)) (rv_ 3 (.pointer (some ⟨q.g,0,none⟩)) (fun a E=>execPf0 rfl (E _)) (rv_ 4 (cv) (fun a E=>execLr rfl (Or.inr (Or.inr (Or.inl rfl))) (E _) (gR_at (h.on BB)).1) (rv_ 6 (.pointer (some ⟨cb,co+d,none⟩)) (fun a E=>execIdxN (k:=d) rfl ((E _).trans ecv) (E _) hd) (rv_ 7 (.int .i64 (p.cap d)) (fun a E=>execLr rfl (Or.inl rfl) (E _) (by rw [cell_below BB lcb]; exact hcb d hd)) (rv_ 8 (.bool false) (fun a E=>execDec (exIeql3 (p:=(p.cap d)) (q:=0) rfl (E _) rfl) (decide_eq_false hc)) (rg_ [(6,.bool false)] ?_))))))))
   rintro a A ⟨t6,-⟩
   refine wp_ret ?_
   refine bodyPost_ret (results_tmp rfl _ _ _) A.2 ⟨?_,BB⟩
   show Ending.returned (a.eval (.tmp 6))=_
   rw [t6]
   rw [decide_eq_false hc]; rfl
  | false=>
   go_enter Try.func35,Try.ntmps35
   refine wo_ 30 [(0,.pointer (some ⟨q.g,0,none⟩)),(1,.int .i64 ((d:Nat):Int)),(2,.int .i64 z)] ?_
   rintro a A ⟨t0,t1,t2,-⟩
   have BW:Below V.heap.size V V:=Below.refl _ _
   have BB:Below V.heap.size V V:=Below.refl _ _
   refine wp_seq ?_
   refine wi_ A (h3_ t0 t1 t2) (rf_ [] (h3_ t0 t1 t2) ?_)
   rintro a A - ⟨t0,t1,t2,-⟩
   obtain ⟨cb,co,cc,ecv,lcb,hcb⟩:=ints_open hp.c (by omega)
   refine wp_seq ?_
   refine wi_ A (h3_ t0 t1 t2) (rv_ 1 (.pointer (some ⟨q.g,0,none⟩)) (fun a E=>execNlm rfl (E _)) (rv_ 2 (.pointer (some ⟨q.g,0,none⟩)) (fun a E=>execRo0 rfl (E _)) (rv_ 3 (.pointer (some ⟨q.g,0,none⟩)) (fun a E=>execPf0 rfl (E _)) (rv_ 4 (cv) (fun a E=>execLr rfl (Or.inr (Or.inr (Or.inl rfl))) (E _) (gR_at (h.on BB)).1) (rv_ 6 (.pointer (some ⟨cb,co+d,none⟩)) (fun a E=>execIdxN (k:=d) rfl ((E _).trans ecv) (E _) hd) (rv_ 7 (.int .i64 (p.cap d)) (fun a E=>execLr rfl (Or.inl rfl) (E _) (by rw [cell_below BB lcb]; exact hcb d hd)) (rv_ 8 (.bool false) (fun a E=>execDec (exIeql3 (p:=(p.cap d)) (q:=0) rfl (E _) rfl) (decide_eq_false hc)) (rg_ [(6,.bool false)] ?_))))))))
   rintro a A ⟨t6,-⟩
   refine wp_ret ?_
   refine bodyPost_ret (results_tmp rfl _ _ _) A.2 ⟨?_,BB⟩
   show Ending.returned (a.eval (.tmp 6))=_
   rw [t6]
   rw [decide_eq_false hc]; rfl
set_option maxRecDepth 100000 in
set_option maxHeartbeats 4000000 in
theorem rspent (B:Nat) (q:RK) (p:Pl) (cv tz:Value) (xz:Nat->Value) (r:Rm) (gv kv:Nat->Int) (tv hv:Nat->Value) (ow:Nat->Nat) (V:World) (_hp:PlV V cv tz xz p) (h:RmM B V q p cv tz r gv kv tv hv ow) (d:Nat) (hd:d < p.d) :
  Calls Try.prog 37 #[.pointer (some ⟨q.g,0,none⟩),.int .i64 ((d:Nat):Int)] V fun e w'=>e=.returned (.bool (spt r d))/\Below V.heap.size V w':=by
 unfold spt
 cases hcl:r.cl d with
 | true=>
  by_cases hl:(r.hd d).length=0
  ·go_enter Try.func37,Try.ntmps37
   refine wo_ 23 [(0,.pointer (some ⟨q.g,0,none⟩)),(1,.int .i64 ((d:Nat):Int))] ?_
   rintro a A ⟨t0,t1,-⟩
   have BW:Below V.heap.size V V:=Below.refl _ _
   have BB:Below V.heap.size V V:=Below.refl _ _
   refine wp_seq ?_
   refine wi_ A (h2_ t0 t1) (rf_ [] (h2_ t0 t1) ?_)
   rintro a A - ⟨t0,t1,-⟩
   refine wp_seq ?_
   refine wi_ A (h2_ t0 t1) (rv_ 1 (.pointer (some ⟨q.g,0,none⟩)) (fun a E=>execNlm rfl (E _)) (rv_ 2 (.pointer (some ⟨q.g,7,none⟩)) (fun a E=>execRo6 rfl (E _)) (rv_ 3 (sl0 q.C p.d) (fun a E=>execLr rfl (Or.inr (Or.inr (Or.inr (Or.inl rfl)))) (E _) (gR_at (h.on BB)).2.2.2.2.2.2.2.1) (rv_ 5 (.pointer (some ⟨q.C,0+d,none⟩)) (fun a E=>execIxBo (k:=d) rfl (E _) (E _) hd) (rv_ 6 (.bool true) (fun a E=>execLr rfl (Or.inr (Or.inl rfl)) (E _) ((rA_c (h.on BB).hC hd).trans (by rw [hcl]))) (rv_ 9 (.pointer (some ⟨q.g,0,none⟩)) (fun a E=>execNlm rfl (E _)) (rv_ 10 (.pointer (some ⟨q.g,6,none⟩)) (fun a E=>execRo5 rfl (E _)) (rv_ 11 (sl0 q.H p.d) (fun a E=>execLr rfl (Or.inr (Or.inr (Or.inr (Or.inr (Or.inl rfl))))) (E _) (gR_at (h.on BB)).2.2.2.2.2.2.1) (rv_ 13 (.pointer (some ⟨q.H,0+d,none⟩)) (fun a E=>execIxLL (k:=d) rfl (E _) (E _) hd) (rv_ 14 (hv d) (fun a E=>execLr rfl (Or.inr (Or.inr (Or.inl rfl))) (E _) (rA_c (h.on BB).hH hd)) (rv_ 15 (.int .i64 (((r.hd d).length:Nat):Int)) (fun a E=>execLenI (len:=(r.hd d).length) rfl (E _) (h.hd d hd).shp) (rv_ 16 (.bool true) (fun a E=>execDec (exIeql3 (p:=(((r.hd d).length:Nat):Int)) (q:=0) rfl (E _) rfl) (decide_eq_true (by omega))) (rg_ [(4,.bool true)] ?_)))))))))))))
   rintro a A ⟨t4,-⟩
   refine wp_ret ?_
   refine bodyPost_ret (results_tmp rfl _ _ _) A.2 ⟨?_,BB⟩
   show Ending.returned (a.eval (.tmp 4))=_
   rw [t4]
   rw [decide_eq_true hl]; rfl
  ·go_enter Try.func37,Try.ntmps37
   refine wo_ 23 [(0,.pointer (some ⟨q.g,0,none⟩)),(1,.int .i64 ((d:Nat):Int))] ?_
   rintro a A ⟨t0,t1,-⟩
   have BW:Below V.heap.size V V:=Below.refl _ _
   have BB:Below V.heap.size V V:=Below.refl _ _
   refine wp_seq ?_
   refine wi_ A (h2_ t0 t1) (rf_ [] (h2_ t0 t1) ?_)
   rintro a A - ⟨t0,t1,-⟩
   refine wp_seq ?_
   refine wi_ A (h2_ t0 t1) (rv_ 1 (.pointer (some ⟨q.g,0,none⟩)) (fun a E=>execNlm rfl (E _)) (rv_ 2 (.pointer (some ⟨q.g,7,none⟩)) (fun a E=>execRo6 rfl (E _)) (rv_ 3 (sl0 q.C p.d) (fun a E=>execLr rfl (Or.inr (Or.inr (Or.inr (Or.inl rfl)))) (E _) (gR_at (h.on BB)).2.2.2.2.2.2.2.1) (rv_ 5 (.pointer (some ⟨q.C,0+d,none⟩)) (fun a E=>execIxBo (k:=d) rfl (E _) (E _) hd) (rv_ 6 (.bool true) (fun a E=>execLr rfl (Or.inr (Or.inl rfl)) (E _) ((rA_c (h.on BB).hC hd).trans (by rw [hcl]))) (rv_ 9 (.pointer (some ⟨q.g,0,none⟩)) (fun a E=>execNlm rfl (E _)) (rv_ 10 (.pointer (some ⟨q.g,6,none⟩)) (fun a E=>execRo5 rfl (E _)) (rv_ 11 (sl0 q.H p.d) (fun a E=>execLr rfl (Or.inr (Or.inr (Or.inr (Or.inr (Or.inl rfl))))) (E _) (gR_at (h.on BB)).2.2.2.2.2.2.1) (rv_ 13 (.pointer (some ⟨q.H,0+d,none⟩)) (fun a E=>execIxLL (k:=d) rfl (E _) (E _) hd) (rv_ 14 (hv d) (fun a E=>execLr rfl (Or.inr (Or.inr (Or.inl rfl))) (E _) (rA_c (h.on BB).hH hd)) (rv_ 15 (.int .i64 (((r.hd d).length:Nat):Int)) (fun a E=>execLenI (len:=(r.hd d).length) rfl (E _) (h.hd d hd).shp) (rv_ 16 (.bool false) (fun a E=>execDec (exIeql3 (p:=(((r.hd d).length:Nat):Int)) (q:=0) rfl (E _) rfl) (decide_eq_false (by omega))) (rg_ [(4,.bool false)] ?_)))))))))))))
   rintro a A ⟨t4,-⟩
   refine wp_ret ?_
   refine bodyPost_ret (results_tmp rfl _ _ _) A.2 ⟨?_,BB⟩
   show Ending.returned (a.eval (.tmp 4))=_
   rw [t4]
   rw [decide_eq_false hl]; rfl
 | false=>
  go_enter Try.func37,Try.ntmps37
  refine wo_ 23 [(0,.pointer (some ⟨q.g,0,none⟩)),(1,.int .i64 ((d:Nat):Int))] ?_
  rintro a A ⟨t0,t1,-⟩
  have BW:Below V.heap.size V V:=Below.refl _ _
  have BB:Below V.heap.size V V:=Below.refl _ _
  refine wp_seq ?_
  refine wi_ A (h2_ t0 t1) (rf_ [] (h2_ t0 t1) ?_)
  rintro a A - ⟨t0,t1,-⟩
  refine wp_seq ?_
  refine wi_ A (h2_ t0 t1) (rv_ 1 (.pointer (some ⟨q.g,0,none⟩)) (fun a E=>execNlm rfl (E _)) (rv_ 2 (.pointer (some ⟨q.g,7,none⟩)) (fun a E=>execRo6 rfl (E _)) (rv_ 3 (sl0 q.C p.d) (fun a E=>execLr rfl (Or.inr (Or.inr (Or.inr (Or.inl rfl)))) (E _) (gR_at (h.on BB)).2.2.2.2.2.2.2.1) (rv_ 5 (.pointer (some ⟨q.C,0+d,none⟩)) (fun a E=>execIxBo (k:=d) rfl (E _) (E _) hd) (rv_ 6 (.bool false) (fun a E=>execLr rfl (Or.inr (Or.inl rfl)) (E _) ((rA_c (h.on BB).hC hd).trans (by rw [hcl]))) (rg_ [(4,.bool false)] ?_))))))
  rintro a A ⟨t4,-⟩
  refine wp_ret ?_
  refine bodyPost_ret (results_tmp rfl _ _ _) A.2 ⟨?_,BB⟩
  show Ending.returned (a.eval (.tmp 4))=_
  rw [t4]
  rfl
set_option maxRecDepth 100000 in
set_option maxHeartbeats 4000000 in
theorem rready (B:Nat) (q:RK) (p:Pl) (cv tz:Value) (xz:Nat->Value) (r:Rm) (gv kv:Nat->Int) (tv hv:Nat->Value) (ow:Nat->Nat) (V:World) (hp:PlV V cv tz xz p) (h:RmM B V q p cv tz r gv kv tv hv ow) (d:Nat) (hd:d < p.d) (hgv:decide (0<=gv d)=(giv p r d).isSome) :
  Calls Try.prog 36 #[.pointer (some ⟨q.g,0,none⟩),.int .i64 ((d:Nat):Int)] V fun e w'=>e=.returned (.bool (rdy p r d))/\Below V.heap.size V w':=by
 unfold rdy mts
 by_cases hl:0 < (r.hd d).length
 ·go_enter Try.func36,Try.ntmps36
  refine wo_ 26 [(0,.pointer (some ⟨q.g,0,none⟩)),(1,.int .i64 ((d:Nat):Int))] ?_
  rintro a A ⟨t0,t1,-⟩
  have BW:Below V.heap.size V V:=Below.refl _ _
  have BB:Below V.heap.size V V:=Below.refl _ _
  refine wp_seq ?_
  refine wi_ A (h2_ t0 t1) (rf_ [] (h2_ t0 t1) ?_)
  rintro a A - ⟨t0,t1,-⟩
  refine wp_seq ?_
  refine wi_ A (h2_ t0 t1) (rv_ 1 (.pointer (some ⟨q.g,0,none⟩)) (fun a E=>execNlm rfl (E _)) (rv_ 2 (.pointer (some ⟨q.g,6,none⟩)) (fun a E=>execRo5 rfl (E _)) (rv_ 3 (sl0 q.H p.d) (fun a E=>execLr rfl (Or.inr (Or.inr (Or.inr (Or.inr (Or.inl rfl))))) (E _) (gR_at (h.on BB)).2.2.2.2.2.2.1) (rv_ 5 (.pointer (some ⟨q.H,0+d,none⟩)) (fun a E=>execIxLL (k:=d) rfl (E _) (E _) hd) (rv_ 6 (hv d) (fun a E=>execLr rfl (Or.inr (Or.inr (Or.inl rfl))) (E _) (rA_c (h.on BB).hH hd)) (rv_ 7 (.int .i64 (((r.hd d).length:Nat):Int)) (fun a E=>execLenI (len:=(r.hd d).length) rfl (E _) (h.hd d hd).shp) (rv_ 8 (.bool true) (fun a E=>execDec (exIgtr3 (p:=(((r.hd d).length:Nat):Int)) (q:=0) rfl (E _) rfl) (decide_eq_true (by omega))) (rg_ [(4,.bool true)] ?_))))))))
  rintro a A ⟨t4,-⟩
  refine wp_ret ?_
  refine bodyPost_ret (results_tmp rfl _ _ _) A.2 ⟨?_,BB⟩
  show Ending.returned (a.eval (.tmp 4))=_
  rw [t4]
  rw [decide_eq_true hl]; rfl
 ·go_enter Try.func36,Try.ntmps36
  refine wo_ 26 [(0,.pointer (some ⟨q.g,0,none⟩)),(1,.int .i64 ((d:Nat):Int))] ?_
  rintro a A ⟨t0,t1,-⟩
  have BW:Below V.heap.size V V:=Below.refl _ _
  have BB:Below V.heap.size V V:=Below.refl _ _
  refine wp_seq ?_
  refine wi_ A (h2_ t0 t1) (rf_ [] (h2_ t0 t1) ?_)
  rintro a A - ⟨t0,t1,-⟩
  refine wp_seq ?_
  refine wi_ A (h2_ t0 t1) (rv_ 1 (.pointer (some ⟨q.g,0,none⟩)) (fun a E=>execNlm rfl (E _)) (rv_ 2 (.pointer (some ⟨q.g,6,none⟩)) (fun a E=>execRo5 rfl (E _)) (rv_ 3 (sl0 q.H p.d) (fun a E=>execLr rfl (Or.inr (Or.inr (Or.inr (Or.inr (Or.inl rfl))))) (E _) (gR_at (h.on BB)).2.2.2.2.2.2.1) (rv_ 5 (.pointer (some ⟨q.H,0+d,none⟩)) (fun a E=>execIxLL (k:=d) rfl (E _) (E _) hd) (rv_ 6 (hv d) (fun a E=>execLr rfl (Or.inr (Or.inr (Or.inl rfl))) (E _) (rA_c (h.on BB).hH hd)) (rv_ 7 (.int .i64 (((r.hd d).length:Nat):Int)) (fun a E=>execLenI (len:=(r.hd d).length) rfl (E _) (h.hd d hd).shp) (rv_ 8 (.bool false) (fun a E=>execDec (exIgtr3 (p:=(((r.hd d).length:Nat):Int)) (q:=0) rfl (E _) rfl) (decide_eq_false (by omega))) (rv_ 13 (.pointer (some ⟨q.g,0,none⟩)) (fun a E=>execNlm rfl (E _)) (rv_ 14 (.pointer (some ⟨q.g,8,none⟩)) (fun a E=>execRo7 rfl (E _)) (rv_ 15 (sl0 q.G p.d) (fun a E=>execLr rfl (Or.inr (Or.inr (Or.inl rfl))) (E _) (gR_at (h.on BB)).2.2.2.2.2.2.2.2.1) (rv_ 17 (.pointer (some ⟨q.G,0+d,none⟩)) (fun a E=>execIdxN (k:=d) rfl (E _) (E _) hd) (rv_ 18 (.int .i64 (gv d)) (fun a E=>execLr rfl (Or.inl rfl) (E _) (rA_c (h.on BB).hG hd)) (rc_ 19 (rmeets B q p cv tz xz r gv kv tv hv ow V (hp.on BB) (h.on BB) d (gv d) hd) (cb_ fun X1 bQ=>?_))))))))))))))
  replace BB:=BB.trans (bQ.mono BB.size)
  clear bQ
  refine rg_ [(4,.bool (decide (p.cap d=0) && !r.cl d && decide (0<=gv d)))] ?_
  rintro a A ⟨t4,-⟩
  refine wp_ret ?_
  refine bodyPost_ret (results_tmp rfl _ _ _) A.2 ⟨?_,BB⟩
  show Ending.returned (a.eval (.tmp 4))=_
  rw [t4]
  rw [decide_eq_false hl,hgv,Bool.false_or]
end Go.Proofs.Ytjjegmflllpknaa.Loo
