import Derived.Test.YtjjegmflllpknaaP8n
namespace Go.Proofs.Ytjjegmflllpknaa.Duc
open Go.RowKit Gf8 Aes By8 Cel Cf Win Drw Prm
/- The landed ducts of ints. Written by tools/mkP8o.py. -/
section
variable {o:Oper} {a:Act} {w:World}
theorem execFp0I {x:Operand} {b:Nat} (ho:o.op=.fieldAddr 95 x 0) (hx:a.eval x=.pointer (some ⟨b,0,none⟩)):(execOp a.eval o).run Try.prog w=.ok (.value (.pointer (some ⟨b,0,none⟩))) w:=by
 unfold execOp
 simp only [ho,hx]
 simp [go_sem]
theorem execFp1I {x:Operand} {b:Nat} (ho:o.op=.fieldAddr 95 x 1) (hx:a.eval x=.pointer (some ⟨b,0,none⟩)):(execOp a.eval o).run Try.prog w=.ok (.value (.pointer (some ⟨b,1,none⟩))) w:=by
 unfold execOp
 simp only [ho,hx]
 simp [go_sem]
theorem execFp2I {x:Operand} {b:Nat} (ho:o.op=.fieldAddr 95 x 2) (hx:a.eval x=.pointer (some ⟨b,0,none⟩)):(execOp a.eval o).run Try.prog w=.ok (.value (.pointer (some ⟨b,2,none⟩))) w:=by
 unfold execOp
 simp only [ho,hx]
 simp [go_sem]
theorem execFp3I {x:Operand} {b:Nat} (ho:o.op=.fieldAddr 95 x 3) (hx:a.eval x=.pointer (some ⟨b,0,none⟩)):(execOp a.eval o).run Try.prog w=.ok (.value (.pointer (some ⟨b,3,none⟩))) w:=by
 unfold execOp
 simp only [ho,hx]
 simp [go_sem]
theorem execFp4I {x:Operand} {b:Nat} (ho:o.op=.fieldAddr 95 x 4) (hx:a.eval x=.pointer (some ⟨b,0,none⟩)):(execOp a.eval o).run Try.prog w=.ok (.value (.pointer (some ⟨b,4,none⟩))) w:=by
 unfold execOp
 simp only [ho,hx]
 simp [go_sem]
theorem execL1I {t:TypeId} {x:Operand} {b k:Nat} {v:Value} (ho:o.op=.load t x) (ht:t=22\/t=3\/t=4\/t=9) (hx:a.eval x=.pointer (some ⟨b,k,none⟩)) (hc:w.cell? ⟨b,k,none⟩=some v):(execOp a.eval o).run Try.prog w=.ok (.value v) w:=by
 unfold execOp
 rcases ht with rfl | rfl | rfl | rfl <;> (simp only [ho,hx]; simp [go_sem,hc])
theorem execS1I {t:TypeId} {x y:Operand} {b k:Nat} {u old:Value} (ho:o.op=.store t x y) (ht:t=22\/t=3\/t=4\/t=9) (hx:a.eval x=.pointer (some ⟨b,k,none⟩)) (hy:a.eval y=u) (hu:OneK u) (hc:w.cell? ⟨b,k,none⟩=some old) (hf:w.frozen? ⟨b,k,none⟩=false):(execOp a.eval o).run Try.prog w=.ok .skip (w.setCell ⟨b,k,none⟩ u):=by
 unfold execOp
 rcases hu with ⟨_,_,rfl⟩ | ⟨_,rfl⟩ | ⟨_,rfl⟩ | ⟨_,_,_,rfl⟩ <;> (rcases ht with rfl | rfl | rfl | rfl <;> (simp only [ho,hx,hy]; simp [go_sem,hc,hf]))
theorem execLnI {x:Operand} {v:Value} {len:Nat} (ho:o.op=.call { callee:=.builtin .len,args:=#[x],argTypes:=#[22] }) (hx:a.eval x=v) (hv:∃ ao c,v=.slice ao len c):(execOp a.eval o).run Try.prog w=.ok (.value (.int .i64 ((len:Nat):Int))) w:=by
 obtain ⟨ao,c,rfl⟩:=hv
 unfold execOp
 simp only [ho,resolve,invoke,builtin,Sem.run_bind,Sem.run_pure,Result.andThen_ok,List.map_toArray,List.map_cons,List.map_nil,hx]
 simp [go_sem]
theorem execIxI {x i:Operand} {b m c k:Nat} (ho:o.op=.indexAddr 22 x i) (hx:a.eval x=.slice (some ⟨b,0,none⟩) m c) (hi:a.eval i=.int .i64 ((k:Nat):Int)) (hk:k < m):(execOp a.eval o).run Try.prog w=.ok (.value (.pointer (some ⟨b,k,none⟩))) w:=by
 unfold execOp
 simp only [ho,hx,hi]
 have h1:(k:Int) < m:=by omega
 simp [go_sem,h1]
theorem execBdI {x:Operand} {k:Nat} (ho:o.op=.build 95 #[(3,x)]) (hx:a.eval x=.int .i64 ((k:Nat):Int)):(execOp a.eval o).run Try.prog w=.ok (.value (.agg (pC (.slice none 0 0) 0 0 k false))) w:=by
 unfold execOp
 simp only [ho,List.map_toArray,List.map_cons,List.map_nil,hx]
 simp [go_sem,pC]
theorem execBxI {x:Operand} {k:Nat} (ho:o.op=.box 95 x) (hx:a.eval x=.agg (pC (.slice none 0 0) 0 0 k false)):(execOp a.eval o).run Try.prog w=.ok (.value (.pointer (some ⟨w.heap.size,0,none⟩))) (w.alloc (.cells (pC (.slice none 0 0) 0 0 k false) 95)):=by
 unfold execOp
 simp only [ho,hx]
 simp [go_sem,pC]
end
abbrev DRI:=DR 95 3 ElI
abbrev DqI:=Dq 95 3 ElI
theorem oneI {u:Value} (h:ElI u):u.oneCell'=true:=by
 obtain ⟨z,rfl,_⟩:=h
 rfl
theorem okI {u:Value} (h:ElI u):OneK u:=by
 obtain ⟨z,rfl,_⟩:=h
 exact Or.inl ⟨_,_,rfl⟩
theorem zerI:ElI (.int .i64 ((0:Nat):Int)):=⟨_,rfl,by unfold I64; omega⟩
set_option maxRecDepth 100000 in
theorem infI:∃ i,Try.prog.info? 3=some i/\i.zero=some (.int .i64 0)/\i.size=1/\i.bytes=8:=⟨_,rfl,by kernel_rfl,by kernel_rfl,by kernel_rfl⟩
section
variable {o:Oper} {a:Act} {w:World}
theorem execMkI {x y:Operand} {n:Nat} (ho:o.op=.makeSlice 22 x y) (hx:a.eval x=.int .i64 ((n:Nat):Int)) (hy:a.eval y=.int .i64 ((n:Nat):Int)) (hn:n<=1024):(execOp a.eval o).run Try.prog w=.ok (.value (.slice (some ⟨w.heap.size,0,none⟩) n n)) (w.alloc (.cells (rA n fun _=>.int .i64 0) 3)):=by
 obtain ⟨i,h1,h2,h3,h4⟩:=infI
 have h:=run_make (P:=Try.prog) w 22 3 i (.int .i64 0) Try.underlying22 h1 h2 .i64 .i64 (n:Int) (n:Int) (by omega) (by omega) (by rw [h4]; omega) (by omega)
 rw [h3,Int.toNat_natCast,Nat.mul_one] at h
 unfold execOp
 simp only [ho,hx,hy,Sem.run_bind,h,Result.andThen_ok,Sem.run_pure]
 rw [← rA_made]
 rfl
theorem execMinEI {x y:Operand} {p q M:Nat} (hM:M=min p q) (ho:o.op=.call { callee:=.builtin .min,args:=#[x,y],argTypes:=#[3,3] }) (hx:a.eval x=.int .i64 ((p:Nat):Int)) (hy:a.eval y=.int .i64 ((q:Nat):Int)):(execOp a.eval o).run Try.prog w=.ok (.value (.int .i64 ((M:Nat):Int))) w:=by
 rw [hM]
 exact execMinI ho hx hy
theorem execSlIl {x l:Operand} {v vl r:Value} (ho:o.op=.slice 22 x (some l) none none) (hx:a.eval x=v) (hl:a.eval l=vl) (hr:(Instr.sliceAt 22 v (some vl) none none).run Try.prog w=.ok r w):(execOp a.eval o).run Try.prog w=.ok (.value r) w:=by
 unfold execOp
 simp only [ho,hx,hl,Option.map_some,Option.map_none,Sem.run_bind,hr,Result.andThen_ok,Sem.run_pure]
theorem execSlIh {x l:Operand} {v vl r:Value} (ho:o.op=.slice 22 x none (some l) none) (hx:a.eval x=v) (hl:a.eval l=vl) (hr:(Instr.sliceAt 22 v none (some vl) none).run Try.prog w=.ok r w):(execOp a.eval o).run Try.prog w=.ok (.value r) w:=by
 unfold execOp
 simp only [ho,hx,hl,Option.map_some,Option.map_none,Sem.run_bind,hr,Result.andThen_ok,Sem.run_pure]
theorem slIl (g m n:Nat) (h1:n < m) (W:World):(Instr.sliceAt 22 (.slice (some ⟨g,0,none⟩) m m) (some (.int .i64 ((n:Nat):Int))) none none).run Try.prog W=.ok (.slice (some ⟨g,n,none⟩) (m - n) (m - n)) W:=by
 have h0:n<=m:=by omega
 have e1:(n:Int)<=m:=by omega
 have e:m ≠ n:=by omega
 obtain ⟨i,i1,_,i3,_⟩:=infI
 simp [Instr.sliceAt,Instr.slice,run_underlying Try.underlying22,Instr.sliceBounds,run_sliceBound,h0,e,sizeOf,typeInfo,i1,i3,Addr.add_mid]
theorem slIh (g m n:Nat) (h1:n<=m) (h2:0 < m) (W:World):(Instr.sliceAt 22 (.slice (some ⟨g,0,none⟩) m m) none (some (.int .i64 ((n:Nat):Int))) none).run Try.prog W=.ok (.slice (some ⟨g,0,none⟩) n m) W:=by
 have e1:(n:Int)<=m:=by omega
 have e:m ≠ 0:=by omega
 obtain ⟨i,i1,_⟩:=infI
 simp [Instr.sliceAt,Instr.slice,run_underlying Try.underlying22,Instr.sliceBounds,run_sliceBound,h1,e,sizeOf,typeInfo,i1,Addr.add_mid]
theorem slIn (W:World):(Instr.sliceAt 22 (.slice none 0 0) (some (.int .i64 ((0:Nat):Int))) none none).run Try.prog W=.ok (.slice none 0 0) W:=by
 obtain ⟨i,i1,_⟩:=infI
 simp [Instr.sliceAt,Instr.slice,run_underlying Try.underlying22,Instr.sliceBounds,run_sliceBound,sizeOf,typeInfo,i1]
theorem slIm (W:World):(Instr.sliceAt 22 (.slice none 0 0) none (some (.int .i64 ((0:Nat):Int))) none).run Try.prog W=.ok (.slice none 0 0) W:=by
 obtain ⟨i,i1,_⟩:=infI
 simp [Instr.sliceAt,Instr.slice,run_underlying Try.underlying22,Instr.sliceBounds,run_sliceBound,sizeOf,typeInfo,i1]
theorem execC0I {x y:Operand} {ad:Addr} {dl dc:Nat} (ho:o.op=.call { callee:=.builtin .copy,args:=#[x,y],argTypes:=#[22,22] }) (hx:a.eval x=.slice (some ad) dl dc) (hy:a.eval y=.slice none 0 0):(execOp a.eval o).run Try.prog w=.ok (.value (.int .i64 ((0:Nat):Int))) w:=by
 obtain ⟨i,i1,i2,i3,i4⟩:=infI
 have hrun:=run_copy_nil Try.prog w 22 22 o.type 3 ad dl dc Try.underlying22 (by rw [i1]; rfl)
 unfold execOp
 simp only [ho,resolve,invoke,builtin,Sem.run_bind,Sem.run_pure,Result.andThen_ok,List.map_toArray,List.map_cons,List.map_nil,hx,hy,hrun]
 rfl
theorem execCpI {x y:Operand} {b d b0 s N m dl dc sl sc l:Nat} {Y y0:Nat->Value} (ho:o.op=.call { callee:=.builtin .copy,args:=#[x,y],argTypes:=#[22,22] }) (hx:a.eval x=.slice (some ⟨b,d,none⟩) dl dc) (hy:a.eval y=.slice (some ⟨b0,s,none⟩) sl sc)
  (hb:w.heap[b]?=some (.cells (rA N Y) 3)) (hb0:w.heap[b0]?=some (.cells (rA m y0) 3)) (hl:Nat.min sl dl=l) (h1:d+l<=N) (h2:s+l<=m) (el:∀ i,i < m->ElI (y0 i)) :
  (execOp a.eval o).run Try.prog w=.ok (.value (.int .i64 ((l:Nat):Int))) (w.setRow b (rA N (splV Y d l fun j=>y0 (s+j)))):=by
 obtain ⟨i,i1,i2,i3,i4⟩:=infI
 have hc:((List.range l).map fun j=>y0 (s+j)).length=l:=by simp
 have hrun:=run_copy_row Try.prog w 22 22 o.type 3 b d dl dc ⟨b0,s,none⟩ sl sc (rA N Y) 3 ((List.range l).map fun j=>y0 (s+j)) Try.underlying22 (by rw [i1]; simp [i3]) hb (by rw [hc]; exact hl.symm) (fun j v hv=>by
  have hj:j < l:=by have:=(List.getElem?_eq_some_iff.1 hv).1; omega
  rw [List.getElem?_map,List.getElem?_range hj] at hv
  rw [Addr.add_mid,rA_cell hb0 (show s+j < m by omega)]
  exact hv) (by rw [hc,rA_size]; exact h1) (fun v hv=>by
  obtain ⟨j,hj,rfl⟩:=List.mem_map.1 hv
  exact oneI (el _ (by have:=List.mem_range.1 hj; omega)))
 rw [hc,rA_spl h1] at hrun
 unfold execOp
 simp only [ho,resolve,invoke,builtin,Sem.run_bind,Sem.run_pure,Result.andThen_ok,List.map_toArray,List.map_cons,List.map_nil,hx,hy,hrun]
 rfl
end
set_option maxRecDepth 100000 in
set_option maxHeartbeats 4000000 in
theorem pclosednI (V:World) :
  Calls Try.prog 55 #[.pointer none] V fun e w'=>e=.returned (.bool true)/\Below V.heap.size V w':=by
 go_enter Try.func55,Try.ntmps55
 refine wo_ 11 [(0,.pointer none)] ?_
 rintro a A ⟨t0,-⟩
 have BW:Below V.heap.size V V:=Below.refl _ _
 have BB:Below V.heap.size V V:=Below.refl _ _
 refine wp_seq ?_
 refine wi_ A (h1_ t0) (rf_ [] (h1_ t0) ?_)
 rintro a A - ⟨t0,-⟩
 refine wp_seq ?_
 refine wi_ A (h1_ t0) (rv_ 1 (.bool true) (fun a E=>execDIeqln rfl (E _)) (rg_ [(2,.bool true)] ?_))
 rintro a A ⟨t2,-⟩
 refine wp_ret ?_
 refine bodyPost_ret (results_tmp rfl _ _ _) A.2 ⟨?_,BB⟩
 show Ending.returned (a.eval (.tmp 2))=_
 rw [t2]
set_option maxRecDepth 100000 in
set_option maxHeartbeats 4000000 in
theorem pclosedpI (g f n k:Nat) (r:Value) (c:Bool) (V:World) (hg:V.heap[g]?=some (.cells (pC r f n k c) 95)) :
  Calls Try.prog 55 #[.pointer (some ⟨g,0,none⟩)] V fun e w'=>e=.returned (.bool c)/\Below V.heap.size V w':=by
 go_enter Try.func55,Try.ntmps55
 refine wo_ 11 [(0,.pointer (some ⟨g,0,none⟩))] ?_
 rintro a A ⟨t0,-⟩
 have BW:Below V.heap.size V V:=Below.refl _ _
 have BB:Below V.heap.size V V:=Below.refl _ _
 refine wp_seq ?_
 refine wi_ A (h1_ t0) (rf_ [] (h1_ t0) ?_)
 rintro a A - ⟨t0,-⟩
 refine wp_seq ?_
 refine wi_ A (h1_ t0) (rv_ 1 (.bool false) (fun a E=>execDIeqls rfl (E _)) (rv_ 4 (.pointer (some ⟨g,0,none⟩)) (fun a E=>execNl rfl (E _)) (rv_ 5 (.pointer (some ⟨g,4,none⟩)) (fun a E=>execFp4I rfl (E _)) (rv_ 6 (.bool c) (fun a E=>execL1I rfl (Or.inr (Or.inr (Or.inl rfl))) (E _) (pC_at (on9 hg BB)).2.2.2.2) (rg_ [(2,.bool c)] ?_)))))
 rintro a A ⟨t2,-⟩
 refine wp_ret ?_
 refine bodyPost_ret (results_tmp rfl _ _ _) A.2 ⟨?_,BB⟩
 show Ending.returned (a.eval (.tmp 2))=_
 rw [t2]
theorem dclosedI {V F v x n k c} (h:DRI V F v x n k c):Calls Try.prog 55 #[v] V fun e w'=>e=.returned (.bool c)/\Below V.heap.size V w':=by
 obtain ⟨h1,h2,h3,h4⟩:=h
 rcases h4 with ⟨rfl,rfl,rfl⟩ | ⟨g,r,f,m,rfl,q2,q3,q4,q5⟩
 ·skip
  exact pclosednI V
 ·exact pclosedpI g f n k r c V q3
set_option maxRecDepth 100000 in
set_option maxHeartbeats 4000000 in
theorem plennI (V:World) :
  Calls Try.prog 62 #[.pointer none] V fun e w'=>e=.returned (.int .i64 ((0:Nat):Int))/\Below V.heap.size V w':=by
 go_enter Try.func62,Try.ntmps62
 refine wo_ 9 [(0,.pointer none)] ?_
 rintro a A ⟨t0,-⟩
 have BW:Below V.heap.size V V:=Below.refl _ _
 have BB:Below V.heap.size V V:=Below.refl _ _
 refine wp_seq ?_
 refine wi_ A (h1_ t0) (rf_ [] (h1_ t0) ?_)
 rintro a A - ⟨t0,-⟩
 refine wp_seq (wp_seq ?_)
 refine wi_ A (h1_ t0) (rv_ 1 (.bool true) (fun a E=>execDIeqln rfl (E _)) (rf_ [(4,.bool true)] (h1_ t0) ?_))
 rintro a A ⟨t4,-⟩ ⟨t0,-⟩
 refine wp_cond_true t4 ?_
 clear t4
 refine wp_seq ?_
 refine wi_ A (h1_ t0) (rg_ [(2,.int .i64 ((0:Nat):Int))] ?_)
 rintro a A ⟨t2,-⟩
 refine wp_ret ?_
 repeat (first | with_reducible refine ret_in ?_ | with_reducible refine ret_then ?_)
 refine bodyPost_ret (results_tmp rfl _ _ _) A.2 ⟨?_,BB⟩
 show Ending.returned (a.eval (.tmp 2))=_
 rw [t2]
set_option maxRecDepth 100000 in
set_option maxHeartbeats 4000000 in
theorem plenpI (g f n k:Nat) (r:Value) (c:Bool) (V:World) (hg:V.heap[g]?=some (.cells (pC r f n k c) 95)) :
  Calls Try.prog 62 #[.pointer (some ⟨g,0,none⟩)] V fun e w'=>e=.returned (.int .i64 ((n:Nat):Int))/\Below V.heap.size V w':=by
 go_enter Try.func62,Try.ntmps62
 refine wo_ 9 [(0,.pointer (some ⟨g,0,none⟩))] ?_
 rintro a A ⟨t0,-⟩
 have BW:Below V.heap.size V V:=Below.refl _ _
 have BB:Below V.heap.size V V:=Below.refl _ _
 refine wp_seq ?_
 refine wi_ A (h1_ t0) (rf_ [] (h1_ t0) ?_)
 rintro a A - ⟨t0,-⟩
 refine wp_seq (wp_seq ?_)
 refine wi_ A (h1_ t0) (rv_ 1 (.bool false) (fun a E=>execDIeqls rfl (E _)) (rf_ [(4,.bool false)] (h1_ t0) ?_))
 rintro a A ⟨t4,-⟩ ⟨t0,-⟩
 refine wp_cond_false t4 (wp_skip ?_)
 clear t4
 refine wp_seq ?_
 refine wi_ A (h1_ t0) (rv_ 1 (.pointer (some ⟨g,0,none⟩)) (fun a E=>execNl rfl (E _)) (rv_ 2 (.pointer (some ⟨g,2,none⟩)) (fun a E=>execFp2I rfl (E _)) (rv_ 3 (.int .i64 ((n:Nat):Int)) (fun a E=>execL1I rfl (Or.inr (Or.inl rfl)) (E _) (pC_at (on9 hg BB)).2.2.1) (rg_ [(2,.int .i64 ((n:Nat):Int))] ?_))))
 rintro a A ⟨t2,-⟩
 refine wp_ret ?_
 refine bodyPost_ret (results_tmp rfl _ _ _) A.2 ⟨?_,BB⟩
 show Ending.returned (a.eval (.tmp 2))=_
 rw [t2]
theorem dlenI {V F v x n k c} (h:DRI V F v x n k c):Calls Try.prog 62 #[v] V fun e w'=>e=.returned (.int .i64 ((n:Nat):Int))/\Below V.heap.size V w':=by
 obtain ⟨h1,h2,h3,h4⟩:=h
 rcases h4 with ⟨rfl,rfl,rfl⟩ | ⟨g,r,f,m,rfl,q2,q3,q4,q5⟩
 ·obtain rfl:n=0:=by omega
  exact plennI V
 ·exact plenpI g f n k r c V q3
set_option maxRecDepth 100000 in
set_option maxHeartbeats 4000000 in
theorem pcapnI (V:World) :
  Calls Try.prog 63 #[.pointer none] V fun e w'=>e=.returned (.int .i64 ((0:Nat):Int))/\Below V.heap.size V w':=by
 go_enter Try.func63,Try.ntmps63
 refine wo_ 9 [(0,.pointer none)] ?_
 rintro a A ⟨t0,-⟩
 have BW:Below V.heap.size V V:=Below.refl _ _
 have BB:Below V.heap.size V V:=Below.refl _ _
 refine wp_seq ?_
 refine wi_ A (h1_ t0) (rf_ [] (h1_ t0) ?_)
 rintro a A - ⟨t0,-⟩
 refine wp_seq (wp_seq ?_)
 refine wi_ A (h1_ t0) (rv_ 1 (.bool true) (fun a E=>execDIeqln rfl (E _)) (rf_ [(4,.bool true)] (h1_ t0) ?_))
 rintro a A ⟨t4,-⟩ ⟨t0,-⟩
 refine wp_cond_true t4 ?_
 clear t4
 refine wp_seq ?_
 refine wi_ A (h1_ t0) (rg_ [(2,.int .i64 ((0:Nat):Int))] ?_)
 rintro a A ⟨t2,-⟩
 refine wp_ret ?_
 repeat (first | with_reducible refine ret_in ?_ | with_reducible refine ret_then ?_)
 refine bodyPost_ret (results_tmp rfl _ _ _) A.2 ⟨?_,BB⟩
 show Ending.returned (a.eval (.tmp 2))=_
 rw [t2]
set_option maxRecDepth 100000 in
set_option maxHeartbeats 4000000 in
theorem pcappI (g f n k:Nat) (r:Value) (c:Bool) (V:World) (hg:V.heap[g]?=some (.cells (pC r f n k c) 95)) :
  Calls Try.prog 63 #[.pointer (some ⟨g,0,none⟩)] V fun e w'=>e=.returned (.int .i64 ((k:Nat):Int))/\Below V.heap.size V w':=by
 go_enter Try.func63,Try.ntmps63
 refine wo_ 9 [(0,.pointer (some ⟨g,0,none⟩))] ?_
 rintro a A ⟨t0,-⟩
 have BW:Below V.heap.size V V:=Below.refl _ _
 have BB:Below V.heap.size V V:=Below.refl _ _
 refine wp_seq ?_
 refine wi_ A (h1_ t0) (rf_ [] (h1_ t0) ?_)
 rintro a A - ⟨t0,-⟩
 refine wp_seq (wp_seq ?_)
 refine wi_ A (h1_ t0) (rv_ 1 (.bool false) (fun a E=>execDIeqls rfl (E _)) (rf_ [(4,.bool false)] (h1_ t0) ?_))
 rintro a A ⟨t4,-⟩ ⟨t0,-⟩
 refine wp_cond_false t4 (wp_skip ?_)
 clear t4
 refine wp_seq ?_
 refine wi_ A (h1_ t0) (rv_ 1 (.pointer (some ⟨g,0,none⟩)) (fun a E=>execNl rfl (E _)) (rv_ 2 (.pointer (some ⟨g,3,none⟩)) (fun a E=>execFp3I rfl (E _)) (rv_ 3 (.int .i64 ((k:Nat):Int)) (fun a E=>execL1I rfl (Or.inr (Or.inl rfl)) (E _) (pC_at (on9 hg BB)).2.2.2.1) (rg_ [(2,.int .i64 ((k:Nat):Int))] ?_))))
 rintro a A ⟨t2,-⟩
 refine wp_ret ?_
 refine bodyPost_ret (results_tmp rfl _ _ _) A.2 ⟨?_,BB⟩
 show Ending.returned (a.eval (.tmp 2))=_
 rw [t2]
theorem dcapI {V F v x n k c} (h:DRI V F v x n k c):Calls Try.prog 63 #[v] V fun e w'=>e=.returned (.int .i64 ((k:Nat):Int))/\Below V.heap.size V w':=by
 obtain ⟨h1,h2,h3,h4⟩:=h
 rcases h4 with ⟨rfl,rfl,rfl⟩ | ⟨g,r,f,m,rfl,q2,q3,q4,q5⟩
 ·skip
  exact pcapnI V
 ·exact pcappI g f n k r c V q3
set_option maxRecDepth 100000 in
set_option maxHeartbeats 4000000 in
theorem pcanput_tI (v:Value) (F:Nat->Prop) (x:Nat->Value) (n k:Nat) (V:World) (h:DRI V F v x n k true) :
  Calls Try.prog 56 #[v] V fun e w'=>e=.returned (.bool false)/\Below V.heap.size V w':=by
 go_enter Try.func56,Try.ntmps56
 refine wo_ 13 [(0,v)] ?_
 rintro a A ⟨t0,-⟩
 have BW:Below V.heap.size V V:=Below.refl _ _
 have BB:Below V.heap.size V V:=Below.refl _ _
 refine wp_seq ?_
 refine wi_ A (h1_ t0) (rf_ [] (h1_ t0) ?_)
 rintro a A - ⟨t0,-⟩
 refine wp_seq ?_
 refine wi_ A (h1_ t0) (rc_ 1 (dclosedI ((h).frame (fun b_ hF_=>(BB).block b_ ((h).2.2.1 b_ hF_)) (BB).size)) (cb_ fun X1 bQ=>?_))
 replace BB:=BB.trans (bQ.mono BB.size)
 clear bQ
 refine rv_ 2 (.bool false) (fun a E=>execNot8 (b:=true) rfl (E _)) (rg_ [(2,.bool false)] ?_)
 rintro a A ⟨t2,-⟩
 refine wp_ret ?_
 refine bodyPost_ret (results_tmp rfl _ _ _) A.2 ⟨?_,BB⟩
 show Ending.returned (a.eval (.tmp 2))=_
 rw [t2]
set_option maxRecDepth 100000 in
set_option maxHeartbeats 4000000 in
theorem pcanput_fI (v:Value) (F:Nat->Prop) (x:Nat->Value) (n k:Nat) (V:World) (h:DRI V F v x n k false) :
  Calls Try.prog 56 #[v] V fun e w'=>e=.returned (.bool (decide (n < k)))/\Below V.heap.size V w':=by
 go_enter Try.func56,Try.ntmps56
 refine wo_ 13 [(0,v)] ?_
 rintro a A ⟨t0,-⟩
 have BW:Below V.heap.size V V:=Below.refl _ _
 have BB:Below V.heap.size V V:=Below.refl _ _
 refine wp_seq ?_
 refine wi_ A (h1_ t0) (rf_ [] (h1_ t0) ?_)
 rintro a A - ⟨t0,-⟩
 refine wp_seq ?_
 refine wi_ A (h1_ t0) (rc_ 1 (dclosedI ((h).frame (fun b_ hF_=>(BB).block b_ ((h).2.2.1 b_ hF_)) (BB).size)) (cb_ fun X1_1 bQ=>?_))
 replace BB:=BB.trans (bQ.mono BB.size)
 clear bQ
 refine rv_ 2 (.bool true) (fun a E=>execNot8 (b:=false) rfl (E _)) (rc_ 5 (dlenI ((h).frame (fun b_ hF_=>(BB).block b_ ((h).2.2.1 b_ hF_)) (BB).size)) (cb_ fun X1_2 bQ=>?_))
 replace BB:=BB.trans (bQ.mono BB.size)
 clear bQ
 refine rc_ 7 (dcapI ((h).frame (fun b_ hF_=>(BB).block b_ ((h).2.2.1 b_ hF_)) (BB).size)) (cb_ fun X1 bQ=>?_)
 replace BB:=BB.trans (bQ.mono BB.size)
 clear bQ
 refine rv_ 8 (.bool (decide (n < k))) (fun a E=>execLtW (p:=n) (q:=k) rfl (E _) (E _)) (rg_ [(2,.bool (decide (n < k)))] ?_)
 rintro a A ⟨t2,-⟩
 refine wp_ret ?_
 refine bodyPost_ret (results_tmp rfl _ _ _) A.2 ⟨?_,BB⟩
 show Ending.returned (a.eval (.tmp 2))=_
 rw [t2]
theorem dcanputI {V F v x n k c} (h:DRI V F v x n k c):Calls Try.prog 56 #[v] V fun e w'=>e=.returned (.bool (decide (c=false/\n < k)))/\Below V.heap.size V w':=by
 cases c with
 | true=>
  rw [decide_eq_false (fun q=>by cases q.1)]
  exact pcanput_tI v F x n k V h
 | false=>
  rw [show decide (false=false/\n < k)=decide (n < k) from by simp]
  exact pcanput_fI v F x n k V h
set_option maxRecDepth 100000 in
set_option maxHeartbeats 4000000 in
theorem pcantakeI (v:Value) (F:Nat->Prop) (x:Nat->Value) (n k:Nat) (c:Bool) (V:World) (h:DRI V F v x n k c) :
  Calls Try.prog 64 #[v] V fun e w'=>e=.returned (.bool (decide (0 < n)))/\Below V.heap.size V w':=by
 go_enter Try.func64,Try.ntmps64
 refine wo_ 6 [(0,v)] ?_
 rintro a A ⟨t0,-⟩
 have BW:Below V.heap.size V V:=Below.refl _ _
 have BB:Below V.heap.size V V:=Below.refl _ _
 refine wp_seq ?_
 refine wi_ A (h1_ t0) (rf_ [] (h1_ t0) ?_)
 rintro a A - ⟨t0,-⟩
 refine wp_seq ?_
 refine wi_ A (h1_ t0) (rc_ 1 (dlenI ((h).frame (fun b_ hF_=>(BB).block b_ ((h).2.2.1 b_ hF_)) (BB).size)) (cb_ fun X1 bQ=>?_))
 replace BB:=BB.trans (bQ.mono BB.size)
 clear bQ
 refine rv_ 2 (.bool (decide (0 < n))) (fun a E=>execGtN (p:=n) (q:=0) rfl (E _) rfl) (rg_ [(2,.bool (decide (0 < n)))] ?_)
 rintro a A ⟨t2,-⟩
 refine wp_ret ?_
 refine bodyPost_ret (results_tmp rfl _ _ _) A.2 ⟨?_,BB⟩
 show Ending.returned (a.eval (.tmp 2))=_
 rw [t2]
set_option maxRecDepth 100000 in
set_option maxHeartbeats 4000000 in
theorem pnew_lI (s:Int) (V:World) (hs:s < 0) :
  Calls Try.prog 40 #[.int .i64 s] V fun e w'=>e=.returned (.tuple #[.pointer none,.int .i64 ((2:Nat):Int)])/\Below V.heap.size V w':=by
 go_enter Try.func40,Try.ntmps40
 refine wo_ 13 [(0,.int .i64 s)] ?_
 rintro a A ⟨t0,-⟩
 have BW:Below V.heap.size V V:=Below.refl _ _
 have BB:Below V.heap.size V V:=Below.refl _ _
 refine wp_seq ?_
 refine wi_ A (h1_ t0) (rf_ [] (h1_ t0) ?_)
 rintro a A - ⟨t0,-⟩
 refine wp_seq (wp_seq ?_)
 refine wi_ A (h1_ t0) (rv_ 1 (.bool true) (fun a E=>execDec (exIlss3 (p:=s) (q:=0) rfl (E _) rfl) (decide_eq_true hs)) (rf_ [(9,.bool true)] (h1_ t0) ?_))
 rintro a A ⟨t9,-⟩ ⟨t0,-⟩
 refine wp_cond_true t9 ?_
 clear t9
 refine wp_seq ?_
 refine wi_ A (h1_ t0) (rg_ [(2,.pointer none),(3,.int .i64 ((2:Nat):Int))] ?_)
 rintro a A ⟨t2,t3,-⟩
 refine wp_ret ?_
 repeat (first | with_reducible refine ret_in ?_ | with_reducible refine ret_then ?_)
 refine bodyPost_ret (results_tmp2 rfl _ _ _) A.2 ⟨?_,BB⟩
 show Ending.returned (.tuple #[a.eval (.tmp 2),a.eval (.tmp 3)])=_
 rw [t2,t3]
set_option maxRecDepth 100000 in
set_option maxHeartbeats 4000000 in
theorem pnew_hI (s:Int) (V:World) (hs:1024 < s) :
  Calls Try.prog 40 #[.int .i64 s] V fun e w'=>e=.returned (.tuple #[.pointer none,.int .i64 ((2:Nat):Int)])/\Below V.heap.size V w':=by
 have h0:¬ s < 0:=by omega
 go_enter Try.func40,Try.ntmps40
 refine wo_ 13 [(0,.int .i64 s)] ?_
 rintro a A ⟨t0,-⟩
 have BW:Below V.heap.size V V:=Below.refl _ _
 have BB:Below V.heap.size V V:=Below.refl _ _
 refine wp_seq ?_
 refine wi_ A (h1_ t0) (rf_ [] (h1_ t0) ?_)
 rintro a A - ⟨t0,-⟩
 refine wp_seq (wp_seq ?_)
 refine wi_ A (h1_ t0) (rv_ 1 (.bool false) (fun a E=>execDec (exIlss3 (p:=s) (q:=0) rfl (E _) rfl) (decide_eq_false (by omega))) (rv_ 4 (.bool true) (fun a E=>execDec (exIgtr3 (p:=s) (q:=1024) rfl (E _) rfl) (decide_eq_true hs)) (rf_ [(9,.bool true)] (h1_ t0) ?_)))
 rintro a A ⟨t9,-⟩ ⟨t0,-⟩
 refine wp_cond_true t9 ?_
 clear t9
 refine wp_seq ?_
 refine wi_ A (h1_ t0) (rg_ [(2,.pointer none),(3,.int .i64 ((2:Nat):Int))] ?_)
 rintro a A ⟨t2,t3,-⟩
 refine wp_ret ?_
 repeat (first | with_reducible refine ret_in ?_ | with_reducible refine ret_then ?_)
 refine bodyPost_ret (results_tmp2 rfl _ _ _) A.2 ⟨?_,BB⟩
 show Ending.returned (.tuple #[a.eval (.tmp 2),a.eval (.tmp 3)])=_
 rw [t2,t3]
set_option maxRecDepth 100000 in
set_option maxHeartbeats 4000000 in
theorem pnew_oI (k:Nat) (x:Nat->Value) (V:World) (hk:k<=1024) :
  Calls Try.prog 40 #[.int .i64 ((k:Nat):Int)] V fun e w'=>(∃ g F,e=.returned (.tuple #[.pointer (some ⟨g,0,none⟩),.int .i64 ((0:Nat):Int)])/\DRI w' F (.pointer (some ⟨g,0,none⟩)) x 0 k false/\∀ q,F q->V.heap.size<=q)/\Below V.heap.size V w':=by
 go_enter Try.func40,Try.ntmps40
 refine wo_ 13 [(0,.int .i64 ((k:Nat):Int))] ?_
 rintro a A ⟨t0,-⟩
 have BW:Below V.heap.size V V:=Below.refl _ _
 have BB:Below V.heap.size V V:=Below.refl _ _
 refine wp_seq ?_
 refine wi_ A (h1_ t0) (rf_ [] (h1_ t0) ?_)
 rintro a A - ⟨t0,-⟩
 refine wp_seq (wp_seq ?_)
 refine wi_ A (h1_ t0) (rv_ 1 (.bool false) (fun a E=>execDec (exIlss3 (p:=((k:Nat):Int)) (q:=0) rfl (E _) rfl) (decide_eq_false (by omega))) (rv_ 4 (.bool false) (fun a E=>execDec (exIgtr3 (p:=((k:Nat):Int)) (q:=1024) rfl (E _) rfl) (decide_eq_false (by omega))) (rf_ [(9,.bool false)] (h1_ t0) ?_)))
 rintro a A ⟨t9,-⟩ ⟨t0,-⟩
 refine wp_cond_false t9 (wp_skip ?_)
 clear t9
 refine wp_seq ?_
 obtain ⟨g,egg⟩:∃ z_:Nat,V.heap.size=z_:=⟨_,rfl⟩
 refine wi_ A (h1_ t0) (rv_ 1 (.agg (pC (.slice none 0 0) 0 0 k false)) (fun a E=>execBdI rfl (E _)) (rs_ 2 (fun a E=>?_)))
 refine stepV rfl rfl (execBxI rfl (E _)) ⟨.pointer (some ⟨g,0,none⟩),⟨_,rfl,by subst egg; rfl⟩,fun X3 hX=>?_⟩
 have bQ:Below V.heap.size V X3:=by subst hX egg; exact (belNew V _)
 have Fg:(X3.heap[g]?=some (.cells (pC (.slice none 0 0) 0 0 k false) 95)):=by subst hX egg; exact heapNew V _
 have Fge:(V.heap.size<=g):=by subst hX egg; exact (BB).size
 replace BB:=BB.trans (bQ.mono BB.size)
 clear bQ hX egg E a
 refine rg_ [(2,.pointer (some ⟨g,0,none⟩)),(3,.int .i64 ((0:Nat):Int))] ?_
 rintro a A ⟨t2,t3,-⟩
 refine wp_ret ?_
 refine bodyPost_ret (results_tmp2 rfl _ _ _) A.2 ⟨⟨g,fun q=>q=g,?_,⟨Nat.zero_le _,hk,fun q hq=>by rw [hq]; exact (Array.getElem?_eq_some_iff.1 Fg).1,Or.inr ⟨g,_,0,0,rfl,rfl,Fg,Nat.zero_le _,Or.inl ⟨rfl,rfl,rfl,rfl⟩⟩⟩,fun q hq=>by rw [hq]; exact Fge⟩,BB⟩
 show Ending.returned (.tuple #[a.eval (.tmp 2),a.eval (.tmp 3)])=_
 rw [t2,t3]
theorem dnewI (s:Int) (V:World) (x:Nat->Value):Calls Try.prog 40 #[.int .i64 s] V fun e w'=>((0<=s/\s<=1024->∃ b F,e=.returned (.tuple #[.pointer (some ⟨b,0,none⟩),.int .i64 ((0:Nat):Int)])/\DRI w' F (.pointer (some ⟨b,0,none⟩)) x 0 s.toNat false/\∀ q,F q->V.heap.size<=q)/\(¬ (0<=s/\s<=1024)->e=.returned (.tuple #[.pointer none,.int .i64 ((2:Nat):Int)])))/\Below V.heap.size V w':=by
 by_cases h1:s < 0
 ·exact Calls.mono (pnew_lI s V h1) fun e w' ⟨he,hb⟩=>⟨⟨fun q=>by omega,fun _=>he⟩,hb⟩
 ·by_cases h2:1024 < s
  ·exact Calls.mono (pnew_hI s V h2) fun e w' ⟨he,hb⟩=>⟨⟨fun q=>by omega,fun _=>he⟩,hb⟩
  ·obtain ⟨k,rfl⟩:∃ k:Nat,s=k:=⟨s.toNat,by omega⟩
   exact Calls.mono (pnew_oI k x V (by omega)) fun e w' ⟨he,hb⟩=>⟨⟨fun _=>by rw [Int.toNat_natCast]; exact he,fun q=>by omega⟩,hb⟩
set_option maxRecDepth 100000 in
set_option maxHeartbeats 4000000 in
theorem pclose_tI (v:Value) (F:Nat->Prop) (x:Nat->Value) (n k:Nat) (V:World) (h:DRI V F v x n k true) :
  Calls Try.prog 68 #[v] V fun e w'=>∃ F',e=.returned (.int .i64 ((180:Nat):Int))/\DRI w' F' v x n k true/\Saved F V w'/\∀ q,F' q->F q\/V.heap.size<=q:=by
 have hD:=h
 go_enter Try.func68,Try.ntmps68
 refine wo_ 8 [(0,v)] ?_
 rintro a A ⟨t0,-⟩
 have BW:Below V.heap.size V V:=Below.refl _ _
 have BB:Below V.heap.size V V:=Below.refl _ _
 refine wp_seq ?_
 refine wi_ A (h1_ t0) (rf_ [] (h1_ t0) ?_)
 rintro a A - ⟨t0,-⟩
 refine wp_seq (wp_seq ?_)
 refine wi_ A (h1_ t0) (rc_ 1 (dclosedI ((hD).frame (fun b_ hF_=>(BB).block b_ ((hD).2.2.1 b_ hF_)) (BB).size)) (cb_ fun X1 bQ=>?_))
 replace BB:=BB.trans (bQ.mono BB.size)
 clear bQ
 refine rf_ [(4,.bool true)] (h1_ t0) ?_
 rintro a A ⟨t4,-⟩ ⟨t0,-⟩
 refine wp_cond_true t4 ?_
 clear t4
 refine wp_seq ?_
 refine wi_ A (h1_ t0) (rg_ [(2,.int .i64 ((180:Nat):Int))] ?_)
 rintro a A ⟨t2,-⟩
 obtain ⟨F',q1,q2,q3⟩:=hD.same BB
 refine wp_ret ?_
 repeat (first | with_reducible refine ret_in ?_ | with_reducible refine ret_then ?_)
 refine bodyPost_ret (results_tmp rfl _ _ _) A.2 ⟨F',?_,q1,q2,q3⟩
 show Ending.returned (a.eval (.tmp 2))=_
 rw [t2]
set_option maxRecDepth 100000 in
set_option maxHeartbeats 4000000 in
theorem pclose_fI (v:Value) (F:Nat->Prop) (x:Nat->Value) (n k:Nat) (V:World) (h:DRI V F v x n k false) :
  Calls Try.prog 68 #[v] V fun e w'=>∃ F',e=.returned (.int .i64 ((0:Nat):Int))/\DRI w' F' v x n k true/\Saved F V w'/\∀ q,F' q->F q\/V.heap.size<=q:=by
 have hD:=h
 obtain ⟨h1,h2,h3,h4⟩:=h
 rcases h4 with ⟨-,-,e⟩ | ⟨g,r,f,m,rfl,gF,hg,hmk,hR⟩
 ·cases e
 go_enter Try.func68,Try.ntmps68
 refine wo_ 8 [(0,.pointer (some ⟨g,0,none⟩))] ?_
 rintro a A ⟨t0,-⟩
 have BW:Below V.heap.size V V:=Below.refl _ _
 have BB:Below V.heap.size V V:=Below.refl _ _
 refine wp_seq ?_
 refine wi_ A (h1_ t0) (rf_ [] (h1_ t0) ?_)
 rintro a A - ⟨t0,-⟩
 refine wp_seq (wp_seq ?_)
 refine wi_ A (h1_ t0) (rc_ 1 (dclosedI ((hD).frame (fun b_ hF_=>(BB).block b_ ((hD).2.2.1 b_ hF_)) (BB).size)) (cb_ fun X1 bQ=>?_))
 replace BB:=BB.trans (bQ.mono BB.size)
 clear bQ
 refine rf_ [(4,.bool false)] (h1_ t0) ?_
 rintro a A ⟨t4,-⟩ ⟨t0,-⟩
 refine wp_cond_false t4 (wp_skip ?_)
 clear t4
 refine wp_seq ?_
 have hgX:=on9 hg BB
 refine wi_ A (h1_ t0) (?_)
 refine rv_ 1 (.pointer (some ⟨g,0,none⟩)) (fun a E=>execNl rfl (E _)) (rv_ 2 (.pointer (some ⟨g,4,none⟩)) (fun a E=>execFp4I rfl (E _)) (rs_ 3 (fun a E=>?_)))
 refine stepS rfl rfl (execS1I rfl (Or.inr (Or.inr (Or.inl rfl))) (E _) rfl (Or.inr (Or.inl ⟨_,rfl⟩)) (pC_at hgX).2.2.2.2 (frozen4 hgX)) ⟨_,⟨_,rfl,rfl⟩,fun X3 hX=>?_⟩
 refine rg_ [] ?_
 rintro a A -
 obtain ⟨F',q1,q2,q3⟩:=hD.close (by decide) BB rfl hX
 clear hX
 have BW:Below X3.heap.size X3 X3:=Below.refl _ _
 refine wp_seq ?_
 refine wi_ A h0_ (rg_ [(2,.int .i64 ((0:Nat):Int))] ?_)
 rintro a A ⟨t2,-⟩
 refine wp_ret ?_
 refine bodyPost_ret (results_tmp rfl _ _ _) A.2 ⟨F',?_,q1,q2,q3⟩
 show Ending.returned (a.eval (.tmp 2))=_
 rw [t2]
set_option maxRecDepth 100000 in
set_option maxHeartbeats 4000000 in
theorem pwiden_nI (g k:Nat) (c:Bool) (x:Nat->Value) (F:Nat->Prop) (V:World) (hg:V.heap[g]?=some (.cells (pC (.slice none 0 0) 0 0 k c) 95)) (gF:F g) (hk:0 < k) (k1:k<=1024) :
  Calls Try.prog 73 #[.pointer (some ⟨g,0,none⟩)] V fun e w'=>∃ b M y,e=.returned (.tuple #[])/\DqI V F g b 0 M 0 k c y w'/\0 < M/\∀ j,j < 0->y j=x j:=by
 obtain ⟨M,hM⟩:∃ M,M=min (2 * 0+1) k:=⟨_,rfl⟩
 go_enter Try.func73,Try.ntmps73
 refine wo_ 48 [(0,.pointer (some ⟨g,0,none⟩))] ?_
 rintro a A ⟨t0,-⟩
 have BW:Below V.heap.size V V:=Below.refl _ _
 have BB:Below V.heap.size V V:=Below.refl _ _
 refine wp_seq ?_
 refine wj_ [0,1,2,3,4,5,6,7,8,9,10,11,12,13] [12] [3,10] [] A (h1_ t0) (fun X0_0 bD=>?_)
 obtain ⟨b,egb⟩:∃ z_:Nat,X0_0.heap.size=z_:=⟨_,rfl⟩
 refine dw_ 1 (.pointer (some ⟨g,0,none⟩)) (fun a X E=>execNl rfl (E _)) (dw_ 2 (.pointer (some ⟨g,0,none⟩)) (fun a X E=>execFp0I rfl (E _)) (dv_ 3 (.slice none 0 0) (fun a X E hb=>execL1I rfl (Or.inl rfl) (E _) (pC_at (on9 hg (BB.trans (hb.mono BB.size)))).1) (dw_ 4 (.int .i64 ((0:Nat):Int)) (fun a X E=>execLnI (len:=0) rfl (E _) ⟨_,_,rfl⟩) (dw_ 5 (.int .i64 ((2 * 0:Nat):Int)) (fun a X E=>execMulI (p:=2) (q:=0) rfl rfl (E _) (by omega)) (dw_ 6 (.int .i64 ((2 * 0+1:Nat):Int)) (fun a X E=>execAd8 (p:=2 * 0) (q:=1) rfl (E _) rfl (by omega)) (dw_ 8 (.pointer (some ⟨g,0,none⟩)) (fun a X E=>execNl rfl (E _)) (dw_ 9 (.pointer (some ⟨g,3,none⟩)) (fun a X E=>execFp3I rfl (E _)) (dv_ 10 (.int .i64 ((k:Nat):Int)) (fun a X E hb=>execL1I rfl (Or.inr (Or.inl rfl)) (E _) (pC_at (on9 hg (BB.trans (hb.mono BB.size)))).2.2.2.1) (dw_ 11 (.int .i64 ((M:Nat):Int)) (fun a X E=>execMinEI (p:=2 * 0+1) (q:=k) hM rfl (E _) (E _)) (ds_ 12 (fun a E=>?_)))))))))))
 refine stepV rfl rfl (execMkI rfl (E _) (E _) (by omega)) ⟨.slice (some ⟨b,0,none⟩) M M,⟨_,rfl,by subst egb; rfl⟩,fun X0 hX=>?_⟩
 have bQ:Below X0_0.heap.size X0_0 X0:=by subst hX egb; exact (belNew X0_0 _)
 have Fb:(X0.heap[b]?=some (.cells (rA M (fun _=>.int .i64 0)) 3)):=by subst hX egb; exact heapNew X0_0 _
 have Fge:(V.heap.size<=b):=by subst hX egb; exact ((BB.trans (bD.mono BB.size))).size
 replace bD:=bD.trans (bQ.mono bD.size)
 clear bQ hX egb E a
 refine ⟨Or.inr bD,?_⟩
 refine dz_ [(2,.slice (some ⟨b,0,none⟩) M M)] (h1_ t0) ?_
 rintro a A ⟨t2,-⟩ ⟨t0,-⟩
 replace BB:=BB.trans (bD.mono BB.size)
 clear bD
 refine wp_seq ?_
 refine wj_ [0,1,2,3,4,5,6,7,8,9,10,11] [] [4,8] [] A (h2_ t0 t2) (fun X1 bD=>?_)
 refine dw_ 2 (.pointer (some ⟨g,0,none⟩)) (fun a X E=>execNl rfl (E _)) (dw_ 3 (.pointer (some ⟨g,0,none⟩)) (fun a X E=>execFp0I rfl (E _)) (dv_ 4 (.slice none 0 0) (fun a X E hb=>execL1I rfl (Or.inl rfl) (E _) (pC_at (on9 hg (BB.trans (hb.mono BB.size)))).1) (dw_ 6 (.pointer (some ⟨g,0,none⟩)) (fun a X E=>execNl rfl (E _)) (dw_ 7 (.pointer (some ⟨g,1,none⟩)) (fun a X E=>execFp1I rfl (E _)) (dv_ 8 (.int .i64 ((0:Nat):Int)) (fun a X E hb=>execL1I rfl (Or.inr (Or.inl rfl)) (E _) (pC_at (on9 hg (BB.trans (hb.mono BB.size)))).2.1) (dw_ 9 (.slice none 0 0) (fun a X E=>execSlIl rfl (E _) (E _) (slIn X)) (dw_ 10 (.int .i64 ((0:Nat):Int)) (fun a X E=>execC0I rfl (E _) (E _)) (dz_ [(3,.int .i64 ((0:Nat):Int))] (h2_ t0 t2) ?_))))))))
 rintro a A ⟨t3,-⟩ ⟨t0,t2,-⟩
 replace Fb:=(on9 Fb bD)
 replace BB:=BB.trans (bD.mono BB.size)
 clear bD
 refine wp_seq ?_
 refine wj_ [0,1,2,3,4,5,6,7,8,9,10,11,12] [] [6,10] [] A (h3_ t0 t2 t3) (fun X2 bD=>?_)
 refine dw_ 2 (.slice (some ⟨b,0,none⟩) (M - 0) (M - 0)) (fun a X E=>execSlIl rfl (E _) (E _) (slIl b M (0) (by omega) X)) (dw_ 4 (.pointer (some ⟨g,0,none⟩)) (fun a X E=>execNl rfl (E _)) (dw_ 5 (.pointer (some ⟨g,0,none⟩)) (fun a X E=>execFp0I rfl (E _)) (dv_ 6 (.slice none 0 0) (fun a X E hb=>execL1I rfl (Or.inl rfl) (E _) (pC_at (on9 hg (BB.trans (hb.mono BB.size)))).1) (dw_ 8 (.pointer (some ⟨g,0,none⟩)) (fun a X E=>execNl rfl (E _)) (dw_ 9 (.pointer (some ⟨g,1,none⟩)) (fun a X E=>execFp1I rfl (E _)) (dv_ 10 (.int .i64 ((0:Nat):Int)) (fun a X E hb=>execL1I rfl (Or.inr (Or.inl rfl)) (E _) (pC_at (on9 hg (BB.trans (hb.mono BB.size)))).2.1) (dw_ 11 (.slice none 0 0) (fun a X E=>execSlIh rfl (E _) (E _) (slIm X)) (dw_ 12 (.int .i64 ((0:Nat):Int)) (fun a X E=>execC0I rfl (E _) (E _)) (dz_ [] (h2_ t0 t2) ?_)))))))))
 rintro a A - ⟨t0,t2,-⟩
 replace Fb:=(on9 Fb bD)
 replace BB:=BB.trans (bD.mono BB.size)
 clear bD
 have hg3:=on9 hg BB
 refine wi_ A (h2_ t0 t2) (rv_ 3 (.pointer (some ⟨g,0,none⟩)) (fun a E=>execNl rfl (E _)) (rv_ 4 (.pointer (some ⟨g,0,none⟩)) (fun a E=>execFp0I rfl (E _)) (rs_ 5 (fun a E=>?_))))
 refine stepS rfl rfl (execS1I rfl (Or.inl rfl) (E _) (E _) (Or.inr (Or.inr (Or.inr ⟨_,_,_,rfl⟩))) (pC_at hg3).1 (frozen4 hg3)) ⟨_,⟨_,rfl,rfl⟩,fun X5 hX5=>?_⟩
 have hg5:=pC_set0 (u:=.slice (some ⟨b,0,none⟩) M M) hg3
 rw [show World.setCell _ ⟨g,0,none⟩ (.slice (some ⟨b,0,none⟩) M M)=X5 from hX5.symm] at hg5
 refine rv_ 6 (.pointer (some ⟨g,0,none⟩)) (fun a E=>execNl rfl (E _)) (rv_ 7 (.pointer (some ⟨g,1,none⟩)) (fun a E=>execFp1I rfl (E _)) (rs_ 8 (fun a E=>?_)))
 refine stepS rfl rfl (execS1I rfl (Or.inr (Or.inl rfl)) (E _) rfl (Or.inl ⟨_,_,rfl⟩) (pC_at hg5).2.1 (frozen4 hg5)) ⟨_,⟨_,rfl,rfl⟩,fun X6 hX6=>?_⟩
 have hg6:=pC_set1 (z:=0) hg5
 have hne:b ≠ g:=by have:=(Array.getElem?_eq_some_iff.1 hg).1; omega
 have hb6:X6.heap[b]?=some (.cells (rA M (fun _=>.int .i64 0)) 3):=by
  rw [hX6,heap4o _ hg5 hne,hX5,heap4o _ hg3 hne]
  exact Fb
 have hs6:Saved F V X6:=by
  rw [hX6,hX5]
  exact (((Saved.refl F V).below BB (Nat.le_refl _)).cell _ (Or.inr gF)).cell _ (Or.inr gF)
 rw [show X5.setCell ⟨g,1,none⟩ (.int .i64 ((0:Nat):Int))=X6 from hX6.symm] at hg6
 refine rg_ [] ?_
 rintro a A -
 exact bodyPost_end (results_none rfl _ _ _) A.2 ⟨b,M,_,rfl,⟨hs6,hg6,hb6,gF,Or.inr Fge,by omega,fun i hi=>zerI,by omega,k1⟩,by omega,fun j hj=>by omega⟩
set_option maxRecDepth 100000 in
set_option maxHeartbeats 4000000 in
theorem pwiden_rI (g b0 f m k:Nat) (c:Bool) (x y:Nat->Value) (F:Nat->Prop) (V:World) (hg:V.heap[g]?=some (.cells (pC (.slice (some ⟨b0,0,none⟩) m m) f m k c) 95)) (gF:F g) (hk:m < k) (k1:k<=1024) (hf:f < m) (hb0:V.heap[b0]?=some (.cells (rA m y) 3)) (el:∀ i,i < m->ElI (y i)) (hx:∀ j,j < m->y ((f+j) % m)=x j) :
  Calls Try.prog 73 #[.pointer (some ⟨g,0,none⟩)] V fun e w'=>∃ b M y,e=.returned (.tuple #[])/\DqI V F g b 0 M m k c y w'/\m < M/\∀ j,j < m->y j=x j:=by
 obtain ⟨M,hM⟩:∃ M,M=min (2 * m+1) k:=⟨_,rfl⟩
 go_enter Try.func73,Try.ntmps73
 refine wo_ 48 [(0,.pointer (some ⟨g,0,none⟩))] ?_
 rintro a A ⟨t0,-⟩
 have BW:Below V.heap.size V V:=Below.refl _ _
 have BB:Below V.heap.size V V:=Below.refl _ _
 refine wp_seq ?_
 refine wj_ [0,1,2,3,4,5,6,7,8,9,10,11,12,13] [12] [3,10] [] A (h1_ t0) (fun X0_0 bD=>?_)
 obtain ⟨b,egb⟩:∃ z_:Nat,X0_0.heap.size=z_:=⟨_,rfl⟩
 refine dw_ 1 (.pointer (some ⟨g,0,none⟩)) (fun a X E=>execNl rfl (E _)) (dw_ 2 (.pointer (some ⟨g,0,none⟩)) (fun a X E=>execFp0I rfl (E _)) (dv_ 3 (.slice (some ⟨b0,0,none⟩) m m) (fun a X E hb=>execL1I rfl (Or.inl rfl) (E _) (pC_at (on9 hg (BB.trans (hb.mono BB.size)))).1) (dw_ 4 (.int .i64 ((m:Nat):Int)) (fun a X E=>execLnI (len:=m) rfl (E _) ⟨_,_,rfl⟩) (dw_ 5 (.int .i64 ((2 * m:Nat):Int)) (fun a X E=>execMulI (p:=2) (q:=m) rfl rfl (E _) (by omega)) (dw_ 6 (.int .i64 ((2 * m+1:Nat):Int)) (fun a X E=>execAd8 (p:=2 * m) (q:=1) rfl (E _) rfl (by omega)) (dw_ 8 (.pointer (some ⟨g,0,none⟩)) (fun a X E=>execNl rfl (E _)) (dw_ 9 (.pointer (some ⟨g,3,none⟩)) (fun a X E=>execFp3I rfl (E _)) (dv_ 10 (.int .i64 ((k:Nat):Int)) (fun a X E hb=>execL1I rfl (Or.inr (Or.inl rfl)) (E _) (pC_at (on9 hg (BB.trans (hb.mono BB.size)))).2.2.2.1) (dw_ 11 (.int .i64 ((M:Nat):Int)) (fun a X E=>execMinEI (p:=2 * m+1) (q:=k) hM rfl (E _) (E _)) (ds_ 12 (fun a E=>?_)))))))))))
 refine stepV rfl rfl (execMkI rfl (E _) (E _) (by omega)) ⟨.slice (some ⟨b,0,none⟩) M M,⟨_,rfl,by subst egb; rfl⟩,fun X0 hX=>?_⟩
 have bQ:Below X0_0.heap.size X0_0 X0:=by subst hX egb; exact (belNew X0_0 _)
 have Fb:(X0.heap[b]?=some (.cells (rA M (fun _=>.int .i64 0)) 3)):=by subst hX egb; exact heapNew X0_0 _
 have Fge:(V.heap.size<=b):=by subst hX egb; exact ((BB.trans (bD.mono BB.size))).size
 replace bD:=bD.trans (bQ.mono bD.size)
 clear bQ hX egb E a
 refine ⟨Or.inr bD,?_⟩
 refine dz_ [(2,.slice (some ⟨b,0,none⟩) M M)] (h1_ t0) ?_
 rintro a A ⟨t2,-⟩ ⟨t0,-⟩
 replace BB:=BB.trans (bD.mono BB.size)
 clear bD
 refine wp_seq ?_
 refine wj_ [0,1,2,3,4,5,6,7,8,9,10,11] [10] [4,8] [10] A (h2_ t0 t2) (fun X1_0 bD=>?_)
 refine dw_ 2 (.pointer (some ⟨g,0,none⟩)) (fun a X E=>execNl rfl (E _)) (dw_ 3 (.pointer (some ⟨g,0,none⟩)) (fun a X E=>execFp0I rfl (E _)) (dv_ 4 (.slice (some ⟨b0,0,none⟩) m m) (fun a X E hb=>execL1I rfl (Or.inl rfl) (E _) (pC_at (on9 hg (BB.trans (hb.mono BB.size)))).1) (dw_ 6 (.pointer (some ⟨g,0,none⟩)) (fun a X E=>execNl rfl (E _)) (dw_ 7 (.pointer (some ⟨g,1,none⟩)) (fun a X E=>execFp1I rfl (E _)) (dv_ 8 (.int .i64 ((f:Nat):Int)) (fun a X E hb=>execL1I rfl (Or.inr (Or.inl rfl)) (E _) (pC_at (on9 hg (BB.trans (hb.mono BB.size)))).2.1) (dw_ 9 (.slice (some ⟨b0,f,none⟩) (m - f) (m - f)) (fun a X E=>execSlIl rfl (E _) (E _) (slIl b0 m f hf X)) (ds_ 10 (fun a E=>?_))))))))
 refine stepV rfl rfl (execCpI rfl (E _) (E _) (on9 Fb bD) (on9 hb0 (BB.trans (bD.mono BB.size))) (by show min (m - f) M=m - f; omega) (by omega) (by omega) el) ⟨_,⟨_,rfl,rfl⟩,fun X1 hX=>?_⟩
 obtain ⟨BB,Fb1⟩:Below V.heap.size V X1/\(X1.heap[b]?=some (.cells (rA M (splV (fun _=>.int .i64 0) 0 (m - f) fun j=>y (f+j))) 3)):=by subst hX; exact ⟨below4 (BB.trans (bD.mono BB.size)) Fge _,setRow_heap _ _ _ _ _ _ (on9 Fb bD)⟩
 clear bD Fb hX E a
 refine ⟨Or.inl rfl,?_⟩
 refine dz_ [(3,.int .i64 ((m - f:Nat):Int))] (h2_ t0 t2) ?_
 rintro a A ⟨t3,-⟩ ⟨t0,t2,-⟩
 refine wp_seq ?_
 refine wj_ [0,1,2,3,4,5,6,7,8,9,10,11,12] [12] [6,10] [12] A (h3_ t0 t2 t3) (fun X2_0 bD=>?_)
 refine dw_ 2 (.slice (some ⟨b,m - f,none⟩) (M - (m - f)) (M - (m - f))) (fun a X E=>execSlIl rfl (E _) (E _) (slIl b M (m - f) (by omega) X)) (dw_ 4 (.pointer (some ⟨g,0,none⟩)) (fun a X E=>execNl rfl (E _)) (dw_ 5 (.pointer (some ⟨g,0,none⟩)) (fun a X E=>execFp0I rfl (E _)) (dv_ 6 (.slice (some ⟨b0,0,none⟩) m m) (fun a X E hb=>execL1I rfl (Or.inl rfl) (E _) (pC_at (on9 hg (BB.trans (hb.mono BB.size)))).1) (dw_ 8 (.pointer (some ⟨g,0,none⟩)) (fun a X E=>execNl rfl (E _)) (dw_ 9 (.pointer (some ⟨g,1,none⟩)) (fun a X E=>execFp1I rfl (E _)) (dv_ 10 (.int .i64 ((f:Nat):Int)) (fun a X E hb=>execL1I rfl (Or.inr (Or.inl rfl)) (E _) (pC_at (on9 hg (BB.trans (hb.mono BB.size)))).2.1) (dw_ 11 (.slice (some ⟨b0,0,none⟩) f m) (fun a X E=>execSlIh rfl (E _) (E _) (slIh b0 m f (by omega) (by omega) X)) (ds_ 12 (fun a E=>?_)))))))))
 refine stepV rfl rfl (execCpI rfl (E _) (E _) (on9 Fb1 bD) (on9 hb0 (BB.trans (bD.mono BB.size))) (by show min f (M - (m - f))=f; omega) (by omega) (by omega) el) ⟨_,⟨_,rfl,rfl⟩,fun X2 hX=>?_⟩
 obtain ⟨BB,Fb2⟩:Below V.heap.size V X2/\(X2.heap[b]?=some (.cells (rA M (splV (splV (fun _=>.int .i64 0) 0 (m - f) fun j=>y (f+j)) (m - f) f fun j=>y (0+j))) 3)):=by subst hX; exact ⟨below4 (BB.trans (bD.mono BB.size)) Fge _,setRow_heap _ _ _ _ _ _ (on9 Fb1 bD)⟩
 clear bD Fb1 hX E a
 refine ⟨Or.inl rfl,?_⟩
 refine dz_ [] (h2_ t0 t2) ?_
 rintro a A - ⟨t0,t2,-⟩
 have hg3:=on9 hg BB
 refine wi_ A (h2_ t0 t2) (rv_ 3 (.pointer (some ⟨g,0,none⟩)) (fun a E=>execNl rfl (E _)) (rv_ 4 (.pointer (some ⟨g,0,none⟩)) (fun a E=>execFp0I rfl (E _)) (rs_ 5 (fun a E=>?_))))
 refine stepS rfl rfl (execS1I rfl (Or.inl rfl) (E _) (E _) (Or.inr (Or.inr (Or.inr ⟨_,_,_,rfl⟩))) (pC_at hg3).1 (frozen4 hg3)) ⟨_,⟨_,rfl,rfl⟩,fun X5 hX5=>?_⟩
 have hg5:=pC_set0 (u:=.slice (some ⟨b,0,none⟩) M M) hg3
 rw [show World.setCell _ ⟨g,0,none⟩ (.slice (some ⟨b,0,none⟩) M M)=X5 from hX5.symm] at hg5
 refine rv_ 6 (.pointer (some ⟨g,0,none⟩)) (fun a E=>execNl rfl (E _)) (rv_ 7 (.pointer (some ⟨g,1,none⟩)) (fun a E=>execFp1I rfl (E _)) (rs_ 8 (fun a E=>?_)))
 refine stepS rfl rfl (execS1I rfl (Or.inr (Or.inl rfl)) (E _) rfl (Or.inl ⟨_,_,rfl⟩) (pC_at hg5).2.1 (frozen4 hg5)) ⟨_,⟨_,rfl,rfl⟩,fun X6 hX6=>?_⟩
 have hg6:=pC_set1 (z:=0) hg5
 have hne:b ≠ g:=by have:=(Array.getElem?_eq_some_iff.1 hg).1; omega
 have hb6:X6.heap[b]?=some (.cells (rA M (splV (splV (fun _=>.int .i64 0) 0 (m - f) fun j=>y (f+j)) (m - f) f fun j=>y (0+j))) 3):=by
  rw [hX6,heap4o _ hg5 hne,hX5,heap4o _ hg3 hne]
  exact Fb2
 have hs6:Saved F V X6:=by
  rw [hX6,hX5]
  exact (((Saved.refl F V).below BB (Nat.le_refl _)).cell _ (Or.inr gF)).cell _ (Or.inr gF)
 rw [show X5.setCell ⟨g,1,none⟩ (.int .i64 ((0:Nat):Int))=X6 from hX6.symm] at hg6
 refine rg_ [] ?_
 rintro a A -
 exact bodyPost_end (results_none rfl _ _ _) A.2 ⟨b,M,_,rfl,⟨hs6,hg6,hb6,gF,Or.inr Fge,by omega,fun i hi=>wid_el hf el zerI i hi,by omega,k1⟩,by omega,wid_x hf hx⟩
theorem dwidenI {g f n k m:Nat} {r:Value} {c:Bool} {x:Nat->Value} {F:Nat->Prop} {V:World} (hg:V.heap[g]?=some (.cells (pC r f n k c) 95)) (gF:F g) (hR:Rg 3 ElI V F r f m n x) (hn:n=m) (hk:m < k) (k1:k<=1024):Calls Try.prog 73 #[.pointer (some ⟨g,0,none⟩)] V fun e w'=>∃ b M y,e=.returned (.tuple #[])/\DqI V F g b 0 M n k c y w'/\n < M/\∀ j,j < n->y j=x j:=by
 subst hn
 rcases hR with ⟨rfl,-,rfl,rfl⟩ | ⟨b0,y,-,rfl,hf,-,hb0,el,hx⟩
 ·exact pwiden_nI g k c x F V hg gF hk k1
 ·exact pwiden_rI g b0 f n k c x y F V hg gF hk k1 hf hb0 el hx
theorem dcanput_bI {V F v x n k c} (h:DRI V F v x n k c) {b:Bool} (hq:decide (c=false/\n < k)=b):Calls Try.prog 56 #[v] V fun e w'=>e=.returned (.bool b)/\Below V.heap.size V w':=hq ▸ dcanputI h
theorem dcantake_bI {V F v x n k c} (h:DRI V F v x n k c) {b:Bool} (hq:decide (0 < n)=b):Calls Try.prog 64 #[v] V fun e w'=>e=.returned (.bool b)/\Below V.heap.size V w':=hq ▸ pcantakeI v F x n k c V h
set_option maxRecDepth 100000 in
set_option maxHeartbeats 4000000 in
theorem pput_cI (v u:Value) (F:Nat->Prop) (x:Nat->Value) (n k:Nat) (V:World) (h:DRI V F v x n k true) :
  Calls Try.prog 70 #[v,u] V fun e w'=>∃ F',e=.returned (.tuple #[.bool false,.int .i64 ((180:Nat):Int)])/\DRI w' F' v x n k true/\Saved F V w'/\∀ q,F' q->F q\/V.heap.size<=q:=by
 have hD:=h
 go_enter Try.func70,Try.ntmps70
 refine wo_ 51 [(0,v),(1,u)] ?_
 rintro a A ⟨t0,t1,-⟩
 have BW:Below V.heap.size V V:=Below.refl _ _
 have BB:Below V.heap.size V V:=Below.refl _ _
 refine wp_seq ?_
 refine wi_ A (h2_ t0 t1) (rf_ [] (h2_ t0 t1) ?_)
 rintro a A - ⟨t0,t1,-⟩
 refine wp_seq (wp_seq ?_)
 refine wi_ A (h2_ t0 t1) (rc_ 1 (dclosedI ((hD).frame (fun b_ hF_=>(BB).block b_ ((hD).2.2.1 b_ hF_)) (BB).size)) (cb_ fun X1 bQ=>?_))
 replace BB:=BB.trans (bQ.mono BB.size)
 clear bQ
 refine rf_ [(7,.bool true)] (h2_ t0 t1) ?_
 rintro a A ⟨t7,-⟩ ⟨t0,t1,-⟩
 refine wp_cond_true t7 ?_
 clear t7
 refine wp_seq ?_
 refine wi_ A (h2_ t0 t1) (rg_ [(4,.bool false),(5,.int .i64 ((180:Nat):Int))] ?_)
 rintro a A ⟨t4,t5,-⟩
 obtain ⟨F',q1,q2,q3⟩:=hD.same BB
 refine wp_ret ?_
 repeat (first | with_reducible refine ret_in ?_ | with_reducible refine ret_then ?_)
 refine bodyPost_ret (results_tmp2 rfl _ _ _) A.2 ⟨F',?_,q1,q2,q3⟩
 show Ending.returned (.tuple #[a.eval (.tmp 4),a.eval (.tmp 5)])=_
 rw [t4,t5]
set_option maxRecDepth 100000 in
set_option maxHeartbeats 4000000 in
theorem pput_fI (v u:Value) (F:Nat->Prop) (x:Nat->Value) (n k:Nat) (V:World) (h:DRI V F v x n k false) (hq:¬ n < k) :
  Calls Try.prog 70 #[v,u] V fun e w'=>∃ F',e=.returned (.tuple #[.bool false,.int .i64 ((0:Nat):Int)])/\DRI w' F' v x n k false/\Saved F V w'/\∀ q,F' q->F q\/V.heap.size<=q:=by
 have hD:=h
 go_enter Try.func70,Try.ntmps70
 refine wo_ 51 [(0,v),(1,u)] ?_
 rintro a A ⟨t0,t1,-⟩
 have BW:Below V.heap.size V V:=Below.refl _ _
 have BB:Below V.heap.size V V:=Below.refl _ _
 refine wp_seq ?_
 refine wi_ A (h2_ t0 t1) (rf_ [] (h2_ t0 t1) ?_)
 rintro a A - ⟨t0,t1,-⟩
 refine wp_seq (wp_seq ?_)
 refine wi_ A (h2_ t0 t1) (rc_ 1 (dclosedI ((hD).frame (fun b_ hF_=>(BB).block b_ ((hD).2.2.1 b_ hF_)) (BB).size)) (cb_ fun X1 bQ=>?_))
 replace BB:=BB.trans (bQ.mono BB.size)
 clear bQ
 refine rf_ [(7,.bool false)] (h2_ t0 t1) ?_
 rintro a A ⟨t7,-⟩ ⟨t0,t1,-⟩
 refine wp_cond_false t7 (wp_skip ?_)
 clear t7
 refine wp_seq (wp_seq ?_)
 refine wi_ A (h2_ t0 t1) (rc_ 1 (dcanput_bI ((hD).frame (fun b_ hF_=>(BB).block b_ ((hD).2.2.1 b_ hF_)) (BB).size) (decide_eq_false (fun w=>hq w.2))) (cb_ fun X3 bQ=>?_))
 replace BB:=BB.trans (bQ.mono BB.size)
 clear bQ
 refine rv_ 2 (.bool true) (fun a E=>execNot8 (b:=false) rfl (E _)) (rf_ [(10,.bool true)] (h2_ t0 t1) ?_)
 rintro a A ⟨t10,-⟩ ⟨t0,t1,-⟩
 refine wp_cond_true t10 ?_
 clear t10
 refine wp_seq ?_
 refine wi_ A (h2_ t0 t1) (rg_ [(4,.bool false),(5,.int .i64 ((0:Nat):Int))] ?_)
 rintro a A ⟨t4,t5,-⟩
 obtain ⟨F',q1,q2,q3⟩:=hD.same BB
 refine wp_ret ?_
 repeat (first | with_reducible refine ret_in ?_ | with_reducible refine ret_then ?_)
 refine bodyPost_ret (results_tmp2 rfl _ _ _) A.2 ⟨F',?_,q1,q2,q3⟩
 show Ending.returned (.tuple #[a.eval (.tmp 4),a.eval (.tmp 5)])=_
 rw [t4,t5]
set_option maxRecDepth 100000 in
set_option maxHeartbeats 4000000 in
theorem pput_oI (v u:Value) (F:Nat->Prop) (x:Nat->Value) (n k:Nat) (V:World) (h:DRI V F v x n k false) (hu:ElI u) (hq:n < k) :
  Calls Try.prog 70 #[v,u] V fun e w'=>∃ F',e=.returned (.tuple #[.bool true,.int .i64 ((0:Nat):Int)])/\DRI w' F' v (up x n u) (n+1) k false/\Saved F V w'/\∀ q,F' q->F q\/V.heap.size<=q:=by
 have hD:=h
 obtain ⟨h1,h2,h3,h4⟩:=h
 rcases h4 with ⟨-,-,e⟩ | ⟨g,r,f,m,rfl,gF,hg,hmk,hR⟩
 ·cases e
 have hsh:∃ ao c_,r=.slice ao m c_:=by
  rcases hR with ⟨rfl,-,-,rfl⟩ | ⟨b,y,-,rfl,-⟩
  ·exact ⟨_,_,rfl⟩
  ·exact ⟨_,_,rfl⟩
 go_enter Try.func70,Try.ntmps70
 refine wo_ 51 [(0,.pointer (some ⟨g,0,none⟩)),(1,u)] ?_
 rintro a A ⟨t0,t1,-⟩
 have BW:Below V.heap.size V V:=Below.refl _ _
 have BB:Below V.heap.size V V:=Below.refl _ _
 refine wp_seq ?_
 refine wi_ A (h2_ t0 t1) (rf_ [] (h2_ t0 t1) ?_)
 rintro a A - ⟨t0,t1,-⟩
 refine wp_seq (wp_seq ?_)
 refine wi_ A (h2_ t0 t1) (rc_ 1 (dclosedI ((hD).frame (fun b_ hF_=>(BB).block b_ ((hD).2.2.1 b_ hF_)) (BB).size)) (cb_ fun X1 bQ=>?_))
 replace BB:=BB.trans (bQ.mono BB.size)
 clear bQ
 refine rf_ [(7,.bool false)] (h2_ t0 t1) ?_
 rintro a A ⟨t7,-⟩ ⟨t0,t1,-⟩
 refine wp_cond_false t7 (wp_skip ?_)
 clear t7
 refine wp_seq (wp_seq ?_)
 refine wi_ A (h2_ t0 t1) (rc_ 1 (dcanput_bI ((hD).frame (fun b_ hF_=>(BB).block b_ ((hD).2.2.1 b_ hF_)) (BB).size) (decide_eq_true ⟨rfl,hq⟩)) (cb_ fun X3 bQ=>?_))
 replace BB:=BB.trans (bQ.mono BB.size)
 clear bQ
 refine rv_ 2 (.bool false) (fun a E=>execNot8 (b:=true) rfl (E _)) (rf_ [(10,.bool false)] (h2_ t0 t1) ?_)
 rintro a A ⟨t10,-⟩ ⟨t0,t1,-⟩
 refine wp_cond_false t10 (wp_skip ?_)
 clear t10
 refine wp_seq (wp_seq ?_)
 by_cases hc:n=m
 ·have hnm:=hc
  refine wj_ [0,1,2,3,4,5,6,7,8,9] [] [3,7] [] A (h2_ t0 t1) (fun X5 bD=>?_)
  refine dw_ 1 (.pointer (some ⟨g,0,none⟩)) (fun a X E=>execNl rfl (E _)) (dw_ 2 (.pointer (some ⟨g,2,none⟩)) (fun a X E=>execFp2I rfl (E _)) (dv_ 3 (.int .i64 ((n:Nat):Int)) (fun a X E hb=>execL1I rfl (Or.inr (Or.inl rfl)) (E _) (pC_at (on9 hg (BB.trans (hb.mono BB.size)))).2.2.1) (dw_ 5 (.pointer (some ⟨g,0,none⟩)) (fun a X E=>execNl rfl (E _)) (dw_ 6 (.pointer (some ⟨g,0,none⟩)) (fun a X E=>execFp0I rfl (E _)) (dv_ 7 (r) (fun a X E hb=>execL1I rfl (Or.inl rfl) (E _) (pC_at (on9 hg (BB.trans (hb.mono BB.size)))).1) (dw_ 8 (.int .i64 ((m:Nat):Int)) (fun a X E=>execLnI (len:=m) rfl (E _) hsh) (dw_ 9 (.bool true) (fun a X E=>execDec (execEqN (p:=n) (q:=m) rfl (E _) (E _)) (decide_eq_true (by exact hnm))) (dz_ [(20,.bool true)] (h2_ t0 t1) ?_))))))))
  rintro a A ⟨t20,-⟩ ⟨t0,t1,-⟩
  replace BB:=BB.trans (bD.mono BB.size)
  clear bD
  refine wp_cond_true t20 ?_
  clear t20
  refine wi_ A (h2_ t0 t1) (rc_ 1 (dwidenI (on9 hg BB) gF (hR.frame (fun b_ hF_=>BB.block b_ (h3 b_ hF_))) hnm (by omega) h2) fun e X6 hh=>?_)
  obtain ⟨b,M,y,he,hW,hlt,hy⟩:=hh
  refine ⟨_,he,rf_ [] (h2_ t0 t1) ?_⟩
  rintro a A - ⟨t0,t1,-⟩
  have FW:=hW.base BB
  have hm0:0 < M:=by omega
  have hx:∀ j,j < n->y ((0+j) % M)=x j:=fun j hj=>by rw [Nat.zero_add,Nat.mod_eq_of_lt (by omega)]; exact hy j hj
  clear hW hy BB BW
  refine wp_seq ?_
  refine wj_ [0,1,2,3,4,5,6,7,8,9,10,11,12,13,14,15,16,17,18,19,20,21] [21] [3,7,11,16] [21] A (h2_ t0 t1) fun Xd bD=>?_
  refine dw_ 1 (.pointer (some ⟨g,0,none⟩)) (fun a X E=>execNl rfl (E _)) (dw_ 2 (.pointer (some ⟨g,0,none⟩)) (fun a X E=>execFp0I rfl (E _)) (dv_ 3 (.slice (some ⟨b,0,none⟩) M M) (fun a X E hb=>execL1I rfl (Or.inl rfl) (E _) (pC_at (FW.on hb).hg).1) (dw_ 5 (.pointer (some ⟨g,0,none⟩)) (fun a X E=>execNl rfl (E _)) (dw_ 6 (.pointer (some ⟨g,1,none⟩)) (fun a X E=>execFp1I rfl (E _)) (dv_ 7 (.int .i64 ((0:Nat):Int)) (fun a X E hb=>execL1I rfl (Or.inr (Or.inl rfl)) (E _) (pC_at (FW.on hb).hg).2.1) (dw_ 9 (.pointer (some ⟨g,0,none⟩)) (fun a X E=>execNl rfl (E _)) (dw_ 10 (.pointer (some ⟨g,2,none⟩)) (fun a X E=>execFp2I rfl (E _)) (dv_ 11 (.int .i64 ((n:Nat):Int)) (fun a X E hb=>execL1I rfl (Or.inr (Or.inl rfl)) (E _) (pC_at (FW.on hb).hg).2.2.1) (dw_ 12 (.int .i64 ((0+n:Nat):Int)) (fun a X E=>execAd8 (p:=0) (q:=n) rfl (E _) (E _) (by omega)) (dw_ 14 (.pointer (some ⟨g,0,none⟩)) (fun a X E=>execNl rfl (E _)) (dw_ 15 (.pointer (some ⟨g,0,none⟩)) (fun a X E=>execFp0I rfl (E _)) (dv_ 16 (.slice (some ⟨b,0,none⟩) M M) (fun a X E hb=>execL1I rfl (Or.inl rfl) (E _) (pC_at (FW.on hb).hg).1) (dw_ 17 (.int .i64 ((M:Nat):Int)) (fun a X E=>execLnI (len:=M) rfl (E _) ⟨_,_,rfl⟩) (dw_ 18 (.int .i64 (((0+n) % M:Nat):Int)) (fun a X E=>execRemI (p:=0+n) (q:=M) rfl (E _) (E _) (by omega)) (dw_ 20 (.pointer (some ⟨b,(0+n) % M,none⟩)) (fun a X E=>execIxI (k:=(0+n) % M) rfl (E _) (E _) (Nat.mod_lt _ hm0)) (ds_ 21 (fun a E=>?_)))))))))))))))))
  refine stepS rfl rfl (execS1I rfl (Or.inr (Or.inl rfl)) (E _) (E _) (okI hu) (rA_cell (FW.on bD).hb (Nat.mod_lt _ hm0)) (frozen4 (FW.on bD).hb)) ⟨_,⟨_,rfl,rfl⟩,fun X7 hX=>?_⟩
  refine ⟨Or.inl rfl,?_⟩
  refine dz_ [] (h1_ t0) ?_
  rintro a A - ⟨t0,-⟩
  replace FW:=(FW.on bD).put (by decide) (Nat.mod_lt _ hm0) hu hX
  clear hX bD
  refine wp_seq ?_
  refine wi_ A (h1_ t0) (?_)
  refine rv_ 1 (.pointer (some ⟨g,0,none⟩)) (fun a E=>execNl rfl (E _)) (rv_ 2 (.pointer (some ⟨g,2,none⟩)) (fun a E=>execFp2I rfl (E _)) (rv_ 3 (.int .i64 ((n:Nat):Int)) (fun a E=>execL1I rfl (Or.inr (Or.inl rfl)) (E _) (pC_at FW.hg).2.2.1) (rv_ 4 (.int .i64 ((n+1:Nat):Int)) (fun a E=>execAd8 (p:=n) (q:=1) rfl (E _) rfl (by omega)) (rv_ 5 (.pointer (some ⟨g,0,none⟩)) (fun a E=>execNl rfl (E _)) (rv_ 6 (.pointer (some ⟨g,2,none⟩)) (fun a E=>execFp2I rfl (E _)) (rs_ 7 (fun a E=>?_)))))))
  refine stepS rfl rfl (execS1I rfl (Or.inr (Or.inl rfl)) (E _) (E _) (Or.inl ⟨_,_,rfl⟩) (pC_at FW.hg).2.2.1 (frozen4 FW.hg)) ⟨_,⟨_,rfl,rfl⟩,fun X8 hX=>?_⟩
  refine rg_ [] ?_
  rintro a A -
  replace FW:=FW.held (by decide) hX
  clear hX
  have BW:Below X8.heap.size X8 X8:=Below.refl _ _
  obtain ⟨F',q1,q2,q3⟩:=FW.out (by omega) (ring_next hlt hx)
  refine wp_seq ?_
  refine wi_ A h0_ (rg_ [(4,.bool true),(5,.int .i64 ((0:Nat):Int))] ?_)
  rintro a A ⟨t4,t5,-⟩
  refine wp_ret ?_
  refine bodyPost_ret (results_tmp2 rfl _ _ _) A.2 ⟨F',?_,q1,q2,q3⟩
  show Ending.returned (.tuple #[a.eval (.tmp 4),a.eval (.tmp 5)])=_
  rw [t4,t5]
 ·have hnm:=hc
  refine wj_ [0,1,2,3,4,5,6,7,8,9] [] [3,7] [] A (h2_ t0 t1) (fun X5 bD=>?_)
  refine dw_ 1 (.pointer (some ⟨g,0,none⟩)) (fun a X E=>execNl rfl (E _)) (dw_ 2 (.pointer (some ⟨g,2,none⟩)) (fun a X E=>execFp2I rfl (E _)) (dv_ 3 (.int .i64 ((n:Nat):Int)) (fun a X E hb=>execL1I rfl (Or.inr (Or.inl rfl)) (E _) (pC_at (on9 hg (BB.trans (hb.mono BB.size)))).2.2.1) (dw_ 5 (.pointer (some ⟨g,0,none⟩)) (fun a X E=>execNl rfl (E _)) (dw_ 6 (.pointer (some ⟨g,0,none⟩)) (fun a X E=>execFp0I rfl (E _)) (dv_ 7 (r) (fun a X E hb=>execL1I rfl (Or.inl rfl) (E _) (pC_at (on9 hg (BB.trans (hb.mono BB.size)))).1) (dw_ 8 (.int .i64 ((m:Nat):Int)) (fun a X E=>execLnI (len:=m) rfl (E _) hsh) (dw_ 9 (.bool false) (fun a X E=>execDec (execEqN (p:=n) (q:=m) rfl (E _) (E _)) (decide_eq_false (by exact hnm))) (dz_ [(20,.bool false)] (h2_ t0 t1) ?_))))))))
  rintro a A ⟨t20,-⟩ ⟨t0,t1,-⟩
  replace BB:=BB.trans (bD.mono BB.size)
  clear bD
  refine wp_cond_false t20 (wp_skip ?_)
  clear t20
  rcases hR with ⟨e1,e2,-⟩ | ⟨b,y,bF,er,fm,nm,hb,el,hx⟩
  ·omega
  have FW:DqI V F g b f m n k false y X5:=(Dq.mk (Saved.refl F V) (er ▸ hg) hb gF (Or.inl bF) fm el hmk h2).on BB
  have hlt:n < m:=by omega
  have hm0:0 < m:=by omega
  clear BB BW
  refine wp_seq ?_
  refine wj_ [0,1,2,3,4,5,6,7,8,9,10,11,12,13,14,15,16,17,18,19,20,21] [21] [3,7,11,16] [21] A (h2_ t0 t1) fun Xd bD=>?_
  refine dw_ 1 (.pointer (some ⟨g,0,none⟩)) (fun a X E=>execNl rfl (E _)) (dw_ 2 (.pointer (some ⟨g,0,none⟩)) (fun a X E=>execFp0I rfl (E _)) (dv_ 3 (.slice (some ⟨b,0,none⟩) m m) (fun a X E hb=>execL1I rfl (Or.inl rfl) (E _) (pC_at (FW.on hb).hg).1) (dw_ 5 (.pointer (some ⟨g,0,none⟩)) (fun a X E=>execNl rfl (E _)) (dw_ 6 (.pointer (some ⟨g,1,none⟩)) (fun a X E=>execFp1I rfl (E _)) (dv_ 7 (.int .i64 ((f:Nat):Int)) (fun a X E hb=>execL1I rfl (Or.inr (Or.inl rfl)) (E _) (pC_at (FW.on hb).hg).2.1) (dw_ 9 (.pointer (some ⟨g,0,none⟩)) (fun a X E=>execNl rfl (E _)) (dw_ 10 (.pointer (some ⟨g,2,none⟩)) (fun a X E=>execFp2I rfl (E _)) (dv_ 11 (.int .i64 ((n:Nat):Int)) (fun a X E hb=>execL1I rfl (Or.inr (Or.inl rfl)) (E _) (pC_at (FW.on hb).hg).2.2.1) (dw_ 12 (.int .i64 ((f+n:Nat):Int)) (fun a X E=>execAd8 (p:=f) (q:=n) rfl (E _) (E _) (by omega)) (dw_ 14 (.pointer (some ⟨g,0,none⟩)) (fun a X E=>execNl rfl (E _)) (dw_ 15 (.pointer (some ⟨g,0,none⟩)) (fun a X E=>execFp0I rfl (E _)) (dv_ 16 (.slice (some ⟨b,0,none⟩) m m) (fun a X E hb=>execL1I rfl (Or.inl rfl) (E _) (pC_at (FW.on hb).hg).1) (dw_ 17 (.int .i64 ((m:Nat):Int)) (fun a X E=>execLnI (len:=m) rfl (E _) ⟨_,_,rfl⟩) (dw_ 18 (.int .i64 (((f+n) % m:Nat):Int)) (fun a X E=>execRemI (p:=f+n) (q:=m) rfl (E _) (E _) (by omega)) (dw_ 20 (.pointer (some ⟨b,(f+n) % m,none⟩)) (fun a X E=>execIxI (k:=(f+n) % m) rfl (E _) (E _) (Nat.mod_lt _ hm0)) (ds_ 21 (fun a E=>?_)))))))))))))))))
  refine stepS rfl rfl (execS1I rfl (Or.inr (Or.inl rfl)) (E _) (E _) (okI hu) (rA_cell (FW.on bD).hb (Nat.mod_lt _ hm0)) (frozen4 (FW.on bD).hb)) ⟨_,⟨_,rfl,rfl⟩,fun X7 hX=>?_⟩
  refine ⟨Or.inl rfl,?_⟩
  refine dz_ [] (h1_ t0) ?_
  rintro a A - ⟨t0,-⟩
  replace FW:=(FW.on bD).put (by decide) (Nat.mod_lt _ hm0) hu hX
  clear hX bD
  refine wp_seq ?_
  refine wi_ A (h1_ t0) (?_)
  refine rv_ 1 (.pointer (some ⟨g,0,none⟩)) (fun a E=>execNl rfl (E _)) (rv_ 2 (.pointer (some ⟨g,2,none⟩)) (fun a E=>execFp2I rfl (E _)) (rv_ 3 (.int .i64 ((n:Nat):Int)) (fun a E=>execL1I rfl (Or.inr (Or.inl rfl)) (E _) (pC_at FW.hg).2.2.1) (rv_ 4 (.int .i64 ((n+1:Nat):Int)) (fun a E=>execAd8 (p:=n) (q:=1) rfl (E _) rfl (by omega)) (rv_ 5 (.pointer (some ⟨g,0,none⟩)) (fun a E=>execNl rfl (E _)) (rv_ 6 (.pointer (some ⟨g,2,none⟩)) (fun a E=>execFp2I rfl (E _)) (rs_ 7 (fun a E=>?_)))))))
  refine stepS rfl rfl (execS1I rfl (Or.inr (Or.inl rfl)) (E _) (E _) (Or.inl ⟨_,_,rfl⟩) (pC_at FW.hg).2.2.1 (frozen4 FW.hg)) ⟨_,⟨_,rfl,rfl⟩,fun X8 hX=>?_⟩
  refine rg_ [] ?_
  rintro a A -
  replace FW:=FW.held (by decide) hX
  clear hX
  have BW:Below X8.heap.size X8 X8:=Below.refl _ _
  obtain ⟨F',q1,q2,q3⟩:=FW.out (by omega) (ring_next hlt hx)
  refine wp_seq ?_
  refine wi_ A h0_ (rg_ [(4,.bool true),(5,.int .i64 ((0:Nat):Int))] ?_)
  rintro a A ⟨t4,t5,-⟩
  refine wp_ret ?_
  refine bodyPost_ret (results_tmp2 rfl _ _ _) A.2 ⟨F',?_,q1,q2,q3⟩
  show Ending.returned (.tuple #[a.eval (.tmp 4),a.eval (.tmp 5)])=_
  rw [t4,t5]
set_option maxRecDepth 100000 in
set_option maxHeartbeats 4000000 in
theorem ptake_cI (v:Value) (F:Nat->Prop) (x:Nat->Value) (n k:Nat) (V:World) (h:DRI V F v x n k true) (h0:n=0) :
  Calls Try.prog 72 #[v] V fun e w'=>∃ F',e=.returned (.tuple #[.int .i64 ((0:Nat):Int),.bool false,.int .i64 ((180:Nat):Int)])/\DRI w' F' v x n k true/\Saved F V w'/\∀ q,F' q->F q\/V.heap.size<=q:=by
 have hD:=h
 go_enter Try.func72,Try.ntmps72
 refine wo_ 55 [(0,v)] ?_
 rintro a A ⟨t0,-⟩
 have BW:Below V.heap.size V V:=Below.refl _ _
 have BB:Below V.heap.size V V:=Below.refl _ _
 refine wp_seq ?_
 refine wi_ A (h1_ t0) (rf_ [] (h1_ t0) ?_)
 rintro a A - ⟨t0,-⟩
 refine wp_seq ?_
 refine wi_ A (h1_ t0) (rf_ [(5,.int .i64 ((0:Nat):Int))] (h1_ t0) ?_)
 rintro a A ⟨t5,-⟩ ⟨t0,-⟩
 refine wp_seq (wp_seq ?_)
 refine wi_ A (h2_ t0 t5) (rc_ 1 (dcantake_bI ((hD).frame (fun b_ hF_=>(BB).block b_ ((hD).2.2.1 b_ hF_)) (BB).size) (decide_eq_false (by omega))) (cb_ fun X2 bQ=>?_))
 replace BB:=BB.trans (bQ.mono BB.size)
 clear bQ
 refine rf_ [(8,.bool false)] (h2_ t0 t5) ?_
 rintro a A ⟨t8,-⟩ ⟨t0,t5,-⟩
 refine wp_cond_false t8 (wp_skip ?_)
 clear t8
 refine wp_seq (wp_seq ?_)
 refine wi_ A (h2_ t0 t5) (rc_ 1 (dclosedI ((hD).frame (fun b_ hF_=>(BB).block b_ ((hD).2.2.1 b_ hF_)) (BB).size)) (cb_ fun X8 bQ=>?_))
 replace BB:=BB.trans (bQ.mono BB.size)
 clear bQ
 refine rf_ [(52,.bool true)] (h1_ t5) ?_
 rintro a A ⟨t52,-⟩ ⟨t5,-⟩
 refine wp_cond_true t52 ?_
 clear t52
 refine wp_seq ?_
 refine wi_ A (h1_ t5) (rg_ [(2,.int .i64 ((0:Nat):Int)),(3,.bool false),(4,.int .i64 ((180:Nat):Int))] ?_)
 rintro a A ⟨t2,t3,t4,-⟩
 obtain ⟨F',q1,q2,q3⟩:=hD.same BB
 refine wp_ret ?_
 repeat (first | with_reducible refine ret_in ?_ | with_reducible refine ret_then ?_)
 refine bodyPost_ret (results_tmp3 rfl _ _ _) A.2 ⟨F',?_,q1,q2,q3⟩
 show Ending.returned (.tuple #[a.eval (.tmp 2),a.eval (.tmp 3),a.eval (.tmp 4)])=_
 rw [t2,t3,t4]
set_option maxRecDepth 100000 in
set_option maxHeartbeats 4000000 in
theorem ptake_eI (v:Value) (F:Nat->Prop) (x:Nat->Value) (n k:Nat) (V:World) (h:DRI V F v x n k false) (h0:n=0) :
  Calls Try.prog 72 #[v] V fun e w'=>∃ F',e=.returned (.tuple #[.int .i64 ((0:Nat):Int),.bool false,.int .i64 ((0:Nat):Int)])/\DRI w' F' v x n k false/\Saved F V w'/\∀ q,F' q->F q\/V.heap.size<=q:=by
 have hD:=h
 go_enter Try.func72,Try.ntmps72
 refine wo_ 55 [(0,v)] ?_
 rintro a A ⟨t0,-⟩
 have BW:Below V.heap.size V V:=Below.refl _ _
 have BB:Below V.heap.size V V:=Below.refl _ _
 refine wp_seq ?_
 refine wi_ A (h1_ t0) (rf_ [] (h1_ t0) ?_)
 rintro a A - ⟨t0,-⟩
 refine wp_seq ?_
 refine wi_ A (h1_ t0) (rf_ [(5,.int .i64 ((0:Nat):Int))] (h1_ t0) ?_)
 rintro a A ⟨t5,-⟩ ⟨t0,-⟩
 refine wp_seq (wp_seq ?_)
 refine wi_ A (h2_ t0 t5) (rc_ 1 (dcantake_bI ((hD).frame (fun b_ hF_=>(BB).block b_ ((hD).2.2.1 b_ hF_)) (BB).size) (decide_eq_false (by omega))) (cb_ fun X2 bQ=>?_))
 replace BB:=BB.trans (bQ.mono BB.size)
 clear bQ
 refine rf_ [(8,.bool false)] (h2_ t0 t5) ?_
 rintro a A ⟨t8,-⟩ ⟨t0,t5,-⟩
 refine wp_cond_false t8 (wp_skip ?_)
 clear t8
 refine wp_seq (wp_seq ?_)
 refine wi_ A (h2_ t0 t5) (rc_ 1 (dclosedI ((hD).frame (fun b_ hF_=>(BB).block b_ ((hD).2.2.1 b_ hF_)) (BB).size)) (cb_ fun X8 bQ=>?_))
 replace BB:=BB.trans (bQ.mono BB.size)
 clear bQ
 refine rf_ [(52,.bool false)] (h1_ t5) ?_
 rintro a A ⟨t52,-⟩ ⟨t5,-⟩
 refine wp_cond_false t52 (wp_skip ?_)
 clear t52
 refine wp_seq ?_
 refine wi_ A (h1_ t5) (rg_ [(2,.int .i64 ((0:Nat):Int)),(3,.bool false),(4,.int .i64 ((0:Nat):Int))] ?_)
 rintro a A ⟨t2,t3,t4,-⟩
 obtain ⟨F',q1,q2,q3⟩:=hD.same BB
 refine wp_ret ?_
 refine bodyPost_ret (results_tmp3 rfl _ _ _) A.2 ⟨F',?_,q1,q2,q3⟩
 show Ending.returned (.tuple #[a.eval (.tmp 2),a.eval (.tmp 3),a.eval (.tmp 4)])=_
 rw [t2,t3,t4]
set_option maxRecDepth 100000 in
set_option maxHeartbeats 4000000 in
theorem ptake_oI (v:Value) (F:Nat->Prop) (x:Nat->Value) (n k:Nat) (c:Bool) (V:World) (h:DRI V F v x n k c) (h0:0 < n) :
  Calls Try.prog 72 #[v] V fun e w'=>∃ F',e=.returned (.tuple #[x 0,.bool true,.int .i64 ((0:Nat):Int)])/\DRI w' F' v (fun j=>x (j+1)) (n - 1) k c/\Saved F V w'/\∀ q,F' q->F q\/V.heap.size<=q:=by
 have hD:=h
 obtain ⟨h1,h2,h3,h4⟩:=h
 rcases h4 with ⟨-,e1,-⟩ | ⟨g,r,f,m,rfl,gF,hg,hmk,hR⟩
 ·omega
 rcases hR with ⟨e1,e2,-⟩ | ⟨b,y,bF,er,fm,nm,hb,el,hx⟩
 ·omega
 subst er
 have FW:DqI V F g b f m n k c y V:=Dq.mk (Saved.refl F V) hg hb gF (Or.inl bF) fm el hmk h2
 have hm0:0 < m:=by omega
 have e0:y f=x 0:=by have:=hx 0 h0; rwa [Nat.add_zero,Nat.mod_eq_of_lt fm] at this
 go_enter Try.func72,Try.ntmps72
 refine wo_ 55 [(0,.pointer (some ⟨g,0,none⟩))] ?_
 rintro a A ⟨t0,-⟩
 have BW:Below V.heap.size V V:=Below.refl _ _
 have BB:Below V.heap.size V V:=Below.refl _ _
 refine wp_seq ?_
 refine wi_ A (h1_ t0) (rf_ [] (h1_ t0) ?_)
 rintro a A - ⟨t0,-⟩
 refine wp_seq ?_
 refine wi_ A (h1_ t0) (rf_ [(5,.int .i64 ((0:Nat):Int))] (h1_ t0) ?_)
 rintro a A ⟨t5,-⟩ ⟨t0,-⟩
 refine wp_seq (wp_seq ?_)
 refine wi_ A (h2_ t0 t5) (rc_ 1 (dcantake_bI ((hD).frame (fun b_ hF_=>(BB).block b_ ((hD).2.2.1 b_ hF_)) (BB).size) (decide_eq_true h0)) (cb_ fun X2 bQ=>?_))
 replace BB:=BB.trans (bQ.mono BB.size)
 clear bQ
 refine rf_ [(8,.bool true)] (h2_ t0 t5) ?_
 rintro a A ⟨t8,-⟩ ⟨t0,t5,-⟩
 refine wp_cond_true t8 ?_
 clear t8
 refine wp_seq ?_
 refine wj_ [0,1,2,3,4,5,6,7,8,9,10] [] [3,7,9] [] A (h2_ t0 t5) (fun X3 bD=>?_)
 refine dw_ 1 (.pointer (some ⟨g,0,none⟩)) (fun a X E=>execNl rfl (E _)) (dw_ 2 (.pointer (some ⟨g,0,none⟩)) (fun a X E=>execFp0I rfl (E _)) (dv_ 3 (.slice (some ⟨b,0,none⟩) m m) (fun a X E hb=>execL1I rfl (Or.inl rfl) (E _) (pC_at (FW.on (BB.trans (hb.mono BB.size))).hg).1) (dw_ 5 (.pointer (some ⟨g,0,none⟩)) (fun a X E=>execNl rfl (E _)) (dw_ 6 (.pointer (some ⟨g,1,none⟩)) (fun a X E=>execFp1I rfl (E _)) (dv_ 7 (.int .i64 ((f:Nat):Int)) (fun a X E hb=>execL1I rfl (Or.inr (Or.inl rfl)) (E _) (pC_at (FW.on (BB.trans (hb.mono BB.size))).hg).2.1) (dw_ 8 (.pointer (some ⟨b,f,none⟩)) (fun a X E=>execIxI (k:=f) rfl (E _) (E _) FW.fm) (dv_ 9 (x 0) (fun a X E hb=>execL1I rfl (Or.inr (Or.inl rfl)) (E _) (by rw [← e0]; exact rA_cell (FW.on (BB.trans (hb.mono BB.size))).hb FW.fm)) (dz_ [(6,x 0)] (h2_ t0 t5) ?_))))))))
 rintro a A ⟨t6,-⟩ ⟨t0,t5,-⟩
 replace BB:=BB.trans (bD.mono BB.size)
 clear bD
 replace FW:=FW.on BB
 clear BB BW
 refine wp_seq ?_
 refine wj_ [0,1,2,3,4,5,6,7,8,9,10] [10] [3,7] [10] A (h3_ t0 t5 t6) fun Xd bD=>?_
 refine dw_ 1 (.pointer (some ⟨g,0,none⟩)) (fun a X E=>execNl rfl (E _)) (dw_ 2 (.pointer (some ⟨g,0,none⟩)) (fun a X E=>execFp0I rfl (E _)) (dv_ 3 (.slice (some ⟨b,0,none⟩) m m) (fun a X E hb=>execL1I rfl (Or.inl rfl) (E _) (pC_at (FW.on hb).hg).1) (dw_ 5 (.pointer (some ⟨g,0,none⟩)) (fun a X E=>execNl rfl (E _)) (dw_ 6 (.pointer (some ⟨g,1,none⟩)) (fun a X E=>execFp1I rfl (E _)) (dv_ 7 (.int .i64 ((f:Nat):Int)) (fun a X E hb=>execL1I rfl (Or.inr (Or.inl rfl)) (E _) (pC_at (FW.on hb).hg).2.1) (dw_ 9 (.pointer (some ⟨b,f,none⟩)) (fun a X E=>execIxI (k:=f) rfl (E _) (E _) FW.fm) (ds_ 10 (fun a E=>?_))))))))
 refine stepS rfl rfl (execS1I rfl (Or.inr (Or.inl rfl)) (E _) (E _) (okI zerI) (rA_cell (FW.on bD).hb FW.fm) (frozen4 (FW.on bD).hb)) ⟨_,⟨_,rfl,rfl⟩,fun X4 hX=>?_⟩
 refine ⟨Or.inl rfl,?_⟩
 refine dz_ [] (h2_ t0 t6) ?_
 rintro a A - ⟨t0,t6,-⟩
 replace FW:=(FW.on bD).put (by decide) FW.fm zerI hX
 clear hX bD
 refine wp_seq ?_
 refine wj_ [0,1,2,3,4,5,6,7,8,9,10,11,12,13,14] [14] [4,9] [14] A (h2_ t0 t6) fun Xd bD=>?_
 refine dw_ 2 (.pointer (some ⟨g,0,none⟩)) (fun a X E=>execNl rfl (E _)) (dw_ 3 (.pointer (some ⟨g,1,none⟩)) (fun a X E=>execFp1I rfl (E _)) (dv_ 4 (.int .i64 ((f:Nat):Int)) (fun a X E hb=>execL1I rfl (Or.inr (Or.inl rfl)) (E _) (pC_at (FW.on hb).hg).2.1) (dw_ 5 (.int .i64 ((f+1:Nat):Int)) (fun a X E=>execAd8 (p:=f) (q:=1) rfl (E _) rfl (by omega)) (dw_ 7 (.pointer (some ⟨g,0,none⟩)) (fun a X E=>execNl rfl (E _)) (dw_ 8 (.pointer (some ⟨g,0,none⟩)) (fun a X E=>execFp0I rfl (E _)) (dv_ 9 (.slice (some ⟨b,0,none⟩) m m) (fun a X E hb=>execL1I rfl (Or.inl rfl) (E _) (pC_at (FW.on hb).hg).1) (dw_ 10 (.int .i64 ((m:Nat):Int)) (fun a X E=>execLnI (len:=m) rfl (E _) ⟨_,_,rfl⟩) (dw_ 11 (.int .i64 (((f+1) % m:Nat):Int)) (fun a X E=>execRemI (p:=f+1) (q:=m) rfl (E _) (E _) (by omega)) (dw_ 12 (.pointer (some ⟨g,0,none⟩)) (fun a X E=>execNl rfl (E _)) (dw_ 13 (.pointer (some ⟨g,1,none⟩)) (fun a X E=>execFp1I rfl (E _)) (ds_ 14 (fun a E=>?_))))))))))))
 refine stepS rfl rfl (execS1I rfl (Or.inr (Or.inl rfl)) (E _) (E _) (Or.inl ⟨_,_,rfl⟩) (pC_at (FW.on bD).hg).2.1 (frozen4 (FW.on bD).hg)) ⟨_,⟨_,rfl,rfl⟩,fun X5 hX=>?_⟩
 refine ⟨Or.inl rfl,?_⟩
 refine dz_ [] (h2_ t0 t6) ?_
 rintro a A - ⟨t0,t6,-⟩
 replace FW:=(FW.on bD).first (by decide) (Nat.mod_lt _ hm0) hX
 clear hX bD
 refine wp_seq ?_
 refine wi_ A (h2_ t0 t6) (?_)
 refine rv_ 1 (.pointer (some ⟨g,0,none⟩)) (fun a E=>execNl rfl (E _)) (rv_ 2 (.pointer (some ⟨g,2,none⟩)) (fun a E=>execFp2I rfl (E _)) (rv_ 3 (.int .i64 ((n:Nat):Int)) (fun a E=>execL1I rfl (Or.inr (Or.inl rfl)) (E _) (pC_at FW.hg).2.2.1) (rv_ 4 (.int .i64 ((n - 1:Nat):Int)) (fun a E=>By8.execSubI (p:=n) (q:=1) rfl (E _) rfl (by omega) (by omega)) (rv_ 5 (.pointer (some ⟨g,0,none⟩)) (fun a E=>execNl rfl (E _)) (rv_ 6 (.pointer (some ⟨g,2,none⟩)) (fun a E=>execFp2I rfl (E _)) (rs_ 7 (fun a E=>?_)))))))
 refine stepS rfl rfl (execS1I rfl (Or.inr (Or.inl rfl)) (E _) (E _) (Or.inl ⟨_,_,rfl⟩) (pC_at FW.hg).2.2.1 (frozen4 FW.hg)) ⟨_,⟨_,rfl,rfl⟩,fun X6 hX=>?_⟩
 refine rf_ [] (h1_ t6) ?_
 rintro a A - ⟨t6,-⟩
 replace FW:=FW.held (by decide) hX
 clear hX
 have BW:Below X6.heap.size X6 X6:=Below.refl _ _
 obtain ⟨F',q1,q2,q3⟩:=FW.out (by omega) (ring_off fm nm h0 hx)
 refine wp_seq ?_
 refine wi_ A (h1_ t6) (rg_ [(2,x 0),(3,.bool true),(4,.int .i64 ((0:Nat):Int))] ?_)
 rintro a A ⟨t2,t3,t4,-⟩
 refine wp_ret ?_
 repeat (first | with_reducible refine ret_in ?_ | with_reducible refine ret_then ?_)
 refine bodyPost_ret (results_tmp3 rfl _ _ _) A.2 ⟨F',?_,q1,q2,q3⟩
 show Ending.returned (.tuple #[a.eval (.tmp 2),a.eval (.tmp 3),a.eval (.tmp 4)])=_
 rw [t2,t3,t4]
theorem dputI {V F v x n k c u} (h:DRI V F v x n k c) (hu:ElI u):Calls Try.prog 70 #[v,u] V fun e w'=>∃ F',e=.returned (.tuple #[.bool (decide (c=false/\n < k)),.int .i64 (((if c then 180 else 0:Nat):Nat):Int)])/\DRI w' F' v (up x n u) (if c=false/\n < k then n+1 else n) k c/\Saved F V w'/\∀ q,F' q->F q\/V.heap.size<=q:=by
 cases c with
 | true=>
  rw [decide_eq_false (fun w=>by cases w.1),if_neg (c:=true=false/\n < k) (fun w=>by cases w.1)]
  exact Calls.mono (pput_cI v u F x n k V h) fun e w' ⟨F',he,hR,hs,hf⟩=>⟨F',he,hR.cg (fun j hj=>(up_ne _ _ (Nat.ne_of_lt hj)).symm),hs,hf⟩
 | false=>
  by_cases hq:n < k
  ·rw [decide_eq_true ⟨rfl,hq⟩,if_pos (c:=false=false/\n < k) ⟨rfl,hq⟩]
   exact pput_oI v u F x n k V h hu hq
  ·rw [decide_eq_false (fun w=>hq w.2),if_neg (c:=false=false/\n < k) (fun w=>hq w.2)]
   exact Calls.mono (pput_fI v u F x n k V h hq) fun e w' ⟨F',he,hR,hs,hf⟩=>⟨F',he,hR.cg (fun j hj=>(up_ne _ _ (Nat.ne_of_lt hj)).symm),hs,hf⟩
theorem dtakeI {V F v x n k c} (h:DRI V F v x n k c):Calls Try.prog 72 #[v] V fun e w'=>∃ F',e=.returned (.tuple #[if 0 < n then x 0 else .int .i64 0,.bool (decide (0 < n)),.int .i64 (((if n=0/\c=true then 180 else 0:Nat):Nat):Int)])/\DRI w' F' v (fun j=>x (j+1)) (n - 1) k c/\Saved F V w'/\∀ q,F' q->F q\/V.heap.size<=q:=by
 by_cases h0:0 < n
 ·rw [if_pos h0,decide_eq_true h0,if_neg (c:=n=0/\c=true) (fun w=>by omega)]
  exact ptake_oI v F x n k c V h h0
 ·have e0:n=0:=by omega
  rw [if_neg h0,decide_eq_false h0,show n - 1=n by omega]
  cases c with
  | true=>
   rw [if_pos (c:=n=0/\true=true) ⟨e0,rfl⟩]
   exact Calls.mono (ptake_cI v F x n k V h e0) fun e w' ⟨F',he,hR,hs,hf⟩=>⟨F',he,hR.cg (fun j hj=>by omega),hs,hf⟩
  | false=>
   rw [if_neg (c:=n=0/\false=true) (fun w=>by cases w.2)]
   exact Calls.mono (ptake_eI v F x n k V h e0) fun e w' ⟨F',he,hR,hs,hf⟩=>⟨F',he,hR.cg (fun j hj=>by omega),hs,hf⟩
theorem dcloseI {V F v x n k c} (h:DRI V F v x n k c):Calls Try.prog 68 #[v] V fun e w'=>∃ F',e=.returned (.int .i64 (((if c then 180 else 0:Nat):Nat):Int))/\DRI w' F' v x n k true/\Saved F V w'/\∀ q,F' q->F q\/V.heap.size<=q:=by
 cases c with
 | true=>exact pclose_tI v F x n k V h
 | false=>exact pclose_fI v F x n k V h
def implI:ImplI where
 R:=DRI
 nil:=fun _ _=>DR.nil
 frame:=fun h e hs=>h.frame e hs
 lt:=fun h=>h.2.2.1
 cg:=fun h e=>h.cg e
 le:=fun h=>⟨h.1,h.2.1⟩
 ptr:=fun h=>h.ptr
 new:=dnewI
 put:=dputI
 take:=dtakeI
 close:=dcloseI
 len:=dlenI
 cap:=dcapI
 closed:=dclosedI
 canPut:=dcanputI
 canTake:=fun h=>pcantakeI _ _ _ _ _ _ _ h
end Go.Proofs.Ytjjegmflllpknaa.Duc
