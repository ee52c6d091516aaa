import Derived.Test.YtjjegmflllpknaaT8w
import Derived.WalkKit
namespace Go.Proofs.Ytjjegmflllpknaa.Loo
open Go.RowKit Gf8 Aes By8 Cel Cf Win Drw Prm
/- LoomPlays: the reference's Play. Written by tools/mkT8x.py. -/
set_option maxRecDepth 100000 in
theorem infLs:∃ i,Try.prog.info? 22=some i/\i.zero=some (.slice none 0 0)/\i.size=1/\i.bytes=24:=⟨_,rfl,by kernel_rfl,by kernel_rfl,by kernel_rfl⟩
set_option maxRecDepth 100000 in
theorem infIx:∃ i,Try.prog.info? 3=some i/\i.zero=some (.int .i64 0)/\i.size=1/\i.bytes=8:=⟨_,rfl,by kernel_rfl,by kernel_rfl,by kernel_rfl⟩
section
variable {o:Oper} {a:Act} {w:World}
theorem execMkLx {x y:Operand} {n:Nat} (ho:o.op=.makeSlice 27 x y) (hx:a.eval x=.int .i64 ((n:Nat):Int)) (hy:a.eval y=.int .i64 ((n:Nat):Int)) (hn:n<=1024):(execOp a.eval o).run Try.prog w=.ok (.value (.slice (some ⟨w.heap.size,0,none⟩) n n)) (w.alloc (.cells (madeCells #[.slice none 0 0] n) 22)):=by
 obtain ⟨i,h1,h2,h3,h4⟩:=infLs
 have h:=run_make (P:=Try.prog) w 27 22 i (.slice none 0 0) Try.underlying27 h1 h2 .i64 .i64 (n:Int) (n:Int) (by omega) (by omega) (by rw [h4]; omega) (by omega)
 rw [h3,Int.toNat_natCast,Nat.mul_one] at h
 unfold execOp
 simp only [ho,hx,hy,Sem.run_bind,h,Result.andThen_ok,Sem.run_pure]
 rfl
theorem execMkIx {x y:Operand} {n:Nat} (ho:o.op=.makeSlice 22 x y) (hx:a.eval x=.int .i64 ((n:Nat):Int)) (hy:a.eval y=.int .i64 ((n:Nat):Int)) (hn:n<=1024):(execOp a.eval o).run Try.prog w=.ok (.value (.slice (some ⟨w.heap.size,0,none⟩) n n)) (w.alloc (.cells (madeCells #[.int .i64 0] n) 3)):=by
 obtain ⟨i,h1,h2,h3,h4⟩:=infIx
 have h:=run_make (P:=Try.prog) w 22 3 i (.int .i64 0) Try.underlying22 h1 h2 .i64 .i64 (n:Int) (n:Int) (by omega) (by omega) (by rw [h4]; omega) (by omega)
 rw [h3,Int.toNat_natCast,Nat.mul_one] at h
 unfold execOp
 simp only [ho,hx,hy,Sem.run_bind,h,Result.andThen_ok,Sem.run_pure]
 rfl
theorem execStLx {x y:Operand} {b k:Nat} {u old:Value} (ho:o.op=.store 27 x y) (hx:a.eval x=.pointer (some ⟨b,k,none⟩)) (hy:a.eval y=u) (hu:∃ q n c,u=.slice q n c) (hc:w.cell? ⟨b,k,none⟩=some old) (hf:w.frozen? ⟨b,k,none⟩=false):(execOp a.eval o).run Try.prog w=.ok .skip (w.setCell ⟨b,k,none⟩ u):=by
 obtain ⟨_,_,_,rfl⟩:=hu
 unfold execOp
 simp only [ho,hx,hy]
 simp [go_sem,hc,hf]
theorem execBdHx (ho:o.op=.build 29 #[]):(execOp a.eval o).run Try.prog w=.ok (.value (.agg (hC (.slice none 0 0) 0 false false 0 (.slice none 0 0)))) w:=by
 unfold execOp
 simp only [ho,List.map_toArray,List.map_nil]
 kernel_rfl
theorem execLdPx {x:Operand} {g:Nat} {u v:Value} (ho:o.op=.load 25 x) (hx:a.eval x=.pointer (some ⟨g,0,none⟩)) (h:w.heap[g]?=some (.cells #[u,v] 25)):(execOp a.eval o).run Try.prog w=.ok (.value (.agg #[u,v])) w:=by
 obtain ⟨h0,h1⟩:=plB_at h
 have h:=execLoadMid (P:=Try.prog) (cs:=[u,v]) ho hx (fun j z hv=>by
  match j,hv with
  | 0,hv=>exact h0.trans hv
  | 1,hv=>exact h1.trans hv
  | j+2,hv=>cases hv) Try.underlying25 rfl (by show _=some 2; kernel_rfl)
 exact h
end
theorem hC_s4 {W:World} {g:Nat} {pk tk:Value} {m l n:Nat} {en st:Bool} {t:TypeId} (h:W.heap[g]?=some (.cells (hC pk m en st l tk) t)):(W.setCell ⟨g,4,none⟩ (.int .i64 ((n:Nat):Int))).heap[g]?=some (.cells (hC pk m en st n tk) t):=heap4 _ h
theorem hC_s5 {W:World} {g:Nat} {pk tk u:Value} {m l:Nat} {en st:Bool} {t:TypeId} (h:W.heap[g]?=some (.cells (hC pk m en st l tk) t)):(W.setCell ⟨g,5,none⟩ u).heap[g]?=some (.cells (hC pk m en st l u) t):=heap4 _ h
theorem row_sv {W:World} {b n:Nat} {x:Nat->Value} {t:TypeId} (h:W.heap[b]?=some (.cells (Duc.rA n x) t)):SliceV W (sl0 b n) n x:=⟨_,_,rfl,fun _=>⟨b,0,rfl,(Array.getElem?_eq_some_iff.1 h).1,fun _ hj=>rA_c h hj⟩⟩
def PlayE (p:Pl) (m:Nat) (sc:Nat->Int) (e:Ending) (w:World):Prop:=(chk p ≠ 0->e=.returned (.tuple #[.agg (hC (.slice none 0 0) 0 false false 0 (.slice none 0 0)),.int .i64 ((chk p:Nat):Int)]))/\(chk p=0->∃ pkv tkv tv k,Run p (scr m sc) k/\e=.returned (.tuple #[.agg (hC pkv (mx p (scr m sc) k) (!live p (rk p (scr m sc) k)) (live p (rk p (scr m sc) k) && decide (mayL p (rk p (scr m sc) k)=[])) (rk p (scr m sc) k).lt tkv),.int .i64 ((0:Nat):Int)])/\SliceI w pkv k (fun i=>((pk p (scr m sc) i:Nat):Int))/\SliceV w tkv p.n tv/\∀ t,t < p.n->SliceI w (tv t) ((rk p (scr m sc) k).tk t).length (fun j=>((rk p (scr m sc) k).tk t).getD j 0))
set_option maxRecDepth 100000 in
set_option maxHeartbeats 4000000 in
theorem rplay (p:Pl) (cv tz sv:Value) (xz:Nat->Value) (m:Nat) (sc:Nat->Int) (V:World) (hp:PlV V cv tz xz p) (hS:SliceI V sv m sc) :
  Calls Try.prog 6 #[.agg #[cv,tz],sv] V fun e w'=>PlayE p m sc e w'/\Below V.heap.size V w':=by
 by_cases hck:chk p=0
 ·have hok:=chk_okp hck
  go_enter Try.func6,Try.ntmps6
  refine wo_ 141 [(0,.agg #[cv,tz]),(1,sv)] ?_
  rintro a A ⟨t0,t1,-⟩
  have BB:Below V.heap.size V V:=Below.refl _ _
  refine wp_seq ?_
  obtain ⟨g2,egg2⟩:∃ z_:Nat,V.heap.size=z_:=⟨_,rfl⟩
  refine wi_ A (h2_ t0 t1) (rs_ 0 (fun a E=>?_))
  refine stepV rfl rfl (execBxP rfl (E _) (sl3 hp.c.shp) (sl3 hp.t.shp)) ⟨.pointer (some ⟨g2,0,none⟩),⟨_,rfl,by subst egg2; rfl⟩,fun X0_1 hX=>?_⟩
  have bQ:Below V.heap.size V X0_1:=by subst hX egg2; exact (belNew V _)
  have F2:(X0_1.heap[g2]?=some (.cells #[cv,tz] 25)):=by subst hX egg2; exact heapNew V _
  replace BB:=BB.trans (bQ.mono BB.size)
  clear bQ hX egg2 E a
  obtain ⟨g4,egg4⟩:∃ z_:Nat,X0_1.heap.size=z_:=⟨_,rfl⟩
  refine rs_ 1 (fun a E=>?_)
  refine stepV rfl rfl (execAlH rfl) ⟨.pointer (some ⟨g4,0,none⟩),⟨_,rfl,by subst egg4; rfl⟩,fun X0 hX=>?_⟩
  have bQ:Below X0_1.heap.size X0_1 X0:=by subst hX egg4; exact (belNew X0_1 _)
  have F4:(X0.heap[g4]?=some (.cells (hC (.slice none 0 0) 0 false false 0 (.slice none 0 0)) 29)):=by subst hX egg4; exact heapNew X0_1 _
  have hg4:(V.heap.size<=g4):=by subst hX egg4; exact (BB).size
  replace F2:=(on9 F2 bQ)
  replace BB:=BB.trans (bQ.mono BB.size)
  clear bQ hX egg4 E a
  refine rf_ [(2,.pointer (some ⟨g2,0,none⟩)),(4,.pointer (some ⟨g4,0,none⟩))] (h1_ t1) ?_
  rintro a A ⟨t2,t4,-⟩ ⟨t1,-⟩
  refine wp_seq ?_
  refine wi_ A (h3_ t1 t2 t4) (rv_ 0 (.agg #[cv,tz]) (fun a E=>execLdPx rfl (E _) F2) (rc_ 1 (rcheck19 p (.agg #[cv,tz]) X0 ⟨cv,tz,xz,rfl,(hp.on BB).c,(hp.on BB).t,(hp.on BB).o⟩) (cb_ fun X1 bQ=>?_)))
  replace F2:=(on9 F2 bQ)
  replace F4:=(on9 F4 bQ)
  replace BB:=BB.trans (bQ.mono BB.size)
  clear bQ
  refine rf_ [(6,.int .i64 ((chk p:Nat):Int))] (h3_ t1 t2 t4) ?_
  rintro a A ⟨t6,-⟩ ⟨t1,t2,t4,-⟩
  refine wp_seq (wp_seq ?_)
  refine wi_ A (h4_ t1 t2 t4 t6) (rv_ 1 (.bool false) (fun a E=>execDec (exIneq3 (p:=((chk p:Nat):Int)) (q:=0) rfl (E _) rfl) (decide_eq_false (by omega))) (rf_ [(21,.bool false)] (h3_ t1 t2 t4) ?_))
  rintro a A ⟨t21,-⟩ ⟨t1,t2,t4,-⟩
  refine wp_cond_false t21 (wp_skip ?_)
  clear t21
  have hnn:=hok.n
  have hdd:=hok.d
  refine wp_seq ?_
  refine wj_ [0,1,2,3,4,5,6,7] [] [1,4] [] A (h3_ t1 t2 t4) (fun X4 bD=>?_)
  refine dw_ 0 (.pointer (some ⟨g2,1,none⟩)) (fun a X E=>execPf1 rfl (E _)) (dv_ 1 (tz) (fun a X E hb=>execLr rfl (Or.inr (Or.inr (Or.inr (Or.inr (Or.inr (Or.inl rfl)))))) (E _) (plB_at (on9 F2 hb)).2) (dw_ 2 (.int .i64 ((p.n:Nat):Int)) (fun a X E=>execLnOO (len:=p.n) rfl (E _) hp.t.shp) (dw_ 3 (.pointer (some ⟨g2,0,none⟩)) (fun a X E=>execPf0 rfl (E _)) (dv_ 4 (cv) (fun a X E hb=>execLr rfl (Or.inr (Or.inr (Or.inl rfl))) (E _) (plB_at (on9 F2 hb)).1) (dw_ 5 (.int .i64 ((p.d:Nat):Int)) (fun a X E=>execLenI (len:=p.d) rfl (E _) hp.c.shp) (dz_ [(7,.int .i64 ((p.n:Nat):Int)),(8,.int .i64 ((p.d:Nat):Int))] (h3_ t1 t2 t4) ?_))))))
  rintro a A ⟨t7,t8,-⟩ ⟨t1,t2,t4,-⟩
  replace F2:=(on9 F2 bD)
  replace F4:=(on9 F4 bD)
  replace BB:=BB.trans (bD.mono BB.size)
  clear bD
  refine wp_seq ?_
  refine wp_region_stB (σ:=Nat × Nat × Nat × Nat × Nat × Nat × Nat × Nat × Nat) 141 [(0,30),(1,31),(2,32),(3,33),(4,34),(5,35),(6,36),(7,37),(8,38),(9,39),(10,40),(11,41),(12,42),(13,43),(14,44),(15,45),(16,46),(17,47),(18,48),(19,9)] (fun l_ s X=>Below V.heap.size V X/\((X.heap[g2]?=some (.cells #[cv,tz] 25)))/\((X.heap[g4]?=some (.cells (hC (.slice none 0 0) 0 false false 0 (.slice none 0 0)) 29)))/\((V.heap.size<=g4))/\(l_ 2=true->(X.heap[s.1]?=some (.cells (madeCells #[.int .i64 0] p.n) 3)))/\(l_ 2=true->(V.heap.size<=s.1))/\(l_ 2=true->l_ 4=true->(s.1 ≠ s.2.1))/\(l_ 2=true->l_ 14=true->(s.1 ≠ s.2.2.2.2.2.2.1))/\(l_ 2=true->l_ 16=true->(s.1 ≠ s.2.2.2.2.2.2.2.1))/\(l_ 4=true->(X.heap[s.2.1]?=some (.cells (madeCells #[.int .i64 0] p.n) 3)))/\(l_ 4=true->(V.heap.size<=s.2.1))/\(l_ 4=true->l_ 14=true->(s.2.1 ≠ s.2.2.2.2.2.2.1))/\(l_ 4=true->l_ 16=true->(s.2.1 ≠ s.2.2.2.2.2.2.2.1))/\(l_ 6=true->(X.heap[s.2.2.1]?=some (.cells (madeCells #[.bool false] p.n) 4)))/\(l_ 6=true->(V.heap.size<=s.2.2.1))/\(l_ 6=true->l_ 12=true->(s.2.2.1 ≠ s.2.2.2.2.2.1))/\(l_ 8=true->(X.heap[s.2.2.2.1]?=some (.cells (madeCells #[.slice none 0 0] p.n) 22)))/\(l_ 8=true->(V.heap.size<=s.2.2.2.1))/\(l_ 8=true->l_ 10=true->(s.2.2.2.1 ≠ s.2.2.2.2.1))/\(l_ 10=true->(X.heap[s.2.2.2.2.1]?=some (.cells (madeCells #[.slice none 0 0] p.d) 22)))/\(l_ 10=true->(V.heap.size<=s.2.2.2.2.1))/\(l_ 12=true->(X.heap[s.2.2.2.2.2.1]?=some (.cells (madeCells #[.bool false] p.d) 4)))/\(l_ 12=true->(V.heap.size<=s.2.2.2.2.2.1))/\(l_ 14=true->(X.heap[s.2.2.2.2.2.2.1]?=some (.cells (madeCells #[.int .i64 0] p.d) 3)))/\(l_ 14=true->(V.heap.size<=s.2.2.2.2.2.2.1))/\(l_ 14=true->l_ 16=true->(s.2.2.2.2.2.2.1 ≠ s.2.2.2.2.2.2.2.1))/\(l_ 16=true->(X.heap[s.2.2.2.2.2.2.2.1]?=some (.cells (madeCells #[.int .i64 0] p.d) 3)))/\(l_ 16=true->(V.heap.size<=s.2.2.2.2.2.2.2.1))/\(l_ 18=true->(X.heap[s.2.2.2.2.2.2.2.2]?=some (.cells (gR (RK.mk 0 s.1 s.2.1 s.2.2.1 s.2.2.2.1 s.2.2.2.2.1 s.2.2.2.2.2.1 s.2.2.2.2.2.2.1 s.2.2.2.2.2.2.2.1) p.n p.d cv tz 0) 57)))/\(l_ 18=true->(V.heap.size<=s.2.2.2.2.2.2.2.2))) (fun s=>fun i_=>match i_ with | 0=>.agg #[cv,tz] | 1=>.int .i64 ((p.n:Nat):Int) | 2=>.slice (some ⟨s.1,0,none⟩) p.n p.n | 3=>.int .i64 ((p.n:Nat):Int) | 4=>.slice (some ⟨s.2.1,0,none⟩) p.n p.n | 5=>.int .i64 ((p.n:Nat):Int) | 6=>.slice (some ⟨s.2.2.1,0,none⟩) p.n p.n | 7=>.int .i64 ((p.n:Nat):Int) | 8=>.slice (some ⟨s.2.2.2.1,0,none⟩) p.n p.n | 9=>.int .i64 ((p.d:Nat):Int) | 10=>.slice (some ⟨s.2.2.2.2.1,0,none⟩) p.d p.d | 11=>.int .i64 ((p.d:Nat):Int) | 12=>.slice (some ⟨s.2.2.2.2.2.1,0,none⟩) p.d p.d | 13=>.int .i64 ((p.d:Nat):Int) | 14=>.slice (some ⟨s.2.2.2.2.2.2.1,0,none⟩) p.d p.d | 15=>.int .i64 ((p.d:Nat):Int) | 16=>.slice (some ⟨s.2.2.2.2.2.2.2.1,0,none⟩) p.d p.d | 17=>.agg (gR (RK.mk 0 s.1 s.2.1 s.2.2.1 s.2.2.2.1 s.2.2.2.2.1 s.2.2.2.2.2.1 s.2.2.2.2.2.2.1 s.2.2.2.2.2.2.2.1) p.n p.d cv tz 0) | 18=>.pointer (some ⟨s.2.2.2.2.2.2.2.2,0,none⟩) | 19=>.pointer (some ⟨s.2.2.2.2.2.2.2.2,0,none⟩) | _=>undef) (0,0,0,0,0,0,0,0,0) (by kernel_rfl) (by kernel_rfl) A.1 (by kernel_rfl) (by decide) (by decide) ⟨(BB.drew),((on9 F2 (Below.refl _ _).drew)),((on9 F4 (Below.refl _ _).drew)),(hg4),(fun q0_=>by cases q0_),(fun q0_=>by cases q0_),(fun q0_ q1_=>by cases q0_),(fun q0_ q1_=>by cases q0_),(fun q0_ q1_=>by cases q0_),(fun q0_=>by cases q0_),(fun q0_=>by cases q0_),(fun q0_ q1_=>by cases q0_),(fun q0_ q1_=>by cases q0_),(fun q0_=>by cases q0_),(fun q0_=>by cases q0_),(fun q0_ q1_=>by cases q0_),(fun q0_=>by cases q0_),(fun q0_=>by cases q0_),(fun q0_ q1_=>by cases q0_),(fun q0_=>by cases q0_),(fun q0_=>by cases q0_),(fun q0_=>by cases q0_),(fun q0_=>by cases q0_),(fun q0_=>by cases q0_),(fun q0_=>by cases q0_),(fun q0_ q1_=>by cases q0_),(fun q0_=>by cases q0_),(fun q0_=>by cases q0_),(fun q0_=>by cases q0_),(fun q0_=>by cases q0_)⟩ ?_ ?_
  ·intro i_ hi_ l_ s a X hl_ hf hdep hl2 hcl hno hT
   have up:∀ j x,x ≠ j->updB l_ j x=l_ x:=fun j x hj=>by unfold updB; simp [hj]
   match i_,hi_ with
   | 0,_=>exact stepV rfl rfl (execLdPx rfl ((hf 2 (by decide)).trans t2) hT.2.1) ⟨s,⟨_,rfl,rfl⟩,⟨hT.1,(hT.2.1),(hT.2.2.1),(hT.2.2.2.1),(fun q0_=>(hT.2.2.2.2.1 (by rw [up 0 2 (by decide)] at q0_; exact q0_))),(fun q0_=>(hT.2.2.2.2.2.1 (by rw [up 0 2 (by decide)] at q0_; exact q0_))),(fun q0_ q1_=>(hT.2.2.2.2.2.2.1 (by rw [up 0 2 (by decide)] at q0_; exact q0_) (by rw [up 0 4 (by decide)] at q1_; exact q1_))),(fun q0_ q1_=>(hT.2.2.2.2.2.2.2.1 (by rw [up 0 2 (by decide)] at q0_; exact q0_) (by rw [up 0 14 (by decide)] at q1_; exact q1_))),(fun q0_ q1_=>(hT.2.2.2.2.2.2.2.2.1 (by rw [up 0 2 (by decide)] at q0_; exact q0_) (by rw [up 0 16 (by decide)] at q1_; exact q1_))),(fun q0_=>(hT.2.2.2.2.2.2.2.2.2.1 (by rw [up 0 4 (by decide)] at q0_; exact q0_))),(fun q0_=>(hT.2.2.2.2.2.2.2.2.2.2.1 (by rw [up 0 4 (by decide)] at q0_; exact q0_))),(fun q0_ q1_=>(hT.2.2.2.2.2.2.2.2.2.2.2.1 (by rw [up 0 4 (by decide)] at q0_; exact q0_) (by rw [up 0 14 (by decide)] at q1_; exact q1_))),(fun q0_ q1_=>(hT.2.2.2.2.2.2.2.2.2.2.2.2.1 (by rw [up 0 4 (by decide)] at q0_; exact q0_) (by rw [up 0 16 (by decide)] at q1_; exact q1_))),(fun q0_=>(hT.2.2.2.2.2.2.2.2.2.2.2.2.2.1 (by rw [up 0 6 (by decide)] at q0_; exact q0_))),(fun q0_=>(hT.2.2.2.2.2.2.2.2.2.2.2.2.2.2.1 (by rw [up 0 6 (by decide)] at q0_; exact q0_))),(fun q0_ q1_=>(hT.2.2.2.2.2.2.2.2.2.2.2.2.2.2.2.1 (by rw [up 0 6 (by decide)] at q0_; exact q0_) (by rw [up 0 12 (by decide)] at q1_; exact q1_))),(fun q0_=>(hT.2.2.2.2.2.2.2.2.2.2.2.2.2.2.2.2.1 (by rw [up 0 8 (by decide)] at q0_; exact q0_))),(fun q0_=>(hT.2.2.2.2.2.2.2.2.2.2.2.2.2.2.2.2.2.1 (by rw [up 0 8 (by decide)] at q0_; exact q0_))),(fun q0_ q1_=>(hT.2.2.2.2.2.2.2.2.2.2.2.2.2.2.2.2.2.2.1 (by rw [up 0 8 (by decide)] at q0_; exact q0_) (by rw [up 0 10 (by decide)] at q1_; exact q1_))),(fun q0_=>(hT.2.2.2.2.2.2.2.2.2.2.2.2.2.2.2.2.2.2.2.1 (by rw [up 0 10 (by decide)] at q0_; exact q0_))),(fun q0_=>(hT.2.2.2.2.2.2.2.2.2.2.2.2.2.2.2.2.2.2.2.2.1 (by rw [up 0 10 (by decide)] at q0_; exact q0_))),(fun q0_=>(hT.2.2.2.2.2.2.2.2.2.2.2.2.2.2.2.2.2.2.2.2.2.1 (by rw [up 0 12 (by decide)] at q0_; exact q0_))),(fun q0_=>(hT.2.2.2.2.2.2.2.2.2.2.2.2.2.2.2.2.2.2.2.2.2.2.1 (by rw [up 0 12 (by decide)] at q0_; exact q0_))),(fun q0_=>(hT.2.2.2.2.2.2.2.2.2.2.2.2.2.2.2.2.2.2.2.2.2.2.2.1 (by rw [up 0 14 (by decide)] at q0_; exact q0_))),(fun q0_=>(hT.2.2.2.2.2.2.2.2.2.2.2.2.2.2.2.2.2.2.2.2.2.2.2.2.1 (by rw [up 0 14 (by decide)] at q0_; exact q0_))),(fun q0_ q1_=>(hT.2.2.2.2.2.2.2.2.2.2.2.2.2.2.2.2.2.2.2.2.2.2.2.2.2.1 (by rw [up 0 14 (by decide)] at q0_; exact q0_) (by rw [up 0 16 (by decide)] at q1_; exact q1_))),(fun q0_=>(hT.2.2.2.2.2.2.2.2.2.2.2.2.2.2.2.2.2.2.2.2.2.2.2.2.2.2.1 (by rw [up 0 16 (by decide)] at q0_; exact q0_))),(fun q0_=>(hT.2.2.2.2.2.2.2.2.2.2.2.2.2.2.2.2.2.2.2.2.2.2.2.2.2.2.2.1 (by rw [up 0 16 (by decide)] at q0_; exact q0_))),(fun q0_=>absurd (hl_.symm.trans (hcl 17 _ rfl (hcl 18 _ rfl ((up 0 18 (by decide)).symm.trans q0_) 17 rfl) 0 rfl)) (by decide)),(fun q0_=>absurd (hl_.symm.trans (hcl 17 _ rfl (hcl 18 _ rfl ((up 0 18 (by decide)).symm.trans q0_) 17 rfl) 0 rfl)) (by decide))⟩,fun _ _ _=>rfl⟩
   | 1,_=>exact stepV rfl rfl (execMvB rfl ((hf 7 (by decide)).trans t7)) ⟨s,⟨_,rfl,rfl⟩,⟨hT.1,(hT.2.1),(hT.2.2.1),(hT.2.2.2.1),(fun q0_=>absurd (hl_.symm.trans (hcl 2 _ rfl ((up 1 2 (by decide)).symm.trans q0_) 1 rfl)) (by decide)),(fun q0_=>absurd (hl_.symm.trans (hcl 2 _ rfl ((up 1 2 (by decide)).symm.trans q0_) 1 rfl)) (by decide)),(fun q0_ q1_=>absurd (hl_.symm.trans (hcl 2 _ rfl ((up 1 2 (by decide)).symm.trans q0_) 1 rfl)) (by decide)),(fun q0_ q1_=>absurd (hl_.symm.trans (hcl 2 _ rfl ((up 1 2 (by decide)).symm.trans q0_) 1 rfl)) (by decide)),(fun q0_ q1_=>absurd (hl_.symm.trans (hcl 2 _ rfl ((up 1 2 (by decide)).symm.trans q0_) 1 rfl)) (by decide)),(fun q0_=>(hT.2.2.2.2.2.2.2.2.2.1 (by rw [up 1 4 (by decide)] at q0_; exact q0_))),(fun q0_=>(hT.2.2.2.2.2.2.2.2.2.2.1 (by rw [up 1 4 (by decide)] at q0_; exact q0_))),(fun q0_ q1_=>(hT.2.2.2.2.2.2.2.2.2.2.2.1 (by rw [up 1 4 (by decide)] at q0_; exact q0_) (by rw [up 1 14 (by decide)] at q1_; exact q1_))),(fun q0_ q1_=>(hT.2.2.2.2.2.2.2.2.2.2.2.2.1 (by rw [up 1 4 (by decide)] at q0_; exact q0_) (by rw [up 1 16 (by decide)] at q1_; exact q1_))),(fun q0_=>(hT.2.2.2.2.2.2.2.2.2.2.2.2.2.1 (by rw [up 1 6 (by decide)] at q0_; exact q0_))),(fun q0_=>(hT.2.2.2.2.2.2.2.2.2.2.2.2.2.2.1 (by rw [up 1 6 (by decide)] at q0_; exact q0_))),(fun q0_ q1_=>(hT.2.2.2.2.2.2.2.2.2.2.2.2.2.2.2.1 (by rw [up 1 6 (by decide)] at q0_; exact q0_) (by rw [up 1 12 (by decide)] at q1_; exact q1_))),(fun q0_=>(hT.2.2.2.2.2.2.2.2.2.2.2.2.2.2.2.2.1 (by rw [up 1 8 (by decide)] at q0_; exact q0_))),(fun q0_=>(hT.2.2.2.2.2.2.2.2.2.2.2.2.2.2.2.2.2.1 (by rw [up 1 8 (by decide)] at q0_; exact q0_))),(fun q0_ q1_=>(hT.2.2.2.2.2.2.2.2.2.2.2.2.2.2.2.2.2.2.1 (by rw [up 1 8 (by decide)] at q0_; exact q0_) (by rw [up 1 10 (by decide)] at q1_; exact q1_))),(fun q0_=>(hT.2.2.2.2.2.2.2.2.2.2.2.2.2.2.2.2.2.2.2.1 (by rw [up 1 10 (by decide)] at q0_; exact q0_))),(fun q0_=>(hT.2.2.2.2.2.2.2.2.2.2.2.2.2.2.2.2.2.2.2.2.1 (by rw [up 1 10 (by decide)] at q0_; exact q0_))),(fun q0_=>(hT.2.2.2.2.2.2.2.2.2.2.2.2.2.2.2.2.2.2.2.2.2.1 (by rw [up 1 12 (by decide)] at q0_; exact q0_))),(fun q0_=>(hT.2.2.2.2.2.2.2.2.2.2.2.2.2.2.2.2.2.2.2.2.2.2.1 (by rw [up 1 12 (by decide)] at q0_; exact q0_))),(fun q0_=>(hT.2.2.2.2.2.2.2.2.2.2.2.2.2.2.2.2.2.2.2.2.2.2.2.1 (by rw [up 1 14 (by decide)] at q0_; exact q0_))),(fun q0_=>(hT.2.2.2.2.2.2.2.2.2.2.2.2.2.2.2.2.2.2.2.2.2.2.2.2.1 (by rw [up 1 14 (by decide)] at q0_; exact q0_))),(fun q0_ q1_=>(hT.2.2.2.2.2.2.2.2.2.2.2.2.2.2.2.2.2.2.2.2.2.2.2.2.2.1 (by rw [up 1 14 (by decide)] at q0_; exact q0_) (by rw [up 1 16 (by decide)] at q1_; exact q1_))),(fun q0_=>(hT.2.2.2.2.2.2.2.2.2.2.2.2.2.2.2.2.2.2.2.2.2.2.2.2.2.2.1 (by rw [up 1 16 (by decide)] at q0_; exact q0_))),(fun q0_=>(hT.2.2.2.2.2.2.2.2.2.2.2.2.2.2.2.2.2.2.2.2.2.2.2.2.2.2.2.1 (by rw [up 1 16 (by decide)] at q0_; exact q0_))),(fun q0_=>absurd (hl_.symm.trans (hcl 2 _ rfl (hcl 17 _ rfl (hcl 18 _ rfl ((up 1 18 (by decide)).symm.trans q0_) 17 rfl) 2 rfl) 1 rfl)) (by decide)),(fun q0_=>absurd (hl_.symm.trans (hcl 2 _ rfl (hcl 17 _ rfl (hcl 18 _ rfl ((up 1 18 (by decide)).symm.trans q0_) 17 rfl) 2 rfl) 1 rfl)) (by decide))⟩,fun _ _ _=>rfl⟩
   | 2,_=>
    refine stepV rfl rfl (execMkIx rfl (hdep _ rfl 1 rfl _ rfl _ rfl) (hdep _ rfl 1 rfl _ rfl _ rfl) (by omega)) ⟨(X.heap.size,s.2.1,s.2.2.1,s.2.2.2.1,s.2.2.2.2.1,s.2.2.2.2.2.1,s.2.2.2.2.2.2.1,s.2.2.2.2.2.2.2.1,s.2.2.2.2.2.2.2.2),⟨_,rfl,rfl⟩,⟨hT.1.trans (((belNew X _)).mono hT.1.size),((on9 hT.2.1 (belNew X _))),((on9 hT.2.2.1 (belNew X _))),(hT.2.2.2.1),(fun _q0_=>heapNew X _),(fun _q0_=>(hT.1).size),(fun q0_ q1_=>(Ne.symm (Nat.ne_of_lt (Array.getElem?_eq_some_iff.1 (hT.2.2.2.2.2.2.2.2.2.1 (by rw [up 2 4 (by decide)] at q1_; exact q1_))).1))),(fun q0_ q1_=>(Ne.symm (Nat.ne_of_lt (Array.getElem?_eq_some_iff.1 (hT.2.2.2.2.2.2.2.2.2.2.2.2.2.2.2.2.2.2.2.2.2.2.2.1 (by rw [up 2 14 (by decide)] at q1_; exact q1_))).1))),(fun q0_ q1_=>(Ne.symm (Nat.ne_of_lt (Array.getElem?_eq_some_iff.1 (hT.2.2.2.2.2.2.2.2.2.2.2.2.2.2.2.2.2.2.2.2.2.2.2.2.2.2.1 (by rw [up 2 16 (by decide)] at q1_; exact q1_))).1))),(fun q0_=>(on9 (hT.2.2.2.2.2.2.2.2.2.1 (by rw [up 2 4 (by decide)] at q0_; exact q0_)) (belNew X _))),(fun q0_=>(hT.2.2.2.2.2.2.2.2.2.2.1 (by rw [up 2 4 (by decide)] at q0_; exact q0_))),(fun q0_ q1_=>(hT.2.2.2.2.2.2.2.2.2.2.2.1 (by rw [up 2 4 (by decide)] at q0_; exact q0_) (by rw [up 2 14 (by decide)] at q1_; exact q1_))),(fun q0_ q1_=>(hT.2.2.2.2.2.2.2.2.2.2.2.2.1 (by rw [up 2 4 (by decide)] at q0_; exact q0_) (by rw [up 2 16 (by decide)] at q1_; exact q1_))),(fun q0_=>(on9 (hT.2.2.2.2.2.2.2.2.2.2.2.2.2.1 (by rw [up 2 6 (by decide)] at q0_; exact q0_)) (belNew X _))),(fun q0_=>(hT.2.2.2.2.2.2.2.2.2.2.2.2.2.2.1 (by rw [up 2 6 (by decide)] at q0_; exact q0_))),(fun q0_ q1_=>(hT.2.2.2.2.2.2.2.2.2.2.2.2.2.2.2.1 (by rw [up 2 6 (by decide)] at q0_; exact q0_) (by rw [up 2 12 (by decide)] at q1_; exact q1_))),(fun q0_=>(on9 (hT.2.2.2.2.2.2.2.2.2.2.2.2.2.2.2.2.1 (by rw [up 2 8 (by decide)] at q0_; exact q0_)) (belNew X _))),(fun q0_=>(hT.2.2.2.2.2.2.2.2.2.2.2.2.2.2.2.2.2.1 (by rw [up 2 8 (by decide)] at q0_; exact q0_))),(fun q0_ q1_=>(hT.2.2.2.2.2.2.2.2.2.2.2.2.2.2.2.2.2.2.1 (by rw [up 2 8 (by decide)] at q0_; exact q0_) (by rw [up 2 10 (by decide)] at q1_; exact q1_))),(fun q0_=>(on9 (hT.2.2.2.2.2.2.2.2.2.2.2.2.2.2.2.2.2.2.2.1 (by rw [up 2 10 (by decide)] at q0_; exact q0_)) (belNew X _))),(fun q0_=>(hT.2.2.2.2.2.2.2.2.2.2.2.2.2.2.2.2.2.2.2.2.1 (by rw [up 2 10 (by decide)] at q0_; exact q0_))),(fun q0_=>(on9 (hT.2.2.2.2.2.2.2.2.2.2.2.2.2.2.2.2.2.2.2.2.2.1 (by rw [up 2 12 (by decide)] at q0_; exact q0_)) (belNew X _))),(fun q0_=>(hT.2.2.2.2.2.2.2.2.2.2.2.2.2.2.2.2.2.2.2.2.2.2.1 (by rw [up 2 12 (by decide)] at q0_; exact q0_))),(fun q0_=>(on9 (hT.2.2.2.2.2.2.2.2.2.2.2.2.2.2.2.2.2.2.2.2.2.2.2.1 (by rw [up 2 14 (by decide)] at q0_; exact q0_)) (belNew X _))),(fun q0_=>(hT.2.2.2.2.2.2.2.2.2.2.2.2.2.2.2.2.2.2.2.2.2.2.2.2.1 (by rw [up 2 14 (by decide)] at q0_; exact q0_))),(fun q0_ q1_=>(hT.2.2.2.2.2.2.2.2.2.2.2.2.2.2.2.2.2.2.2.2.2.2.2.2.2.1 (by rw [up 2 14 (by decide)] at q0_; exact q0_) (by rw [up 2 16 (by decide)] at q1_; exact q1_))),(fun q0_=>(on9 (hT.2.2.2.2.2.2.2.2.2.2.2.2.2.2.2.2.2.2.2.2.2.2.2.2.2.2.1 (by rw [up 2 16 (by decide)] at q0_; exact q0_)) (belNew X _))),(fun q0_=>(hT.2.2.2.2.2.2.2.2.2.2.2.2.2.2.2.2.2.2.2.2.2.2.2.2.2.2.2.1 (by rw [up 2 16 (by decide)] at q0_; exact q0_))),(fun q0_=>absurd (hl_.symm.trans (hcl 17 _ rfl (hcl 18 _ rfl ((up 2 18 (by decide)).symm.trans q0_) 17 rfl) 2 rfl)) (by decide)),(fun q0_=>absurd (hl_.symm.trans (hcl 17 _ rfl (hcl 18 _ rfl ((up 2 18 (by decide)).symm.trans q0_) 17 rfl) 2 rfl)) (by decide))⟩,fun i hi hli=>?_⟩
    match i,hi with
    | 0,_=>rfl
    | 1,_=>rfl
    | 2,_=>exact absurd (hl_.symm.trans hli) (by decide)
    | 3,_=>rfl
    | 4,_=>rfl
    | 5,_=>rfl
    | 6,_=>rfl
    | 7,_=>rfl
    | 8,_=>rfl
    | 9,_=>rfl
    | 10,_=>rfl
    | 11,_=>rfl
    | 12,_=>rfl
    | 13,_=>rfl
    | 14,_=>rfl
    | 15,_=>rfl
    | 16,_=>rfl
    | 17,_=>exact absurd (hl_.symm.trans (hcl 17 _ rfl hli 2 rfl)) (by decide)
    | 18,_=>rfl
    | 19,_=>rfl
    | k_+20,h_=>exact absurd h_ (by simp)
   | 3,_=>exact stepV rfl rfl (execMvB rfl ((hf 7 (by decide)).trans t7)) ⟨s,⟨_,rfl,rfl⟩,⟨hT.1,(hT.2.1),(hT.2.2.1),(hT.2.2.2.1),(fun q0_=>(hT.2.2.2.2.1 (by rw [up 3 2 (by decide)] at q0_; exact q0_))),(fun q0_=>(hT.2.2.2.2.2.1 (by rw [up 3 2 (by decide)] at q0_; exact q0_))),(fun q0_ q1_=>absurd (hl_.symm.trans (hcl 4 _ rfl ((up 3 4 (by decide)).symm.trans q1_) 3 rfl)) (by decide)),(fun q0_ q1_=>(hT.2.2.2.2.2.2.2.1 (by rw [up 3 2 (by decide)] at q0_; exact q0_) (by rw [up 3 14 (by decide)] at q1_; exact q1_))),(fun q0_ q1_=>(hT.2.2.2.2.2.2.2.2.1 (by rw [up 3 2 (by decide)] at q0_; exact q0_) (by rw [up 3 16 (by decide)] at q1_; exact q1_))),(fun q0_=>absurd (hl_.symm.trans (hcl 4 _ rfl ((up 3 4 (by decide)).symm.trans q0_) 3 rfl)) (by decide)),(fun q0_=>absurd (hl_.symm.trans (hcl 4 _ rfl ((up 3 4 (by decide)).symm.trans q0_) 3 rfl)) (by decide)),(fun q0_ q1_=>absurd (hl_.symm.trans (hcl 4 _ rfl ((up 3 4 (by decide)).symm.trans q0_) 3 rfl)) (by decide)),(fun q0_ q1_=>absurd (hl_.symm.trans (hcl 4 _ rfl ((up 3 4 (by decide)).symm.trans q0_) 3 rfl)) (by decide)),(fun q0_=>(hT.2.2.2.2.2.2.2.2.2.2.2.2.2.1 (by rw [up 3 6 (by decide)] at q0_; exact q0_))),(fun q0_=>(hT.2.2.2.2.2.2.2.2.2.2.2.2.2.2.1 (by rw [up 3 6 (by decide)] at q0_; exact q0_))),(fun q0_ q1_=>(hT.2.2.2.2.2.2.2.2.2.2.2.2.2.2.2.1 (by rw [up 3 6 (by decide)] at q0_; exact q0_) (by rw [up 3 12 (by decide)] at q1_; exact q1_))),(fun q0_=>(hT.2.2.2.2.2.2.2.2.2.2.2.2.2.2.2.2.1 (by rw [up 3 8 (by decide)] at q0_; exact q0_))),(fun q0_=>(hT.2.2.2.2.2.2.2.2.2.2.2.2.2.2.2.2.2.1 (by rw [up 3 8 (by decide)] at q0_; exact q0_))),(fun q0_ q1_=>(hT.2.2.2.2.2.2.2.2.2.2.2.2.2.2.2.2.2.2.1 (by rw [up 3 8 (by decide)] at q0_; exact q0_) (by rw [up 3 10 (by decide)] at q1_; exact q1_))),(fun q0_=>(hT.2.2.2.2.2.2.2.2.2.2.2.2.2.2.2.2.2.2.2.1 (by rw [up 3 10 (by decide)] at q0_; exact q0_))),(fun q0_=>(hT.2.2.2.2.2.2.2.2.2.2.2.2.2.2.2.2.2.2.2.2.1 (by rw [up 3 10 (by decide)] at q0_; exact q0_))),(fun q0_=>(hT.2.2.2.2.2.2.2.2.2.2.2.2.2.2.2.2.2.2.2.2.2.1 (by rw [up 3 12 (by decide)] at q0_; exact q0_))),(fun q0_=>(hT.2.2.2.2.2.2.2.2.2.2.2.2.2.2.2.2.2.2.2.2.2.2.1 (by rw [up 3 12 (by decide)] at q0_; exact q0_))),(fun q0_=>(hT.2.2.2.2.2.2.2.2.2.2.2.2.2.2.2.2.2.2.2.2.2.2.2.1 (by rw [up 3 14 (by decide)] at q0_; exact q0_))),(fun q0_=>(hT.2.2.2.2.2.2.2.2.2.2.2.2.2.2.2.2.2.2.2.2.2.2.2.2.1 (by rw [up 3 14 (by decide)] at q0_; exact q0_))),(fun q0_ q1_=>(hT.2.2.2.2.2.2.2.2.2.2.2.2.2.2.2.2.2.2.2.2.2.2.2.2.2.1 (by rw [up 3 14 (by decide)] at q0_; exact q0_) (by rw [up 3 16 (by decide)] at q1_; exact q1_))),(fun q0_=>(hT.2.2.2.2.2.2.2.2.2.2.2.2.2.2.2.2.2.2.2.2.2.2.2.2.2.2.1 (by rw [up 3 16 (by decide)] at q0_; exact q0_))),(fun q0_=>(hT.2.2.2.2.2.2.2.2.2.2.2.2.2.2.2.2.2.2.2.2.2.2.2.2.2.2.2.1 (by rw [up 3 16 (by decide)] at q0_; exact q0_))),(fun q0_=>absurd (hl_.symm.trans (hcl 4 _ rfl (hcl 17 _ rfl (hcl 18 _ rfl ((up 3 18 (by decide)).symm.trans q0_) 17 rfl) 4 rfl) 3 rfl)) (by decide)),(fun q0_=>absurd (hl_.symm.trans (hcl 4 _ rfl (hcl 17 _ rfl (hcl 18 _ rfl ((up 3 18 (by decide)).symm.trans q0_) 17 rfl) 4 rfl) 3 rfl)) (by decide))⟩,fun _ _ _=>rfl⟩
   | 4,_=>
    refine stepV rfl rfl (execMkIx rfl (hdep _ rfl 3 rfl _ rfl _ rfl) (hdep _ rfl 3 rfl _ rfl _ rfl) (by omega)) ⟨(s.1,X.heap.size,s.2.2.1,s.2.2.2.1,s.2.2.2.2.1,s.2.2.2.2.2.1,s.2.2.2.2.2.2.1,s.2.2.2.2.2.2.2.1,s.2.2.2.2.2.2.2.2),⟨_,rfl,rfl⟩,⟨hT.1.trans (((belNew X _)).mono hT.1.size),((on9 hT.2.1 (belNew X _))),((on9 hT.2.2.1 (belNew X _))),(hT.2.2.2.1),(fun q0_=>(on9 (hT.2.2.2.2.1 (by rw [up 4 2 (by decide)] at q0_; exact q0_)) (belNew X _))),(fun q0_=>(hT.2.2.2.2.2.1 (by rw [up 4 2 (by decide)] at q0_; exact q0_))),(fun q0_ q1_=>Nat.ne_of_lt (Array.getElem?_eq_some_iff.1 (hT.2.2.2.2.1 (by rw [up 4 2 (by decide)] at q0_; exact q0_))).1),(fun q0_ q1_=>(hT.2.2.2.2.2.2.2.1 (by rw [up 4 2 (by decide)] at q0_; exact q0_) (by rw [up 4 14 (by decide)] at q1_; exact q1_))),(fun q0_ q1_=>(hT.2.2.2.2.2.2.2.2.1 (by rw [up 4 2 (by decide)] at q0_; exact q0_) (by rw [up 4 16 (by decide)] at q1_; exact q1_))),(fun _q0_=>heapNew X _),(fun _q0_=>(hT.1).size),(fun q0_ q1_=>(Ne.symm (Nat.ne_of_lt (Array.getElem?_eq_some_iff.1 (hT.2.2.2.2.2.2.2.2.2.2.2.2.2.2.2.2.2.2.2.2.2.2.2.1 (by rw [up 4 14 (by decide)] at q1_; exact q1_))).1))),(fun q0_ q1_=>(Ne.symm (Nat.ne_of_lt (Array.getElem?_eq_some_iff.1 (hT.2.2.2.2.2.2.2.2.2.2.2.2.2.2.2.2.2.2.2.2.2.2.2.2.2.2.1 (by rw [up 4 16 (by decide)] at q1_; exact q1_))).1))),(fun q0_=>(on9 (hT.2.2.2.2.2.2.2.2.2.2.2.2.2.1 (by rw [up 4 6 (by decide)] at q0_; exact q0_)) (belNew X _))),(fun q0_=>(hT.2.2.2.2.2.2.2.2.2.2.2.2.2.2.1 (by rw [up 4 6 (by decide)] at q0_; exact q0_))),(fun q0_ q1_=>(hT.2.2.2.2.2.2.2.2.2.2.2.2.2.2.2.1 (by rw [up 4 6 (by decide)] at q0_; exact q0_) (by rw [up 4 12 (by decide)] at q1_; exact q1_))),(fun q0_=>(on9 (hT.2.2.2.2.2.2.2.2.2.2.2.2.2.2.2.2.1 (by rw [up 4 8 (by decide)] at q0_; exact q0_)) (belNew X _))),(fun q0_=>(hT.2.2.2.2.2.2.2.2.2.2.2.2.2.2.2.2.2.1 (by rw [up 4 8 (by decide)] at q0_; exact q0_))),(fun q0_ q1_=>(hT.2.2.2.2.2.2.2.2.2.2.2.2.2.2.2.2.2.2.1 (by rw [up 4 8 (by decide)] at q0_; exact q0_) (by rw [up 4 10 (by decide)] at q1_; exact q1_))),(fun q0_=>(on9 (hT.2.2.2.2.2.2.2.2.2.2.2.2.2.2.2.2.2.2.2.1 (by rw [up 4 10 (by decide)] at q0_; exact q0_)) (belNew X _))),(fun q0_=>(hT.2.2.2.2.2.2.2.2.2.2.2.2.2.2.2.2.2.2.2.2.1 (by rw [up 4 10 (by decide)] at q0_; exact q0_))),(fun q0_=>(on9 (hT.2.2.2.2.2.2.2.2.2.2.2.2.2.2.2.2.2.2.2.2.2.1 (by rw [up 4 12 (by decide)] at q0_; exact q0_)) (belNew X _))),(fun q0_=>(hT.2.2.2.2.2.2.2.2.2.2.2.2.2.2.2.2.2.2.2.2.2.2.1 (by rw [up 4 12 (by decide)] at q0_; exact q0_))),(fun q0_=>(on9 (hT.2.2.2.2.2.2.2.2.2.2.2.2.2.2.2.2.2.2.2.2.2.2.2.1 (by rw [up 4 14 (by decide)] at q0_; exact q0_)) (belNew X _))),(fun q0_=>(hT.2.2.2.2.2.2.2.2.2.2.2.2.2.2.2.2.2.2.2.2.2.2.2.2.1 (by rw [up 4 14 (by decide)] at q0_; exact q0_))),(fun q0_ q1_=>(hT.2.2.2.2.2.2.2.2.2.2.2.2.2.2.2.2.2.2.2.2.2.2.2.2.2.1 (by rw [up 4 14 (by decide)] at q0_; exact q0_) (by rw [up 4 16 (by decide)] at q1_; exact q1_))),(fun q0_=>(on9 (hT.2.2.2.2.2.2.2.2.2.2.2.2.2.2.2.2.2.2.2.2.2.2.2.2.2.2.1 (by rw [up 4 16 (by decide)] at q0_; exact q0_)) (belNew X _))),(fun q0_=>(hT.2.2.2.2.2.2.2.2.2.2.2.2.2.2.2.2.2.2.2.2.2.2.2.2.2.2.2.1 (by rw [up 4 16 (by decide)] at q0_; exact q0_))),(fun q0_=>absurd (hl_.symm.trans (hcl 17 _ rfl (hcl 18 _ rfl ((up 4 18 (by decide)).symm.trans q0_) 17 rfl) 4 rfl)) (by decide)),(fun q0_=>absurd (hl_.symm.trans (hcl 17 _ rfl (hcl 18 _ rfl ((up 4 18 (by decide)).symm.trans q0_) 17 rfl) 4 rfl)) (by decide))⟩,fun i hi hli=>?_⟩
    match i,hi with
    | 0,_=>rfl
    | 1,_=>rfl
    | 2,_=>rfl
    | 3,_=>rfl
    | 4,_=>exact absurd (hl_.symm.trans hli) (by decide)
    | 5,_=>rfl
    | 6,_=>rfl
    | 7,_=>rfl
    | 8,_=>rfl
    | 9,_=>rfl
    | 10,_=>rfl
    | 11,_=>rfl
    | 12,_=>rfl
    | 13,_=>rfl
    | 14,_=>rfl
    | 15,_=>rfl
    | 16,_=>rfl
    | 17,_=>exact absurd (hl_.symm.trans (hcl 17 _ rfl hli 4 rfl)) (by decide)
    | 18,_=>rfl
    | 19,_=>rfl
    | k_+20,h_=>exact absurd h_ (by simp)
   | 5,_=>exact stepV rfl rfl (execMvB rfl ((hf 7 (by decide)).trans t7)) ⟨s,⟨_,rfl,rfl⟩,⟨hT.1,(hT.2.1),(hT.2.2.1),(hT.2.2.2.1),(fun q0_=>(hT.2.2.2.2.1 (by rw [up 5 2 (by decide)] at q0_; exact q0_))),(fun q0_=>(hT.2.2.2.2.2.1 (by rw [up 5 2 (by decide)] at q0_; exact q0_))),(fun q0_ q1_=>(hT.2.2.2.2.2.2.1 (by rw [up 5 2 (by decide)] at q0_; exact q0_) (by rw [up 5 4 (by decide)] at q1_; exact q1_))),(fun q0_ q1_=>(hT.2.2.2.2.2.2.2.1 (by rw [up 5 2 (by decide)] at q0_; exact q0_) (by rw [up 5 14 (by decide)] at q1_; exact q1_))),(fun q0_ q1_=>(hT.2.2.2.2.2.2.2.2.1 (by rw [up 5 2 (by decide)] at q0_; exact q0_) (by rw [up 5 16 (by decide)] at q1_; exact q1_))),(fun q0_=>(hT.2.2.2.2.2.2.2.2.2.1 (by rw [up 5 4 (by decide)] at q0_; exact q0_))),(fun q0_=>(hT.2.2.2.2.2.2.2.2.2.2.1 (by rw [up 5 4 (by decide)] at q0_; exact q0_))),(fun q0_ q1_=>(hT.2.2.2.2.2.2.2.2.2.2.2.1 (by rw [up 5 4 (by decide)] at q0_; exact q0_) (by rw [up 5 14 (by decide)] at q1_; exact q1_))),(fun q0_ q1_=>(hT.2.2.2.2.2.2.2.2.2.2.2.2.1 (by rw [up 5 4 (by decide)] at q0_; exact q0_) (by rw [up 5 16 (by decide)] at q1_; exact q1_))),(fun q0_=>absurd (hl_.symm.trans (hcl 6 _ rfl ((up 5 6 (by decide)).symm.trans q0_) 5 rfl)) (by decide)),(fun q0_=>absurd (hl_.symm.trans (hcl 6 _ rfl ((up 5 6 (by decide)).symm.trans q0_) 5 rfl)) (by decide)),(fun q0_ q1_=>absurd (hl_.symm.trans (hcl 6 _ rfl ((up 5 6 (by decide)).symm.trans q0_) 5 rfl)) (by decide)),(fun q0_=>(hT.2.2.2.2.2.2.2.2.2.2.2.2.2.2.2.2.1 (by rw [up 5 8 (by decide)] at q0_; exact q0_))),(fun q0_=>(hT.2.2.2.2.2.2.2.2.2.2.2.2.2.2.2.2.2.1 (by rw [up 5 8 (by decide)] at q0_; exact q0_))),(fun q0_ q1_=>(hT.2.2.2.2.2.2.2.2.2.2.2.2.2.2.2.2.2.2.1 (by rw [up 5 8 (by decide)] at q0_; exact q0_) (by rw [up 5 10 (by decide)] at q1_; exact q1_))),(fun q0_=>(hT.2.2.2.2.2.2.2.2.2.2.2.2.2.2.2.2.2.2.2.1 (by rw [up 5 10 (by decide)] at q0_; exact q0_))),(fun q0_=>(hT.2.2.2.2.2.2.2.2.2.2.2.2.2.2.2.2.2.2.2.2.1 (by rw [up 5 10 (by decide)] at q0_; exact q0_))),(fun q0_=>(hT.2.2.2.2.2.2.2.2.2.2.2.2.2.2.2.2.2.2.2.2.2.1 (by rw [up 5 12 (by decide)] at q0_; exact q0_))),(fun q0_=>(hT.2.2.2.2.2.2.2.2.2.2.2.2.2.2.2.2.2.2.2.2.2.2.1 (by rw [up 5 12 (by decide)] at q0_; exact q0_))),(fun q0_=>(hT.2.2.2.2.2.2.2.2.2.2.2.2.2.2.2.2.2.2.2.2.2.2.2.1 (by rw [up 5 14 (by decide)] at q0_; exact q0_))),(fun q0_=>(hT.2.2.2.2.2.2.2.2.2.2.2.2.2.2.2.2.2.2.2.2.2.2.2.2.1 (by rw [up 5 14 (by decide)] at q0_; exact q0_))),(fun q0_ q1_=>(hT.2.2.2.2.2.2.2.2.2.2.2.2.2.2.2.2.2.2.2.2.2.2.2.2.2.1 (by rw [up 5 14 (by decide)] at q0_; exact q0_) (by rw [up 5 16 (by decide)] at q1_; exact q1_))),(fun q0_=>(hT.2.2.2.2.2.2.2.2.2.2.2.2.2.2.2.2.2.2.2.2.2.2.2.2.2.2.1 (by rw [up 5 16 (by decide)] at q0_; exact q0_))),(fun q0_=>(hT.2.2.2.2.2.2.2.2.2.2.2.2.2.2.2.2.2.2.2.2.2.2.2.2.2.2.2.1 (by rw [up 5 16 (by decide)] at q0_; exact q0_))),(fun q0_=>absurd (hl_.symm.trans (hcl 6 _ rfl (hcl 17 _ rfl (hcl 18 _ rfl ((up 5 18 (by decide)).symm.trans q0_) 17 rfl) 6 rfl) 5 rfl)) (by decide)),(fun q0_=>absurd (hl_.symm.trans (hcl 6 _ rfl (hcl 17 _ rfl (hcl 18 _ rfl ((up 5 18 (by decide)).symm.trans q0_) 17 rfl) 6 rfl) 5 rfl)) (by decide))⟩,fun _ _ _=>rfl⟩
   | 6,_=>
    refine stepV rfl rfl (execMkBl rfl (hdep _ rfl 5 rfl _ rfl _ rfl) (hdep _ rfl 5 rfl _ rfl _ rfl) (by omega)) ⟨(s.1,s.2.1,X.heap.size,s.2.2.2.1,s.2.2.2.2.1,s.2.2.2.2.2.1,s.2.2.2.2.2.2.1,s.2.2.2.2.2.2.2.1,s.2.2.2.2.2.2.2.2),⟨_,rfl,rfl⟩,⟨hT.1.trans (((belNew X _)).mono hT.1.size),((on9 hT.2.1 (belNew X _))),((on9 hT.2.2.1 (belNew X _))),(hT.2.2.2.1),(fun q0_=>(on9 (hT.2.2.2.2.1 (by rw [up 6 2 (by decide)] at q0_; exact q0_)) (belNew X _))),(fun q0_=>(hT.2.2.2.2.2.1 (by rw [up 6 2 (by decide)] at q0_; exact q0_))),(fun q0_ q1_=>(hT.2.2.2.2.2.2.1 (by rw [up 6 2 (by decide)] at q0_; exact q0_) (by rw [up 6 4 (by decide)] at q1_; exact q1_))),(fun q0_ q1_=>(hT.2.2.2.2.2.2.2.1 (by rw [up 6 2 (by decide)] at q0_; exact q0_) (by rw [up 6 14 (by decide)] at q1_; exact q1_))),(fun q0_ q1_=>(hT.2.2.2.2.2.2.2.2.1 (by rw [up 6 2 (by decide)] at q0_; exact q0_) (by rw [up 6 16 (by decide)] at q1_; exact q1_))),(fun q0_=>(on9 (hT.2.2.2.2.2.2.2.2.2.1 (by rw [up 6 4 (by decide)] at q0_; exact q0_)) (belNew X _))),(fun q0_=>(hT.2.2.2.2.2.2.2.2.2.2.1 (by rw [up 6 4 (by decide)] at q0_; exact q0_))),(fun q0_ q1_=>(hT.2.2.2.2.2.2.2.2.2.2.2.1 (by rw [up 6 4 (by decide)] at q0_; exact q0_) (by rw [up 6 14 (by decide)] at q1_; exact q1_))),(fun q0_ q1_=>(hT.2.2.2.2.2.2.2.2.2.2.2.2.1 (by rw [up 6 4 (by decide)] at q0_; exact q0_) (by rw [up 6 16 (by decide)] at q1_; exact q1_))),(fun _q0_=>heapNew X _),(fun _q0_=>(hT.1).size),(fun q0_ q1_=>(Ne.symm (Nat.ne_of_lt (Array.getElem?_eq_some_iff.1 (hT.2.2.2.2.2.2.2.2.2.2.2.2.2.2.2.2.2.2.2.2.2.1 (by rw [up 6 12 (by decide)] at q1_; exact q1_))).1))),(fun q0_=>(on9 (hT.2.2.2.2.2.2.2.2.2.2.2.2.2.2.2.2.1 (by rw [up 6 8 (by decide)] at q0_; exact q0_)) (belNew X _))),(fun q0_=>(hT.2.2.2.2.2.2.2.2.2.2.2.2.2.2.2.2.2.1 (by rw [up 6 8 (by decide)] at q0_; exact q0_))),(fun q0_ q1_=>(hT.2.2.2.2.2.2.2.2.2.2.2.2.2.2.2.2.2.2.1 (by rw [up 6 8 (by decide)] at q0_; exact q0_) (by rw [up 6 10 (by decide)] at q1_; exact q1_))),(fun q0_=>(on9 (hT.2.2.2.2.2.2.2.2.2.2.2.2.2.2.2.2.2.2.2.1 (by rw [up 6 10 (by decide)] at q0_; exact q0_)) (belNew X _))),(fun q0_=>(hT.2.2.2.2.2.2.2.2.2.2.2.2.2.2.2.2.2.2.2.2.1 (by rw [up 6 10 (by decide)] at q0_; exact q0_))),(fun q0_=>(on9 (hT.2.2.2.2.2.2.2.2.2.2.2.2.2.2.2.2.2.2.2.2.2.1 (by rw [up 6 12 (by decide)] at q0_; exact q0_)) (belNew X _))),(fun q0_=>(hT.2.2.2.2.2.2.2.2.2.2.2.2.2.2.2.2.2.2.2.2.2.2.1 (by rw [up 6 12 (by decide)] at q0_; exact q0_))),(fun q0_=>(on9 (hT.2.2.2.2.2.2.2.2.2.2.2.2.2.2.2.2.2.2.2.2.2.2.2.1 (by rw [up 6 14 (by decide)] at q0_; exact q0_)) (belNew X _))),(fun q0_=>(hT.2.2.2.2.2.2.2.2.2.2.2.2.2.2.2.2.2.2.2.2.2.2.2.2.1 (by rw [up 6 14 (by decide)] at q0_; exact q0_))),(fun q0_ q1_=>(hT.2.2.2.2.2.2.2.2.2.2.2.2.2.2.2.2.2.2.2.2.2.2.2.2.2.1 (by rw [up 6 14 (by decide)] at q0_; exact q0_) (by rw [up 6 16 (by decide)] at q1_; exact q1_))),(fun q0_=>(on9 (hT.2.2.2.2.2.2.2.2.2.2.2.2.2.2.2.2.2.2.2.2.2.2.2.2.2.2.1 (by rw [up 6 16 (by decide)] at q0_; exact q0_)) (belNew X _))),(fun q0_=>(hT.2.2.2.2.2.2.2.2.2.2.2.2.2.2.2.2.2.2.2.2.2.2.2.2.2.2.2.1 (by rw [up 6 16 (by decide)] at q0_; exact q0_))),(fun q0_=>absurd (hl_.symm.trans (hcl 17 _ rfl (hcl 18 _ rfl ((up 6 18 (by decide)).symm.trans q0_) 17 rfl) 6 rfl)) (by decide)),(fun q0_=>absurd (hl_.symm.trans (hcl 17 _ rfl (hcl 18 _ rfl ((up 6 18 (by decide)).symm.trans q0_) 17 rfl) 6 rfl)) (by decide))⟩,fun i hi hli=>?_⟩
    match i,hi with
    | 0,_=>rfl
    | 1,_=>rfl
    | 2,_=>rfl
    | 3,_=>rfl
    | 4,_=>rfl
    | 5,_=>rfl
    | 6,_=>exact absurd (hl_.symm.trans hli) (by decide)
    | 7,_=>rfl
    | 8,_=>rfl
    | 9,_=>rfl
    | 10,_=>rfl
    | 11,_=>rfl
    | 12,_=>rfl
    | 13,_=>rfl
    | 14,_=>rfl
    | 15,_=>rfl
    | 16,_=>rfl
    | 17,_=>exact absurd (hl_.symm.trans (hcl 17 _ rfl hli 6 rfl)) (by decide)
    | 18,_=>rfl
    | 19,_=>rfl
    | k_+20,h_=>exact absurd h_ (by simp)
   | 7,_=>exact stepV rfl rfl (execMvB rfl ((hf 7 (by decide)).trans t7)) ⟨s,⟨_,rfl,rfl⟩,⟨hT.1,(hT.2.1),(hT.2.2.1),(hT.2.2.2.1),(fun q0_=>(hT.2.2.2.2.1 (by rw [up 7 2 (by decide)] at q0_; exact q0_))),(fun q0_=>(hT.2.2.2.2.2.1 (by rw [up 7 2 (by decide)] at q0_; exact q0_))),(fun q0_ q1_=>(hT.2.2.2.2.2.2.1 (by rw [up 7 2 (by decide)] at q0_; exact q0_) (by rw [up 7 4 (by decide)] at q1_; exact q1_))),(fun q0_ q1_=>(hT.2.2.2.2.2.2.2.1 (by rw [up 7 2 (by decide)] at q0_; exact q0_) (by rw [up 7 14 (by decide)] at q1_; exact q1_))),(fun q0_ q1_=>(hT.2.2.2.2.2.2.2.2.1 (by rw [up 7 2 (by decide)] at q0_; exact q0_) (by rw [up 7 16 (by decide)] at q1_; exact q1_))),(fun q0_=>(hT.2.2.2.2.2.2.2.2.2.1 (by rw [up 7 4 (by decide)] at q0_; exact q0_))),(fun q0_=>(hT.2.2.2.2.2.2.2.2.2.2.1 (by rw [up 7 4 (by decide)] at q0_; exact q0_))),(fun q0_ q1_=>(hT.2.2.2.2.2.2.2.2.2.2.2.1 (by rw [up 7 4 (by decide)] at q0_; exact q0_) (by rw [up 7 14 (by decide)] at q1_; exact q1_))),(fun q0_ q1_=>(hT.2.2.2.2.2.2.2.2.2.2.2.2.1 (by rw [up 7 4 (by decide)] at q0_; exact q0_) (by rw [up 7 16 (by decide)] at q1_; exact q1_))),(fun q0_=>(hT.2.2.2.2.2.2.2.2.2.2.2.2.2.1 (by rw [up 7 6 (by decide)] at q0_; exact q0_))),(fun q0_=>(hT.2.2.2.2.2.2.2.2.2.2.2.2.2.2.1 (by rw [up 7 6 (by decide)] at q0_; exact q0_))),(fun q0_ q1_=>(hT.2.2.2.2.2.2.2.2.2.2.2.2.2.2.2.1 (by rw [up 7 6 (by decide)] at q0_; exact q0_) (by rw [up 7 12 (by decide)] at q1_; exact q1_))),(fun q0_=>absurd (hl_.symm.trans (hcl 8 _ rfl ((up 7 8 (by decide)).symm.trans q0_) 7 rfl)) (by decide)),(fun q0_=>absurd (hl_.symm.trans (hcl 8 _ rfl ((up 7 8 (by decide)).symm.trans q0_) 7 rfl)) (by decide)),(fun q0_ q1_=>absurd (hl_.symm.trans (hcl 8 _ rfl ((up 7 8 (by decide)).symm.trans q0_) 7 rfl)) (by decide)),(fun q0_=>(hT.2.2.2.2.2.2.2.2.2.2.2.2.2.2.2.2.2.2.2.1 (by rw [up 7 10 (by decide)] at q0_; exact q0_))),(fun q0_=>(hT.2.2.2.2.2.2.2.2.2.2.2.2.2.2.2.2.2.2.2.2.1 (by rw [up 7 10 (by decide)] at q0_; exact q0_))),(fun q0_=>(hT.2.2.2.2.2.2.2.2.2.2.2.2.2.2.2.2.2.2.2.2.2.1 (by rw [up 7 12 (by decide)] at q0_; exact q0_))),(fun q0_=>(hT.2.2.2.2.2.2.2.2.2.2.2.2.2.2.2.2.2.2.2.2.2.2.1 (by rw [up 7 12 (by decide)] at q0_; exact q0_))),(fun q0_=>(hT.2.2.2.2.2.2.2.2.2.2.2.2.2.2.2.2.2.2.2.2.2.2.2.1 (by rw [up 7 14 (by decide)] at q0_; exact q0_))),(fun q0_=>(hT.2.2.2.2.2.2.2.2.2.2.2.2.2.2.2.2.2.2.2.2.2.2.2.2.1 (by rw [up 7 14 (by decide)] at q0_; exact q0_))),(fun q0_ q1_=>(hT.2.2.2.2.2.2.2.2.2.2.2.2.2.2.2.2.2.2.2.2.2.2.2.2.2.1 (by rw [up 7 14 (by decide)] at q0_; exact q0_) (by rw [up 7 16 (by decide)] at q1_; exact q1_))),(fun q0_=>(hT.2.2.2.2.2.2.2.2.2.2.2.2.2.2.2.2.2.2.2.2.2.2.2.2.2.2.1 (by rw [up 7 16 (by decide)] at q0_; exact q0_))),(fun q0_=>(hT.2.2.2.2.2.2.2.2.2.2.2.2.2.2.2.2.2.2.2.2.2.2.2.2.2.2.2.1 (by rw [up 7 16 (by decide)] at q0_; exact q0_))),(fun q0_=>absurd (hl_.symm.trans (hcl 8 _ rfl (hcl 17 _ rfl (hcl 18 _ rfl ((up 7 18 (by decide)).symm.trans q0_) 17 rfl) 8 rfl) 7 rfl)) (by decide)),(fun q0_=>absurd (hl_.symm.trans (hcl 8 _ rfl (hcl 17 _ rfl (hcl 18 _ rfl ((up 7 18 (by decide)).symm.trans q0_) 17 rfl) 8 rfl) 7 rfl)) (by decide))⟩,fun _ _ _=>rfl⟩
   | 8,_=>
    refine stepV rfl rfl (execMkLx rfl (hdep _ rfl 7 rfl _ rfl _ rfl) (hdep _ rfl 7 rfl _ rfl _ rfl) (by omega)) ⟨(s.1,s.2.1,s.2.2.1,X.heap.size,s.2.2.2.2.1,s.2.2.2.2.2.1,s.2.2.2.2.2.2.1,s.2.2.2.2.2.2.2.1,s.2.2.2.2.2.2.2.2),⟨_,rfl,rfl⟩,⟨hT.1.trans (((belNew X _)).mono hT.1.size),((on9 hT.2.1 (belNew X _))),((on9 hT.2.2.1 (belNew X _))),(hT.2.2.2.1),(fun q0_=>(on9 (hT.2.2.2.2.1 (by rw [up 8 2 (by decide)] at q0_; exact q0_)) (belNew X _))),(fun q0_=>(hT.2.2.2.2.2.1 (by rw [up 8 2 (by decide)] at q0_; exact q0_))),(fun q0_ q1_=>(hT.2.2.2.2.2.2.1 (by rw [up 8 2 (by decide)] at q0_; exact q0_) (by rw [up 8 4 (by decide)] at q1_; exact q1_))),(fun q0_ q1_=>(hT.2.2.2.2.2.2.2.1 (by rw [up 8 2 (by decide)] at q0_; exact q0_) (by rw [up 8 14 (by decide)] at q1_; exact q1_))),(fun q0_ q1_=>(hT.2.2.2.2.2.2.2.2.1 (by rw [up 8 2 (by decide)] at q0_; exact q0_) (by rw [up 8 16 (by decide)] at q1_; exact q1_))),(fun q0_=>(on9 (hT.2.2.2.2.2.2.2.2.2.1 (by rw [up 8 4 (by decide)] at q0_; exact q0_)) (belNew X _))),(fun q0_=>(hT.2.2.2.2.2.2.2.2.2.2.1 (by rw [up 8 4 (by decide)] at q0_; exact q0_))),(fun q0_ q1_=>(hT.2.2.2.2.2.2.2.2.2.2.2.1 (by rw [up 8 4 (by decide)] at q0_; exact q0_) (by rw [up 8 14 (by decide)] at q1_; exact q1_))),(fun q0_ q1_=>(hT.2.2.2.2.2.2.2.2.2.2.2.2.1 (by rw [up 8 4 (by decide)] at q0_; exact q0_) (by rw [up 8 16 (by decide)] at q1_; exact q1_))),(fun q0_=>(on9 (hT.2.2.2.2.2.2.2.2.2.2.2.2.2.1 (by rw [up 8 6 (by decide)] at q0_; exact q0_)) (belNew X _))),(fun q0_=>(hT.2.2.2.2.2.2.2.2.2.2.2.2.2.2.1 (by rw [up 8 6 (by decide)] at q0_; exact q0_))),(fun q0_ q1_=>(hT.2.2.2.2.2.2.2.2.2.2.2.2.2.2.2.1 (by rw [up 8 6 (by decide)] at q0_; exact q0_) (by rw [up 8 12 (by decide)] at q1_; exact q1_))),(fun _q0_=>heapNew X _),(fun _q0_=>(hT.1).size),(fun q0_ q1_=>(Ne.symm (Nat.ne_of_lt (Array.getElem?_eq_some_iff.1 (hT.2.2.2.2.2.2.2.2.2.2.2.2.2.2.2.2.2.2.2.1 (by rw [up 8 10 (by decide)] at q1_; exact q1_))).1))),(fun q0_=>(on9 (hT.2.2.2.2.2.2.2.2.2.2.2.2.2.2.2.2.2.2.2.1 (by rw [up 8 10 (by decide)] at q0_; exact q0_)) (belNew X _))),(fun q0_=>(hT.2.2.2.2.2.2.2.2.2.2.2.2.2.2.2.2.2.2.2.2.1 (by rw [up 8 10 (by decide)] at q0_; exact q0_))),(fun q0_=>(on9 (hT.2.2.2.2.2.2.2.2.2.2.2.2.2.2.2.2.2.2.2.2.2.1 (by rw [up 8 12 (by decide)] at q0_; exact q0_)) (belNew X _))),(fun q0_=>(hT.2.2.2.2.2.2.2.2.2.2.2.2.2.2.2.2.2.2.2.2.2.2.1 (by rw [up 8 12 (by decide)] at q0_; exact q0_))),(fun q0_=>(on9 (hT.2.2.2.2.2.2.2.2.2.2.2.2.2.2.2.2.2.2.2.2.2.2.2.1 (by rw [up 8 14 (by decide)] at q0_; exact q0_)) (belNew X _))),(fun q0_=>(hT.2.2.2.2.2.2.2.2.2.2.2.2.2.2.2.2.2.2.2.2.2.2.2.2.1 (by rw [up 8 14 (by decide)] at q0_; exact q0_))),(fun q0_ q1_=>(hT.2.2.2.2.2.2.2.2.2.2.2.2.2.2.2.2.2.2.2.2.2.2.2.2.2.1 (by rw [up 8 14 (by decide)] at q0_; exact q0_) (by rw [up 8 16 (by decide)] at q1_; exact q1_))),(fun q0_=>(on9 (hT.2.2.2.2.2.2.2.2.2.2.2.2.2.2.2.2.2.2.2.2.2.2.2.2.2.2.1 (by rw [up 8 16 (by decide)] at q0_; exact q0_)) (belNew X _))),(fun q0_=>(hT.2.2.2.2.2.2.2.2.2.2.2.2.2.2.2.2.2.2.2.2.2.2.2.2.2.2.2.1 (by rw [up 8 16 (by decide)] at q0_; exact q0_))),(fun q0_=>absurd (hl_.symm.trans (hcl 17 _ rfl (hcl 18 _ rfl ((up 8 18 (by decide)).symm.trans q0_) 17 rfl) 8 rfl)) (by decide)),(fun q0_=>absurd (hl_.symm.trans (hcl 17 _ rfl (hcl 18 _ rfl ((up 8 18 (by decide)).symm.trans q0_) 17 rfl) 8 rfl)) (by decide))⟩,fun i hi hli=>?_⟩
    match i,hi with
    | 0,_=>rfl
    | 1,_=>rfl
    | 2,_=>rfl
    | 3,_=>rfl
    | 4,_=>rfl
    | 5,_=>rfl
    | 6,_=>rfl
    | 7,_=>rfl
    | 8,_=>exact absurd (hl_.symm.trans hli) (by decide)
    | 9,_=>rfl
    | 10,_=>rfl
    | 11,_=>rfl
    | 12,_=>rfl
    | 13,_=>rfl
    | 14,_=>rfl
    | 15,_=>rfl
    | 16,_=>rfl
    | 17,_=>exact absurd (hl_.symm.trans (hcl 17 _ rfl hli 8 rfl)) (by decide)
    | 18,_=>rfl
    | 19,_=>rfl
    | k_+20,h_=>exact absurd h_ (by simp)
   | 9,_=>exact stepV rfl rfl (execMvB rfl ((hf 8 (by decide)).trans t8)) ⟨s,⟨_,rfl,rfl⟩,⟨hT.1,(hT.2.1),(hT.2.2.1),(hT.2.2.2.1),(fun q0_=>(hT.2.2.2.2.1 (by rw [up 9 2 (by decide)] at q0_; exact q0_))),(fun q0_=>(hT.2.2.2.2.2.1 (by rw [up 9 2 (by decide)] at q0_; exact q0_))),(fun q0_ q1_=>(hT.2.2.2.2.2.2.1 (by rw [up 9 2 (by decide)] at q0_; exact q0_) (by rw [up 9 4 (by decide)] at q1_; exact q1_))),(fun q0_ q1_=>(hT.2.2.2.2.2.2.2.1 (by rw [up 9 2 (by decide)] at q0_; exact q0_) (by rw [up 9 14 (by decide)] at q1_; exact q1_))),(fun q0_ q1_=>(hT.2.2.2.2.2.2.2.2.1 (by rw [up 9 2 (by decide)] at q0_; exact q0_) (by rw [up 9 16 (by decide)] at q1_; exact q1_))),(fun q0_=>(hT.2.2.2.2.2.2.2.2.2.1 (by rw [up 9 4 (by decide)] at q0_; exact q0_))),(fun q0_=>(hT.2.2.2.2.2.2.2.2.2.2.1 (by rw [up 9 4 (by decide)] at q0_; exact q0_))),(fun q0_ q1_=>(hT.2.2.2.2.2.2.2.2.2.2.2.1 (by rw [up 9 4 (by decide)] at q0_; exact q0_) (by rw [up 9 14 (by decide)] at q1_; exact q1_))),(fun q0_ q1_=>(hT.2.2.2.2.2.2.2.2.2.2.2.2.1 (by rw [up 9 4 (by decide)] at q0_; exact q0_) (by rw [up 9 16 (by decide)] at q1_; exact q1_))),(fun q0_=>(hT.2.2.2.2.2.2.2.2.2.2.2.2.2.1 (by rw [up 9 6 (by decide)] at q0_; exact q0_))),(fun q0_=>(hT.2.2.2.2.2.2.2.2.2.2.2.2.2.2.1 (by rw [up 9 6 (by decide)] at q0_; exact q0_))),(fun q0_ q1_=>(hT.2.2.2.2.2.2.2.2.2.2.2.2.2.2.2.1 (by rw [up 9 6 (by decide)] at q0_; exact q0_) (by rw [up 9 12 (by decide)] at q1_; exact q1_))),(fun q0_=>(hT.2.2.2.2.2.2.2.2.2.2.2.2.2.2.2.2.1 (by rw [up 9 8 (by decide)] at q0_; exact q0_))),(fun q0_=>(hT.2.2.2.2.2.2.2.2.2.2.2.2.2.2.2.2.2.1 (by rw [up 9 8 (by decide)] at q0_; exact q0_))),(fun q0_ q1_=>absurd (hl_.symm.trans (hcl 10 _ rfl ((up 9 10 (by decide)).symm.trans q1_) 9 rfl)) (by decide)),(fun q0_=>absurd (hl_.symm.trans (hcl 10 _ rfl ((up 9 10 (by decide)).symm.trans q0_) 9 rfl)) (by decide)),(fun q0_=>absurd (hl_.symm.trans (hcl 10 _ rfl ((up 9 10 (by decide)).symm.trans q0_) 9 rfl)) (by decide)),(fun q0_=>(hT.2.2.2.2.2.2.2.2.2.2.2.2.2.2.2.2.2.2.2.2.2.1 (by rw [up 9 12 (by decide)] at q0_; exact q0_))),(fun q0_=>(hT.2.2.2.2.2.2.2.2.2.2.2.2.2.2.2.2.2.2.2.2.2.2.1 (by rw [up 9 12 (by decide)] at q0_; exact q0_))),(fun q0_=>(hT.2.2.2.2.2.2.2.2.2.2.2.2.2.2.2.2.2.2.2.2.2.2.2.1 (by rw [up 9 14 (by decide)] at q0_; exact q0_))),(fun q0_=>(hT.2.2.2.2.2.2.2.2.2.2.2.2.2.2.2.2.2.2.2.2.2.2.2.2.1 (by rw [up 9 14 (by decide)] at q0_; exact q0_))),(fun q0_ q1_=>(hT.2.2.2.2.2.2.2.2.2.2.2.2.2.2.2.2.2.2.2.2.2.2.2.2.2.1 (by rw [up 9 14 (by decide)] at q0_; exact q0_) (by rw [up 9 16 (by decide)] at q1_; exact q1_))),(fun q0_=>(hT.2.2.2.2.2.2.2.2.2.2.2.2.2.2.2.2.2.2.2.2.2.2.2.2.2.2.1 (by rw [up 9 16 (by decide)] at q0_; exact q0_))),(fun q0_=>(hT.2.2.2.2.2.2.2.2.2.2.2.2.2.2.2.2.2.2.2.2.2.2.2.2.2.2.2.1 (by rw [up 9 16 (by decide)] at q0_; exact q0_))),(fun q0_=>absurd (hl_.symm.trans (hcl 10 _ rfl (hcl 17 _ rfl (hcl 18 _ rfl ((up 9 18 (by decide)).symm.trans q0_) 17 rfl) 10 rfl) 9 rfl)) (by decide)),(fun q0_=>absurd (hl_.symm.trans (hcl 10 _ rfl (hcl 17 _ rfl (hcl 18 _ rfl ((up 9 18 (by decide)).symm.trans q0_) 17 rfl) 10 rfl) 9 rfl)) (by decide))⟩,fun _ _ _=>rfl⟩
   | 10,_=>
    refine stepV rfl rfl (execMkLx rfl (hdep _ rfl 9 rfl _ rfl _ rfl) (hdep _ rfl 9 rfl _ rfl _ rfl) (by omega)) ⟨(s.1,s.2.1,s.2.2.1,s.2.2.2.1,X.heap.size,s.2.2.2.2.2.1,s.2.2.2.2.2.2.1,s.2.2.2.2.2.2.2.1,s.2.2.2.2.2.2.2.2),⟨_,rfl,rfl⟩,⟨hT.1.trans (((belNew X _)).mono hT.1.size),((on9 hT.2.1 (belNew X _))),((on9 hT.2.2.1 (belNew X _))),(hT.2.2.2.1),(fun q0_=>(on9 (hT.2.2.2.2.1 (by rw [up 10 2 (by decide)] at q0_; exact q0_)) (belNew X _))),(fun q0_=>(hT.2.2.2.2.2.1 (by rw [up 10 2 (by decide)] at q0_; exact q0_))),(fun q0_ q1_=>(hT.2.2.2.2.2.2.1 (by rw [up 10 2 (by decide)] at q0_; exact q0_) (by rw [up 10 4 (by decide)] at q1_; exact q1_))),(fun q0_ q1_=>(hT.2.2.2.2.2.2.2.1 (by rw [up 10 2 (by decide)] at q0_; exact q0_) (by rw [up 10 14 (by decide)] at q1_; exact q1_))),(fun q0_ q1_=>(hT.2.2.2.2.2.2.2.2.1 (by rw [up 10 2 (by decide)] at q0_; exact q0_) (by rw [up 10 16 (by decide)] at q1_; exact q1_))),(fun q0_=>(on9 (hT.2.2.2.2.2.2.2.2.2.1 (by rw [up 10 4 (by decide)] at q0_; exact q0_)) (belNew X _))),(fun q0_=>(hT.2.2.2.2.2.2.2.2.2.2.1 (by rw [up 10 4 (by decide)] at q0_; exact q0_))),(fun q0_ q1_=>(hT.2.2.2.2.2.2.2.2.2.2.2.1 (by rw [up 10 4 (by decide)] at q0_; exact q0_) (by rw [up 10 14 (by decide)] at q1_; exact q1_))),(fun q0_ q1_=>(hT.2.2.2.2.2.2.2.2.2.2.2.2.1 (by rw [up 10 4 (by decide)] at q0_; exact q0_) (by rw [up 10 16 (by decide)] at q1_; exact q1_))),(fun q0_=>(on9 (hT.2.2.2.2.2.2.2.2.2.2.2.2.2.1 (by rw [up 10 6 (by decide)] at q0_; exact q0_)) (belNew X _))),(fun q0_=>(hT.2.2.2.2.2.2.2.2.2.2.2.2.2.2.1 (by rw [up 10 6 (by decide)] at q0_; exact q0_))),(fun q0_ q1_=>(hT.2.2.2.2.2.2.2.2.2.2.2.2.2.2.2.1 (by rw [up 10 6 (by decide)] at q0_; exact q0_) (by rw [up 10 12 (by decide)] at q1_; exact q1_))),(fun q0_=>(on9 (hT.2.2.2.2.2.2.2.2.2.2.2.2.2.2.2.2.1 (by rw [up 10 8 (by decide)] at q0_; exact q0_)) (belNew X _))),(fun q0_=>(hT.2.2.2.2.2.2.2.2.2.2.2.2.2.2.2.2.2.1 (by rw [up 10 8 (by decide)] at q0_; exact q0_))),(fun q0_ q1_=>Nat.ne_of_lt (Array.getElem?_eq_some_iff.1 (hT.2.2.2.2.2.2.2.2.2.2.2.2.2.2.2.2.1 (by rw [up 10 8 (by decide)] at q0_; exact q0_))).1),(fun _q0_=>heapNew X _),(fun _q0_=>(hT.1).size),(fun q0_=>(on9 (hT.2.2.2.2.2.2.2.2.2.2.2.2.2.2.2.2.2.2.2.2.2.1 (by rw [up 10 12 (by decide)] at q0_; exact q0_)) (belNew X _))),(fun q0_=>(hT.2.2.2.2.2.2.2.2.2.2.2.2.2.2.2.2.2.2.2.2.2.2.1 (by rw [up 10 12 (by decide)] at q0_; exact q0_))),(fun q0_=>(on9 (hT.2.2.2.2.2.2.2.2.2.2.2.2.2.2.2.2.2.2.2.2.2.2.2.1 (by rw [up 10 14 (by decide)] at q0_; exact q0_)) (belNew X _))),(fun q0_=>(hT.2.2.2.2.2.2.2.2.2.2.2.2.2.2.2.2.2.2.2.2.2.2.2.2.1 (by rw [up 10 14 (by decide)] at q0_; exact q0_))),(fun q0_ q1_=>(hT.2.2.2.2.2.2.2.2.2.2.2.2.2.2.2.2.2.2.2.2.2.2.2.2.2.1 (by rw [up 10 14 (by decide)] at q0_; exact q0_) (by rw [up 10 16 (by decide)] at q1_; exact q1_))),(fun q0_=>(on9 (hT.2.2.2.2.2.2.2.2.2.2.2.2.2.2.2.2.2.2.2.2.2.2.2.2.2.2.1 (by rw [up 10 16 (by decide)] at q0_; exact q0_)) (belNew X _))),(fun q0_=>(hT.2.2.2.2.2.2.2.2.2.2.2.2.2.2.2.2.2.2.2.2.2.2.2.2.2.2.2.1 (by rw [up 10 16 (by decide)] at q0_; exact q0_))),(fun q0_=>absurd (hl_.symm.trans (hcl 17 _ rfl (hcl 18 _ rfl ((up 10 18 (by decide)).symm.trans q0_) 17 rfl) 10 rfl)) (by decide)),(fun q0_=>absurd (hl_.symm.trans (hcl 17 _ rfl (hcl 18 _ rfl ((up 10 18 (by decide)).symm.trans q0_) 17 rfl) 10 rfl)) (by decide))⟩,fun i hi hli=>?_⟩
    match i,hi with
    | 0,_=>rfl
    | 1,_=>rfl
    | 2,_=>rfl
    | 3,_=>rfl
    | 4,_=>rfl
    | 5,_=>rfl
    | 6,_=>rfl
    | 7,_=>rfl
    | 8,_=>rfl
    | 9,_=>rfl
    | 10,_=>exact absurd (hl_.symm.trans hli) (by decide)
    | 11,_=>rfl
    | 12,_=>rfl
    | 13,_=>rfl
    | 14,_=>rfl
    | 15,_=>rfl
    | 16,_=>rfl
    | 17,_=>exact absurd (hl_.symm.trans (hcl 17 _ rfl hli 10 rfl)) (by decide)
    | 18,_=>rfl
    | 19,_=>rfl
    | k_+20,h_=>exact absurd h_ (by simp)
   | 11,_=>exact stepV rfl rfl (execMvB rfl ((hf 8 (by decide)).trans t8)) ⟨s,⟨_,rfl,rfl⟩,⟨hT.1,(hT.2.1),(hT.2.2.1),(hT.2.2.2.1),(fun q0_=>(hT.2.2.2.2.1 (by rw [up 11 2 (by decide)] at q0_; exact q0_))),(fun q0_=>(hT.2.2.2.2.2.1 (by rw [up 11 2 (by decide)] at q0_; exact q0_))),(fun q0_ q1_=>(hT.2.2.2.2.2.2.1 (by rw [up 11 2 (by decide)] at q0_; exact q0_) (by rw [up 11 4 (by decide)] at q1_; exact q1_))),(fun q0_ q1_=>(hT.2.2.2.2.2.2.2.1 (by rw [up 11 2 (by decide)] at q0_; exact q0_) (by rw [up 11 14 (by decide)] at q1_; exact q1_))),(fun q0_ q1_=>(hT.2.2.2.2.2.2.2.2.1 (by rw [up 11 2 (by decide)] at q0_; exact q0_) (by rw [up 11 16 (by decide)] at q1_; exact q1_))),(fun q0_=>(hT.2.2.2.2.2.2.2.2.2.1 (by rw [up 11 4 (by decide)] at q0_; exact q0_))),(fun q0_=>(hT.2.2.2.2.2.2.2.2.2.2.1 (by rw [up 11 4 (by decide)] at q0_; exact q0_))),(fun q0_ q1_=>(hT.2.2.2.2.2.2.2.2.2.2.2.1 (by rw [up 11 4 (by decide)] at q0_; exact q0_) (by rw [up 11 14 (by decide)] at q1_; exact q1_))),(fun q0_ q1_=>(hT.2.2.2.2.2.2.2.2.2.2.2.2.1 (by rw [up 11 4 (by decide)] at q0_; exact q0_) (by rw [up 11 16 (by decide)] at q1_; exact q1_))),(fun q0_=>(hT.2.2.2.2.2.2.2.2.2.2.2.2.2.1 (by rw [up 11 6 (by decide)] at q0_; exact q0_))),(fun q0_=>(hT.2.2.2.2.2.2.2.2.2.2.2.2.2.2.1 (by rw [up 11 6 (by decide)] at q0_; exact q0_))),(fun q0_ q1_=>absurd (hl_.symm.trans (hcl 12 _ rfl ((up 11 12 (by decide)).symm.trans q1_) 11 rfl)) (by decide)),(fun q0_=>(hT.2.2.2.2.2.2.2.2.2.2.2.2.2.2.2.2.1 (by rw [up 11 8 (by decide)] at q0_; exact q0_))),(fun q0_=>(hT.2.2.2.2.2.2.2.2.2.2.2.2.2.2.2.2.2.1 (by rw [up 11 8 (by decide)] at q0_; exact q0_))),(fun q0_ q1_=>(hT.2.2.2.2.2.2.2.2.2.2.2.2.2.2.2.2.2.2.1 (by rw [up 11 8 (by decide)] at q0_; exact q0_) (by rw [up 11 10 (by decide)] at q1_; exact q1_))),(fun q0_=>(hT.2.2.2.2.2.2.2.2.2.2.2.2.2.2.2.2.2.2.2.1 (by rw [up 11 10 (by decide)] at q0_; exact q0_))),(fun q0_=>(hT.2.2.2.2.2.2.2.2.2.2.2.2.2.2.2.2.2.2.2.2.1 (by rw [up 11 10 (by decide)] at q0_; exact q0_))),(fun q0_=>absurd (hl_.symm.trans (hcl 12 _ rfl ((up 11 12 (by decide)).symm.trans q0_) 11 rfl)) (by decide)),(fun q0_=>absurd (hl_.symm.trans (hcl 12 _ rfl ((up 11 12 (by decide)).symm.trans q0_) 11 rfl)) (by decide)),(fun q0_=>(hT.2.2.2.2.2.2.2.2.2.2.2.2.2.2.2.2.2.2.2.2.2.2.2.1 (by rw [up 11 14 (by decide)] at q0_; exact q0_))),(fun q0_=>(hT.2.2.2.2.2.2.2.2.2.2.2.2.2.2.2.2.2.2.2.2.2.2.2.2.1 (by rw [up 11 14 (by decide)] at q0_; exact q0_))),(fun q0_ q1_=>(hT.2.2.2.2.2.2.2.2.2.2.2.2.2.2.2.2.2.2.2.2.2.2.2.2.2.1 (by rw [up 11 14 (by decide)] at q0_; exact q0_) (by rw [up 11 16 (by decide)] at q1_; exact q1_))),(fun q0_=>(hT.2.2.2.2.2.2.2.2.2.2.2.2.2.2.2.2.2.2.2.2.2.2.2.2.2.2.1 (by rw [up 11 16 (by decide)] at q0_; exact q0_))),(fun q0_=>(hT.2.2.2.2.2.2.2.2.2.2.2.2.2.2.2.2.2.2.2.2.2.2.2.2.2.2.2.1 (by rw [up 11 16 (by decide)] at q0_; exact q0_))),(fun q0_=>absurd (hl_.symm.trans (hcl 12 _ rfl (hcl 17 _ rfl (hcl 18 _ rfl ((up 11 18 (by decide)).symm.trans q0_) 17 rfl) 12 rfl) 11 rfl)) (by decide)),(fun q0_=>absurd (hl_.symm.trans (hcl 12 _ rfl (hcl 17 _ rfl (hcl 18 _ rfl ((up 11 18 (by decide)).symm.trans q0_) 17 rfl) 12 rfl) 11 rfl)) (by decide))⟩,fun _ _ _=>rfl⟩
   | 12,_=>
    refine stepV rfl rfl (execMkBl rfl (hdep _ rfl 11 rfl _ rfl _ rfl) (hdep _ rfl 11 rfl _ rfl _ rfl) (by omega)) ⟨(s.1,s.2.1,s.2.2.1,s.2.2.2.1,s.2.2.2.2.1,X.heap.size,s.2.2.2.2.2.2.1,s.2.2.2.2.2.2.2.1,s.2.2.2.2.2.2.2.2),⟨_,rfl,rfl⟩,⟨hT.1.trans (((belNew X _)).mono hT.1.size),((on9 hT.2.1 (belNew X _))),((on9 hT.2.2.1 (belNew X _))),(hT.2.2.2.1),(fun q0_=>(on9 (hT.2.2.2.2.1 (by rw [up 12 2 (by decide)] at q0_; exact q0_)) (belNew X _))),(fun q0_=>(hT.2.2.2.2.2.1 (by rw [up 12 2 (by decide)] at q0_; exact q0_))),(fun q0_ q1_=>(hT.2.2.2.2.2.2.1 (by rw [up 12 2 (by decide)] at q0_; exact q0_) (by rw [up 12 4 (by decide)] at q1_; exact q1_))),(fun q0_ q1_=>(hT.2.2.2.2.2.2.2.1 (by rw [up 12 2 (by decide)] at q0_; exact q0_) (by rw [up 12 14 (by decide)] at q1_; exact q1_))),(fun q0_ q1_=>(hT.2.2.2.2.2.2.2.2.1 (by rw [up 12 2 (by decide)] at q0_; exact q0_) (by rw [up 12 16 (by decide)] at q1_; exact q1_))),(fun q0_=>(on9 (hT.2.2.2.2.2.2.2.2.2.1 (by rw [up 12 4 (by decide)] at q0_; exact q0_)) (belNew X _))),(fun q0_=>(hT.2.2.2.2.2.2.2.2.2.2.1 (by rw [up 12 4 (by decide)] at q0_; exact q0_))),(fun q0_ q1_=>(hT.2.2.2.2.2.2.2.2.2.2.2.1 (by rw [up 12 4 (by decide)] at q0_; exact q0_) (by rw [up 12 14 (by decide)] at q1_; exact q1_))),(fun q0_ q1_=>(hT.2.2.2.2.2.2.2.2.2.2.2.2.1 (by rw [up 12 4 (by decide)] at q0_; exact q0_) (by rw [up 12 16 (by decide)] at q1_; exact q1_))),(fun q0_=>(on9 (hT.2.2.2.2.2.2.2.2.2.2.2.2.2.1 (by rw [up 12 6 (by decide)] at q0_; exact q0_)) (belNew X _))),(fun q0_=>(hT.2.2.2.2.2.2.2.2.2.2.2.2.2.2.1 (by rw [up 12 6 (by decide)] at q0_; exact q0_))),(fun q0_ q1_=>Nat.ne_of_lt (Array.getElem?_eq_some_iff.1 (hT.2.2.2.2.2.2.2.2.2.2.2.2.2.1 (by rw [up 12 6 (by decide)] at q0_; exact q0_))).1),(fun q0_=>(on9 (hT.2.2.2.2.2.2.2.2.2.2.2.2.2.2.2.2.1 (by rw [up 12 8 (by decide)] at q0_; exact q0_)) (belNew X _))),(fun q0_=>(hT.2.2.2.2.2.2.2.2.2.2.2.2.2.2.2.2.2.1 (by rw [up 12 8 (by decide)] at q0_; exact q0_))),(fun q0_ q1_=>(hT.2.2.2.2.2.2.2.2.2.2.2.2.2.2.2.2.2.2.1 (by rw [up 12 8 (by decide)] at q0_; exact q0_) (by rw [up 12 10 (by decide)] at q1_; exact q1_))),(fun q0_=>(on9 (hT.2.2.2.2.2.2.2.2.2.2.2.2.2.2.2.2.2.2.2.1 (by rw [up 12 10 (by decide)] at q0_; exact q0_)) (belNew X _))),(fun q0_=>(hT.2.2.2.2.2.2.2.2.2.2.2.2.2.2.2.2.2.2.2.2.1 (by rw [up 12 10 (by decide)] at q0_; exact q0_))),(fun _q0_=>heapNew X _),(fun _q0_=>(hT.1).size),(fun q0_=>(on9 (hT.2.2.2.2.2.2.2.2.2.2.2.2.2.2.2.2.2.2.2.2.2.2.2.1 (by rw [up 12 14 (by decide)] at q0_; exact q0_)) (belNew X _))),(fun q0_=>(hT.2.2.2.2.2.2.2.2.2.2.2.2.2.2.2.2.2.2.2.2.2.2.2.2.1 (by rw [up 12 14 (by decide)] at q0_; exact q0_))),(fun q0_ q1_=>(hT.2.2.2.2.2.2.2.2.2.2.2.2.2.2.2.2.2.2.2.2.2.2.2.2.2.1 (by rw [up 12 14 (by decide)] at q0_; exact q0_) (by rw [up 12 16 (by decide)] at q1_; exact q1_))),(fun q0_=>(on9 (hT.2.2.2.2.2.2.2.2.2.2.2.2.2.2.2.2.2.2.2.2.2.2.2.2.2.2.1 (by rw [up 12 16 (by decide)] at q0_; exact q0_)) (belNew X _))),(fun q0_=>(hT.2.2.2.2.2.2.2.2.2.2.2.2.2.2.2.2.2.2.2.2.2.2.2.2.2.2.2.1 (by rw [up 12 16 (by decide)] at q0_; exact q0_))),(fun q0_=>absurd (hl_.symm.trans (hcl 17 _ rfl (hcl 18 _ rfl ((up 12 18 (by decide)).symm.trans q0_) 17 rfl) 12 rfl)) (by decide)),(fun q0_=>absurd (hl_.symm.trans (hcl 17 _ rfl (hcl 18 _ rfl ((up 12 18 (by decide)).symm.trans q0_) 17 rfl) 12 rfl)) (by decide))⟩,fun i hi hli=>?_⟩
    match i,hi with
    | 0,_=>rfl
    | 1,_=>rfl
    | 2,_=>rfl
    | 3,_=>rfl
    | 4,_=>rfl
    | 5,_=>rfl
    | 6,_=>rfl
    | 7,_=>rfl
    | 8,_=>rfl
    | 9,_=>rfl
    | 10,_=>rfl
    | 11,_=>rfl
    | 12,_=>exact absurd (hl_.symm.trans hli) (by decide)
    | 13,_=>rfl
    | 14,_=>rfl
    | 15,_=>rfl
    | 16,_=>rfl
    | 17,_=>exact absurd (hl_.symm.trans (hcl 17 _ rfl hli 12 rfl)) (by decide)
    | 18,_=>rfl
    | 19,_=>rfl
    | k_+20,h_=>exact absurd h_ (by simp)
   | 13,_=>exact stepV rfl rfl (execMvB rfl ((hf 8 (by decide)).trans t8)) ⟨s,⟨_,rfl,rfl⟩,⟨hT.1,(hT.2.1),(hT.2.2.1),(hT.2.2.2.1),(fun q0_=>(hT.2.2.2.2.1 (by rw [up 13 2 (by decide)] at q0_; exact q0_))),(fun q0_=>(hT.2.2.2.2.2.1 (by rw [up 13 2 (by decide)] at q0_; exact q0_))),(fun q0_ q1_=>(hT.2.2.2.2.2.2.1 (by rw [up 13 2 (by decide)] at q0_; exact q0_) (by rw [up 13 4 (by decide)] at q1_; exact q1_))),(fun q0_ q1_=>absurd (hl_.symm.trans (hcl 14 _ rfl ((up 13 14 (by decide)).symm.trans q1_) 13 rfl)) (by decide)),(fun q0_ q1_=>(hT.2.2.2.2.2.2.2.2.1 (by rw [up 13 2 (by decide)] at q0_; exact q0_) (by rw [up 13 16 (by decide)] at q1_; exact q1_))),(fun q0_=>(hT.2.2.2.2.2.2.2.2.2.1 (by rw [up 13 4 (by decide)] at q0_; exact q0_))),(fun q0_=>(hT.2.2.2.2.2.2.2.2.2.2.1 (by rw [up 13 4 (by decide)] at q0_; exact q0_))),(fun q0_ q1_=>absurd (hl_.symm.trans (hcl 14 _ rfl ((up 13 14 (by decide)).symm.trans q1_) 13 rfl)) (by decide)),(fun q0_ q1_=>(hT.2.2.2.2.2.2.2.2.2.2.2.2.1 (by rw [up 13 4 (by decide)] at q0_; exact q0_) (by rw [up 13 16 (by decide)] at q1_; exact q1_))),(fun q0_=>(hT.2.2.2.2.2.2.2.2.2.2.2.2.2.1 (by rw [up 13 6 (by decide)] at q0_; exact q0_))),(fun q0_=>(hT.2.2.2.2.2.2.2.2.2.2.2.2.2.2.1 (by rw [up 13 6 (by decide)] at q0_; exact q0_))),(fun q0_ q1_=>(hT.2.2.2.2.2.2.2.2.2.2.2.2.2.2.2.1 (by rw [up 13 6 (by decide)] at q0_; exact q0_) (by rw [up 13 12 (by decide)] at q1_; exact q1_))),(fun q0_=>(hT.2.2.2.2.2.2.2.2.2.2.2.2.2.2.2.2.1 (by rw [up 13 8 (by decide)] at q0_; exact q0_))),(fun q0_=>(hT.2.2.2.2.2.2.2.2.2.2.2.2.2.2.2.2.2.1 (by rw [up 13 8 (by decide)] at q0_; exact q0_))),(fun q0_ q1_=>(hT.2.2.2.2.2.2.2.2.2.2.2.2.2.2.2.2.2.2.1 (by rw [up 13 8 (by decide)] at q0_; exact q0_) (by rw [up 13 10 (by decide)] at q1_; exact q1_))),(fun q0_=>(hT.2.2.2.2.2.2.2.2.2.2.2.2.2.2.2.2.2.2.2.1 (by rw [up 13 10 (by decide)] at q0_; exact q0_))),(fun q0_=>(hT.2.2.2.2.2.2.2.2.2.2.2.2.2.2.2.2.2.2.2.2.1 (by rw [up 13 10 (by decide)] at q0_; exact q0_))),(fun q0_=>(hT.2.2.2.2.2.2.2.2.2.2.2.2.2.2.2.2.2.2.2.2.2.1 (by rw [up 13 12 (by decide)] at q0_; exact q0_))),(fun q0_=>(hT.2.2.2.2.2.2.2.2.2.2.2.2.2.2.2.2.2.2.2.2.2.2.1 (by rw [up 13 12 (by decide)] at q0_; exact q0_))),(fun q0_=>absurd (hl_.symm.trans (hcl 14 _ rfl ((up 13 14 (by decide)).symm.trans q0_) 13 rfl)) (by decide)),(fun q0_=>absurd (hl_.symm.trans (hcl 14 _ rfl ((up 13 14 (by decide)).symm.trans q0_) 13 rfl)) (by decide)),(fun q0_ q1_=>absurd (hl_.symm.trans (hcl 14 _ rfl ((up 13 14 (by decide)).symm.trans q0_) 13 rfl)) (by decide)),(fun q0_=>(hT.2.2.2.2.2.2.2.2.2.2.2.2.2.2.2.2.2.2.2.2.2.2.2.2.2.2.1 (by rw [up 13 16 (by decide)] at q0_; exact q0_))),(fun q0_=>(hT.2.2.2.2.2.2.2.2.2.2.2.2.2.2.2.2.2.2.2.2.2.2.2.2.2.2.2.1 (by rw [up 13 16 (by decide)] at q0_; exact q0_))),(fun q0_=>absurd (hl_.symm.trans (hcl 14 _ rfl (hcl 17 _ rfl (hcl 18 _ rfl ((up 13 18 (by decide)).symm.trans q0_) 17 rfl) 14 rfl) 13 rfl)) (by decide)),(fun q0_=>absurd (hl_.symm.trans (hcl 14 _ rfl (hcl 17 _ rfl (hcl 18 _ rfl ((up 13 18 (by decide)).symm.trans q0_) 17 rfl) 14 rfl) 13 rfl)) (by decide))⟩,fun _ _ _=>rfl⟩
   | 14,_=>
    refine stepV rfl rfl (execMkIx rfl (hdep _ rfl 13 rfl _ rfl _ rfl) (hdep _ rfl 13 rfl _ rfl _ rfl) (by omega)) ⟨(s.1,s.2.1,s.2.2.1,s.2.2.2.1,s.2.2.2.2.1,s.2.2.2.2.2.1,X.heap.size,s.2.2.2.2.2.2.2.1,s.2.2.2.2.2.2.2.2),⟨_,rfl,rfl⟩,⟨hT.1.trans (((belNew X _)).mono hT.1.size),((on9 hT.2.1 (belNew X _))),((on9 hT.2.2.1 (belNew X _))),(hT.2.2.2.1),(fun q0_=>(on9 (hT.2.2.2.2.1 (by rw [up 14 2 (by decide)] at q0_; exact q0_)) (belNew X _))),(fun q0_=>(hT.2.2.2.2.2.1 (by rw [up 14 2 (by decide)] at q0_; exact q0_))),(fun q0_ q1_=>(hT.2.2.2.2.2.2.1 (by rw [up 14 2 (by decide)] at q0_; exact q0_) (by rw [up 14 4 (by decide)] at q1_; exact q1_))),(fun q0_ q1_=>Nat.ne_of_lt (Array.getElem?_eq_some_iff.1 (hT.2.2.2.2.1 (by rw [up 14 2 (by decide)] at q0_; exact q0_))).1),(fun q0_ q1_=>(hT.2.2.2.2.2.2.2.2.1 (by rw [up 14 2 (by decide)] at q0_; exact q0_) (by rw [up 14 16 (by decide)] at q1_; exact q1_))),(fun q0_=>(on9 (hT.2.2.2.2.2.2.2.2.2.1 (by rw [up 14 4 (by decide)] at q0_; exact q0_)) (belNew X _))),(fun q0_=>(hT.2.2.2.2.2.2.2.2.2.2.1 (by rw [up 14 4 (by decide)] at q0_; exact q0_))),(fun q0_ q1_=>Nat.ne_of_lt (Array.getElem?_eq_some_iff.1 (hT.2.2.2.2.2.2.2.2.2.1 (by rw [up 14 4 (by decide)] at q0_; exact q0_))).1),(fun q0_ q1_=>(hT.2.2.2.2.2.2.2.2.2.2.2.2.1 (by rw [up 14 4 (by decide)] at q0_; exact q0_) (by rw [up 14 16 (by decide)] at q1_; exact q1_))),(fun q0_=>(on9 (hT.2.2.2.2.2.2.2.2.2.2.2.2.2.1 (by rw [up 14 6 (by decide)] at q0_; exact q0_)) (belNew X _))),(fun q0_=>(hT.2.2.2.2.2.2.2.2.2.2.2.2.2.2.1 (by rw [up 14 6 (by decide)] at q0_; exact q0_))),(fun q0_ q1_=>(hT.2.2.2.2.2.2.2.2.2.2.2.2.2.2.2.1 (by rw [up 14 6 (by decide)] at q0_; exact q0_) (by rw [up 14 12 (by decide)] at q1_; exact q1_))),(fun q0_=>(on9 (hT.2.2.2.2.2.2.2.2.2.2.2.2.2.2.2.2.1 (by rw [up 14 8 (by decide)] at q0_; exact q0_)) (belNew X _))),(fun q0_=>(hT.2.2.2.2.2.2.2.2.2.2.2.2.2.2.2.2.2.1 (by rw [up 14 8 (by decide)] at q0_; exact q0_))),(fun q0_ q1_=>(hT.2.2.2.2.2.2.2.2.2.2.2.2.2.2.2.2.2.2.1 (by rw [up 14 8 (by decide)] at q0_; exact q0_) (by rw [up 14 10 (by decide)] at q1_; exact q1_))),(fun q0_=>(on9 (hT.2.2.2.2.2.2.2.2.2.2.2.2.2.2.2.2.2.2.2.1 (by rw [up 14 10 (by decide)] at q0_; exact q0_)) (belNew X _))),(fun q0_=>(hT.2.2.2.2.2.2.2.2.2.2.2.2.2.2.2.2.2.2.2.2.1 (by rw [up 14 10 (by decide)] at q0_; exact q0_))),(fun q0_=>(on9 (hT.2.2.2.2.2.2.2.2.2.2.2.2.2.2.2.2.2.2.2.2.2.1 (by rw [up 14 12 (by decide)] at q0_; exact q0_)) (belNew X _))),(fun q0_=>(hT.2.2.2.2.2.2.2.2.2.2.2.2.2.2.2.2.2.2.2.2.2.2.1 (by rw [up 14 12 (by decide)] at q0_; exact q0_))),(fun _q0_=>heapNew X _),(fun _q0_=>(hT.1).size),(fun q0_ q1_=>(Ne.symm (Nat.ne_of_lt (Array.getElem?_eq_some_iff.1 (hT.2.2.2.2.2.2.2.2.2.2.2.2.2.2.2.2.2.2.2.2.2.2.2.2.2.2.1 (by rw [up 14 16 (by decide)] at q1_; exact q1_))).1))),(fun q0_=>(on9 (hT.2.2.2.2.2.2.2.2.2.2.2.2.2.2.2.2.2.2.2.2.2.2.2.2.2.2.1 (by rw [up 14 16 (by decide)] at q0_; exact q0_)) (belNew X _))),(fun q0_=>(hT.2.2.2.2.2.2.2.2.2.2.2.2.2.2.2.2.2.2.2.2.2.2.2.2.2.2.2.1 (by rw [up 14 16 (by decide)] at q0_; exact q0_))),(fun q0_=>absurd (hl_.symm.trans (hcl 17 _ rfl (hcl 18 _ rfl ((up 14 18 (by decide)).symm.trans q0_) 17 rfl) 14 rfl)) (by decide)),(fun q0_=>absurd (hl_.symm.trans (hcl 17 _ rfl (hcl 18 _ rfl ((up 14 18 (by decide)).symm.trans q0_) 17 rfl) 14 rfl)) (by decide))⟩,fun i hi hli=>?_⟩
    match i,hi with
    | 0,_=>rfl
    | 1,_=>rfl
    | 2,_=>rfl
    | 3,_=>rfl
    | 4,_=>rfl
    | 5,_=>rfl
    | 6,_=>rfl
    | 7,_=>rfl
    | 8,_=>rfl
    | 9,_=>rfl
    | 10,_=>rfl
    | 11,_=>rfl
    | 12,_=>rfl
    | 13,_=>rfl
    | 14,_=>exact absurd (hl_.symm.trans hli) (by decide)
    | 15,_=>rfl
    | 16,_=>rfl
    | 17,_=>exact absurd (hl_.symm.trans (hcl 17 _ rfl hli 14 rfl)) (by decide)
    | 18,_=>rfl
    | 19,_=>rfl
    | k_+20,h_=>exact absurd h_ (by simp)
   | 15,_=>exact stepV rfl rfl (execMvB rfl ((hf 8 (by decide)).trans t8)) ⟨s,⟨_,rfl,rfl⟩,⟨hT.1,(hT.2.1),(hT.2.2.1),(hT.2.2.2.1),(fun q0_=>(hT.2.2.2.2.1 (by rw [up 15 2 (by decide)] at q0_; exact q0_))),(fun q0_=>(hT.2.2.2.2.2.1 (by rw [up 15 2 (by decide)] at q0_; exact q0_))),(fun q0_ q1_=>(hT.2.2.2.2.2.2.1 (by rw [up 15 2 (by decide)] at q0_; exact q0_) (by rw [up 15 4 (by decide)] at q1_; exact q1_))),(fun q0_ q1_=>(hT.2.2.2.2.2.2.2.1 (by rw [up 15 2 (by decide)] at q0_; exact q0_) (by rw [up 15 14 (by decide)] at q1_; exact q1_))),(fun q0_ q1_=>absurd (hl_.symm.trans (hcl 16 _ rfl ((up 15 16 (by decide)).symm.trans q1_) 15 rfl)) (by decide)),(fun q0_=>(hT.2.2.2.2.2.2.2.2.2.1 (by rw [up 15 4 (by decide)] at q0_; exact q0_))),(fun q0_=>(hT.2.2.2.2.2.2.2.2.2.2.1 (by rw [up 15 4 (by decide)] at q0_; exact q0_))),(fun q0_ q1_=>(hT.2.2.2.2.2.2.2.2.2.2.2.1 (by rw [up 15 4 (by decide)] at q0_; exact q0_) (by rw [up 15 14 (by decide)] at q1_; exact q1_))),(fun q0_ q1_=>absurd (hl_.symm.trans (hcl 16 _ rfl ((up 15 16 (by decide)).symm.trans q1_) 15 rfl)) (by decide)),(fun q0_=>(hT.2.2.2.2.2.2.2.2.2.2.2.2.2.1 (by rw [up 15 6 (by decide)] at q0_; exact q0_))),(fun q0_=>(hT.2.2.2.2.2.2.2.2.2.2.2.2.2.2.1 (by rw [up 15 6 (by decide)] at q0_; exact q0_))),(fun q0_ q1_=>(hT.2.2.2.2.2.2.2.2.2.2.2.2.2.2.2.1 (by rw [up 15 6 (by decide)] at q0_; exact q0_) (by rw [up 15 12 (by decide)] at q1_; exact q1_))),(fun q0_=>(hT.2.2.2.2.2.2.2.2.2.2.2.2.2.2.2.2.1 (by rw [up 15 8 (by decide)] at q0_; exact q0_))),(fun q0_=>(hT.2.2.2.2.2.2.2.2.2.2.2.2.2.2.2.2.2.1 (by rw [up 15 8 (by decide)] at q0_; exact q0_))),(fun q0_ q1_=>(hT.2.2.2.2.2.2.2.2.2.2.2.2.2.2.2.2.2.2.1 (by rw [up 15 8 (by decide)] at q0_; exact q0_) (by rw [up 15 10 (by decide)] at q1_; exact q1_))),(fun q0_=>(hT.2.2.2.2.2.2.2.2.2.2.2.2.2.2.2.2.2.2.2.1 (by rw [up 15 10 (by decide)] at q0_; exact q0_))),(fun q0_=>(hT.2.2.2.2.2.2.2.2.2.2.2.2.2.2.2.2.2.2.2.2.1 (by rw [up 15 10 (by decide)] at q0_; exact q0_))),(fun q0_=>(hT.2.2.2.2.2.2.2.2.2.2.2.2.2.2.2.2.2.2.2.2.2.1 (by rw [up 15 12 (by decide)] at q0_; exact q0_))),(fun q0_=>(hT.2.2.2.2.2.2.2.2.2.2.2.2.2.2.2.2.2.2.2.2.2.2.1 (by rw [up 15 12 (by decide)] at q0_; exact q0_))),(fun q0_=>(hT.2.2.2.2.2.2.2.2.2.2.2.2.2.2.2.2.2.2.2.2.2.2.2.1 (by rw [up 15 14 (by decide)] at q0_; exact q0_))),(fun q0_=>(hT.2.2.2.2.2.2.2.2.2.2.2.2.2.2.2.2.2.2.2.2.2.2.2.2.1 (by rw [up 15 14 (by decide)] at q0_; exact q0_))),(fun q0_ q1_=>absurd (hl_.symm.trans (hcl 16 _ rfl ((up 15 16 (by decide)).symm.trans q1_) 15 rfl)) (by decide)),(fun q0_=>absurd (hl_.symm.trans (hcl 16 _ rfl ((up 15 16 (by decide)).symm.trans q0_) 15 rfl)) (by decide)),(fun q0_=>absurd (hl_.symm.trans (hcl 16 _ rfl ((up 15 16 (by decide)).symm.trans q0_) 15 rfl)) (by decide)),(fun q0_=>absurd (hl_.symm.trans (hcl 16 _ rfl (hcl 17 _ rfl (hcl 18 _ rfl ((up 15 18 (by decide)).symm.trans q0_) 17 rfl) 16 rfl) 15 rfl)) (by decide)),(fun q0_=>absurd (hl_.symm.trans (hcl 16 _ rfl (hcl 17 _ rfl (hcl 18 _ rfl ((up 15 18 (by decide)).symm.trans q0_) 17 rfl) 16 rfl) 15 rfl)) (by decide))⟩,fun _ _ _=>rfl⟩
   | 16,_=>
    refine stepV rfl rfl (execMkIx rfl (hdep _ rfl 15 rfl _ rfl _ rfl) (hdep _ rfl 15 rfl _ rfl _ rfl) (by omega)) ⟨(s.1,s.2.1,s.2.2.1,s.2.2.2.1,s.2.2.2.2.1,s.2.2.2.2.2.1,s.2.2.2.2.2.2.1,X.heap.size,s.2.2.2.2.2.2.2.2),⟨_,rfl,rfl⟩,⟨hT.1.trans (((belNew X _)).mono hT.1.size),((on9 hT.2.1 (belNew X _))),((on9 hT.2.2.1 (belNew X _))),(hT.2.2.2.1),(fun q0_=>(on9 (hT.2.2.2.2.1 (by rw [up 16 2 (by decide)] at q0_; exact q0_)) (belNew X _))),(fun q0_=>(hT.2.2.2.2.2.1 (by rw [up 16 2 (by decide)] at q0_; exact q0_))),(fun q0_ q1_=>(hT.2.2.2.2.2.2.1 (by rw [up 16 2 (by decide)] at q0_; exact q0_) (by rw [up 16 4 (by decide)] at q1_; exact q1_))),(fun q0_ q1_=>(hT.2.2.2.2.2.2.2.1 (by rw [up 16 2 (by decide)] at q0_; exact q0_) (by rw [up 16 14 (by decide)] at q1_; exact q1_))),(fun q0_ q1_=>Nat.ne_of_lt (Array.getElem?_eq_some_iff.1 (hT.2.2.2.2.1 (by rw [up 16 2 (by decide)] at q0_; exact q0_))).1),(fun q0_=>(on9 (hT.2.2.2.2.2.2.2.2.2.1 (by rw [up 16 4 (by decide)] at q0_; exact q0_)) (belNew X _))),(fun q0_=>(hT.2.2.2.2.2.2.2.2.2.2.1 (by rw [up 16 4 (by decide)] at q0_; exact q0_))),(fun q0_ q1_=>(hT.2.2.2.2.2.2.2.2.2.2.2.1 (by rw [up 16 4 (by decide)] at q0_; exact q0_) (by rw [up 16 14 (by decide)] at q1_; exact q1_))),(fun q0_ q1_=>Nat.ne_of_lt (Array.getElem?_eq_some_iff.1 (hT.2.2.2.2.2.2.2.2.2.1 (by rw [up 16 4 (by decide)] at q0_; exact q0_))).1),(fun q0_=>(on9 (hT.2.2.2.2.2.2.2.2.2.2.2.2.2.1 (by rw [up 16 6 (by decide)] at q0_; exact q0_)) (belNew X _))),(fun q0_=>(hT.2.2.2.2.2.2.2.2.2.2.2.2.2.2.1 (by rw [up 16 6 (by decide)] at q0_; exact q0_))),(fun q0_ q1_=>(hT.2.2.2.2.2.2.2.2.2.2.2.2.2.2.2.1 (by rw [up 16 6 (by decide)] at q0_; exact q0_) (by rw [up 16 12 (by decide)] at q1_; exact q1_))),(fun q0_=>(on9 (hT.2.2.2.2.2.2.2.2.2.2.2.2.2.2.2.2.1 (by rw [up 16 8 (by decide)] at q0_; exact q0_)) (belNew X _))),(fun q0_=>(hT.2.2.2.2.2.2.2.2.2.2.2.2.2.2.2.2.2.1 (by rw [up 16 8 (by decide)] at q0_; exact q0_))),(fun q0_ q1_=>(hT.2.2.2.2.2.2.2.2.2.2.2.2.2.2.2.2.2.2.1 (by rw [up 16 8 (by decide)] at q0_; exact q0_) (by rw [up 16 10 (by decide)] at q1_; exact q1_))),(fun q0_=>(on9 (hT.2.2.2.2.2.2.2.2.2.2.2.2.2.2.2.2.2.2.2.1 (by rw [up 16 10 (by decide)] at q0_; exact q0_)) (belNew X _))),(fun q0_=>(hT.2.2.2.2.2.2.2.2.2.2.2.2.2.2.2.2.2.2.2.2.1 (by rw [up 16 10 (by decide)] at q0_; exact q0_))),(fun q0_=>(on9 (hT.2.2.2.2.2.2.2.2.2.2.2.2.2.2.2.2.2.2.2.2.2.1 (by rw [up 16 12 (by decide)] at q0_; exact q0_)) (belNew X _))),(fun q0_=>(hT.2.2.2.2.2.2.2.2.2.2.2.2.2.2.2.2.2.2.2.2.2.2.1 (by rw [up 16 12 (by decide)] at q0_; exact q0_))),(fun q0_=>(on9 (hT.2.2.2.2.2.2.2.2.2.2.2.2.2.2.2.2.2.2.2.2.2.2.2.1 (by rw [up 16 14 (by decide)] at q0_; exact q0_)) (belNew X _))),(fun q0_=>(hT.2.2.2.2.2.2.2.2.2.2.2.2.2.2.2.2.2.2.2.2.2.2.2.2.1 (by rw [up 16 14 (by decide)] at q0_; exact q0_))),(fun q0_ q1_=>Nat.ne_of_lt (Array.getElem?_eq_some_iff.1 (hT.2.2.2.2.2.2.2.2.2.2.2.2.2.2.2.2.2.2.2.2.2.2.2.1 (by rw [up 16 14 (by decide)] at q0_; exact q0_))).1),(fun _q0_=>heapNew X _),(fun _q0_=>(hT.1).size),(fun q0_=>absurd (hl_.symm.trans (hcl 17 _ rfl (hcl 18 _ rfl ((up 16 18 (by decide)).symm.trans q0_) 17 rfl) 16 rfl)) (by decide)),(fun q0_=>absurd (hl_.symm.trans (hcl 17 _ rfl (hcl 18 _ rfl ((up 16 18 (by decide)).symm.trans q0_) 17 rfl) 16 rfl)) (by decide))⟩,fun i hi hli=>?_⟩
    match i,hi with
    | 0,_=>rfl
    | 1,_=>rfl
    | 2,_=>rfl
    | 3,_=>rfl
    | 4,_=>rfl
    | 5,_=>rfl
    | 6,_=>rfl
    | 7,_=>rfl
    | 8,_=>rfl
    | 9,_=>rfl
    | 10,_=>rfl
    | 11,_=>rfl
    | 12,_=>rfl
    | 13,_=>rfl
    | 14,_=>rfl
    | 15,_=>rfl
    | 16,_=>exact absurd (hl_.symm.trans hli) (by decide)
    | 17,_=>exact absurd (hl_.symm.trans (hcl 17 _ rfl hli 16 rfl)) (by decide)
    | 18,_=>rfl
    | 19,_=>rfl
    | k_+20,h_=>exact absurd h_ (by simp)
   | 17,_=>exact stepV rfl rfl (execBdR9 (q:=(RK.mk 0 s.1 s.2.1 s.2.2.1 s.2.2.2.1 s.2.2.2.2.1 s.2.2.2.2.2.1 s.2.2.2.2.2.2.1 s.2.2.2.2.2.2.2.1)) rfl (hdep _ rfl 0 rfl _ rfl _ rfl) (hdep _ rfl 2 rfl _ rfl _ rfl) (hdep _ rfl 4 rfl _ rfl _ rfl) (hdep _ rfl 6 rfl _ rfl _ rfl) (hdep _ rfl 8 rfl _ rfl _ rfl) (hdep _ rfl 10 rfl _ rfl _ rfl) (hdep _ rfl 12 rfl _ rfl _ rfl) (hdep _ rfl 14 rfl _ rfl _ rfl) (hdep _ rfl 16 rfl _ rfl _ rfl)) ⟨s,⟨_,rfl,rfl⟩,⟨hT.1,(hT.2.1),(hT.2.2.1),(hT.2.2.2.1),(fun q0_=>(hT.2.2.2.2.1 (by rw [up 17 2 (by decide)] at q0_; exact q0_))),(fun q0_=>(hT.2.2.2.2.2.1 (by rw [up 17 2 (by decide)] at q0_; exact q0_))),(fun q0_ q1_=>(hT.2.2.2.2.2.2.1 (by rw [up 17 2 (by decide)] at q0_; exact q0_) (by rw [up 17 4 (by decide)] at q1_; exact q1_))),(fun q0_ q1_=>(hT.2.2.2.2.2.2.2.1 (by rw [up 17 2 (by decide)] at q0_; exact q0_) (by rw [up 17 14 (by decide)] at q1_; exact q1_))),(fun q0_ q1_=>(hT.2.2.2.2.2.2.2.2.1 (by rw [up 17 2 (by decide)] at q0_; exact q0_) (by rw [up 17 16 (by decide)] at q1_; exact q1_))),(fun q0_=>(hT.2.2.2.2.2.2.2.2.2.1 (by rw [up 17 4 (by decide)] at q0_; exact q0_))),(fun q0_=>(hT.2.2.2.2.2.2.2.2.2.2.1 (by rw [up 17 4 (by decide)] at q0_; exact q0_))),(fun q0_ q1_=>(hT.2.2.2.2.2.2.2.2.2.2.2.1 (by rw [up 17 4 (by decide)] at q0_; exact q0_) (by rw [up 17 14 (by decide)] at q1_; exact q1_))),(fun q0_ q1_=>(hT.2.2.2.2.2.2.2.2.2.2.2.2.1 (by rw [up 17 4 (by decide)] at q0_; exact q0_) (by rw [up 17 16 (by decide)] at q1_; exact q1_))),(fun q0_=>(hT.2.2.2.2.2.2.2.2.2.2.2.2.2.1 (by rw [up 17 6 (by decide)] at q0_; exact q0_))),(fun q0_=>(hT.2.2.2.2.2.2.2.2.2.2.2.2.2.2.1 (by rw [up 17 6 (by decide)] at q0_; exact q0_))),(fun q0_ q1_=>(hT.2.2.2.2.2.2.2.2.2.2.2.2.2.2.2.1 (by rw [up 17 6 (by decide)] at q0_; exact q0_) (by rw [up 17 12 (by decide)] at q1_; exact q1_))),(fun q0_=>(hT.2.2.2.2.2.2.2.2.2.2.2.2.2.2.2.2.1 (by rw [up 17 8 (by decide)] at q0_; exact q0_))),(fun q0_=>(hT.2.2.2.2.2.2.2.2.2.2.2.2.2.2.2.2.2.1 (by rw [up 17 8 (by decide)] at q0_; exact q0_))),(fun q0_ q1_=>(hT.2.2.2.2.2.2.2.2.2.2.2.2.2.2.2.2.2.2.1 (by rw [up 17 8 (by decide)] at q0_; exact q0_) (by rw [up 17 10 (by decide)] at q1_; exact q1_))),(fun q0_=>(hT.2.2.2.2.2.2.2.2.2.2.2.2.2.2.2.2.2.2.2.1 (by rw [up 17 10 (by decide)] at q0_; exact q0_))),(fun q0_=>(hT.2.2.2.2.2.2.2.2.2.2.2.2.2.2.2.2.2.2.2.2.1 (by rw [up 17 10 (by decide)] at q0_; exact q0_))),(fun q0_=>(hT.2.2.2.2.2.2.2.2.2.2.2.2.2.2.2.2.2.2.2.2.2.1 (by rw [up 17 12 (by decide)] at q0_; exact q0_))),(fun q0_=>(hT.2.2.2.2.2.2.2.2.2.2.2.2.2.2.2.2.2.2.2.2.2.2.1 (by rw [up 17 12 (by decide)] at q0_; exact q0_))),(fun q0_=>(hT.2.2.2.2.2.2.2.2.2.2.2.2.2.2.2.2.2.2.2.2.2.2.2.1 (by rw [up 17 14 (by decide)] at q0_; exact q0_))),(fun q0_=>(hT.2.2.2.2.2.2.2.2.2.2.2.2.2.2.2.2.2.2.2.2.2.2.2.2.1 (by rw [up 17 14 (by decide)] at q0_; exact q0_))),(fun q0_ q1_=>(hT.2.2.2.2.2.2.2.2.2.2.2.2.2.2.2.2.2.2.2.2.2.2.2.2.2.1 (by rw [up 17 14 (by decide)] at q0_; exact q0_) (by rw [up 17 16 (by decide)] at q1_; exact q1_))),(fun q0_=>(hT.2.2.2.2.2.2.2.2.2.2.2.2.2.2.2.2.2.2.2.2.2.2.2.2.2.2.1 (by rw [up 17 16 (by decide)] at q0_; exact q0_))),(fun q0_=>(hT.2.2.2.2.2.2.2.2.2.2.2.2.2.2.2.2.2.2.2.2.2.2.2.2.2.2.2.1 (by rw [up 17 16 (by decide)] at q0_; exact q0_))),(fun q0_=>absurd (hl_.symm.trans (hcl 18 _ rfl ((up 17 18 (by decide)).symm.trans q0_) 17 rfl)) (by decide)),(fun q0_=>absurd (hl_.symm.trans (hcl 18 _ rfl ((up 17 18 (by decide)).symm.trans q0_) 17 rfl)) (by decide))⟩,fun _ _ _=>rfl⟩
   | 18,_=>
    refine stepV rfl rfl (execBxR9 rfl (hdep _ rfl 17 rfl _ rfl _ rfl) (sl3 hp.c.shp) (sl3 hp.t.shp)) ⟨(s.1,s.2.1,s.2.2.1,s.2.2.2.1,s.2.2.2.2.1,s.2.2.2.2.2.1,s.2.2.2.2.2.2.1,s.2.2.2.2.2.2.2.1,X.heap.size),⟨_,rfl,rfl⟩,⟨hT.1.trans (((belNew X _)).mono hT.1.size),((on9 hT.2.1 (belNew X _))),((on9 hT.2.2.1 (belNew X _))),(hT.2.2.2.1),(fun q0_=>(on9 (hT.2.2.2.2.1 (by rw [up 18 2 (by decide)] at q0_; exact q0_)) (belNew X _))),(fun q0_=>(hT.2.2.2.2.2.1 (by rw [up 18 2 (by decide)] at q0_; exact q0_))),(fun q0_ q1_=>(hT.2.2.2.2.2.2.1 (by rw [up 18 2 (by decide)] at q0_; exact q0_) (by rw [up 18 4 (by decide)] at q1_; exact q1_))),(fun q0_ q1_=>(hT.2.2.2.2.2.2.2.1 (by rw [up 18 2 (by decide)] at q0_; exact q0_) (by rw [up 18 14 (by decide)] at q1_; exact q1_))),(fun q0_ q1_=>(hT.2.2.2.2.2.2.2.2.1 (by rw [up 18 2 (by decide)] at q0_; exact q0_) (by rw [up 18 16 (by decide)] at q1_; exact q1_))),(fun q0_=>(on9 (hT.2.2.2.2.2.2.2.2.2.1 (by rw [up 18 4 (by decide)] at q0_; exact q0_)) (belNew X _))),(fun q0_=>(hT.2.2.2.2.2.2.2.2.2.2.1 (by rw [up 18 4 (by decide)] at q0_; exact q0_))),(fun q0_ q1_=>(hT.2.2.2.2.2.2.2.2.2.2.2.1 (by rw [up 18 4 (by decide)] at q0_; exact q0_) (by rw [up 18 14 (by decide)] at q1_; exact q1_))),(fun q0_ q1_=>(hT.2.2.2.2.2.2.2.2.2.2.2.2.1 (by rw [up 18 4 (by decide)] at q0_; exact q0_) (by rw [up 18 16 (by decide)] at q1_; exact q1_))),(fun q0_=>(on9 (hT.2.2.2.2.2.2.2.2.2.2.2.2.2.1 (by rw [up 18 6 (by decide)] at q0_; exact q0_)) (belNew X _))),(fun q0_=>(hT.2.2.2.2.2.2.2.2.2.2.2.2.2.2.1 (by rw [up 18 6 (by decide)] at q0_; exact q0_))),(fun q0_ q1_=>(hT.2.2.2.2.2.2.2.2.2.2.2.2.2.2.2.1 (by rw [up 18 6 (by decide)] at q0_; exact q0_) (by rw [up 18 12 (by decide)] at q1_; exact q1_))),(fun q0_=>(on9 (hT.2.2.2.2.2.2.2.2.2.2.2.2.2.2.2.2.1 (by rw [up 18 8 (by decide)] at q0_; exact q0_)) (belNew X _))),(fun q0_=>(hT.2.2.2.2.2.2.2.2.2.2.2.2.2.2.2.2.2.1 (by rw [up 18 8 (by decide)] at q0_; exact q0_))),(fun q0_ q1_=>(hT.2.2.2.2.2.2.2.2.2.2.2.2.2.2.2.2.2.2.1 (by rw [up 18 8 (by decide)] at q0_; exact q0_) (by rw [up 18 10 (by decide)] at q1_; exact q1_))),(fun q0_=>(on9 (hT.2.2.2.2.2.2.2.2.2.2.2.2.2.2.2.2.2.2.2.1 (by rw [up 18 10 (by decide)] at q0_; exact q0_)) (belNew X _))),(fun q0_=>(hT.2.2.2.2.2.2.2.2.2.2.2.2.2.2.2.2.2.2.2.2.1 (by rw [up 18 10 (by decide)] at q0_; exact q0_))),(fun q0_=>(on9 (hT.2.2.2.2.2.2.2.2.2.2.2.2.2.2.2.2.2.2.2.2.2.1 (by rw [up 18 12 (by decide)] at q0_; exact q0_)) (belNew X _))),(fun q0_=>(hT.2.2.2.2.2.2.2.2.2.2.2.2.2.2.2.2.2.2.2.2.2.2.1 (by rw [up 18 12 (by decide)] at q0_; exact q0_))),(fun q0_=>(on9 (hT.2.2.2.2.2.2.2.2.2.2.2.2.2.2.2.2.2.2.2.2.2.2.2.1 (by rw [up 18 14 (by decide)] at q0_; exact q0_)) (belNew X _))),(fun q0_=>(hT.2.2.2.2.2.2.2.2.2.2.2.2.2.2.2.2.2.2.2.2.2.2.2.2.1 (by rw [up 18 14 (by decide)] at q0_; exact q0_))),(fun q0_ q1_=>(hT.2.2.2.2.2.2.2.2.2.2.2.2.2.2.2.2.2.2.2.2.2.2.2.2.2.1 (by rw [up 18 14 (by decide)] at q0_; exact q0_) (by rw [up 18 16 (by decide)] at q1_; exact q1_))),(fun q0_=>(on9 (hT.2.2.2.2.2.2.2.2.2.2.2.2.2.2.2.2.2.2.2.2.2.2.2.2.2.2.1 (by rw [up 18 16 (by decide)] at q0_; exact q0_)) (belNew X _))),(fun q0_=>(hT.2.2.2.2.2.2.2.2.2.2.2.2.2.2.2.2.2.2.2.2.2.2.2.2.2.2.2.1 (by rw [up 18 16 (by decide)] at q0_; exact q0_))),(fun _q0_=>heapNew X _),(fun _q0_=>(hT.1).size)⟩,fun i hi hli=>?_⟩
    match i,hi with
    | 0,_=>rfl
    | 1,_=>rfl
    | 2,_=>rfl
    | 3,_=>rfl
    | 4,_=>rfl
    | 5,_=>rfl
    | 6,_=>rfl
    | 7,_=>rfl
    | 8,_=>rfl
    | 9,_=>rfl
    | 10,_=>rfl
    | 11,_=>rfl
    | 12,_=>rfl
    | 13,_=>rfl
    | 14,_=>rfl
    | 15,_=>rfl
    | 16,_=>rfl
    | 17,_=>rfl
    | 18,_=>exact absurd (hl_.symm.trans hli) (by decide)
    | 19,_=>exact absurd (hl_.symm.trans (hcl 19 _ rfl hli 18 rfl)) (by decide)
    | k_+20,h_=>exact absurd h_ (by simp)
   | 19,_=>exact stepV rfl rfl (Cf.execAsgB rfl (hdep _ rfl 18 rfl _ rfl _ rfl)) ⟨s,⟨_,rfl,rfl⟩,⟨hT.1,(hT.2.1),(hT.2.2.1),(hT.2.2.2.1),(fun q0_=>(hT.2.2.2.2.1 (by rw [up 19 2 (by decide)] at q0_; exact q0_))),(fun q0_=>(hT.2.2.2.2.2.1 (by rw [up 19 2 (by decide)] at q0_; exact q0_))),(fun q0_ q1_=>(hT.2.2.2.2.2.2.1 (by rw [up 19 2 (by decide)] at q0_; exact q0_) (by rw [up 19 4 (by decide)] at q1_; exact q1_))),(fun q0_ q1_=>(hT.2.2.2.2.2.2.2.1 (by rw [up 19 2 (by decide)] at q0_; exact q0_) (by rw [up 19 14 (by decide)] at q1_; exact q1_))),(fun q0_ q1_=>(hT.2.2.2.2.2.2.2.2.1 (by rw [up 19 2 (by decide)] at q0_; exact q0_) (by rw [up 19 16 (by decide)] at q1_; exact q1_))),(fun q0_=>(hT.2.2.2.2.2.2.2.2.2.1 (by rw [up 19 4 (by decide)] at q0_; exact q0_))),(fun q0_=>(hT.2.2.2.2.2.2.2.2.2.2.1 (by rw [up 19 4 (by decide)] at q0_; exact q0_))),(fun q0_ q1_=>(hT.2.2.2.2.2.2.2.2.2.2.2.1 (by rw [up 19 4 (by decide)] at q0_; exact q0_) (by rw [up 19 14 (by decide)] at q1_; exact q1_))),(fun q0_ q1_=>(hT.2.2.2.2.2.2.2.2.2.2.2.2.1 (by rw [up 19 4 (by decide)] at q0_; exact q0_) (by rw [up 19 16 (by decide)] at q1_; exact q1_))),(fun q0_=>(hT.2.2.2.2.2.2.2.2.2.2.2.2.2.1 (by rw [up 19 6 (by decide)] at q0_; exact q0_))),(fun q0_=>(hT.2.2.2.2.2.2.2.2.2.2.2.2.2.2.1 (by rw [up 19 6 (by decide)] at q0_; exact q0_))),(fun q0_ q1_=>(hT.2.2.2.2.2.2.2.2.2.2.2.2.2.2.2.1 (by rw [up 19 6 (by decide)] at q0_; exact q0_) (by rw [up 19 12 (by decide)] at q1_; exact q1_))),(fun q0_=>(hT.2.2.2.2.2.2.2.2.2.2.2.2.2.2.2.2.1 (by rw [up 19 8 (by decide)] at q0_; exact q0_))),(fun q0_=>(hT.2.2.2.2.2.2.2.2.2.2.2.2.2.2.2.2.2.1 (by rw [up 19 8 (by decide)] at q0_; exact q0_))),(fun q0_ q1_=>(hT.2.2.2.2.2.2.2.2.2.2.2.2.2.2.2.2.2.2.1 (by rw [up 19 8 (by decide)] at q0_; exact q0_) (by rw [up 19 10 (by decide)] at q1_; exact q1_))),(fun q0_=>(hT.2.2.2.2.2.2.2.2.2.2.2.2.2.2.2.2.2.2.2.1 (by rw [up 19 10 (by decide)] at q0_; exact q0_))),(fun q0_=>(hT.2.2.2.2.2.2.2.2.2.2.2.2.2.2.2.2.2.2.2.2.1 (by rw [up 19 10 (by decide)] at q0_; exact q0_))),(fun q0_=>(hT.2.2.2.2.2.2.2.2.2.2.2.2.2.2.2.2.2.2.2.2.2.1 (by rw [up 19 12 (by decide)] at q0_; exact q0_))),(fun q0_=>(hT.2.2.2.2.2.2.2.2.2.2.2.2.2.2.2.2.2.2.2.2.2.2.1 (by rw [up 19 12 (by decide)] at q0_; exact q0_))),(fun q0_=>(hT.2.2.2.2.2.2.2.2.2.2.2.2.2.2.2.2.2.2.2.2.2.2.2.1 (by rw [up 19 14 (by decide)] at q0_; exact q0_))),(fun q0_=>(hT.2.2.2.2.2.2.2.2.2.2.2.2.2.2.2.2.2.2.2.2.2.2.2.2.1 (by rw [up 19 14 (by decide)] at q0_; exact q0_))),(fun q0_ q1_=>(hT.2.2.2.2.2.2.2.2.2.2.2.2.2.2.2.2.2.2.2.2.2.2.2.2.2.1 (by rw [up 19 14 (by decide)] at q0_; exact q0_) (by rw [up 19 16 (by decide)] at q1_; exact q1_))),(fun q0_=>(hT.2.2.2.2.2.2.2.2.2.2.2.2.2.2.2.2.2.2.2.2.2.2.2.2.2.2.1 (by rw [up 19 16 (by decide)] at q0_; exact q0_))),(fun q0_=>(hT.2.2.2.2.2.2.2.2.2.2.2.2.2.2.2.2.2.2.2.2.2.2.2.2.2.2.2.1 (by rw [up 19 16 (by decide)] at q0_; exact q0_))),(fun q0_=>(hT.2.2.2.2.2.2.2.2.2.2.2.2.2.2.2.2.2.2.2.2.2.2.2.2.2.2.2.2.1 (by rw [up 19 18 (by decide)] at q0_; exact q0_))),(fun q0_=>(hT.2.2.2.2.2.2.2.2.2.2.2.2.2.2.2.2.2.2.2.2.2.2.2.2.2.2.2.2.2 (by rw [up 19 18 (by decide)] at q0_; exact q0_)))⟩,fun _ _ _=>rfl⟩
   | k_+20,h_=>exact absurd h_ (by simp)
  rintro l_ ⟨qP,qR,qE,qT,qH,qC,qG,qK,qg⟩ a X5 h1 h2 h3 h4 hall hT
  clear BB
  clear F2
  clear F4
  clear hg4
  obtain ⟨BB,F2,F4,hg4,FrP,FbP,FnPR,FnPG,FnPK,FrR,FbR,FnRG,FnRK,FrE,FbE,FnEC,FrT,FbT,FnTH,FrH,FbH,FrC,FbC,FrG,FbG,FnGK,FrK,FbK,Frg,Fbg⟩:=hT
  replace F2:(X5.heap[g2]?=some (.cells #[cv,tz] 25)):=F2
  replace F4:(X5.heap[g4]?=some (.cells (hC (.slice none 0 0) 0 false false 0 (.slice none 0 0)) 29)):=F4
  replace hg4:(V.heap.size<=g4):=hg4
  replace FrP:(X5.heap[qP]?=some (.cells (madeCells #[.int .i64 0] p.n) 3)):=FrP (hall 2 (by decide))
  replace FbP:(V.heap.size<=qP):=FbP (hall 2 (by decide))
  replace FnPR:(qP ≠ qR):=FnPR (hall 2 (by decide)) (hall 4 (by decide))
  replace FnPG:(qP ≠ qG):=FnPG (hall 2 (by decide)) (hall 14 (by decide))
  replace FnPK:(qP ≠ qK):=FnPK (hall 2 (by decide)) (hall 16 (by decide))
  replace FrR:(X5.heap[qR]?=some (.cells (madeCells #[.int .i64 0] p.n) 3)):=FrR (hall 4 (by decide))
  replace FbR:(V.heap.size<=qR):=FbR (hall 4 (by decide))
  replace FnRG:(qR ≠ qG):=FnRG (hall 4 (by decide)) (hall 14 (by decide))
  replace FnRK:(qR ≠ qK):=FnRK (hall 4 (by decide)) (hall 16 (by decide))
  replace FrE:(X5.heap[qE]?=some (.cells (madeCells #[.bool false] p.n) 4)):=FrE (hall 6 (by decide))
  replace FbE:(V.heap.size<=qE):=FbE (hall 6 (by decide))
  replace FnEC:(qE ≠ qC):=FnEC (hall 6 (by decide)) (hall 12 (by decide))
  replace FrT:(X5.heap[qT]?=some (.cells (madeCells #[.slice none 0 0] p.n) 22)):=FrT (hall 8 (by decide))
  replace FbT:(V.heap.size<=qT):=FbT (hall 8 (by decide))
  replace FnTH:(qT ≠ qH):=FnTH (hall 8 (by decide)) (hall 10 (by decide))
  replace FrH:(X5.heap[qH]?=some (.cells (madeCells #[.slice none 0 0] p.d) 22)):=FrH (hall 10 (by decide))
  replace FbH:(V.heap.size<=qH):=FbH (hall 10 (by decide))
  replace FrC:(X5.heap[qC]?=some (.cells (madeCells #[.bool false] p.d) 4)):=FrC (hall 12 (by decide))
  replace FbC:(V.heap.size<=qC):=FbC (hall 12 (by decide))
  replace FrG:(X5.heap[qG]?=some (.cells (madeCells #[.int .i64 0] p.d) 3)):=FrG (hall 14 (by decide))
  replace FbG:(V.heap.size<=qG):=FbG (hall 14 (by decide))
  replace FnGK:(qG ≠ qK):=FnGK (hall 14 (by decide)) (hall 16 (by decide))
  replace FrK:(X5.heap[qK]?=some (.cells (madeCells #[.int .i64 0] p.d) 3)):=FrK (hall 16 (by decide))
  replace FbK:(V.heap.size<=qK):=FbK (hall 16 (by decide))
  replace Frg:(X5.heap[qg]?=some (.cells (gR (RK.mk 0 qP qR qE qT qH qC qG qK) p.n p.d cv tz 0) 57)):=Frg (hall 18 (by decide))
  replace Fbg:(V.heap.size<=qg):=Fbg (hall 18 (by decide))
  clear hall
  replace t1:=(h3 1 (by decide)).trans t1
  replace t4:=(h3 4 (by decide)).trans t4
  replace t7:=(h3 7 (by decide)).trans t7
  replace t8:=(h3 8 (by decide)).trans t8
  have t9:a.eval (.tmp 9)=.pointer (some ⟨qg,0,none⟩):=h4 (19,9) (by decide)
  replace A:=(⟨h1,h2.trans A.2⟩:a.tmps.size=141/\a.defers=[])
  clear h1 h2 h3 h4
  clear t2
  obtain ⟨q,eq⟩:∃ q:RK,RK.mk qg qP qR qE qT qH qC qG qK=q:=⟨_,rfl⟩
  have FM0:RmM V.heap.size X5 q p cv tz r0 (fun _=>0) (fun _=>0) (fun _=>.slice none 0 0) (fun _=>.slice none 0 0) (ow0 q):=by
   rw [← eq]
   exact room0 Frg FrP FrR FrE FrT FrH FrC FrG FrK FnPR FnPG FnPK FnRG FnRK FnEC FnTH FnGK Fbg FbP FbR FbE FbT FbH FbC FbG FbK BB.size
  have ow4:ow0 q g4=0:=by
   rw [← eq]
   have n4:∀ {c:Nat} {d:Array Value} {t:TypeId},X5.heap[c]?=some (.cells d t)->29 ≠ t->g4 ≠ c:=fun h1 h2=>ne_ty F4 h1 h2
   simp [ow0,n4 Frg (by decide),n4 FrP (by decide),n4 FrR (by decide),n4 FrE (by decide),n4 FrT (by decide),n4 FrH (by decide),n4 FrC (by decide),n4 FrG (by decide),n4 FrK (by decide)]
  have owN:∀ b,X5.heap.size<=b->ow0 q b=0:=fun b hb=>by
   rw [← eq]
   have nb:∀ {c:Nat} {o:Obj},X5.heap[c]?=some o->b ≠ c:=fun h1 e=>by have:=(Array.getElem?_eq_some_iff.1 h1).1; omega
   simp [ow0,nb Frg,nb FrP,nb FrR,nb FrE,nb FrT,nb FrH,nb FrC,nb FrG,nb FrK]
  replace t9:a.eval (.tmp 9)=.pointer (some ⟨q.g,0,none⟩):=by rw [← eq]; exact t9
  clear Frg FrP FrR FrE FrT FrH FrC FrG FrK F2 eq
  refine wp_seq ?_
  obtain ⟨g10,egg10⟩:∃ z_:Nat,X5.heap.size=z_:=⟨_,rfl⟩
  refine wi_ A (h5_ t1 t4 t7 t8 t9) (rs_ 0 (fun a E=>?_))
  refine stepV rfl rfl (execAlH rfl) ⟨.pointer (some ⟨g10,0,none⟩),⟨_,rfl,by subst egg10; rfl⟩,fun X6 hX=>?_⟩
  have bQ:Below X5.heap.size X5 X6:=by subst hX egg10; exact (belNew X5 _)
  have F10:(X6.heap[g10]?=some (.cells (hC (.slice none 0 0) 0 false false 0 (.slice none 0 0)) 29)):=by subst hX egg10; exact heapNew X5 _
  have hg10:(V.heap.size<=g10):=by subst hX egg10; exact (BB).size
  have hne:(g4 ≠ g10):=by subst hX egg10; exact Nat.ne_of_lt (Array.getElem?_eq_some_iff.1 F4).1
  have how:(ow0 q g10=0):=by subst hX egg10; exact owN _ (Nat.le_refl _)
  replace FM0:=(FM0.on bQ)
  replace F4:=(on9 F4 bQ)
  replace BB:=BB.trans (bQ.mono BB.size)
  clear bQ hX egg10 E a
  refine rf_ [(10,.pointer (some ⟨g10,0,none⟩))] (h5_ t1 t4 t7 t8 t9) ?_
  rintro a A ⟨t10,-⟩ ⟨t1,t4,t7,t8,t9,-⟩
  refine rplayL V q p cv tz sv xz m sc g4 g10 _ hp hok hS hg10 hne ?_ a _ _ _ _ _ _ A t1 t4 t7 t8 t9 t10 BB FM0 F4 F10 ⟨ow4,how,fun b hb=>(by cases hb)⟩
  clear A t1 t4 t7 t8 t9 t10 BB FM0 F4 F10 a
  intro a W k gv kv tv hv ow pkv hrun hoff A t1 t4 t7 t8 t9 t10 BB FM F4 F10 FP
  refine wp_seq ?_
  refine wi_ A (h6_ t1 t4 t7 t8 t9 t10) (rv_ 1 (.pointer (some ⟨q.g,0,none⟩)) (fun a E=>execNlm rfl (E _)) (rv_ 2 (.pointer (some ⟨q.g,10,none⟩)) (fun a E=>execRo9 rfl (E _)) (rv_ 3 (.int .i64 (((rk p (scr m sc) k).lt:Nat):Int)) (fun a E=>execLr rfl (Or.inl rfl) (E _) (gR_at FM).2.2.2.2.2.2.2.2.2.2) (rv_ 4 (.pointer (some ⟨g10,4,none⟩)) (fun a E=>execFh4 rfl (E _)) (rs_ 5 (fun a E=>?_))))))
  refine stepS rfl rfl (execSm rfl (Or.inl rfl) (E _) (E _) (Or.inl ⟨_,rfl⟩) (hC_at F10).2.2.2.2.1 (frozen4 F10)) ⟨_,⟨_,rfl,rfl⟩,fun X29 hX=>?_⟩
  obtain ⟨BB,FM,F4,FP,F10b⟩:Below V.heap.size V X29/\(RmM V.heap.size X29 q p cv tz (rk p (scr m sc) k) gv kv tv hv ow)/\(X29.heap[g4]?=some (.cells (hC (.slice none 0 0) 0 false false 0 (.slice none 0 0)) 29))/\(X29.ownsRow V.heap.size 3 1 pkv k (intsL k (fun i=>((pk p (scr m sc) i:Nat):Int))))/\(X29.heap[g10]?=some (.cells (hC pkv (mx p (scr m sc) k) (!live p (rk p (scr m sc) k)) (live p (rk p (scr m sc) k) && decide (mayL p (rk p (scr m sc) k)=[])) (rk p (scr m sc) k).lt (.slice none 0 0)) 29)):=by subst hX; exact ⟨(BB).setCell hg10 _,(FM.grow0 grC19 (fun b e=>by cases e; exact hoff.2.1)),(keepN19 F4 hne grC19),(ownG_T FP F10 (by decide) grC19),hC_s4 F10⟩
  clear F10 hX E a
  refine rf_ [] (h6_ t1 t4 t7 t8 t9 t10) ?_
  rintro a A - ⟨t1,t4,t7,t8,t9,t10,-⟩
  refine wp_seq ?_
  refine wi_ A (h6_ t1 t4 t7 t8 t9 t10) (rv_ 1 (.pointer (some ⟨q.g,0,none⟩)) (fun a E=>execNlm rfl (E _)) (rv_ 2 (.pointer (some ⟨q.g,5,none⟩)) (fun a E=>execRo4 rfl (E _)) (rv_ 3 (sl0 q.T p.n) (fun a E=>execLr rfl (Or.inr (Or.inr (Or.inr (Or.inr (Or.inl rfl))))) (E _) (gR_at FM).2.2.2.2.2.1) (rv_ 4 (.pointer (some ⟨g10,5,none⟩)) (fun a E=>execFh5 rfl (E _)) (rs_ 5 (fun a E=>?_))))))
  refine stepS rfl rfl (execStLx rfl (E _) (E _) ⟨_,_,_,rfl⟩ (hC_at F10b).2.2.2.2.2 (frozen4 F10b)) ⟨_,⟨_,rfl,rfl⟩,fun X30 hX=>?_⟩
  obtain ⟨BB,FM,F4,FP,F10c⟩:Below V.heap.size V X30/\(RmM V.heap.size X30 q p cv tz (rk p (scr m sc) k) gv kv tv hv ow)/\(X30.heap[g4]?=some (.cells (hC (.slice none 0 0) 0 false false 0 (.slice none 0 0)) 29))/\(X30.ownsRow V.heap.size 3 1 pkv k (intsL k (fun i=>((pk p (scr m sc) i:Nat):Int))))/\(X30.heap[g10]?=some (.cells (hC pkv (mx p (scr m sc) k) (!live p (rk p (scr m sc) k)) (live p (rk p (scr m sc) k) && decide (mayL p (rk p (scr m sc) k)=[])) (rk p (scr m sc) k).lt (sl0 q.T p.n)) 29)):=by subst hX; exact ⟨(BB).setCell hg10 _,(FM.grow0 grC19 (fun b e=>by cases e; exact hoff.2.1)),(keepN19 F4 hne grC19),(ownG_T FP F10b (by decide) grC19),hC_s5 F10b⟩
  clear F10b hX E a
  refine rf_ [] (h6_ t1 t4 t7 t8 t9 t10) ?_
  rintro a A - ⟨t1,t4,t7,t8,t9,t10,-⟩
  refine wp_seq ?_
  refine wi_ A (h6_ t1 t4 t7 t8 t9 t10) (rv_ 0 (.agg (hC pkv (mx p (scr m sc) k) (!live p (rk p (scr m sc) k)) (live p (rk p (scr m sc) k) && decide (mayL p (rk p (scr m sc) k)=[])) (rk p (scr m sc) k).lt (sl0 q.T p.n))) (fun a E=>execLdHw rfl (E _) F10c) (rs_ 1 (fun a E=>?_)))
  refine stepS rfl rfl (execStH rfl (E _) (E _) F4 (sl3 (own_shpZ FP)) ⟨_,_,_,rfl⟩) ⟨_,⟨_,rfl,rfl⟩,fun X31 hX=>?_⟩
  obtain ⟨BB,FM,FP,F10c,F4b⟩:Below V.heap.size V X31/\(RmM V.heap.size X31 q p cv tz (rk p (scr m sc) k) gv kv tv hv ow)/\(X31.ownsRow V.heap.size 3 1 pkv k (intsL k (fun i=>((pk p (scr m sc) i:Nat):Int))))/\(X31.heap[g10]?=some (.cells (hC pkv (mx p (scr m sc) k) (!live p (rk p (scr m sc) k)) (live p (rk p (scr m sc) k) && decide (mayL p (rk p (scr m sc) k)=[])) (rk p (scr m sc) k).lt (sl0 q.T p.n)) 29))/\(X31.heap[g4]?=some (.cells (hC pkv (mx p (scr m sc) k) (!live p (rk p (scr m sc) k)) (live p (rk p (scr m sc) k) && decide (mayL p (rk p (scr m sc) k)=[])) (rk p (scr m sc) k).lt (sl0 q.T p.n)) 29)):=by subst hX; exact ⟨below4 BB hg4 _,(FM.grow0 grR19 (fun b e=>by cases e; exact hoff.1)),(ownG_T FP F4 (by decide) grR19),(keepN19 F10c (Ne.symm hne) grR19),setRow_heap _ _ _ _ _ _ F4⟩
  clear F4 hX E a
  refine rf_ [(5,.int .i64 ((0:Nat):Int))] (h1_ t4) ?_
  rintro a A ⟨t5,-⟩ ⟨t4,-⟩
  have hBk:=rk_bnd hok hrun.go k (Nat.le_refl _)
  have hkk:=hrun.le
  refine wp_ret ?_
  repeat (first | with_reducible refine ret_in ?_ | with_reducible refine ret_then ?_)
  refine bodyPost_ret (Duc.res_c1 _ _ g4 29 _ (0,0) _ Try.results6 t4 F4b Try.underlying29 rfl (sizeHw _ _ _ _ _ _)) A.2 ⟨⟨fun w=>absurd hck w,fun _=>⟨pkv,_,tv,k,hrun,?_,own_ints FP (fun j hj=>by have:=(pk_is (hrun.go j hj)).1; have:=hok.n; exact ⟨by omega,by omega⟩),row_sv FM.hT,fun t ht=>(FM.tk t ht).slice (fun x hx=>by have h1:=hBk.tk t x hx; unfold wi at h1; exact ⟨by omega,by omega⟩)⟩⟩,BB⟩
  show Ending.returned (.tuple #[_,a.eval (.tmp 5)])=_
  rw [t5]
 ·go_enter Try.func6,Try.ntmps6
  refine wo_ 141 [(0,.agg #[cv,tz]),(1,sv)] ?_
  rintro a A ⟨t0,t1,-⟩
  have BB:Below V.heap.size V V:=Below.refl _ _
  refine wp_seq ?_
  obtain ⟨g2,egg2⟩:∃ z_:Nat,V.heap.size=z_:=⟨_,rfl⟩
  refine wi_ A (h2_ t0 t1) (rs_ 0 (fun a E=>?_))
  refine stepV rfl rfl (execBxP rfl (E _) (sl3 hp.c.shp) (sl3 hp.t.shp)) ⟨.pointer (some ⟨g2,0,none⟩),⟨_,rfl,by subst egg2; rfl⟩,fun X0_1 hX=>?_⟩
  have bQ:Below V.heap.size V X0_1:=by subst hX egg2; exact (belNew V _)
  have F2:(X0_1.heap[g2]?=some (.cells #[cv,tz] 25)):=by subst hX egg2; exact heapNew V _
  replace BB:=BB.trans (bQ.mono BB.size)
  clear bQ hX egg2 E a
  obtain ⟨g4,egg4⟩:∃ z_:Nat,X0_1.heap.size=z_:=⟨_,rfl⟩
  refine rs_ 1 (fun a E=>?_)
  refine stepV rfl rfl (execAlH rfl) ⟨.pointer (some ⟨g4,0,none⟩),⟨_,rfl,by subst egg4; rfl⟩,fun X0 hX=>?_⟩
  have bQ:Below X0_1.heap.size X0_1 X0:=by subst hX egg4; exact (belNew X0_1 _)
  have F4:(X0.heap[g4]?=some (.cells (hC (.slice none 0 0) 0 false false 0 (.slice none 0 0)) 29)):=by subst hX egg4; exact heapNew X0_1 _
  have hg4:(V.heap.size<=g4):=by subst hX egg4; exact (BB).size
  replace F2:=(on9 F2 bQ)
  replace BB:=BB.trans (bQ.mono BB.size)
  clear bQ hX egg4 E a
  refine rf_ [(2,.pointer (some ⟨g2,0,none⟩)),(4,.pointer (some ⟨g4,0,none⟩))] (h1_ t1) ?_
  rintro a A ⟨t2,t4,-⟩ ⟨t1,-⟩
  refine wp_seq ?_
  refine wi_ A (h3_ t1 t2 t4) (rv_ 0 (.agg #[cv,tz]) (fun a E=>execLdPx rfl (E _) F2) (rc_ 1 (rcheck19 p (.agg #[cv,tz]) X0 ⟨cv,tz,xz,rfl,(hp.on BB).c,(hp.on BB).t,(hp.on BB).o⟩) (cb_ fun X1 bQ=>?_)))
  replace F2:=(on9 F2 bQ)
  replace F4:=(on9 F4 bQ)
  replace BB:=BB.trans (bQ.mono BB.size)
  clear bQ
  refine rf_ [(6,.int .i64 ((chk p:Nat):Int))] (h3_ t1 t2 t4) ?_
  rintro a A ⟨t6,-⟩ ⟨t1,t2,t4,-⟩
  refine wp_seq (wp_seq ?_)
  refine wi_ A (h4_ t1 t2 t4 t6) (rv_ 1 (.bool true) (fun a E=>execDec (exIneq3 (p:=((chk p:Nat):Int)) (q:=0) rfl (E _) rfl) (decide_eq_true (by omega))) (rf_ [(21,.bool true)] (h4_ t1 t2 t4 t6) ?_))
  rintro a A ⟨t21,-⟩ ⟨t1,t2,t4,t6,-⟩
  refine wp_cond_true t21 ?_
  clear t21
  refine wp_seq ?_
  refine wi_ A (h4_ t1 t2 t4 t6) (rv_ 0 (.agg (hC (.slice none 0 0) 0 false false 0 (.slice none 0 0))) (fun a E=>execBdHx rfl) (rs_ 2 (fun a E=>?_)))
  refine stepS rfl rfl (execStH rfl (E _) (E _) F4 ⟨_,_,_,rfl⟩ ⟨_,_,_,rfl⟩) ⟨_,⟨_,rfl,rfl⟩,fun X3 hX=>?_⟩
  obtain ⟨BB,F2,F4b⟩:Below V.heap.size V X3/\(X3.heap[g2]?=some (.cells #[cv,tz] 25))/\(X3.heap[g4]?=some (.cells (hC (.slice none 0 0) 0 false false 0 (.slice none 0 0)) 29)):=by subst hX; exact ⟨below4 BB hg4 _,(keepT19 F2 F4 (by decide) grR19),setRow_heap _ _ _ _ _ _ F4⟩
  clear F4 hX E a
  refine rf_ [(5,.int .i64 ((chk p:Nat):Int))] (h1_ t4) ?_
  rintro a A ⟨t5,-⟩ ⟨t4,-⟩
  refine wp_ret ?_
  repeat (first | with_reducible refine ret_in ?_ | with_reducible refine ret_then ?_)
  refine bodyPost_ret (Duc.res_c1 _ _ g4 29 _ (0,0) _ Try.results6 t4 F4b Try.underlying29 rfl (sizeHw _ _ _ _ _ _)) A.2 ⟨⟨fun _=>?_,fun w=>absurd w hck⟩,BB⟩
  show Ending.returned (.tuple #[_,a.eval (.tmp 5)])=_
  rw [t5]
end Go.Proofs.Ytjjegmflllpknaa.Loo
