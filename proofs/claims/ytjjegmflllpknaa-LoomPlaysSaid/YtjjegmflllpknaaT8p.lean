import Derived.Test.YtjjegmflllpknaaT8o
namespace Go.Proofs.Ytjjegmflllpknaa.Loo
open Go.RowKit Gf8 Aes By8 Cel Cf Win Drw Prm
/- LoomPlays: the reference's got, from, put. Written by tools/mkT8p.py. -/
section
variable {o:Oper} {a:Act} {w:World}
theorem execStR {t:TypeId} {x y:Operand} {b k:Nat} {u old:Value} (ho:o.op=.store t x y) (ht:t=3\/t=4\/t=22) (hx:a.eval x=.pointer (some ⟨b,k,none⟩)) (hy:a.eval y=u) (hu:(∃ z,u=.int .i64 z)\/(∃ z,u=.bool z)\/∃ q n c,u=.slice q n c) (hc:w.cell? ⟨b,k,none⟩=some old) (hf:w.frozen? ⟨b,k,none⟩=false):(execOp a.eval o).run Try.prog w=.ok .skip (w.setCell ⟨b,k,none⟩ u):=by
 unfold execOp
 rcases hu with ⟨_,rfl⟩ | ⟨_,rfl⟩ | ⟨_,_,_,rfl⟩ <;> (rcases ht with rfl | rfl | rfl <;> (simp only [ho,hx,hy]; simp [go_sem,hc,hf]))
theorem sl1I (b off len cap:Nat) (h:1<=len) (W:World):(Instr.sliceAt 22 (.slice (some ⟨b,off,none⟩) len cap) (some (.int .i64 1)) none none).run Try.prog W=.ok (.slice (some ⟨b,if cap=1 then off else off+1,none⟩) (len - 1) (cap - 1)) W:=by
 obtain ⟨i,i1,i2⟩:∃ i,Try.prog.info? 3=some i/\i.size=1:=by obtain ⟨i,i1,_,i3,_⟩:=infoI; exact ⟨i,i1,i3⟩
 have e1:(1:Int)<=len:=by omega
 by_cases hk:cap=1
 ·simp [Instr.sliceAt,Instr.slice,run_underlying Try.underlying22,Instr.sliceBounds,run_sliceBound,e1,hk,sizeOf,typeInfo,i1,i2,Addr.add_mid]
 ·have hk2:¬ 1=cap:=fun e=>hk e.symm
  simp [Instr.sliceAt,Instr.slice,run_underlying Try.underlying22,Instr.sliceBounds,run_sliceBound,e1,hk,sizeOf,typeInfo,i1,i2,Addr.add_mid]
  all_goals omega
theorem execSl1I {x:Operand} {b off n c:Nat} (ho:o.op=.slice 22 x (some (.const (.int .i64 1))) none none) (hx:a.eval x=.slice (some ⟨b,off,none⟩) (n+1) c):(execOp a.eval o).run Try.prog w=.ok (.value (.slice (some ⟨b,if c=1 then off else off+1,none⟩) n (c - 1))) w:=by
 have h:=sl1I b off (n+1) c (by omega) w
 rw [Nat.add_sub_cancel] at h
 have ec:a.eval (.const (.int .i64 1))=.int .i64 1:=rfl
 unfold execOp
 simp only [ho,hx,Option.map_none,Option.map_some,ec,Sem.run_bind,h,Result.andThen_ok,Sem.run_pure]
end
theorem sv_cell9 {ow:Nat->Nat} {V X:World} {b k:Nat} {u:Value} (h:Saved (fun b=>ow b ≠ 0) V X) (hb:ow b ≠ 0\/V.heap.size<=b):Saved (fun b=>ow b ≠ 0) V (X.setCell ⟨b,k,none⟩ u):=
 ⟨h.os,h.tape,h.output,Nat.le_trans h.size (grC19 (g:=b)).size,fun c hc hn=>by
  rw [(grC19 (g:=b)).block c (Nat.lt_of_lt_of_le hc h.size) (fun e=>by cases e; exact hb.elim hn (fun w=>by omega)),h.block c hc hn]⟩
theorem sv_gr9 {ow:Nat->Nat} {V X Y:World} {row:Option Nat} (h:Saved (fun b=>ow b ≠ 0) V X) (gr:X.grownBy Y row) (hb:∀ b,row=some b->ow b ≠ 0\/V.heap.size<=b):Saved (fun b=>ow b ≠ 0) V Y:=
 ⟨gr.os.trans h.os,gr.tape.trans h.tape,gr.output.trans h.output,Nat.le_trans h.size gr.size,fun c hc hn=>by
  rw [gr.block c (Nat.lt_of_lt_of_le hc h.size) (fun e=>(hb c e.symm).elim hn (fun w=>by omega)),h.block c hc hn]⟩
section
variable {B:Nat} {W X:World} {q:RK} {p:Pl} {cv tz:Value} {r:Rm} {gv kv:Nat->Int} {tv hv:Nat->Value} {ow:Nat->Nat}
theorem ge_lab (h:RmM B W q p cv tz r gv kv tv hv ow) {b:Nat} (hb:ow b ≠ 0):B<=b:=Nat.le_of_not_lt fun w=>hb (h.low b w)
theorem RmM.gT (h:RmM B W q p cv tz r gv kv tv hv ow) {i:Nat} (hi:i < p.n) (gr:W.grownBy X (tv i).ownBlock):X.heap[q.g]?=some (.cells (gR q p.n p.d cv tz r.lt) 57)/\X.heap[q.T]?=some (.cells (Duc.rA p.n tv) 22)/\X.heap[q.P]?=some (.cells (Duc.rA p.n (fun t=>.int .i64 ((r.pl t:Nat):Int))) 3):=
 ⟨(gr.block _ (Array.getElem?_eq_some_iff.1 h.hg).1 (fun e=>ne_lab (h.ltk i hi _ e.symm) h.lg (by omega) rfl)).trans h.hg,(gr.block _ (Array.getElem?_eq_some_iff.1 h.hT).1 (fun e=>ne_lab (h.ltk i hi _ e.symm) h.lT (by omega) rfl)).trans h.hT,(gr.block _ (Array.getElem?_eq_some_iff.1 h.hP).1 (fun e=>ne_lab (h.ltk i hi _ e.symm) h.lP (by omega) rfl)).trans h.hP⟩
theorem RmM.gH (h:RmM B W q p cv tz r gv kv tv hv ow) {i:Nat} (hi:i < p.d) (gr:W.grownBy X (hv i).ownBlock):X.heap[q.g]?=some (.cells (gR q p.n p.d cv tz r.lt) 57)/\X.heap[q.H]?=some (.cells (Duc.rA p.d hv) 22):=
 ⟨(gr.block _ (Array.getElem?_eq_some_iff.1 h.hg).1 (fun e=>ne_lab (h.lhd i hi _ e.symm) h.lg (by omega) rfl)).trans h.hg,(gr.block _ (Array.getElem?_eq_some_iff.1 h.hH).1 (fun e=>ne_lab (h.lhd i hi _ e.symm) h.lH (by omega) rfl)).trans h.hH⟩
theorem gR_5 {g n d lt:Nat} {t:TypeId} (h:W.heap[g]?=some (.cells (gR q n d cv tz lt) t)):W.cell? ⟨g,5,none⟩=some (sl0 q.T n)/\W.cell? ⟨g,6,none⟩=some (sl0 q.H d):=⟨by rw [cell_of_row _ _ _ _ _ _ h]; rfl,by rw [cell_of_row _ _ _ _ _ _ h]; rfl⟩
end
theorem RTo.step {B:Nat} {V X W:World} {q:RK} {p:Pl} {cv tz:Value} {r:Rm} {gv kv:Nat->Int} {ow ow1:Nat->Nat} (h:RTo B X W q p cv tz r gv kv ow1) (hs:Saved (fun b=>ow b ≠ 0) V X) (hl:∀ b,b < V.heap.size->ow1 b=ow b) (hz:∀ b,ow1 b ≠ 0->ow b ≠ 0\/V.heap.size<=b):RTo B V W q p cv tz r gv kv ow:=by
 obtain ⟨⟨tv,hv,ow2,h1,h2⟩,h3⟩:=h
 refine ⟨⟨tv,hv,ow2,h1,fun b hb=>(h2 b (Nat.lt_of_lt_of_le hb hs.size)).trans (hl b hb)⟩,⟨h3.os.trans hs.os,h3.tape.trans hs.tape,h3.output.trans hs.output,Nat.le_trans hs.size h3.size,fun b hb hn=>?_⟩⟩
 rw [h3.block b (Nat.lt_of_lt_of_le hb hs.size) (fun w=>(hz b w).elim hn (fun z=>by omega)),hs.block b hb hn]
theorem zof {V:World} {ow ow1:Nat->Nat} (hl:∀ b,b < V.heap.size->ow1 b=ow b):∀ b,ow1 b ≠ 0->ow b ≠ 0\/V.heap.size<=b:=fun b hb=>by
 by_cases w:b < V.heap.size
 ·exact Or.inl (by rw [← hl b w]; exact hb)
 ·exact Or.inr (by omega)
theorem RTo.on {B:Nat} {V X W:World} {q:RK} {p:Pl} {cv tz:Value} {r:Rm} {gv kv:Nat->Int} {ow:Nat->Nat} (h:RTo B V W q p cv tz r gv kv ow) (b:Below W.heap.size W X):RTo B V X q p cv tz r gv kv ow:=by
 obtain ⟨⟨tv,hv,ow2,h1,h2⟩,h3⟩:=h
 exact ⟨⟨tv,hv,ow2,h1.on b,h2⟩,h3.below b h3.size⟩
theorem gr_refl (W:World) (row:Option Nat):W.grownBy W row:=⟨rfl,rfl,rfl,Nat.le_refl _,fun _ _ _=>rfl⟩
set_option maxRecDepth 100000 in
theorem stepHd {ops:Array Oper} {Q:Exit->Act->World->Prop} {K:Act->World->Prop} {k:Nat} {o:Oper} {a:Act} {W:World} {s x:Operand} {B g:Nat} {v:Value} {l:List Int} {z:Int} (hos:ops[k]?=some o) (hgd:Region.wanted o (yielded ops a.tmps)=true)
  (ho:o.op=.call { callee:=.builtin .append,args:=#[s,x],argTypes:=#[22,22] }) (hs:a.eval s=v) (hx:a.eval x=.slice (some ⟨g,0,none⟩) 1 1)
  (hown:Hd B W v l) (hg:W.heap[g]?=some (.cells #[.int .i64 z] 3)) (hn:l.length<=65536) (hB:B<=W.heap.size)
  (hK:∀ v' W',Hd B W' v' (l ++ [z])->W.grownBy W' v.ownBlock->(v'.ownBlock=v.ownBlock\/v'.ownBlock=some W.heap.size)->K (a.put o.dst v') W'):wpOp Try.prog ops Q k K a W:=by
 obtain ⟨v',W',run,q1,q2,q3⟩:=run_appHd o.type hown hg hn hB
 refine stepV hos hgd ?_ (hK v' W' q1 q2 q3)
 unfold execOp
 simp only [ho,resolve,invoke,builtin,Sem.run_bind,Sem.run_pure,Result.andThen_ok,List.map_toArray,List.map_cons,List.map_nil,hs,hx,run]
theorem grown_bel {X Y:World} {row:Option Nat} {B:Nat} {U:World} (h:Below B U X) (gr:X.grownBy Y row) (hB:B<=X.heap.size) (hb:∀ b,row=some b->B<=b):Below B U Y:=h.grown gr hB hb
set_option maxRecDepth 100000 in
set_option maxHeartbeats 4000000 in
theorem rgot (U:World) (q:RK) (p:Pl) (cv tz:Value) (xz:Nat->Value) (r:Rm) (gv kv:Nat->Int) (tv hv:Nat->Value) (ow:Nat->Nat) (V:World) (_hp:PlV U cv tz xz p) (hU:Below U.heap.size U V) (h:RmM U.heap.size V q p cv tz r gv kv tv hv ow) (t:Nat) (x:Int) (ht:t < p.n) (hl:(r.tk t).length<=65536) (hpl:r.pl t<=65536) :
  Calls Try.prog 54 #[.pointer (some ⟨q.g,0,none⟩),.int .i64 ((t:Nat):Int),.int .i64 x] V fun e w'=>e=.returned (.tuple #[])/\RTo U.heap.size V w' q p cv tz (got r t x) gv kv ow/\Below U.heap.size U w':=by
 go_enter Try.func54,Try.ntmps54
 refine wo_ 40 [(0,.pointer (some ⟨q.g,0,none⟩)),(1,.int .i64 ((t:Nat):Int)),(2,.int .i64 x)] ?_
 rintro a A ⟨t0,t1,t2,-⟩
 have BB:=hU
 have FM:=h
 have FXs:Saved (fun b=>ow b ≠ 0) V V:=Saved.refl _ V
 have FL:∀ b,b < V.heap.size->ow b=ow b:=fun b _=>rfl
 refine wp_seq ?_
 refine wi_ A (h3_ t0 t1 t2) (rv_ 1 (.pointer (some ⟨q.g,0,none⟩)) (fun a E=>execNlm rfl (E _)) (rv_ 2 (.pointer (some ⟨q.g,3,none⟩)) (fun a E=>execRo2 rfl (E _)) (rv_ 3 (sl0 q.R p.n) (fun a E=>execLr rfl (Or.inr (Or.inr (Or.inl rfl))) (E _) (gR_at FM).2.2.2.1) (rv_ 6 (.pointer (some ⟨q.R,0+t,none⟩)) (fun a E=>execIdxN (k:=t) rfl (E _) (E _) ht) (rs_ 7 (fun a E=>?_))))))
 refine stepS rfl rfl (execStR rfl (Or.inl rfl) (E _) (E _) (Or.inl ⟨_,rfl⟩) (rA_c FM.hR ht) (frozen4 FM.hR)) ⟨_,⟨_,rfl,rfl⟩,fun X0 hX=>?_⟩
 obtain ⟨BB,FXs,FM2⟩:Below U.heap.size U X0/\(Saved (fun b=>ow b ≠ 0) V X0)/\(RmM U.heap.size X0 q p cv tz ({ r with rg:=upf r.rg t x }) gv kv tv hv ow):=by subst hX; exact ⟨(BB).setCell (ge_lab h (by rw [h.lR]; decide)) _,(sv_cell9 FXs (Or.inl (by rw [h.lR]; decide))),FM.setR ht⟩
 clear FM hX E a
 refine rf_ [] (h3_ t0 t1 t2) ?_
 rintro a A - ⟨t0,t1,t2,-⟩
 have FM:=FM2
 clear FM2
 refine wp_seq ?_
 obtain ⟨gs,eggs⟩:∃ z_:Nat,X0.heap.size=z_:=⟨_,rfl⟩
 refine wi_ A (h3_ t0 t1 t2) (rv_ 1 (.pointer (some ⟨q.g,0,none⟩)) (fun a E=>execNlm rfl (E _)) (rv_ 2 (.pointer (some ⟨q.g,5,none⟩)) (fun a E=>execRo4 rfl (E _)) (rv_ 3 (sl0 q.T p.n) (fun a E=>execLr rfl (Or.inr (Or.inr (Or.inr (Or.inr (Or.inl rfl))))) (E _) (gR_at FM).2.2.2.2.2.1) (rv_ 5 (.pointer (some ⟨q.T,0+t,none⟩)) (fun a E=>execIxLL (k:=t) rfl (E _) (E _) ht) (rv_ 6 (tv t) (fun a E=>execLr rfl (Or.inr (Or.inr (Or.inl rfl))) (E _) (rA_c FM.hT ht)) (rs_ 8 (fun a E=>?_)))))))
 refine stepV rfl rfl (execBs1 rfl (E _)) ⟨.slice (some ⟨gs,0,none⟩) 1 1,⟨_,rfl,by subst eggs; rfl⟩,fun X1_1 hX=>?_⟩
 have bQ:Below X0.heap.size X0 X1_1:=by subst hX eggs; exact (belNew X0 _)
 have Fs:(X1_1.heap[gs]?=some (.cells #[.int .i64 x] 3)):=by subst hX eggs; exact heapNew X0 _
 replace FXs:=(FXs.below bQ FXs.size)
 replace FM:=(FM.on bQ)
 replace BB:=BB.trans (bQ.mono BB.size)
 clear bQ hX eggs E a
 refine rs_ 9 (fun a E=>?_)
 refine stepHd rfl rfl rfl (E _) (E _) (FM.tk t ht) Fs hl (BB).size fun v2 X1 hd' gr pl'=>⟨_,⟨_,rfl,rfl⟩,eqw ?_⟩
 obtain ⟨BB,FXs,FMp,FGr,FHd,Fpl,Fsz⟩:Below U.heap.size U X1/\(Saved (fun b=>ow b ≠ 0) V X1)/\(RmM U.heap.size X1_1 q p cv tz ({ r with rg:=upf r.rg t x }) gv kv tv hv ow)/\(X1_1.grownBy X1 (tv t).ownBlock)/\(Hd U.heap.size X1 v2 (({ r with rg:=upf r.rg t x }).tk t ++ [x]))/\(v2.ownBlock=(tv t).ownBlock\/v2.ownBlock=some X1_1.heap.size)/\(V.heap.size<=X1_1.heap.size):=⟨(BB).grown gr (BB).size (fun k_ hk=>((FM.tk t ht).lt k_ hk).1),(sv_gr9 FXs gr (fun b e=>(zof FL b (by rw [FM.ltk t ht b e]; omega)))),FM,gr,hd',pl',FXs.size⟩
 clear FM Fs E a
 refine rf_ [(6,v2)] (h3_ t0 t1 t2) ?_
 rintro a A ⟨t6,-⟩ ⟨t0,t1,t2,-⟩
 obtain ⟨hgX,hrX,hPX⟩:=FMp.gT ht FGr
 have hszV:=Fsz
 refine wp_seq ?_
 refine wi_ A (h4_ t0 t1 t2 t6) (rv_ 1 (.pointer (some ⟨q.g,0,none⟩)) (fun a E=>execNlm rfl (E _)) (rv_ 2 (.pointer (some ⟨q.g,5,none⟩)) (fun a E=>execRo4 rfl (E _)) (rv_ 3 (sl0 q.T p.n) (fun a E=>execLr rfl (Or.inr (Or.inr (Or.inr (Or.inr (Or.inl rfl))))) (E _) (gR_5 hgX).1) (rv_ 6 (.pointer (some ⟨q.T,0+t,none⟩)) (fun a E=>execIxLL (k:=t) rfl (E _) (E _) ht) (rs_ 7 (fun a E=>?_))))))
 obtain ⟨ow2,hM2_,hl2_⟩:=FMp.appT ht FGr FHd Fpl
 refine stepS rfl rfl (execStR rfl (Or.inr (Or.inr rfl)) (E _) (E _) (Or.inr (Or.inr (sl3 FHd.shp))) (rA_c hrX ht) (frozen4 hrX)) ⟨_,⟨_,rfl,rfl⟩,fun X2 hX=>?_⟩
 obtain ⟨BB,FXs,FM2,FL2⟩:Below U.heap.size U X2/\(Saved (fun b=>ow b ≠ 0) V X2)/\(RmM U.heap.size X2 q p cv tz ({ ({ r with rg:=upf r.rg t x }) with tk:=upf ({ r with rg:=upf r.rg t x }).tk t (({ r with rg:=upf r.rg t x }).tk t ++ [x]) }) gv kv (upf tv t v2) hv ow2)/\(∀ b,b < V.heap.size->ow2 b=ow b):=by subst hX; exact ⟨(BB).setCell (ge_lab h (by rw [h.lT]; decide)) _,(sv_cell9 FXs (Or.inl (by rw [h.lT]; decide))),hM2_,fun b hb=>(hl2_ b (Nat.lt_of_lt_of_le hb hszV)).trans (FL b hb)⟩
 clear FGr FHd hX E a
 refine rf_ [] (h3_ t0 t1 t2) ?_
 rintro a A - ⟨t0,t1,t2,-⟩
 have FM:=FM2
 clear FM2
 replace FL:=FL2
 clear FL2 hgX hrX
 refine wi_ A (h3_ t0 t1 t2) (rv_ 1 (.pointer (some ⟨q.g,0,none⟩)) (fun a E=>execNlm rfl (E _)) (rv_ 2 (.pointer (some ⟨q.g,2,none⟩)) (fun a E=>execRo1 rfl (E _)) (rv_ 3 (sl0 q.P p.n) (fun a E=>execLr rfl (Or.inr (Or.inr (Or.inl rfl))) (E _) (gR_at FM).2.2.1) (rv_ 5 (.pointer (some ⟨q.P,0+t,none⟩)) (fun a E=>execIdxN (k:=t) rfl (E _) (E _) ht) (rv_ 6 (.int .i64 ((r.pl t:Nat):Int)) (fun a E=>execLr rfl (Or.inl rfl) (E _) ((rA_c FM.hP ht).trans rfl)) (rv_ 7 (.int .i64 ((r.pl t+1:Nat):Int)) (fun a E=>execAd8 (p:=r.pl t) (q:=1) rfl (E _) rfl (by omega)) (rv_ 8 (.pointer (some ⟨q.P,0+t,none⟩)) (fun a E=>execIdxN (k:=t) rfl (E _) (E _) ht) (rs_ 9 (fun a E=>?_)))))))))
 refine stepS rfl rfl (execStR rfl (Or.inl rfl) (E _) (E _) (Or.inl ⟨_,rfl⟩) (rA_c FM.hP ht) (frozen4 FM.hP)) ⟨_,⟨_,rfl,rfl⟩,fun X3 hX=>?_⟩
 obtain ⟨BB,FXs,FM2⟩:Below U.heap.size U X3/\(Saved (fun b=>ow b ≠ 0) V X3)/\(RmM U.heap.size X3 q p cv tz (got r t x) gv kv (upf tv t v2) hv ow2):=by subst hX; exact ⟨(BB).setCell (ge_lab h (by rw [h.lP]; decide)) _,(sv_cell9 FXs (Or.inl (by rw [h.lP]; decide))),FM.setP ht⟩
 clear FM hX E a
 refine rf_ [] (h3_ t0 t1 t2) ?_
 rintro a A - ⟨t0,t1,t2,-⟩
 have FM:=FM2
 clear FM2
 exact bodyPost_end (results_none rfl _ _ _) A.2 ⟨rfl,⟨⟨_,_,_,FM,FL⟩,FXs⟩,BB⟩
end Go.Proofs.Ytjjegmflllpknaa.Loo
