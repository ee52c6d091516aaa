import Derived.Test.YtjjegmflllpknaaN8g
import Derived.Lib.SliceRun
namespace Go.Proofs.Ytjjegmflllpknaa.Loo
open Go.RowKit Gf8 Aes By8 Cel Cf Win Drw Prm
/- The landed loom's findMeetings, pick. Written by tools/mkN8h.py. -/
section
variable {W X:World} {P:Nat->Prop} {T:TypeId} {S:Value} {n:Nat} {f g:Nat->Value}
theorem RowP.fill {z:Value} {b cap:Nat} (e:S=.slice (some ⟨b,0,none⟩) n cap):∀ (m o:Nat) (W:World) (f:Nat->Value),RowP W P T S n f->o+m<=n->(0 < m->P b)->RowP (W.setCells b o (List.replicate m z)) P T S n (fun j=>if o<=j/\j < o+m then z else f j)/\Saved P W (W.setCells b o (List.replicate m z))
 | 0,o,W,f,h,_,_=>⟨h.frame (fun _ _=>rfl) (fun _ q=>q) (fun j _=>by rw [if_neg (by omega)]),Saved.refl _ _⟩
 | m+1,o,W,f,h,hm,hP=>by
  have h1:=h.set (u:=z) e (show o < n by omega)
  have h2:=RowP.fill (z:=z) e m (o+1) (W.setCell ⟨b,o,none⟩ z) _ h1.1 (by omega) (fun _=>h1.2)
  rw [List.replicate_succ,World.setCells]
  refine ⟨h2.1.frame (fun _ _=>rfl) (fun _ q=>q) (fun j _=>?_),?_⟩
  ·show (if o+1<=j/\j < o+1+m then z else upf f o z j)=if o<=j/\j < o+(m+1) then z else f j
   by_cases q:j=o
   ·rw [q,if_neg (by omega),upf_at,if_pos (by omega)]
   ·rw [upf_ne _ _ q]
    by_cases w:o+1<=j/\j < o+1+m
    ·rw [if_pos w,if_pos (by omega)]
    ·rw [if_neg w,if_neg (by omega)]
  ·have h3:=(Saved.refl P W).cell (o:=o) z (Or.inr h1.2)
   refine ⟨h2.2.os.trans h3.os,h2.2.tape.trans h3.tape,h2.2.output.trans h3.output,Nat.le_trans h3.size h2.2.size,fun k hk hn=>?_⟩
   rw [h2.2.block k (Nat.lt_of_lt_of_le hk h3.size) hn,h3.block k hk hn]
theorem zeroP (w:World):(zeroValue 71).run Try.prog w=.ok (.pointer none) w:=by simp [go_sem]
theorem execClr {o:Oper} {a:Act} {x:Operand} (h:RowP W P 71 S n f) (ho:o.op=.call { callee:=.builtin .clear,args:=#[x],argTypes:=#[68] }) (hx:a.eval x=S):∃ W',(execOp a.eval o).run Try.prog W=.ok (.value (.tuple #[])) W'/\RowP W' P 71 S n (fun _=>.pointer none)/\Saved P W W':=by
 have base:∀ {W':World},(Builtin.clear_ #[68] o.type #[S]).run Try.prog W=.ok (.tuple #[]) W'->(execOp a.eval o).run Try.prog W=.ok (.value (.tuple #[])) W':=fun hr=>by
  unfold execOp
  simp only [ho,resolve,invoke,builtin,Sem.run_bind,Sem.run_pure,Result.andThen_ok,List.map_toArray,List.map_cons,List.map_nil,hx,hr]
 rcases h with ⟨rfl,rfl⟩ | ⟨b,cap,cur,h1,h2,h3,h4,h5⟩
 ·exact ⟨W,base (by simp [Builtin.clear_,run_underlying Try.underlying68]),Or.inl ⟨rfl,rfl⟩,Saved.refl _ _⟩
 ·by_cases q:n=0
  ·subst q
   subst h1
   exact ⟨W,base (by simp [Builtin.clear_,run_underlying Try.underlying68]),Or.inr ⟨b,cap,cur,rfl,h2,h3,h4,fun i hi=>by omega⟩,Saved.refl _ _⟩
  ·have hr:=Go.Lib.run_clear_slice (P:=Try.prog) W 68 71 o.type (.pointer none) Try.underlying68 zeroP rfl rfl b 0 n cap (by omega) (fun j hj=>by
    rw [cell_of_row _ _ _ _ _ _ h3,Nat.zero_add,h5 j hj]
    rfl) (fun j _=>frozen4 h3)
   have hf:=RowP.fill (P:=P) (T:=71) (z:=.pointer none) h1 n 0 W f (Or.inr ⟨b,cap,cur,h1,h2,h3,h4,h5⟩) (by omega) (fun _=>h2)
   rw [← h1] at hr
   exact ⟨_,base hr,hf.1.frame (fun _ _=>rfl) (fun _ q=>q) (fun j hj=>by rw [if_pos (by omega)]),hf.2⟩
theorem stepClr9 {ops:Array Oper} {Q:Exit->Act->World->Prop} {K:Act->World->Prop} {j:Nat} {o:Oper} {a:Act} {x:Operand} (hos:ops[j]?=some o) (hgd:Region.wanted o (yielded ops a.tmps)=true) (ho:o.op=.call { callee:=.builtin .clear,args:=#[x],argTypes:=#[68] }) (hx:a.eval x=S) (h:RowP W P 71 S n f) (hK:∀ W',RowP W' P 71 S n (fun _=>.pointer none)->Saved P W W'->K (a.put o.dst (.tuple #[])) W'):wpOp Try.prog ops Q j K a W:=by
 obtain ⟨W',hr,r1,r2⟩:=execClr h ho hx
 exact stepV hos hgd hr (hK W' r1 r2)
end
section
variable (p:Pl) (M:Mm)
def gM (t i:Nat):Bool:=decide (M.pl t < p.ln t/\(p.op t (M.pl t)).k=1/\(p.op t (M.pl t)).a=(i:Int))
def tM (t i:Nat):Bool:=decide (M.pl t < p.ln t/\(((p.op t (M.pl t)).k=2\/(p.op t (M.pl t)).k=8)/\(p.op t (M.pl t)).a=(i:Int)\/(p.op t (M.pl t)).k=8/\(p.op t (M.pl t)).b=(i:Int)))
def fF (q:Nat->Nat->Bool) (c i:Nat):Option Nat:=(List.range p.n).find? fun t=>decide (c<=t) && q t i
end
section
variable {p:Pl} {M:Mm} {q:Nat->Nat->Bool} {u i j:Nat}
theorem fF_end:fF p q p.n=fun _=>none:=by
 funext i
 unfold fF
 rw [List.find?_eq_none]
 intro t ht
 have:=List.mem_range.1 ht
 simp
 omega
theorem fF_yes (hu:u < p.n) (h:q u i=true):fF p q u i=some u:=by
 unfold fF
 rw [List.find?_eq_some_iff_append]
 refine ⟨by simp [h],List.range u,(List.range (p.n - u - 1)).map (u+1+·),?_,fun t ht=>?_⟩
 ·apply List.ext_getElem?
  intro k
  by_cases h1:k < u
  ·rw [List.getElem?_append_left (by simpa using h1),List.getElem?_range (by omega),List.getElem?_range h1]
  ·rw [List.getElem?_append_right (by simp; omega),List.length_range]
   by_cases h2:k=u
   ·rw [h2,Nat.sub_self,List.getElem?_range hu]
    rfl
   ·rw [show k - u=(k - u - 1)+1 by omega,List.getElem?_cons_succ]
    by_cases h3:k < p.n
    ·rw [List.getElem?_range h3,List.getElem?_map,List.getElem?_range (by omega)]
     show some k=some (u+1+(k - u - 1))
     congr 1
     omega
    ·rw [List.getElem?_eq_none (by simp; omega),List.getElem?_eq_none (by simp; omega)]
 ·have:=List.mem_range.1 ht
  simp
  omega
theorem fF_no (h:q u i=false):fF p q u i=fF p q (u+1) i:=by
 unfold fF
 congr 1
 funext t
 by_cases e:t=u
 ·rw [e,h]; simp
 ·by_cases w:u<=t
  ·rw [decide_eq_true w,decide_eq_true (by omega)]
  ·rw [decide_eq_false w,decide_eq_false (by omega)]
theorem fF_upf (hu:u < p.n) (h:∀ k,q u k=decide (k=i)):fF p q u=upf (fF p q (u+1)) i (some u):=by
 funext k
 by_cases e:k=i
 ·rw [e,upf_at]
  exact fF_yes hu (by rw [h]; simp)
 ·rw [upf_ne _ _ e]
  exact fF_no (by rw [h]; simp [e])
theorem fF_upf2 (hu:u < p.n) (h:∀ k,q u k=decide (k=i\/k=j)):fF p q u=upf (upf (fF p q (u+1)) j (some u)) i (some u):=by
 funext k
 by_cases e:k=i
 ·rw [e,upf_at]
  exact fF_yes hu (by rw [h]; simp)
 ·rw [upf_ne _ _ e]
  by_cases e2:k=j
  ·rw [e2,upf_at]
   exact fF_yes hu (by rw [h]; simp)
  ·rw [upf_ne _ _ e2]
   exact fF_no (by rw [h]; simp [e,e2])
theorem fF_same (h:∀ k,q u k=false):fF p q u=fF p q (u+1):=funext fun k=>fF_no (h k)
end
section
variable {p:Pl} {G:Ad} {U W X V:World} {ow ow' ow0:Nat->Nat} {M N:Mm} {t i:Nat}
theorem St.clrG (h:St p G U ow0 V ow M W) (r:RowP X (fun b=>ow b=4) 71 G.gS p.d (fun _=>.pointer none)) (sv:Saved (fun b=>ow b=4) W X):St p G U ow0 V ow { M with gv:=fun _=>none } X:=
 h.upd (c0:=4) sv (by omega) (fun _ _=>rfl) (new_same h.rn _ _) (MEq.g_ rfl rfl rfl rfl rfl rfl rfl rfl) (Pc.g_of r) { h.rn.fit with }
theorem St.clrT (h:St p G U ow0 V ow M W) (r:RowP X (fun b=>ow b=5) 71 G.tS p.d (fun _=>.pointer none)) (sv:Saved (fun b=>ow b=5) W X):St p G U ow0 V ow { M with tv:=fun _=>none } X:=
 h.upd (c0:=5) sv (by omega) (fun _ _=>rfl) (new_same h.rn _ _) (MEq.t_ rfl rfl rfl rfl rfl rfl rfl rfl) (Pc.t_of r) { h.rn.fit with }
theorem lyS_le (h:∀ k,k < p.d->(M.hd k).length<=1024):∀ k,k<=p.d->lyS M k<=1024 * k
 | 0,_=>Nat.le_refl _
 | k+1,hk=>by
  have h1:=lyS_le h k (by omega)
  have h2:=h k (by omega)
  show lyS M k+(M.hd k).length<=_
  omega
theorem RN.lyl (h:RN p G U ow M W):lyS M p.d<=65536:=by
 have h1:=lyS_le (p:=p) (M:=M) (fun k hk=>Nat.le_trans (h.hdl hk).1 (h.hdl hk).2) p.d (Nat.le_refl _)
 have h2:=h.ok.d
 omega
end
def meetF (p:Pl) (M:Mm) (c:Nat):Mm:={ M with gv:=fF p (gM p M) c,tv:=fF p (tM p M) c }
theorem lyS_meet (p:Pl) (M:Mm) (c:Nat):∀ k,lyS (meetF p M c) k=lyS M k
 | 0=>rfl
 | k+1=>by
  show lyS (meetF p M c) k+(M.hd k).length=lyS M k+(M.hd k).length
  rw [lyS_meet p M c k]
set_option maxRecDepth 100000 in
set_option maxHeartbeats 4000000 in
theorem pfind {p:Pl} {G:Ad} {U V:World} {ow:Nat->Nat} {M:Mm} (hR:RN p G U ow M V) :
  Calls Try.prog 41 #[.pointer (some ⟨G.rb,0,none⟩)] V fun e w'=>e=.returned (.tuple #[])/\To p G U ow V (meetF p M 0) w':=by
 have hn128:=hR.ok.n
 go_enter Try.func41,Try.ntmps41
 refine wo_ 74 [(0,.pointer (some ⟨G.rb,0,none⟩))] ?_
 rintro a A ⟨t0,-⟩
 have BW:Below V.heap.size V V:=Below.refl _ _
 have BB:Below V.heap.size V V:=Below.refl _ _
 have S0:=hR.st
 refine wp_seq ?_
 refine wi_ A (h1_ t0) (rv_ 1 (.pointer (some ⟨G.rb,0,none⟩)) (fun a E=>Duc.execNl rfl (E _)) (rv_ 2 (.pointer (some ⟨G.rb,2,none⟩)) (fun a E=>execRf2 rfl (E _)) (rv_ 3 (G.gS) (fun a E=>execLdP rfl (Or.inr (Or.inl rfl)) (E _) S0.rn.rc.2.2.1) (rs_ 4 (fun a E=>?_)))))
 refine stepClr9 rfl rfl rfl (E _) S0.rn.gR fun X1 r1 r2=>⟨_,⟨_,rfl,rfl⟩,eqw ?_⟩
 have S1:=S0.clrG r1 r2
 refine rf_ [] (h1_ t0) ?_
 rintro a A - ⟨t0,-⟩
 refine wp_seq ?_
 refine wi_ A (h1_ t0) (rv_ 1 (.pointer (some ⟨G.rb,0,none⟩)) (fun a E=>Duc.execNl rfl (E _)) (rv_ 2 (.pointer (some ⟨G.rb,3,none⟩)) (fun a E=>execRf3 rfl (E _)) (rv_ 3 (G.tS) (fun a E=>execLdP rfl (Or.inr (Or.inl rfl)) (E _) S1.rn.rc.2.2.2.1) (rs_ 4 (fun a E=>?_)))))
 refine stepClr9 rfl rfl rfl (E _) S1.rn.tR fun X2 r1 r2=>⟨_,⟨_,rfl,rfl⟩,eqw ?_⟩
 have S2:=S1.clrT r1 r2
 refine rf_ [] (h1_ t0) ?_
 rintro a A - ⟨t0,-⟩
 replace S2:St p G U ow V ow (meetF p M p.n) X2:=by unfold meetF; rw [fF_end,fF_end]; exact S2
 clear BB
 have BB:Below X2.heap.size X2 X2:=Below.refl _ _
 refine wp_seq ?_
 refine wi_ A (h1_ t0) (rv_ 1 (.pointer (some ⟨G.rb,0,none⟩)) (fun a E=>Duc.execNl rfl (E _)) (rv_ 2 (.pointer (some ⟨G.rb,1,none⟩)) (fun a E=>execRf1 rfl (E _)) (rv_ 3 (G.hS) (fun a E=>execLdP rfl (Or.inr (Or.inl rfl)) (E _) (S2.rn.on BB).rc.2.1) (rv_ 4 (.int .i64 ((p.n:Nat):Int)) (fun a E=>execLnH (len:=p.n) rfl (E _) hR.hR.shp) (rv_ 5 (.int .i64 (((p.n:Nat):Int) - 1)) (fun a E=>exSubZ (p:=((p.n:Nat):Int)) (q:=1) rfl (E _) rfl ⟨by omega,by omega⟩) (rf_ [(2,.int .i64 (((p.n:Nat):Int) - 1))] (h1_ t0) ?_))))))
 rintro a A ⟨t2,-⟩ ⟨t0,-⟩
 refine wp_block ?_
 refine wp_loop (fun a W=>∃ (c:Nat) (ow1:Nat->Nat),c<=p.n/\(a.tmps.size=74/\a.defers=[])/\a.eval (.tmp 0)=.pointer (some ⟨G.rb,0,none⟩)/\a.eval (.tmp 2)=.int .i64 (((c:Nat):Int) - 1)/\St p G U ow V ow1 (meetF p M c) W) (fun a _=>(intOf (a.eval (.tmp 2))+1).toNat) ⟨p.n,ow,Nat.le_refl _,A,t0,t2,S2.on BB⟩ ?_
 rintro a XL ⟨c,ow1,hc,A,t0,t2,S2⟩
 have es:=t2
 have BB:Below XL.heap.size XL XL:=Below.refl _ _
 cases c with
 | zero=>
  refine wp_seq (wp_seq ?_)
  refine wi_ A (h2_ t0 t2) (rv_ 1 (.bool false) (fun a E=>execDec (exIgeq3 (p:=(((0:Nat):Int) - 1)) (q:=0) rfl (E _) rfl) (decide_eq_false (by omega))) (rf_ [(20,.bool false)] (h1_ t0) ?_))
  rintro a A ⟨t20,-⟩ ⟨t0,-⟩
  refine wp_cond_false t20 ?_
  refine wp_exit ?_
  first | with_reducible refine exit_in ?_ | with_reducible refine exit_then (exit_in ?_) | with_reducible refine exit_then (exit_then (exit_in ?_)) | refine exit_in ?_ | refine exit_then (exit_in ?_) | refine exit_then (exit_then (exit_in ?_))
  exact bodyPost_end (results_none rfl _ _ _) A.2 ⟨rfl,ow1,S2.on BB⟩
 | succ u=>
  have hu:u < p.n:=by omega
  rw [show (((u+1:Nat):Int) - 1)=((u:Nat):Int) by omega] at t2
  obtain ⟨hb_,hc_9,eH⟩:=hR.hO hu
  have hb2:=hR.ok.ln u hu
  refine wp_seq (wp_seq ?_)
  refine wi_ A (h2_ t0 t2) (rv_ 1 (.bool true) (fun a E=>execDec (exIgeq3 (p:=((u:Nat):Int)) (q:=0) rfl (E _) rfl) (decide_eq_true (by omega))) (rf_ [(20,.bool true)] (h2_ t0 t2) ?_))
  rintro a A ⟨t20,-⟩ ⟨t0,t2,-⟩
  refine wp_cond_true t20 (wp_skip ?_)
  clear t20
  refine wp_seq (wp_block ?_)
  refine wp_seq ?_
  refine wi_ A (h2_ t0 t2) (rv_ 1 (.pointer (some ⟨G.rb,0,none⟩)) (fun a E=>Duc.execNl rfl (E _)) (rv_ 2 (.pointer (some ⟨G.rb,1,none⟩)) (fun a E=>execRf1 rfl (E _)) (rv_ 3 (G.hS) (fun a E=>execLdP rfl (Or.inr (Or.inl rfl)) (E _) (S2.rn.on BB).rc.2.1) (rv_ 5 (.pointer (some ⟨hb_,u,none⟩)) (fun a E=>execIxH (k:=u) rfl ((E _).trans eH) (E _) hu) (rv_ 6 (.pointer (some ⟨G.hn u,0,none⟩)) (fun a E=>execLdP rfl (Or.inr (Or.inr (Or.inl rfl))) (E _) (RowP.at (S2.rn.on BB).hR eH hu)) (rf_ [(3,.pointer (some ⟨G.hn u,0,none⟩))] (h2_ t0 t2) ?_))))))
  rintro a A ⟨t3,-⟩ ⟨t0,t2,-⟩
  by_cases he_:M.pl u=p.ln u
  ·have hF:meetF p M u=meetF p M (u+1):=by
    unfold meetF
    rw [fF_same (u:=u) (q:=gM p M) (fun k=>decide_eq_false (fun z=>by omega)),fF_same (u:=u) (q:=tM p M) (fun k=>decide_eq_false (fun z=>by omega))]
   rw [← hF] at S2
   refine wp_seq (wp_seq ?_)
   refine wi_ A (h3_ t0 t2 t3) (rc_ 1 (((decide_eq_true he_) ▸ pended (S2.rn.on BB) hu)) (cb_ fun X6 bQ=>?_))
   replace BB:=BB.trans (bQ.mono BB.size)
   clear bQ
   refine rf_ [(31,.bool true)] (h2_ t0 t2) ?_
   rintro a A ⟨t31,-⟩ ⟨t0,t2,-⟩
   refine wp_cond_true t31 ?_
   clear t31
   refine wp_exit ?_
   repeat (first | with_reducible refine exit_then ?_ | with_reducible refine exit_out (by decide) ?_)
   refine exit_in ?_
   refine wi_ A (h2_ t0 t2) (rv_ 1 (.int .i64 (((u:Nat):Int) - 1)) (fun a E=>exSubZ (p:=((u:Nat):Int)) (q:=1) rfl (E _) rfl ⟨by omega,by omega⟩) (rf_ [(2,.int .i64 (((u:Nat):Int) - 1))] (h1_ t0) ?_))
   rintro a A ⟨t2,-⟩ ⟨t0,-⟩
   exact ⟨⟨u,_,by omega,A,t0,t2,(S2.on BB)⟩,by show (intOf (a.eval (.tmp 2))+1).toNat < (intOf (Act.eval _ (.tmp 2))+1).toNat; rw [t2,es]; show ((((u:Nat):Int) - 1)+1).toNat < ((((u+1:Nat):Int) - 1)+1).toNat; omega⟩
  ·have hl:M.pl u < p.ln u:=by have:=hR.fit.pl u hu; omega
   obtain ⟨ob_,oo,oc_,eo⟩:=hR.opf hu hl
   obtain ⟨k,ka,kb,hop⟩:∃ k ka kb,p.op u (M.pl u)=⟨k,ka,kb⟩:=⟨_,_,_,rfl⟩
   have hrt:=hR.ok.op u hu _ hl
   rw [hop] at hrt
   refine wp_seq (wp_seq ?_)
   refine wi_ A (h3_ t0 t2 t3) (rc_ 1 (((decide_eq_false he_) ▸ pended (S2.rn.on BB) hu)) (cb_ fun X6 bQ=>?_))
   replace BB:=BB.trans (bQ.mono BB.size)
   clear bQ
   refine rf_ [(31,.bool false)] (h3_ t0 t2 t3) ?_
   rintro a A ⟨t31,-⟩ ⟨t0,t2,t3,-⟩
   refine wp_cond_false t31 (wp_skip ?_)
   clear t31
   by_cases hk1:k=1
   ·subst hk1
    obtain ⟨hk2,hk3⟩:=rgt_put hrt (Or.inl rfl)
    obtain ⟨i,rfl⟩:∃ i:Nat,ka=((i:Nat):Int):=⟨ka.toNat,by have:(0:Int)<=ka:=hk2; omega⟩
    have hi:i < p.d:=by have:(((i:Nat):Int)).toNat < p.d:=hk3; omega
    obtain ⟨rb_g,rc_g,eG⟩:=hR.gO hi
    refine wp_seq ?_
    refine wj_ [0,1,2,3,4,5,6,7,8,9,10,11] [10,11] [3,7,9] [11] A (h3_ t0 t2 t3) (fun X7_0 bD=>?_)
    obtain ⟨g4,egg4⟩:∃ z_:Nat,X7_0.heap.size=z_:=⟨_,rfl⟩
    refine dw_ 1 (.pointer (some ⟨G.hn u,0,none⟩)) (fun a X E=>Duc.execNl rfl (E _)) (dw_ 2 (.pointer (some ⟨G.hn u,0,none⟩)) (fun a X E=>execNf0 rfl (E _)) (dv_ 3 (G.ops u) (fun a X E hb=>execLdG rfl (Or.inr (Or.inr (Or.inr (Or.inr (Or.inr rfl))))) (E _) ((S2.rn.on (BB.trans (hb.mono BB.size))).nc hu).1) (dw_ 5 (.pointer (some ⟨G.hn u,0,none⟩)) (fun a X E=>Duc.execNl rfl (E _)) (dw_ 6 (.pointer (some ⟨G.hn u,1,none⟩)) (fun a X E=>execNf1 rfl (E _)) (dv_ 7 (.int .i64 ((M.pl u:Nat):Int)) (fun a X E hb=>execLdG rfl (Or.inr (Or.inl rfl)) (E _) ((S2.rn.on (BB.trans (hb.mono BB.size))).nc hu).2.1) (dw_ 8 (.pointer (some ⟨ob_,oo+(M.pl u) * 3,none⟩)) (fun a X E=>execIxOs (k:=M.pl u) rfl ((E _).trans eo) (E _) hl) (dv_ 9 (.agg (oC 1 ((i:Nat):Int) kb)) (fun a X E hb=>execLdO rfl (E _) (hop ▸ SliceO.at ((S2.rn.on (BB.trans (hb.mono BB.size))).opl hu) eo hl)) (ds_ 10 (fun a E=>?_)))))))))
    refine stepV rfl rfl (execAlO rfl) ⟨.pointer (some ⟨g4,0,none⟩),⟨_,rfl,by subst egg4; rfl⟩,fun X7_1 hX=>?_⟩
    have bQ:Below X7_0.heap.size X7_0 X7_1:=by subst hX egg4; exact (belNew X7_0 _)
    have Fg4:X7_1.heap[g4]?=some (.cells (oC 0 0 0) 59):=by subst hX egg4; exact heapNew X7_0 _
    have Fgeg4:(XL.heap.size<=g4):=by subst hX egg4; exact ((BB.trans (bD.mono BB.size))).size
    replace bD:=bD.trans (bQ.mono bD.size)
    clear bQ hX egg4 E a
    refine ⟨Or.inr bD,?_⟩
    refine ds_ 11 (fun a E=>?_)
    refine stepS rfl rfl (execStO rfl (E _) (E _) Fg4) ⟨_,⟨_,rfl,rfl⟩,fun X7 hX=>?_⟩
    obtain ⟨BB,Fg4s⟩:Below XL.heap.size XL X7/\X7.heap[g4]?=some (.cells (oC 1 ((i:Nat):Int) kb) 59):=by rw [hX]; exact ⟨below4 (BB.trans (bD.mono BB.size)) Fgeg4 _,setRow_heap _ _ _ _ _ _ Fg4⟩
    clear hX E a Fg4 bD
    refine ⟨Or.inl rfl,?_⟩
    refine dz_ [(4,.pointer (some ⟨g4,0,none⟩))] (h3_ t0 t2 t3) ?_
    rintro a A ⟨t4,-⟩ ⟨t0,t2,t3,-⟩
    replace S2:=S2.on BB
    clear BB
    have BB:Below X7.heap.size X7 X7:=Below.refl _ _
    refine wp_seq ?_
    refine wi_ A (h4_ t0 t2 t3 t4) (rv_ 0 (.pointer (some ⟨g4,0,none⟩)) (fun a E=>execOf0 rfl (E _)) (rv_ 1 (.int .i64 1) (fun a E=>execLdG rfl (Or.inr (Or.inl rfl)) (E _) (oC_at (on9 Fg4s BB)).1) (rf_ [(43,.int .i64 1)] (h4_ t0 t2 t3 t4) ?_)))
    rintro a A ⟨t43,-⟩ ⟨t0,t2,t3,t4,-⟩
    refine wp_block ?_
    refine wp_seq (wp_block ?_)
    refine wp_seq (wp_block ?_)
    refine wp_seq (wp_block ?_)
    refine wp_seq (wp_seq ?_)
    refine wp_seq ?_
    refine wi_ A (h5_ t0 t2 t3 t4 t43) (rv_ 0 (.bool true) (fun a E=>execDec (exIeql3 (p:=1) (q:=1) rfl (E _) rfl) (decide_eq_true (by decide))) (rf_ [(44,.bool true)] (h5_ t0 t2 t3 t4 t43) ?_))
    rintro a A ⟨t44,-⟩ ⟨t0,t2,t3,t4,t43,-⟩
    refine wp_cond_true t44 ?_
    clear t44
    refine wp_exit ?_
    repeat (first | with_reducible refine exit_then ?_ | with_reducible refine exit_out (by decide) ?_)
    refine exit_in ?_
    refine wp_seq ?_
    refine wj_ [0,1,2,3,4,5,6,7,8] [8] [3,5] [8] A (h5_ t0 t2 t3 t4 t43) (fun X9_0 bD=>?_)
    refine dw_ 1 (.pointer (some ⟨G.rb,0,none⟩)) (fun a X E=>Duc.execNl rfl (E _)) (dw_ 2 (.pointer (some ⟨G.rb,2,none⟩)) (fun a X E=>execRf2 rfl (E _)) (dv_ 3 (G.gS) (fun a X E hb=>execLdP rfl (Or.inr (Or.inl rfl)) (E _) (S2.rn.on (BB.trans (hb.mono BB.size))).rc.2.2.1) (dw_ 4 (.pointer (some ⟨g4,1,none⟩)) (fun a X E=>execOf1 rfl (E _)) (dv_ 5 (.int .i64 ((i:Nat):Int)) (fun a X E hb=>execLdG rfl (Or.inr (Or.inl rfl)) (E _) (oC_at (on9 Fg4s (BB.trans (hb.mono BB.size)))).2.1) (dw_ 7 (.pointer (some ⟨rb_g,i,none⟩)) (fun a X E=>execIxH (k:=i) rfl ((E _).trans eG) (E _) hi) (ds_ 8 (fun a E=>?_)))))))
    replace BB:=BB.trans (bD.mono BB.size)
    clear bD
    refine stepS rfl rfl (execSt9 rfl (Or.inr (Or.inr (Or.inr (Or.inr (Or.inr (Or.inr rfl)))))) (E _) (E _) (Or.inr (Or.inr (Or.inl ⟨_,rfl⟩))) (RowP.at (S2.rn.on BB).gR eG hi) (RowP.fz (S2.rn.on BB).gR eG hi)) ⟨_,⟨_,rfl,rfl⟩,fun X9 hX=>?_⟩
    refine ⟨Or.inl rfl,?_⟩
    refine dz_ [] (h2_ t0 t2) ?_
    rintro a A - ⟨t0,t2,-⟩
    have S3:=(S2.on BB).setG hi eG hX
    have hF:meetF p M u={ meetF p M (u+1) with gv:=upf (meetF p M (u+1)).gv i (some u) }:=by
     unfold meetF
     rw [fF_upf (i:=i) (u:=u) (q:=gM p M) hu (fun k=>by unfold gM; rw [hop]; exact decide_eq_decide.2 (by show (M.pl u < p.ln u/\(1:Int)=1/\((i:Nat):Int)=((k:Nat):Int)) ↔ k=i; omega)),fF_same (u:=u) (q:=tM p M) (fun k=>by unfold tM; rw [hop]; exact decide_eq_false (by show ¬ (M.pl u < p.ln u/\((((1:Int)=2\/(1:Int)=8)/\((i:Nat):Int)=((k:Nat):Int))\/((1:Int)=8/\kb=((k:Nat):Int)))); omega))]
    rw [← hF] at S3
    clear BB
    have BB:Below X9.heap.size X9 X9:=Below.refl _ _
    refine wp_exit ?_
    repeat (first | with_reducible refine exit_then ?_ | with_reducible refine exit_out (by decide) ?_)
    refine exit_in ?_
    refine wi_ A (h2_ t0 t2) (rv_ 1 (.int .i64 (((u:Nat):Int) - 1)) (fun a E=>exSubZ (p:=((u:Nat):Int)) (q:=1) rfl (E _) rfl ⟨by omega,by omega⟩) (rf_ [(2,.int .i64 (((u:Nat):Int) - 1))] (h1_ t0) ?_))
    rintro a A ⟨t2,-⟩ ⟨t0,-⟩
    exact ⟨⟨u,_,by omega,A,t0,t2,(S3.on BB)⟩,by show (intOf (a.eval (.tmp 2))+1).toNat < (intOf (Act.eval _ (.tmp 2))+1).toNat; rw [t2,es]; show ((((u:Nat):Int) - 1)+1).toNat < ((((u+1:Nat):Int) - 1)+1).toNat; omega⟩
   by_cases hk8:k=8
   ·subst hk8
    obtain ⟨⟨hk3,hk4⟩,hk5,hk6⟩:=rgt_choose hrt rfl
    obtain ⟨i,rfl⟩:∃ i:Nat,ka=((i:Nat):Int):=⟨ka.toNat,by have:(0:Int)<=ka:=hk3; omega⟩
    have hi:i < p.d:=by have:(((i:Nat):Int)).toNat < p.d:=hk4; omega
    obtain ⟨j,rfl⟩:∃ j:Nat,kb=((j:Nat):Int):=⟨kb.toNat,by have:(0:Int)<=kb:=hk5; omega⟩
    have hj:j < p.d:=by have:(((j:Nat):Int)).toNat < p.d:=hk6; omega
    obtain ⟨rb_t,rc_t,eT⟩:=hR.tO hi
    refine wp_seq ?_
    refine wj_ [0,1,2,3,4,5,6,7,8,9,10,11] [10,11] [3,7,9] [11] A (h3_ t0 t2 t3) (fun X7_0 bD=>?_)
    obtain ⟨g4,egg4⟩:∃ z_:Nat,X7_0.heap.size=z_:=⟨_,rfl⟩
    refine dw_ 1 (.pointer (some ⟨G.hn u,0,none⟩)) (fun a X E=>Duc.execNl rfl (E _)) (dw_ 2 (.pointer (some ⟨G.hn u,0,none⟩)) (fun a X E=>execNf0 rfl (E _)) (dv_ 3 (G.ops u) (fun a X E hb=>execLdG rfl (Or.inr (Or.inr (Or.inr (Or.inr (Or.inr rfl))))) (E _) ((S2.rn.on (BB.trans (hb.mono BB.size))).nc hu).1) (dw_ 5 (.pointer (some ⟨G.hn u,0,none⟩)) (fun a X E=>Duc.execNl rfl (E _)) (dw_ 6 (.pointer (some ⟨G.hn u,1,none⟩)) (fun a X E=>execNf1 rfl (E _)) (dv_ 7 (.int .i64 ((M.pl u:Nat):Int)) (fun a X E hb=>execLdG rfl (Or.inr (Or.inl rfl)) (E _) ((S2.rn.on (BB.trans (hb.mono BB.size))).nc hu).2.1) (dw_ 8 (.pointer (some ⟨ob_,oo+(M.pl u) * 3,none⟩)) (fun a X E=>execIxOs (k:=M.pl u) rfl ((E _).trans eo) (E _) hl) (dv_ 9 (.agg (oC 8 ((i:Nat):Int) ((j:Nat):Int))) (fun a X E hb=>execLdO rfl (E _) (hop ▸ SliceO.at ((S2.rn.on (BB.trans (hb.mono BB.size))).opl hu) eo hl)) (ds_ 10 (fun a E=>?_)))))))))
    refine stepV rfl rfl (execAlO rfl) ⟨.pointer (some ⟨g4,0,none⟩),⟨_,rfl,by subst egg4; rfl⟩,fun X7_1 hX=>?_⟩
    have bQ:Below X7_0.heap.size X7_0 X7_1:=by subst hX egg4; exact (belNew X7_0 _)
    have Fg4:X7_1.heap[g4]?=some (.cells (oC 0 0 0) 59):=by subst hX egg4; exact heapNew X7_0 _
    have Fgeg4:(XL.heap.size<=g4):=by subst hX egg4; exact ((BB.trans (bD.mono BB.size))).size
    replace bD:=bD.trans (bQ.mono bD.size)
    clear bQ hX egg4 E a
    refine ⟨Or.inr bD,?_⟩
    refine ds_ 11 (fun a E=>?_)
    refine stepS rfl rfl (execStO rfl (E _) (E _) Fg4) ⟨_,⟨_,rfl,rfl⟩,fun X7 hX=>?_⟩
    obtain ⟨BB,Fg4s⟩:Below XL.heap.size XL X7/\X7.heap[g4]?=some (.cells (oC 8 ((i:Nat):Int) ((j:Nat):Int)) 59):=by rw [hX]; exact ⟨below4 (BB.trans (bD.mono BB.size)) Fgeg4 _,setRow_heap _ _ _ _ _ _ Fg4⟩
    clear hX E a Fg4 bD
    refine ⟨Or.inl rfl,?_⟩
    refine dz_ [(4,.pointer (some ⟨g4,0,none⟩))] (h3_ t0 t2 t3) ?_
    rintro a A ⟨t4,-⟩ ⟨t0,t2,t3,-⟩
    have Fz:ow1 g4=0:=S2.rn.no Fgeg4
    replace S2:=S2.on BB
    clear BB
    have BB:Below X7.heap.size X7 X7:=Below.refl _ _
    refine wp_seq ?_
    refine wi_ A (h4_ t0 t2 t3 t4) (rv_ 0 (.pointer (some ⟨g4,0,none⟩)) (fun a E=>execOf0 rfl (E _)) (rv_ 1 (.int .i64 8) (fun a E=>execLdG rfl (Or.inr (Or.inl rfl)) (E _) (oC_at (on9 Fg4s BB)).1) (rf_ [(43,.int .i64 8)] (h4_ t0 t2 t3 t4) ?_)))
    rintro a A ⟨t43,-⟩ ⟨t0,t2,t3,t4,-⟩
    refine wp_block ?_
    refine wp_seq (wp_block ?_)
    refine wp_seq (wp_block ?_)
    refine wp_seq (wp_block ?_)
    refine wp_seq (wp_seq ?_)
    refine wp_seq ?_
    refine wi_ A (h5_ t0 t2 t3 t4 t43) (rv_ 0 (.bool false) (fun a E=>execDec (exIeql3 (p:=8) (q:=1) rfl (E _) rfl) (decide_eq_false (by decide))) (rf_ [(44,.bool false)] (h5_ t0 t2 t3 t4 t43) ?_))
    rintro a A ⟨t44,-⟩ ⟨t0,t2,t3,t4,t43,-⟩
    refine wp_cond_false t44 ?_
    clear t44
    refine wp_skip ?_
    refine wp_seq (wp_seq ?_)
    refine wi_ A (h5_ t0 t2 t3 t4 t43) (rv_ 0 (.bool true) (fun a E=>execDec (exIeql3 (p:=8) (q:=8) rfl (E _) rfl) (decide_eq_true (by decide))) (rf_ [(46,.bool true)] (h5_ t0 t2 t3 t4 t43) ?_))
    rintro a A ⟨t46,-⟩ ⟨t0,t2,t3,t4,t43,-⟩
    refine wp_cond_true t46 ?_
    clear t46
    refine wp_exit ?_
    repeat (first | with_reducible refine exit_then ?_ | with_reducible refine exit_out (by decide) ?_)
    refine exit_in ?_
    refine wj_ [0,1,2,3,4,5,6,7,8] [8] [3,5] [8] A (h5_ t0 t2 t3 t4 t43) (fun X8_0 bD=>?_)
    refine dw_ 1 (.pointer (some ⟨G.rb,0,none⟩)) (fun a X E=>Duc.execNl rfl (E _)) (dw_ 2 (.pointer (some ⟨G.rb,3,none⟩)) (fun a X E=>execRf3 rfl (E _)) (dv_ 3 (G.tS) (fun a X E hb=>execLdP rfl (Or.inr (Or.inl rfl)) (E _) (S2.rn.on (BB.trans (hb.mono BB.size))).rc.2.2.2.1) (dw_ 4 (.pointer (some ⟨g4,2,none⟩)) (fun a X E=>execOf2 rfl (E _)) (dv_ 5 (.int .i64 ((j:Nat):Int)) (fun a X E hb=>execLdG rfl (Or.inr (Or.inl rfl)) (E _) (oC_at (on9 Fg4s (BB.trans (hb.mono BB.size)))).2.2) (dw_ 7 (.pointer (some ⟨rb_t,j,none⟩)) (fun a X E=>execIxH (k:=j) rfl ((E _).trans eT) (E _) hj) (ds_ 8 (fun a E=>?_)))))))
    replace BB:=BB.trans (bD.mono BB.size)
    clear bD
    refine stepS rfl rfl (execSt9 rfl (Or.inr (Or.inr (Or.inr (Or.inr (Or.inr (Or.inr rfl)))))) (E _) (E _) (Or.inr (Or.inr (Or.inl ⟨_,rfl⟩))) (RowP.at (S2.rn.on BB).tR eT hj) (RowP.fz (S2.rn.on BB).tR eT hj)) ⟨_,⟨_,rfl,rfl⟩,fun X8 hX=>?_⟩
    refine ⟨Or.inl rfl,?_⟩
    refine dz_ [] (h4_ t0 t2 t3 t4) ?_
    rintro a A - ⟨t0,t2,t3,t4,-⟩
    have S3g:=((S2.rn.on BB).st).setT hj eT hX
    obtain ⟨Fo,Fz2⟩:=S3g.local (on9 Fg4s BB) Fz
    have S3:=(S2.on BB).then_ S3g
    clear BB
    have BB:Below X8.heap.size X8 X8:=Below.refl _ _
    replace Fg4s:=Fo
    refine wp_seq ?_
    refine wj_ [0,1,2,3,4,5,6,7,8] [8] [3,5] [8] A (h4_ t0 t2 t3 t4) (fun X9_0 bD=>?_)
    refine dw_ 1 (.pointer (some ⟨G.rb,0,none⟩)) (fun a X E=>Duc.execNl rfl (E _)) (dw_ 2 (.pointer (some ⟨G.rb,3,none⟩)) (fun a X E=>execRf3 rfl (E _)) (dv_ 3 (G.tS) (fun a X E hb=>execLdP rfl (Or.inr (Or.inl rfl)) (E _) (S3.rn.on (BB.trans (hb.mono BB.size))).rc.2.2.2.1) (dw_ 4 (.pointer (some ⟨g4,1,none⟩)) (fun a X E=>execOf1 rfl (E _)) (dv_ 5 (.int .i64 ((i:Nat):Int)) (fun a X E hb=>execLdG rfl (Or.inr (Or.inl rfl)) (E _) (oC_at (on9 Fg4s (BB.trans (hb.mono BB.size)))).2.1) (dw_ 7 (.pointer (some ⟨rb_t,i,none⟩)) (fun a X E=>execIxH (k:=i) rfl ((E _).trans eT) (E _) hi) (ds_ 8 (fun a E=>?_)))))))
    replace BB:=BB.trans (bD.mono BB.size)
    clear bD
    refine stepS rfl rfl (execSt9 rfl (Or.inr (Or.inr (Or.inr (Or.inr (Or.inr (Or.inr rfl)))))) (E _) (E _) (Or.inr (Or.inr (Or.inl ⟨_,rfl⟩))) (RowP.at (S3.rn.on BB).tR eT hi) (RowP.fz (S3.rn.on BB).tR eT hi)) ⟨_,⟨_,rfl,rfl⟩,fun X9 hX=>?_⟩
    refine ⟨Or.inl rfl,?_⟩
    refine dz_ [] (h2_ t0 t2) ?_
    rintro a A - ⟨t0,t2,-⟩
    have S4:=(S3.on BB).setT hi eT hX
    have hF:meetF p M u={ meetF p M (u+1) with tv:=upf (upf (meetF p M (u+1)).tv j (some u)) i (some u) }:=by
     unfold meetF
     rw [fF_upf2 (i:=i) (j:=j) (u:=u) (q:=tM p M) hu (fun k=>by unfold tM; rw [hop]; exact decide_eq_decide.2 (by show (M.pl u < p.ln u/\((((8:Int)=2\/(8:Int)=8)/\((i:Nat):Int)=((k:Nat):Int))\/((8:Int)=8/\((j:Nat):Int)=((k:Nat):Int)))) ↔ (k=i\/k=j); omega)),fF_same (u:=u) (q:=gM p M) (fun k=>by unfold gM; rw [hop]; exact decide_eq_false (by show ¬ (M.pl u < p.ln u/\(8:Int)=1/\((i:Nat):Int)=((k:Nat):Int)); omega))]
    replace S4:St p G U ow V ow1 (meetF p M u) X9:=by rw [hF]; exact S4
    clear BB
    have BB:Below X9.heap.size X9 X9:=Below.refl _ _
    refine wp_exit ?_
    repeat (first | with_reducible refine exit_then ?_ | with_reducible refine exit_out (by decide) ?_)
    refine exit_in ?_
    refine wi_ A (h2_ t0 t2) (rv_ 1 (.int .i64 (((u:Nat):Int) - 1)) (fun a E=>exSubZ (p:=((u:Nat):Int)) (q:=1) rfl (E _) rfl ⟨by omega,by omega⟩) (rf_ [(2,.int .i64 (((u:Nat):Int) - 1))] (h1_ t0) ?_))
    rintro a A ⟨t2,-⟩ ⟨t0,-⟩
    exact ⟨⟨u,_,by omega,A,t0,t2,(S4.on BB)⟩,by show (intOf (a.eval (.tmp 2))+1).toNat < (intOf (Act.eval _ (.tmp 2))+1).toNat; rw [t2,es]; show ((((u:Nat):Int) - 1)+1).toNat < ((((u+1:Nat):Int) - 1)+1).toNat; omega⟩
   by_cases hk2:k=2
   ·subst hk2
    obtain ⟨⟨hk3,hk4⟩,-⟩:=rgt_take hrt rfl
    obtain ⟨i,rfl⟩:∃ i:Nat,ka=((i:Nat):Int):=⟨ka.toNat,by have:(0:Int)<=ka:=hk3; omega⟩
    have hi:i < p.d:=by have:(((i:Nat):Int)).toNat < p.d:=hk4; omega
    obtain ⟨rb_t,rc_t,eT⟩:=hR.tO hi
    refine wp_seq ?_
    refine wj_ [0,1,2,3,4,5,6,7,8,9,10,11] [10,11] [3,7,9] [11] A (h3_ t0 t2 t3) (fun X7_0 bD=>?_)
    obtain ⟨g4,egg4⟩:∃ z_:Nat,X7_0.heap.size=z_:=⟨_,rfl⟩
    refine dw_ 1 (.pointer (some ⟨G.hn u,0,none⟩)) (fun a X E=>Duc.execNl rfl (E _)) (dw_ 2 (.pointer (some ⟨G.hn u,0,none⟩)) (fun a X E=>execNf0 rfl (E _)) (dv_ 3 (G.ops u) (fun a X E hb=>execLdG rfl (Or.inr (Or.inr (Or.inr (Or.inr (Or.inr rfl))))) (E _) ((S2.rn.on (BB.trans (hb.mono BB.size))).nc hu).1) (dw_ 5 (.pointer (some ⟨G.hn u,0,none⟩)) (fun a X E=>Duc.execNl rfl (E _)) (dw_ 6 (.pointer (some ⟨G.hn u,1,none⟩)) (fun a X E=>execNf1 rfl (E _)) (dv_ 7 (.int .i64 ((M.pl u:Nat):Int)) (fun a X E hb=>execLdG rfl (Or.inr (Or.inl rfl)) (E _) ((S2.rn.on (BB.trans (hb.mono BB.size))).nc hu).2.1) (dw_ 8 (.pointer (some ⟨ob_,oo+(M.pl u) * 3,none⟩)) (fun a X E=>execIxOs (k:=M.pl u) rfl ((E _).trans eo) (E _) hl) (dv_ 9 (.agg (oC 2 ((i:Nat):Int) kb)) (fun a X E hb=>execLdO rfl (E _) (hop ▸ SliceO.at ((S2.rn.on (BB.trans (hb.mono BB.size))).opl hu) eo hl)) (ds_ 10 (fun a E=>?_)))))))))
    refine stepV rfl rfl (execAlO rfl) ⟨.pointer (some ⟨g4,0,none⟩),⟨_,rfl,by subst egg4; rfl⟩,fun X7_1 hX=>?_⟩
    have bQ:Below X7_0.heap.size X7_0 X7_1:=by subst hX egg4; exact (belNew X7_0 _)
    have Fg4:X7_1.heap[g4]?=some (.cells (oC 0 0 0) 59):=by subst hX egg4; exact heapNew X7_0 _
    have Fgeg4:(XL.heap.size<=g4):=by subst hX egg4; exact ((BB.trans (bD.mono BB.size))).size
    replace bD:=bD.trans (bQ.mono bD.size)
    clear bQ hX egg4 E a
    refine ⟨Or.inr bD,?_⟩
    refine ds_ 11 (fun a E=>?_)
    refine stepS rfl rfl (execStO rfl (E _) (E _) Fg4) ⟨_,⟨_,rfl,rfl⟩,fun X7 hX=>?_⟩
    obtain ⟨BB,Fg4s⟩:Below XL.heap.size XL X7/\X7.heap[g4]?=some (.cells (oC 2 ((i:Nat):Int) kb) 59):=by rw [hX]; exact ⟨below4 (BB.trans (bD.mono BB.size)) Fgeg4 _,setRow_heap _ _ _ _ _ _ Fg4⟩
    clear hX E a Fg4 bD
    refine ⟨Or.inl rfl,?_⟩
    refine dz_ [(4,.pointer (some ⟨g4,0,none⟩))] (h3_ t0 t2 t3) ?_
    rintro a A ⟨t4,-⟩ ⟨t0,t2,t3,-⟩
    replace S2:=S2.on BB
    clear BB
    have BB:Below X7.heap.size X7 X7:=Below.refl _ _
    refine wp_seq ?_
    refine wi_ A (h4_ t0 t2 t3 t4) (rv_ 0 (.pointer (some ⟨g4,0,none⟩)) (fun a E=>execOf0 rfl (E _)) (rv_ 1 (.int .i64 2) (fun a E=>execLdG rfl (Or.inr (Or.inl rfl)) (E _) (oC_at (on9 Fg4s BB)).1) (rf_ [(43,.int .i64 2)] (h4_ t0 t2 t3 t4) ?_)))
    rintro a A ⟨t43,-⟩ ⟨t0,t2,t3,t4,-⟩
    refine wp_block ?_
    refine wp_seq (wp_block ?_)
    refine wp_seq (wp_block ?_)
    refine wp_seq (wp_block ?_)
    refine wp_seq (wp_seq ?_)
    refine wp_seq ?_
    refine wi_ A (h5_ t0 t2 t3 t4 t43) (rv_ 0 (.bool false) (fun a E=>execDec (exIeql3 (p:=2) (q:=1) rfl (E _) rfl) (decide_eq_false (by decide))) (rf_ [(44,.bool false)] (h5_ t0 t2 t3 t4 t43) ?_))
    rintro a A ⟨t44,-⟩ ⟨t0,t2,t3,t4,t43,-⟩
    refine wp_cond_false t44 ?_
    clear t44
    refine wp_skip ?_
    refine wp_seq (wp_seq ?_)
    refine wi_ A (h5_ t0 t2 t3 t4 t43) (rv_ 0 (.bool false) (fun a E=>execDec (exIeql3 (p:=2) (q:=8) rfl (E _) rfl) (decide_eq_false (by decide))) (rf_ [(46,.bool false)] (h5_ t0 t2 t3 t4 t43) ?_))
    rintro a A ⟨t46,-⟩ ⟨t0,t2,t3,t4,t43,-⟩
    refine wp_cond_false t46 ?_
    clear t46
    refine wp_skip ?_
    refine wp_seq ?_
    refine wi_ A (h5_ t0 t2 t3 t4 t43) (rv_ 0 (.bool true) (fun a E=>execDec (exIeql3 (p:=2) (q:=2) rfl (E _) rfl) (decide_eq_true (by decide))) (rf_ [(48,.bool true)] (h5_ t0 t2 t3 t4 t43) ?_))
    rintro a A ⟨t48,-⟩ ⟨t0,t2,t3,t4,t43,-⟩
    refine wp_cond_true t48 ?_
    clear t48
    refine wp_exit ?_
    repeat (first | with_reducible refine exit_then ?_ | with_reducible refine exit_out (by decide) ?_)
    refine exit_in ?_
    refine wp_seq ?_
    refine wj_ [0,1,2,3,4,5,6,7,8] [8] [3,5] [8] A (h5_ t0 t2 t3 t4 t43) (fun X9_0 bD=>?_)
    refine dw_ 1 (.pointer (some ⟨G.rb,0,none⟩)) (fun a X E=>Duc.execNl rfl (E _)) (dw_ 2 (.pointer (some ⟨G.rb,3,none⟩)) (fun a X E=>execRf3 rfl (E _)) (dv_ 3 (G.tS) (fun a X E hb=>execLdP rfl (Or.inr (Or.inl rfl)) (E _) (S2.rn.on (BB.trans (hb.mono BB.size))).rc.2.2.2.1) (dw_ 4 (.pointer (some ⟨g4,1,none⟩)) (fun a X E=>execOf1 rfl (E _)) (dv_ 5 (.int .i64 ((i:Nat):Int)) (fun a X E hb=>execLdG rfl (Or.inr (Or.inl rfl)) (E _) (oC_at (on9 Fg4s (BB.trans (hb.mono BB.size)))).2.1) (dw_ 7 (.pointer (some ⟨rb_t,i,none⟩)) (fun a X E=>execIxH (k:=i) rfl ((E _).trans eT) (E _) hi) (ds_ 8 (fun a E=>?_)))))))
    replace BB:=BB.trans (bD.mono BB.size)
    clear bD
    refine stepS rfl rfl (execSt9 rfl (Or.inr (Or.inr (Or.inr (Or.inr (Or.inr (Or.inr rfl)))))) (E _) (E _) (Or.inr (Or.inr (Or.inl ⟨_,rfl⟩))) (RowP.at (S2.rn.on BB).tR eT hi) (RowP.fz (S2.rn.on BB).tR eT hi)) ⟨_,⟨_,rfl,rfl⟩,fun X9 hX=>?_⟩
    refine ⟨Or.inl rfl,?_⟩
    refine dz_ [] (h2_ t0 t2) ?_
    rintro a A - ⟨t0,t2,-⟩
    have S4:=(S2.on BB).setT hi eT hX
    have hF:meetF p M u={ meetF p M (u+1) with tv:=upf (meetF p M (u+1)).tv i (some u) }:=by
     unfold meetF
     rw [fF_upf (i:=i) (u:=u) (q:=tM p M) hu (fun k=>by unfold tM; rw [hop]; exact decide_eq_decide.2 (by show (M.pl u < p.ln u/\((((2:Int)=2\/(2:Int)=8)/\((i:Nat):Int)=((k:Nat):Int))\/((2:Int)=8/\kb=((k:Nat):Int)))) ↔ k=i; omega)),fF_same (u:=u) (q:=gM p M) (fun k=>by unfold gM; rw [hop]; exact decide_eq_false (by show ¬ (M.pl u < p.ln u/\(2:Int)=1/\((i:Nat):Int)=((k:Nat):Int)); omega))]
    replace S4:St p G U ow V ow1 (meetF p M u) X9:=by rw [hF]; exact S4
    clear BB
    have BB:Below X9.heap.size X9 X9:=Below.refl _ _
    refine wp_exit ?_
    repeat (first | with_reducible refine exit_then ?_ | with_reducible refine exit_out (by decide) ?_)
    refine exit_in ?_
    refine wi_ A (h2_ t0 t2) (rv_ 1 (.int .i64 (((u:Nat):Int) - 1)) (fun a E=>exSubZ (p:=((u:Nat):Int)) (q:=1) rfl (E _) rfl ⟨by omega,by omega⟩) (rf_ [(2,.int .i64 (((u:Nat):Int) - 1))] (h1_ t0) ?_))
    rintro a A ⟨t2,-⟩ ⟨t0,-⟩
    exact ⟨⟨u,_,by omega,A,t0,t2,(S4.on BB)⟩,by show (intOf (a.eval (.tmp 2))+1).toNat < (intOf (Act.eval _ (.tmp 2))+1).toNat; rw [t2,es]; show ((((u:Nat):Int) - 1)+1).toNat < ((((u+1:Nat):Int) - 1)+1).toNat; omega⟩
   have hk:k ≠ 1/\k ≠ 2/\k ≠ 8:=⟨hk1,hk2,hk8⟩
   refine wp_seq ?_
   refine wj_ [0,1,2,3,4,5,6,7,8,9,10,11] [10,11] [3,7,9] [11] A (h3_ t0 t2 t3) (fun X7_0 bD=>?_)
   obtain ⟨g4,egg4⟩:∃ z_:Nat,X7_0.heap.size=z_:=⟨_,rfl⟩
   refine dw_ 1 (.pointer (some ⟨G.hn u,0,none⟩)) (fun a X E=>Duc.execNl rfl (E _)) (dw_ 2 (.pointer (some ⟨G.hn u,0,none⟩)) (fun a X E=>execNf0 rfl (E _)) (dv_ 3 (G.ops u) (fun a X E hb=>execLdG rfl (Or.inr (Or.inr (Or.inr (Or.inr (Or.inr rfl))))) (E _) ((S2.rn.on (BB.trans (hb.mono BB.size))).nc hu).1) (dw_ 5 (.pointer (some ⟨G.hn u,0,none⟩)) (fun a X E=>Duc.execNl rfl (E _)) (dw_ 6 (.pointer (some ⟨G.hn u,1,none⟩)) (fun a X E=>execNf1 rfl (E _)) (dv_ 7 (.int .i64 ((M.pl u:Nat):Int)) (fun a X E hb=>execLdG rfl (Or.inr (Or.inl rfl)) (E _) ((S2.rn.on (BB.trans (hb.mono BB.size))).nc hu).2.1) (dw_ 8 (.pointer (some ⟨ob_,oo+(M.pl u) * 3,none⟩)) (fun a X E=>execIxOs (k:=M.pl u) rfl ((E _).trans eo) (E _) hl) (dv_ 9 (.agg (oC k ka kb)) (fun a X E hb=>execLdO rfl (E _) (hop ▸ SliceO.at ((S2.rn.on (BB.trans (hb.mono BB.size))).opl hu) eo hl)) (ds_ 10 (fun a E=>?_)))))))))
   refine stepV rfl rfl (execAlO rfl) ⟨.pointer (some ⟨g4,0,none⟩),⟨_,rfl,by subst egg4; rfl⟩,fun X7_1 hX=>?_⟩
   have bQ:Below X7_0.heap.size X7_0 X7_1:=by subst hX egg4; exact (belNew X7_0 _)
   have Fg4:X7_1.heap[g4]?=some (.cells (oC 0 0 0) 59):=by subst hX egg4; exact heapNew X7_0 _
   have Fgeg4:(XL.heap.size<=g4):=by subst hX egg4; exact ((BB.trans (bD.mono BB.size))).size
   replace bD:=bD.trans (bQ.mono bD.size)
   clear bQ hX egg4 E a
   refine ⟨Or.inr bD,?_⟩
   refine ds_ 11 (fun a E=>?_)
   refine stepS rfl rfl (execStO rfl (E _) (E _) Fg4) ⟨_,⟨_,rfl,rfl⟩,fun X7 hX=>?_⟩
   obtain ⟨BB,Fg4s⟩:Below XL.heap.size XL X7/\X7.heap[g4]?=some (.cells (oC k ka kb) 59):=by rw [hX]; exact ⟨below4 (BB.trans (bD.mono BB.size)) Fgeg4 _,setRow_heap _ _ _ _ _ _ Fg4⟩
   clear hX E a Fg4 bD
   refine ⟨Or.inl rfl,?_⟩
   refine dz_ [(4,.pointer (some ⟨g4,0,none⟩))] (h3_ t0 t2 t3) ?_
   rintro a A ⟨t4,-⟩ ⟨t0,t2,t3,-⟩
   replace S2:=S2.on BB
   clear BB
   have BB:Below X7.heap.size X7 X7:=Below.refl _ _
   refine wp_seq ?_
   refine wi_ A (h4_ t0 t2 t3 t4) (rv_ 0 (.pointer (some ⟨g4,0,none⟩)) (fun a E=>execOf0 rfl (E _)) (rv_ 1 (.int .i64 k) (fun a E=>execLdG rfl (Or.inr (Or.inl rfl)) (E _) (oC_at (on9 Fg4s BB)).1) (rf_ [(43,.int .i64 k)] (h4_ t0 t2 t3 t4) ?_)))
   rintro a A ⟨t43,-⟩ ⟨t0,t2,t3,t4,-⟩
   refine wp_block ?_
   refine wp_seq (wp_block ?_)
   refine wp_seq (wp_block ?_)
   refine wp_seq (wp_block ?_)
   refine wp_seq (wp_seq ?_)
   refine wp_seq ?_
   refine wi_ A (h5_ t0 t2 t3 t4 t43) (rv_ 0 (.bool false) (fun a E=>execDec (exIeql3 (p:=k) (q:=1) rfl (E _) rfl) (decide_eq_false (by omega))) (rf_ [(44,.bool false)] (h5_ t0 t2 t3 t4 t43) ?_))
   rintro a A ⟨t44,-⟩ ⟨t0,t2,t3,t4,t43,-⟩
   refine wp_cond_false t44 ?_
   clear t44
   refine wp_skip ?_
   refine wp_seq (wp_seq ?_)
   refine wi_ A (h5_ t0 t2 t3 t4 t43) (rv_ 0 (.bool false) (fun a E=>execDec (exIeql3 (p:=k) (q:=8) rfl (E _) rfl) (decide_eq_false (by omega))) (rf_ [(46,.bool false)] (h5_ t0 t2 t3 t4 t43) ?_))
   rintro a A ⟨t46,-⟩ ⟨t0,t2,t3,t4,t43,-⟩
   refine wp_cond_false t46 ?_
   clear t46
   refine wp_skip ?_
   refine wp_seq ?_
   refine wi_ A (h5_ t0 t2 t3 t4 t43) (rv_ 0 (.bool false) (fun a E=>execDec (exIeql3 (p:=k) (q:=2) rfl (E _) rfl) (decide_eq_false (by omega))) (rf_ [(48,.bool false)] (h5_ t0 t2 t3 t4 t43) ?_))
   rintro a A ⟨t48,-⟩ ⟨t0,t2,t3,t4,t43,-⟩
   refine wp_cond_false t48 ?_
   clear t48
   refine wp_skip ?_
   have hF:meetF p M u=meetF p M (u+1):=by
    unfold meetF
    rw [fF_same (u:=u) (q:=gM p M) (fun k_=>by unfold gM; rw [hop]; exact decide_eq_false (fun z=>hk.1 z.2.1)),fF_same (u:=u) (q:=tM p M) (fun k_=>by unfold tM; rw [hop]; exact decide_eq_false (fun z=>by rcases z.2 with w | w; exact w.1.elim hk.2.1 hk.2.2; exact hk.2.2 w.1))]
   rw [← hF] at S2
   refine wp_exit ?_
   repeat (first | with_reducible refine exit_then ?_ | with_reducible refine exit_out (by decide) ?_)
   refine exit_in ?_
   refine wi_ A (h2_ t0 t2) (rv_ 1 (.int .i64 (((u:Nat):Int) - 1)) (fun a E=>exSubZ (p:=((u:Nat):Int)) (q:=1) rfl (E _) rfl ⟨by omega,by omega⟩) (rf_ [(2,.int .i64 (((u:Nat):Int) - 1))] (h1_ t0) ?_))
   rintro a A ⟨t2,-⟩ ⟨t0,-⟩
   exact ⟨⟨u,_,by omega,A,t0,t2,(S2.on BB)⟩,by show (intOf (a.eval (.tmp 2))+1).toNat < (intOf (Act.eval _ (.tmp 2))+1).toNat; rw [t2,es]; show ((((u:Nat):Int) - 1)+1).toNat < ((((u+1:Nat):Int) - 1)+1).toNat; omega⟩
set_option maxRecDepth 100000 in
set_option maxHeartbeats 4000000 in
theorem ppick {p:Pl} {G:Ad} {U V:World} {ow:Nat->Nat} {M:Mm} {N_:Mm} {u:Nat} (hR:RN p G U ow M V) (hT:Does p G U M N_ 60 #[.pointer (some ⟨G.rb,0,none⟩),.pointer (some ⟨G.hn u,0,none⟩)]) :
  Calls Try.prog 46 #[.pointer (some ⟨G.rb,0,none⟩),.pointer (some ⟨G.hn u,0,none⟩)] V fun e w'=>e=.returned (.tuple #[])/\To p G U ow V { meetF p N_ 0 with ms:=max N_.ms (lyS N_ p.d) } w':=by
 go_enter Try.func46,Try.ntmps46
 refine wo_ 19 [(0,.pointer (some ⟨G.rb,0,none⟩)),(1,.pointer (some ⟨G.hn u,0,none⟩))] ?_
 rintro a A ⟨t0,t1,-⟩
 have BW:Below V.heap.size V V:=Below.refl _ _
 have BB:Below V.heap.size V V:=Below.refl _ _
 refine wp_seq ?_
 refine wi_ A (h2_ t0 t1) (rc_ 2 (hT ow V (hR.on BB)) (fun e X1 hh=>?_))
 obtain ⟨he,ow1,S1⟩:=hh
 refine ⟨_,he,?_⟩
 refine rf_ [] (h1_ t0) ?_
 rintro a A - ⟨t0,-⟩
 replace S1:=(hR.st.on BB).then_ S1
 clear BB
 have BB:Below X1.heap.size X1 X1:=Below.refl _ _
 refine wp_seq ?_
 refine wi_ A (h1_ t0) (rc_ 1 (pfind (S1.rn.on BB)) (fun e X2 hh=>?_))
 obtain ⟨he2,ow2,S2⟩:=hh
 refine ⟨_,he2,?_⟩
 refine rf_ [] (h1_ t0) ?_
 rintro a A - ⟨t0,-⟩
 replace S2:=(S1.on BB).then_ S2
 clear BB
 have BB:Below X2.heap.size X2 X2:=Below.refl _ _
 have hly:lyS N_ p.d<=65536:=lyS_meet p N_ 0 p.d ▸ S2.rn.lyl
 have hms:N_.ms<=1000000:=S2.rn.fit.ms
 refine wj_ [0,1,2,3,4,5,6,7,8,9,10] [6,10] [4] [10] A (h1_ t0) (fun X3_0 bD=>?_)
 refine dw_ 2 (.pointer (some ⟨G.rb,0,none⟩)) (fun a X E=>Duc.execNl rfl (E _)) (dw_ 3 (.pointer (some ⟨G.rb,4,none⟩)) (fun a X E=>execRf4 rfl (E _)) (dv_ 4 (.int .i64 ((N_.ms:Nat):Int)) (fun a X E hb=>execLdG rfl (Or.inr (Or.inl rfl)) (E _) (S2.rn.on (BB.trans (hb.mono BB.size))).rc.2.2.2.2.1) (dc_ 6 ((lyS_meet p N_ 0 p.d ▸ plying (S2.rn.on (BB.trans (bD.mono BB.size))))) (cb_ fun X3_1 bQ=>?_))))
 replace bD:=bD.trans (bQ.mono bD.size)
 clear bQ
 refine ⟨Or.inr bD,?_⟩
 refine dw_ 7 (.int .i64 ((max N_.ms (lyS N_ p.d):Nat):Int)) (fun a X E=>execMaxN (p:=N_.ms) (q:=lyS N_ p.d) rfl (E _) (E _)) (dw_ 8 (.pointer (some ⟨G.rb,0,none⟩)) (fun a X E=>Duc.execNl rfl (E _)) (dw_ 9 (.pointer (some ⟨G.rb,4,none⟩)) (fun a X E=>execRf4 rfl (E _)) (ds_ 10 (fun a E=>?_))))
 replace BB:=BB.trans (bD.mono BB.size)
 clear bD
 refine stepS rfl rfl (execSt9 rfl (Or.inl rfl) (E _) (E _) (Or.inl ⟨_,_,rfl⟩) (S2.rn.on BB).rc.2.2.2.2.1 ((S2.rn.on BB).fzR 4)) ⟨_,⟨_,rfl,rfl⟩,fun X3 hX=>?_⟩
 refine ⟨Or.inl rfl,?_⟩
 refine dy_ [] ?_
 rintro a A -
 exact bodyPost_end (results_none rfl _ _ _) A.2 ⟨rfl,ow2,(S2.on BB).setMs (by omega) hX⟩
end Go.Proofs.Ytjjegmflllpknaa.Loo
