import Derived.Test.YtjjegmflllpknaaT8r
namespace Go.Proofs.Ytjjegmflllpknaa.Loo
open Go.RowKit Gf8 Aes By8 Cel Cf Win Drw Prm
/- LoomPlays: the reference's look. Written by tools/mkT8s.py. -/
structure Lks (p:Pl) (r:Rm) (s:Nat) (gv kv:Nat->Int):Prop where
 g:∀ d,d < p.d->gv d=gvO (((List.range p.n).drop s).find? (isG p r d))
 k:∀ d,d < p.d->kv d=gvO (((List.range p.n).drop s).find? (isT p r d))
theorem drop_r {n t:Nat} (h:t < n):(List.range n).drop t=t :: (List.range n).drop (t+1):=by
 rw [List.drop_eq_getElem_cons (by simpa using h)]
 simp
section
variable {p:Pl} {r:Rm} {t:Nat} {gv kv gv' kv':Nat->Int}
theorem Lks.all (h:Lks p r 0 gv kv):Lkd p r gv kv:=⟨h.g,h.k⟩
theorem Lks.none (h:∀ d,d < p.d->gv d=-1/\kv d=-1):Lks p r p.n gv kv:=by
 have e:(List.range p.n).drop p.n=[]:=List.drop_eq_nil_of_le (by simp)
 exact ⟨fun d hd=>by rw [e]; exact (h d hd).1,fun d hd=>by rw [e]; exact (h d hd).2⟩
theorem Lks.next (h:Lks p r (t+1) gv kv) (ht:t < p.n) (hg:∀ d,d < p.d->gv' d=if isG p r d t=true then (t:Int) else gv d) (hk:∀ d,d < p.d->kv' d=if isT p r d t=true then (t:Int) else kv d):Lks p r t gv' kv':=by
 refine ⟨fun d hd=>?_,fun d hd=>?_⟩
 ·rw [drop_r ht,List.find?_cons,hg d hd]
  cases e:isG p r d t with
  | true=>rw [if_pos rfl]; rfl
  | false=>rw [if_neg (by decide)]; exact h.g d hd
 ·rw [drop_r ht,List.find?_cons,hk d hd]
  cases e:isT p r d t with
  | true=>rw [if_pos rfl]; rfl
  | false=>rw [if_neg (by decide)]; exact h.k d hd
theorem isG_1 {a d:Nat} (e:(at_ p r t).k=1) (ea:(at_ p r t).a=(a:Int)):isG p r d t=decide (d=a):=by unfold isG; rw [e,ea]; exact decide_eq_decide.2 ⟨fun h=>by omega,fun h=>⟨rfl,by omega⟩⟩
theorem isG_n {d:Nat} (e:(at_ p r t).k ≠ 1):isG p r d t=false:=decide_eq_false (fun h=>e h.1)
theorem isT_n {d:Nat} (e:(at_ p r t).k ≠ 2) (e2:(at_ p r t).k ≠ 8):isT p r d t=false:=decide_eq_false (fun h=>by omega)
theorem isT_2 {a d:Nat} (e:(at_ p r t).k=2) (ea:(at_ p r t).a=(a:Int)):isT p r d t=decide (d=a):=by unfold isT; rw [e,ea]; exact decide_eq_decide.2 ⟨fun h=>by omega,fun h=>by omega⟩
theorem isT_8 {a b d:Nat} (e:(at_ p r t).k=8) (ea:(at_ p r t).a=(a:Int)) (eb:(at_ p r t).b=(b:Int)):isT p r d t=decide (d=a\/d=b):=by unfold isT; rw [e,ea,eb]; exact decide_eq_decide.2 ⟨fun h=>by omega,fun h=>by omega⟩
theorem upf_if {f:Nat->Int} {a d:Nat} {z:Int}:upf f a z d=if decide (d=a)=true then z else f d:=by unfold upf; by_cases e:d=a <;> simp [e]
end
theorem execSubZ {o:Oper} {a:Act} {w:World} {x:Operand} {m:Nat} (ho:o.op=.binOp .sub 3 x (.const (.int .i64 1)) 3) (hx:a.eval x=.int .i64 ((m:Nat):Int)) (h:m<=1000000):(execOp a.eval o).run Try.prog w=.ok (.value (.int .i64 (((m:Nat):Int) - 1))) w:=by
 have e:IntKind.i64.wrap (((m:Nat):Int) - 1)=((m:Nat):Int) - 1:=by simp [IntKind.wrap,IntKind.bits,IntKind.signed]; omega
 have hc:a.eval (.const (.int .i64 1))=.int .i64 1:=rfl
 unfold execOp
 simp only [ho,hx,hc]
 simp [go_sem,e]
set_option maxRecDepth 100000 in
set_option maxHeartbeats 4000000 in
theorem rlook (U:World) (q:RK) (p:Pl) (cv tz:Value) (xz:Nat->Value) (r:Rm) (gv kv:Nat->Int) (tv hv:Nat->Value) (ow:Nat->Nat) (V:World) (hp:PlV U cv tz xz p) (hU:Below U.heap.size U V) (h:RmM U.heap.size V q p cv tz r gv kv tv hv ow) (hok:Okp p) :
  Calls Try.prog 20 #[.pointer (some ⟨q.g,0,none⟩)] V fun e w'=>e=.returned (.tuple #[])/\(∃ gv' kv',Lkd p r gv' kv'/\RTo U.heap.size V w' q p cv tz r gv' kv' ow)/\Below U.heap.size U w':=by
 have hdd:=hok.d
 have hnn:=hok.n
 go_enter Try.func20,Try.ntmps20
 refine wo_ 77 [(0,.pointer (some ⟨q.g,0,none⟩))] ?_
 rintro a A ⟨t0,-⟩
 have BB:=hU
 have FM:=h
 have FXs:Saved (fun b=>ow b ≠ 0) V V:=Saved.refl _ V
 have FL:∀ b,b < V.heap.size->ow b=ow b:=fun b _=>rfl
 refine wp_seq (wp_seq ?_)
 refine wi_ A (h1_ t0) (rf_ [(2,.int .i64 ((0:Nat):Int))] (h1_ t0) ?_)
 rintro a A ⟨t2,-⟩ ⟨t0,-⟩
 refine wp_block ?_
 refine wp_loop (fun a W=>∃ (i:Nat) (gv kv:Nat->Int),i<=p.d/\(∀ j,j < i->gv j=-1/\kv j=-1)/\(a.tmps.size=77/\a.defers=[])/\a.eval (.tmp 0)=.pointer (some ⟨q.g,0,none⟩)/\a.eval (.tmp 2)=.int .i64 ((i:Nat):Int)/\Below U.heap.size U W/\(RmM U.heap.size W q p cv tz r gv kv tv hv ow)/\(Saved (fun b=>ow b ≠ 0) V W)) (fun a _=>p.d - (intOf (a.eval (.tmp 2))).toNat) ⟨0,gv,kv,Nat.zero_le _,fun j hj=>absurd hj (Nat.not_lt_zero j),A,t0,t2,BB,FM,FXs⟩ ?_
 rintro a XL ⟨i,gv1,kv1,hi,hjj,A,t0,t2,BB,FM,FXs⟩
 have esi:=t2
 refine wp_seq (wp_seq ?_)
 refine wi_ A (h2_ t0 t2) (rv_ 2 (.pointer (some ⟨q.g,0,none⟩)) (fun a E=>execNlm rfl (E _)) (rv_ 3 (.pointer (some ⟨q.g,6,none⟩)) (fun a E=>execRo5 rfl (E _)) (rv_ 4 (sl0 q.H p.d) (fun a E=>execLr rfl (Or.inr (Or.inr (Or.inr (Or.inr (Or.inl rfl))))) (E _) (gR_at FM).2.2.2.2.2.2.1) (rv_ 5 (.int .i64 ((p.d:Nat):Int)) (fun a E=>execLnLL (len:=p.d) rfl (E _) ⟨_,_,rfl⟩) (rv_ 6 (.bool (decide (i < p.d))) (fun a E=>execLtW (p:=i) (q:=p.d) rfl (E _) (E _)) (rf_ [(11,.bool (decide (i < p.d)))] (h2_ t0 t2) ?_))))))
 rintro a A ⟨t11,-⟩ ⟨t0,t2,-⟩
 by_cases lti:i < p.d
 ·rw [decide_eq_true lti] at t11
  refine wp_cond_true t11 (wp_skip ?_)
  clear t11
  refine wp_seq (wp_block ?_)
  refine wp_seq ?_
  refine wi_ A (h2_ t0 t2) (rv_ 1 (.pointer (some ⟨q.g,0,none⟩)) (fun a E=>execNlm rfl (E _)) (rv_ 2 (.pointer (some ⟨q.g,8,none⟩)) (fun a E=>execRo7 rfl (E _)) (rv_ 3 (sl0 q.G p.d) (fun a E=>execLr rfl (Or.inr (Or.inr (Or.inl rfl))) (E _) (gR_at FM).2.2.2.2.2.2.2.2.1) (rv_ 5 (.pointer (some ⟨q.G,0+i,none⟩)) (fun a E=>execIdxN (k:=i) rfl (E _) (E _) lti) (rs_ 6 (fun a E=>?_))))))
  refine stepS rfl rfl (execStR rfl (Or.inl rfl) (E _) rfl (Or.inl ⟨_,rfl⟩) (rA_c FM.hG lti) (frozen4 FM.hG)) ⟨_,⟨_,rfl,rfl⟩,fun X3 hX=>?_⟩
  obtain ⟨BB,FXs,FM2⟩:Below U.heap.size U X3/\(Saved (fun b=>ow b ≠ 0) V X3)/\(RmM U.heap.size X3 q p cv tz r (upf gv1 i (-1)) kv1 tv hv ow):=by subst hX; exact ⟨(BB).setCell (ge_lab h (by rw [h.lG]; decide)) _,(sv_cell9 FXs (Or.inl (by rw [h.lG]; decide))),FM.setG lti⟩
  clear FM hX E a
  refine rf_ [] (h2_ t0 t2) ?_
  rintro a A - ⟨t0,t2,-⟩
  have FM:=FM2
  clear FM2
  refine wi_ A (h2_ t0 t2) (rv_ 1 (.pointer (some ⟨q.g,0,none⟩)) (fun a E=>execNlm rfl (E _)) (rv_ 2 (.pointer (some ⟨q.g,9,none⟩)) (fun a E=>execRo8 rfl (E _)) (rv_ 3 (sl0 q.K p.d) (fun a E=>execLr rfl (Or.inr (Or.inr (Or.inl rfl))) (E _) (gR_at FM).2.2.2.2.2.2.2.2.2.1) (rv_ 5 (.pointer (some ⟨q.K,0+i,none⟩)) (fun a E=>execIdxN (k:=i) rfl (E _) (E _) lti) (rs_ 6 (fun a E=>?_))))))
  refine stepS rfl rfl (execStR rfl (Or.inl rfl) (E _) rfl (Or.inl ⟨_,rfl⟩) (rA_c FM.hK lti) (frozen4 FM.hK)) ⟨_,⟨_,rfl,rfl⟩,fun X4 hX=>?_⟩
  obtain ⟨BB,FXs,FM2⟩:Below U.heap.size U X4/\(Saved (fun b=>ow b ≠ 0) V X4)/\(RmM U.heap.size X4 q p cv tz r (upf gv1 i (-1)) (upf kv1 i (-1)) tv hv ow):=by subst hX; exact ⟨(BB).setCell (ge_lab h (by rw [h.lK]; decide)) _,(sv_cell9 FXs (Or.inl (by rw [h.lK]; decide))),FM.setK lti⟩
  clear FM hX E a
  refine rf_ [] (h2_ t0 t2) ?_
  rintro a A - ⟨t0,t2,-⟩
  have FM:=FM2
  clear FM2
  refine wi_ A (h2_ t0 t2) (rv_ 1 (.int .i64 ((i+1:Nat):Int)) (fun a E=>execAd8 (p:=i) (q:=1) rfl (E _) rfl (by omega)) (rf_ [(2,.int .i64 ((i+1:Nat):Int))] (h1_ t0) ?_))
  rintro a A ⟨t2,-⟩ ⟨t0,-⟩
  exact ⟨⟨i+1,_,_,lti,fun j hj=>by
   by_cases e:j=i
   ·rw [e,upf_at,upf_at]; exact ⟨rfl,rfl⟩
   ·rw [upf_ne _ _ e,upf_ne _ _ e]; exact hjj j (by omega),A,t0,t2,BB,FM,FXs⟩,by show p.d - (intOf (a.eval (.tmp 2))).toNat < p.d - (intOf (Act.eval _ (.tmp 2))).toNat; rw [t2,esi]; show p.d - (i+1) < p.d - i; omega⟩
 ·rw [decide_eq_false lti] at t11
  refine wp_cond_false t11 ?_
  refine wp_exit ?_
  first | with_reducible refine exit_in ?_ | with_reducible refine exit_then (exit_in ?_) | with_reducible refine exit_then (exit_then (exit_in ?_)) | refine exit_in ?_ | refine exit_then (exit_in ?_) | refine exit_then (exit_then (exit_in ?_))
  clear t11 esi t2
  obtain rfl:p.d=i:=by omega
  have hlks:=Lks.none (r:=r) hjj
  clear hjj
  refine wp_seq ?_
  refine wi_ A (h1_ t0) (rv_ 1 (.pointer (some ⟨q.g,0,none⟩)) (fun a E=>execNlm rfl (E _)) (rv_ 2 (.pointer (some ⟨q.g,2,none⟩)) (fun a E=>execRo1 rfl (E _)) (rv_ 3 (sl0 q.P p.n) (fun a E=>execLr rfl (Or.inr (Or.inr (Or.inl rfl))) (E _) (gR_at FM).2.2.1) (rv_ 4 (.int .i64 ((p.n:Nat):Int)) (fun a E=>execLenI (len:=p.n) rfl (E _) ⟨_,_,rfl⟩) (rv_ 5 (.int .i64 (((p.n:Nat):Int) - 1)) (fun a E=>execSubZ rfl (E _) (by omega)) (rf_ [(3,.int .i64 (((p.n:Nat):Int) - 1))] (h1_ t0) ?_))))))
  rintro a A ⟨t3,-⟩ ⟨t0,-⟩
  refine wp_block ?_
  refine wp_loop (fun a W=>∃ (s:Nat) (gv kv:Nat->Int),s<=p.n/\Lks p r s gv kv/\(a.tmps.size=77/\a.defers=[])/\a.eval (.tmp 0)=.pointer (some ⟨q.g,0,none⟩)/\a.eval (.tmp 3)=.int .i64 (((s:Nat):Int) - 1)/\Below U.heap.size U W/\(RmM U.heap.size W q p cv tz r gv kv tv hv ow)/\(Saved (fun b=>ow b ≠ 0) V W)) (fun a _=>(intOf (a.eval (.tmp 3))+1).toNat) ⟨p.n,gv1,kv1,Nat.le_refl _,hlks,A,t0,t3,BB,FM,FXs⟩ ?_
  rintro a XM ⟨s,gv1,kv1,hs,hlks,A,t0,t3,BB,FM,FXs⟩
  have es:=t3
  rcases Nat.eq_zero_or_pos s with hs0 | hs0
  ·refine wp_seq (wp_seq ?_)
   refine wi_ A (h2_ t0 t3) (rv_ 1 (.bool false) (fun a E=>execDec (exIgeq3 (p:=(((s:Nat):Int) - 1)) (q:=0) rfl (E _) rfl) (decide_eq_false (by omega))) (rf_ [(33,.bool false)] (h1_ t0) ?_))
   rintro a A ⟨t33,-⟩ ⟨t0,-⟩
   refine wp_cond_false t33 ?_
   refine wp_exit ?_
   first | with_reducible refine exit_in ?_ | with_reducible refine exit_then (exit_in ?_) | with_reducible refine exit_then (exit_then (exit_in ?_)) | refine exit_in ?_ | refine exit_then (exit_in ?_) | refine exit_then (exit_then (exit_in ?_))
   subst hs0
   exact bodyPost_end (results_none rfl _ _ _) A.2 ⟨rfl,⟨gv1,kv1,hlks.all,⟨⟨_,_,_,FM,fun b _=>rfl⟩,FXs⟩⟩,BB⟩
  ·obtain ⟨t,rfl⟩:∃ t,s=t+1:=⟨s - 1,by omega⟩
   have ht:t < p.n:=by omega
   replace t3:a.eval (.tmp 3)=.int .i64 ((t:Nat):Int):=t3.trans (congrArg (Value.int .i64) (by omega))
   refine wp_seq (wp_seq ?_)
   refine wi_ A (h2_ t0 t3) (rv_ 1 (.bool true) (fun a E=>execDec (exIgeq3 (p:=((t:Nat):Int)) (q:=0) rfl (E _) rfl) (decide_eq_true (by omega))) (rf_ [(33,.bool true)] (h2_ t0 t3) ?_))
   rintro a A ⟨t33,-⟩ ⟨t0,t3,-⟩
   refine wp_cond_true t33 (wp_skip ?_)
   clear t33
   refine wp_seq (wp_block ?_)
   refine wp_seq ?_
   refine wi_ A (h2_ t0 t3) (rc_ 2 (rat U.heap.size q p cv tz xz r gv1 kv1 tv hv ow XM (hp.on BB) FM t ht) (cb_ fun X8_1 bQ=>?_))
   replace FM:=(FM.on bQ)
   replace FXs:=(FXs.below bQ FXs.size)
   replace BB:=BB.trans (bQ.mono BB.size)
   clear bQ
   obtain ⟨g4,egg4⟩:∃ z_:Nat,X8_1.heap.size=z_:=⟨_,rfl⟩
   refine rs_ 3 (fun a E=>?_)
   refine stepV rfl rfl (execAlO rfl) ⟨.pointer (some ⟨g4,0,none⟩),⟨_,rfl,by subst egg4; rfl⟩,fun X8_2 hX=>?_⟩
   have bQ:Below X8_1.heap.size X8_1 X8_2:=by subst hX egg4; exact (belNew X8_1 _)
   have FO0:(X8_2.heap[g4]?=some (.cells (oC 0 0 0) 59)):=by subst hX egg4; exact heapNew X8_1 _
   have Fgo:(V.heap.size<=g4):=by subst hX egg4; exact FXs.size
   have Fgu:(U.heap.size<=g4):=by subst hX egg4; exact (BB).size
   replace FM:=(FM.on bQ)
   replace FXs:=(FXs.below bQ FXs.size)
   replace BB:=BB.trans (bQ.mono BB.size)
   clear bQ hX egg4 E a
   refine rs_ 4 (fun a E=>?_)
   refine stepS rfl rfl (execStO rfl (E _) (E _) FO0) ⟨_,⟨_,rfl,rfl⟩,fun X8 hX=>?_⟩
   obtain ⟨BB,FM,FXs,FO⟩:Below U.heap.size U X8/\(RmM U.heap.size X8 q p cv tz r gv1 kv1 tv hv ow)/\(Saved (fun b=>ow b ≠ 0) V X8)/\(X8.heap[g4]?=some (.cells (oC (at_ p r t).k (at_ p r t).a (at_ p r t).b) 59)):=by subst hX; exact ⟨below4 BB Fgu _,(FM.rowO FO0 (by decide)),(sv_row19 FXs Fgo _),setRow_heap _ _ _ _ _ _ FO0⟩
   clear FO0 hX E a
   refine rf_ [(4,.pointer (some ⟨g4,0,none⟩))] (h2_ t0 t3) ?_
   rintro a A ⟨t4,-⟩ ⟨t0,t3,-⟩
   by_cases ek:(at_ p r t).k=1
   ·obtain ⟨d,ea,hd⟩:=nat_of9 (rgt_put (at_ok hok ht (by omega)) (Or.inl ek))
    rw [ek,ea] at FO
    refine wp_seq (wp_seq ?_)
    refine wi_ A (h3_ t0 t3 t4) (rv_ 0 (.pointer (some ⟨g4,0,none⟩)) (fun a E=>execOf0 rfl (E _)) (rv_ 1 (.int .i64 1) (fun a E=>execLr rfl (Or.inl rfl) (E _) (oC_at FO).1) (rv_ 2 (.bool true) (fun a E=>execDec (exIeql3 (p:=1) (q:=1) rfl (E _) rfl) (decide_eq_true (by decide))) (rf_ [(41,.bool true)] (h3_ t0 t3 t4) ?_))))
    rintro a A ⟨t41,-⟩ ⟨t0,t3,t4,-⟩
    refine wp_cond_true t41 ?_
    clear t41
    refine wj_ [0,1,2,3,4,5,6,7,8] [8] [3,5] [8] A (h3_ t0 t3 t4) (fun X10_0 bD=>?_)
    refine dw_ 1 (.pointer (some ⟨q.g,0,none⟩)) (fun a X E=>execNlm rfl (E _)) (dw_ 2 (.pointer (some ⟨q.g,8,none⟩)) (fun a X E=>execRo7 rfl (E _)) (dv_ 3 (sl0 q.G p.d) (fun a X E hb=>execLr rfl (Or.inr (Or.inr (Or.inl rfl))) (E _) (gR_at (FM.on hb)).2.2.2.2.2.2.2.2.1) (dw_ 4 (.pointer (some ⟨g4,1,none⟩)) (fun a X E=>execOf1 rfl (E _)) (dv_ 5 (.int .i64 ((d:Nat):Int)) (fun a X E hb=>execLr rfl (Or.inl rfl) (E _) (oC_at (on9 FO hb)).2.1) (dw_ 7 (.pointer (some ⟨q.G,0+d,none⟩)) (fun a X E=>execIdxN (k:=d) rfl (E _) (E _) hd) (ds_ 8 (fun a E=>?_)))))))
    refine stepS rfl rfl (execStR rfl (Or.inl rfl) (E _) (E _) (Or.inl ⟨_,rfl⟩) (rA_c (FM.on bD).hG hd) (frozen4 (FM.on bD).hG)) ⟨_,⟨_,rfl,rfl⟩,fun X10 hX=>?_⟩
    obtain ⟨BB,FXs,FO,FM2⟩:Below U.heap.size U X10/\(Saved (fun b=>ow b ≠ 0) V X10)/\(X10.heap[g4]?=some (.cells (oC 1 ((d:Nat):Int) (at_ p r t).b) 59))/\(RmM U.heap.size X10 q p cv tz r (upf gv1 d ((t:Nat):Int)) kv1 tv hv ow):=by subst hX; exact ⟨((BB.trans (bD.mono BB.size))).setCell (ge_lab h (by rw [h.lG]; decide)) _,(sv_cell9 (FXs.below bD FXs.size) (Or.inl (by rw [h.lG]; decide))),(keepT19 (on9 FO bD) (FM.on bD).hG (by decide) grC19),(FM.on bD).setG hd⟩
    clear bD FM hX E a
    refine ⟨Or.inl rfl,?_⟩
    refine dz_ [] (h3_ t0 t3 t4) ?_
    rintro a A - ⟨t0,t3,t4,-⟩
    have FM:=FM2
    clear FM2
    refine wp_seq (wp_seq ?_)
    refine wi_ A (h3_ t0 t3 t4) (rv_ 0 (.pointer (some ⟨g4,0,none⟩)) (fun a E=>execOf0 rfl (E _)) (rv_ 1 (.int .i64 1) (fun a E=>execLr rfl (Or.inl rfl) (E _) (oC_at FO).1) (rv_ 2 (.bool false) (fun a E=>execDec (exIeql3 (p:=1) (q:=2) rfl (E _) rfl) (decide_eq_false (by decide))) (rv_ 4 (.pointer (some ⟨g4,0,none⟩)) (fun a E=>execOf0 rfl (E _)) (rv_ 5 (.int .i64 1) (fun a E=>execLr rfl (Or.inl rfl) (E _) (oC_at FO).1) (rv_ 6 (.bool false) (fun a E=>execDec (exIeql3 (p:=1) (q:=8) rfl (E _) rfl) (decide_eq_false (by decide))) (rf_ [(57,.bool false)] (h3_ t0 t3 t4) ?_)))))))
    rintro a A ⟨t57,-⟩ ⟨t0,t3,t4,-⟩
    refine wp_cond_false t57 (wp_skip ?_)
    clear t57
    refine wp_seq ?_
    refine wi_ A (h3_ t0 t3 t4) (rv_ 0 (.pointer (some ⟨g4,0,none⟩)) (fun a E=>execOf0 rfl (E _)) (rv_ 1 (.int .i64 1) (fun a E=>execLr rfl (Or.inl rfl) (E _) (oC_at FO).1) (rv_ 2 (.bool false) (fun a E=>execDec (exIeql3 (p:=1) (q:=8) rfl (E _) rfl) (decide_eq_false (by decide))) (rf_ [(68,.bool false)] (h3_ t0 t3 t4) ?_))))
    rintro a A ⟨t68,-⟩ ⟨t0,t3,t4,-⟩
    refine wp_cond_false t68 (wp_skip ?_)
    clear t68
    clear FO
    refine wi_ A (h3_ t0 t3 t4) (rv_ 1 (.int .i64 (((t:Nat):Int) - 1)) (fun a E=>execSubZ rfl (E _) (by omega)) (rf_ [(3,.int .i64 (((t:Nat):Int) - 1))] (h1_ t0) ?_))
    rintro a A ⟨t3,-⟩ ⟨t0,-⟩
    exact ⟨⟨t,_,_,by omega,hlks.next ht (fun d2 _=>by rw [isG_1 ek ea,upf_if]) (fun d2 _=>by rw [isT_n (by omega) (by omega),if_neg (by decide)]),A,t0,t3,BB,FM,FXs⟩,by show (intOf (a.eval (.tmp 3))+1).toNat < (intOf (Act.eval _ (.tmp 3))+1).toNat; rw [t3,es]; show (((t:Nat):Int) - 1+1).toNat < ((((t+1:Nat):Nat):Int) - 1+1).toNat; omega⟩
   have k1:=ek
   clear ek
   by_cases ek:(at_ p r t).k=2
   ·obtain ⟨d,ea,hd⟩:=nat_of9 (rgt_take (at_ok hok ht (by omega)) ek).1
    rw [ek,ea] at FO
    refine wp_seq (wp_seq ?_)
    refine wi_ A (h3_ t0 t3 t4) (rv_ 0 (.pointer (some ⟨g4,0,none⟩)) (fun a E=>execOf0 rfl (E _)) (rv_ 1 (.int .i64 2) (fun a E=>execLr rfl (Or.inl rfl) (E _) (oC_at FO).1) (rv_ 2 (.bool false) (fun a E=>execDec (exIeql3 (p:=2) (q:=1) rfl (E _) rfl) (decide_eq_false (by decide))) (rf_ [(41,.bool false)] (h3_ t0 t3 t4) ?_))))
    rintro a A ⟨t41,-⟩ ⟨t0,t3,t4,-⟩
    refine wp_cond_false t41 (wp_skip ?_)
    clear t41
    refine wp_seq (wp_seq ?_)
    refine wi_ A (h3_ t0 t3 t4) (rv_ 0 (.pointer (some ⟨g4,0,none⟩)) (fun a E=>execOf0 rfl (E _)) (rv_ 1 (.int .i64 2) (fun a E=>execLr rfl (Or.inl rfl) (E _) (oC_at FO).1) (rv_ 2 (.bool true) (fun a E=>execDec (exIeql3 (p:=2) (q:=2) rfl (E _) rfl) (decide_eq_true (by decide))) (rf_ [(57,.bool true)] (h3_ t0 t3 t4) ?_))))
    rintro a A ⟨t57,-⟩ ⟨t0,t3,t4,-⟩
    refine wp_cond_true t57 ?_
    clear t57
    refine wj_ [0,1,2,3,4,5,6,7,8] [8] [3,5] [8] A (h3_ t0 t3 t4) (fun X12_0 bD=>?_)
    refine dw_ 1 (.pointer (some ⟨q.g,0,none⟩)) (fun a X E=>execNlm rfl (E _)) (dw_ 2 (.pointer (some ⟨q.g,9,none⟩)) (fun a X E=>execRo8 rfl (E _)) (dv_ 3 (sl0 q.K p.d) (fun a X E hb=>execLr rfl (Or.inr (Or.inr (Or.inl rfl))) (E _) (gR_at (FM.on hb)).2.2.2.2.2.2.2.2.2.1) (dw_ 4 (.pointer (some ⟨g4,1,none⟩)) (fun a X E=>execOf1 rfl (E _)) (dv_ 5 (.int .i64 ((d:Nat):Int)) (fun a X E hb=>execLr rfl (Or.inl rfl) (E _) (oC_at (on9 FO hb)).2.1) (dw_ 7 (.pointer (some ⟨q.K,0+d,none⟩)) (fun a X E=>execIdxN (k:=d) rfl (E _) (E _) hd) (ds_ 8 (fun a E=>?_)))))))
    refine stepS rfl rfl (execStR rfl (Or.inl rfl) (E _) (E _) (Or.inl ⟨_,rfl⟩) (rA_c (FM.on bD).hK hd) (frozen4 (FM.on bD).hK)) ⟨_,⟨_,rfl,rfl⟩,fun X12 hX=>?_⟩
    obtain ⟨BB,FXs,FO,FM2⟩:Below U.heap.size U X12/\(Saved (fun b=>ow b ≠ 0) V X12)/\(X12.heap[g4]?=some (.cells (oC 2 ((d:Nat):Int) (at_ p r t).b) 59))/\(RmM U.heap.size X12 q p cv tz r gv1 (upf kv1 d ((t:Nat):Int)) tv hv ow):=by subst hX; exact ⟨((BB.trans (bD.mono BB.size))).setCell (ge_lab h (by rw [h.lK]; decide)) _,(sv_cell9 (FXs.below bD FXs.size) (Or.inl (by rw [h.lK]; decide))),(keepT19 (on9 FO bD) (FM.on bD).hK (by decide) grC19),(FM.on bD).setK hd⟩
    clear bD FM hX E a
    refine ⟨Or.inl rfl,?_⟩
    refine dz_ [] (h3_ t0 t3 t4) ?_
    rintro a A - ⟨t0,t3,t4,-⟩
    have FM:=FM2
    clear FM2
    refine wp_seq ?_
    refine wi_ A (h3_ t0 t3 t4) (rv_ 0 (.pointer (some ⟨g4,0,none⟩)) (fun a E=>execOf0 rfl (E _)) (rv_ 1 (.int .i64 2) (fun a E=>execLr rfl (Or.inl rfl) (E _) (oC_at FO).1) (rv_ 2 (.bool false) (fun a E=>execDec (exIeql3 (p:=2) (q:=8) rfl (E _) rfl) (decide_eq_false (by decide))) (rf_ [(68,.bool false)] (h3_ t0 t3 t4) ?_))))
    rintro a A ⟨t68,-⟩ ⟨t0,t3,t4,-⟩
    refine wp_cond_false t68 (wp_skip ?_)
    clear t68
    clear FO
    refine wi_ A (h3_ t0 t3 t4) (rv_ 1 (.int .i64 (((t:Nat):Int) - 1)) (fun a E=>execSubZ rfl (E _) (by omega)) (rf_ [(3,.int .i64 (((t:Nat):Int) - 1))] (h1_ t0) ?_))
    rintro a A ⟨t3,-⟩ ⟨t0,-⟩
    exact ⟨⟨t,_,_,by omega,hlks.next ht (fun d2 _=>by rw [isG_n (by omega),if_neg (by decide)]) (fun d2 _=>by rw [isT_2 ek ea,upf_if]),A,t0,t3,BB,FM,FXs⟩,by show (intOf (a.eval (.tmp 3))+1).toNat < (intOf (Act.eval _ (.tmp 3))+1).toNat; rw [t3,es]; show (((t:Nat):Int) - 1+1).toNat < ((((t+1:Nat):Nat):Int) - 1+1).toNat; omega⟩
   have k2:=ek
   clear ek
   by_cases ek:(at_ p r t).k=8
   ·obtain ⟨d,ea,hd⟩:=nat_of9 (rgt_choose (at_ok hok ht (by omega)) ek).1
    obtain ⟨f,eb,hf⟩:=nat_of9 (rgt_choose (at_ok hok ht (by omega)) ek).2
    rw [ek,ea,eb] at FO
    refine wp_seq (wp_seq ?_)
    refine wi_ A (h3_ t0 t3 t4) (rv_ 0 (.pointer (some ⟨g4,0,none⟩)) (fun a E=>execOf0 rfl (E _)) (rv_ 1 (.int .i64 8) (fun a E=>execLr rfl (Or.inl rfl) (E _) (oC_at FO).1) (rv_ 2 (.bool false) (fun a E=>execDec (exIeql3 (p:=8) (q:=1) rfl (E _) rfl) (decide_eq_false (by decide))) (rf_ [(41,.bool false)] (h3_ t0 t3 t4) ?_))))
    rintro a A ⟨t41,-⟩ ⟨t0,t3,t4,-⟩
    refine wp_cond_false t41 (wp_skip ?_)
    clear t41
    refine wp_seq (wp_seq ?_)
    refine wi_ A (h3_ t0 t3 t4) (rv_ 0 (.pointer (some ⟨g4,0,none⟩)) (fun a E=>execOf0 rfl (E _)) (rv_ 1 (.int .i64 8) (fun a E=>execLr rfl (Or.inl rfl) (E _) (oC_at FO).1) (rv_ 2 (.bool false) (fun a E=>execDec (exIeql3 (p:=8) (q:=2) rfl (E _) rfl) (decide_eq_false (by decide))) (rv_ 4 (.pointer (some ⟨g4,0,none⟩)) (fun a E=>execOf0 rfl (E _)) (rv_ 5 (.int .i64 8) (fun a E=>execLr rfl (Or.inl rfl) (E _) (oC_at FO).1) (rv_ 6 (.bool true) (fun a E=>execDec (exIeql3 (p:=8) (q:=8) rfl (E _) rfl) (decide_eq_true (by decide))) (rf_ [(57,.bool true)] (h3_ t0 t3 t4) ?_)))))))
    rintro a A ⟨t57,-⟩ ⟨t0,t3,t4,-⟩
    refine wp_cond_true t57 ?_
    clear t57
    refine wj_ [0,1,2,3,4,5,6,7,8] [8] [3,5] [8] A (h3_ t0 t3 t4) (fun X12_0 bD=>?_)
    refine dw_ 1 (.pointer (some ⟨q.g,0,none⟩)) (fun a X E=>execNlm rfl (E _)) (dw_ 2 (.pointer (some ⟨q.g,9,none⟩)) (fun a X E=>execRo8 rfl (E _)) (dv_ 3 (sl0 q.K p.d) (fun a X E hb=>execLr rfl (Or.inr (Or.inr (Or.inl rfl))) (E _) (gR_at (FM.on hb)).2.2.2.2.2.2.2.2.2.1) (dw_ 4 (.pointer (some ⟨g4,1,none⟩)) (fun a X E=>execOf1 rfl (E _)) (dv_ 5 (.int .i64 ((d:Nat):Int)) (fun a X E hb=>execLr rfl (Or.inl rfl) (E _) (oC_at (on9 FO hb)).2.1) (dw_ 7 (.pointer (some ⟨q.K,0+d,none⟩)) (fun a X E=>execIdxN (k:=d) rfl (E _) (E _) hd) (ds_ 8 (fun a E=>?_)))))))
    refine stepS rfl rfl (execStR rfl (Or.inl rfl) (E _) (E _) (Or.inl ⟨_,rfl⟩) (rA_c (FM.on bD).hK hd) (frozen4 (FM.on bD).hK)) ⟨_,⟨_,rfl,rfl⟩,fun X12 hX=>?_⟩
    obtain ⟨BB,FXs,FO,FM2⟩:Below U.heap.size U X12/\(Saved (fun b=>ow b ≠ 0) V X12)/\(X12.heap[g4]?=some (.cells (oC 8 ((d:Nat):Int) ((f:Nat):Int)) 59))/\(RmM U.heap.size X12 q p cv tz r gv1 (upf kv1 d ((t:Nat):Int)) tv hv ow):=by subst hX; exact ⟨((BB.trans (bD.mono BB.size))).setCell (ge_lab h (by rw [h.lK]; decide)) _,(sv_cell9 (FXs.below bD FXs.size) (Or.inl (by rw [h.lK]; decide))),(keepT19 (on9 FO bD) (FM.on bD).hK (by decide) grC19),(FM.on bD).setK hd⟩
    clear bD FM hX E a
    refine ⟨Or.inl rfl,?_⟩
    refine dz_ [] (h3_ t0 t3 t4) ?_
    rintro a A - ⟨t0,t3,t4,-⟩
    have FM:=FM2
    clear FM2
    refine wp_seq ?_
    refine wi_ A (h3_ t0 t3 t4) (rv_ 0 (.pointer (some ⟨g4,0,none⟩)) (fun a E=>execOf0 rfl (E _)) (rv_ 1 (.int .i64 8) (fun a E=>execLr rfl (Or.inl rfl) (E _) (oC_at FO).1) (rv_ 2 (.bool true) (fun a E=>execDec (exIeql3 (p:=8) (q:=8) rfl (E _) rfl) (decide_eq_true (by decide))) (rf_ [(68,.bool true)] (h3_ t0 t3 t4) ?_))))
    rintro a A ⟨t68,-⟩ ⟨t0,t3,t4,-⟩
    refine wp_cond_true t68 ?_
    clear t68
    refine wj_ [0,1,2,3,4,5,6,7,8] [8] [3,5] [8] A (h3_ t0 t3 t4) (fun X14_0 bD=>?_)
    refine dw_ 1 (.pointer (some ⟨q.g,0,none⟩)) (fun a X E=>execNlm rfl (E _)) (dw_ 2 (.pointer (some ⟨q.g,9,none⟩)) (fun a X E=>execRo8 rfl (E _)) (dv_ 3 (sl0 q.K p.d) (fun a X E hb=>execLr rfl (Or.inr (Or.inr (Or.inl rfl))) (E _) (gR_at (FM.on hb)).2.2.2.2.2.2.2.2.2.1) (dw_ 4 (.pointer (some ⟨g4,2,none⟩)) (fun a X E=>execOf2 rfl (E _)) (dv_ 5 (.int .i64 ((f:Nat):Int)) (fun a X E hb=>execLr rfl (Or.inl rfl) (E _) (oC_at (on9 FO hb)).2.2) (dw_ 7 (.pointer (some ⟨q.K,0+f,none⟩)) (fun a X E=>execIdxN (k:=f) rfl (E _) (E _) hf) (ds_ 8 (fun a E=>?_)))))))
    refine stepS rfl rfl (execStR rfl (Or.inl rfl) (E _) (E _) (Or.inl ⟨_,rfl⟩) (rA_c (FM.on bD).hK hf) (frozen4 (FM.on bD).hK)) ⟨_,⟨_,rfl,rfl⟩,fun X14 hX=>?_⟩
    obtain ⟨BB,FXs,FO,FM2⟩:Below U.heap.size U X14/\(Saved (fun b=>ow b ≠ 0) V X14)/\(X14.heap[g4]?=some (.cells (oC 8 ((d:Nat):Int) ((f:Nat):Int)) 59))/\(RmM U.heap.size X14 q p cv tz r gv1 (upf (upf kv1 d ((t:Nat):Int)) f ((t:Nat):Int)) tv hv ow):=by subst hX; exact ⟨((BB.trans (bD.mono BB.size))).setCell (ge_lab h (by rw [h.lK]; decide)) _,(sv_cell9 (FXs.below bD FXs.size) (Or.inl (by rw [h.lK]; decide))),(keepT19 (on9 FO bD) (FM.on bD).hK (by decide) grC19),(FM.on bD).setK hf⟩
    clear bD FM hX E a
    refine ⟨Or.inl rfl,?_⟩
    refine dz_ [] (h3_ t0 t3 t4) ?_
    rintro a A - ⟨t0,t3,t4,-⟩
    have FM:=FM2
    clear FM2
    clear FO
    refine wi_ A (h3_ t0 t3 t4) (rv_ 1 (.int .i64 (((t:Nat):Int) - 1)) (fun a E=>execSubZ rfl (E _) (by omega)) (rf_ [(3,.int .i64 (((t:Nat):Int) - 1))] (h1_ t0) ?_))
    rintro a A ⟨t3,-⟩ ⟨t0,-⟩
    exact ⟨⟨t,_,_,by omega,hlks.next ht (fun d2 _=>by rw [isG_n (by omega),if_neg (by decide)]) (fun d2 _=>by rw [isT_8 ek ea eb]; unfold upf; by_cases e1:d2=f <;> by_cases e2:d2=d <;> simp [e1,e2]),A,t0,t3,BB,FM,FXs⟩,by show (intOf (a.eval (.tmp 3))+1).toNat < (intOf (Act.eval _ (.tmp 3))+1).toNat; rw [t3,es]; show (((t:Nat):Int) - 1+1).toNat < ((((t+1:Nat):Nat):Int) - 1+1).toNat; omega⟩
   refine wp_seq (wp_seq ?_)
   refine wi_ A (h3_ t0 t3 t4) (rv_ 0 (.pointer (some ⟨g4,0,none⟩)) (fun a E=>execOf0 rfl (E _)) (rv_ 1 (.int .i64 (at_ p r t).k) (fun a E=>execLr rfl (Or.inl rfl) (E _) (oC_at FO).1) (rv_ 2 (.bool false) (fun a E=>execDec (exIeql3 (p:=(at_ p r t).k) (q:=1) rfl (E _) rfl) (decide_eq_false (by omega))) (rf_ [(41,.bool false)] (h3_ t0 t3 t4) ?_))))
   rintro a A ⟨t41,-⟩ ⟨t0,t3,t4,-⟩
   refine wp_cond_false t41 (wp_skip ?_)
   clear t41
   refine wp_seq (wp_seq ?_)
   refine wi_ A (h3_ t0 t3 t4) (rv_ 0 (.pointer (some ⟨g4,0,none⟩)) (fun a E=>execOf0 rfl (E _)) (rv_ 1 (.int .i64 (at_ p r t).k) (fun a E=>execLr rfl (Or.inl rfl) (E _) (oC_at FO).1) (rv_ 2 (.bool false) (fun a E=>execDec (exIeql3 (p:=(at_ p r t).k) (q:=2) rfl (E _) rfl) (decide_eq_false (by omega))) (rv_ 4 (.pointer (some ⟨g4,0,none⟩)) (fun a E=>execOf0 rfl (E _)) (rv_ 5 (.int .i64 (at_ p r t).k) (fun a E=>execLr rfl (Or.inl rfl) (E _) (oC_at FO).1) (rv_ 6 (.bool false) (fun a E=>execDec (exIeql3 (p:=(at_ p r t).k) (q:=8) rfl (E _) rfl) (decide_eq_false (by omega))) (rf_ [(57,.bool false)] (h3_ t0 t3 t4) ?_)))))))
   rintro a A ⟨t57,-⟩ ⟨t0,t3,t4,-⟩
   refine wp_cond_false t57 (wp_skip ?_)
   clear t57
   refine wp_seq ?_
   refine wi_ A (h3_ t0 t3 t4) (rv_ 0 (.pointer (some ⟨g4,0,none⟩)) (fun a E=>execOf0 rfl (E _)) (rv_ 1 (.int .i64 (at_ p r t).k) (fun a E=>execLr rfl (Or.inl rfl) (E _) (oC_at FO).1) (rv_ 2 (.bool false) (fun a E=>execDec (exIeql3 (p:=(at_ p r t).k) (q:=8) rfl (E _) rfl) (decide_eq_false (by omega))) (rf_ [(68,.bool false)] (h3_ t0 t3 t4) ?_))))
   rintro a A ⟨t68,-⟩ ⟨t0,t3,t4,-⟩
   refine wp_cond_false t68 (wp_skip ?_)
   clear t68
   clear FO
   refine wi_ A (h3_ t0 t3 t4) (rv_ 1 (.int .i64 (((t:Nat):Int) - 1)) (fun a E=>execSubZ rfl (E _) (by omega)) (rf_ [(3,.int .i64 (((t:Nat):Int) - 1))] (h1_ t0) ?_))
   rintro a A ⟨t3,-⟩ ⟨t0,-⟩
   exact ⟨⟨t,_,_,by omega,hlks.next ht (fun d2 _=>by rw [isG_n (by omega),if_neg (by decide)]) (fun d2 _=>by rw [isT_n (by omega) (by omega),if_neg (by decide)]),A,t0,t3,BB,FM,FXs⟩,by show (intOf (a.eval (.tmp 3))+1).toNat < (intOf (Act.eval _ (.tmp 3))+1).toNat; rw [t3,es]; show (((t:Nat):Int) - 1+1).toNat < ((((t+1:Nat):Nat):Int) - 1+1).toNat; omega⟩
end Go.Proofs.Ytjjegmflllpknaa.Loo
