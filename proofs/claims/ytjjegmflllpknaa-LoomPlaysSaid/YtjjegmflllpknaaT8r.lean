import Derived.Test.YtjjegmflllpknaaT8q
namespace Go.Proofs.Ytjjegmflllpknaa.Loo
open Go.RowKit Gf8 Aes By8 Cel Cf Win Drw Prm
/- LoomPlays: the reference's step. Written by tools/mkT8r.py. -/
section
variable {B:Nat} {W X:World} {q:RK} {p:Pl} {cv tz:Value} {r:Rm} {gv kv:Nat->Int} {tv hv:Nat->Value} {ow:Nat->Nat}
theorem RmM.rowO (h:RmM B W q p cv tz r gv kv tv hv ow) {g:Nat} {c c':Array Value} {t:TypeId} (hg:W.heap[g]?=some (.cells c t)) (ht:t ≠ 3/\t ≠ 4/\t ≠ 22/\t ≠ 57):RmM B (W.setRow g c') q p cv tz r gv kv tv hv ow:=by
 have hh:∀ {v:Value} {l:List Int},Hd B W v l->Hd B (W.setRow g c') v l:=fun {v l} h1=>h1.keep fun b hb=>grR19.block b (h1.lt b hb).2 (fun e=>by
  obtain ⟨cur,hc⟩:=h1.ty b hb
  have e':b=g:=Option.some.inj e
  rw [e',hg] at hc
  injection hc with hc
  injection hc with _ hc _
  exact ht.1 hc)
 exact ⟨keepT19 h.hg hg ht.2.2.2 grR19,keepT19 h.hP hg ht.1 grR19,keepT19 h.hR hg ht.1 grR19,keepT19 h.hE hg ht.2.1 grR19,keepT19 h.hT hg ht.2.2.1 grR19,keepT19 h.hH hg ht.2.2.1 grR19,keepT19 h.hC hg ht.2.1 grR19,keepT19 h.hG hg ht.1 grR19,keepT19 h.hK hg ht.1 grR19,fun t ht2=>hh (h.tk t ht2),fun t ht2=>hh (h.hd t ht2),h.lg,h.lP,h.lR,h.lE,h.lT,h.lH,h.lC,h.lG,h.lK,h.ltk,h.lhd,h.low,Nat.le_trans h.le grR19.size⟩
end
section
variable {p:Pl} {r:Rm} {t d f:Nat}
theorem stp_1 (e:(at_ p r t).k=1) (a:(at_ p r t).a=(d:Int)):stp p r t=pt_ p r t d:=by unfold stp; simp [e,a]
theorem stp_2 (e:(at_ p r t).k=2) (a:(at_ p r t).a=(d:Int)) (b:(at_ p r t).b=(f:Int)):stp p r t=if rdy p r d=true then frm p r t d else { r with pl:=upf r.pl t f }:=by unfold stp; simp [e,a,b]
theorem stp_8 (e:(at_ p r t).k=8) (a:(at_ p r t).a=(d:Int)) (b:(at_ p r t).b=(f:Int)):stp p r t=if rdy p r d=true then frm p r t d else if rdy p r f=true then frm p r t f else if 0<=r.rg t/\r.rg t<=p.ln t then { r with pl:=upf r.pl t (r.rg t).toNat } else { r with en:=upf r.en t true }:=by unfold stp; simp [e,a,b]
theorem stp_6 (e:(at_ p r t).k=6) (a:(at_ p r t).a=(d:Int)):stp p r t={ r with pl:=upf r.pl t d }:=by unfold stp; simp [e,a]
theorem stp_7 (e:(at_ p r t).k=7) (a:(at_ p r t).a=(d:Int)):stp p r t=if r.rg t ≠ (at_ p r t).b then { r with pl:=upf r.pl t d } else on_ r t:=by unfold stp; simp [e,a]
theorem stp_3 (e:(at_ p r t).k=3) (a:(at_ p r t).a=(d:Int)):stp p r t={ on_ r t with cl:=upf r.cl d true,lt:=if r.cl d=true then r.lt+1 else r.lt }:=by unfold stp; simp [e,a]
theorem stp_4 (e:(at_ p r t).k=4):stp p r t={ on_ r t with rg:=upf r.rg t (at_ p r t).a }:=by unfold stp; simp [e]
theorem stp_5 (e:(at_ p r t).k=5):stp p r t={ on_ r t with rg:=upf r.rg t (r.rg t+(at_ p r t).a) }:=by unfold stp; simp [e]
theorem stp_10 (e:(at_ p r t).k=10):stp p r t={ on_ r t with en:=upf r.en t true }:=by unfold stp; simp [e]
theorem stp_9 (e:(at_ p r t).k=9):stp p r t=on_ r t:=by unfold stp; simp [e]
end
theorem execAddZ {o:Oper} {a:Act} {w:World} {x y:Operand} {m n:Int} (ho:o.op=.binOp .add 3 x y 3) (hx:a.eval x=.int .i64 m) (hy:a.eval y=.int .i64 n) (h:-1000000000<=m+n/\m+n<=1000000000):(execOp a.eval o).run Try.prog w=.ok (.value (.int .i64 (m+n))) w:=by
 have e:IntKind.i64.wrap (m+n)=m+n:=by simp [IntKind.wrap,IntKind.bits,IntKind.signed]; omega
 unfold execOp
 simp only [ho,hx,hy]
 simp [go_sem,e]
theorem rdy_g {p:Pl} {r:Rm} {d:Nat} (h:rdy p r d=true):r.hd d=[]->(giv p r d).isSome=true:=fun e=>by
 unfold rdy mts at h
 rw [e] at h
 simp only [List.length_nil,Nat.lt_irrefl,decide_false,Bool.false_or,Bool.and_eq_true] at h
 exact h.2
theorem rgt_9 {o:Op3} {ops d n:Nat} (h:rgt o ops d n=true) (hk:o.k ≠ 1/\o.k ≠ 2/\o.k ≠ 8/\o.k ≠ 6/\o.k ≠ 7/\o.k ≠ 3/\o.k ≠ 4/\o.k ≠ 5/\o.k ≠ 10):o.k=9:=by
 unfold rgt at h
 rw [if_neg (by omega),if_neg (by omega),if_neg (by omega),if_neg (by omega),if_neg (by omega),if_neg (by omega)] at h
 by_cases e:o.k=9
 ·exact e
 ·rw [if_neg e] at h
  exact absurd (of_decide_eq_true h) hk.2.2.2.2.2.2.2.2
set_option maxRecDepth 100000 in
set_option maxHeartbeats 4000000 in
theorem rstep (U:World) (q:RK) (p:Pl) (cv tz:Value) (xz:Nat->Value) (r:Rm) (gv kv:Nat->Int) (tv hv:Nat->Value) (ow:Nat->Nat) (V:World) (hp:PlV U cv tz xz p) (hU:Below U.heap.size U V) (h:RmM U.heap.size V q p cv tz r gv kv tv hv ow) (t k:Nat) (ht:t < p.n) (hok:Okp p) (hB:Bnd p k r) (hk:k<=65536) (hlk:Lkd p r gv kv) (hmay:may p r t=true) :
  Calls Try.prog 24 #[.pointer (some ⟨q.g,0,none⟩),.int .i64 ((t:Nat):Int)] V fun e w'=>e=.returned (.tuple #[])/\RTo U.heap.size V w' q p cv tz (stp p r t) gv kv ow/\Below U.heap.size U w':=by
 have hpl3:∀ g,g < p.n->r.pl g<=60000:=fun g hg=>by have:=hB.pl g hg; have:=hok.ln g hg; omega
 have hpt:r.pl t<=65536:=by have:=hpl3 t ht; omega
 have hl3:∀ t,(r.tk t).length<=65536:=fun t=>by have:=hB.ln t; omega
 have hl:=hl3 t
 have hlate:r.lt<=65536:=by have:=hB.lt; omega
 have k0:(at_ p r t).k ≠ 0:=fun e=>by rw [may_0 e] at hmay; cases hmay
 have hr_:=at_ok hok ht k0
 go_enter Try.func24,Try.ntmps24
 refine wo_ 189 [(0,.pointer (some ⟨q.g,0,none⟩)),(1,.int .i64 ((t:Nat):Int))] ?_
 rintro a A ⟨t0,t1,-⟩
 have BB:=hU
 have FM:=h
 have FXs:Saved (fun b=>ow b ≠ 0) V V:=Saved.refl _ V
 have FL:∀ b,b < V.heap.size->ow b=ow b:=fun b _=>rfl
 refine wp_seq ?_
 refine wi_ A (h2_ t0 t1) (rc_ 2 (rat U.heap.size q p cv tz xz r gv kv tv hv ow V (hp.on BB) FM t ht) (cb_ fun X0_1 bQ=>?_))
 replace FM:=(FM.on bQ)
 replace FXs:=(FXs.below bQ FXs.size)
 replace BB:=BB.trans (bQ.mono BB.size)
 clear bQ
 obtain ⟨g4,egg4⟩:∃ z_:Nat,X0_1.heap.size=z_:=⟨_,rfl⟩
 refine rs_ 3 (fun a E=>?_)
 refine stepV rfl rfl (execAlO rfl) ⟨.pointer (some ⟨g4,0,none⟩),⟨_,rfl,by subst egg4; rfl⟩,fun X0_2 hX=>?_⟩
 have bQ:Below X0_1.heap.size X0_1 X0_2:=by subst hX egg4; exact (belNew X0_1 _)
 have FO0:(X0_2.heap[g4]?=some (.cells (oC 0 0 0) 59)):=by subst hX egg4; exact heapNew X0_1 _
 have Fgo:(V.heap.size<=g4):=by subst hX egg4; exact FXs.size
 have Fgu:(U.heap.size<=g4):=by subst hX egg4; exact (BB).size
 replace FM:=(FM.on bQ)
 replace FXs:=(FXs.below bQ FXs.size)
 replace BB:=BB.trans (bQ.mono BB.size)
 clear bQ hX egg4 E a
 refine rs_ 4 (fun a E=>?_)
 refine stepS rfl rfl (execStO rfl (E _) (E _) FO0) ⟨_,⟨_,rfl,rfl⟩,fun X0 hX=>?_⟩
 obtain ⟨BB,FM,FXs,FO⟩:Below U.heap.size U X0/\(RmM U.heap.size X0 q p cv tz r gv kv tv hv ow)/\(Saved (fun b=>ow b ≠ 0) V X0)/\(X0.heap[g4]?=some (.cells (oC (at_ p r t).k (at_ p r t).a (at_ p r t).b) 59)):=by subst hX; exact ⟨below4 BB Fgu _,(FM.rowO FO0 (by decide)),(sv_row19 FXs Fgo _),setRow_heap _ _ _ _ _ _ FO0⟩
 clear FO0 hX E a
 refine rf_ [(4,.pointer (some ⟨g4,0,none⟩))] (h2_ t0 t1) ?_
 rintro a A ⟨t4,-⟩ ⟨t0,t1,-⟩
 refine wp_seq (wp_seq ?_)
 refine wi_ A (h3_ t0 t1 t4) (rv_ 0 (.pointer (some ⟨g4,0,none⟩)) (fun a E=>execOf0 rfl (E _)) (rv_ 1 (.int .i64 (at_ p r t).k) (fun a E=>execLr rfl (Or.inl rfl) (E _) (oC_at FO).1) (rf_ [(9,.int .i64 (at_ p r t).k)] (h3_ t0 t1 t4) ?_)))
 rintro a A ⟨t9,-⟩ ⟨t0,t1,t4,-⟩
 refine wp_block ?_
 by_cases ek:(at_ p r t).k=1
 ·obtain ⟨d,ea,hd⟩:=nat_of9 (rgt_put hr_ (Or.inl ek))
  have hlh:(r.hd d).length<=65536:=by have:=hB.cp d hd; have:=hok.cap d hd; omega
  have htk:r.cl d=false->¬ ((r.hd d).length:Int) < p.cap d->(tak p r d).isSome=true:=fun h1 h2=>by
   rw [may_1 ek ea,h1,decide_eq_false h2,Bool.false_or,Bool.false_or] at hmay
   unfold mts at hmay
   simp only [Bool.and_eq_true] at hmay
   exact hmay.2
  rw [stp_1 ek ea]
  refine wp_seq ?_
  refine wi_ A (h4_ t0 t1 t4 t9) (rv_ 0 (.bool true) (fun a E=>execDec (exIeql3 (p:=(at_ p r t).k) (q:=1) rfl (E _) rfl) (decide_eq_true ek)) (rf_ [(10,.bool true)] (h4_ t0 t1 t4 t9) ?_))
  rintro a A ⟨t10,-⟩ ⟨t0,t1,t4,t9,-⟩
  refine wp_cond_true t10 ?_
  clear t10 t9
  rw [ek,ea] at FO
  refine wp_seq ?_
  refine wi_ A (h3_ t0 t1 t4) (rv_ 2 (.pointer (some ⟨g4,1,none⟩)) (fun a E=>execOf1 rfl (E _)) (rv_ 3 (.int .i64 ((d:Nat):Int)) (fun a E=>execLr rfl (Or.inl rfl) (E _) (oC_at FO).2.1) (rc_ 4 (rput U q p cv tz xz r gv kv tv hv ow X0 hp BB FM t d ht hd hl3 hlh hlate hpl3 hlk htk) fun e X3 hh=>?_)))
  obtain ⟨he,hT_,hb_⟩:=hh
  refine ⟨_,he,?_⟩
  obtain ⟨BB,FR⟩:Below U.heap.size U X3/\(RTo U.heap.size V X3 q p cv tz (pt_ p r t d) gv kv ow):=⟨hb_,hT_.step FXs FL (zof FL)⟩
  clear FM FXs FO
  refine rg_ [] ?_
  rintro a A -
  refine wp_ret ?_
  repeat (first | with_reducible refine ret_in ?_ | with_reducible refine ret_then ?_)
  exact bodyPost_ret (results_none rfl _ _ _) A.2 ⟨rfl,FR,BB⟩
 refine wp_seq ?_
 refine wi_ A (h4_ t0 t1 t4 t9) (rv_ 0 (.bool false) (fun a E=>execDec (exIeql3 (p:=(at_ p r t).k) (q:=1) rfl (E _) rfl) (decide_eq_false ek)) (rf_ [(10,.bool false)] (h4_ t0 t1 t4 t9) ?_))
 rintro a A ⟨t10,-⟩ ⟨t0,t1,t4,t9,-⟩
 refine wp_cond_false t10 ?_
 clear t10
 have k1:=ek
 clear ek
 by_cases ek:(at_ p r t).k=2
 ·obtain ⟨d,ea,hd⟩:=nat_of9 (rgt_take hr_ ek).1
  obtain ⟨f,eb,-⟩:∃ f:Nat,(at_ p r t).b=(f:Int)/\True:=⟨_,(Int.toNat_of_nonneg (rgt_take hr_ ek).2.1).symm,trivial⟩
  rw [stp_2 ek ea eb]
  refine wp_seq ?_
  refine wi_ A (h4_ t0 t1 t4 t9) (rv_ 0 (.bool true) (fun a E=>execDec (exIeql3 (p:=(at_ p r t).k) (q:=2) rfl (E _) rfl) (decide_eq_true ek)) (rf_ [(17,.bool true)] (h4_ t0 t1 t4 t9) ?_))
  rintro a A ⟨t17,-⟩ ⟨t0,t1,t4,t9,-⟩
  refine wp_cond_true t17 ?_
  clear t17 t9
  rw [ek,ea,eb] at FO
  by_cases hrd:rdy p r d=true
  ·rw [if_pos hrd]
   refine wp_seq (wp_seq ?_)
   refine wi_ A (h3_ t0 t1 t4) (rv_ 1 (.pointer (some ⟨g4,1,none⟩)) (fun a E=>execOf1 rfl (E _)) (rv_ 2 (.int .i64 ((d:Nat):Int)) (fun a E=>execLr rfl (Or.inl rfl) (E _) (oC_at FO).2.1) (rc_ 3 (hrd ▸ rready U.heap.size q p cv tz xz r gv kv tv hv ow X0 (hp.on BB) FM d hd (hlk.gs hd)) (cb_ fun X5 bQ=>?_))))
   replace FM:=(FM.on bQ)
   replace FXs:=(FXs.below bQ FXs.size)
   replace FO:=(on9 FO bQ)
   replace BB:=BB.trans (bQ.mono BB.size)
   clear bQ
   refine rf_ [(22,.bool true)] (h3_ t0 t1 t4) ?_
   rintro a A ⟨t22,-⟩ ⟨t0,t1,t4,-⟩
   refine wp_cond_true t22 ?_
   clear t22
   refine wi_ A (h3_ t0 t1 t4) (rv_ 2 (.pointer (some ⟨g4,1,none⟩)) (fun a E=>execOf1 rfl (E _)) (rv_ 3 (.int .i64 ((d:Nat):Int)) (fun a E=>execLr rfl (Or.inl rfl) (E _) (oC_at FO).2.1) (rc_ 4 (rfrom U q p cv tz xz r gv kv tv hv ow X5 hp BB FM t d ht hd hl hpt hpl3 hlk (rdy_g hrd)) fun e X6 hh=>?_)))
   obtain ⟨he,hT_,hb_⟩:=hh
   refine ⟨_,he,?_⟩
   obtain ⟨BB,FR⟩:Below U.heap.size U X6/\(RTo U.heap.size V X6 q p cv tz (frm p r t d) gv kv ow):=⟨hb_,hT_.step FXs FL (zof FL)⟩
   clear FM FXs FO
   refine rg_ [] ?_
   rintro a A -
   refine wp_ret ?_
   repeat (first | with_reducible refine ret_in ?_ | with_reducible refine ret_then ?_)
   exact bodyPost_ret (results_none rfl _ _ _) A.2 ⟨rfl,FR,BB⟩
  ·rw [if_neg hrd]
   replace hrd:=Bool.eq_false_iff.2 hrd
   refine wp_seq (wp_seq ?_)
   refine wi_ A (h3_ t0 t1 t4) (rv_ 1 (.pointer (some ⟨g4,1,none⟩)) (fun a E=>execOf1 rfl (E _)) (rv_ 2 (.int .i64 ((d:Nat):Int)) (fun a E=>execLr rfl (Or.inl rfl) (E _) (oC_at FO).2.1) (rc_ 3 (hrd ▸ rready U.heap.size q p cv tz xz r gv kv tv hv ow X0 (hp.on BB) FM d hd (hlk.gs hd)) (cb_ fun X5 bQ=>?_))))
   replace FM:=(FM.on bQ)
   replace FXs:=(FXs.below bQ FXs.size)
   replace FO:=(on9 FO bQ)
   replace BB:=BB.trans (bQ.mono BB.size)
   clear bQ
   refine rf_ [(22,.bool false)] (h3_ t0 t1 t4) ?_
   rintro a A ⟨t22,-⟩ ⟨t0,t1,t4,-⟩
   refine wp_cond_false t22 ?_
   clear t22
   refine wj_ [0,1,2,3,4,5,6,7,8] [8] [3,6] [8] A (h3_ t0 t1 t4) (fun X7_0 bD=>?_)
   refine dw_ 1 (.pointer (some ⟨q.g,0,none⟩)) (fun a X E=>execNlm rfl (E _)) (dw_ 2 (.pointer (some ⟨q.g,2,none⟩)) (fun a X E=>execRo1 rfl (E _)) (dv_ 3 (sl0 q.P p.n) (fun a X E hb=>execLr rfl (Or.inr (Or.inr (Or.inl rfl))) (E _) (gR_at (FM.on hb)).2.2.1) (dw_ 5 (.pointer (some ⟨g4,2,none⟩)) (fun a X E=>execOf2 rfl (E _)) (dv_ 6 (.int .i64 ((f:Nat):Int)) (fun a X E hb=>execLr rfl (Or.inl rfl) (E _) (oC_at (on9 FO hb)).2.2) (dw_ 7 (.pointer (some ⟨q.P,0+t,none⟩)) (fun a X E=>execIdxN (k:=t) rfl (E _) (E _) ht) (ds_ 8 (fun a E=>?_)))))))
   refine stepS rfl rfl (execStR rfl (Or.inl rfl) (E _) (E _) (Or.inl ⟨_,rfl⟩) (rA_c (FM.on bD).hP ht) (frozen4 (FM.on bD).hP)) ⟨_,⟨_,rfl,rfl⟩,fun X7 hX=>?_⟩
   obtain ⟨BB,FXs,FO,FM2⟩:Below U.heap.size U X7/\(Saved (fun b=>ow b ≠ 0) V X7)/\(X7.heap[g4]?=some (.cells (oC 2 ((d:Nat):Int) ((f:Nat):Int)) 59))/\(RmM U.heap.size X7 q p cv tz ({ r with pl:=upf r.pl t f }) gv kv tv hv ow):=by subst hX; exact ⟨((BB.trans (bD.mono BB.size))).setCell (ge_lab h (by rw [h.lP]; decide)) _,(sv_cell9 (FXs.below bD FXs.size) (Or.inl (by rw [h.lP]; decide))),(keepT19 (on9 FO bD) (FM.on bD).hP (by decide) grC19),(FM.on bD).setP ht⟩
   clear bD FM hX E a
   refine ⟨Or.inl rfl,?_⟩
   refine dy_ [] ?_
   rintro a A -
   have FM:=FM2
   clear FM2
   refine wp_ret ?_
   repeat (first | with_reducible refine ret_in ?_ | with_reducible refine ret_then ?_)
   exact bodyPost_ret (results_none rfl _ _ _) A.2 ⟨rfl,⟨⟨_,_,_,FM,FL⟩,FXs⟩,BB⟩
 refine wp_seq ?_
 refine wi_ A (h4_ t0 t1 t4 t9) (rv_ 0 (.bool false) (fun a E=>execDec (exIeql3 (p:=(at_ p r t).k) (q:=2) rfl (E _) rfl) (decide_eq_false ek)) (rf_ [(17,.bool false)] (h4_ t0 t1 t4 t9) ?_))
 rintro a A ⟨t17,-⟩ ⟨t0,t1,t4,t9,-⟩
 refine wp_cond_false t17 ?_
 clear t17
 have k2:=ek
 clear ek
 by_cases ek:(at_ p r t).k=8
 ·obtain ⟨d,ea,hd⟩:=nat_of9 (rgt_choose hr_ ek).1
  obtain ⟨f,eb,hf⟩:=nat_of9 (rgt_choose hr_ ek).2
  rw [stp_8 ek ea eb]
  refine wp_seq ?_
  refine wi_ A (h4_ t0 t1 t4 t9) (rv_ 0 (.bool true) (fun a E=>execDec (exIeql3 (p:=(at_ p r t).k) (q:=8) rfl (E _) rfl) (decide_eq_true ek)) (rf_ [(36,.bool true)] (h4_ t0 t1 t4 t9) ?_))
  rintro a A ⟨t36,-⟩ ⟨t0,t1,t4,t9,-⟩
  refine wp_cond_true t36 ?_
  clear t36 t9
  rw [ek,ea,eb] at FO
  refine wp_seq (wp_block ?_)
  refine wp_seq ?_
  by_cases hra:rdy p r d=true
  ·rw [if_pos hra]
   refine wi_ A (h3_ t0 t1 t4) (rv_ 1 (.pointer (some ⟨g4,1,none⟩)) (fun a E=>execOf1 rfl (E _)) (rv_ 2 (.int .i64 ((d:Nat):Int)) (fun a E=>execLr rfl (Or.inl rfl) (E _) (oC_at FO).2.1) (rc_ 3 (hra ▸ rready U.heap.size q p cv tz xz r gv kv tv hv ow X0 (hp.on BB) FM d hd (hlk.gs hd)) (cb_ fun X10 bQ=>?_))))
   replace FM:=(FM.on bQ)
   replace FXs:=(FXs.below bQ FXs.size)
   replace FO:=(on9 FO bQ)
   replace BB:=BB.trans (bQ.mono BB.size)
   clear bQ
   refine rf_ [(44,.bool true)] (h3_ t0 t1 t4) ?_
   rintro a A ⟨t44,-⟩ ⟨t0,t1,t4,-⟩
   refine wp_cond_true t44 ?_
   clear t44
   refine wi_ A (h3_ t0 t1 t4) (rv_ 2 (.pointer (some ⟨g4,1,none⟩)) (fun a E=>execOf1 rfl (E _)) (rv_ 3 (.int .i64 ((d:Nat):Int)) (fun a E=>execLr rfl (Or.inl rfl) (E _) (oC_at FO).2.1) (rc_ 4 (rfrom U q p cv tz xz r gv kv tv hv ow X10 hp BB FM t d ht hd hl hpt hpl3 hlk (rdy_g hra)) fun e X11 hh=>?_)))
   obtain ⟨he,hT_,hb_⟩:=hh
   refine ⟨_,he,?_⟩
   obtain ⟨BB,FR⟩:Below U.heap.size U X11/\(RTo U.heap.size V X11 q p cv tz (frm p r t d) gv kv ow):=⟨hb_,hT_.step FXs FL (zof FL)⟩
   clear FM FXs FO
   refine rg_ [] ?_
   rintro a A -
   refine nrm_in ?_
   refine wp_ret ?_
   repeat (first | with_reducible refine ret_in ?_ | with_reducible refine ret_then ?_)
   exact bodyPost_ret (results_none rfl _ _ _) A.2 ⟨rfl,FR,BB⟩
  ·rw [if_neg hra]
   replace hra:=Bool.eq_false_iff.2 hra
   refine wi_ A (h3_ t0 t1 t4) (rv_ 1 (.pointer (some ⟨g4,1,none⟩)) (fun a E=>execOf1 rfl (E _)) (rv_ 2 (.int .i64 ((d:Nat):Int)) (fun a E=>execLr rfl (Or.inl rfl) (E _) (oC_at FO).2.1) (rc_ 3 (hra ▸ rready U.heap.size q p cv tz xz r gv kv tv hv ow X0 (hp.on BB) FM d hd (hlk.gs hd)) (cb_ fun X10 bQ=>?_))))
   replace FM:=(FM.on bQ)
   replace FXs:=(FXs.below bQ FXs.size)
   replace FO:=(on9 FO bQ)
   replace BB:=BB.trans (bQ.mono BB.size)
   clear bQ
   refine rf_ [(44,.bool false)] (h3_ t0 t1 t4) ?_
   rintro a A ⟨t44,-⟩ ⟨t0,t1,t4,-⟩
   refine wp_cond_false t44 ?_
   clear t44
   refine wp_seq ?_
   by_cases hrb:rdy p r f=true
   ·rw [if_pos hrb]
    refine wi_ A (h3_ t0 t1 t4) (rv_ 1 (.pointer (some ⟨g4,2,none⟩)) (fun a E=>execOf2 rfl (E _)) (rv_ 2 (.int .i64 ((f:Nat):Int)) (fun a E=>execLr rfl (Or.inl rfl) (E _) (oC_at FO).2.2) (rc_ 3 (hrb ▸ rready U.heap.size q p cv tz xz r gv kv tv hv ow X10 (hp.on BB) FM f hf (hlk.gs hf)) (cb_ fun X12 bQ=>?_))))
    replace FM:=(FM.on bQ)
    replace FXs:=(FXs.below bQ FXs.size)
    replace FO:=(on9 FO bQ)
    replace BB:=BB.trans (bQ.mono BB.size)
    clear bQ
    refine rf_ [(54,.bool true)] (h3_ t0 t1 t4) ?_
    rintro a A ⟨t54,-⟩ ⟨t0,t1,t4,-⟩
    refine wp_cond_true t54 ?_
    clear t54
    refine wi_ A (h3_ t0 t1 t4) (rv_ 2 (.pointer (some ⟨g4,2,none⟩)) (fun a E=>execOf2 rfl (E _)) (rv_ 3 (.int .i64 ((f:Nat):Int)) (fun a E=>execLr rfl (Or.inl rfl) (E _) (oC_at FO).2.2) (rc_ 4 (rfrom U q p cv tz xz r gv kv tv hv ow X12 hp BB FM t f ht hf hl hpt hpl3 hlk (rdy_g hrb)) fun e X13 hh=>?_)))
    obtain ⟨he,hT_,hb_⟩:=hh
    refine ⟨_,he,?_⟩
    obtain ⟨BB,FR⟩:Below U.heap.size U X13/\(RTo U.heap.size V X13 q p cv tz (frm p r t f) gv kv ow):=⟨hb_,hT_.step FXs FL (zof FL)⟩
    clear FM FXs FO
    refine rg_ [] ?_
    rintro a A -
    refine nrm_in ?_
    refine wp_ret ?_
    repeat (first | with_reducible refine ret_in ?_ | with_reducible refine ret_then ?_)
    exact bodyPost_ret (results_none rfl _ _ _) A.2 ⟨rfl,FR,BB⟩
   ·rw [if_neg hrb]
    replace hrb:=Bool.eq_false_iff.2 hrb
    refine wi_ A (h3_ t0 t1 t4) (rv_ 1 (.pointer (some ⟨g4,2,none⟩)) (fun a E=>execOf2 rfl (E _)) (rv_ 2 (.int .i64 ((f:Nat):Int)) (fun a E=>execLr rfl (Or.inl rfl) (E _) (oC_at FO).2.2) (rc_ 3 (hrb ▸ rready U.heap.size q p cv tz xz r gv kv tv hv ow X10 (hp.on BB) FM f hf (hlk.gs hf)) (cb_ fun X12 bQ=>?_))))
    replace FM:=(FM.on bQ)
    replace FXs:=(FXs.below bQ FXs.size)
    replace FO:=(on9 FO bQ)
    replace BB:=BB.trans (bQ.mono BB.size)
    clear bQ
    refine rf_ [(54,.bool false)] (h3_ t0 t1 t4) ?_
    rintro a A ⟨t54,-⟩ ⟨t0,t1,t4,-⟩
    refine wp_cond_false t54 ?_
    clear t54
    obtain ⟨tb,to_,tc,etz⟩:=hp.t.open (by omega)
    refine wp_seq ?_
    by_cases hin0:0<=r.rg t/\r.rg t<=p.ln t
    ·rw [if_pos hin0]
     obtain ⟨w,ew⟩:∃ w:Nat,r.rg t=(w:Int):=⟨_,(Int.toNat_of_nonneg hin0.1).symm⟩
     have hin:inB ((w:Nat):Int) 0 ((p.ln t:Nat):Int)=true:=by rw [← ew]; exact decide_eq_true hin0
     rw [show (r.rg t).toNat=w by rw [ew]; rfl]
     refine wj_ [0,1,2,3,4,5,6,7,8,9,10,11,12,13,14,15,16,17] [16] [3,6,11,14] [] A (h3_ t0 t1 t4) (fun X14_0 bD=>?_)
     refine dw_ 1 (.pointer (some ⟨q.g,0,none⟩)) (fun a X E=>execNlm rfl (E _)) (dw_ 2 (.pointer (some ⟨q.g,3,none⟩)) (fun a X E=>execRo2 rfl (E _)) (dv_ 3 (sl0 q.R p.n) (fun a X E hb=>execLr rfl (Or.inr (Or.inr (Or.inl rfl))) (E _) (gR_at (FM.on hb)).2.2.2.1) (dw_ 5 (.pointer (some ⟨q.R,0+t,none⟩)) (fun a X E=>execIdxN (k:=t) rfl (E _) (E _) ht) (dv_ 6 (.int .i64 ((w:Nat):Int)) (fun a X E hb=>execLr rfl (Or.inl rfl) (E _) ((rA_c (FM.on hb).hR ht).trans (by rw [ew]))) (dw_ 8 (.pointer (some ⟨q.g,0,none⟩)) (fun a X E=>execNlm rfl (E _)) (dw_ 9 (.pointer (some ⟨q.g,0,none⟩)) (fun a X E=>execRo0 rfl (E _)) (dw_ 10 (.pointer (some ⟨q.g,1,none⟩)) (fun a X E=>execPf1 rfl (E _)) (dv_ 11 (tz) (fun a X E hb=>execLr rfl (Or.inr (Or.inr (Or.inr (Or.inr (Or.inr (Or.inl rfl)))))) (E _) (gR_at (FM.on hb)).2.1) (dw_ 13 (.pointer (some ⟨tb,to_+t,none⟩)) (fun a X E=>execIxOO (k:=t) rfl ((E _).trans etz) (E _) ht) (dv_ 14 (xz t) (fun a X E hb=>execLr rfl (Or.inr (Or.inr (Or.inr (Or.inr (Or.inr (Or.inr (rfl))))))) (E _) (SliceV.at (hp.on (BB.trans (hb.mono BB.size))).t etz ht)) (dw_ 15 (.int .i64 ((p.ln t:Nat):Int)) (fun a X E=>execLnOs (len:=p.ln t) rfl (E _) (hp.o t ht).shp) (dc_ 16 (hin ▸ rwithin ((w:Nat):Int) 0 ((p.ln t:Nat):Int) X14_0) (cb_ fun X14 bQ=>?_)))))))))))))
     replace bD:=bD.trans (bQ.mono bD.size)
     clear bQ
     refine ⟨Or.inr bD,?_⟩
     refine dz_ [(64,.bool true)] (h3_ t0 t1 t4) ?_
     rintro a A ⟨t64,-⟩ ⟨t0,t1,t4,-⟩
     replace FM:=(FM.on bD)
     replace FXs:=(FXs.below bD FXs.size)
     replace FO:=(on9 FO bD)
     replace BB:=BB.trans (bD.mono BB.size)
     clear bD
     refine wp_cond_true t64 ?_
     clear t64
     refine wj_ [0,1,2,3,4,5,6,7,8,9,10,11,12,13] [13] [3,8,11] [13] A (h3_ t0 t1 t4) (fun X15_0 bD=>?_)
     refine dw_ 1 (.pointer (some ⟨q.g,0,none⟩)) (fun a X E=>execNlm rfl (E _)) (dw_ 2 (.pointer (some ⟨q.g,2,none⟩)) (fun a X E=>execRo1 rfl (E _)) (dv_ 3 (sl0 q.P p.n) (fun a X E hb=>execLr rfl (Or.inr (Or.inr (Or.inl rfl))) (E _) (gR_at (FM.on hb)).2.2.1) (dw_ 6 (.pointer (some ⟨q.g,0,none⟩)) (fun a X E=>execNlm rfl (E _)) (dw_ 7 (.pointer (some ⟨q.g,3,none⟩)) (fun a X E=>execRo2 rfl (E _)) (dv_ 8 (sl0 q.R p.n) (fun a X E hb=>execLr rfl (Or.inr (Or.inr (Or.inl rfl))) (E _) (gR_at (FM.on hb)).2.2.2.1) (dw_ 10 (.pointer (some ⟨q.R,0+t,none⟩)) (fun a X E=>execIdxN (k:=t) rfl (E _) (E _) ht) (dv_ 11 (.int .i64 ((w:Nat):Int)) (fun a X E hb=>execLr rfl (Or.inl rfl) (E _) ((rA_c (FM.on hb).hR ht).trans (by rw [ew]))) (dw_ 12 (.pointer (some ⟨q.P,0+t,none⟩)) (fun a X E=>execIdxN (k:=t) rfl (E _) (E _) ht) (ds_ 13 (fun a E=>?_))))))))))
     refine stepS rfl rfl (execStR rfl (Or.inl rfl) (E _) (E _) (Or.inl ⟨_,rfl⟩) (rA_c (FM.on bD).hP ht) (frozen4 (FM.on bD).hP)) ⟨_,⟨_,rfl,rfl⟩,fun X15 hX=>?_⟩
     obtain ⟨BB,FXs,FO,FM2⟩:Below U.heap.size U X15/\(Saved (fun b=>ow b ≠ 0) V X15)/\(X15.heap[g4]?=some (.cells (oC 8 ((d:Nat):Int) ((f:Nat):Int)) 59))/\(RmM U.heap.size X15 q p cv tz ({ r with pl:=upf r.pl t w }) gv kv tv hv ow):=by subst hX; exact ⟨((BB.trans (bD.mono BB.size))).setCell (ge_lab h (by rw [h.lP]; decide)) _,(sv_cell9 (FXs.below bD FXs.size) (Or.inl (by rw [h.lP]; decide))),(keepT19 (on9 FO bD) (FM.on bD).hP (by decide) grC19),(FM.on bD).setP ht⟩
     clear bD FM hX E a
     refine ⟨Or.inl rfl,?_⟩
     refine dy_ [] ?_
     rintro a A -
     have FM:=FM2
     clear FM2
     refine nrm_in ?_
     refine wp_ret ?_
     repeat (first | with_reducible refine ret_in ?_ | with_reducible refine ret_then ?_)
     exact bodyPost_ret (results_none rfl _ _ _) A.2 ⟨rfl,⟨⟨_,_,_,FM,FL⟩,FXs⟩,BB⟩
    ·rw [if_neg hin0]
     have hin:inB (r.rg t) 0 ((p.ln t:Nat):Int)=false:=decide_eq_false hin0
     refine wj_ [0,1,2,3,4,5,6,7,8,9,10,11,12,13,14,15,16,17] [16] [3,6,11,14] [] A (h3_ t0 t1 t4) (fun X14_0 bD=>?_)
     refine dw_ 1 (.pointer (some ⟨q.g,0,none⟩)) (fun a X E=>execNlm rfl (E _)) (dw_ 2 (.pointer (some ⟨q.g,3,none⟩)) (fun a X E=>execRo2 rfl (E _)) (dv_ 3 (sl0 q.R p.n) (fun a X E hb=>execLr rfl (Or.inr (Or.inr (Or.inl rfl))) (E _) (gR_at (FM.on hb)).2.2.2.1) (dw_ 5 (.pointer (some ⟨q.R,0+t,none⟩)) (fun a X E=>execIdxN (k:=t) rfl (E _) (E _) ht) (dv_ 6 (.int .i64 (r.rg t)) (fun a X E hb=>execLr rfl (Or.inl rfl) (E _) (rA_c (FM.on hb).hR ht)) (dw_ 8 (.pointer (some ⟨q.g,0,none⟩)) (fun a X E=>execNlm rfl (E _)) (dw_ 9 (.pointer (some ⟨q.g,0,none⟩)) (fun a X E=>execRo0 rfl (E _)) (dw_ 10 (.pointer (some ⟨q.g,1,none⟩)) (fun a X E=>execPf1 rfl (E _)) (dv_ 11 (tz) (fun a X E hb=>execLr rfl (Or.inr (Or.inr (Or.inr (Or.inr (Or.inr (Or.inl rfl)))))) (E _) (gR_at (FM.on hb)).2.1) (dw_ 13 (.pointer (some ⟨tb,to_+t,none⟩)) (fun a X E=>execIxOO (k:=t) rfl ((E _).trans etz) (E _) ht) (dv_ 14 (xz t) (fun a X E hb=>execLr rfl (Or.inr (Or.inr (Or.inr (Or.inr (Or.inr (Or.inr (rfl))))))) (E _) (SliceV.at (hp.on (BB.trans (hb.mono BB.size))).t etz ht)) (dw_ 15 (.int .i64 ((p.ln t:Nat):Int)) (fun a X E=>execLnOs (len:=p.ln t) rfl (E _) (hp.o t ht).shp) (dc_ 16 (hin ▸ rwithin (r.rg t) 0 ((p.ln t:Nat):Int) X14_0) (cb_ fun X14 bQ=>?_)))))))))))))
     replace bD:=bD.trans (bQ.mono bD.size)
     clear bQ
     refine ⟨Or.inr bD,?_⟩
     refine dz_ [(64,.bool false)] (h3_ t0 t1 t4) ?_
     rintro a A ⟨t64,-⟩ ⟨t0,t1,t4,-⟩
     replace FM:=(FM.on bD)
     replace FXs:=(FXs.below bD FXs.size)
     replace FO:=(on9 FO bD)
     replace BB:=BB.trans (bD.mono BB.size)
     clear bD
     refine wp_cond_false t64 ?_
     clear t64
     refine wi_ A (h3_ t0 t1 t4) (rv_ 1 (.pointer (some ⟨q.g,0,none⟩)) (fun a E=>execNlm rfl (E _)) (rv_ 2 (.pointer (some ⟨q.g,4,none⟩)) (fun a E=>execRo3 rfl (E _)) (rv_ 3 (sl0 q.E p.n) (fun a E=>execLr rfl (Or.inr (Or.inr (Or.inr (Or.inl rfl)))) (E _) (gR_at FM).2.2.2.2.1) (rv_ 5 (.pointer (some ⟨q.E,0+t,none⟩)) (fun a E=>execIxBo (k:=t) rfl (E _) (E _) ht) (rs_ 6 (fun a E=>?_))))))
     refine stepS rfl rfl (execStR rfl (Or.inr (Or.inl rfl)) (E _) rfl (Or.inr (Or.inl ⟨_,rfl⟩)) (rA_c FM.hE ht) (frozen4 FM.hE)) ⟨_,⟨_,rfl,rfl⟩,fun X9 hX=>?_⟩
     obtain ⟨BB,FXs,FO,FM2⟩:Below U.heap.size U X9/\(Saved (fun b=>ow b ≠ 0) V X9)/\(X9.heap[g4]?=some (.cells (oC 8 ((d:Nat):Int) ((f:Nat):Int)) 59))/\(RmM U.heap.size X9 q p cv tz ({ r with en:=upf r.en t true }) gv kv tv hv ow):=by subst hX; exact ⟨(BB).setCell (ge_lab h (by rw [h.lE]; decide)) _,(sv_cell9 FXs (Or.inl (by rw [h.lE]; decide))),(keepT19 FO FM.hE (by decide) grC19),FM.setE ht⟩
     clear FM hX E a
     refine rg_ [] ?_
     rintro a A -
     have FM:=FM2
     clear FM2
     refine nrm_in ?_
     refine wp_ret ?_
     repeat (first | with_reducible refine ret_in ?_ | with_reducible refine ret_then ?_)
     exact bodyPost_ret (results_none rfl _ _ _) A.2 ⟨rfl,⟨⟨_,_,_,FM,FL⟩,FXs⟩,BB⟩
 refine wp_seq ?_
 refine wi_ A (h4_ t0 t1 t4 t9) (rv_ 0 (.bool false) (fun a E=>execDec (exIeql3 (p:=(at_ p r t).k) (q:=8) rfl (E _) rfl) (decide_eq_false ek)) (rf_ [(36,.bool false)] (h4_ t0 t1 t4 t9) ?_))
 rintro a A ⟨t36,-⟩ ⟨t0,t1,t4,t9,-⟩
 refine wp_cond_false t36 ?_
 clear t36
 have k8:=ek
 clear ek
 by_cases ek:(at_ p r t).k=6
 ·obtain ⟨d,ea⟩:∃ d:Nat,(at_ p r t).a=(d:Int):=⟨_,(Int.toNat_of_nonneg (rgt_jump hr_ ek).1).symm⟩
  rw [stp_6 ek ea]
  refine wp_seq ?_
  refine wi_ A (h4_ t0 t1 t4 t9) (rv_ 0 (.bool true) (fun a E=>execDec (exIeql3 (p:=(at_ p r t).k) (q:=6) rfl (E _) rfl) (decide_eq_true ek)) (rf_ [(95,.bool true)] (h4_ t0 t1 t4 t9) ?_))
  rintro a A ⟨t95,-⟩ ⟨t0,t1,t4,t9,-⟩
  refine wp_cond_true t95 ?_
  clear t95 t9
  rw [ek,ea] at FO
  refine wp_seq ?_
  refine wj_ [0,1,2,3,4,5,6,7,8] [8] [3,6] [8] A (h3_ t0 t1 t4) (fun X17_0 bD=>?_)
  refine dw_ 1 (.pointer (some ⟨q.g,0,none⟩)) (fun a X E=>execNlm rfl (E _)) (dw_ 2 (.pointer (some ⟨q.g,2,none⟩)) (fun a X E=>execRo1 rfl (E _)) (dv_ 3 (sl0 q.P p.n) (fun a X E hb=>execLr rfl (Or.inr (Or.inr (Or.inl rfl))) (E _) (gR_at (FM.on hb)).2.2.1) (dw_ 5 (.pointer (some ⟨g4,1,none⟩)) (fun a X E=>execOf1 rfl (E _)) (dv_ 6 (.int .i64 ((d:Nat):Int)) (fun a X E hb=>execLr rfl (Or.inl rfl) (E _) (oC_at (on9 FO hb)).2.1) (dw_ 7 (.pointer (some ⟨q.P,0+t,none⟩)) (fun a X E=>execIdxN (k:=t) rfl (E _) (E _) ht) (ds_ 8 (fun a E=>?_)))))))
  refine stepS rfl rfl (execStR rfl (Or.inl rfl) (E _) (E _) (Or.inl ⟨_,rfl⟩) (rA_c (FM.on bD).hP ht) (frozen4 (FM.on bD).hP)) ⟨_,⟨_,rfl,rfl⟩,fun X17 hX=>?_⟩
  obtain ⟨BB,FXs,FO,FM2⟩:Below U.heap.size U X17/\(Saved (fun b=>ow b ≠ 0) V X17)/\(X17.heap[g4]?=some (.cells (oC 6 ((d:Nat):Int) (at_ p r t).b) 59))/\(RmM U.heap.size X17 q p cv tz ({ r with pl:=upf r.pl t d }) gv kv tv hv ow):=by subst hX; exact ⟨((BB.trans (bD.mono BB.size))).setCell (ge_lab h (by rw [h.lP]; decide)) _,(sv_cell9 (FXs.below bD FXs.size) (Or.inl (by rw [h.lP]; decide))),(keepT19 (on9 FO bD) (FM.on bD).hP (by decide) grC19),(FM.on bD).setP ht⟩
  clear bD FM hX E a
  refine ⟨Or.inl rfl,?_⟩
  refine dy_ [] ?_
  rintro a A -
  have FM:=FM2
  clear FM2
  refine wp_ret ?_
  repeat (first | with_reducible refine ret_in ?_ | with_reducible refine ret_then ?_)
  exact bodyPost_ret (results_none rfl _ _ _) A.2 ⟨rfl,⟨⟨_,_,_,FM,FL⟩,FXs⟩,BB⟩
 refine wp_seq ?_
 refine wi_ A (h4_ t0 t1 t4 t9) (rv_ 0 (.bool false) (fun a E=>execDec (exIeql3 (p:=(at_ p r t).k) (q:=6) rfl (E _) rfl) (decide_eq_false ek)) (rf_ [(95,.bool false)] (h4_ t0 t1 t4 t9) ?_))
 rintro a A ⟨t95,-⟩ ⟨t0,t1,t4,t9,-⟩
 refine wp_cond_false t95 ?_
 clear t95
 have k6:=ek
 clear ek
 by_cases ek:(at_ p r t).k=7
 ·obtain ⟨d,ea⟩:∃ d:Nat,(at_ p r t).a=(d:Int):=⟨_,(Int.toNat_of_nonneg (rgt_unless hr_ ek).1.1).symm⟩
  rw [stp_7 ek ea]
  refine wp_seq ?_
  refine wi_ A (h4_ t0 t1 t4 t9) (rv_ 0 (.bool true) (fun a E=>execDec (exIeql3 (p:=(at_ p r t).k) (q:=7) rfl (E _) rfl) (decide_eq_true ek)) (rf_ [(105,.bool true)] (h4_ t0 t1 t4 t9) ?_))
  rintro a A ⟨t105,-⟩ ⟨t0,t1,t4,t9,-⟩
  refine wp_cond_true t105 ?_
  clear t105 t9
  rw [ek,ea] at FO
  refine wp_seq ?_
  by_cases hne:r.rg t ≠ (at_ p r t).b
  ·rw [if_pos hne]
   refine wj_ [0,1,2,3,4,5,6,7,8,9] [] [3,6,8] [] A (h3_ t0 t1 t4) (fun X19 bD=>?_)
   refine dw_ 1 (.pointer (some ⟨q.g,0,none⟩)) (fun a X E=>execNlm rfl (E _)) (dw_ 2 (.pointer (some ⟨q.g,3,none⟩)) (fun a X E=>execRo2 rfl (E _)) (dv_ 3 (sl0 q.R p.n) (fun a X E hb=>execLr rfl (Or.inr (Or.inr (Or.inl rfl))) (E _) (gR_at (FM.on hb)).2.2.2.1) (dw_ 5 (.pointer (some ⟨q.R,0+t,none⟩)) (fun a X E=>execIdxN (k:=t) rfl (E _) (E _) ht) (dv_ 6 (.int .i64 (r.rg t)) (fun a X E hb=>execLr rfl (Or.inl rfl) (E _) (rA_c (FM.on hb).hR ht)) (dw_ 7 (.pointer (some ⟨g4,2,none⟩)) (fun a X E=>execOf2 rfl (E _)) (dv_ 8 (.int .i64 (at_ p r t).b) (fun a X E hb=>execLr rfl (Or.inl rfl) (E _) (oC_at (on9 FO hb)).2.2) (dw_ 9 (.bool true) (fun a X E=>execDec (exIneq3 (p:=(r.rg t)) (q:=(at_ p r t).b) rfl (E _) (E _)) (decide_eq_true hne)) (dz_ [(116,.bool true)] (h3_ t0 t1 t4) ?_))))))))
   rintro a A ⟨t116,-⟩ ⟨t0,t1,t4,-⟩
   replace FM:=(FM.on bD)
   replace FXs:=(FXs.below bD FXs.size)
   replace FO:=(on9 FO bD)
   replace BB:=BB.trans (bD.mono BB.size)
   clear bD
   refine wp_cond_true t116 ?_
   clear t116
   refine wp_seq ?_
   refine wj_ [0,1,2,3,4,5,6,7,8] [8] [3,6] [8] A (h3_ t0 t1 t4) (fun X20_0 bD=>?_)
   refine dw_ 1 (.pointer (some ⟨q.g,0,none⟩)) (fun a X E=>execNlm rfl (E _)) (dw_ 2 (.pointer (some ⟨q.g,2,none⟩)) (fun a X E=>execRo1 rfl (E _)) (dv_ 3 (sl0 q.P p.n) (fun a X E hb=>execLr rfl (Or.inr (Or.inr (Or.inl rfl))) (E _) (gR_at (FM.on hb)).2.2.1) (dw_ 5 (.pointer (some ⟨g4,1,none⟩)) (fun a X E=>execOf1 rfl (E _)) (dv_ 6 (.int .i64 ((d:Nat):Int)) (fun a X E hb=>execLr rfl (Or.inl rfl) (E _) (oC_at (on9 FO hb)).2.1) (dw_ 7 (.pointer (some ⟨q.P,0+t,none⟩)) (fun a X E=>execIdxN (k:=t) rfl (E _) (E _) ht) (ds_ 8 (fun a E=>?_)))))))
   refine stepS rfl rfl (execStR rfl (Or.inl rfl) (E _) (E _) (Or.inl ⟨_,rfl⟩) (rA_c (FM.on bD).hP ht) (frozen4 (FM.on bD).hP)) ⟨_,⟨_,rfl,rfl⟩,fun X20 hX=>?_⟩
   obtain ⟨BB,FXs,FO,FM2⟩:Below U.heap.size U X20/\(Saved (fun b=>ow b ≠ 0) V X20)/\(X20.heap[g4]?=some (.cells (oC 7 ((d:Nat):Int) (at_ p r t).b) 59))/\(RmM U.heap.size X20 q p cv tz ({ r with pl:=upf r.pl t d }) gv kv tv hv ow):=by subst hX; exact ⟨((BB.trans (bD.mono BB.size))).setCell (ge_lab h (by rw [h.lP]; decide)) _,(sv_cell9 (FXs.below bD FXs.size) (Or.inl (by rw [h.lP]; decide))),(keepT19 (on9 FO bD) (FM.on bD).hP (by decide) grC19),(FM.on bD).setP ht⟩
   clear bD FM hX E a
   refine ⟨Or.inl rfl,?_⟩
   refine dy_ [] ?_
   rintro a A -
   have FM:=FM2
   clear FM2
   refine wp_ret ?_
   repeat (first | with_reducible refine ret_in ?_ | with_reducible refine ret_then ?_)
   exact bodyPost_ret (results_none rfl _ _ _) A.2 ⟨rfl,⟨⟨_,_,_,FM,FL⟩,FXs⟩,BB⟩
  ·rw [if_neg hne]
   refine wj_ [0,1,2,3,4,5,6,7,8,9] [] [3,6,8] [] A (h3_ t0 t1 t4) (fun X19 bD=>?_)
   refine dw_ 1 (.pointer (some ⟨q.g,0,none⟩)) (fun a X E=>execNlm rfl (E _)) (dw_ 2 (.pointer (some ⟨q.g,3,none⟩)) (fun a X E=>execRo2 rfl (E _)) (dv_ 3 (sl0 q.R p.n) (fun a X E hb=>execLr rfl (Or.inr (Or.inr (Or.inl rfl))) (E _) (gR_at (FM.on hb)).2.2.2.1) (dw_ 5 (.pointer (some ⟨q.R,0+t,none⟩)) (fun a X E=>execIdxN (k:=t) rfl (E _) (E _) ht) (dv_ 6 (.int .i64 (r.rg t)) (fun a X E hb=>execLr rfl (Or.inl rfl) (E _) (rA_c (FM.on hb).hR ht)) (dw_ 7 (.pointer (some ⟨g4,2,none⟩)) (fun a X E=>execOf2 rfl (E _)) (dv_ 8 (.int .i64 (at_ p r t).b) (fun a X E hb=>execLr rfl (Or.inl rfl) (E _) (oC_at (on9 FO hb)).2.2) (dw_ 9 (.bool false) (fun a X E=>execDec (exIneq3 (p:=(r.rg t)) (q:=(at_ p r t).b) rfl (E _) (E _)) (decide_eq_false hne)) (dz_ [(116,.bool false)] (h3_ t0 t1 t4) ?_))))))))
   rintro a A ⟨t116,-⟩ ⟨t0,t1,t4,-⟩
   replace FM:=(FM.on bD)
   replace FXs:=(FXs.below bD FXs.size)
   replace FO:=(on9 FO bD)
   replace BB:=BB.trans (bD.mono BB.size)
   clear bD
   refine wp_cond_false t116 (wp_skip ?_)
   clear t116
   refine nrm_in ?_
   refine wi_ A (h3_ t0 t1 t4) (rv_ 1 (.pointer (some ⟨q.g,0,none⟩)) (fun a E=>execNlm rfl (E _)) (rv_ 2 (.pointer (some ⟨q.g,2,none⟩)) (fun a E=>execRo1 rfl (E _)) (rv_ 3 (sl0 q.P p.n) (fun a E=>execLr rfl (Or.inr (Or.inr (Or.inl rfl))) (E _) (gR_at FM).2.2.1) (rv_ 5 (.pointer (some ⟨q.P,0+t,none⟩)) (fun a E=>execIdxN (k:=t) rfl (E _) (E _) ht) (rv_ 6 (.int .i64 ((r.pl t:Nat):Int)) (fun a E=>execLr rfl (Or.inl rfl) (E _) ((rA_c FM.hP ht).trans rfl)) (rv_ 7 (.int .i64 ((r.pl t+1:Nat):Int)) (fun a E=>execAd8 (p:=r.pl t) (q:=1) rfl (E _) rfl (by omega)) (rv_ 8 (.pointer (some ⟨q.P,0+t,none⟩)) (fun a E=>execIdxN (k:=t) rfl (E _) (E _) ht) (rs_ 9 (fun a E=>?_)))))))))
   refine stepS rfl rfl (execStR rfl (Or.inl rfl) (E _) (E _) (Or.inl ⟨_,rfl⟩) (rA_c FM.hP ht) (frozen4 FM.hP)) ⟨_,⟨_,rfl,rfl⟩,fun X31 hX=>?_⟩
   obtain ⟨BB,FXs,FO,FM2⟩:Below U.heap.size U X31/\(Saved (fun b=>ow b ≠ 0) V X31)/\(X31.heap[g4]?=some (.cells (oC 7 ((d:Nat):Int) (at_ p r t).b) 59))/\(RmM U.heap.size X31 q p cv tz (on_ r t) gv kv tv hv ow):=by subst hX; exact ⟨(BB).setCell (ge_lab h (by rw [h.lP]; decide)) _,(sv_cell9 FXs (Or.inl (by rw [h.lP]; decide))),(keepT19 FO FM.hP (by decide) grC19),FM.setP ht⟩
   clear FM hX E a
   refine rg_ [] ?_
   rintro a A -
   have FM:=FM2
   clear FM2
   exact bodyPost_end (results_none rfl _ _ _) A.2 ⟨rfl,⟨⟨_,_,_,FM,FL⟩,FXs⟩,BB⟩
 refine wp_seq ?_
 refine wi_ A (h4_ t0 t1 t4 t9) (rv_ 0 (.bool false) (fun a E=>execDec (exIeql3 (p:=(at_ p r t).k) (q:=7) rfl (E _) rfl) (decide_eq_false ek)) (rf_ [(105,.bool false)] (h4_ t0 t1 t4 t9) ?_))
 rintro a A ⟨t105,-⟩ ⟨t0,t1,t4,t9,-⟩
 refine wp_cond_false t105 ?_
 clear t105
 have k7:=ek
 clear ek
 by_cases ek:(at_ p r t).k=3
 ·obtain ⟨d,ea,hd⟩:=nat_of9 (rgt_put hr_ (Or.inr ek))
  rw [stp_3 ek ea]
  refine wp_seq ?_
  refine wi_ A (h4_ t0 t1 t4 t9) (rv_ 0 (.bool true) (fun a E=>execDec (exIeql3 (p:=(at_ p r t).k) (q:=3) rfl (E _) rfl) (decide_eq_true ek)) (rf_ [(125,.bool true)] (h4_ t0 t1 t4 t9) ?_))
  rintro a A ⟨t125,-⟩ ⟨t0,t1,t4,t9,-⟩
  refine wp_cond_true t125 ?_
  clear t125 t9
  rw [ek,ea] at FO
  refine wp_seq (wp_seq ?_)
  by_cases hcl:r.cl d=true
  ·rw [if_pos hcl]
   refine wj_ [0,1,2,3,4,5,6,7] [] [3,5,7] [] A (h3_ t0 t1 t4) (fun X22 bD=>?_)
   refine dw_ 1 (.pointer (some ⟨q.g,0,none⟩)) (fun a X E=>execNlm rfl (E _)) (dw_ 2 (.pointer (some ⟨q.g,7,none⟩)) (fun a X E=>execRo6 rfl (E _)) (dv_ 3 (sl0 q.C p.d) (fun a X E hb=>execLr rfl (Or.inr (Or.inr (Or.inr (Or.inl rfl)))) (E _) (gR_at (FM.on hb)).2.2.2.2.2.2.2.1) (dw_ 4 (.pointer (some ⟨g4,1,none⟩)) (fun a X E=>execOf1 rfl (E _)) (dv_ 5 (.int .i64 ((d:Nat):Int)) (fun a X E hb=>execLr rfl (Or.inl rfl) (E _) (oC_at (on9 FO hb)).2.1) (dw_ 6 (.pointer (some ⟨q.C,0+d,none⟩)) (fun a X E=>execIxBo (k:=d) rfl (E _) (E _) hd) (dv_ 7 (.bool true) (fun a X E hb=>execLr rfl (Or.inr (Or.inl rfl)) (E _) ((rA_c (FM.on hb).hC hd).trans (by rw [hcl]))) (dz_ [(134,.bool true)] (h3_ t0 t1 t4) ?_)))))))
   rintro a A ⟨t134,-⟩ ⟨t0,t1,t4,-⟩
   replace FM:=(FM.on bD)
   replace FXs:=(FXs.below bD FXs.size)
   replace FO:=(on9 FO bD)
   replace BB:=BB.trans (bD.mono BB.size)
   clear bD
   refine wp_cond_true t134 ?_
   clear t134
   refine wi_ A (h3_ t0 t1 t4) (rv_ 1 (.pointer (some ⟨q.g,0,none⟩)) (fun a E=>execNlm rfl (E _)) (rv_ 2 (.pointer (some ⟨q.g,10,none⟩)) (fun a E=>execRo9 rfl (E _)) (rv_ 3 (.int .i64 ((r.lt:Nat):Int)) (fun a E=>execLr rfl (Or.inl rfl) (E _) ((gR_at FM).2.2.2.2.2.2.2.2.2.2.trans rfl)) (rv_ 4 (.int .i64 ((r.lt+1:Nat):Int)) (fun a E=>execAd8 (p:=r.lt) (q:=1) rfl (E _) rfl (by omega)) (rv_ 5 (.pointer (some ⟨q.g,0,none⟩)) (fun a E=>execNlm rfl (E _)) (rv_ 6 (.pointer (some ⟨q.g,10,none⟩)) (fun a E=>execRo9 rfl (E _)) (rs_ 7 (fun a E=>?_))))))))
   refine stepS rfl rfl (execStR rfl (Or.inl rfl) (E _) (E _) (Or.inl ⟨_,rfl⟩) (gR_at FM).2.2.2.2.2.2.2.2.2.2 (frozen4 FM.hg)) ⟨_,⟨_,rfl,rfl⟩,fun X23 hX=>?_⟩
   obtain ⟨BB,FXs,FO,FM2⟩:Below U.heap.size U X23/\(Saved (fun b=>ow b ≠ 0) V X23)/\(X23.heap[g4]?=some (.cells (oC 3 ((d:Nat):Int) (at_ p r t).b) 59))/\(RmM U.heap.size X23 q p cv tz ({ r with lt:=r.lt+1 }) gv kv tv hv ow):=by subst hX; exact ⟨(BB).setCell (ge_lab h (by rw [h.lg]; decide)) _,(sv_cell9 FXs (Or.inl (by rw [h.lg]; decide))),(keepT19 FO FM.hg (by decide) grC19),FM.setL⟩
   clear FM hX E a
   refine rf_ [] (h3_ t0 t1 t4) ?_
   rintro a A - ⟨t0,t1,t4,-⟩
   have FM:=FM2
   clear FM2
   refine wj_ [0,1,2,3,4,5,6,7] [7] [3,5] [7] A (h3_ t0 t1 t4) (fun X24_0 bD=>?_)
   refine dw_ 1 (.pointer (some ⟨q.g,0,none⟩)) (fun a X E=>execNlm rfl (E _)) (dw_ 2 (.pointer (some ⟨q.g,7,none⟩)) (fun a X E=>execRo6 rfl (E _)) (dv_ 3 (sl0 q.C p.d) (fun a X E hb=>execLr rfl (Or.inr (Or.inr (Or.inr (Or.inl rfl)))) (E _) (gR_at (FM.on hb)).2.2.2.2.2.2.2.1) (dw_ 4 (.pointer (some ⟨g4,1,none⟩)) (fun a X E=>execOf1 rfl (E _)) (dv_ 5 (.int .i64 ((d:Nat):Int)) (fun a X E hb=>execLr rfl (Or.inl rfl) (E _) (oC_at (on9 FO hb)).2.1) (dw_ 6 (.pointer (some ⟨q.C,0+d,none⟩)) (fun a X E=>execIxBo (k:=d) rfl (E _) (E _) hd) (ds_ 7 (fun a E=>?_)))))))
   refine stepS rfl rfl (execStR rfl (Or.inr (Or.inl rfl)) (E _) rfl (Or.inr (Or.inl ⟨_,rfl⟩)) (rA_c (FM.on bD).hC hd) (frozen4 (FM.on bD).hC)) ⟨_,⟨_,rfl,rfl⟩,fun X24 hX=>?_⟩
   obtain ⟨BB,FXs,FO,FM2⟩:Below U.heap.size U X24/\(Saved (fun b=>ow b ≠ 0) V X24)/\(X24.heap[g4]?=some (.cells (oC 3 ((d:Nat):Int) (at_ p r t).b) 59))/\(RmM U.heap.size X24 q p cv tz ({ r with cl:=upf r.cl d true,lt:=r.lt+1 }) gv kv tv hv ow):=by subst hX; exact ⟨((BB.trans (bD.mono BB.size))).setCell (ge_lab h (by rw [h.lC]; decide)) _,(sv_cell9 (FXs.below bD FXs.size) (Or.inl (by rw [h.lC]; decide))),(keepT19 (on9 FO bD) (FM.on bD).hC (by decide) grC19),(FM.on bD).setC hd⟩
   clear bD FM hX E a
   refine ⟨Or.inl rfl,?_⟩
   refine dz_ [] (h3_ t0 t1 t4) ?_
   rintro a A - ⟨t0,t1,t4,-⟩
   have FM:=FM2
   clear FM2
   refine nrm_in ?_
   refine wi_ A (h3_ t0 t1 t4) (rv_ 1 (.pointer (some ⟨q.g,0,none⟩)) (fun a E=>execNlm rfl (E _)) (rv_ 2 (.pointer (some ⟨q.g,2,none⟩)) (fun a E=>execRo1 rfl (E _)) (rv_ 3 (sl0 q.P p.n) (fun a E=>execLr rfl (Or.inr (Or.inr (Or.inl rfl))) (E _) (gR_at FM).2.2.1) (rv_ 5 (.pointer (some ⟨q.P,0+t,none⟩)) (fun a E=>execIdxN (k:=t) rfl (E _) (E _) ht) (rv_ 6 (.int .i64 ((r.pl t:Nat):Int)) (fun a E=>execLr rfl (Or.inl rfl) (E _) ((rA_c FM.hP ht).trans rfl)) (rv_ 7 (.int .i64 ((r.pl t+1:Nat):Int)) (fun a E=>execAd8 (p:=r.pl t) (q:=1) rfl (E _) rfl (by omega)) (rv_ 8 (.pointer (some ⟨q.P,0+t,none⟩)) (fun a E=>execIdxN (k:=t) rfl (E _) (E _) ht) (rs_ 9 (fun a E=>?_)))))))))
   refine stepS rfl rfl (execStR rfl (Or.inl rfl) (E _) (E _) (Or.inl ⟨_,rfl⟩) (rA_c FM.hP ht) (frozen4 FM.hP)) ⟨_,⟨_,rfl,rfl⟩,fun X31 hX=>?_⟩
   obtain ⟨BB,FXs,FO,FM2⟩:Below U.heap.size U X31/\(Saved (fun b=>ow b ≠ 0) V X31)/\(X31.heap[g4]?=some (.cells (oC 3 ((d:Nat):Int) (at_ p r t).b) 59))/\(RmM U.heap.size X31 q p cv tz ({ on_ r t with cl:=upf r.cl d true,lt:=r.lt+1 }) gv kv tv hv ow):=by subst hX; exact ⟨(BB).setCell (ge_lab h (by rw [h.lP]; decide)) _,(sv_cell9 FXs (Or.inl (by rw [h.lP]; decide))),(keepT19 FO FM.hP (by decide) grC19),FM.setP ht⟩
   clear FM hX E a
   refine rg_ [] ?_
   rintro a A -
   have FM:=FM2
   clear FM2
   exact bodyPost_end (results_none rfl _ _ _) A.2 ⟨rfl,⟨⟨_,_,_,FM,FL⟩,FXs⟩,BB⟩
  ·rw [if_neg hcl]
   replace hcl:=Bool.eq_false_iff.2 hcl
   refine wj_ [0,1,2,3,4,5,6,7] [] [3,5,7] [] A (h3_ t0 t1 t4) (fun X22 bD=>?_)
   refine dw_ 1 (.pointer (some ⟨q.g,0,none⟩)) (fun a X E=>execNlm rfl (E _)) (dw_ 2 (.pointer (some ⟨q.g,7,none⟩)) (fun a X E=>execRo6 rfl (E _)) (dv_ 3 (sl0 q.C p.d) (fun a X E hb=>execLr rfl (Or.inr (Or.inr (Or.inr (Or.inl rfl)))) (E _) (gR_at (FM.on hb)).2.2.2.2.2.2.2.1) (dw_ 4 (.pointer (some ⟨g4,1,none⟩)) (fun a X E=>execOf1 rfl (E _)) (dv_ 5 (.int .i64 ((d:Nat):Int)) (fun a X E hb=>execLr rfl (Or.inl rfl) (E _) (oC_at (on9 FO hb)).2.1) (dw_ 6 (.pointer (some ⟨q.C,0+d,none⟩)) (fun a X E=>execIxBo (k:=d) rfl (E _) (E _) hd) (dv_ 7 (.bool false) (fun a X E hb=>execLr rfl (Or.inr (Or.inl rfl)) (E _) ((rA_c (FM.on hb).hC hd).trans (by rw [hcl]))) (dz_ [(134,.bool false)] (h3_ t0 t1 t4) ?_)))))))
   rintro a A ⟨t134,-⟩ ⟨t0,t1,t4,-⟩
   replace FM:=(FM.on bD)
   replace FXs:=(FXs.below bD FXs.size)
   replace FO:=(on9 FO bD)
   replace BB:=BB.trans (bD.mono BB.size)
   clear bD
   refine wp_cond_false t134 (wp_skip ?_)
   clear t134
   refine wj_ [0,1,2,3,4,5,6,7] [7] [3,5] [7] A (h3_ t0 t1 t4) (fun X24_0 bD=>?_)
   refine dw_ 1 (.pointer (some ⟨q.g,0,none⟩)) (fun a X E=>execNlm rfl (E _)) (dw_ 2 (.pointer (some ⟨q.g,7,none⟩)) (fun a X E=>execRo6 rfl (E _)) (dv_ 3 (sl0 q.C p.d) (fun a X E hb=>execLr rfl (Or.inr (Or.inr (Or.inr (Or.inl rfl)))) (E _) (gR_at (FM.on hb)).2.2.2.2.2.2.2.1) (dw_ 4 (.pointer (some ⟨g4,1,none⟩)) (fun a X E=>execOf1 rfl (E _)) (dv_ 5 (.int .i64 ((d:Nat):Int)) (fun a X E hb=>execLr rfl (Or.inl rfl) (E _) (oC_at (on9 FO hb)).2.1) (dw_ 6 (.pointer (some ⟨q.C,0+d,none⟩)) (fun a X E=>execIxBo (k:=d) rfl (E _) (E _) hd) (ds_ 7 (fun a E=>?_)))))))
   refine stepS rfl rfl (execStR rfl (Or.inr (Or.inl rfl)) (E _) rfl (Or.inr (Or.inl ⟨_,rfl⟩)) (rA_c (FM.on bD).hC hd) (frozen4 (FM.on bD).hC)) ⟨_,⟨_,rfl,rfl⟩,fun X24 hX=>?_⟩
   obtain ⟨BB,FXs,FO,FM2⟩:Below U.heap.size U X24/\(Saved (fun b=>ow b ≠ 0) V X24)/\(X24.heap[g4]?=some (.cells (oC 3 ((d:Nat):Int) (at_ p r t).b) 59))/\(RmM U.heap.size X24 q p cv tz ({ r with cl:=upf r.cl d true,lt:=r.lt }) gv kv tv hv ow):=by subst hX; exact ⟨((BB.trans (bD.mono BB.size))).setCell (ge_lab h (by rw [h.lC]; decide)) _,(sv_cell9 (FXs.below bD FXs.size) (Or.inl (by rw [h.lC]; decide))),(keepT19 (on9 FO bD) (FM.on bD).hC (by decide) grC19),(FM.on bD).setC hd⟩
   clear bD FM hX E a
   refine ⟨Or.inl rfl,?_⟩
   refine dz_ [] (h3_ t0 t1 t4) ?_
   rintro a A - ⟨t0,t1,t4,-⟩
   have FM:=FM2
   clear FM2
   refine nrm_in ?_
   refine wi_ A (h3_ t0 t1 t4) (rv_ 1 (.pointer (some ⟨q.g,0,none⟩)) (fun a E=>execNlm rfl (E _)) (rv_ 2 (.pointer (some ⟨q.g,2,none⟩)) (fun a E=>execRo1 rfl (E _)) (rv_ 3 (sl0 q.P p.n) (fun a E=>execLr rfl (Or.inr (Or.inr (Or.inl rfl))) (E _) (gR_at FM).2.2.1) (rv_ 5 (.pointer (some ⟨q.P,0+t,none⟩)) (fun a E=>execIdxN (k:=t) rfl (E _) (E _) ht) (rv_ 6 (.int .i64 ((r.pl t:Nat):Int)) (fun a E=>execLr rfl (Or.inl rfl) (E _) ((rA_c FM.hP ht).trans rfl)) (rv_ 7 (.int .i64 ((r.pl t+1:Nat):Int)) (fun a E=>execAd8 (p:=r.pl t) (q:=1) rfl (E _) rfl (by omega)) (rv_ 8 (.pointer (some ⟨q.P,0+t,none⟩)) (fun a E=>execIdxN (k:=t) rfl (E _) (E _) ht) (rs_ 9 (fun a E=>?_)))))))))
   refine stepS rfl rfl (execStR rfl (Or.inl rfl) (E _) (E _) (Or.inl ⟨_,rfl⟩) (rA_c FM.hP ht) (frozen4 FM.hP)) ⟨_,⟨_,rfl,rfl⟩,fun X31 hX=>?_⟩
   obtain ⟨BB,FXs,FO,FM2⟩:Below U.heap.size U X31/\(Saved (fun b=>ow b ≠ 0) V X31)/\(X31.heap[g4]?=some (.cells (oC 3 ((d:Nat):Int) (at_ p r t).b) 59))/\(RmM U.heap.size X31 q p cv tz ({ on_ r t with cl:=upf r.cl d true,lt:=r.lt }) gv kv tv hv ow):=by subst hX; exact ⟨(BB).setCell (ge_lab h (by rw [h.lP]; decide)) _,(sv_cell9 FXs (Or.inl (by rw [h.lP]; decide))),(keepT19 FO FM.hP (by decide) grC19),FM.setP ht⟩
   clear FM hX E a
   refine rg_ [] ?_
   rintro a A -
   have FM:=FM2
   clear FM2
   exact bodyPost_end (results_none rfl _ _ _) A.2 ⟨rfl,⟨⟨_,_,_,FM,FL⟩,FXs⟩,BB⟩
 refine wp_seq ?_
 refine wi_ A (h4_ t0 t1 t4 t9) (rv_ 0 (.bool false) (fun a E=>execDec (exIeql3 (p:=(at_ p r t).k) (q:=3) rfl (E _) rfl) (decide_eq_false ek)) (rf_ [(125,.bool false)] (h4_ t0 t1 t4 t9) ?_))
 rintro a A ⟨t125,-⟩ ⟨t0,t1,t4,t9,-⟩
 refine wp_cond_false t125 ?_
 clear t125
 have k3:=ek
 clear ek
 by_cases ek:(at_ p r t).k=4
 ·rw [stp_4 ek]
  refine wp_seq ?_
  refine wi_ A (h4_ t0 t1 t4 t9) (rv_ 0 (.bool true) (fun a E=>execDec (exIeql3 (p:=(at_ p r t).k) (q:=4) rfl (E _) rfl) (decide_eq_true ek)) (rf_ [(149,.bool true)] (h4_ t0 t1 t4 t9) ?_))
  rintro a A ⟨t149,-⟩ ⟨t0,t1,t4,t9,-⟩
  refine wp_cond_true t149 ?_
  clear t149 t9
  rw [ek] at FO
  refine wj_ [0,1,2,3,4,5,6,7,8] [8] [3,6] [8] A (h3_ t0 t1 t4) (fun X26_0 bD=>?_)
  refine dw_ 1 (.pointer (some ⟨q.g,0,none⟩)) (fun a X E=>execNlm rfl (E _)) (dw_ 2 (.pointer (some ⟨q.g,3,none⟩)) (fun a X E=>execRo2 rfl (E _)) (dv_ 3 (sl0 q.R p.n) (fun a X E hb=>execLr rfl (Or.inr (Or.inr (Or.inl rfl))) (E _) (gR_at (FM.on hb)).2.2.2.1) (dw_ 5 (.pointer (some ⟨g4,1,none⟩)) (fun a X E=>execOf1 rfl (E _)) (dv_ 6 (.int .i64 (at_ p r t).a) (fun a X E hb=>execLr rfl (Or.inl rfl) (E _) (oC_at (on9 FO hb)).2.1) (dw_ 7 (.pointer (some ⟨q.R,0+t,none⟩)) (fun a X E=>execIdxN (k:=t) rfl (E _) (E _) ht) (ds_ 8 (fun a E=>?_)))))))
  refine stepS rfl rfl (execStR rfl (Or.inl rfl) (E _) (E _) (Or.inl ⟨_,rfl⟩) (rA_c (FM.on bD).hR ht) (frozen4 (FM.on bD).hR)) ⟨_,⟨_,rfl,rfl⟩,fun X26 hX=>?_⟩
  obtain ⟨BB,FXs,FO,FM2⟩:Below U.heap.size U X26/\(Saved (fun b=>ow b ≠ 0) V X26)/\(X26.heap[g4]?=some (.cells (oC 4 (at_ p r t).a (at_ p r t).b) 59))/\(RmM U.heap.size X26 q p cv tz ({ r with rg:=upf r.rg t (at_ p r t).a }) gv kv tv hv ow):=by subst hX; exact ⟨((BB.trans (bD.mono BB.size))).setCell (ge_lab h (by rw [h.lR]; decide)) _,(sv_cell9 (FXs.below bD FXs.size) (Or.inl (by rw [h.lR]; decide))),(keepT19 (on9 FO bD) (FM.on bD).hR (by decide) grC19),(FM.on bD).setR ht⟩
  clear bD FM hX E a
  refine ⟨Or.inl rfl,?_⟩
  refine dz_ [] (h3_ t0 t1 t4) ?_
  rintro a A - ⟨t0,t1,t4,-⟩
  have FM:=FM2
  clear FM2
  refine nrm_in ?_
  refine wi_ A (h3_ t0 t1 t4) (rv_ 1 (.pointer (some ⟨q.g,0,none⟩)) (fun a E=>execNlm rfl (E _)) (rv_ 2 (.pointer (some ⟨q.g,2,none⟩)) (fun a E=>execRo1 rfl (E _)) (rv_ 3 (sl0 q.P p.n) (fun a E=>execLr rfl (Or.inr (Or.inr (Or.inl rfl))) (E _) (gR_at FM).2.2.1) (rv_ 5 (.pointer (some ⟨q.P,0+t,none⟩)) (fun a E=>execIdxN (k:=t) rfl (E _) (E _) ht) (rv_ 6 (.int .i64 ((r.pl t:Nat):Int)) (fun a E=>execLr rfl (Or.inl rfl) (E _) ((rA_c FM.hP ht).trans rfl)) (rv_ 7 (.int .i64 ((r.pl t+1:Nat):Int)) (fun a E=>execAd8 (p:=r.pl t) (q:=1) rfl (E _) rfl (by omega)) (rv_ 8 (.pointer (some ⟨q.P,0+t,none⟩)) (fun a E=>execIdxN (k:=t) rfl (E _) (E _) ht) (rs_ 9 (fun a E=>?_)))))))))
  refine stepS rfl rfl (execStR rfl (Or.inl rfl) (E _) (E _) (Or.inl ⟨_,rfl⟩) (rA_c FM.hP ht) (frozen4 FM.hP)) ⟨_,⟨_,rfl,rfl⟩,fun X31 hX=>?_⟩
  obtain ⟨BB,FXs,FO,FM2⟩:Below U.heap.size U X31/\(Saved (fun b=>ow b ≠ 0) V X31)/\(X31.heap[g4]?=some (.cells (oC 4 (at_ p r t).a (at_ p r t).b) 59))/\(RmM U.heap.size X31 q p cv tz ({ on_ r t with rg:=upf r.rg t (at_ p r t).a }) gv kv tv hv ow):=by subst hX; exact ⟨(BB).setCell (ge_lab h (by rw [h.lP]; decide)) _,(sv_cell9 FXs (Or.inl (by rw [h.lP]; decide))),(keepT19 FO FM.hP (by decide) grC19),FM.setP ht⟩
  clear FM hX E a
  refine rg_ [] ?_
  rintro a A -
  have FM:=FM2
  clear FM2
  exact bodyPost_end (results_none rfl _ _ _) A.2 ⟨rfl,⟨⟨_,_,_,FM,FL⟩,FXs⟩,BB⟩
 refine wp_seq ?_
 refine wi_ A (h4_ t0 t1 t4 t9) (rv_ 0 (.bool false) (fun a E=>execDec (exIeql3 (p:=(at_ p r t).k) (q:=4) rfl (E _) rfl) (decide_eq_false ek)) (rf_ [(149,.bool false)] (h4_ t0 t1 t4 t9) ?_))
 rintro a A ⟨t149,-⟩ ⟨t0,t1,t4,t9,-⟩
 refine wp_cond_false t149 ?_
 clear t149
 have k4:=ek
 clear ek
 by_cases ek:(at_ p r t).k=5
 ·have hsum:-1000000000<=r.rg t+(at_ p r t).a/\r.rg t+(at_ p r t).a<=1000000000:=by
   have h1:=rgt_num hr_ (Or.inr ek)
   have h2:=(hB.rg t)
   unfold wi at h2
   omega
  rw [stp_5 ek]
  refine wp_seq ?_
  refine wi_ A (h4_ t0 t1 t4 t9) (rv_ 0 (.bool true) (fun a E=>execDec (exIeql3 (p:=(at_ p r t).k) (q:=5) rfl (E _) rfl) (decide_eq_true ek)) (rf_ [(159,.bool true)] (h4_ t0 t1 t4 t9) ?_))
  rintro a A ⟨t159,-⟩ ⟨t0,t1,t4,t9,-⟩
  refine wp_cond_true t159 ?_
  clear t159 t9
  rw [ek] at FO
  refine wj_ [0,1,2,3,4,5,6,7,8,9,10,11] [11] [3,6,8] [11] A (h3_ t0 t1 t4) (fun X28_0 bD=>?_)
  refine dw_ 1 (.pointer (some ⟨q.g,0,none⟩)) (fun a X E=>execNlm rfl (E _)) (dw_ 2 (.pointer (some ⟨q.g,3,none⟩)) (fun a X E=>execRo2 rfl (E _)) (dv_ 3 (sl0 q.R p.n) (fun a X E hb=>execLr rfl (Or.inr (Or.inr (Or.inl rfl))) (E _) (gR_at (FM.on hb)).2.2.2.1) (dw_ 5 (.pointer (some ⟨q.R,0+t,none⟩)) (fun a X E=>execIdxN (k:=t) rfl (E _) (E _) ht) (dv_ 6 (.int .i64 (r.rg t)) (fun a X E hb=>execLr rfl (Or.inl rfl) (E _) (rA_c (FM.on hb).hR ht)) (dw_ 7 (.pointer (some ⟨g4,1,none⟩)) (fun a X E=>execOf1 rfl (E _)) (dv_ 8 (.int .i64 (at_ p r t).a) (fun a X E hb=>execLr rfl (Or.inl rfl) (E _) (oC_at (on9 FO hb)).2.1) (dw_ 9 (.int .i64 (r.rg t+(at_ p r t).a)) (fun a X E=>execAddZ rfl (E _) (E _) hsum) (dw_ 10 (.pointer (some ⟨q.R,0+t,none⟩)) (fun a X E=>execIdxN (k:=t) rfl (E _) (E _) ht) (ds_ 11 (fun a E=>?_))))))))))
  refine stepS rfl rfl (execStR rfl (Or.inl rfl) (E _) (E _) (Or.inl ⟨_,rfl⟩) (rA_c (FM.on bD).hR ht) (frozen4 (FM.on bD).hR)) ⟨_,⟨_,rfl,rfl⟩,fun X28 hX=>?_⟩
  obtain ⟨BB,FXs,FO,FM2⟩:Below U.heap.size U X28/\(Saved (fun b=>ow b ≠ 0) V X28)/\(X28.heap[g4]?=some (.cells (oC 5 (at_ p r t).a (at_ p r t).b) 59))/\(RmM U.heap.size X28 q p cv tz ({ r with rg:=upf r.rg t (r.rg t+(at_ p r t).a) }) gv kv tv hv ow):=by subst hX; exact ⟨((BB.trans (bD.mono BB.size))).setCell (ge_lab h (by rw [h.lR]; decide)) _,(sv_cell9 (FXs.below bD FXs.size) (Or.inl (by rw [h.lR]; decide))),(keepT19 (on9 FO bD) (FM.on bD).hR (by decide) grC19),(FM.on bD).setR ht⟩
  clear bD FM hX E a
  refine ⟨Or.inl rfl,?_⟩
  refine dz_ [] (h3_ t0 t1 t4) ?_
  rintro a A - ⟨t0,t1,t4,-⟩
  have FM:=FM2
  clear FM2
  refine nrm_in ?_
  refine wi_ A (h3_ t0 t1 t4) (rv_ 1 (.pointer (some ⟨q.g,0,none⟩)) (fun a E=>execNlm rfl (E _)) (rv_ 2 (.pointer (some ⟨q.g,2,none⟩)) (fun a E=>execRo1 rfl (E _)) (rv_ 3 (sl0 q.P p.n) (fun a E=>execLr rfl (Or.inr (Or.inr (Or.inl rfl))) (E _) (gR_at FM).2.2.1) (rv_ 5 (.pointer (some ⟨q.P,0+t,none⟩)) (fun a E=>execIdxN (k:=t) rfl (E _) (E _) ht) (rv_ 6 (.int .i64 ((r.pl t:Nat):Int)) (fun a E=>execLr rfl (Or.inl rfl) (E _) ((rA_c FM.hP ht).trans rfl)) (rv_ 7 (.int .i64 ((r.pl t+1:Nat):Int)) (fun a E=>execAd8 (p:=r.pl t) (q:=1) rfl (E _) rfl (by omega)) (rv_ 8 (.pointer (some ⟨q.P,0+t,none⟩)) (fun a E=>execIdxN (k:=t) rfl (E _) (E _) ht) (rs_ 9 (fun a E=>?_)))))))))
  refine stepS rfl rfl (execStR rfl (Or.inl rfl) (E _) (E _) (Or.inl ⟨_,rfl⟩) (rA_c FM.hP ht) (frozen4 FM.hP)) ⟨_,⟨_,rfl,rfl⟩,fun X31 hX=>?_⟩
  obtain ⟨BB,FXs,FO,FM2⟩:Below U.heap.size U X31/\(Saved (fun b=>ow b ≠ 0) V X31)/\(X31.heap[g4]?=some (.cells (oC 5 (at_ p r t).a (at_ p r t).b) 59))/\(RmM U.heap.size X31 q p cv tz ({ on_ r t with rg:=upf r.rg t (r.rg t+(at_ p r t).a) }) gv kv tv hv ow):=by subst hX; exact ⟨(BB).setCell (ge_lab h (by rw [h.lP]; decide)) _,(sv_cell9 FXs (Or.inl (by rw [h.lP]; decide))),(keepT19 FO FM.hP (by decide) grC19),FM.setP ht⟩
  clear FM hX E a
  refine rg_ [] ?_
  rintro a A -
  have FM:=FM2
  clear FM2
  exact bodyPost_end (results_none rfl _ _ _) A.2 ⟨rfl,⟨⟨_,_,_,FM,FL⟩,FXs⟩,BB⟩
 refine wp_seq ?_
 refine wi_ A (h4_ t0 t1 t4 t9) (rv_ 0 (.bool false) (fun a E=>execDec (exIeql3 (p:=(at_ p r t).k) (q:=5) rfl (E _) rfl) (decide_eq_false ek)) (rf_ [(159,.bool false)] (h4_ t0 t1 t4 t9) ?_))
 rintro a A ⟨t159,-⟩ ⟨t0,t1,t4,t9,-⟩
 refine wp_cond_false t159 ?_
 clear t159
 have k5:=ek
 clear ek
 by_cases ek:(at_ p r t).k=10
 ·rw [stp_10 ek]
  refine wp_seq ?_
  refine wi_ A (h4_ t0 t1 t4 t9) (rv_ 0 (.bool true) (fun a E=>execDec (exIeql3 (p:=(at_ p r t).k) (q:=10) rfl (E _) rfl) (decide_eq_true ek)) (rf_ [(172,.bool true)] (h4_ t0 t1 t4 t9) ?_))
  rintro a A ⟨t172,-⟩ ⟨t0,t1,t4,t9,-⟩
  refine wp_cond_true t172 ?_
  clear t172 t9
  rw [ek] at FO
  refine wi_ A (h3_ t0 t1 t4) (rv_ 1 (.pointer (some ⟨q.g,0,none⟩)) (fun a E=>execNlm rfl (E _)) (rv_ 2 (.pointer (some ⟨q.g,4,none⟩)) (fun a E=>execRo3 rfl (E _)) (rv_ 3 (sl0 q.E p.n) (fun a E=>execLr rfl (Or.inr (Or.inr (Or.inr (Or.inl rfl)))) (E _) (gR_at FM).2.2.2.2.1) (rv_ 5 (.pointer (some ⟨q.E,0+t,none⟩)) (fun a E=>execIxBo (k:=t) rfl (E _) (E _) ht) (rs_ 6 (fun a E=>?_))))))
  refine stepS rfl rfl (execStR rfl (Or.inr (Or.inl rfl)) (E _) rfl (Or.inr (Or.inl ⟨_,rfl⟩)) (rA_c FM.hE ht) (frozen4 FM.hE)) ⟨_,⟨_,rfl,rfl⟩,fun X30 hX=>?_⟩
  obtain ⟨BB,FXs,FO,FM2⟩:Below U.heap.size U X30/\(Saved (fun b=>ow b ≠ 0) V X30)/\(X30.heap[g4]?=some (.cells (oC 10 (at_ p r t).a (at_ p r t).b) 59))/\(RmM U.heap.size X30 q p cv tz ({ r with en:=upf r.en t true }) gv kv tv hv ow):=by subst hX; exact ⟨(BB).setCell (ge_lab h (by rw [h.lE]; decide)) _,(sv_cell9 FXs (Or.inl (by rw [h.lE]; decide))),(keepT19 FO FM.hE (by decide) grC19),FM.setE ht⟩
  clear FM hX E a
  refine rf_ [] (h3_ t0 t1 t4) ?_
  rintro a A - ⟨t0,t1,t4,-⟩
  have FM:=FM2
  clear FM2
  refine nrm_in ?_
  refine wi_ A (h3_ t0 t1 t4) (rv_ 1 (.pointer (some ⟨q.g,0,none⟩)) (fun a E=>execNlm rfl (E _)) (rv_ 2 (.pointer (some ⟨q.g,2,none⟩)) (fun a E=>execRo1 rfl (E _)) (rv_ 3 (sl0 q.P p.n) (fun a E=>execLr rfl (Or.inr (Or.inr (Or.inl rfl))) (E _) (gR_at FM).2.2.1) (rv_ 5 (.pointer (some ⟨q.P,0+t,none⟩)) (fun a E=>execIdxN (k:=t) rfl (E _) (E _) ht) (rv_ 6 (.int .i64 ((r.pl t:Nat):Int)) (fun a E=>execLr rfl (Or.inl rfl) (E _) ((rA_c FM.hP ht).trans rfl)) (rv_ 7 (.int .i64 ((r.pl t+1:Nat):Int)) (fun a E=>execAd8 (p:=r.pl t) (q:=1) rfl (E _) rfl (by omega)) (rv_ 8 (.pointer (some ⟨q.P,0+t,none⟩)) (fun a E=>execIdxN (k:=t) rfl (E _) (E _) ht) (rs_ 9 (fun a E=>?_)))))))))
  refine stepS rfl rfl (execStR rfl (Or.inl rfl) (E _) (E _) (Or.inl ⟨_,rfl⟩) (rA_c FM.hP ht) (frozen4 FM.hP)) ⟨_,⟨_,rfl,rfl⟩,fun X31 hX=>?_⟩
  obtain ⟨BB,FXs,FO,FM2⟩:Below U.heap.size U X31/\(Saved (fun b=>ow b ≠ 0) V X31)/\(X31.heap[g4]?=some (.cells (oC 10 (at_ p r t).a (at_ p r t).b) 59))/\(RmM U.heap.size X31 q p cv tz ({ on_ r t with en:=upf r.en t true }) gv kv tv hv ow):=by subst hX; exact ⟨(BB).setCell (ge_lab h (by rw [h.lP]; decide)) _,(sv_cell9 FXs (Or.inl (by rw [h.lP]; decide))),(keepT19 FO FM.hP (by decide) grC19),FM.setP ht⟩
  clear FM hX E a
  refine rg_ [] ?_
  rintro a A -
  have FM:=FM2
  clear FM2
  exact bodyPost_end (results_none rfl _ _ _) A.2 ⟨rfl,⟨⟨_,_,_,FM,FL⟩,FXs⟩,BB⟩
 refine wp_seq ?_
 refine wi_ A (h4_ t0 t1 t4 t9) (rv_ 0 (.bool false) (fun a E=>execDec (exIeql3 (p:=(at_ p r t).k) (q:=10) rfl (E _) rfl) (decide_eq_false ek)) (rf_ [(172,.bool false)] (h3_ t0 t1 t4) ?_))
 rintro a A ⟨t172,-⟩ ⟨t0,t1,t4,-⟩
 refine wp_cond_false t172 ?_
 clear t172
 have k10:=ek
 clear ek
 clear t9
 have ek:(at_ p r t).k=9:=rgt_9 hr_ (by omega)
 rw [stp_9 ek]
 rw [ek] at FO
 refine wp_skip ?_
 refine nrm_in ?_
 refine wi_ A (h3_ t0 t1 t4) (rv_ 1 (.pointer (some ⟨q.g,0,none⟩)) (fun a E=>execNlm rfl (E _)) (rv_ 2 (.pointer (some ⟨q.g,2,none⟩)) (fun a E=>execRo1 rfl (E _)) (rv_ 3 (sl0 q.P p.n) (fun a E=>execLr rfl (Or.inr (Or.inr (Or.inl rfl))) (E _) (gR_at FM).2.2.1) (rv_ 5 (.pointer (some ⟨q.P,0+t,none⟩)) (fun a E=>execIdxN (k:=t) rfl (E _) (E _) ht) (rv_ 6 (.int .i64 ((r.pl t:Nat):Int)) (fun a E=>execLr rfl (Or.inl rfl) (E _) ((rA_c FM.hP ht).trans rfl)) (rv_ 7 (.int .i64 ((r.pl t+1:Nat):Int)) (fun a E=>execAd8 (p:=r.pl t) (q:=1) rfl (E _) rfl (by omega)) (rv_ 8 (.pointer (some ⟨q.P,0+t,none⟩)) (fun a E=>execIdxN (k:=t) rfl (E _) (E _) ht) (rs_ 9 (fun a E=>?_)))))))))
 refine stepS rfl rfl (execStR rfl (Or.inl rfl) (E _) (E _) (Or.inl ⟨_,rfl⟩) (rA_c FM.hP ht) (frozen4 FM.hP)) ⟨_,⟨_,rfl,rfl⟩,fun X31 hX=>?_⟩
 obtain ⟨BB,FXs,FO,FM2⟩:Below U.heap.size U X31/\(Saved (fun b=>ow b ≠ 0) V X31)/\(X31.heap[g4]?=some (.cells (oC 9 (at_ p r t).a (at_ p r t).b) 59))/\(RmM U.heap.size X31 q p cv tz (on_ r t) gv kv tv hv ow):=by subst hX; exact ⟨(BB).setCell (ge_lab h (by rw [h.lP]; decide)) _,(sv_cell9 FXs (Or.inl (by rw [h.lP]; decide))),(keepT19 FO FM.hP (by decide) grC19),FM.setP ht⟩
 clear FM hX E a
 refine rg_ [] ?_
 rintro a A -
 have FM:=FM2
 clear FM2
 exact bodyPost_end (results_none rfl _ _ _) A.2 ⟨rfl,⟨⟨_,_,_,FM,FL⟩,FXs⟩,BB⟩
end Go.Proofs.Ytjjegmflllpknaa.Loo
