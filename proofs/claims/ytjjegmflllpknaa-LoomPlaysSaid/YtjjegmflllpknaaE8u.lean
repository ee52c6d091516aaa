import Derived.Test.YtjjegmflllpknaaE8t
namespace Go.Proofs.Ytjjegmflllpknaa.Loo
open Go.RowKit Gf8 Aes By8 Cel Cf Win Drw Prm
/- The reference's Check. Written by tools/mkE8u.py. -/
section
variable {p:Pl}
theorem chk_a (h:128 < p.n\/64 < p.d):chk p=1:=if_pos h
theorem chk_b (h:¬ (128 < p.n\/64 < p.d)) {t:Nat} (ht:t < p.n) (hl:256 < p.ln t):chk p=1:=by
 unfold chk
 rw [if_neg h,if_pos]
 exact List.any_eq_true.2 ⟨t,List.mem_range.2 ht,decide_eq_true hl⟩
theorem chk_c (h:¬ (128 < p.n\/64 < p.d)) (h1:∀ t,t < p.n->p.ln t<=256) {i:Nat} (hi:i < p.d) (hc:inB (p.cap i) 0 1024=false):chk p=190:=by
 unfold chk
 have e1:¬ lnB p=true:=any_no fun t ht=>decide_eq_false (by have:=h1 t (List.mem_range.1 ht); omega)
 rw [if_neg h,if_neg e1,if_pos]
 exact List.any_eq_true.2 ⟨i,List.mem_range.2 hi,by rw [hc]; rfl⟩
theorem chk_d (h:¬ (128 < p.n\/64 < p.d)) (h1:∀ t,t < p.n->p.ln t<=256) (h2:∀ i,i < p.d->inB (p.cap i) 0 1024=true) {t j:Nat} (ht:t < p.n) (hj:j < p.ln t) (hr:rgt (p.op t j) (p.ln t) p.d p.n=false):chk p=190:=by
 unfold chk
 have e1:¬ lnB p=true:=any_no fun t ht=>decide_eq_false (by have:=h1 t (List.mem_range.1 ht); omega)
 have e2:¬ cpB p=true:=any_no fun i hi=>by rw [h2 i (List.mem_range.1 hi)]; rfl
 rw [if_neg h,if_neg e1,if_neg e2,if_pos]
 exact List.any_eq_true.2 ⟨t,List.mem_range.2 ht,List.any_eq_true.2 ⟨j,List.mem_range.2 hj,by rw [hr]; rfl⟩⟩
theorem chk_e (h:¬ (128 < p.n\/64 < p.d)) (h1:∀ t,t < p.n->p.ln t<=256) (h2:∀ i,i < p.d->inB (p.cap i) 0 1024=true) (h3:∀ t,t < p.n->∀ j,j < p.ln t->rgt (p.op t j) (p.ln t) p.d p.n=true):chk p=0:=
 chk_ok (by omega) (by omega) h1 (fun i hi=>of_decide_eq_true (h2 i hi)) h3
end
theorem lt_next {P:Nat->Prop} {i:Nat} (h:∀ t,t < i->P t) (hi:P i):∀ t,t < i+1->P t:=fun t ht=>by
 by_cases e:t=i
 ·rw [e]; exact hi
 ·exact h t (by omega)
set_option maxRecDepth 100000 in
set_option maxHeartbeats 4000000 in
theorem rcheck19 (p:Pl) (v:Value) (V:World) (hp:PlA V v p) :
  Calls Try.prog 19 #[v] V fun e w'=>e=.returned (.int .i64 ((chk p:Nat):Int))/\Below V.heap.size V w':=by
 obtain ⟨cv,tv,x,rfl,hcv,htv,hops⟩:=hp
 go_enter Try.func19,Try.ntmps19
 refine wo_ 84 [(0,.agg #[cv,tv])] ?_
 rintro a A ⟨t0,-⟩
 have BW:Below V.heap.size V V:=Below.refl _ _
 have BB:Below V.heap.size V V:=Below.refl _ _
 refine wp_seq ?_
 obtain ⟨g1,egg1⟩:∃ z_:Nat,V.heap.size=z_:=⟨_,rfl⟩
 refine wi_ A (h1_ t0) (rs_ 0 (fun a E=>?_))
 refine stepV rfl rfl (execBxP rfl (E _) (sl3 hcv.shp) (sl3 htv.shp)) ⟨.pointer (some ⟨g1,0,none⟩),⟨_,rfl,by subst egg1; rfl⟩,fun X0 hX=>?_⟩
 have bQ:Below V.heap.size V X0:=by subst hX egg1; exact (belNew V _)
 have Fg1:(X0.heap[g1]?=some (.cells (#[cv,tv]) 25)):=by subst hX egg1; exact heapNew V _
 replace BB:=BB.trans (bQ.mono BB.size)
 clear bQ hX egg1 E a
 refine rg_ [(1,.pointer (some ⟨g1,0,none⟩))] ?_
 rintro a A ⟨t1,-⟩
 by_cases hn:128 < p.n
 ·refine wp_seq (wp_seq ?_)
  refine wi_ A (h1_ t1) (rv_ 0 (.pointer (some ⟨g1,1,none⟩)) (fun a E=>execPf1 rfl (E _)) (rv_ 1 (tv) (fun a E=>execLdG rfl (Or.inr (Or.inr (Or.inr (Or.inr (Or.inl rfl))))) (E _) (plB_at Fg1).2) (rv_ 2 (.int .i64 ((p.n:Nat):Int)) (fun a E=>execLnOO (len:=p.n) rfl (E _) (htv.shp)) (rv_ 3 (.bool true) (fun a E=>execDec (execGtN (p:=p.n) (q:=128) rfl (E _) rfl) (decide_eq_true (by omega))) (rf_ [(16,.bool true)] (h1_ t1) ?_)))))
  rintro a A ⟨t16,-⟩ ⟨t1,-⟩
  refine wp_cond_true t16 ?_
  clear t16
  refine wp_seq ?_
  refine wi_ A (h1_ t1) (rg_ [(2,.int .i64 ((1:Nat):Int))] ?_)
  rintro a A ⟨t2,-⟩
  refine wp_ret ?_
  repeat (first | with_reducible refine ret_in ?_ | with_reducible refine ret_then ?_)
  refine bodyPost_ret (results_tmp rfl _ _ _) A.2 ⟨?_,BB⟩
  show Ending.returned (a.eval (.tmp 2))=_
  rw [t2,chk_a (Or.inl hn)]
 ·by_cases hd:64 < p.d
  ·refine wp_seq (wp_seq ?_)
   refine wi_ A (h1_ t1) (rv_ 0 (.pointer (some ⟨g1,1,none⟩)) (fun a E=>execPf1 rfl (E _)) (rv_ 1 (tv) (fun a E=>execLdG rfl (Or.inr (Or.inr (Or.inr (Or.inr (Or.inl rfl))))) (E _) (plB_at Fg1).2) (rv_ 2 (.int .i64 ((p.n:Nat):Int)) (fun a E=>execLnOO (len:=p.n) rfl (E _) (htv.shp)) (rv_ 3 (.bool false) (fun a E=>execDec (execGtN (p:=p.n) (q:=128) rfl (E _) rfl) (decide_eq_false (by omega))) (rv_ 5 (.pointer (some ⟨g1,0,none⟩)) (fun a E=>execPf0 rfl (E _)) (rv_ 6 (cv) (fun a E=>execLdG rfl (Or.inl rfl) (E _) (plB_at Fg1).1) (rv_ 7 (.int .i64 ((p.d:Nat):Int)) (fun a E=>execLenI (len:=p.d) rfl (E _) (hcv.shp)) (rv_ 8 (.bool true) (fun a E=>execDec (execGtN (p:=p.d) (q:=64) rfl (E _) rfl) (decide_eq_true (by omega))) (rf_ [(16,.bool true)] (h1_ t1) ?_)))))))))
   rintro a A ⟨t16,-⟩ ⟨t1,-⟩
   refine wp_cond_true t16 ?_
   clear t16
   refine wp_seq ?_
   refine wi_ A (h1_ t1) (rg_ [(2,.int .i64 ((1:Nat):Int))] ?_)
   rintro a A ⟨t2,-⟩
   refine wp_ret ?_
   repeat (first | with_reducible refine ret_in ?_ | with_reducible refine ret_then ?_)
   refine bodyPost_ret (results_tmp rfl _ _ _) A.2 ⟨?_,BB⟩
   show Ending.returned (a.eval (.tmp 2))=_
   rw [t2,chk_a (Or.inr hd)]
  ·refine wp_seq (wp_seq ?_)
   refine wi_ A (h1_ t1) (rv_ 0 (.pointer (some ⟨g1,1,none⟩)) (fun a E=>execPf1 rfl (E _)) (rv_ 1 (tv) (fun a E=>execLdG rfl (Or.inr (Or.inr (Or.inr (Or.inr (Or.inl rfl))))) (E _) (plB_at Fg1).2) (rv_ 2 (.int .i64 ((p.n:Nat):Int)) (fun a E=>execLnOO (len:=p.n) rfl (E _) (htv.shp)) (rv_ 3 (.bool false) (fun a E=>execDec (execGtN (p:=p.n) (q:=128) rfl (E _) rfl) (decide_eq_false (by omega))) (rv_ 5 (.pointer (some ⟨g1,0,none⟩)) (fun a E=>execPf0 rfl (E _)) (rv_ 6 (cv) (fun a E=>execLdG rfl (Or.inl rfl) (E _) (plB_at Fg1).1) (rv_ 7 (.int .i64 ((p.d:Nat):Int)) (fun a E=>execLenI (len:=p.d) rfl (E _) (hcv.shp)) (rv_ 8 (.bool false) (fun a E=>execDec (execGtN (p:=p.d) (q:=64) rfl (E _) rfl) (decide_eq_false (by omega))) (rf_ [(16,.bool false)] (h1_ t1) ?_)))))))))
   rintro a A ⟨t16,-⟩ ⟨t1,-⟩
   refine wp_cond_false t16 (wp_skip ?_)
   clear t16
   have hnd:¬ (128 < p.n\/64 < p.d):=by omega
   refine wp_seq (wp_seq ?_)
   refine wi_ A (h1_ t1) (rf_ [(3,.int .i64 ((0:Nat):Int))] (h1_ t1) ?_)
   rintro a A ⟨t3,-⟩ ⟨t1,-⟩
   refine wp_block ?_
   refine wp_loop (fun a W=>∃ (i:Nat),i<=p.n/\(∀ t,t < i->p.ln t<=256)/\(a.tmps.size=84/\a.defers=[])/\a.eval (.tmp 1)=.pointer (some ⟨g1,0,none⟩)/\a.eval (.tmp 3)=.int .i64 ((i:Nat):Int)/\Below V.heap.size V W/\(W.heap[g1]?=some (.cells (#[cv,tv]) 25))) (fun a _=>p.n - (intOf (a.eval (.tmp 3))).toNat) ⟨0,Nat.zero_le _,(fun t ht=>absurd ht (Nat.not_lt_zero t)),A,t1,t3,BB,Fg1⟩ ?_
   rintro a XL4 ⟨i,hi,hl,A,t1,t3,BB,Fg1⟩
   have esi:=t3
   refine wp_seq (wp_seq ?_)
   refine wi_ A (h2_ t1 t3) (rv_ 1 (.pointer (some ⟨g1,1,none⟩)) (fun a E=>execPf1 rfl (E _)) (rv_ 2 (tv) (fun a E=>execLdG rfl (Or.inr (Or.inr (Or.inr (Or.inr (Or.inl rfl))))) (E _) (plB_at Fg1).2) (rv_ 3 (.int .i64 ((p.n:Nat):Int)) (fun a E=>execLnOO (len:=p.n) rfl (E _) (htv.shp)) (rv_ 4 (.bool (decide (i < p.n))) (fun a E=>execLtW (p:=i) (q:=p.n) rfl (E _) (E _)) (rf_ [(21,.bool (decide (i < p.n)))] (h2_ t1 t3) ?_)))))
   rintro a A ⟨t21,-⟩ ⟨t1,t3,-⟩
   by_cases lti:i < p.n
   ·rw [decide_eq_true lti] at t21
    refine wp_cond_true t21 (wp_skip ?_)
    clear t21
    refine wp_seq (wp_block ?_)
    obtain ⟨tb,to_,tc,et⟩:=htv.open (by omega)
    by_cases hb:256 < p.ln i
    ·refine wp_seq ?_
     refine wi_ A (h2_ t1 t3) (rv_ 0 (.pointer (some ⟨g1,1,none⟩)) (fun a E=>execPf1 rfl (E _)) (rv_ 1 (tv) (fun a E=>execLdG rfl (Or.inr (Or.inr (Or.inr (Or.inr (Or.inl rfl))))) (E _) (plB_at Fg1).2) (rv_ 3 (.pointer (some ⟨tb,to_+i,none⟩)) (fun a E=>execIxOO (k:=i) rfl ((E _).trans et) (E _) lti) (rv_ 4 (x i) (fun a E=>execLdG rfl (Or.inr (Or.inr (Or.inr (Or.inr (Or.inr rfl))))) (E _) (SliceV.at (htv.on BB) et lti)) (rv_ 5 (.int .i64 ((p.ln i:Nat):Int)) (fun a E=>execLnOs (len:=p.ln i) rfl (E _) ((hops i lti).shp)) (rv_ 6 (.bool true) (fun a E=>execDec (execGtN (p:=p.ln i) (q:=256) rfl (E _) rfl) (decide_eq_true (by omega))) (rf_ [(30,.bool true)] (h2_ t1 t3) ?_)))))))
     rintro a A ⟨t30,-⟩ ⟨t1,t3,-⟩
     refine wp_cond_true t30 ?_
     clear t30
     refine wp_seq ?_
     refine wi_ A (h2_ t1 t3) (rg_ [(2,.int .i64 ((1:Nat):Int))] ?_)
     rintro a A ⟨t2,-⟩
     refine wp_ret ?_
     repeat (first | with_reducible refine ret_in ?_ | with_reducible refine ret_then ?_)
     refine bodyPost_ret (results_tmp rfl _ _ _) A.2 ⟨?_,BB⟩
     show Ending.returned (a.eval (.tmp 2))=_
     rw [t2,chk_b hnd lti hb]
    ·refine wp_seq ?_
     refine wi_ A (h2_ t1 t3) (rv_ 0 (.pointer (some ⟨g1,1,none⟩)) (fun a E=>execPf1 rfl (E _)) (rv_ 1 (tv) (fun a E=>execLdG rfl (Or.inr (Or.inr (Or.inr (Or.inr (Or.inl rfl))))) (E _) (plB_at Fg1).2) (rv_ 3 (.pointer (some ⟨tb,to_+i,none⟩)) (fun a E=>execIxOO (k:=i) rfl ((E _).trans et) (E _) lti) (rv_ 4 (x i) (fun a E=>execLdG rfl (Or.inr (Or.inr (Or.inr (Or.inr (Or.inr rfl))))) (E _) (SliceV.at (htv.on BB) et lti)) (rv_ 5 (.int .i64 ((p.ln i:Nat):Int)) (fun a E=>execLnOs (len:=p.ln i) rfl (E _) ((hops i lti).shp)) (rv_ 6 (.bool false) (fun a E=>execDec (execGtN (p:=p.ln i) (q:=256) rfl (E _) rfl) (decide_eq_false (by omega))) (rf_ [(30,.bool false)] (h2_ t1 t3) ?_)))))))
     rintro a A ⟨t30,-⟩ ⟨t1,t3,-⟩
     refine wp_cond_false t30 (wp_skip ?_)
     clear t30
     refine wi_ A (h2_ t1 t3) (rv_ 1 (.int .i64 (((i:Nat):Int)+1)) (fun a E=>exAddZ (p:=((i:Nat):Int)) (q:=1) rfl (E _) rfl ⟨by omega,by omega⟩) (rf_ [(3,.int .i64 (((i:Nat):Int)+1))] (h1_ t1) ?_))
     rintro a A ⟨t3,-⟩ ⟨t1,-⟩
     exact ⟨⟨i+1,lti,(lt_next hl (by omega)),A,t1,t3,BB,Fg1⟩,by show p.n - (intOf (a.eval (.tmp 3))).toNat < p.n - (intOf (Act.eval _ (.tmp 3))).toNat; rw [t3,esi]; show p.n - (i+1) < p.n - i; omega⟩
   ·rw [decide_eq_false lti] at t21
    refine wp_cond_false t21 ?_
    refine wp_exit ?_
    first | with_reducible refine exit_in ?_ | with_reducible refine exit_then (exit_in ?_) | with_reducible refine exit_then (exit_then (exit_in ?_)) | refine exit_in ?_ | refine exit_then (exit_in ?_) | refine exit_then (exit_then (exit_in ?_))
    clear t21 esi
    have e1:i=p.n:=by omega
    rw [e1] at hl
    refine wp_seq (wp_seq ?_)
    refine wi_ A (h1_ t1) (rf_ [(4,.int .i64 ((0:Nat):Int))] (h1_ t1) ?_)
    rintro a A ⟨t4,-⟩ ⟨t1,-⟩
    refine wp_block ?_
    refine wp_loop (fun a W=>∃ (q:Nat),q<=p.d/\(∀ t,t < q->inB (p.cap t) 0 1024=true)/\(a.tmps.size=84/\a.defers=[])/\a.eval (.tmp 1)=.pointer (some ⟨g1,0,none⟩)/\a.eval (.tmp 4)=.int .i64 ((q:Nat):Int)/\Below V.heap.size V W/\(W.heap[g1]?=some (.cells (#[cv,tv]) 25))) (fun a _=>p.d - (intOf (a.eval (.tmp 4))).toNat) ⟨0,Nat.zero_le _,(fun t ht=>absurd ht (Nat.not_lt_zero t)),A,t1,t4,BB,Fg1⟩ ?_
    rintro a XL9 ⟨q,hq,hc,A,t1,t4,BB,Fg1⟩
    have esq:=t4
    refine wp_seq (wp_seq ?_)
    refine wi_ A (h2_ t1 t4) (rv_ 1 (.pointer (some ⟨g1,0,none⟩)) (fun a E=>execPf0 rfl (E _)) (rv_ 2 (cv) (fun a E=>execLdG rfl (Or.inl rfl) (E _) (plB_at Fg1).1) (rv_ 3 (.int .i64 ((p.d:Nat):Int)) (fun a E=>execLenI (len:=p.d) rfl (E _) (hcv.shp)) (rv_ 4 (.bool (decide (q < p.d))) (fun a E=>execLtW (p:=q) (q:=p.d) rfl (E _) (E _)) (rf_ [(35,.bool (decide (q < p.d)))] (h2_ t1 t4) ?_)))))
    rintro a A ⟨t35,-⟩ ⟨t1,t4,-⟩
    by_cases ltq:q < p.d
    ·rw [decide_eq_true ltq] at t35
     refine wp_cond_true t35 (wp_skip ?_)
     clear t35
     refine wp_seq (wp_block ?_)
     obtain ⟨cb,co,cc,ec,hcb,hcc⟩:=ints_open hcv (by omega)
     have cX:∀ X,Below V.heap.size V X->X.cell? ⟨cb,co+q,none⟩=some (.int .i64 (p.cap q)):=fun X hX=>by rw [cell_below hX hcb]; exact hcc q ltq
     cases hB:inB (p.cap q) 0 1024 with
     | false=>
      refine wp_seq ?_
      refine wi_ A (h2_ t1 t4) (rv_ 0 (.pointer (some ⟨g1,0,none⟩)) (fun a E=>execPf0 rfl (E _)) (rv_ 1 (cv) (fun a E=>execLdG rfl (Or.inl rfl) (E _) (plB_at Fg1).1) (rv_ 3 (.pointer (some ⟨cb,co+q,none⟩)) (fun a E=>execIdxN (k:=q) rfl ((E _).trans ec) (E _) ltq) (rv_ 4 (.int .i64 (p.cap q)) (fun a E=>execLdG rfl (Or.inr (Or.inl rfl)) (E _) (cX XL9 BB)) (rc_ 5 ((hB ▸ rwithin (p.cap q) 0 1024 XL9)) (cb_ fun X11 bQ=>?_))))))
      replace Fg1:=(on9 Fg1 bQ)
      replace BB:=BB.trans (bQ.mono BB.size)
      clear bQ
      refine rv_ 6 (.bool true) (fun a E=>execNot8 (b:=false) rfl (E _)) (rf_ [(44,.bool true)] (h2_ t1 t4) ?_)
      rintro a A ⟨t44,-⟩ ⟨t1,t4,-⟩
      refine wp_cond_true t44 ?_
      clear t44
      refine wp_seq ?_
      refine wi_ A (h2_ t1 t4) (rg_ [(2,.int .i64 ((190:Nat):Int))] ?_)
      rintro a A ⟨t2,-⟩
      refine wp_ret ?_
      repeat (first | with_reducible refine ret_in ?_ | with_reducible refine ret_then ?_)
      refine bodyPost_ret (results_tmp rfl _ _ _) A.2 ⟨?_,BB⟩
      show Ending.returned (a.eval (.tmp 2))=_
      rw [t2,chk_c hnd hl ltq hB]
     | true=>
      refine wp_seq ?_
      refine wi_ A (h2_ t1 t4) (rv_ 0 (.pointer (some ⟨g1,0,none⟩)) (fun a E=>execPf0 rfl (E _)) (rv_ 1 (cv) (fun a E=>execLdG rfl (Or.inl rfl) (E _) (plB_at Fg1).1) (rv_ 3 (.pointer (some ⟨cb,co+q,none⟩)) (fun a E=>execIdxN (k:=q) rfl ((E _).trans ec) (E _) ltq) (rv_ 4 (.int .i64 (p.cap q)) (fun a E=>execLdG rfl (Or.inr (Or.inl rfl)) (E _) (cX XL9 BB)) (rc_ 5 ((hB ▸ rwithin (p.cap q) 0 1024 XL9)) (cb_ fun X11 bQ=>?_))))))
      replace Fg1:=(on9 Fg1 bQ)
      replace BB:=BB.trans (bQ.mono BB.size)
      clear bQ
      refine rv_ 6 (.bool false) (fun a E=>execNot8 (b:=true) rfl (E _)) (rf_ [(44,.bool false)] (h2_ t1 t4) ?_)
      rintro a A ⟨t44,-⟩ ⟨t1,t4,-⟩
      refine wp_cond_false t44 (wp_skip ?_)
      clear t44
      refine wi_ A (h2_ t1 t4) (rv_ 1 (.int .i64 (((q:Nat):Int)+1)) (fun a E=>exAddZ (p:=((q:Nat):Int)) (q:=1) rfl (E _) rfl ⟨by omega,by omega⟩) (rf_ [(4,.int .i64 (((q:Nat):Int)+1))] (h1_ t1) ?_))
      rintro a A ⟨t4,-⟩ ⟨t1,-⟩
      exact ⟨⟨q+1,ltq,(lt_next hc hB),A,t1,t4,BB,Fg1⟩,by show p.d - (intOf (a.eval (.tmp 4))).toNat < p.d - (intOf (Act.eval _ (.tmp 4))).toNat; rw [t4,esq]; show p.d - (q+1) < p.d - q; omega⟩
    ·rw [decide_eq_false ltq] at t35
     refine wp_cond_false t35 ?_
     refine wp_exit ?_
     first | with_reducible refine exit_in ?_ | with_reducible refine exit_then (exit_in ?_) | with_reducible refine exit_then (exit_then (exit_in ?_)) | refine exit_in ?_ | refine exit_then (exit_in ?_) | refine exit_then (exit_then (exit_in ?_))
     clear t35 esq
     have e2:q=p.d:=by omega
     rw [e2] at hc
     refine wp_seq (wp_seq ?_)
     refine wi_ A (h1_ t1) (rf_ [(5,.int .i64 ((0:Nat):Int))] (h1_ t1) ?_)
     rintro a A ⟨t5,-⟩ ⟨t1,-⟩
     refine wp_block ?_
     refine wp_loop (fun a W=>∃ (m:Nat),m<=p.n/\(∀ t,t < m->∀ j,j < p.ln t->rgt (p.op t j) (p.ln t) p.d p.n=true)/\(a.tmps.size=84/\a.defers=[])/\a.eval (.tmp 1)=.pointer (some ⟨g1,0,none⟩)/\a.eval (.tmp 5)=.int .i64 ((m:Nat):Int)/\Below V.heap.size V W/\(W.heap[g1]?=some (.cells (#[cv,tv]) 25))) (fun a _=>p.n - (intOf (a.eval (.tmp 5))).toNat) ⟨0,Nat.zero_le _,(fun t ht=>absurd ht (Nat.not_lt_zero t)),A,t1,t5,BB,Fg1⟩ ?_
     rintro a XL14 ⟨m,hm,hm,A,t1,t5,BB,Fg1⟩
     have esm:=t5
     refine wp_seq (wp_seq ?_)
     refine wi_ A (h2_ t1 t5) (rv_ 1 (.pointer (some ⟨g1,1,none⟩)) (fun a E=>execPf1 rfl (E _)) (rv_ 2 (tv) (fun a E=>execLdG rfl (Or.inr (Or.inr (Or.inr (Or.inr (Or.inl rfl))))) (E _) (plB_at Fg1).2) (rv_ 3 (.int .i64 ((p.n:Nat):Int)) (fun a E=>execLnOO (len:=p.n) rfl (E _) (htv.shp)) (rv_ 4 (.bool (decide (m < p.n))) (fun a E=>execLtW (p:=m) (q:=p.n) rfl (E _) (E _)) (rf_ [(49,.bool (decide (m < p.n)))] (h2_ t1 t5) ?_)))))
     rintro a A ⟨t49,-⟩ ⟨t1,t5,-⟩
     by_cases ltm:m < p.n
     ·rw [decide_eq_true ltm] at t49
      refine wp_cond_true t49 (wp_skip ?_)
      clear t49
      refine wp_seq (wp_block ?_)
      have hlm:=hl m ltm
      obtain ⟨tb,to_,tc,et⟩:=htv.open (by omega)
      refine wp_seq ?_
      refine wi_ A (h2_ t1 t5) (rf_ [(6,.int .i64 ((0:Nat):Int))] (h2_ t1 t5) ?_)
      rintro a A ⟨t6,-⟩ ⟨t1,t5,-⟩
      refine wp_block ?_
      refine wp_loop (fun a W=>∃ (j:Nat),j<=p.ln m/\(∀ t,t < j->rgt (p.op m t) (p.ln m) p.d p.n=true)/\(a.tmps.size=84/\a.defers=[])/\a.eval (.tmp 1)=.pointer (some ⟨g1,0,none⟩)/\a.eval (.tmp 5)=.int .i64 ((m:Nat):Int)/\a.eval (.tmp 6)=.int .i64 ((j:Nat):Int)/\Below V.heap.size V W/\(W.heap[g1]?=some (.cells (#[cv,tv]) 25))) (fun a _=>p.ln m - (intOf (a.eval (.tmp 6))).toNat) ⟨0,Nat.zero_le _,(fun t ht=>absurd ht (Nat.not_lt_zero t)),A,t1,t5,t6,BB,Fg1⟩ ?_
      rintro a XL17 ⟨j,hj,hj,A,t1,t5,t6,BB,Fg1⟩
      have esj:=t6
      refine wp_seq (wp_seq ?_)
      refine wi_ A (h3_ t1 t5 t6) (rv_ 1 (.pointer (some ⟨g1,1,none⟩)) (fun a E=>execPf1 rfl (E _)) (rv_ 2 (tv) (fun a E=>execLdG rfl (Or.inr (Or.inr (Or.inr (Or.inr (Or.inl rfl))))) (E _) (plB_at Fg1).2) (rv_ 4 (.pointer (some ⟨tb,to_+m,none⟩)) (fun a E=>execIxOO (k:=m) rfl ((E _).trans et) (E _) ltm) (rv_ 5 (x m) (fun a E=>execLdG rfl (Or.inr (Or.inr (Or.inr (Or.inr (Or.inr rfl))))) (E _) (SliceV.at (htv.on BB) et ltm)) (rv_ 6 (.int .i64 ((p.ln m:Nat):Int)) (fun a E=>execLnOs (len:=p.ln m) rfl (E _) ((hops m ltm).shp)) (rv_ 7 (.bool (decide (j < p.ln m))) (fun a E=>execLtW (p:=j) (q:=p.ln m) rfl (E _) (E _)) (rf_ [(59,.bool (decide (j < p.ln m)))] (h3_ t1 t5 t6) ?_)))))))
      rintro a A ⟨t59,-⟩ ⟨t1,t5,t6,-⟩
      by_cases ltj:j < p.ln m
      ·rw [decide_eq_true ltj] at t59
       refine wp_cond_true t59 (wp_skip ?_)
       clear t59
       refine wp_seq (wp_block ?_)
       obtain ⟨ob_,oo,oc,eo⟩:=(hops m ltm).open (by omega)
       cases hB:rgt (p.op m j) (p.ln m) p.d p.n with
       | false=>
        refine wp_seq ?_
        refine wj_ [0,1,2,3,4,5,6,7,8,9,10,11,12,13,14,15,16,17,18,19,20,21] [20] [1,4,7,9,12,15,18] [] A (h3_ t1 t5 t6) (fun X19_0 bD=>?_)
        refine dw_ 0 (.pointer (some ⟨g1,1,none⟩)) (fun a X E=>execPf1 rfl (E _)) (dv_ 1 (tv) (fun a X E hb=>execLdG rfl (Or.inr (Or.inr (Or.inr (Or.inr (Or.inl rfl))))) (E _) (plB_at (on9 Fg1 hb)).2) (dw_ 3 (.pointer (some ⟨tb,to_+m,none⟩)) (fun a X E=>execIxOO (k:=m) rfl ((E _).trans et) (E _) ltm) (dv_ 4 (x m) (fun a X E hb=>execLdG rfl (Or.inr (Or.inr (Or.inr (Or.inr (Or.inr rfl))))) (E _) (SliceV.at (htv.on (BB.trans (hb.mono BB.size))) et ltm)) (dw_ 6 (.pointer (some ⟨ob_,oo+j * 3,none⟩)) (fun a X E=>execIxOs (k:=j) rfl ((E _).trans eo) (E _) ltj) (dv_ 7 (.agg (oC (p.op m j).k (p.op m j).a (p.op m j).b)) (fun a X E hb=>execLdO rfl (E _) (SliceO.at ((hops m ltm).on (BB.trans (hb.mono BB.size))) eo ltj)) (dw_ 8 (.pointer (some ⟨g1,1,none⟩)) (fun a X E=>execPf1 rfl (E _)) (dv_ 9 (tv) (fun a X E hb=>execLdG rfl (Or.inr (Or.inr (Or.inr (Or.inr (Or.inl rfl))))) (E _) (plB_at (on9 Fg1 hb)).2) (dw_ 11 (.pointer (some ⟨tb,to_+m,none⟩)) (fun a X E=>execIxOO (k:=m) rfl ((E _).trans et) (E _) ltm) (dv_ 12 (x m) (fun a X E hb=>execLdG rfl (Or.inr (Or.inr (Or.inr (Or.inr (Or.inr rfl))))) (E _) (SliceV.at (htv.on (BB.trans (hb.mono BB.size))) et ltm)) (dw_ 13 (.int .i64 ((p.ln m:Nat):Int)) (fun a X E=>execLnOs (len:=p.ln m) rfl (E _) ((hops m ltm).shp)) (dw_ 14 (.pointer (some ⟨g1,0,none⟩)) (fun a X E=>execPf0 rfl (E _)) (dv_ 15 (cv) (fun a X E hb=>execLdG rfl (Or.inl rfl) (E _) (plB_at (on9 Fg1 hb)).1) (dw_ 16 (.int .i64 ((p.d:Nat):Int)) (fun a X E=>execLenI (len:=p.d) rfl (E _) (hcv.shp)) (dw_ 17 (.pointer (some ⟨g1,1,none⟩)) (fun a X E=>execPf1 rfl (E _)) (dv_ 18 (tv) (fun a X E hb=>execLdG rfl (Or.inr (Or.inr (Or.inr (Or.inr (Or.inl rfl))))) (E _) (plB_at (on9 Fg1 hb)).2) (dw_ 19 (.int .i64 ((p.n:Nat):Int)) (fun a X E=>execLnOO (len:=p.n) rfl (E _) (htv.shp)) (dc_ 20 ((hB ▸ rright (p.op m j).k (p.op m j).a (p.op m j).b (p.ln m) p.d p.n X19_0 (by omega) (by omega))) (cb_ fun X19 bQ=>?_))))))))))))))))))
        replace bD:=bD.trans (bQ.mono bD.size)
        clear bQ
        refine ⟨Or.inr bD,?_⟩
        refine dw_ 21 (.bool true) (fun a X E=>execNot8 (b:=false) rfl (E _)) (dz_ [(83,.bool true)] (h3_ t1 t5 t6) ?_)
        rintro a A ⟨t83,-⟩ ⟨t1,t5,t6,-⟩
        replace Fg1:=(on9 Fg1 bD)
        replace BB:=BB.trans (bD.mono BB.size)
        clear bD
        refine wp_cond_true t83 ?_
        clear t83
        refine wp_seq ?_
        refine wi_ A (h3_ t1 t5 t6) (rg_ [(2,.int .i64 ((190:Nat):Int))] ?_)
        rintro a A ⟨t2,-⟩
        refine wp_ret ?_
        repeat (first | with_reducible refine ret_in ?_ | with_reducible refine ret_then ?_)
        refine bodyPost_ret (results_tmp rfl _ _ _) A.2 ⟨?_,BB⟩
        show Ending.returned (a.eval (.tmp 2))=_
        rw [t2,chk_d hnd hl hc ltm ltj hB]
       | true=>
        refine wp_seq ?_
        refine wj_ [0,1,2,3,4,5,6,7,8,9,10,11,12,13,14,15,16,17,18,19,20,21] [20] [1,4,7,9,12,15,18] [] A (h3_ t1 t5 t6) (fun X19_0 bD=>?_)
        refine dw_ 0 (.pointer (some ⟨g1,1,none⟩)) (fun a X E=>execPf1 rfl (E _)) (dv_ 1 (tv) (fun a X E hb=>execLdG rfl (Or.inr (Or.inr (Or.inr (Or.inr (Or.inl rfl))))) (E _) (plB_at (on9 Fg1 hb)).2) (dw_ 3 (.pointer (some ⟨tb,to_+m,none⟩)) (fun a X E=>execIxOO (k:=m) rfl ((E _).trans et) (E _) ltm) (dv_ 4 (x m) (fun a X E hb=>execLdG rfl (Or.inr (Or.inr (Or.inr (Or.inr (Or.inr rfl))))) (E _) (SliceV.at (htv.on (BB.trans (hb.mono BB.size))) et ltm)) (dw_ 6 (.pointer (some ⟨ob_,oo+j * 3,none⟩)) (fun a X E=>execIxOs (k:=j) rfl ((E _).trans eo) (E _) ltj) (dv_ 7 (.agg (oC (p.op m j).k (p.op m j).a (p.op m j).b)) (fun a X E hb=>execLdO rfl (E _) (SliceO.at ((hops m ltm).on (BB.trans (hb.mono BB.size))) eo ltj)) (dw_ 8 (.pointer (some ⟨g1,1,none⟩)) (fun a X E=>execPf1 rfl (E _)) (dv_ 9 (tv) (fun a X E hb=>execLdG rfl (Or.inr (Or.inr (Or.inr (Or.inr (Or.inl rfl))))) (E _) (plB_at (on9 Fg1 hb)).2) (dw_ 11 (.pointer (some ⟨tb,to_+m,none⟩)) (fun a X E=>execIxOO (k:=m) rfl ((E _).trans et) (E _) ltm) (dv_ 12 (x m) (fun a X E hb=>execLdG rfl (Or.inr (Or.inr (Or.inr (Or.inr (Or.inr rfl))))) (E _) (SliceV.at (htv.on (BB.trans (hb.mono BB.size))) et ltm)) (dw_ 13 (.int .i64 ((p.ln m:Nat):Int)) (fun a X E=>execLnOs (len:=p.ln m) rfl (E _) ((hops m ltm).shp)) (dw_ 14 (.pointer (some ⟨g1,0,none⟩)) (fun a X E=>execPf0 rfl (E _)) (dv_ 15 (cv) (fun a X E hb=>execLdG rfl (Or.inl rfl) (E _) (plB_at (on9 Fg1 hb)).1) (dw_ 16 (.int .i64 ((p.d:Nat):Int)) (fun a X E=>execLenI (len:=p.d) rfl (E _) (hcv.shp)) (dw_ 17 (.pointer (some ⟨g1,1,none⟩)) (fun a X E=>execPf1 rfl (E _)) (dv_ 18 (tv) (fun a X E hb=>execLdG rfl (Or.inr (Or.inr (Or.inr (Or.inr (Or.inl rfl))))) (E _) (plB_at (on9 Fg1 hb)).2) (dw_ 19 (.int .i64 ((p.n:Nat):Int)) (fun a X E=>execLnOO (len:=p.n) rfl (E _) (htv.shp)) (dc_ 20 ((hB ▸ rright (p.op m j).k (p.op m j).a (p.op m j).b (p.ln m) p.d p.n X19_0 (by omega) (by omega))) (cb_ fun X19 bQ=>?_))))))))))))))))))
        replace bD:=bD.trans (bQ.mono bD.size)
        clear bQ
        refine ⟨Or.inr bD,?_⟩
        refine dw_ 21 (.bool false) (fun a X E=>execNot8 (b:=true) rfl (E _)) (dz_ [(83,.bool false)] (h3_ t1 t5 t6) ?_)
        rintro a A ⟨t83,-⟩ ⟨t1,t5,t6,-⟩
        replace Fg1:=(on9 Fg1 bD)
        replace BB:=BB.trans (bD.mono BB.size)
        clear bD
        refine wp_cond_false t83 (wp_skip ?_)
        clear t83
        refine wi_ A (h3_ t1 t5 t6) (rv_ 1 (.int .i64 (((j:Nat):Int)+1)) (fun a E=>exAddZ (p:=((j:Nat):Int)) (q:=1) rfl (E _) rfl ⟨by omega,by omega⟩) (rf_ [(6,.int .i64 (((j:Nat):Int)+1))] (h2_ t1 t5) ?_))
        rintro a A ⟨t6,-⟩ ⟨t1,t5,-⟩
        exact ⟨⟨j+1,ltj,(lt_next hj hB),A,t1,t5,t6,BB,Fg1⟩,by show p.ln m - (intOf (a.eval (.tmp 6))).toNat < p.ln m - (intOf (Act.eval _ (.tmp 6))).toNat; rw [t6,esj]; show p.ln m - (j+1) < p.ln m - j; omega⟩
      ·rw [decide_eq_false ltj] at t59
       refine wp_cond_false t59 ?_
       refine wp_exit ?_
       first | with_reducible refine exit_in ?_ | with_reducible refine exit_then (exit_in ?_) | with_reducible refine exit_then (exit_then (exit_in ?_)) | refine exit_in ?_ | refine exit_then (exit_in ?_) | refine exit_then (exit_then (exit_in ?_))
       clear t59 esj
       have e3:j=p.ln m:=by omega
       rw [e3] at hj
       refine wi_ A (h2_ t1 t5) (rv_ 1 (.int .i64 (((m:Nat):Int)+1)) (fun a E=>exAddZ (p:=((m:Nat):Int)) (q:=1) rfl (E _) rfl ⟨by omega,by omega⟩) (rf_ [(5,.int .i64 (((m:Nat):Int)+1))] (h1_ t1) ?_))
       rintro a A ⟨t5,-⟩ ⟨t1,-⟩
       exact ⟨⟨m+1,ltm,(lt_next hm hj),A,t1,t5,BB,Fg1⟩,by show p.n - (intOf (a.eval (.tmp 5))).toNat < p.n - (intOf (Act.eval _ (.tmp 5))).toNat; rw [t5,esm]; show p.n - (m+1) < p.n - m; omega⟩
     ·rw [decide_eq_false ltm] at t49
      refine wp_cond_false t49 ?_
      refine wp_exit ?_
      first | with_reducible refine exit_in ?_ | with_reducible refine exit_then (exit_in ?_) | with_reducible refine exit_then (exit_then (exit_in ?_)) | refine exit_in ?_ | refine exit_then (exit_in ?_) | refine exit_then (exit_then (exit_in ?_))
      clear t49 esm
      have e4:m=p.n:=by omega
      rw [e4] at hm
      refine wp_seq ?_
      refine wi_ A (h1_ t1) (rg_ [(2,.int .i64 ((0:Nat):Int))] ?_)
      rintro a A ⟨t2,-⟩
      refine wp_ret ?_
      repeat (first | with_reducible refine ret_in ?_ | with_reducible refine ret_then ?_)
      refine bodyPost_ret (results_tmp rfl _ _ _) A.2 ⟨?_,BB⟩
      show Ending.returned (a.eval (.tmp 2))=_
      rw [t2,chk_e hnd hl hc hm]
end Go.Proofs.Ytjjegmflllpknaa.Loo
