import Derived.Test.YtjjegmflllpknaaN8m
namespace Go.Proofs.Ytjjegmflllpknaa.Loo
open Go.RowKit Gf8 Aes By8 Cel Cf Win Drw Prm
/- The landed strands of a plan. Written by tools/mkN8n.py. -/
section
variable {o:Oper} {a:Act} {w:World}
theorem execBxRp {x:Operand} {q:Option Addr} (ho:o.op=.box 64 x) (hx:a.eval x=.pointer q):(execOp a.eval o).run Try.prog w=.ok (.value (.pointer (some ⟨w.heap.size,0,none⟩))) (w.alloc (.cells #[.pointer q] 64)):=by
 unfold execOp
 simp only [ho,hx]
 simp [go_sem]
theorem execBxHp {x:Operand} {q:Option Addr} (ho:o.op=.box 71 x) (hx:a.eval x=.pointer q):(execOp a.eval o).run Try.prog w=.ok (.value (.pointer (some ⟨w.heap.size,0,none⟩))) (w.alloc (.cells #[.pointer q] 71)):=by
 unfold execOp
 simp only [ho,hx]
 simp [go_sem]
theorem execBdSt {x y z:Operand} {f1 f2 f3:FuncId × Array Value × Array Value} (ho:o.op=.build 73 #[(0,x),(1,y),(2,z)]) (hx:a.eval x=fv3 f1) (hy:a.eval y=fv3 f2) (hz:a.eval z=fv3 f3):(execOp a.eval o).run Try.prog w=.ok (.value (.agg #[fv3 f1,fv3 f2,fv3 f3])) w:=by
 unfold execOp
 simp only [ho,List.map_toArray,List.map_cons,List.map_nil,hx,hy,hz]
 simp [go_sem,fv3]
end
theorem one_at {W:World} {g:Nat} {u:Value} {t:TypeId} (h:W.heap[g]?=some (.cells #[u] t)):W.cell? ⟨g,0,none⟩=some u:=by
 rw [cell_of_row _ _ _ _ _ _ h]
 rfl
theorem sizeSt (u1 u2 u3:Value):(Try.prog.info? 73).map (·.size)=some (#[u1,u2,u3]:Array Value).size:=by
 show _=some 3
 kernel_rfl
def pe (G:Ad) (t:Nat):FuncId × Array Value × Array Value:=(42,#[.pointer (some ⟨G.hn t,0,none⟩)],#[])
def pr_ (q1 q2:Nat):FuncId × Array Value × Array Value:=(43,#[],#[.pointer (some ⟨q1,0,none⟩),.pointer (some ⟨q2,0,none⟩)])
def ps_ (q1 q2:Nat):FuncId × Array Value × Array Value:=(45,#[],#[.pointer (some ⟨q1,0,none⟩),.pointer (some ⟨q2,0,none⟩)])
set_option maxRecDepth 100000 in
set_option maxHeartbeats 4000000 in
theorem pstrand (G:Ad) (t:Nat) (V:World):Calls Try.prog 26 #[.pointer (some ⟨G.rb,0,none⟩),.pointer (some ⟨G.hn t,0,none⟩)] V fun e w'=>∃ q1 q2,e=.returned (.agg #[fv3 (pe G t),fv3 (pr_ q1 q2),fv3 (ps_ q1 q2)])/\V.heap.size<=q1/\V.heap.size<=q2/\w'.heap[q1]?=some (.cells #[.pointer (some ⟨G.rb,0,none⟩)] 64)/\w'.heap[q2]?=some (.cells #[.pointer (some ⟨G.hn t,0,none⟩)] 71)/\Below V.heap.size V w':=by
 go_enter Try.func26,Try.ntmps26
 refine wo_ 10 [(0,.pointer (some ⟨G.rb,0,none⟩)),(1,.pointer (some ⟨G.hn t,0,none⟩))] ?_
 rintro a A ⟨t0,t1,-⟩
 refine wp_seq ?_
 obtain ⟨q1,e1⟩:∃ z_:Nat,V.heap.size=z_:=⟨_,rfl⟩
 refine wi_ A (h2_ t0 t1) (rs_ 0 (fun a E=>?_))
 refine stepV rfl rfl (execBxRp rfl (E _)) ⟨.pointer (some ⟨q1,0,none⟩),⟨_,rfl,by subst e1; rfl⟩,fun X1 hX=>?_⟩
 have b1:Below V.heap.size V X1:=by rw [hX]; exact belNew V _
 have F1:X1.heap[q1]?=some (.cells #[.pointer (some ⟨G.rb,0,none⟩)] 64):=by rw [hX,← e1]; exact heapNew V _
 clear hX E a
 obtain ⟨q2,e2⟩:∃ z_:Nat,X1.heap.size=z_:=⟨_,rfl⟩
 refine rs_ 1 (fun a E=>?_)
 refine stepV rfl rfl (execBxHp rfl (E _)) ⟨.pointer (some ⟨q2,0,none⟩),⟨_,rfl,by subst e2; rfl⟩,fun X2 hX=>?_⟩
 have b2:Below X1.heap.size X1 X2:=by rw [hX]; exact belNew X1 _
 have F2:X2.heap[q2]?=some (.cells #[.pointer (some ⟨G.hn t,0,none⟩)] 71):=by rw [hX,← e2]; exact heapNew X1 _
 clear hX E a
 obtain ⟨g4,e4⟩:∃ z_:Nat,X2.heap.size=z_:=⟨_,rfl⟩
 refine rs_ 2 (fun a E=>?_)
 refine stepV rfl rfl (execAlSt rfl) ⟨.pointer (some ⟨g4,0,none⟩),⟨_,rfl,by subst e4; rfl⟩,fun X3 hX=>?_⟩
 have b3:Below X2.heap.size X2 X3:=by rw [hX]; exact belNew X2 _
 have F4:X3.heap[g4]?=some (.cells #[.nilFunc,.nilFunc,.nilFunc] 73):=by rw [hX,← e4]; exact heapNew X2 _
 clear hX E a
 replace F1:=on9 (on9 F1 b2) b3
 have l2:=(Array.getElem?_eq_some_iff.1 F2).1
 replace F2:=on9 F2 b3
 have l1:=b1.size
 have l3:=b2.size
 have bV:Below V.heap.size V X3:=(b1.trans (b2.mono b1.size)).trans (b3.mono (Nat.le_trans b1.size b2.size))
 refine rf_ [(2,.pointer (some ⟨q1,0,none⟩)),(3,.pointer (some ⟨q2,0,none⟩)),(4,.pointer (some ⟨g4,0,none⟩))] (h2_ t0 t1) ?_
 rintro a A ⟨t2,t3,t4,-⟩ ⟨t0,t1,-⟩
 refine wp_seq ?_
 refine wi_ A (h3_ t2 t3 t4) (rv_ 0 (.pointer (some ⟨G.hn t,0,none⟩)) (fun a E=>execLdP rfl (Or.inr (Or.inr (Or.inl rfl))) (E _) (one_at F2)) (rv_ 1 (fv3 (pe G t)) (fun a E=>(execMkFn rfl).trans (by simp [E,fv3,pe]; rfl)) (rv_ 2 (fv3 (pr_ q1 q2)) (fun a E=>(execMkFn rfl).trans (by simp [E,fv3,pr_]; exact ⟨rfl,rfl⟩)) (rv_ 3 (fv3 (ps_ q1 q2)) (fun a E=>(execMkFn rfl).trans (by simp [E,fv3,ps_]; exact ⟨rfl,rfl⟩)) (rv_ 4 (.agg #[fv3 (pe G t),fv3 (pr_ q1 q2),fv3 (ps_ q1 q2)]) (fun a E=>execBdSt rfl (E _) (E _) (E _)) (rs_ 5 (fun a E=>?_)))))))
 refine stepS rfl rfl (execStSt rfl (E _) (E _) F4 (fv3_fn _) (fv3_fn _) (fv3_fn _)) ⟨_,⟨_,rfl,rfl⟩,fun X4 hX=>?_⟩
 have F4':X4.heap[g4]?=some (.cells #[fv3 (pe G t),fv3 (pr_ q1 q2),fv3 (ps_ q1 q2)] 73):=by rw [hX]; exact setRow_heap _ _ _ _ _ _ F4
 have F1':X4.heap[q1]?=some (.cells #[.pointer (some ⟨G.rb,0,none⟩)] 64):=by rw [hX,setRow_other _ _ _ _ (by omega)]; exact F1
 have F2':X4.heap[q2]?=some (.cells #[.pointer (some ⟨G.hn t,0,none⟩)] 71):=by rw [hX,setRow_other _ _ _ _ (by omega)]; exact F2
 have b4:Below V.heap.size V X4:=by rw [hX]; exact below4 bV (by omega) _
 clear hX E a
 refine rf_ [] (h1_ t4) ?_
 rintro a A - ⟨t4,-⟩
 refine wp_ret ?_
 exact bodyPost_ret (results_cell_row Try.results26 _ _ g4 73 _ (0,0) _ t4 F4' Try.underlying73 rfl (sizeSt _ _ _)) A.2 ⟨q1,q2,rfl,by omega,by omega,F1',F2',b4⟩
set_option maxRecDepth 100000 in
set_option maxHeartbeats 4000000 in
theorem pready1 {p:Pl} {G:Ad} {U V:World} {ow:Nat->Nat} {r:Rm} {ms t q1 q2:Nat} (hR:RN p G U ow (Mof p r ms) V) (ht:t < p.n) (hg:gone p r t=false) (h1:V.heap[q1]?=some (.cells #[.pointer (some ⟨G.rb,0,none⟩)] 64)) (h2:V.heap[q2]?=some (.cells #[.pointer (some ⟨G.hn t,0,none⟩)] 71)):Calls Try.prog 43 #[.pointer (some ⟨q1,0,none⟩),.pointer (some ⟨q2,0,none⟩)] V fun e w'=>e=.returned (.bool (may p r t))/\Below V.heap.size V w':=by
 go_enter Try.func43,Try.ntmps43
 refine wo_ 6 [(0,.pointer (some ⟨q1,0,none⟩)),(1,.pointer (some ⟨q2,0,none⟩))] ?_
 rintro a A ⟨t0,t1,-⟩
 refine wp_seq ?_
 refine wi_ A (h2_ t0 t1) (rf_ [] (h2_ t0 t1) ?_)
 rintro a A - ⟨t0,t1,-⟩
 refine wp_seq ?_
 refine wi_ A (h2_ t0 t1) (rv_ 0 (.pointer (some ⟨G.rb,0,none⟩)) (fun a E=>execLdP rfl (Or.inr (Or.inr (Or.inr (Or.inr (Or.inl rfl))))) (E _) (one_at h1)) (rv_ 1 (.pointer (some ⟨G.hn t,0,none⟩)) (fun a E=>execLdP rfl (Or.inr (Or.inr (Or.inl rfl))) (E _) (one_at h2)) (rc_ 2 (pmay hR ht hg) (cb_ fun X1 bQ=>?_))))
 refine rg_ [(2,.bool (may p r t))] ?_
 rintro a A ⟨t2,-⟩
 refine wp_ret ?_
 refine bodyPost_ret (results_tmp rfl _ _ _) A.2 ⟨?_,bQ⟩
 show Ending.returned (a.eval (.tmp 2))=_
 rw [t2]
set_option maxRecDepth 100000 in
set_option maxHeartbeats 4000000 in
theorem pstep1 {p:Pl} {G:Ad} {U V:World} {ow:Nat->Nat} {r:Rm} {ms k t q1 q2:Nat} (hR:RN p G U ow (Mof p r ms) V) (hB:Bnd p k r) (hk:k < 65536) (ht:t < p.n) (hm:may p r t=true) (h1:V.heap[q1]?=some (.cells #[.pointer (some ⟨G.rb,0,none⟩)] 64)) (h2:V.heap[q2]?=some (.cells #[.pointer (some ⟨G.hn t,0,none⟩)] 71)):Calls Try.prog 45 #[.pointer (some ⟨q1,0,none⟩),.pointer (some ⟨q2,0,none⟩)] V fun e w'=>e=.returned (.tuple #[])/\To p G U ow V (Mof p (stp p r t) (max ms (lyg p (stp p r t)))) w':=by
 go_enter Try.func45,Try.ntmps45
 refine wo_ 5 [(0,.pointer (some ⟨q1,0,none⟩)),(1,.pointer (some ⟨q2,0,none⟩))] ?_
 rintro a A ⟨t0,t1,-⟩
 refine wi_ A (h2_ t0 t1) (rv_ 0 (.pointer (some ⟨G.rb,0,none⟩)) (fun a E=>execLdP rfl (Or.inr (Or.inr (Or.inr (Or.inr (Or.inl rfl))))) (E _) (one_at h1)) (rv_ 1 (.pointer (some ⟨G.hn t,0,none⟩)) (fun a E=>execLdP rfl (Or.inr (Or.inr (Or.inl rfl))) (E _) (one_at h2)) (rc_ 2 (ppicked hB hk hR.ok ht hm ow V hR) (fun e X1 hh=>?_))))
 obtain ⟨he,ow1,S1⟩:=hh
 refine ⟨_,he,?_⟩
 refine rg_ [] ?_
 rintro a A -
 exact bodyPost_end (results_none rfl _ _ _) A.2 ⟨rfl,ow1,S1⟩
theorem RN.frame {p:Pl} {G:Ad} {U W X:World} {ow:Nat->Nat} {M:Mm} (h:RN p G U ow M W) (sv:Saved (fun b=>U.heap.size<=b/\ow b=0) W X):RN p G U ow M X:=by
 refine ⟨fun c=>?_,⟨sv.os.trans h.bel.os,sv.tape.trans h.bel.tape,sv.output.trans h.bel.output,Nat.le_trans h.bel.size sv.size,fun b hb=>?_⟩,fun b q=>⟨(h.ge b q).1,Nat.lt_of_lt_of_le (h.ge b q).2 sv.size⟩,h.ops,h.ok,h.fit⟩
 ·by_cases z:c=0
  ·rw [z]; exact Pc.zero
  ·exact (h.pc c).frame (fun b q=>sv.block b (h.ge b (by omega)).2 (fun w=>by omega)) sv.size (fun _=>Iff.rfl) MEq.refl
 ·rw [sv.block b (Nat.lt_of_lt_of_le hb h.bel.size) (fun w=>by omega),h.bel.block b hb]
def PF (ow:Nat->Nat) (q1 q2:Nat->Nat) (n:Nat) (b:Nat):Prop:=ow b ≠ 0\/∃ t,t < n/\(b=q1 t\/b=q2 t)
def PR (p:Pl) (G:Ad) (U:World) (q1 q2:Nat->Nat) (W:World) (F:Nat->Prop) (y:Nat × Rm × Nat):Prop:=
 ∃ ow,RN p G U ow (Mof p y.2.1 y.2.2) W/\Bnd p y.1 y.2.1/\y.1<=65536/\(∀ t,t < p.n->(W.heap[q1 t]?=some (.cells #[.pointer (some ⟨G.rb,0,none⟩)] 64)/\ow (q1 t)=0)/\W.heap[q2 t]?=some (.cells #[.pointer (some ⟨G.hn t,0,none⟩)] 71)/\ow (q2 t)=0)/\F=PF ow q1 q2 p.n
theorem PR.frame {p:Pl} {G:Ad} {U W X:World} {q1 q2:Nat->Nat} {F:Nat->Prop} {y:Nat × Rm × Nat} (h:PR p G U q1 q2 W F y) (sv:Saved (fun b=>U.heap.size<=b/\¬ F b) W X):PR p G U q1 q2 X F y:=by
 obtain ⟨ow,h1,h2,h3,h4,h5⟩:=h
 subst h5
 have hk:∀ t,t < p.n->X.heap[q1 t]?=W.heap[q1 t]?/\X.heap[q2 t]?=W.heap[q2 t]?:=fun t ht=>by
  obtain ⟨⟨w1,_⟩,w2,_⟩:=h4 t ht
  exact ⟨sv.block _ (Array.getElem?_eq_some_iff.1 w1).1 (fun w=>w.2 (Or.inr ⟨t,ht,Or.inl rfl⟩)),sv.block _ (Array.getElem?_eq_some_iff.1 w2).1 (fun w=>w.2 (Or.inr ⟨t,ht,Or.inr rfl⟩))⟩
 refine ⟨ow,h1.frame ⟨sv.os,sv.tape,sv.output,sv.size,fun b hb hn=>sv.block b hb (fun w=>hn ⟨w.1,?_⟩)⟩,h2,h3,fun t ht=>?_,rfl⟩
 ·by_cases q:ow b=0
  ·exact q
  ·exact absurd (Or.inl q) w.2
 ·rw [(hk t ht).1,(hk t ht).2]
  exact h4 t ht
theorem gone_is {p:Pl} {r:Rm} {i:Nat}:gone p r i=decide (plE p r.pl r.en i=p.ln i):=by
 have h1:=@plE_lt p r i
 have h2:=@plE_le p r i
 cases h:gone p r i with
 | true=>
  rw [h] at h1
  exact (decide_eq_true (show plE p r.pl r.en i=p.ln i by
   have:¬ plE p r.pl r.en i < p.ln i:=fun w=>by have:=h1.1 w; cases this
   omega)).symm
 | false=>
  exact (decide_eq_false (show ¬ plE p r.pl r.en i=p.ln i by have:=h1.2 h; omega)).symm
theorem PR.on {p:Pl} {G:Ad} {U W X:World} {q1 q2:Nat->Nat} {F:Nat->Prop} {y:Nat × Rm × Nat} (h:PR p G U q1 q2 W F y) (hb:Below W.heap.size W X):∃ F',PR p G U q1 q2 X F' y/\Saved F W X/\∀ q,F' q->F q\/W.heap.size<=q:=
 ⟨F,h.frame ((Saved.refl _ _).below hb (Nat.le_refl _)),(Saved.refl _ _).below hb (Nat.le_refl _),fun _ q=>Or.inl q⟩
def pS (p:Pl) (G:Ad) (U:World) (q1 q2:Nat->Nat):Stm (Nat × Rm × Nat) where
 R:=PR p G U q1 q2
 B:=U.heap.size
 frame:=fun h sv=>h.frame sv
 lt:=fun {W F x} h b hb=>by
  obtain ⟨ow,h1,_,_,h4,h5⟩:=h
  subst h5
  rcases hb with w | ⟨t,ht,w | w⟩
  ·exact (h1.ge b w).2
  ·rw [w]; exact (Array.getElem?_eq_some_iff.1 (h4 t ht).1.1).1
  ·rw [w]; exact (Array.getElem?_eq_some_iff.1 (h4 t ht).2.1).1
 n:=p.n
 ef:=pe G
 rf:=fun t=>pr_ (q1 t) (q2 t)
 sf:=fun t=>ps_ (q1 t) (q2 t)
 ea:=fun y t=>gone p y.2.1 t
 ra:=fun y t=>(may p y.2.1 t,y)
 sa:=fun y t=>(y.1+1,stp p y.2.1 t,max y.2.2 (lyg p (stp p y.2.1 t)))
 cr:=fun _ _=>True
 can:=fun y t=>may p y.2.1 t=true/\y.1 < 65536
 eok:=fun t _=>⟨⟨_,Try.func42,by kernel_rfl,by kernel_rfl⟩,⟨_,Try.func43,by kernel_rfl,by kernel_rfl⟩,⟨_,Try.func45,by kernel_rfl,by kernel_rfl⟩⟩
 ended:=fun {V F x t} ht hR=>by
  obtain ⟨ow,h1,h2⟩:=hR
  refine Calls.mono (pended h1 ht) fun e w' ⟨he,hb⟩=>⟨he.trans ?_,PR.on ⟨ow,h1,h2⟩ hb⟩
  rw [gone_is]
  rfl
 ready:=fun {V F x t} ht hg _ hR=>by
  have hR0:=hR
  obtain ⟨ow,h1,h2,h3,h4,h5⟩:=hR
  exact Calls.mono (pready1 h1 ht hg (h4 t ht).1.1 (h4 t ht).2.1) fun e w' ⟨he,hb⟩=>⟨he,hR0.on hb⟩
 step:=fun {V F x t} ht hc hR=>by
  obtain ⟨ow,h1,h2,h3,h4,h5⟩:=hR
  refine Calls.mono (pstep1 h1 h2 hc.2 ht hc.1 (h4 t ht).1.1 (h4 t ht).2.1) fun e w' ⟨he,ow1,S1⟩=>⟨he,PF ow1 q1 q2 p.n,⟨ow1,S1.rn,h2.stp h1.ok ht hc.1,hc.2,fun s hs=>?_,rfl⟩,?_,fun q hq=>?_⟩
  ·obtain ⟨w1,w2⟩:=h4 s hs
   exact ⟨S1.local w1.1 w1.2,S1.local w2.1 w2.2⟩
  ·subst h5
   exact ⟨S1.sv.os,S1.sv.tape,S1.sv.output,S1.sv.size,fun b hb hn=>S1.sv.block b hb (fun w=>hn (Or.inl w))⟩
  ·subst h5
   rcases hq with w | w
   ·rcases S1.sub q w with m | m
    ·exact Or.inl (Or.inl m)
    ·exact Or.inr m
   ·exact Or.inl (Or.inr w)
section
variable {p:Pl} {G:Ad} {U:World} {q1 q2:Nat->Nat} {y:Nat × Rm × Nat} {sc:Nat->Int}
theorem may_gone {r:Rm} {t:Nat} (h:gone p r t=true):may p r t=false:=by
 unfold may at_
 simp only [h,if_true]
theorem pS_ask:∀ j,(pS p G U q1 q2).ask j y=((List.range j).filter (may p y.2.1),y)
 | 0=>rfl
 | j+1=>by
  unfold Stm.ask
  rw [pS_ask j,List.range_succ,List.filter_append]
  by_cases h:gone p y.2.1 j=true
  ·rw [if_pos (show (pS p G U q1 q2).ea y j=true from h)]
   simp [may_gone h]
  ·rw [if_neg (show ¬ (pS p G U q1 q2).ea y j=true from h)]
   show ((if may p y.2.1 j=true then _ else _),y)=_
   by_cases w:may p y.2.1 j=true
   ·rw [if_pos w]; simp [w]
   ·rw [if_neg w]; simp [w]
theorem pS_alv (hp:Okp p):∀ j,j<=p.n->(pS p G U q1 q2).alv j y=(List.range j).any fun t=>decide ((at_ p y.2.1 t).k ≠ 0)
 | 0,_=>rfl
 | j+1,hj=>by
  unfold Stm.alv
  rw [pS_alv hp j (by omega),pS_ask,List.range_succ,List.any_append]
  congr 1
  show (!gone p y.2.1 j)=([j].any _)
  cases h:gone p y.2.1 j with
  | true=>
   have:(at_ p y.2.1 j).k=0:=by unfold at_; rw [if_pos h]
   simp [this]
  | false=>simp [k_ne (by omega) hp h]
theorem pS_at:∀ j,(pS p G U q1 q2).at sc (0,r0,0) j=(j,rk p sc j,mx p sc j)
 | 0=>rfl
 | j+1=>by
  unfold Stm.at
  rw [pS_at j,pS_ask]
  rfl
theorem pS_pk (j:Nat):(pS p G U q1 q2).pk sc (0,r0,0) j=pk p sc j:=by
 unfold Stm.pk
 rw [pS_at,pS_ask]
 rfl
end
end Go.Proofs.Ytjjegmflllpknaa.Loo

namespace Go.Proofs.Ytjjegmflllpknaa.Loo
open Go.RowKit Gf8 Aes By8 Cel Cf Win Drw Prm
/- The landed loom's taken and Play. Written by tools/mkN8o.py. -/
def TkP (p:Pl) (G:Ad) (U:World) (ow:Nat->Nat) (M:Mm) (W:World) (tv:Nat->Value):Prop:=∀ t,t < p.n->W.cell? ⟨G.hn t,3,none⟩=some (tv t)/\W.ownsRow U.heap.size 3 1 (tv t) (M.tk t).length (intsL (M.tk t).length (hL (M.tk t)))/\(∀ b,(tv t).ownBlock=some b->ow b=oH t)/\∀ x ∈ M.tk t,I64 x
section
variable {p:Pl} {G:Ad} {U V W X:World} {ow:Nat->Nat} {M:Mm}
theorem RN.tks (h:RN p G U ow M W):∃ tv,TkP p G U ow M W tv:=by
 have h1:∀ t,∃ v,t < p.n->W.cell? ⟨G.hn t,3,none⟩=some v/\W.ownsRow U.heap.size 3 1 v (M.tk t).length (intsL (M.tk t).length (hL (M.tk t)))/\(∀ b,v.ownBlock=some b->ow b=oH t)/\∀ x ∈ M.tk t,I64 x:=fun t=>by
  by_cases ht:t < p.n
  ·obtain ⟨v,w1,w2,w3,w4,w5⟩:=h.hand ht
   exact ⟨v,fun _=>⟨(nC_at w2).2.2.2,w3,w4,w5⟩⟩
  ·exact ⟨undef,fun w=>absurd w ht⟩
 obtain ⟨f,hf⟩:=Classical.axiomOfChoice h1
 exact ⟨f,hf⟩
theorem TkP.on {tv:Nat->Value} (h:TkP p G U ow M W tv) (hR:RN p G U ow M W) (hb:Below W.heap.size W X):TkP p G U ow M X tv:=fun t ht=>by
 obtain ⟨w1,w2,w3,w4⟩:=h t ht
 refine ⟨?_,ownD_below w2 hb,w3,w4⟩
 obtain ⟨v,_,w5,_⟩:=hR.hand ht
 rw [cell_below hb (Array.getElem?_eq_some_iff.1 w5).1]
 exact w1
end
theorem infLI9:∃ i,Try.prog.info? 22=some i/\i.zero=some (.slice none 0 0)/\i.size=1/\i.bytes=24:=infoLI
theorem execMkLL {o:Oper} {a:Act} {w:World} {x y:Operand} {n:Nat} (ho:o.op=.makeSlice 27 x y) (hx:a.eval x=.int .i64 ((n:Nat):Int)) (hy:a.eval y=.int .i64 ((n:Nat):Int)) (hn:n<=1024):(execOp a.eval o).run Try.prog w=.ok (.value (.slice (some ⟨w.heap.size,0,none⟩) n n)) (w.alloc (.cells (Duc.rA n fun _=>.slice none 0 0) 22)):=by
 obtain ⟨i,h1,h2,h3,h4⟩:=infLI9
 have h:=run_make (P:=Try.prog) w 27 22 i (.slice none 0 0) Try.underlying27 h1 h2 .i64 .i64 (n:Int) (n:Int) (by omega) (by omega) (by rw [h4]; omega) (by omega)
 rw [h3,Int.toNat_natCast,Nat.mul_one] at h
 unfold execOp
 simp only [ho,hx,hy,Sem.run_bind,h,Result.andThen_ok,Sem.run_pure]
 rw [← Duc.rA_made]
 rfl
theorem rA_own {W:World} {B g n:Nat} {T:TypeId} {f:Nat->Value} (h:W.heap[g]?=some (.cells (Duc.rA n f) T)) (hB:B<=g) (hn:n<=1024):W.ownsRow B T 1 (.slice (some ⟨g,0,none⟩) n n) n (lL f n):=by
 refine ⟨by rw [lL_len,Nat.mul_one],Or.inr ⟨g,n,_,rfl,hB,h,Nat.le_refl _,by unfold maxLen; omega,by rw [Duc.rA_size,Nat.mul_one],?_⟩⟩
 rw [Nat.mul_one]
 apply List.ext_getElem?
 intro j
 by_cases hj:j < n
 ·rw [List.getElem?_take,if_pos hj,Array.getElem?_toList,Duc.rA_at hj,lL_get _ _ _ hj]
 ·rw [List.getElem?_eq_none (by rw [List.length_take]; omega),List.getElem?_eq_none (by rw [lL_len]; omega)]
set_option maxRecDepth 100000 in
set_option maxHeartbeats 4000000 in
theorem ptaken {p:Pl} {G:Ad} {U V:World} {ow:Nat->Nat} {M:Mm} {tv:Nat->Value} (hR:RN p G U ow M V) (hT:TkP p G U ow M V tv) :
  Calls Try.prog 28 #[.pointer (some ⟨G.rb,0,none⟩)] V fun e w'=>∃ tk,e=.returned tk/\w'.ownsRow V.heap.size 22 1 tk p.n (lL tv p.n)/\Below V.heap.size V w':=by
 go_enter Try.func28,Try.ntmps28
 refine wo_ 31 [(0,.pointer (some ⟨G.rb,0,none⟩))] ?_
 rintro a A ⟨t0,-⟩
 have hn128:=hR.ok.n
 refine wp_seq ?_
 refine wi_ A (h1_ t0) (rf_ [] (h1_ t0) ?_)
 rintro a A - ⟨t0,-⟩
 refine wp_seq ?_
 refine wi_ A (h1_ t0) (rv_ 1 (.pointer (some ⟨G.rb,0,none⟩)) (fun a E=>Duc.execNl rfl (E _)) (rv_ 2 (.pointer (some ⟨G.rb,1,none⟩)) (fun a E=>execRf1 rfl (E _)) (rv_ 3 G.hS (fun a E=>execLdP rfl (Or.inr (Or.inl rfl)) (E _) hR.rc.2.1) (rv_ 4 (.int .i64 ((p.n:Nat):Int)) (fun a E=>execLnH rfl (E _) hR.hR.shp) (rs_ 5 (fun a E=>?_))))))
 obtain ⟨kb,ekb⟩:∃ z_:Nat,V.heap.size=z_:=⟨_,rfl⟩
 refine stepV rfl rfl (execMkLL rfl (E _) (E _) (by omega)) ⟨.slice (some ⟨kb,0,none⟩) p.n p.n,⟨_,rfl,by subst ekb; rfl⟩,fun X1 hX=>?_⟩
 have BB:Below V.heap.size V X1:=by rw [hX]; exact belNew V _
 have Fk:X1.heap[kb]?=some (.cells (Duc.rA p.n fun j=>if j < 0 then tv j else .slice none 0 0) 22):=by rw [hX,← ekb]; exact heapNew V _
 clear hX E a
 refine rf_ [(3,.slice (some ⟨kb,0,none⟩) p.n p.n)] (h1_ t0) ?_
 rintro a A ⟨t3,-⟩ ⟨t0,-⟩
 refine wp_seq (wp_seq ?_)
 refine wi_ A (h2_ t0 t3) (rv_ 1 (.pointer (some ⟨G.rb,0,none⟩)) (fun a E=>Duc.execNl rfl (E _)) (rv_ 2 (.pointer (some ⟨G.rb,1,none⟩)) (fun a E=>execRf1 rfl (E _)) (rv_ 3 G.hS (fun a E=>execLdP rfl (Or.inr (Or.inl rfl)) (E _) (hR.on BB).rc.2.1) (rv_ 4 (.int .i64 ((p.n:Nat):Int)) (fun a E=>execLnH rfl (E _) hR.hR.shp) (rf_ [(15,G.hS),(16,.int .i64 ((p.n:Nat):Int)),(17,.int .i64 ((0:Nat):Int))] (h1_ t3) ?_)))))
 rintro a A ⟨t15,t16,t17,-⟩ ⟨t3,-⟩
 refine wp_block ?_
 refine wp_loop (fun a W=>∃ (i:Nat),i<=p.n/\(a.tmps.size=31/\a.defers=[])/\a.eval (.tmp 3)=.slice (some ⟨kb,0,none⟩) p.n p.n/\a.eval (.tmp 15)=G.hS/\a.eval (.tmp 16)=.int .i64 ((p.n:Nat):Int)/\a.eval (.tmp 17)=.int .i64 ((i:Nat):Int)/\W.heap[kb]?=some (.cells (Duc.rA p.n fun j=>if j < i then tv j else .slice none 0 0) 22)/\Below V.heap.size V W) (fun a _=>p.n - (intOf (a.eval (.tmp 17))).toNat) ⟨0,Nat.zero_le _,A,t3,t15,t16,t17,Fk,BB⟩ ?_
 rintro a XL ⟨i,hi,A,t3,t15,t16,t17,Fk,BB⟩
 have es:=t17
 refine wp_seq ?_
 refine wi_ A (h4_ t3 t15 t16 t17) (rv_ 0 (.bool (decide (i < p.n))) (fun a E=>execLtW (p:=i) (q:=p.n) rfl (E _) (E _)) (rf_ [(18,.bool (decide (i < p.n)))] (h4_ t3 t15 t16 t17) ?_))
 rintro a A ⟨t18,-⟩ ⟨t3,t15,t16,t17,-⟩
 refine wp_seq ?_
 by_cases hlt:i < p.n
 ·rw [decide_eq_true hlt] at t18
  refine wp_cond_true t18 (wp_skip ?_)
  clear t18
  obtain ⟨hb_,hc_9,eH⟩:=hR.hO hlt
  have hk3:=((hT.on hR BB) i hlt).1
  have hv:=own_shp ((hT i hlt).2.1)
  refine wp_seq (wp_block ?_)
  refine wp_seq ?_
  refine wi_ A (h4_ t3 t15 t16 t17) (rv_ 1 (.pointer (some ⟨hb_,i,none⟩)) (fun a E=>execIxH (k:=i) rfl ((E _).trans eH) (E _) hlt) (rv_ 2 (.pointer (some ⟨G.hn i,0,none⟩)) (fun a E=>execLdP rfl (Or.inr (Or.inr (Or.inl rfl))) (E _) (RowP.at (hR.on BB).hR eH hlt)) (rf_ [(4,.int .i64 ((i:Nat):Int)),(5,.pointer (some ⟨G.hn i,0,none⟩))] (h4_ t3 t15 t16 t17) ?_)))
  rintro a A ⟨t4,t5,-⟩ ⟨t3,t15,t16,t17,-⟩
  refine wi_ A (h6_ t3 t15 t16 t17 t4 t5) (rv_ 3 (.pointer (some ⟨G.hn i,0,none⟩)) (fun a E=>Duc.execNl rfl (E _)) (rv_ 4 (.pointer (some ⟨G.hn i,3,none⟩)) (fun a E=>execNf3 rfl (E _)) (rv_ 5 (tv i) (fun a E=>execLdG rfl (Or.inl rfl) (E _) hk3) (rv_ 6 (.pointer (some ⟨kb,0+i,none⟩)) (fun a E=>execIxLL (k:=i) rfl (E _) (E _) hlt) (rs_ 7 (fun a E=>?_))))))
  refine stepS rfl rfl (execSt9 rfl (Or.inr (Or.inr (Or.inl rfl))) (E _) (E _) (Or.inr (Or.inr (Or.inr (sl3 hv)))) (by rw [Nat.zero_add]; exact Duc.rA_cell Fk hlt) (frozen4 Fk)) ⟨_,⟨_,rfl,rfl⟩,fun X2 hX=>?_⟩
  have Fk2:X2.heap[kb]?=some (.cells (Duc.rA p.n fun j=>if j < i+1 then tv j else .slice none 0 0) 22):=by
   rw [hX,heap4 _ Fk,Nat.zero_add,Duc.rA_set hlt]
   congr 3
   funext j
   by_cases q:j=i
   ·rw [q,Win.up_at,if_pos (Nat.lt_succ_self i)]
    rfl
   ·rw [Win.up_ne _ _ q]
    by_cases w:j < i
    ·rw [if_pos w,if_pos (by omega)]
    ·rw [if_neg w,if_neg (by omega)]
  have B2:Below V.heap.size V X2:=by rw [hX]; exact BB.setCell (p:=⟨kb,0+i,none⟩) (by show V.heap.size<=kb; omega) _
  clear hX E a
  refine rf_ [] (h4_ t3 t15 t16 t17) ?_
  rintro a A - ⟨t3,t15,t16,t17,-⟩
  refine wi_ A (h4_ t3 t15 t16 t17) (rv_ 0 (.int .i64 ((i+1:Nat):Int)) (fun a E=>execAd8 (p:=i) (q:=1) rfl (E _) rfl (by omega)) (rf_ [(17,.int .i64 ((i+1:Nat):Int))] (h3_ t3 t15 t16) ?_))
  rintro a A ⟨t17,-⟩ ⟨t3,t15,t16,-⟩
  exact ⟨⟨i+1,hlt,A,t3,t15,t16,t17,Fk2,B2⟩,by show p.n - (intOf (a.eval (.tmp 17))).toNat < p.n - (intOf (Act.eval _ (.tmp 17))).toNat; rw [t17,es]; show p.n - (i+1) < p.n - i; omega⟩
 ·rw [decide_eq_false hlt] at t18
  refine wp_cond_false t18 ?_
  refine wp_exit ?_
  repeat (first | with_reducible refine exit_then ?_ | with_reducible refine exit_out (by decide) ?_)
  refine exit_in ?_
  have e1:i=p.n:=by omega
  rw [e1] at Fk
  refine wp_seq ?_
  refine wi_ A (h1_ t3) (rg_ [(2,.slice (some ⟨kb,0,none⟩) p.n p.n)] ?_)
  rintro a A ⟨t2,-⟩
  have hown:=rA_own (B:=V.heap.size) Fk (by omega) (by omega)
  rw [lL_congr (y:=tv) p.n (fun j hj=>if_pos hj)] at hown
  refine wp_ret ?_
  refine bodyPost_ret (results_tmp rfl _ _ _) A.2 ⟨_,?_,hown,BB⟩
  show Ending.returned (a.eval (.tmp 2))=_
  rw [t2]
end Go.Proofs.Ytjjegmflllpknaa.Loo
