import Derived.Test.YtjjegmflllpknaaN8g
namespace Go.Proofs.Ytjjegmflllpknaa.Loo
open Go.RowKit Gf8 Aes By8 Cel Cf Win Drw Prm
/- The landed loom's look and choice, over strands that answer by a state. Written by tools/mkN8j.py. -/
structure Stm (σ:Type) where
 R:World->(Nat->Prop)->σ->Prop
 B:Nat
 frame:∀ {W X F x},R W F x->Saved (fun b=>B<=b/\¬ F b) W X->R X F x
 lt:∀ {W F x},R W F x->∀ b,F b->b < W.heap.size
 n:Nat
 ef:Nat->FuncId × Array Value × Array Value
 rf:Nat->FuncId × Array Value × Array Value
 sf:Nat->FuncId × Array Value × Array Value
 ea:σ->Nat->Bool
 ra:σ->Nat->Bool × σ
 sa:σ->Nat->σ
 can:σ->Nat->Prop
 eok:∀ t,t < n->CanCall (ef t).1/\CanCall (rf t).1/\CanCall (sf t).1
 ended:∀ {V F x t},t < n->R V F x->Calls Try.prog (ef t).1 ((ef t).2.1 ++ (ef t).2.2) V fun e w'=>e=.returned (.bool (ea x t))/\∃ F',R w' F' x/\Saved F V w'/\∀ q,F' q->F q\/V.heap.size<=q
 cr:σ->Nat->Prop
 ready:∀ {V F x t},t < n->ea x t=false->cr x t->R V F x->Calls Try.prog (rf t).1 ((rf t).2.1 ++ (rf t).2.2) V fun e w'=>e=.returned (.bool (ra x t).1)/\∃ F',R w' F' (ra x t).2/\Saved F V w'/\∀ q,F' q->F q\/V.heap.size<=q
 step:∀ {V F x t},t < n->can x t->R V F x->Calls Try.prog (sf t).1 ((sf t).2.1 ++ (sf t).2.2) V fun e w'=>e=.returned (.tuple #[])/\∃ F',R w' F' (sa x t)/\Saved F V w'/\∀ q,F' q->F q\/V.heap.size<=q
def fv3 (f:FuncId × Array Value × Array Value):Value:=.func (.func f.1) f.2.1 f.2.2
section
variable {σ:Type} (S:Stm σ)
def Srow (W:World) (b:Nat):Prop:=∃ cur,W.heap[b]?=some (.cells cur 73)/\∀ t,t < S.n->cur[t * 3]?=some (fv3 (S.ef t))/\cur[t * 3+1]?=some (fv3 (S.rf t))/\cur[t * 3+2]?=some (fv3 (S.sf t))
def Stm.ask:Nat->σ->List Nat × σ
 | 0,x=>([],x)
 | t+1,x=>if S.ea (Stm.ask t x).2 t=true then Stm.ask t x else ((if (S.ra (Stm.ask t x).2 t).1=true then (Stm.ask t x).1 ++ [t] else (Stm.ask t x).1),(S.ra (Stm.ask t x).2 t).2)
def Stm.alv:Nat->σ->Bool
 | 0,_=>false
 | t+1,x=>Stm.alv t x || !S.ea (S.ask t x).2 t
theorem Stm.ask_lt {x:σ}:∀ {k t:Nat},t ∈ (S.ask k x).1->t < k
 | 0,t,h=>by cases h
 | k+1,t,h=>by
  unfold Stm.ask at h
  by_cases q:S.ea (S.ask k x).2 k=true
  ·rw [if_pos q] at h
   exact Nat.lt_succ_of_lt (Stm.ask_lt h)
  ·rw [if_neg q] at h
   by_cases w:(S.ra (S.ask k x).2 k).1=true
   ·have h:t ∈ (if (S.ra (S.ask k x).2 k).1=true then (S.ask k x).1 ++ [k] else (S.ask k x).1):=h
    rw [if_pos w] at h
    rcases List.mem_append.1 h with z | z
    ·exact Nat.lt_succ_of_lt (Stm.ask_lt z)
    ·rw [List.mem_singleton.1 z]; exact Nat.lt_succ_self k
   ·have h:t ∈ (if (S.ra (S.ask k x).2 k).1=true then (S.ask k x).1 ++ [k] else (S.ask k x).1):=h
    rw [if_neg w] at h
    exact Nat.lt_succ_of_lt (Stm.ask_lt h)
theorem Stm.ask_len {x:σ}:∀ k,(S.ask k x).1.length<=k
 | 0=>Nat.le_refl _
 | k+1=>by
  have:=Stm.ask_len (x:=x) k
  unfold Stm.ask
  split
  ·omega
  ·show (if (S.ra (S.ask k x).2 k).1=true then (S.ask k x).1 ++ [k] else (S.ask k x).1).length<=_
   split
   ·rw [List.length_append]; simp; omega
   ·omega
end
def nL (l:List Nat) (j:Nat):Int:=((l.getD j 0:Nat):Int)
theorem nL_app {l:List Nat} {y:Nat}:∀ j,j < (l ++ [y]).length->catI l.length (nL l) (fun _=>((y:Nat):Int)) j=nL (l ++ [y]) j:=by
 intro j hj
 unfold catI nL
 rw [List.length_append] at hj
 by_cases q:j < l.length
 ·rw [if_pos q,List.getD_eq_getElem?_getD,List.getD_eq_getElem?_getD,List.getElem?_append_left q]
 ·rw [if_neg q,List.getD_eq_getElem?_getD,List.getElem?_append_right (by omega),show j - l.length=0 by simp at hj; omega]
  rfl
structure Lk {σ:Type} (S:Stm σ) (V:World) (F:Nat->Prop) (lv:Value) (B0:Nat) (l:List Nat) (y:σ) (W:World) (lw:Value) (F':Nat->Prop):Prop where
 own:W.ownsRow B0 3 1 lw l.length (intsL l.length (nL l))
 R:S.R W F' y
 sv:Saved (fun b=>F b\/lv.ownBlock=some b) V W
 sub:∀ q,F' q->F q\/V.heap.size<=q
 off:∀ b,lw.ownBlock=some b->¬ F' b
 new:∀ b,lw.ownBlock=some b->lv.ownBlock=some b\/V.heap.size<=b
 cp:∀ ad n c,lw=.slice (some ad) n c->0 < c
section
variable {σ:Type} {S:Stm σ} {V W X:World} {F F' F2:Nat->Prop} {lv lw:Value} {B0:Nat} {l:List Nat} {y z:σ}
theorem Lk.on (h:Lk S V F lv B0 l y W lw F') (hb:Below W.heap.size W X):Lk S V F lv B0 l y X lw F':=
 ⟨ownD_below h.own hb,S.frame h.R ((Saved.refl _ _).below hb (Nat.le_refl _)),h.sv.below hb h.sv.size,h.sub,h.off,h.new,h.cp⟩
theorem Lk.call (h:Lk S V F lv B0 l y W lw F') (hR:S.R X F2 z) (hs:Saved F' W X) (hf:∀ q,F2 q->F' q\/W.heap.size<=q):Lk S V F lv B0 l z X lw F2:=by
 refine ⟨own_frame (P:=fun b=>lw.ownBlock=some b) h.own (fun _ q=>q) (fun b hb=>hs.block b (h.own.lt b hb).2 (h.off b hb)),hR,⟨hs.os.trans h.sv.os,hs.tape.trans h.sv.tape,hs.output.trans h.sv.output,Nat.le_trans h.sv.size hs.size,fun b hb hn=>?_⟩,fun q hq=>?_,fun b hb hq=>?_,h.new,h.cp⟩
 ·rw [hs.block b (Nat.lt_of_lt_of_le hb h.sv.size) (fun w=>?_),h.sv.block b hb hn]
  rcases h.sub b w with z | z
  ·exact hn (Or.inl z)
  ·omega
 ·rcases hf q hq with w | w
  ·exact h.sub q w
  ·exact Or.inr (Nat.le_trans h.sv.size w)
 ·rcases hf b hq with w | w
  ·exact h.off b hb w
  ·have:=(h.own.lt b hb).2; omega
theorem Lk.app {v':Value} {t:Nat} (h:Lk S V F lv B0 l y W lw F') (hB:S.B<=B0) (q1:X.ownsRow B0 3 1 v' (l.length+1) (intsL (l.length+1) (catI l.length (nL l) (fun _=>((t:Nat):Int)))))
  (q2:(∃ b c,lw=.slice (some ⟨b,0,none⟩) l.length c/\v'=.slice (some ⟨b,0,none⟩) (l.length+1) c/\W.grownBy X (some b))\/(Below W.heap.size W X/\∀ k,v'.ownBlock=some k->W.heap.size<=k)):Lk S V F lv B0 (l ++ [t]) y X v' F':=by
 have e1:intsL (l ++ [t]).length (nL (l ++ [t]))=intsL (l.length+1) (catI l.length (nL l) (fun _=>((t:Nat):Int))):=by
  rw [List.length_append]
  exact (intsL_congr fun j hj=>nL_app j (by rw [List.length_append]; exact hj)).symm
 have e2:(l ++ [t]).length=l.length+1:=by rw [List.length_append]; rfl
 have hcp:∀ ad n c,v'=.slice (some ad) n c->0 < c:=fun ad n c e=>by
  rcases q1.2 with ⟨w,_⟩ | ⟨g,cap,cur,w,_,_,w2,_⟩
  ·rw [e] at w; cases w
  ·rw [e] at w
   injection w with _ _ w3
   omega
 have own':X.ownsRow B0 3 1 v' (l ++ [t]).length (intsL (l ++ [t]).length (nL (l ++ [t]))):=by
  rw [e1,e2]; exact q1
 rcases q2 with ⟨b,c,f1,f2,g⟩ | ⟨g,hk⟩
 ·have hb:lw.ownBlock=some b:=by rw [f1]; rfl
  have hb':∀ k,v'.ownBlock=some k->k=b:=fun k hk=>by rw [f2] at hk; cases hk; rfl
  refine ⟨own',S.frame h.R ((Saved.refl _ _).grown g (fun k hk=>by cases hk; exact Or.inr ⟨Nat.le_trans hB (h.own.lt b hb).1,h.off b hb⟩)),h.sv.grown g (fun k hk=>?_),h.sub,fun k hk=>?_,fun k hk=>?_,hcp⟩
  ·cases hk
   rcases h.new b hb with w | w
   ·exact Or.inr (Or.inr w)
   ·exact Or.inl w
  ·rw [hb' k hk]; exact h.off b hb
  ·rw [hb' k hk]; exact h.new b hb
 ·refine ⟨own',S.frame h.R ((Saved.refl _ _).below g (Nat.le_refl _)),h.sv.below g h.sv.size,h.sub,fun k w hF=>?_,fun k w=>Or.inr (Nat.le_trans h.sv.size (hk k w)),hcp⟩
  have:=S.lt h.R k hF
  have:=hk k w
  omega
theorem Lk.row {b:Nat} (h:Lk S V F lv B0 l y W lw F') (r:Srow S V b) (hF:¬ F b) (hl:lv.ownBlock ≠ some b):Srow S W b:=by
 obtain ⟨cur,r1,r2⟩:=r
 exact ⟨cur,by rw [h.sv.block b (Array.getElem?_eq_some_iff.1 r1).1 (fun w=>w.elim hF hl)]; exact r1,r2⟩
end
theorem Srow.at {σ:Type} {S:Stm σ} {W:World} {b t:Nat} (h:Srow S W b) (ht:t < S.n):W.cell? ⟨b,0+t * 3,none⟩=some (fv3 (S.ef t))/\W.cell? ⟨b,0+t * 3+1,none⟩=some (fv3 (S.rf t))/\W.cell? ⟨b,0+t * 3+2,none⟩=some (fv3 (S.sf t)):=by
 obtain ⟨cur,h1,h2⟩:=h
 obtain ⟨q1,q2,q3⟩:=h2 t ht
 rw [Nat.zero_add]
 refine ⟨?_,?_,?_⟩
 ·rw [cell_of_row _ _ _ _ _ _ h1]; exact q1
 ·rw [cell_of_row _ _ _ _ _ _ h1]; exact q2
 ·rw [cell_of_row _ _ _ _ _ _ h1]; exact q3
section
variable {o:Oper} {a:Act} {w:World}
theorem execLdSt {x:Operand} {g f:Nat} {u1 u2 u3:Value} (ho:o.op=.load 73 x) (hx:a.eval x=.pointer (some ⟨g,f,none⟩)) (h:w.cell? ⟨g,f,none⟩=some u1/\w.cell? ⟨g,f+1,none⟩=some u2/\w.cell? ⟨g,f+2,none⟩=some u3):(execOp a.eval o).run Try.prog w=.ok (.value (.agg #[u1,u2,u3])) w:=by
 have h:=execLoadMid (P:=Try.prog) (cs:=[u1,u2,u3]) ho hx (fun j v hv=>by
  match j,hv with
  | 0,hv=>exact h.1.trans hv
  | 1,hv=>exact h.2.1.trans hv
  | 2,hv=>exact h.2.2.trans hv
  | j+3,hv=>cases hv) Try.underlying73 rfl (by show _=some 3; kernel_rfl)
 exact h
theorem execAlSt (ho:o.op=.alloc 73):(execOp a.eval o).run Try.prog w=.ok (.value (.pointer (some ⟨w.heap.size,0,none⟩))) (w.alloc (.cells #[.nilFunc,.nilFunc,.nilFunc] 73)):=by
 unfold execOp
 simp only [ho]
 simp [go_sem]
def FnV (v:Value):Prop:=v=.nilFunc\/∃ f b l,v=.func f b l
theorem FnV.one {v:Value} (h:FnV v):v.oneCell'=true:=by
 rcases h with rfl | ⟨f,b,l,rfl⟩ <;> rfl
theorem fv3_fn (f:FuncId × Array Value × Array Value):FnV (fv3 f):=Or.inr ⟨_,_,_,rfl⟩
theorem execStSt {x y:Operand} {g:Nat} {u1 u2 u3 v1 v2 v3:Value} (ho:o.op=.store 73 x y) (hx:a.eval x=.pointer (some ⟨g,0,none⟩)) (hy:a.eval y=.agg #[u1,u2,u3]) (hg:w.heap[g]?=some (.cells #[v1,v2,v3] 73)) (h1:FnV u1) (h2:FnV u2) (h3:FnV u3):(execOp a.eval o).run Try.prog w=.ok .skip (w.setRow g #[u1,u2,u3]):=by
 have h:=execStMid (P:=Try.prog) ho hx hy hg (Nat.le_refl _) (by show _=some 3; kernel_rfl) (by simp [h1.one,h2.one,h3.one])
 exact h
end
theorem tri_at {W:World} {g:Nat} {u1 u2 u3:Value} {t:TypeId} (h:W.heap[g]?=some (.cells #[u1,u2,u3] t)):W.cell? ⟨g,0,none⟩=some u1/\W.cell? ⟨g,0+1,none⟩=some u2/\W.cell? ⟨g,0+2,none⟩=some u3:=
 ⟨by rw [cell_of_row _ _ _ _ _ _ h]; rfl,by rw [cell_of_row _ _ _ _ _ _ h]; rfl,by rw [cell_of_row _ _ _ _ _ _ h]; rfl⟩
theorem stepF {ops:Array Oper} {Q:Exit->Act->World->Prop} {K:Act->World->Prop} {j:Nat} {o:Oper} {a:Act} {W:World} {c:Operand} {f:FuncId × Array Value × Array Value} {post:Ending->World->Prop} (hos:ops[j]?=some o) (hgd:Region.wanted o (yielded ops a.tmps)=true) (ho:o.op=.call { callee:=.value c,args:=#[],argTypes:=#[] }) (hc:a.eval c=fv3 f) (hk:CanCall f.1) (hf:Calls Try.prog f.1 (f.2.1 ++ f.2.2) W post) (hK:∀ e w',post e w'->∃ v,e=.returned v/\K (a.put o.dst v) w'):wpOp Try.prog ops Q j K a W:=by
 obtain ⟨fn,k1,k2,k3⟩:=hk
 exact stepC hos hgd (execCallFv k1 k2 k3 ho hc) hf hK
set_option maxRecDepth 100000 in
set_option maxHeartbeats 4000000 in
theorem plook {σ:Type} (S:Stm σ) (V:World) (F:Nat->Prop) (x:σ) (sb cap:Nat) (lv:Value) (B0:Nat) (hR:S.R V F x) (hrow0:Srow S V sb) (hF:¬ F sb) (hlv:lv.ownBlock ≠ some sb) (hown:V.ownsRow B0 3 1 lv 0 []) (hoff:∀ b,lv.ownBlock=some b->¬ F b) (hcp:∀ ad n c,lv=.slice (some ad) n c->0 < c) (hB0:S.B<=B0) (hB1:B0<=V.heap.size) (hn:S.n<=1000000) (hcr:∀ i,i < S.n->S.cr (S.ask i x).2 i):Calls Try.prog 47 #[.slice (some ⟨sb,0,none⟩) S.n cap,lv] V fun e w'=>∃ lw F',e=.returned (.tuple #[lw,.bool (!S.alv S.n x)])/\Lk S V F lv B0 (S.ask S.n x).1 (S.ask S.n x).2 w' lw F':=by
 go_enter Try.func47,Try.ntmps47
 refine wo_ 29 [(0,.slice (some ⟨sb,0,none⟩) S.n cap),(1,lv)] ?_
 rintro a A ⟨t0,t1,-⟩
 refine wp_seq ?_
 refine wi_ A (h2_ t0 t1) (rf_ [] (h2_ t0 t1) ?_)
 rintro a A - ⟨t0,t1,-⟩
 refine wp_seq ?_
 refine wi_ A (h2_ t0 t1) (rf_ [(6,.bool true)] (h2_ t0 t1) ?_)
 rintro a A ⟨t6,-⟩ ⟨t0,t1,-⟩
 refine wp_seq (wp_seq ?_)
 refine wi_ A (h3_ t0 t1 t6) (rv_ 1 (.int .i64 ((S.n:Nat):Int)) (fun a E=>execLnK rfl (E _) ⟨_,_,rfl⟩) (rf_ [(9,.slice (some ⟨sb,0,none⟩) S.n cap),(10,.int .i64 ((S.n:Nat):Int)),(11,.int .i64 ((0:Nat):Int))] (h2_ t1 t6) ?_))
 rintro a A ⟨t9,t10,t11,-⟩ ⟨t1,t6,-⟩
 refine wp_block ?_
 refine wp_loop (fun a W=>∃ (i:Nat) (lw:Value) (F2:Nat->Prop),i<=S.n/\(a.tmps.size=29/\a.defers=[])/\a.eval (.tmp 1)=lw/\a.eval (.tmp 6)=.bool (!S.alv i x)/\a.eval (.tmp 9)=.slice (some ⟨sb,0,none⟩) S.n cap/\a.eval (.tmp 10)=.int .i64 ((S.n:Nat):Int)/\a.eval (.tmp 11)=.int .i64 ((i:Nat):Int)/\Lk S V F lv B0 (S.ask i x).1 (S.ask i x).2 W lw F2) (fun a _=>S.n - (intOf (a.eval (.tmp 11))).toNat) ⟨0,lv,F,Nat.zero_le _,A,t1,t6,t9,t10,t11,hown,hR,Saved.refl _ _,fun _ q=>Or.inl q,hoff,fun _ q=>Or.inl q,hcp⟩ ?_
 rintro a XL ⟨i,lw,F2,hi,A,t1,t6,t9,t10,t11,K⟩
 have es:=t11
 refine wp_seq ?_
 refine wi_ A (h5_ t1 t6 t9 t10 t11) (rv_ 0 (.bool (decide (i < S.n))) (fun a E=>execLtW (p:=i) (q:=S.n) rfl (E _) (E _)) (rf_ [(12,.bool (decide (i < S.n)))] (h5_ t1 t6 t9 t10 t11) ?_))
 rintro a A ⟨t12,-⟩ ⟨t1,t6,t9,t10,t11,-⟩
 refine wp_seq ?_
 by_cases hlt:i < S.n
 ·rw [decide_eq_true hlt] at t12
  refine wp_cond_true t12 (wp_skip ?_)
  clear t12
  obtain ⟨ok1,ok2,-⟩:=S.eok i hlt
  have hrow:=K.row hrow0 hF hlv
  refine wp_seq (wp_block ?_)
  refine wp_seq ?_
  refine wi_ A (h5_ t1 t6 t9 t10 t11) (rv_ 1 (.pointer (some ⟨sb,0+i * 3,none⟩)) (fun a E=>execIxK (k:=i) rfl (E _) (E _) hlt) (rv_ 2 (.agg #[fv3 (S.ef i),fv3 (S.rf i),fv3 (S.sf i)]) (fun a E=>execLdSt rfl (E _) (hrow.at hlt)) (rs_ 3 (fun a E=>?_))))
  obtain ⟨g,eg⟩:∃ z_:Nat,XL.heap.size=z_:=⟨_,rfl⟩
  refine stepV rfl rfl (execAlSt rfl) ⟨.pointer (some ⟨g,0,none⟩),⟨_,rfl,by subst eg; rfl⟩,fun X1 hX=>?_⟩
  have bQ:Below XL.heap.size XL X1:=by rw [hX]; exact belNew XL _
  have Fg:X1.heap[g]?=some (.cells #[.nilFunc,.nilFunc,.nilFunc] 73):=by rw [hX,← eg]; exact heapNew XL _
  clear hX E a
  refine rs_ 5 (fun a E=>?_)
  refine stepS rfl rfl (execStSt rfl (E _) (E _) Fg (fv3_fn _) (fv3_fn _) (fv3_fn _)) ⟨_,⟨_,rfl,rfl⟩,fun X2 hX=>?_⟩
  have bQ2:Below XL.heap.size XL X2:=by rw [hX]; exact below4 bQ (by omega) _
  have Fg2:X2.heap[g]?=some (.cells #[fv3 (S.ef i),fv3 (S.rf i),fv3 (S.sf i)] 73):=by rw [hX]; exact setRow_heap _ _ _ _ _ _ Fg
  clear hX E a
  have hg:¬ F2 g:=fun w=>by have:=S.lt K.R g w; omega
  have hgl:lw.ownBlock ≠ some g:=fun w=>by have:=(K.own.lt g w).2; omega
  replace K:=K.on bQ2
  clear bQ bQ2 Fg
  refine rf_ [(7,.int .i64 ((i:Nat):Int)),(8,.pointer (some ⟨g,0,none⟩))] (h5_ t1 t6 t9 t10 t11) ?_
  rintro a A ⟨t7,t8,-⟩ ⟨t1,t6,t9,t10,t11,-⟩
  refine wp_seq (wp_seq ?_)
  refine wi_ A (h7_ t1 t6 t9 t10 t11 t7 t8) (rv_ 0 (.pointer (some ⟨g,0,none⟩)) (fun a E=>execSf0 rfl (E _)) (rv_ 1 (fv3 (S.ef i)) (fun a E=>execLdP rfl (Or.inr (Or.inr (Or.inr (Or.inr (Or.inr (Or.inl rfl)))))) (E _) (tri_at Fg2).1) (rs_ 2 (fun a E=>?_))))
  refine stepF rfl rfl rfl (E _) ok1 (S.ended hlt K.R) fun e X3 hh=>?_
  obtain ⟨he,F3,hR3,hs3,hf3⟩:=hh
  refine ⟨_,he,_,⟨_,rfl,rfl⟩,eqw ?_⟩
  have hg3:¬ F3 g:=fun w=>by
   rcases hf3 g w with z | z
   ·exact hg z
   ·have:=(Array.getElem?_eq_some_iff.1 Fg2).1; omega
  have Fg3:X3.heap[g]?=some (.cells #[fv3 (S.ef i),fv3 (S.rf i),fv3 (S.sf i)] 73):=by rw [hs3.block g (Array.getElem?_eq_some_iff.1 Fg2).1 hg]; exact Fg2
  replace K:=K.call hR3 hs3 hf3
  clear hs3 hf3 hR3 he E a
  refine rf_ [(18,.bool (S.ea (S.ask i x).2 i))] (h7_ t1 t6 t9 t10 t11 t7 t8) ?_
  rintro a A ⟨t18,-⟩ ⟨t1,t6,t9,t10,t11,t7,t8,-⟩
  cases hea:S.ea (S.ask i x).2 i with
  | true=>
   rw [hea] at t18
   have eA:S.ask (i+1) x=S.ask i x:=if_pos hea
   have eL:S.alv (i+1) x=S.alv i x:=by show (S.alv i x || !S.ea (S.ask i x).2 i)=_; rw [hea]; simp
   refine wp_cond_true t18 ?_
   refine wp_exit ?_
   repeat (first | with_reducible refine exit_then ?_ | with_reducible refine exit_out (by decide) ?_)
   refine exit_in ?_
   refine wi_ A (h5_ t1 t6 t9 t10 t11) (rv_ 0 (.int .i64 ((i+1:Nat):Int)) (fun a E=>execAd8 (p:=i) (q:=1) rfl (E _) rfl (by omega)) (rf_ [(11,.int .i64 ((i+1:Nat):Int))] (h4_ t1 t6 t9 t10) ?_))
   rintro a A ⟨t11,-⟩ ⟨t1,t6,t9,t10,-⟩
   exact ⟨⟨i+1,_,_,hlt,A,t1,by rw [eL]; exact t6,t9,t10,t11,by rw [eA]; exact K⟩,by show S.n - (intOf (a.eval (.tmp 11))).toNat < S.n - (intOf (Act.eval _ (.tmp 11))).toNat; rw [t11,es]; show S.n - (i+1) < S.n - i; omega⟩
  | false=>
   rw [hea] at t18
   have eA:S.ask (i+1) x=((if (S.ra (S.ask i x).2 i).1=true then (S.ask i x).1 ++ [i] else (S.ask i x).1),(S.ra (S.ask i x).2 i).2):=if_neg (by rw [hea]; decide)
   have eL:S.alv (i+1) x=true:=by show (S.alv i x || !S.ea (S.ask i x).2 i)=_; rw [hea]; simp
   refine wp_cond_false t18 (wp_skip ?_)
   clear t18
   refine wp_seq ?_
   refine wi_ A (h7_ t1 t6 t9 t10 t11 t7 t8) (rf_ [(6,.bool false)] (h6_ t1 t9 t10 t11 t7 t8) ?_)
   rintro a A ⟨t6,-⟩ ⟨t1,t9,t10,t11,t7,t8,-⟩
   refine wp_seq ?_
   refine wi_ A (h7_ t1 t6 t9 t10 t11 t7 t8) (rv_ 0 (.pointer (some ⟨g,0+1,none⟩)) (fun a E=>execSf1 rfl (E _)) (rv_ 1 (fv3 (S.rf i)) (fun a E=>execLdP rfl (Or.inr (Or.inr (Or.inr (Or.inr (Or.inr (Or.inl rfl)))))) (E _) (tri_at Fg3).2.1) (rs_ 2 (fun a E=>?_))))
   refine stepF rfl rfl rfl (E _) ok2 (S.ready hlt hea (hcr i hlt) K.R) fun e X4 hh=>?_
   obtain ⟨he,F4,hR4,hs4,hf4⟩:=hh
   refine ⟨_,he,_,⟨_,rfl,rfl⟩,eqw ?_⟩
   replace K:=K.call hR4 hs4 hf4
   clear hs4 hf4 hR4 he E a
   refine rf_ [(21,.bool (S.ra (S.ask i x).2 i).1)] (h6_ t1 t6 t9 t10 t11 t7) ?_
   rintro a A ⟨t21,-⟩ ⟨t1,t6,t9,t10,t11,t7,-⟩
   cases hra:(S.ra (S.ask i x).2 i).1 with
   | false=>
    rw [hra] at t21
    rw [hra,if_neg (by decide)] at eA
    refine wp_cond_false t21 (wp_skip ?_)
    refine wi_ A (h5_ t1 t6 t9 t10 t11) (rv_ 0 (.int .i64 ((i+1:Nat):Int)) (fun a E=>execAd8 (p:=i) (q:=1) rfl (E _) rfl (by omega)) (rf_ [(11,.int .i64 ((i+1:Nat):Int))] (h4_ t1 t6 t9 t10) ?_))
    rintro a A ⟨t11,-⟩ ⟨t1,t6,t9,t10,-⟩
    exact ⟨⟨i+1,_,_,hlt,A,t1,by rw [eL]; exact t6,t9,t10,t11,by rw [eA]; exact K⟩,by show S.n - (intOf (a.eval (.tmp 11))).toNat < S.n - (intOf (Act.eval _ (.tmp 11))).toNat; rw [t11,es]; show S.n - (i+1) < S.n - i; omega⟩
   | true=>
    rw [hra] at t21
    rw [hra,if_pos rfl] at eA
    refine wp_cond_true t21 ?_
    clear t21
    refine wi_ A (h6_ t1 t6 t9 t10 t11 t7) (rs_ 2 (fun a E=>?_))
    refine stepV rfl rfl (execBsI rfl (E _)) ⟨_,⟨_,rfl,rfl⟩,fun X5 hX5=>?_⟩
    have bQ:Below X4.heap.size X4 X5:=by rw [hX5]; exact belNew X4 _
    have Fl:X5.heap[X4.heap.size]?=some (.cells #[.int .i64 ((i:Nat):Int)] 3):=by rw [hX5]; exact heapNew X4 _
    replace K:=K.on bQ
    have hll:=S.ask_len (x:=x) i
    obtain ⟨v',W',hr,r1,r2⟩:=Brd.run_app2L X5 22 B0 (S.ask i x).1.length 1 lw (.slice (some ⟨X4.heap.size,0,none⟩) 1 1) (nL (S.ask i x).1) (fun _=>((i:Nat):Int)) K.own (one_int (by unfold I64; omega) Fl) ⟨_,_,rfl⟩ (by omega) (by omega) (Nat.le_trans hB1 K.sv.size)
    refine rs_ 3 (fun a E=>?_)
    refine stepV rfl rfl (execApI rfl (E _) (E _) hr) ⟨_,⟨_,rfl,rfl⟩,fun X6 hX6=>?_⟩
    subst hX6
    replace K:=K.app hB0 r1 r2
    refine rf_ [(1,v')] (h4_ t6 t9 t10 t11) ?_
    rintro a A ⟨t1,-⟩ ⟨t6,t9,t10,t11,-⟩
    refine wi_ A (h5_ t1 t6 t9 t10 t11) (rv_ 0 (.int .i64 ((i+1:Nat):Int)) (fun a E=>execAd8 (p:=i) (q:=1) rfl (E _) rfl (by omega)) (rf_ [(11,.int .i64 ((i+1:Nat):Int))] (h4_ t1 t6 t9 t10) ?_))
    rintro a A ⟨t11,-⟩ ⟨t1,t6,t9,t10,-⟩
    exact ⟨⟨i+1,_,_,hlt,A,t1,by rw [eL]; exact t6,t9,t10,t11,by rw [eA]; exact K⟩,by show S.n - (intOf (a.eval (.tmp 11))).toNat < S.n - (intOf (Act.eval _ (.tmp 11))).toNat; rw [t11,es]; show S.n - (i+1) < S.n - i; omega⟩
 ·rw [decide_eq_false hlt] at t12
  refine wp_cond_false t12 ?_
  refine wp_exit ?_
  repeat (first | with_reducible refine exit_then ?_ | with_reducible refine exit_out (by decide) ?_)
  refine exit_in ?_
  have e1:i=S.n:=by omega
  rw [e1] at K t6
  refine wp_seq ?_
  refine wi_ A (h2_ t1 t6) (rg_ [(4,lw),(5,.bool (!S.alv S.n x))] ?_)
  rintro a A ⟨t4,t5,-⟩
  refine wp_ret ?_
  refine bodyPost_ret (results_tmp2 rfl _ _ _) A.2 ⟨lw,F2,?_,K⟩
  show Ending.returned (.tuple #[a.eval (.tmp 4),a.eval (.tmp 5)])=_
  rw [t4,t5]
end Go.Proofs.Ytjjegmflllpknaa.Loo
