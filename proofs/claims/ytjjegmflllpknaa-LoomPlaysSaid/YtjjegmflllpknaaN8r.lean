import Derived.Test.YtjjegmflllpknaaN8q
namespace Go.Proofs.Ytjjegmflllpknaa.Loo
open Go.RowKit Gf8 Aes By8 Cel Cf Win Drw Prm
/- The landed loom's Run. Written by tools/mkN8r.py. -/
theorem fvl_fn (o:Option (FuncId × Array Value)):FnV (fvl o):=by
 cases o with
 | none=>exact Or.inl rfl
 | some q=>exact Or.inr ⟨_,_,_,rfl⟩
section
variable {o:Oper} {a:Act} {w:World}
theorem execBxTk {x:Operand} {u v:Value} (ho:o.op=.box 48 x) (hx:a.eval x=.agg #[u,v]) (hu:FnV u) (hv:FnV v):(execOp a.eval o).run Try.prog w=.ok (.value (.pointer (some ⟨w.heap.size,0,none⟩))) (w.alloc (.cells #[u,v] 48)):=by
 unfold execOp
 rcases hu with rfl | ⟨_,_,_,rfl⟩ <;> rcases hv with rfl | ⟨_,_,_,rfl⟩ <;> (simp only [ho,hx]; simp [go_sem])
theorem execAlTk (ho:o.op=.alloc 48):(execOp a.eval o).run Try.prog w=.ok (.value (.pointer (some ⟨w.heap.size,0,none⟩))) (w.alloc (.cells #[.nilFunc,.nilFunc] 48)):=by
 unfold execOp
 simp only [ho]
 simp [go_sem]
theorem execStTk {x y:Operand} {g:Nat} {u v u0 v0:Value} (ho:o.op=.store 48 x y) (hx:a.eval x=.pointer (some ⟨g,0,none⟩)) (hy:a.eval y=.agg #[u,v]) (hg:w.heap[g]?=some (.cells #[u0,v0] 48)) (hu:FnV u) (hv:FnV v):(execOp a.eval o).run Try.prog w=.ok .skip (w.setRow g #[u,v]):=by
 have h:=execStMid (P:=Try.prog) ho hx hy hg (Nat.le_refl _) (by show _=some 2; kernel_rfl) (by simp [hu.one,hv.one])
 exact h
theorem execLdTk {x:Operand} {g f:Nat} {u v:Value} (ho:o.op=.load 48 x) (hx:a.eval x=.pointer (some ⟨g,f,none⟩)) (h:w.cell? ⟨g,f,none⟩=some u/\w.cell? ⟨g,f+1,none⟩=some v):(execOp a.eval o).run Try.prog w=.ok (.value (.agg #[u,v])) w:=by
 have h:=execLoadMid (P:=Try.prog) (cs:=[u,v]) ho hx (fun j z hv=>by
  match j,hv with
  | 0,hv=>exact h.1.trans hv
  | 1,hv=>exact h.2.trans hv
  | j+2,hv=>cases hv) Try.underlying48 rfl (by show _=some 2; kernel_rfl)
 exact h
theorem execAlB (ho:o.op=.alloc 4):(execOp a.eval o).run Try.prog w=.ok (.value (.pointer (some ⟨w.heap.size,0,none⟩))) (w.alloc (.cells #[.bool false] 4)):=by
 unfold execOp
 simp only [ho]
 simp [go_sem]
theorem execFn_o {x y:Operand} {q:Option (FuncId × Array Value)} (ho:o.op=.binOp .eql 26 x y 26) (hx:a.eval x=fvl q) (hy:a.eval y=.nilFunc):(execOp a.eval o).run Try.prog w=.ok (.value (.bool q.isNone)) w:=by
 cases q with
 | none=>exact execFn_n ho hx hy
 | some z=>exact execFn_f ho hx hy
end
theorem two_at {W:World} {g:Nat} {u v:Value} {t:TypeId} (h:W.heap[g]?=some (.cells #[u,v] t)):W.cell? ⟨g,0,none⟩=some u/\W.cell? ⟨g,0+1,none⟩=some v:=
 ⟨by rw [cell_of_row _ _ _ _ _ _ h]; rfl,by rw [cell_of_row _ _ _ _ _ _ h]; rfl⟩
def re_e (k3:Nat):FuncId × Array Value × Array Value:=(49,#[],#[.pointer (some ⟨k3,0,none⟩)])
def re_r (k1:Nat):FuncId × Array Value × Array Value:=(50,#[],#[.pointer (some ⟨k1,0,none⟩)])
def re_s (k1 k3:Nat):FuncId × Array Value × Array Value:=(51,#[],#[.pointer (some ⟨k1,0,none⟩),.pointer (some ⟨k3,0,none⟩)])
set_option maxRecDepth 100000 in
set_option maxHeartbeats 4000000 in
theorem prstrand (r s:Option (FuncId × Array Value)) (V:World):Calls Try.prog 30 #[.agg #[fvl r,fvl s]] V fun e w'=>∃ k1 k3,e=.returned (.agg #[fv3 (re_e k3),fv3 (re_r k1),fv3 (re_s k1 k3)])/\V.heap.size<=k1/\V.heap.size<=k3/\w'.heap[k1]?=some (.cells #[fvl r,fvl s] 48)/\w'.heap[k3]?=some (.cells #[.bool s.isNone] 4)/\Below V.heap.size V w':=by
 go_enter Try.func30,Try.ntmps30
 refine wo_ 11 [(0,.agg #[fvl r,fvl s])] ?_
 rintro a A ⟨t0,-⟩
 refine wp_seq ?_
 obtain ⟨k1,e1⟩:∃ z_:Nat,V.heap.size=z_:=⟨_,rfl⟩
 refine wi_ A (h1_ t0) (rs_ 0 (fun a E=>?_))
 refine stepV rfl rfl (execBxTk rfl (E _) (fvl_fn r) (fvl_fn s)) ⟨.pointer (some ⟨k1,0,none⟩),⟨_,rfl,by subst e1; rfl⟩,fun X1 hX=>?_⟩
 have b1:Below V.heap.size V X1:=by rw [hX]; exact belNew V _
 have F1:X1.heap[k1]?=some (.cells #[fvl r,fvl s] 48):=by rw [hX,← e1]; exact heapNew V _
 clear hX E a
 obtain ⟨g2,e2⟩:∃ z_:Nat,X1.heap.size=z_:=⟨_,rfl⟩
 refine rs_ 1 (fun a E=>?_)
 refine stepV rfl rfl (execAlSt rfl) ⟨.pointer (some ⟨g2,0,none⟩),⟨_,rfl,by subst e2; rfl⟩,fun X2 hX=>?_⟩
 have b2:Below X1.heap.size X1 X2:=by rw [hX]; exact belNew X1 _
 have F2:X2.heap[g2]?=some (.cells #[.nilFunc,.nilFunc,.nilFunc] 73):=by rw [hX,← e2]; exact heapNew X1 _
 clear hX E a
 have l0:=(Array.getElem?_eq_some_iff.1 F1).1
 replace F1:=on9 F1 b2
 have l2:=b1.size
 replace b1:=b1.trans (b2.mono b1.size)
 refine rf_ [(1,.pointer (some ⟨k1,0,none⟩)),(2,.pointer (some ⟨g2,0,none⟩))] (h1_ t0) ?_
 rintro a A ⟨t1,t2,-⟩ -
 refine wp_seq ?_
 refine wi_ A (h2_ t1 t2) (rv_ 0 (.pointer (some ⟨k1,0+1,none⟩)) (fun a E=>execTf1 rfl (E _)) (rv_ 1 (fvl s) (fun a E=>execLdP rfl (Or.inr (Or.inr (Or.inr (Or.inr (Or.inr (Or.inl rfl)))))) (E _) (two_at F1).2) (rv_ 2 (.bool s.isNone) (fun a E=>execFn_o rfl (E _) rfl) (rs_ 3 (fun a E=>?_)))))
 obtain ⟨k3,e3⟩:∃ z_:Nat,X2.heap.size=z_:=⟨_,rfl⟩
 refine stepV rfl rfl (execAlB rfl) ⟨.pointer (some ⟨k3,0,none⟩),⟨_,rfl,by subst e3; rfl⟩,fun X3 hX=>?_⟩
 have b3:Below X2.heap.size X2 X3:=by rw [hX]; exact belNew X2 _
 have F3:X3.heap[k3]?=some (.cells #[.bool false] 4):=by rw [hX,← e3]; exact heapNew X2 _
 clear hX E a
 have l1:=(Array.getElem?_eq_some_iff.1 F1).1
 have l4:=(Array.getElem?_eq_some_iff.1 F2).1
 replace F1:=on9 F1 b3
 replace F2:=on9 F2 b3
 have l5:=b1.size
 replace b1:=b1.trans (b3.mono b1.size)
 refine rs_ 4 (fun a E=>?_)
 refine stepS rfl rfl (execSt9 rfl (Or.inr (Or.inl rfl)) (E _) (E _) (Or.inr (Or.inl ⟨_,rfl⟩)) (one_at F3) (frozen4 F3)) ⟨_,⟨_,rfl,rfl⟩,fun X4 hX=>?_⟩
 have F3':X4.heap[k3]?=some (.cells #[.bool s.isNone] 4):=by rw [hX]; exact heap4 _ F3
 have F1':X4.heap[k1]?=some (.cells #[fvl r,fvl s] 48):=by rw [hX,heap4o _ F3 (by omega)]; exact F1
 have F2':X4.heap[g2]?=some (.cells #[.nilFunc,.nilFunc,.nilFunc] 73):=by rw [hX,heap4o _ F3 (by omega)]; exact F2
 have b4:Below V.heap.size V X4:=by rw [hX]; exact b1.setCell (p:=⟨k3,0,none⟩) (by show V.heap.size<=k3; omega) _
 clear hX E a F1 F2 F3
 refine rf_ [(3,.pointer (some ⟨k3,0,none⟩))] (h2_ t1 t2) ?_
 rintro a A ⟨t3,-⟩ ⟨t1,t2,-⟩
 refine wp_seq ?_
 refine wi_ A (h3_ t1 t2 t3) (rv_ 0 (fv3 (re_e k3)) (fun a E=>(execMkFn rfl).trans (by simp [E,fv3,re_e]; rfl)) (rv_ 1 (fv3 (re_r k1)) (fun a E=>(execMkFn rfl).trans (by simp [E,fv3,re_r]; rfl)) (rv_ 2 (fv3 (re_s k1 k3)) (fun a E=>(execMkFn rfl).trans (by simp [E,fv3,re_s]; exact ⟨rfl,rfl⟩)) (rv_ 3 (.agg #[fv3 (re_e k3),fv3 (re_r k1),fv3 (re_s k1 k3)]) (fun a E=>execBdSt rfl (E _) (E _) (E _)) (rs_ 4 (fun a E=>?_))))))
 refine stepS rfl rfl (execStSt rfl (E _) (E _) F2' (fv3_fn _) (fv3_fn _) (fv3_fn _)) ⟨_,⟨_,rfl,rfl⟩,fun X5 hX=>?_⟩
 have G2:X5.heap[g2]?=some (.cells #[fv3 (re_e k3),fv3 (re_r k1),fv3 (re_s k1 k3)] 73):=by rw [hX]; exact setRow_heap _ _ _ _ _ _ F2'
 have G1:X5.heap[k1]?=some (.cells #[fvl r,fvl s] 48):=by rw [hX,setRow_other _ _ _ _ (by omega)]; exact F1'
 have hk32:k3 ≠ g2:=by omega
 have G3:X5.heap[k3]?=some (.cells #[.bool s.isNone] 4):=by rw [hX,setRow_other _ _ _ _ hk32]; exact F3'
 have b5:Below V.heap.size V X5:=by rw [hX]; exact below4 b4 (by omega) _
 clear hX E a
 refine rf_ [] (h1_ t2) ?_
 rintro a A - ⟨t2,-⟩
 refine wp_ret ?_
 exact bodyPost_ret (results_cell_row Try.results30 _ _ g2 73 _ (0,0) _ t2 G2 Try.underlying73 rfl (sizeSt _ _ _)) A.2 ⟨k1,k3,rfl,by omega,by omega,G1,G3,b5⟩
set_option maxRecDepth 100000 in
theorem prended {V:World} {k3:Nat} {b:Bool} (h:V.heap[k3]?=some (.cells #[.bool b] 4)):Calls Try.prog 49 #[.pointer (some ⟨k3,0,none⟩)] V fun e w'=>e=.returned (.bool b)/\Below V.heap.size V w':=by
 go_enter Try.func49,Try.ntmps49
 refine wo_ 3 [(0,.pointer (some ⟨k3,0,none⟩))] ?_
 rintro a A ⟨t0,-⟩
 refine wp_seq ?_
 refine wi_ A (h1_ t0) (rf_ [] (h1_ t0) ?_)
 rintro a A - ⟨t0,-⟩
 refine wp_seq ?_
 refine wi_ A (h1_ t0) (rv_ 0 (.bool b) (fun a E=>execLdG rfl (Or.inr (Or.inr (Or.inl rfl))) (E _) (one_at h)) (rg_ [(1,.bool b)] ?_))
 rintro a A ⟨t1,-⟩
 refine wp_ret ?_
 refine bodyPost_ret (results_tmp rfl _ _ _) A.2 ⟨?_,Below.refl _ _⟩
 show Ending.returned (a.eval (.tmp 1))=_
 rw [t1]
set_option maxRecDepth 100000 in
theorem prready_n {V:World} {k1:Nat} {u:Value} (h:V.heap[k1]?=some (.cells #[.nilFunc,u] 48)):Calls Try.prog 50 #[.pointer (some ⟨k1,0,none⟩)] V fun e w'=>e=.returned (.bool true)/\Below V.heap.size V w':=by
 go_enter Try.func50,Try.ntmps50
 refine wo_ 10 [(0,.pointer (some ⟨k1,0,none⟩))] ?_
 rintro a A ⟨t0,-⟩
 refine wp_seq ?_
 refine wi_ A (h1_ t0) (rf_ [] (h1_ t0) ?_)
 rintro a A - ⟨t0,-⟩
 refine wp_seq ?_
 refine wi_ A (h1_ t0) (rv_ 0 (.pointer (some ⟨k1,0,none⟩)) (fun a E=>execTf0 rfl (E _)) (rv_ 1 .nilFunc (fun a E=>execLdP rfl (Or.inr (Or.inr (Or.inr (Or.inr (Or.inr (Or.inl rfl)))))) (E _) (two_at h).1) (rv_ 2 (.bool true) (fun a E=>execFn_n rfl (E _) rfl) (rg_ [(1,.bool true)] ?_))))
 rintro a A ⟨t1,-⟩
 refine wp_ret ?_
 refine bodyPost_ret (results_tmp rfl _ _ _) A.2 ⟨?_,Below.refl _ _⟩
 show Ending.returned (a.eval (.tmp 1))=_
 rw [t1]
set_option maxRecDepth 100000 in
theorem prready_f {V:World} {k1:Nat} {u:Value} {f:FuncId} {c:Array Value} {b:Bool} {post:World->Prop} (h:V.heap[k1]?=some (.cells #[.func (.func f) #[] c,u] 48)) (hk:CanCall f) (hf:Calls Try.prog f c V fun e w'=>e=.returned (.bool b)/\post w'):Calls Try.prog 50 #[.pointer (some ⟨k1,0,none⟩)] V fun e w'=>e=.returned (.bool b)/\post w':=by
 go_enter Try.func50,Try.ntmps50
 refine wo_ 10 [(0,.pointer (some ⟨k1,0,none⟩))] ?_
 rintro a A ⟨t0,-⟩
 refine wp_seq ?_
 refine wi_ A (h1_ t0) (rf_ [] (h1_ t0) ?_)
 rintro a A - ⟨t0,-⟩
 refine wp_seq ?_
 refine wi_ A (h1_ t0) (rv_ 0 (.pointer (some ⟨k1,0,none⟩)) (fun a E=>execTf0 rfl (E _)) (rv_ 1 (.func (.func f) #[] c) (fun a E=>execLdP rfl (Or.inr (Or.inr (Or.inr (Or.inr (Or.inr (Or.inl rfl)))))) (E _) (two_at h).1) (rv_ 2 (.bool false) (fun a E=>execFn_f rfl (E _) rfl) (rv_ 4 (.pointer (some ⟨k1,0,none⟩)) (fun a E=>execTf0 rfl (E _)) (rv_ 5 (.func (.func f) #[] c) (fun a E=>execLdP rfl (Or.inr (Or.inr (Or.inr (Or.inr (Or.inr (Or.inl rfl)))))) (E _) (two_at h).1) (rs_ 6 (fun a E=>?_)))))))
 refine stepF (f:=(f,#[],c)) rfl (wy rfl rfl rfl (E _)) rfl (E _) hk (by simpa using hf) fun e X1 hh=>?_
 refine ⟨_,hh.1,_,⟨_,rfl,rfl⟩,eqw ?_⟩
 refine rg_ [(1,.bool b)] ?_
 rintro a A ⟨t1,-⟩
 refine wp_ret ?_
 refine bodyPost_ret (results_tmp rfl _ _ _) A.2 ⟨?_,hh.2⟩
 show Ending.returned (a.eval (.tmp 1))=_
 rw [t1]
set_option maxRecDepth 100000 in
theorem prstep {V:World} {k1 k3:Nat} {u:Value} {f:FuncId} {c:Array Value} {b:Bool} {post:World->Prop} (h:V.heap[k1]?=some (.cells #[u,.func (.func f) #[] c] 48)) (hk:CanCall f) (hf:Calls Try.prog f c V fun e w'=>e=.returned (.bool b)/\post w') (h3:∀ w',post w'->∃ b0,w'.heap[k3]?=some (.cells #[.bool b0] 4)):Calls Try.prog 51 #[.pointer (some ⟨k1,0,none⟩),.pointer (some ⟨k3,0,none⟩)] V fun e w'=>e=.returned (.tuple #[])/\∃ X,post X/\w'=X.setCell ⟨k3,0,none⟩ (.bool b):=by
 go_enter Try.func51,Try.ntmps51
 refine wo_ 5 [(0,.pointer (some ⟨k1,0,none⟩)),(1,.pointer (some ⟨k3,0,none⟩))] ?_
 rintro a A ⟨t0,t1,-⟩
 refine wi_ A (h2_ t0 t1) (rv_ 0 (.pointer (some ⟨k1,0+1,none⟩)) (fun a E=>execTf1 rfl (E _)) (rv_ 1 (.func (.func f) #[] c) (fun a E=>execLdP rfl (Or.inr (Or.inr (Or.inr (Or.inr (Or.inr (Or.inl rfl)))))) (E _) (two_at h).2) (rs_ 2 (fun a E=>?_))))
 refine stepF (f:=(f,#[],c)) rfl rfl rfl (E _) hk (by simpa using hf) fun e X1 hh=>?_
 refine ⟨_,hh.1,_,⟨_,rfl,rfl⟩,eqw ?_⟩
 obtain ⟨b0,F3⟩:=h3 X1 hh.2
 refine rs_ 3 (fun a E=>?_)
 refine stepS rfl rfl (execSt9 rfl (Or.inr (Or.inl rfl)) (E _) (E _) (Or.inr (Or.inl ⟨_,rfl⟩)) (one_at F3) (frozen4 F3)) ⟨_,⟨_,rfl,rfl⟩,fun X2 hX=>?_⟩
 refine rg_ [] ?_
 rintro a A -
 exact bodyPost_end (results_none rfl _ _ _) A.2 ⟨rfl,X1,hh.2,hX⟩
section
variable {σ:Type} (S:Sys σ) (k1 k3:Nat->Nat)
def QF (F:Nat->Prop) (b:Nat):Prop:=F b\/∃ t,t < S.n/\(b=k1 t\/b=k3 t)
def QR (W:World) (F2:Nat->Prop) (y:(Nat->Bool) × σ):Prop:=∃ F,S.R W F y.2/\(∀ t,t < S.n->W.heap[k1 t]?=some (.cells #[fvl (S.rf t),fvl (S.sf t)] 48)/\W.heap[k3 t]?=some (.cells #[.bool (y.1 t)] 4)/\¬ F (k1 t)/\¬ F (k3 t))/\(∀ t,t < S.n->S.sf t=none->y.1 t=true)/\F2=QF S k1 k3 F
end
section
variable {σ:Type} {S:Sys σ} {k1 k3:Nat->Nat} {W X:World} {F F2:Nat->Prop} {y:(Nat->Bool) × σ}
theorem QR.frame (h:QR S k1 k3 W F2 y) (sv:Saved (fun b=>S.lo<=b/\¬ F2 b) W X):QR S k1 k3 X F2 y:=by
 obtain ⟨F,h1,h2,h3,rfl⟩:=h
 have hk:∀ b,b < W.heap.size->QF S k1 k3 F b->X.heap[b]?=W.heap[b]?:=fun b hb hq=>sv.block b hb (fun w=>w.2 hq)
 refine ⟨F,S.frame h1 (fun b hb=>hk b (S.lt h1 b hb) (Or.inl hb)) (fun b hb=>sv.block b (Nat.lt_of_lt_of_le hb (S.low h1)) (fun w=>Nat.not_lt.2 w.1 hb)) sv.size,fun t ht=>?_,h3,rfl⟩
 obtain ⟨w1,w2,w3⟩:=h2 t ht
 rw [hk _ (Array.getElem?_eq_some_iff.1 w1).1 (Or.inr ⟨t,ht,Or.inl rfl⟩),hk _ (Array.getElem?_eq_some_iff.1 w2).1 (Or.inr ⟨t,ht,Or.inr rfl⟩)]
 exact ⟨w1,w2,w3⟩
theorem QR.on (h:QR S k1 k3 W F2 y) (hb:Below W.heap.size W X):∃ F',QR S k1 k3 X F' y/\Saved F2 W X/\∀ q,F' q->F2 q\/W.heap.size<=q:=
 ⟨F2,h.frame ((Saved.refl _ _).below hb (Nat.le_refl _)),(Saved.refl _ _).below hb (Nat.le_refl _),fun _ q=>Or.inl q⟩
theorem QR.call {F3:Nat->Prop} {z:σ} (h2:∀ t,t < S.n->W.heap[k1 t]?=some (.cells #[fvl (S.rf t),fvl (S.sf t)] 48)/\W.heap[k3 t]?=some (.cells #[.bool (y.1 t)] 4)/\¬ F (k1 t)/\¬ F (k3 t)) (h3:∀ t,t < S.n->S.sf t=none->y.1 t=true) (hR:S.R X F3 z) (hs:Saved F W X) (hf:∀ q,F3 q->F q\/W.heap.size<=q):QR S k1 k3 X (QF S k1 k3 F3) (y.1,z)/\Saved (QF S k1 k3 F) W X/\∀ q,QF S k1 k3 F3 q->QF S k1 k3 F q\/W.heap.size<=q:=by
 have hn:∀ b,b < W.heap.size->¬ F b->¬ F3 b:=fun b hb h1 h2=>by
  rcases hf b h2 with w | w
  ·exact h1 w
  ·omega
 refine ⟨⟨F3,hR,fun t ht=>?_,h3,rfl⟩,⟨hs.os,hs.tape,hs.output,hs.size,fun b hb hq=>hs.block b hb (fun w=>hq (Or.inl w))⟩,fun q hq=>?_⟩
 ·obtain ⟨w1,w2,w3,w4⟩:=h2 t ht
  have l1:=(Array.getElem?_eq_some_iff.1 w1).1
  have l2:=(Array.getElem?_eq_some_iff.1 w2).1
  rw [hs.block _ l1 w3,hs.block _ l2 w4]
  exact ⟨w1,w2,hn _ l1 w3,hn _ l2 w4⟩
 ·rcases hq with w | w
  ·rcases hf q w with z | z
   ·exact Or.inl (Or.inl z)
   ·exact Or.inr z
  ·exact Or.inl (Or.inr w)
end
def qS {σ:Type} (S:Sys σ) (k1 k3:Nat->Nat) (inj:(∀ s t,s < S.n->t < S.n->s ≠ t->k3 s ≠ k3 t)/\∀ t,t < S.n->S.lo<=k3 t):Stm ((Nat->Bool) × σ) where
 R:=QR S k1 k3
 B:=S.lo
 frame:=fun h sv=>h.frame sv
 lt:=fun {W F x} h b hb=>by
  obtain ⟨F,h1,h2,_,rfl⟩:=h
  rcases hb with w | ⟨t,ht,w | w⟩
  ·exact S.lt h1 b w
  ·rw [w]; exact (Array.getElem?_eq_some_iff.1 (h2 t ht).1).1
  ·rw [w]; exact (Array.getElem?_eq_some_iff.1 (h2 t ht).2.1).1
 n:=S.n
 ef:=fun t=>re_e (k3 t)
 rf:=fun t=>re_r (k1 t)
 sf:=fun t=>re_s (k1 t) (k3 t)
 ea:=fun y t=>y.1 t
 ra:=fun y t=>match S.rf t with
  | none=>(true,y)
  | some _=>((S.ra y.2 t).1,(y.1,(S.ra y.2 t).2))
 sa:=fun y t=>(upf y.1 t (S.sa y.2 t).1,(S.sa y.2 t).2)
 can:=fun y t=>y.1 t=false/\S.cs y.2 t
 cr:=fun y t=>S.cr y.2 t
 eok:=fun t _=>⟨⟨_,Try.func49,by kernel_rfl,by kernel_rfl⟩,⟨_,Try.func50,by kernel_rfl,by kernel_rfl⟩,⟨_,Try.func51,by kernel_rfl,by kernel_rfl⟩⟩
 ended:=fun {V F x t} ht hR=>by
  have hR0:=hR
  obtain ⟨F,h1,h2,h3,h4⟩:=hR
  exact Calls.mono (prended (h2 t ht).2.1) fun e w' ⟨he,hb⟩=>⟨he,hR0.on hb⟩
 ready:=fun {V F x t} ht _ hcr hR=>by
  have hR0:=hR
  obtain ⟨F,h1,h2,h3,rfl⟩:=hR
  have hw:=(h2 t ht).1
  cases hr:S.rf t with
  | none=>
   rw [hr] at hw
   exact Calls.mono (prready_n hw) fun e w' ⟨he,hb⟩=>⟨he,hR0.on hb⟩
  | some q=>
   obtain ⟨f,c⟩:=q
   rw [hr] at hw
   have hc:=S.ready ht hr hcr h1
   refine Calls.mono (prready_f (post:=fun w'=>∃ F',S.R w' F' (S.ra x.2 t).2/\Saved F V w'/\∀ q,F' q->F q\/V.heap.size<=q) hw (S.rok ht hr) (Calls.mono hc fun e w' ⟨F',he,w1,w2,w3⟩=>⟨he,F',w1,w2,w3⟩)) fun e w' ⟨he,F3,w1,w2,w3⟩=>⟨he,?_⟩
   obtain ⟨z1,z2,z3⟩:=QR.call h2 h3 w1 w2 w3
   exact ⟨_,z1,z2,z3⟩
 step:=fun {V F x t} ht hc hR=>by
  obtain ⟨F,h1,h2,h3,rfl⟩:=hR
  obtain ⟨hw,hw3,hn1,hn3⟩:=h2 t ht
  cases hr:S.sf t with
  | none=>exact absurd (h3 t ht hr) (by rw [show x.1 t=false from hc.1]; decide)
  | some q=>
   obtain ⟨f,c⟩:=q
   rw [hr] at hw
   have hs:=S.step ht hr hc.2 h1
   have l3:=(Array.getElem?_eq_some_iff.1 hw3).1
   refine Calls.mono (prstep (post:=fun w'=>∃ F',S.R w' F' (S.sa x.2 t).2/\Saved F V w'/\∀ q,F' q->F q\/V.heap.size<=q) (k3:=k3 t) hw (S.sok ht hr) (Calls.mono hs fun e w' ⟨F',he,w1,w2,w3⟩=>⟨he,F',w1,w2,w3⟩) (fun w' ⟨F',_,w2,_⟩=>⟨x.1 t,by rw [w2.block _ l3 hn3]; exact hw3⟩)) fun e w' ⟨he,X,⟨F3,w1,w2,w3⟩,eX⟩=>⟨he,?_⟩
   obtain ⟨⟨_,z0,z1,z4,z5⟩,z2,z3⟩:=QR.call h2 h3 w1 w2 w3
   have hn:¬ F3 (k3 t):=fun m=>by
    rcases w3 _ m with m | m
    ·exact hn3 m
    ·omega
   have Fk:X.heap[k3 t]?=some (.cells #[.bool (x.1 t)] 4):=by rw [w2.block _ l3 hn3]; exact hw3
   have hcell:Saved (fun b=>b=k3 t) X w':=by rw [eX]; exact (Saved.refl _ _).cell _ (Or.inr rfl)
   have hF3:∀ s,s < S.n->¬ F3 (k1 s)/\¬ F3 (k3 s):=fun s hs=>by
    obtain ⟨m1,m2,m3,m4⟩:=h2 s hs
    refine ⟨fun m=>?_,fun m=>?_⟩
    ·rcases w3 _ m with m | m
     ·exact m3 m
     ·have:=(Array.getElem?_eq_some_iff.1 m1).1; omega
    ·rcases w3 _ m with m | m
     ·exact m4 m
     ·have:=(Array.getElem?_eq_some_iff.1 m2).1; omega
   refine ⟨QF S k1 k3 F3,⟨F3,S.frame w1 (fun b hb=>hcell.block b (S.lt w1 b hb) (fun m=>hn (by rw [← m]; exact hb))) (fun b hb=>hcell.block b (Nat.lt_of_lt_of_le hb (S.low w1)) (fun m=>by have:=inj.2 t ht; omega)) hcell.size,fun s hs=>?_,fun s hs hsf=>?_,rfl⟩,?_,z3⟩
   ·obtain ⟨m1,m2,m3,m4⟩:=h2 s hs
    have q1:=(Array.getElem?_eq_some_iff.1 m1).1
    have q2:=(Array.getElem?_eq_some_iff.1 m2).1
    have a1:X.heap[k1 s]?=some (.cells #[fvl (S.rf s),fvl (S.sf s)] 48):=by rw [w2.block _ q1 m3]; exact m1
    have a2:X.heap[k3 s]?=some (.cells #[.bool (x.1 s)] 4):=by rw [w2.block _ q2 m4]; exact m2
    refine ⟨?_,?_,hF3 s hs⟩
    ·rw [eX,heap4o _ Fk (fun m=>?_)]
     ·exact a1
     ·rw [m,Fk] at a1
      injection a1 with a1
      injection a1 with _ a1 _
      exact absurd a1 (by decide)
    ·show w'.heap[k3 s]?=some (.cells #[.bool (upf x.1 t (S.sa x.2 t).1 s)] 4)
     by_cases m:s=t
     ·rw [m,upf_at,eX]
      exact heap4 _ Fk
     ·rw [upf_ne _ _ m,eX,heap4o _ Fk (inj.1 s t hs ht m)]
      exact a2
   ·show upf x.1 t (S.sa x.2 t).1 s=true
    by_cases m:s=t
    ·rw [m,hr] at hsf; cases hsf
    ·rw [upf_ne _ _ m]; exact h3 s hs hsf
   ·refine ⟨hcell.os.trans z2.os,hcell.tape.trans z2.tape,hcell.output.trans z2.output,Nat.le_trans z2.size hcell.size,fun b hb hq=>?_⟩
    rw [hcell.block b (Nat.lt_of_lt_of_le hb z2.size) (fun m=>hq (Or.inr ⟨t,ht,Or.inr m⟩)),z2.block b hb hq]
section
variable {σ:Type} {S:Sys σ} {k1 k3:Nat->Nat} {inj:(∀ s t,s < S.n->t < S.n->s ≠ t->k3 s ≠ k3 t)/\∀ t,t < S.n->S.lo<=k3 t} {en:Nat->Bool} {x:σ} {sc:Nat->Int}
theorem qS_ask:∀ j,(qS S k1 k3 inj).ask j (en,x)=((S.ask en j x).1,(en,(S.ask en j x).2))
 | 0=>rfl
 | j+1=>by
  unfold Stm.ask Sys.ask
  rw [qS_ask j]
  by_cases h:en j=true
  ·rw [if_pos (show (qS S k1 k3 inj).ea (en,(S.ask en j x).2) j=true from h)]
   simp only [if_pos h]
  ·rw [if_neg (show ¬ (qS S k1 k3 inj).ea (en,(S.ask en j x).2) j=true from h)]
   simp only [if_neg h]
   show ((if (match S.rf j with | none=>(true,(en,(S.ask en j x).2)) | some _=>((S.ra (S.ask en j x).2 j).1,(en,(S.ra (S.ask en j x).2 j).2))).1=true then _ else _),(match S.rf j with | none=>(true,(en,(S.ask en j x).2)) | some _=>((S.ra (S.ask en j x).2 j).1,(en,(S.ra (S.ask en j x).2 j).2))).2)=_
   cases hr:S.rf j with
   | none=>rfl
   | some q=>
    show ((if (S.ra (S.ask en j x).2 j).1=true then _ else _),(en,(S.ra (S.ask en j x).2 j).2))=_
    by_cases w:(S.ra (S.ask en j x).2 j).1=true
    ·simp only [if_pos w]
    ·simp only [if_neg w]
theorem qS_alv:∀ j,(qS S k1 k3 inj).alv j (en,x)=(List.range j).any fun t=>!en t
 | 0=>rfl
 | j+1=>by
  unfold Stm.alv
  rw [qS_alv j,qS_ask,List.range_succ,List.any_append]
  congr 1
  show (!en j)=([j].any _)
  simp
theorem qS_J {J:Nat->Nat->σ->Prop} {most:Nat} (h:S.Hold most x J):∀ j,j<=most->(∀ i,i < j->((qS S k1 k3 inj).ask S.n ((qS S k1 k3 inj).at sc (en,x) i)).1 ≠ [])->∀ t,t<=S.n->J j t ((qS S k1 k3 inj).ask t ((qS S k1 k3 inj).at sc (en,x) j)).2.2:=by
 have inner:∀ j,j<=most->J j 0 ((qS S k1 k3 inj).at sc (en,x) j).2->∀ t,t<=S.n->J j t ((qS S k1 k3 inj).ask t ((qS S k1 k3 inj).at sc (en,x) j)).2.2:=by
  intro j hj h0 t
  induction t with
  | zero=>exact fun _=>h0
  | succ t ih=>
   intro ht
   obtain ⟨-,a2,a3⟩:=h.2.1 j t _ hj (by omega) (ih (by omega))
   unfold Stm.ask
   split
   ·exact a3
   ·show J j (t+1) ((qS S k1 k3 inj).ra ((qS S k1 k3 inj).ask t ((qS S k1 k3 inj).at sc (en,x) j)).2 t).2.2
    show J j (t+1) (match S.rf t with | none=>(true,((qS S k1 k3 inj).ask t ((qS S k1 k3 inj).at sc (en,x) j)).2) | some _=>((S.ra ((qS S k1 k3 inj).ask t ((qS S k1 k3 inj).at sc (en,x) j)).2.2 t).1,(((qS S k1 k3 inj).ask t ((qS S k1 k3 inj).at sc (en,x) j)).2.1,(S.ra ((qS S k1 k3 inj).ask t ((qS S k1 k3 inj).at sc (en,x) j)).2.2 t).2))).2.2
    cases S.rf t with
    | none=>exact a3
    | some _=>exact a2
 intro j
 induction j with
 | zero=>exact fun hj _=>inner 0 hj h.1
 | succ j ih=>
  intro hj hgo
  refine inner (j+1) hj ?_
  have h1:=Stm.pk_mem _ (hgo j (by omega))
  exact (h.2.2 j _ _ (by omega) (Stm.ask_lt _ h1) (ih (by omega) (fun i hi=>hgo i (by omega)) S.n (Nat.le_refl _))).2
theorem go_at {most N:Nat} (hle:N<=most) (hgo:∀ j,j < N->((qS S k1 k3 inj).ask S.n ((qS S k1 k3 inj).at sc (en,x) j)).1 ≠ []):∀ j,j<=N->S.go sc (most - j) j ((qS S k1 k3 inj).at sc (en,x) j).1 ((qS S k1 k3 inj).at sc (en,x) j).2 ((qS S k1 k3 inj).pks sc (en,x) j)=S.go sc most 0 en x []
 | 0,_=>rfl
 | j+1,hj=>by
  rw [← go_at hle hgo j (by omega)]
  have h1:=hgo j (by omega)
  obtain ⟨m,em⟩:∃ m,most - j=m+1:=⟨most - j - 1,by omega⟩
  rw [em,show most - (j+1)=m by omega,Stm.pks_succ]
  have e1:(qS S k1 k3 inj).at sc (en,x) j=(((qS S k1 k3 inj).at sc (en,x) j).1,((qS S k1 k3 inj).at sc (en,x) j).2):=rfl
  have e3:(qS S k1 k3 inj).pk sc (en,x) j=(S.ask ((qS S k1 k3 inj).at sc (en,x) j).1 S.n ((qS S k1 k3 inj).at sc (en,x) j).2).1.getD (chn (sc j) (S.ask ((qS S k1 k3 inj).at sc (en,x) j).1 S.n ((qS S k1 k3 inj).at sc (en,x) j).2).1.length) 0:=by
   unfold Stm.pk
   rw [show (qS S k1 k3 inj).n=S.n from rfl,e1,qS_ask]
  have e2:(qS S k1 k3 inj).at sc (en,x) (j+1)=(upf ((qS S k1 k3 inj).at sc (en,x) j).1 ((qS S k1 k3 inj).pk sc (en,x) j) (S.sa (S.ask ((qS S k1 k3 inj).at sc (en,x) j).1 S.n ((qS S k1 k3 inj).at sc (en,x) j).2).2 ((qS S k1 k3 inj).pk sc (en,x) j)).1,(S.sa (S.ask ((qS S k1 k3 inj).at sc (en,x) j).1 S.n ((qS S k1 k3 inj).at sc (en,x) j).2).2 ((qS S k1 k3 inj).pk sc (en,x) j)).2):=by
   show (qS S k1 k3 inj).sa ((qS S k1 k3 inj).ask S.n ((qS S k1 k3 inj).at sc (en,x) j)).2 ((qS S k1 k3 inj).pk sc (en,x) j)=_
   rw [show (qS S k1 k3 inj).ask S.n ((qS S k1 k3 inj).at sc (en,x) j)=_ from qS_ask S.n]
   rfl
  rw [show (qS S k1 k3 inj).ask S.n ((qS S k1 k3 inj).at sc (en,x) j)=_ from qS_ask S.n] at h1
  rw [e2]
  conv=>rhs; unfold Sys.go
  simp only [if_neg h1]
  rw [← e3]
theorem go_is {most N:Nat} (hle:N<=most) (hgo:∀ j,j < N->((qS S k1 k3 inj).ask S.n ((qS S k1 k3 inj).at sc (en,x) j)).1 ≠ []) (hst:((qS S k1 k3 inj).ask S.n ((qS S k1 k3 inj).at sc (en,x) N)).1=[]\/N=most):S.go sc most 0 en x []=((qS S k1 k3 inj).pks sc (en,x) N,((qS S k1 k3 inj).at sc (en,x) N).1,((qS S k1 k3 inj).ask S.n ((qS S k1 k3 inj).at sc (en,x) N)).2.2,((qS S k1 k3 inj).ask S.n ((qS S k1 k3 inj).at sc (en,x) N)).1):=by
 rw [← go_at hle hgo N (Nat.le_refl _)]
 rw [show (qS S k1 k3 inj).ask S.n ((qS S k1 k3 inj).at sc (en,x) N)=_ from qS_ask S.n] at hst ⊢
 cases hm:most - N with
 | zero=>rfl
 | succ m=>
  have h1:(S.ask ((qS S k1 k3 inj).at sc (en,x) N).1 S.n ((qS S k1 k3 inj).at sc (en,x) N).2).1=[]:=by
   rcases hst with w | w
   ·exact w
   ·omega
  conv=>lhs; unfold Sys.go
  simp only [if_pos h1]
  rw [h1]
end
end Go.Proofs.Ytjjegmflllpknaa.Loo
