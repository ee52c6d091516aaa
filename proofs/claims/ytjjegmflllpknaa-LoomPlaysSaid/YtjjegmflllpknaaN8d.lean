import Derived.Test.YtjjegmflllpknaaN8a
namespace Go.Proofs.Ytjjegmflllpknaa.Loo
open Go.RowKit Gf8 Aes By8 Cel Cf Win Drw Prm
/- A run in memory: what is read, what is written. -/
section
variable {W X:World} {P:Nat->Prop} {T:TypeId} {S:Value} {n:Nat} {f g:Nat->Value}
theorem RowP.set (h:RowP W P T S n f) {b cap i:Nat} {u:Value} (e:S=.slice (some ⟨b,0,none⟩) n cap) (hi:i < n):RowP (W.setCell ⟨b,i,none⟩ u) P T S n (upf f i u)/\P b:=by
 obtain ⟨b',cap',cur,h1,h2,h3,h4,h5⟩:=h.open hi
 rw [e] at h1
 injection h1 with h1
 injection h1 with h1
 injection h1 with h1
 subst h1
 refine ⟨Or.inr ⟨b,cap,_,e,h2,heap4 u h3,by simpa using h4,fun j hj=>?_⟩,h2⟩
 by_cases q:j=i
 ·subst q
  rw [Array.getElem?_setIfInBounds_self_of_lt (by omega),upf_at]
 ·rw [Array.getElem?_setIfInBounds_ne (fun z=>q z.symm),h5 j hj,upf_ne _ _ q]
end
section
variable {p:Pl} {A:Ad} {U W X V:World} {ow ow' ow0:Nat->Nat} {M N:Mm} {c c0 t i z:Nat}
theorem oH_inj {s t:Nat} (h:oH s=oH t):s=t:=by unfold oH at h; omega
theorem oD_inj {s t:Nat} (h:oD s=oD t):s=t:=by unfold oD at h; omega
theorem oH_ne:oH t ≠ 0/\oH t ≠ 1/\oH t ≠ 2/\oH t ≠ 3/\oH t ≠ 4/\oH t ≠ 5/\∀ i,oH t ≠ oD i:=by
 unfold oH oD; exact ⟨by omega,by omega,by omega,by omega,by omega,by omega,fun i=>by omega⟩
theorem oD_ne:oD i ≠ 0/\oD i ≠ 1/\oD i ≠ 2/\oD i ≠ 3/\oD i ≠ 4/\oD i ≠ 5/\∀ t,oD i ≠ oH t:=by
 unfold oH oD; exact ⟨by omega,by omega,by omega,by omega,by omega,by omega,fun i=>by omega⟩
theorem RN.run (h:RN p A U ow M W):ow A.rb=1/\W.heap[A.rb]?=some (.cells (rC A M.ms M.lt) 70):=(h.pc 1).1 rfl
theorem RN.dR (h:RN p A U ow M W):RowP W (fun b=>ow b=2) 85 A.dS p.d A.dv:=(h.pc 2).2.1 rfl
theorem RN.hR (h:RN p A U ow M W):RowP W (fun b=>ow b=3) 71 A.hS p.n (fun t=>pn (A.hn t)):=(h.pc 3).2.2.1 rfl
theorem RN.gR (h:RN p A U ow M W):RowP W (fun b=>ow b=4) 71 A.gS p.d (fun i=>pv A (M.gv i)):=(h.pc 4).2.2.2.1 rfl
theorem RN.tR (h:RN p A U ow M W):RowP W (fun b=>ow b=5) 71 A.tS p.d (fun i=>pv A (M.tv i)):=(h.pc 5).2.2.2.2.1 rfl
theorem RN.hand (h:RN p A U ow M W) (ht:t < p.n):HandP W (fun b=>ow b=oH t) U.heap.size (A.hn t) (A.ops t) (M.pl t) (M.rg t) (M.tk t):=(h.pc (oH t)).2.2.2.2.2.1 t rfl ht
theorem RN.duct (h:RN p A U ow M W) (hi:i < p.d):DuctP W (fun b=>ow b=oD i) (A.dv i) (M.hd i) (p.cap i).toNat (M.cl i):=(h.pc (oD i)).2.2.2.2.2.2 i rfl hi
theorem Pc.run_of (h:ow A.rb=1/\W.heap[A.rb]?=some (.cells (rC A M.ms M.lt) 70)):Pc p A U ow M W 1:=⟨fun _=>h,fun z=>by omega,fun z=>by omega,fun z=>by omega,fun z=>by omega,fun t z=>by unfold oH at z; omega,fun i z=>by unfold oD at z; omega⟩
theorem Pc.g_of (h:RowP W (fun b=>ow b=4) 71 A.gS p.d (fun i=>pv A (M.gv i))):Pc p A U ow M W 4:=⟨fun z=>by omega,fun z=>by omega,fun z=>by omega,fun _=>h,fun z=>by omega,fun t z=>by unfold oH at z; omega,fun i z=>by unfold oD at z; omega⟩
theorem Pc.t_of (h:RowP W (fun b=>ow b=5) 71 A.tS p.d (fun i=>pv A (M.tv i))):Pc p A U ow M W 5:=⟨fun z=>by omega,fun z=>by omega,fun z=>by omega,fun z=>by omega,fun _=>h,fun t z=>by unfold oH at z; omega,fun i z=>by unfold oD at z; omega⟩
theorem Pc.hand_of (h:t < p.n->HandP W (fun b=>ow b=oH t) U.heap.size (A.hn t) (A.ops t) (M.pl t) (M.rg t) (M.tk t)):Pc p A U ow M W (oH t):=
 ⟨fun z=>absurd z oH_ne.2.1,fun z=>absurd z oH_ne.2.2.1,fun z=>absurd z oH_ne.2.2.2.1,fun z=>absurd z oH_ne.2.2.2.2.1,fun z=>absurd z oH_ne.2.2.2.2.2.1,fun s z hs=>by
  obtain rfl:=oH_inj z
  exact h hs,fun i z=>absurd z (oH_ne.2.2.2.2.2.2 i)⟩
theorem Pc.duct_of (h:i < p.d->DuctP W (fun b=>ow b=oD i) (A.dv i) (M.hd i) (p.cap i).toNat (M.cl i)):Pc p A U ow M W (oD i):=
 ⟨fun z=>absurd z oD_ne.2.1,fun z=>absurd z oD_ne.2.2.1,fun z=>absurd z oD_ne.2.2.2.1,fun z=>absurd z oD_ne.2.2.2.2.1,fun z=>absurd z oD_ne.2.2.2.2.2.1,fun t z=>absurd z (oD_ne.2.2.2.2.2.2 t),fun s z hs=>by
  obtain rfl:=oD_inj z
  exact h hs⟩
theorem nC_at {g pl:Nat} {o tv:Value} {rg:Int} {T:TypeId} (h:W.heap[g]?=some (.cells (nC o pl rg tv) T)):W.cell? ⟨g,0,none⟩=some o/\W.cell? ⟨g,1,none⟩=some (.int .i64 ((pl:Nat):Int))/\W.cell? ⟨g,2,none⟩=some (.int .i64 rg)/\W.cell? ⟨g,3,none⟩=some tv:=
 ⟨by rw [cell_of_row _ _ _ _ _ _ h]; rfl,by rw [cell_of_row _ _ _ _ _ _ h]; rfl,by rw [cell_of_row _ _ _ _ _ _ h]; rfl,by rw [cell_of_row _ _ _ _ _ _ h]; rfl⟩
theorem rC_at (h:W.heap[z]?=some (.cells (rC A M.ms M.lt) c)):W.cell? ⟨z,0,none⟩=some A.dS/\W.cell? ⟨z,1,none⟩=some A.hS/\W.cell? ⟨z,2,none⟩=some A.gS/\W.cell? ⟨z,3,none⟩=some A.tS/\W.cell? ⟨z,4,none⟩=some (.int .i64 ((M.ms:Nat):Int))/\W.cell? ⟨z,5,none⟩=some (.int .i64 ((M.lt:Nat):Int)):=
 ⟨by rw [cell_of_row _ _ _ _ _ _ h]; rfl,by rw [cell_of_row _ _ _ _ _ _ h]; rfl,by rw [cell_of_row _ _ _ _ _ _ h]; rfl,by rw [cell_of_row _ _ _ _ _ _ h]; rfl,by rw [cell_of_row _ _ _ _ _ _ h]; rfl,by rw [cell_of_row _ _ _ _ _ _ h]; rfl⟩
theorem RN.rc (h:RN p A U ow M W):W.cell? ⟨A.rb,0,none⟩=some A.dS/\W.cell? ⟨A.rb,1,none⟩=some A.hS/\W.cell? ⟨A.rb,2,none⟩=some A.gS/\W.cell? ⟨A.rb,3,none⟩=some A.tS/\W.cell? ⟨A.rb,4,none⟩=some (.int .i64 ((M.ms:Nat):Int))/\W.cell? ⟨A.rb,5,none⟩=some (.int .i64 ((M.lt:Nat):Int)):=rC_at h.run.2
theorem RN.nc (h:RN p A U ow M W) (ht:t < p.n):W.cell? ⟨A.hn t,0,none⟩=some (A.ops t)/\W.cell? ⟨A.hn t,1,none⟩=some (.int .i64 ((M.pl t:Nat):Int))/\W.cell? ⟨A.hn t,2,none⟩=some (.int .i64 (M.rg t)):=by
 obtain ⟨tv,_,h1,_⟩:=h.hand ht
 exact ⟨(nC_at h1).1,(nC_at h1).2.1,(nC_at h1).2.2.1⟩
theorem RN.opl (h:RN p A U ow M W) (ht:t < p.n):SliceO W (A.ops t) (p.ln t) (p.op t):=(h.ops t ht).on h.bel
theorem sv_cell {b k:Nat} {v:Value} (h:ow b=c0):Saved (fun b=>ow b=c0) W (W.setCell ⟨b,k,none⟩ v):=(Saved.refl _ _).cell v (Or.inr h)
theorem sz_cell {b k:Nat} {v:Value}:W.heap.size<=(W.setCell ⟨b,k,none⟩ v).heap.size:=(sv_cell (ow:=fun _=>1) (c0:=1) rfl).size
theorem new_same (h:RN p A U ow M W) (c1:Nat) (Y:World):∀ b,W.heap.size<=b->ow b ≠ 0->ow b=c1/\b < Y.heap.size:=fun _ hb q=>absurd (h.no hb) q
theorem MEq.hand (h:∀ s,s ≠ t->M.pl s=N.pl s/\M.rg s=N.rg s/\M.tk s=N.tk s) (e1:M.hd=N.hd) (e2:M.cl=N.cl) (e3:M.gv=N.gv) (e4:M.tv=N.tv) (e5:M.ms=N.ms) (e6:M.lt=N.lt):∀ c,c ≠ oH t->MEq c M N:=fun c hc=>
 ⟨fun _=>⟨e5,e6⟩,fun _=>e3,fun _=>e4,fun s z=>h s (fun w=>hc (by rw [z,w])),fun i _=>⟨by rw [e1],by rw [e2]⟩⟩
theorem St.setPl (h:St p A U ow0 V ow M W) (ht:t < p.n) (hz:z<=p.ln t) (e:X=W.setCell ⟨A.hn t,1,none⟩ (.int .i64 ((z:Nat):Int))):St p A U ow0 V ow { M with pl:=upf M.pl t z } X:=by
 obtain ⟨tv,h1,h2,h3,h4,h5⟩:=h.rn.hand ht
 have hne:∀ b,tv.ownBlock=some b->b ≠ A.hn t:=fun b hb q=>by
  rcases h3.2 with ⟨w,_⟩ | ⟨g,cap,cur,rfl,_,hg,_⟩
  ·rw [w] at hb; cases hb
  ·cases hb
   subst q
   rw [h2] at hg
   injection hg with hg
   injection hg with _ hg _
   exact absurd hg (by decide)
 subst e
 refine h.upd (c0:=oH t) (sv_cell h1) oH_ne.1 (fun _ _=>rfl) (new_same h.rn _ _) (MEq.hand (fun s hs=>⟨(upf_ne _ _ hs).symm,rfl,rfl⟩) rfl rfl rfl rfl rfl rfl) (Pc.hand_of fun _=>?_) ?_
 ·refine ⟨tv,h1,?_,own_frame (P:=fun b=>tv.ownBlock=some b) h3 (fun _ q=>q) (fun b hb=>heap4o _ h2 (hne b hb)),h4,h5⟩
  rw [heap4 _ h2]
  show some (Obj.cells (nC (A.ops t) z (M.rg t) tv) _ _)=some (Obj.cells (nC (A.ops t) (upf M.pl t z t) (M.rg t) tv) _ _)
  rw [upf_at]
 ·refine { h.rn.fit with pl:=fun s hs=>?_ }
  show upf M.pl t z s<=p.ln s
  by_cases q:s=t
  ·rw [q,upf_at]; exact hz
  ·rw [upf_ne _ _ q]; exact h.rn.fit.pl s hs
theorem St.setRg {y:Int} (h:St p A U ow0 V ow M W) (ht:t < p.n) (hz:I64 y) (e:X=W.setCell ⟨A.hn t,2,none⟩ (.int .i64 y)):St p A U ow0 V ow { M with rg:=upf M.rg t y } X:=by
 obtain ⟨tv,h1,h2,h3,h4,h5⟩:=h.rn.hand ht
 have hne:∀ b,tv.ownBlock=some b->b ≠ A.hn t:=fun b hb q=>by
  rcases h3.2 with ⟨w,_⟩ | ⟨g,cap,cur,rfl,_,hg,_⟩
  ·rw [w] at hb; cases hb
  ·cases hb
   subst q
   rw [h2] at hg
   injection hg with hg
   injection hg with _ hg _
   exact absurd hg (by decide)
 subst e
 refine h.upd (c0:=oH t) (sv_cell h1) oH_ne.1 (fun _ _=>rfl) (new_same h.rn _ _) (MEq.hand (fun s hs=>⟨rfl,(upf_ne _ _ hs).symm,rfl⟩) rfl rfl rfl rfl rfl rfl) (Pc.hand_of fun _=>?_) ?_
 ·refine ⟨tv,h1,?_,own_frame (P:=fun b=>tv.ownBlock=some b) h3 (fun _ q=>q) (fun b hb=>heap4o _ h2 (hne b hb)),h4,h5⟩
  rw [heap4 _ h2]
  show some (Obj.cells (nC (A.ops t) (M.pl t) y tv) _ _)=some (Obj.cells (nC (A.ops t) (M.pl t) (upf M.rg t y t) tv) _ _)
  rw [upf_at]
 ·refine { h.rn.fit with rg:=fun s hs=>?_ }
  show I64 (upf M.rg t y s)
  by_cases q:s=t
  ·rw [q,upf_at]; exact hz
  ·rw [upf_ne _ _ q]; exact h.rn.fit.rg s hs
theorem hL_app {l:List Int} {y:Int}:∀ j,j < (l ++ [y]).length->catI l.length (hL l) (fun _=>y) j=hL (l ++ [y]) j:=by
 intro j hj
 unfold catI hL
 rw [List.length_append] at hj
 by_cases q:j < l.length
 ·rw [if_pos q,List.getD_eq_getElem?_getD,List.getD_eq_getElem?_getD,List.getElem?_append_left q]
 ·rw [if_neg q,List.getD_eq_getElem?_getD,List.getElem?_append_right (by omega),show j - l.length=0 by simp at hj; omega]
  rfl
theorem St.took {y:Int} {tv v':Value} {W':World} (h:St p A U ow0 V ow M W) (ht:t < p.n) (hy:I64 y) (hl:(M.tk t).length < 1000000) (h1:ow (A.hn t)=oH t) (h2:W.heap[A.hn t]?=some (.cells (nC (A.ops t) (M.pl t) (M.rg t) tv) 89)) (h3:W.ownsRow U.heap.size 3 1 tv (M.tk t).length (intsL (M.tk t).length (hL (M.tk t)))) (h4:∀ b,tv.ownBlock=some b->ow b=oH t)
  (q1:W'.ownsRow U.heap.size 3 1 v' ((M.tk t).length+1) (intsL ((M.tk t).length+1) (catI (M.tk t).length (hL (M.tk t)) (fun _=>y))))
  (q2:(∃ b c,tv=.slice (some ⟨b,0,none⟩) (M.tk t).length c/\v'=.slice (some ⟨b,0,none⟩) ((M.tk t).length+1) c/\W.grownBy W' (some b))\/(Below W.heap.size W W'/\∀ k,v'.ownBlock=some k->W.heap.size<=k))
  (e:X=W'.setCell ⟨A.hn t,3,none⟩ v'):∃ ow',St p A U ow0 V ow' { M with tk:=upf M.tk t (M.tk t ++ [y]) } X:=by
 have h5:=(h.rn.hand ht)
 obtain ⟨_,_,_,_,_,h5⟩:=h5
 have hT:∀ b,tv.ownBlock=some b->b ≠ A.hn t:=fun b hb q=>by
  rcases h3.2 with ⟨w,_⟩ | ⟨g,cap,cur,rfl,_,hg,_⟩
  ·rw [w] at hb; cases hb
  ·cases hb
   subst q
   rw [h2] at hg
   injection hg with hg
   injection hg with _ hg _
   exact absurd hg (by decide)
 have hlt:A.hn t < W.heap.size:=(Array.getElem?_eq_some_iff.1 h2).1
 have key:∃ ow':Nat->Nat,(∀ b,b < W.heap.size->ow' b=ow b)/\(∀ b,W.heap.size<=b->ow' b ≠ 0->ow' b=oH t/\b < W'.heap.size)/\(∀ b,v'.ownBlock=some b->ow' b=oH t/\b ≠ A.hn t)/\Saved (fun b=>ow b=oH t) W W'/\W'.heap[A.hn t]?=W.heap[A.hn t]?:=by
  rcases q2 with ⟨b,c,e1,e2,g⟩ | ⟨g,hk⟩
  ·have hb:=h4 b (by rw [e1]; rfl)
   have hb2:=hT b (by rw [e1]; rfl)
   refine ⟨ow,fun _ _=>rfl,fun b hb q=>absurd (h.rn.no hb) q,fun k hk=>?_,(Saved.refl _ _).grown g (fun k hk=>by cases hk; exact Or.inr hb),g.block _ hlt (fun w=>by cases w; exact hb2 rfl)⟩
   rw [e2] at hk
   cases hk
   exact ⟨hb,hb2⟩
  ·refine ⟨fun b=>if v'.ownBlock=some b then oH t else ow b,fun b hb=>if_neg (fun w=>by have:=hk b w; omega),fun b hb q=>?_,fun b hb=>⟨if_pos hb,fun w=>by have:=hk b hb; omega⟩,(Saved.refl _ _).below g (Nat.le_refl _),g.block _ hlt⟩
   by_cases w:v'.ownBlock=some b
   ·exact ⟨if_pos w,(q1.lt b w).2⟩
   ·have q:(if v'.ownBlock=some b then oH t else ow b) ≠ 0:=q
    rw [if_neg w] at q
    exact absurd (h.rn.no hb) q
 obtain ⟨ow',k1,k2,k3,k4,k5⟩:=key
 have h2':W'.heap[A.hn t]?=some (.cells (nC (A.ops t) (M.pl t) (M.rg t) tv) 89):=by rw [k5]; exact h2
 refine ⟨ow',?_⟩
 subst e
 refine h.upd (c0:=oH t) (k4.cell _ (Or.inr h1)) oH_ne.1 k1 (fun b hb q=>⟨(k2 b hb q).1,Nat.lt_of_lt_of_le (k2 b hb q).2 sz_cell⟩) (MEq.hand (fun s hs=>⟨rfl,rfl,(upf_ne _ _ hs).symm⟩) rfl rfl rfl rfl rfl rfl) (Pc.hand_of fun _=>?_) ?_
 ·show HandP _ _ _ _ _ (M.pl t) (M.rg t) (upf M.tk t (M.tk t ++ [y]) t)
  rw [upf_at]
  refine ⟨v',(k1 _ hlt).trans h1,heap4 _ h2',?_,fun b hb=>(k3 b hb).1,fun x hx=>?_⟩
  ·rw [List.length_append]
   have e1:intsL ((M.tk t).length+[y].length) (hL (M.tk t ++ [y]))=intsL ((M.tk t).length+1) (catI (M.tk t).length (hL (M.tk t)) (fun _=>y)):=(intsL_congr fun j hj=>hL_app j (by rw [List.length_append]; exact hj)).symm
   rw [e1]
   exact own_frame (P:=fun b=>v'.ownBlock=some b) q1 (fun _ q=>q) (fun b hb=>heap4o _ h2' (k3 b hb).2)
  ·rcases List.mem_append.1 hx with q | q
   ·exact h5 x q
   ·rw [List.mem_singleton.1 q]; exact hy
 ·refine { h.rn.fit with tk:=fun s hs=>?_ }
  show (upf M.tk t (M.tk t ++ [y]) s).length<=1000000
  by_cases q:s=t
  ·rw [q,upf_at,List.length_append]; simp; omega
  ·rw [upf_ne _ _ q]; exact h.rn.fit.tk s hs
theorem MEq.run (e1:M.hd=N.hd) (e2:M.cl=N.cl) (e3:M.gv=N.gv) (e4:M.tv=N.tv) (e5:M.pl=N.pl) (e6:M.rg=N.rg) (e7:M.tk=N.tk):∀ c,c ≠ 1->MEq c M N:=fun c hc=>
 ⟨fun z=>absurd z hc,fun _=>e3,fun _=>e4,fun s _=>⟨by rw [e5],by rw [e6],by rw [e7]⟩,fun i _=>⟨by rw [e1],by rw [e2]⟩⟩
theorem St.setMs (h:St p A U ow0 V ow M W) (hz:z<=1000000) (e:X=W.setCell ⟨A.rb,4,none⟩ (.int .i64 ((z:Nat):Int))):St p A U ow0 V ow { M with ms:=z } X:=by
 obtain ⟨h1,h2⟩:=h.rn.run
 subst e
 exact h.upd (c0:=1) (sv_cell h1) (by omega) (fun _ _=>rfl) (new_same h.rn _ _) (MEq.run rfl rfl rfl rfl rfl rfl rfl) (Pc.run_of ⟨h1,heap4 _ h2⟩) { h.rn.fit with ms:=hz }
theorem St.setLt (h:St p A U ow0 V ow M W) (hz:z<=1000000) (e:X=W.setCell ⟨A.rb,5,none⟩ (.int .i64 ((z:Nat):Int))):St p A U ow0 V ow { M with lt:=z } X:=by
 obtain ⟨h1,h2⟩:=h.rn.run
 subst e
 exact h.upd (c0:=1) (sv_cell h1) (by omega) (fun _ _=>rfl) (new_same h.rn _ _) (MEq.run rfl rfl rfl rfl rfl rfl rfl) (Pc.run_of ⟨h1,heap4 _ h2⟩) { h.rn.fit with lt:=hz }
theorem MEq.g_ (e1:M.hd=N.hd) (e2:M.cl=N.cl) (e4:M.tv=N.tv) (e5:M.pl=N.pl) (e6:M.rg=N.rg) (e7:M.tk=N.tk) (e8:M.ms=N.ms) (e9:M.lt=N.lt):∀ c,c ≠ 4->MEq c M N:=fun c hc=>
 ⟨fun _=>⟨e8,e9⟩,fun z=>absurd z hc,fun _=>e4,fun s _=>⟨by rw [e5],by rw [e6],by rw [e7]⟩,fun i _=>⟨by rw [e1],by rw [e2]⟩⟩
theorem MEq.t_ (e1:M.hd=N.hd) (e2:M.cl=N.cl) (e4:M.gv=N.gv) (e5:M.pl=N.pl) (e6:M.rg=N.rg) (e7:M.tk=N.tk) (e8:M.ms=N.ms) (e9:M.lt=N.lt):∀ c,c ≠ 5->MEq c M N:=fun c hc=>
 ⟨fun _=>⟨e8,e9⟩,fun _=>e4,fun z=>absurd z hc,fun s _=>⟨by rw [e5],by rw [e6],by rw [e7]⟩,fun i _=>⟨by rw [e1],by rw [e2]⟩⟩
theorem pv_upf {f:Nat->Option Nat} {s:Nat}:upf (fun i=>pv A (f i)) i (pn (A.hn s))=fun j=>pv A (upf f i (some s) j):=by
 funext j
 by_cases q:j=i
 ·rw [q,upf_at,upf_at]; rfl
 ·rw [upf_ne _ _ q,upf_ne _ _ q]
theorem St.setG {b cap s:Nat} (h:St p A U ow0 V ow M W) (hi:i < p.d) (eS:A.gS=.slice (some ⟨b,0,none⟩) p.d cap) (e:X=W.setCell ⟨b,i,none⟩ (pn (A.hn s))):St p A U ow0 V ow { M with gv:=upf M.gv i (some s) } X:=by
 have h1:=h.rn.gR.set (u:=pn (A.hn s)) eS hi
 subst e
 refine h.upd (c0:=4) (sv_cell h1.2) (by omega) (fun _ _=>rfl) (new_same h.rn _ _) (MEq.g_ rfl rfl rfl rfl rfl rfl rfl rfl) (Pc.g_of ?_) { h.rn.fit with }
 have h2:=h1.1
 rw [pv_upf] at h2
 exact h2
theorem St.setT {b cap s:Nat} (h:St p A U ow0 V ow M W) (hi:i < p.d) (eS:A.tS=.slice (some ⟨b,0,none⟩) p.d cap) (e:X=W.setCell ⟨b,i,none⟩ (pn (A.hn s))):St p A U ow0 V ow { M with tv:=upf M.tv i (some s) } X:=by
 have h1:=h.rn.tR.set (u:=pn (A.hn s)) eS hi
 subst e
 refine h.upd (c0:=5) (sv_cell h1.2) (by omega) (fun _ _=>rfl) (new_same h.rn _ _) (MEq.t_ rfl rfl rfl rfl rfl rfl rfl rfl) (Pc.t_of ?_) { h.rn.fit with }
 have h2:=h1.1
 rw [pv_upf] at h2
 exact h2
theorem MEq.duct (h:∀ s,s ≠ i->M.hd s=N.hd s/\M.cl s=N.cl s) (e3:M.gv=N.gv) (e4:M.tv=N.tv) (e5:M.pl=N.pl) (e6:M.rg=N.rg) (e7:M.tk=N.tk) (e8:M.ms=N.ms) (e9:M.lt=N.lt):∀ c,c ≠ oD i->MEq c M N:=fun c hc=>
 ⟨fun _=>⟨e8,e9⟩,fun _=>e3,fun _=>e4,fun s _=>⟨by rw [e5],by rw [e6],by rw [e7]⟩,fun s z=>h s (fun w=>hc (by rw [z,w]))⟩
theorem drI_mono {F G:Nat->Prop} {v:Value} {x:Nat->Value} {n k:Nat} {c:Bool} (h:Duc.DRI W F v x n k c) (hG:∀ b,F b->G b) (hl:∀ b,G b->b < W.heap.size):Duc.DRI W G v x n k c:=by
 obtain ⟨h1,h2,h3,h4⟩:=h
 refine ⟨h1,h2,hl,?_⟩
 rcases h4 with h4 | ⟨g,r,f,m,q1,q2,q3,q4,q5⟩
 ·exact Or.inl h4
 ·refine Or.inr ⟨g,r,f,m,q1,hG _ q2,q3,q4,?_⟩
  rcases q5 with q5 | ⟨b,y,w1,w2⟩
  ·exact Or.inl q5
  ·exact Or.inr ⟨b,y,hG _ w1,w2⟩
theorem St.ductTo {F':Nat->Prop} {x:Nat->Value} {n:Nat} {cl:Bool} {hd:List Int} (h:St p A U ow0 V ow M W) (R:Duc.DRI X F' (A.dv i) x n (p.cap i).toNat cl) (sv:Saved (fun b=>ow b=oD i) W X) (sub:∀ q,F' q->ow q=oD i\/W.heap.size<=q) (en:n=hd.length) (ex:∀ j,j < n->x j=.int .i64 (hL hd j)) (hf:∀ y ∈ hd,I64 y) :
  ∃ ow',St p A U ow0 V ow' { M with hd:=upf M.hd i hd,cl:=upf M.cl i cl } X:=by
 classical
 subst en
 have hF:∀ b,F' b->b < X.heap.size:=R.2.2.1
 refine ⟨fun b=>if b < W.heap.size then ow b else if F' b then oD i else 0,h.upd (c0:=oD i) sv oD_ne.1 (fun b hb=>if_pos hb) (fun b hb q=>?_) (MEq.duct (fun s hs=>⟨(upf_ne _ _ hs).symm,(upf_ne _ _ hs).symm⟩) rfl rfl rfl rfl rfl rfl rfl) (Pc.duct_of fun _=>?_) { h.rn.fit with }⟩
 ·have q:(if b < W.heap.size then ow b else if F' b then oD i else 0) ≠ 0:=q
  show (if b < W.heap.size then ow b else if F' b then oD i else 0)=_/\_
  rw [if_neg (by omega)] at q ⊢
  by_cases w:F' b
  ·rw [if_pos w]; exact ⟨rfl,hF b w⟩
  ·rw [if_neg w] at q; exact absurd rfl q
 ·show DuctP X _ _ (upf M.hd i hd i) _ (upf M.cl i cl i)
  rw [upf_at,upf_at]
  refine ⟨(drI_mono R (fun b hb=>?_) (fun b hb=>?_)).cg ex,hf⟩
  ·show (if b < W.heap.size then ow b else if F' b then oD i else 0)=oD i
   by_cases w:b < W.heap.size
   ·rw [if_pos w]
    rcases sub b hb with z | z
    ·exact z
    ·omega
   ·rw [if_neg w,if_pos hb]
  ·have hb:(if b < W.heap.size then ow b else if F' b then oD i else 0)=oD i:=hb
   by_cases w:b < W.heap.size
   ·exact Nat.lt_of_lt_of_le w sv.size
   ·rw [if_neg w] at hb
    by_cases w2:F' b
    ·exact hF b w2
    ·rw [if_neg w2] at hb; exact absurd hb.symm oD_ne.1
end
end Go.Proofs.Ytjjegmflllpknaa.Loo

namespace Go.Proofs.Ytjjegmflllpknaa.Loo
open Go.RowKit Gf8 Aes By8 Cel Cf Win Drw Prm
/- Operations over the landed loom's types. Written by tools/mkN8c.py. -/
section
variable {o:Oper} {a:Act} {w:World}
theorem execRf0 {x:Operand} {b:Nat} (ho:o.op=.fieldAddr 70 x 0) (hx:a.eval x=.pointer (some ⟨b,0,none⟩)):(execOp a.eval o).run Try.prog w=.ok (.value (.pointer (some ⟨b,0,none⟩))) w:=by
 unfold execOp
 simp only [ho,hx]
 simp [go_sem]
theorem execRf1 {x:Operand} {b:Nat} (ho:o.op=.fieldAddr 70 x 1) (hx:a.eval x=.pointer (some ⟨b,0,none⟩)):(execOp a.eval o).run Try.prog w=.ok (.value (.pointer (some ⟨b,1,none⟩))) w:=by
 unfold execOp
 simp only [ho,hx]
 simp [go_sem]
theorem execRf2 {x:Operand} {b:Nat} (ho:o.op=.fieldAddr 70 x 2) (hx:a.eval x=.pointer (some ⟨b,0,none⟩)):(execOp a.eval o).run Try.prog w=.ok (.value (.pointer (some ⟨b,2,none⟩))) w:=by
 unfold execOp
 simp only [ho,hx]
 simp [go_sem]
theorem execRf3 {x:Operand} {b:Nat} (ho:o.op=.fieldAddr 70 x 3) (hx:a.eval x=.pointer (some ⟨b,0,none⟩)):(execOp a.eval o).run Try.prog w=.ok (.value (.pointer (some ⟨b,3,none⟩))) w:=by
 unfold execOp
 simp only [ho,hx]
 simp [go_sem]
theorem execRf4 {x:Operand} {b:Nat} (ho:o.op=.fieldAddr 70 x 4) (hx:a.eval x=.pointer (some ⟨b,0,none⟩)):(execOp a.eval o).run Try.prog w=.ok (.value (.pointer (some ⟨b,4,none⟩))) w:=by
 unfold execOp
 simp only [ho,hx]
 simp [go_sem]
theorem execRf5 {x:Operand} {b:Nat} (ho:o.op=.fieldAddr 70 x 5) (hx:a.eval x=.pointer (some ⟨b,0,none⟩)):(execOp a.eval o).run Try.prog w=.ok (.value (.pointer (some ⟨b,5,none⟩))) w:=by
 unfold execOp
 simp only [ho,hx]
 simp [go_sem]
theorem execNf0 {x:Operand} {b:Nat} (ho:o.op=.fieldAddr 89 x 0) (hx:a.eval x=.pointer (some ⟨b,0,none⟩)):(execOp a.eval o).run Try.prog w=.ok (.value (.pointer (some ⟨b,0,none⟩))) w:=by
 unfold execOp
 simp only [ho,hx]
 simp [go_sem]
theorem execNf1 {x:Operand} {b:Nat} (ho:o.op=.fieldAddr 89 x 1) (hx:a.eval x=.pointer (some ⟨b,0,none⟩)):(execOp a.eval o).run Try.prog w=.ok (.value (.pointer (some ⟨b,1,none⟩))) w:=by
 unfold execOp
 simp only [ho,hx]
 simp [go_sem]
theorem execNf2 {x:Operand} {b:Nat} (ho:o.op=.fieldAddr 89 x 2) (hx:a.eval x=.pointer (some ⟨b,0,none⟩)):(execOp a.eval o).run Try.prog w=.ok (.value (.pointer (some ⟨b,2,none⟩))) w:=by
 unfold execOp
 simp only [ho,hx]
 simp [go_sem]
theorem execNf3 {x:Operand} {b:Nat} (ho:o.op=.fieldAddr 89 x 3) (hx:a.eval x=.pointer (some ⟨b,0,none⟩)):(execOp a.eval o).run Try.prog w=.ok (.value (.pointer (some ⟨b,3,none⟩))) w:=by
 unfold execOp
 simp only [ho,hx]
 simp [go_sem]
theorem execSf0 {x:Operand} {b:Nat} {off:Nat} (ho:o.op=.fieldAddr 73 x 0) (hx:a.eval x=.pointer (some ⟨b,off,none⟩)):(execOp a.eval o).run Try.prog w=.ok (.value (.pointer (some ⟨b,off,none⟩))) w:=by
 unfold execOp
 simp only [ho,hx]
 simp [go_sem]
theorem execSf1 {x:Operand} {b:Nat} {off:Nat} (ho:o.op=.fieldAddr 73 x 1) (hx:a.eval x=.pointer (some ⟨b,off,none⟩)):(execOp a.eval o).run Try.prog w=.ok (.value (.pointer (some ⟨b,off+1,none⟩))) w:=by
 unfold execOp
 simp only [ho,hx]
 simp [go_sem]
theorem execSf2 {x:Operand} {b:Nat} {off:Nat} (ho:o.op=.fieldAddr 73 x 2) (hx:a.eval x=.pointer (some ⟨b,off,none⟩)):(execOp a.eval o).run Try.prog w=.ok (.value (.pointer (some ⟨b,off+2,none⟩))) w:=by
 unfold execOp
 simp only [ho,hx]
 simp [go_sem]
theorem execTf0 {x:Operand} {b:Nat} {off:Nat} (ho:o.op=.fieldAddr 48 x 0) (hx:a.eval x=.pointer (some ⟨b,off,none⟩)):(execOp a.eval o).run Try.prog w=.ok (.value (.pointer (some ⟨b,off,none⟩))) w:=by
 unfold execOp
 simp only [ho,hx]
 simp [go_sem]
theorem execTf1 {x:Operand} {b:Nat} {off:Nat} (ho:o.op=.fieldAddr 48 x 1) (hx:a.eval x=.pointer (some ⟨b,off,none⟩)):(execOp a.eval o).run Try.prog w=.ok (.value (.pointer (some ⟨b,off+1,none⟩))) w:=by
 unfold execOp
 simp only [ho,hx]
 simp [go_sem]
theorem execLdP {t:TypeId} {x:Operand} {b k:Nat} {v:Value} (ho:o.op=.load t x) (ht:t=67\/t=68\/t=71\/t=85\/t=64\/t=26\/t=1) (hx:a.eval x=.pointer (some ⟨b,k,none⟩)) (hc:w.cell? ⟨b,k,none⟩=some v):(execOp a.eval o).run Try.prog w=.ok (.value v) w:=by
 unfold execOp
 rcases ht with rfl | rfl | rfl | rfl | rfl | rfl | rfl <;> (simp only [ho,hx]; simp [go_sem,hc])
def OneV (u:Value):Prop:=(∃ k z,u=.int k z)\/(∃ b,u=.bool b)\/(∃ q,u=.pointer q)\/∃ a n c,u=.slice a n c
theorem execSt9 {t:TypeId} {x y:Operand} {b k:Nat} {u old:Value} (ho:o.op=.store t x y) (ht:t=3\/t=4\/t=22\/t=27\/t=67\/t=68\/t=71) (hx:a.eval x=.pointer (some ⟨b,k,none⟩)) (hy:a.eval y=u) (hu:OneV u) (hc:w.cell? ⟨b,k,none⟩=some old) (hf:w.frozen? ⟨b,k,none⟩=false):(execOp a.eval o).run Try.prog w=.ok .skip (w.setCell ⟨b,k,none⟩ u):=by
 unfold execOp
 rcases hu with ⟨_,_,rfl⟩ | ⟨_,rfl⟩ | ⟨_,rfl⟩ | ⟨_,_,_,rfl⟩ <;> (rcases ht with rfl | rfl | rfl | rfl | rfl | rfl | rfl <;> (simp only [ho,hx,hy]; simp [go_sem,hc,hf]))
theorem execLnD {x:Operand} {v:Value} {len:Nat} (ho:o.op=.call { callee:=.builtin .len,args:=#[x],argTypes:=#[67] }) (hx:a.eval x=v) (hv:∃ ao c,v=.slice ao len c):(execOp a.eval o).run Try.prog w=.ok (.value (.int .i64 ((len:Nat):Int))) w:=by
 obtain ⟨ao,c,rfl⟩:=hv
 unfold execOp
 simp only [ho,resolve,invoke,builtin,Sem.run_bind,Sem.run_pure,Result.andThen_ok,List.map_toArray,List.map_cons,List.map_nil,hx]
 simp [go_sem]
theorem execIxD {x i:Operand} {g n cap k:Nat} (ho:o.op=.indexAddr 67 x i) (hx:a.eval x=.slice (some ⟨g,0,none⟩) n cap) (hi:a.eval i=.int .i64 ((k:Nat):Int)) (hk:k < n):(execOp a.eval o).run Try.prog w=.ok (.value (.pointer (some ⟨g,k,none⟩))) w:=by
 have h1:(k:Int) < n:=by omega
 unfold execOp
 simp only [ho,hx,hi]
 simp [go_sem,h1]
theorem execLnH {x:Operand} {v:Value} {len:Nat} (ho:o.op=.call { callee:=.builtin .len,args:=#[x],argTypes:=#[68] }) (hx:a.eval x=v) (hv:∃ ao c,v=.slice ao len c):(execOp a.eval o).run Try.prog w=.ok (.value (.int .i64 ((len:Nat):Int))) w:=by
 obtain ⟨ao,c,rfl⟩:=hv
 unfold execOp
 simp only [ho,resolve,invoke,builtin,Sem.run_bind,Sem.run_pure,Result.andThen_ok,List.map_toArray,List.map_cons,List.map_nil,hx]
 simp [go_sem]
theorem execIxH {x i:Operand} {g n cap k:Nat} (ho:o.op=.indexAddr 68 x i) (hx:a.eval x=.slice (some ⟨g,0,none⟩) n cap) (hi:a.eval i=.int .i64 ((k:Nat):Int)) (hk:k < n):(execOp a.eval o).run Try.prog w=.ok (.value (.pointer (some ⟨g,k,none⟩))) w:=by
 have h1:(k:Int) < n:=by omega
 unfold execOp
 simp only [ho,hx,hi]
 simp [go_sem,h1]
theorem execLnK {x:Operand} {v:Value} {len:Nat} (ho:o.op=.call { callee:=.builtin .len,args:=#[x],argTypes:=#[66] }) (hx:a.eval x=v) (hv:∃ ao c,v=.slice ao len c):(execOp a.eval o).run Try.prog w=.ok (.value (.int .i64 ((len:Nat):Int))) w:=by
 obtain ⟨ao,c,rfl⟩:=hv
 unfold execOp
 simp only [ho,resolve,invoke,builtin,Sem.run_bind,Sem.run_pure,Result.andThen_ok,List.map_toArray,List.map_cons,List.map_nil,hx]
 simp [go_sem]
theorem execIxK {x i:Operand} {g n cap k:Nat} (ho:o.op=.indexAddr 66 x i) (hx:a.eval x=.slice (some ⟨g,0,none⟩) n cap) (hi:a.eval i=.int .i64 ((k:Nat):Int)) (hk:k < n):(execOp a.eval o).run Try.prog w=.ok (.value (.pointer (some ⟨g,0+k * 3,none⟩))) w:=by
 have h1:(k:Int) < n:=by omega
 unfold execOp
 simp only [ho,hx,hi]
 simp [go_sem,h1]
theorem execLnQ {x:Operand} {v:Value} {len:Nat} (ho:o.op=.call { callee:=.builtin .len,args:=#[x],argTypes:=#[42] }) (hx:a.eval x=v) (hv:∃ ao c,v=.slice ao len c):(execOp a.eval o).run Try.prog w=.ok (.value (.int .i64 ((len:Nat):Int))) w:=by
 obtain ⟨ao,c,rfl⟩:=hv
 unfold execOp
 simp only [ho,resolve,invoke,builtin,Sem.run_bind,Sem.run_pure,Result.andThen_ok,List.map_toArray,List.map_cons,List.map_nil,hx]
 simp [go_sem]
theorem execIxQ {x i:Operand} {g off n cap k:Nat} (ho:o.op=.indexAddr 42 x i) (hx:a.eval x=.slice (some ⟨g,off,none⟩) n cap) (hi:a.eval i=.int .i64 ((k:Nat):Int)) (hk:k < n):(execOp a.eval o).run Try.prog w=.ok (.value (.pointer (some ⟨g,off+k * 2,none⟩))) w:=by
 have h1:(k:Int) < n:=by omega
 unfold execOp
 simp only [ho,hx,hi]
 simp [go_sem,h1]
theorem execHneq {x y:Operand} {q:Option Addr} (ho:o.op=.binOp .neq 71 x y 71) (hx:a.eval x=.pointer q) (hy:a.eval y=.pointer none):(execOp a.eval o).run Try.prog w=.ok (.value (.bool q.isSome)) w:=by
 unfold execOp
 simp only [ho,hx,hy]
 cases q <;> simp [go_sem]
theorem execAlO (ho:o.op=.alloc 59):(execOp a.eval o).run Try.prog w=.ok (.value (.pointer (some ⟨w.heap.size,0,none⟩))) (w.alloc (.cells (oC 0 0 0) 59)):=by
 unfold execOp
 simp only [ho]
 simp [go_sem,oC]
theorem execStO {x y:Operand} {g:Nat} {p q r p0 q0 r0:Int} (ho:o.op=.store 59 x y) (hx:a.eval x=.pointer (some ⟨g,0,none⟩)) (hy:a.eval y=.agg (oC p q r)) (hg:w.heap[g]?=some (.cells (oC p0 q0 r0) 59)):(execOp a.eval o).run Try.prog w=.ok .skip (w.setRow g (oC p q r)):=by
 have h:=execStMid (P:=Try.prog) ho hx hy hg (Nat.le_refl _) (by show _=some 3; kernel_rfl) (by simp [oC,Value.oneCell'])
 exact h
theorem execLdO0 {x:Operand} {g:Nat} {p q r:Int} (ho:o.op=.load 59 x) (hx:a.eval x=.pointer (some ⟨g,0,none⟩)) (hg:w.heap[g]?=some (.cells (oC p q r) 59)):(execOp a.eval o).run Try.prog w=.ok (.value (.agg (oC p q r))) w:=
 execLdO (q:=⟨p,q,r⟩) ho hx (oC_at hg)
theorem execMaxN {x y:Operand} {p q:Nat} (ho:o.op=.call { callee:=.builtin .max,args:=#[x,y],argTypes:=#[3,3] }) (hx:a.eval x=.int .i64 ((p:Nat):Int)) (hy:a.eval y=.int .i64 ((q:Nat):Int)):(execOp a.eval o).run Try.prog w=.ok (.value (.int .i64 ((max p q:Nat):Int))) w:=by
 unfold execOp
 simp only [ho,resolve,invoke,builtin,Sem.run_bind,Sem.run_pure,Result.andThen_ok,List.map_toArray,List.map_cons,List.map_nil,hx,hy]
 simp [go_sem]
 omega
theorem execMkFn {g:Nat} {xs ys:Array Operand} (ho:o.op=.makeFunc (.func g) xs ys):(execOp a.eval o).run Try.prog w=.ok (.value (.func (.func g) (xs.map a.eval) (ys.map a.eval))) w:=by
 unfold execOp
 simp only [ho]
 simp [go_sem]
theorem execCallFv {f:FuncId} {fn:Func} {c:Operand} {bd lb:Array Value} (hf:Try.prog.funcs[f]?=some fn) (hname:(fn.name == "runtime.NumGoroutine")=false) (hb:fn.body.isSome=true) (ho:o.op=.call { callee:=.value c,args:=#[],argTypes:=#[] }) (hc:a.eval c=.func (.func f) bd lb):(execOp a.eval o).run Try.prog w=.ok (.enter f (bd ++ lb)) w:=by
 have h1:fn.name ≠ "runtime.NumGoroutine":=by simpa using hname
 obtain ⟨b,hb⟩:=Option.isSome_iff_exists.1 hb
 have h2:∀ args,(callFunc f args).run Try.prog w=.ok (.enter f args) w:=by intro args; simp [callFunc,hf,h1,hb]
 unfold execOp
 simp only [ho,resolve,invoke,Deferred.ofValue,Sem.run_bind,Sem.run_pure,Result.andThen_ok,List.map_toArray,List.map_nil,hc]
 simp [h2]
theorem eqf_n0 (w:World) (d:Nat):(Op.equalIn (d+1) 26 .nilFunc .nilFunc).run Try.prog w=.ok true w:=by
 simp [Op.equalIn,run_underlying Try.underlying26]
theorem eqf_n (w:World):(Op.equal 26 .nilFunc .nilFunc).run Try.prog w=.ok true w:=eqf_n0 w 9999
theorem eqf_f0 (w:World) (f:Fn) (b l:Array Value) (d:Nat):(Op.equalIn (d+1) 26 (.func f b l) .nilFunc).run Try.prog w=.ok false w:=by
 simp [Op.equalIn,run_underlying Try.underlying26]
theorem eqf_f (w:World) (f:Fn) (b l:Array Value):(Op.equal 26 (.func f b l) .nilFunc).run Try.prog w=.ok false w:=eqf_f0 w f b l 9999
theorem execFn_n {x y:Operand} (ho:o.op=.binOp .eql 26 x y 26) (hx:a.eval x=.nilFunc) (hy:a.eval y=.nilFunc):(execOp a.eval o).run Try.prog w=.ok (.value (.bool true)) w:=by
 unfold execOp
 simp only [ho,hx,hy]
 simp only [binOp]
 simp [go_sem,eqf_n]
theorem execFn_f {x y:Operand} {f:Fn} {b l:Array Value} (ho:o.op=.binOp .eql 26 x y 26) (hx:a.eval x=.func f b l) (hy:a.eval y=.nilFunc):(execOp a.eval o).run Try.prog w=.ok (.value (.bool false)) w:=by
 unfold execOp
 simp only [ho,hx,hy]
 simp only [binOp]
 simp [go_sem,eqf_f]
end
end Go.Proofs.Ytjjegmflllpknaa.Loo

namespace Go.Proofs.Ytjjegmflllpknaa.Loo
open Go.RowKit Gf8 Aes By8 Cel Cf Win Drw Prm
/- The ducts of a run; what its functions answer, in the run's own words. -/
section
variable {p:Pl} {A:Ad} {U W X V:World} {ow ow' ow0:Nat->Nat} {M N:Mm} {c c0 t i z:Nat}
theorem RN.dlen (h:RN p A U ow M V) (hi:i < p.d):Calls Try.prog 62 #[A.dv i] V fun e w'=>e=.returned (.int .i64 (((M.hd i).length:Nat):Int))/\Below V.heap.size V w':=Duc.implI.len (h.duct hi).1
theorem RN.dcap (h:RN p A U ow M V) (hi:i < p.d):Calls Try.prog 63 #[A.dv i] V fun e w'=>e=.returned (.int .i64 (((p.cap i).toNat:Nat):Int))/\Below V.heap.size V w':=Duc.implI.cap (h.duct hi).1
theorem RN.dclosed (h:RN p A U ow M V) (hi:i < p.d):Calls Try.prog 55 #[A.dv i] V fun e w'=>e=.returned (.bool (M.cl i))/\Below V.heap.size V w':=Duc.implI.closed (h.duct hi).1
theorem RN.dcanPut (h:RN p A U ow M V) (hi:i < p.d):Calls Try.prog 56 #[A.dv i] V fun e w'=>e=.returned (.bool (decide (M.cl i=false/\(M.hd i).length < (p.cap i).toNat)))/\Below V.heap.size V w':=Duc.implI.canPut (h.duct hi).1
theorem RN.dcanTake (h:RN p A U ow M V) (hi:i < p.d):Calls Try.prog 64 #[A.dv i] V fun e w'=>e=.returned (.bool (decide (0 < (M.hd i).length)))/\Below V.heap.size V w':=Duc.implI.canTake (h.duct hi).1
theorem RN.dput {y:Int} (h:RN p A U ow M V) (hi:i < p.d) (hy:I64 y):Calls Try.prog 70 #[A.dv i,.int .i64 y] V fun e w'=>e=.returned (.tuple #[.bool (decide (M.cl i=false/\(M.hd i).length < (p.cap i).toNat)),.int .i64 (((if M.cl i then 180 else 0:Nat):Nat):Int)])/\To p A U ow V { M with hd:=upf M.hd i (if M.cl i=false/\(M.hd i).length < (p.cap i).toNat then M.hd i ++ [y] else M.hd i) } w':=by
 have hd:=h.duct hi
 refine Calls.mono (Duc.implI.put hd.1 ⟨y,rfl,hy⟩) fun e w' ⟨F',he,hR,hs,hf⟩=>⟨he,?_⟩
 have key:=fun hd2 en ex hf2=>h.st.ductTo (i:=i) (hd:=hd2) hR hs hf en ex hf2
 rw [upf_self] at key
 by_cases q:M.cl i=false/\(M.hd i).length < (p.cap i).toNat
 ·rw [if_pos q] at key ⊢
  refine key (M.hd i ++ [y]) (by simp) (fun j hj=>?_) (fun x hx=>?_)
  ·by_cases w:j=(M.hd i).length
   ·rw [w,Win.up_at]
    unfold hL
    rw [List.getD_eq_getElem?_getD,List.getElem?_append_right (Nat.le_refl _),Nat.sub_self]
    rfl
   ·rw [Win.up_ne _ _ w]
    unfold hL
    rw [List.getD_eq_getElem?_getD,List.getD_eq_getElem?_getD,List.getElem?_append_left (by omega)]
  ·rcases List.mem_append.1 hx with w | w
   ·exact hd.2 x w
   ·rw [List.mem_singleton.1 w]; exact hy
 ·rw [if_neg q] at key ⊢
  exact key (M.hd i) rfl (fun j hj=>Win.up_ne _ _ (Nat.ne_of_lt hj)) hd.2
theorem RN.dtake (h:RN p A U ow M V) (hi:i < p.d):Calls Try.prog 72 #[A.dv i] V fun e w'=>e=.returned (.tuple #[if 0 < (M.hd i).length then .int .i64 (hL (M.hd i) 0) else .int .i64 0,.bool (decide (0 < (M.hd i).length)),.int .i64 (((if (M.hd i).length=0/\M.cl i=true then 180 else 0:Nat):Nat):Int)])/\To p A U ow V { M with hd:=upf M.hd i (M.hd i).tail } w':=by
 have hd:=h.duct hi
 refine Calls.mono (Duc.implI.take hd.1) fun e w' ⟨F',he,hR,hs,hf⟩=>⟨he,?_⟩
 have key:=fun hd2 en ex hf2=>h.st.ductTo (i:=i) (hd:=hd2) hR hs hf en ex hf2
 rw [upf_self] at key
 refine key (M.hd i).tail (by simp) (fun j hj=>?_) (fun x hx=>hd.2 x (List.mem_of_mem_tail hx))
 unfold hL
 cases e:M.hd i with
 | nil=>rfl
 | cons x l=>rfl
theorem RN.dclose (h:RN p A U ow M V) (hi:i < p.d):Calls Try.prog 68 #[A.dv i] V fun e w'=>e=.returned (.int .i64 (((if M.cl i then 180 else 0:Nat):Nat):Int))/\To p A U ow V { M with cl:=upf M.cl i true } w':=by
 have hd:=h.duct hi
 refine Calls.mono (Duc.implI.close hd.1) fun e w' ⟨F',he,hR,hs,hf⟩=>⟨he,?_⟩
 have key:=h.st.ductTo (i:=i) (hd:=M.hd i) hR hs hf rfl (fun _ _=>rfl) hd.2
 rw [upf_self] at key
 exact key
theorem RN.dO (h:RN p A U ow M W) (hi:i < p.d):∃ b c,A.dS=.slice (some ⟨b,0,none⟩) p.d c:=by
 obtain ⟨b,c,_,e,_⟩:=h.dR.open hi
 exact ⟨b,c,e⟩
theorem RN.hO (h:RN p A U ow M W) (hi:i < p.n):∃ b c,A.hS=.slice (some ⟨b,0,none⟩) p.n c:=by
 obtain ⟨b,c,_,e,_⟩:=h.hR.open hi
 exact ⟨b,c,e⟩
theorem RN.gO (h:RN p A U ow M W) (hi:i < p.d):∃ b c,A.gS=.slice (some ⟨b,0,none⟩) p.d c:=by
 obtain ⟨b,c,_,e,_⟩:=h.gR.open hi
 exact ⟨b,c,e⟩
theorem RN.tO (h:RN p A U ow M W) (hi:i < p.d):∃ b c,A.tS=.slice (some ⟨b,0,none⟩) p.d c:=by
 obtain ⟨b,c,_,e,_⟩:=h.tR.open hi
 exact ⟨b,c,e⟩
theorem RN.capN (h:RN p A U ow M W) (hi:i < p.d):(p.cap i).toNat=0 ↔ p.cap i=0:=by
 have:=h.ok.cap i hi
 omega
end
def meetM (p:Pl) (M:Mm) (o:Nat->Option Nat) (i:Nat):Bool:=decide (p.cap i=0) && !M.cl i && (o i).isSome
def rdyM (p:Pl) (M:Mm) (i:Nat):Bool:=decide (0 < (M.hd i).length) || meetM p M M.gv i
def sptM (M:Mm) (i:Nat):Bool:=M.cl i && decide ((M.hd i).length=0)
theorem execHne {A:Ad} {oo:Option Nat} {o:Oper} {a:Act} {w:World} {x y:Operand} (ho:o.op=.binOp .neq 71 x y 71) (hx:a.eval x=pv A oo) (hy:a.eval y=.pointer none):(execOp a.eval o).run Try.prog w=.ok (.value (.bool oo.isSome)) w:=by
 cases oo with
 | none=>exact execHneq (q:=none) ho hx hy
 | some t=>exact execHneq (q:=some _) ho hx hy
end Go.Proofs.Ytjjegmflllpknaa.Loo
