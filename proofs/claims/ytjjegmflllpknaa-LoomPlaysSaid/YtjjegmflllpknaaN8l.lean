import Derived.Test.YtjjegmflllpknaaN8i
import Derived.Test.YtjjegmflllpknaaN8k
import Derived.Test.YtjjegmflllpknaaL9c
namespace Go.Proofs.Ytjjegmflllpknaa.Loo
open Go.RowKit Gf8 Aes By8 Cel Cf Win Drw Prm
/- The landed loom's begin. Written by tools/mkN8l.py. -/
theorem lL_succ9 (f:Nat->Value) (n:Nat):lL f (n+1)=lL f n ++ [f n]:=rfl
def Bp (p:Pl) (G:Ad) (V:World) (nd nn:Nat) (ow:Nat->Nat) (W:World) (c:Nat):Prop:=
 (c=1->ow G.rb=1/\W.heap[G.rb]?=some (.cells (rC G 0 0) 70)) ∧
 (c=2->W.ownsRow V.heap.size 85 1 G.dS nd (lL G.dv nd)/\∀ b,G.dS.ownBlock=some b->ow b=2) ∧
 (c=3->W.ownsRow V.heap.size 71 1 G.hS nn (lL (fun k=>pn (G.hn k)) nn)/\∀ b,G.hS.ownBlock=some b->ow b=3) ∧
 (c=4->RowP W (fun b=>ow b=4) 71 G.gS p.d (fun _=>.pointer none)) ∧
 (c=5->RowP W (fun b=>ow b=5) 71 G.tS p.d (fun _=>.pointer none)) ∧
 (∀ k,c=oH k->k < nn->HandP W (fun b=>ow b=oH k) V.heap.size (G.hn k) (G.ops k) 0 0 []) ∧
 (∀ k,c=oD k->k < nd->DuctP W (fun b=>ow b=oD k) (G.dv k) [] (p.cap k).toNat false)
structure Bg (p:Pl) (G:Ad) (V:World) (nd nn:Nat) (ow:Nat->Nat) (W:World):Prop where
 bp:∀ c,Bp p G V nd nn ow W c
 bel:Below V.heap.size V W
 ge:∀ b,ow b ≠ 0->V.heap.size<=b/\b < W.heap.size
section
variable {p:Pl} {G H:Ad} {V W X:World} {nd nn nd' nn' c:Nat} {ow ow':Nat->Nat}
theorem Bp.frame (h:Bp p G V nd nn ow W c) (e:∀ b,ow b=c->X.heap[b]?=W.heap[b]?) (hs:W.heap.size<=X.heap.size) (eo:∀ b,ow' b=c ↔ ow b=c) (h1:c ≠ 1) (h2:c=2->nd'=nd/\H.dS=G.dS/\∀ k,k < nd->H.dv k=G.dv k) (h3:c=3->nn'=nn/\H.hS=G.hS/\∀ k,k < nn->H.hn k=G.hn k) (h4:H.gS=G.gS) (h5:H.tS=G.tS) (h6:∀ k,c=oH k->k < nn'->k < nn/\H.hn k=G.hn k) (h8:H.ops=G.ops) (h7:∀ k,c=oD k->k < nd'->k < nd/\H.dv k=G.dv k):Bp p H V nd' nn' ow' X c:=by
 have eP:(fun b=>ow' b=c)=(fun b=>ow b=c):=funext fun b=>propext (eo b)
 obtain ⟨_,q2,q3,q4,q5,q6,q7⟩:=h
 refine ⟨fun z=>absurd z h1,fun z=>?_,fun z=>?_,fun z=>?_,fun z=>?_,fun t z ht=>?_,fun i z hi=>?_⟩
 ·obtain ⟨w1,w2⟩:=q2 z
  obtain ⟨e1,e2,e3⟩:=h2 z
  subst z
  rw [e1,e2,lL_congr (y:=G.dv) nd (fun j hj=>e3 j hj)]
  exact ⟨own_frame w1 w2 e,fun b hb=>(eo b).2 (w2 b hb)⟩
 ·obtain ⟨w1,w2⟩:=q3 z
  obtain ⟨e1,e2,e3⟩:=h3 z
  subst z
  rw [e1,e2,lL_congr (y:=fun k=>pn (G.hn k)) nn (fun j hj=>by show pn (H.hn j)=pn (G.hn j); rw [e3 j hj])]
  exact ⟨own_frame w1 w2 e,fun b hb=>(eo b).2 (w2 b hb)⟩
 ·subst z
  rw [eP,h4]
  exact (q4 rfl).frame e (fun _ hb=>hb) (fun _ _=>rfl)
 ·subst z
  rw [eP,h5]
  exact (q5 rfl).frame e (fun _ hb=>hb) (fun _ _=>rfl)
 ·obtain ⟨e1,e2⟩:=h6 t z ht
  subst z
  rw [eP,e2,h8]
  exact (q6 t rfl e1).frame e (fun _ hb=>hb)
 ·obtain ⟨e1,e2⟩:=h7 i z hi
  subst z
  rw [eP,e2]
  exact ⟨(q7 i rfl e1).1.frame e hs,(q7 i rfl e1).2⟩
theorem Bp.zero:Bp p G V nd nn ow W 0:=⟨fun z=>by omega,fun z=>by omega,fun z=>by omega,fun z=>by omega,fun z=>by omega,fun t z=>by unfold oH at z; omega,fun i z=>by unfold oD at z; omega⟩
theorem Bg.no (h:Bg p G V nd nn ow W) {b:Nat} (hb:W.heap.size<=b):ow b=0:=by
 by_cases e:ow b=0
 ·exact e
 ·have:=(h.ge b e).2; omega
theorem Bg.run (h:Bg p G V nd nn ow W):ow G.rb=1/\W.heap[G.rb]?=some (.cells (rC G 0 0) 70):=(h.bp 1).1 rfl
theorem Bg.dR (h:Bg p G V nd nn ow W):W.ownsRow V.heap.size 85 1 G.dS nd (lL G.dv nd)/\∀ b,G.dS.ownBlock=some b->ow b=2:=(h.bp 2).2.1 rfl
theorem Bg.hR (h:Bg p G V nd nn ow W):W.ownsRow V.heap.size 71 1 G.hS nn (lL (fun k=>pn (G.hn k)) nn)/\∀ b,G.hS.ownBlock=some b->ow b=3:=(h.bp 3).2.2.1 rfl
theorem Bg.on (h:Bg p G V nd nn ow W) (hb:Below W.heap.size W X):Bg p G V nd nn ow X:=by
 refine ⟨fun c=>?_,h.bel.trans (hb.mono h.bel.size),fun b q=>⟨(h.ge b q).1,Nat.lt_of_lt_of_le (h.ge b q).2 hb.size⟩⟩
 by_cases z:c=0
 ·rw [z]; exact Bp.zero
 have hk:∀ b,ow b=c->X.heap[b]?=W.heap[b]?:=fun b q=>hb.block b (h.ge b (by omega)).2
 by_cases z1:c=1
 ·subst z1
  obtain ⟨q1,q2⟩:=h.run
  exact ⟨fun _=>⟨q1,by rw [hk _ q1]; exact q2⟩,fun z=>by omega,fun z=>by omega,fun z=>by omega,fun z=>by omega,fun t z=>by unfold oH at z; omega,fun i z=>by unfold oD at z; omega⟩
 exact (h.bp c).frame hk hb.size (fun _=>Iff.rfl) z1 (fun _=>⟨rfl,rfl,fun _ _=>rfl⟩) (fun _=>⟨rfl,rfl,fun _ _=>rfl⟩) rfl rfl (fun _ _ q=>⟨q,rfl⟩) rfl (fun _ _ q=>⟨q,rfl⟩)
theorem Bg.addD {v':Value} {W':World} {F:Nat->Prop} {u:Value} {y:Nat->Value} (R:Duc.DRI W F u y 0 (p.cap nd).toNat false) (hF:∀ q,F q->ow q=0/\V.heap.size<=q) (h:Bg p G V nd nn ow W)
  (q1:W'.ownsRow V.heap.size 85 1 v' (nd+1) (lL G.dv nd ++ [u]))
  (q2:(∃ b c,G.dS=.slice (some ⟨b,0,none⟩) nd c/\v'=.slice (some ⟨b,0,none⟩) (nd+1) c/\W.grownBy W' (some b))\/(Below W.heap.size W W'/\∀ k,v'.ownBlock=some k->W.heap.size<=k)) (e:X=W'.setCell ⟨G.rb,0,none⟩ v') :
  ∃ ow',Bg p { G with dS:=v',dv:=upf G.dv nd u } V (nd+1) nn ow' X/\∀ b,b < W.heap.size->ow b=0->¬ F b->X.heap[b]?=W.heap[b]?/\ow' b=0:=by
 classical
 obtain ⟨r1,r2⟩:=h.run
 obtain ⟨w1,w2⟩:=h.dR
 have lr:=(Array.getElem?_eq_some_iff.1 r2).1
 have hlt:∀ q,F q->q < W.heap.size:=R.2.2.1
 have hF0:∀ q,F q->ow q=0/\V.heap.size<=q:=hF
 have key:Saved (fun b=>ow b=2) W W'/\∀ b,v'.ownBlock=some b->ow b=2\/W.heap.size<=b:=by
  rcases q2 with ⟨b,c,f1,f2,g⟩ | ⟨g,hk⟩
  ·have hb:=w2 b (by rw [f1]; rfl)
   refine ⟨(Saved.refl _ _).grown g (fun k hk=>by cases hk; exact Or.inr hb),fun k hk=>?_⟩
   rw [f2] at hk
   cases hk
   exact Or.inl hb
  ·exact ⟨(Saved.refl _ _).below g (Nat.le_refl _),fun k w=>Or.inr (hk k w)⟩
 obtain ⟨k1,k2⟩:=key
 have r3:W'.heap[G.rb]?=some (.cells (rC G 0 0) 70):=by rw [k1.block _ lr (fun w=>by omega)]; exact r2
 have hX:∀ b,b ≠ G.rb->X.heap[b]?=W'.heap[b]?:=fun b hb=>by rw [e]; exact heap4o _ r3 hb
 have hsz:W'.heap.size<=X.heap.size:=by rw [e]; exact sz_cell
 have hkeep:∀ b,b < W.heap.size->ow b ≠ 1->ow b ≠ 2->X.heap[b]?=W.heap[b]?:=fun b hb h1 h2=>by
  rw [hX b (fun w=>h1 (by rw [w]; exact r1)),k1.block b hb h2]
 have hno:∀ b,v'.ownBlock=some b->¬ F b:=fun b hb hf=>by
  rcases k2 b hb with w | w
  ·have:=(hF0 b hf).1; omega
  ·have:=hlt b hf; omega
 have hrv:∀ b,v'.ownBlock=some b->b ≠ G.rb:=fun b hb q=>by
  rcases k2 b hb with w | w
  ·rw [q,r1] at w; cases w
  ·omega
 obtain ⟨ow',eow⟩:∃ f:Nat->Nat,∀ b,f b=if F b then oD nd else if v'.ownBlock=some b then 2 else ow b:=⟨_,fun _=>rfl⟩
 have o1:∀ b,F b->ow' b=oD nd:=fun b hb=>by rw [eow,if_pos hb]
 have o2:∀ b,v'.ownBlock=some b->ow' b=2:=fun b hb=>by rw [eow,if_neg (hno b hb),if_pos hb]
 have o3:∀ b,¬ F b->v'.ownBlock ≠ some b->ow' b=ow b:=fun b h1 h2=>by rw [eow,if_neg h1,if_neg h2]
 have iff_:∀ c,c ≠ 2->c ≠ oD nd->c ≠ 0->∀ b,ow' b=c ↔ ow b=c:=fun c h1 h2 h0 b=>by
  by_cases q:F b
  ·rw [o1 b q,(hF0 b q).1]
   exact ⟨fun w=>absurd w.symm h2,fun w=>absurd w.symm h0⟩
  ·by_cases w:v'.ownBlock=some b
   ·rw [o2 b w]
    refine ⟨fun z=>absurd z.symm h1,fun z=>?_⟩
    rcases k2 b w with m | m
    ·rw [m] at z; exact absurd z.symm h1
    ·have:=h.no m; omega
   ·rw [o3 b q w]
 have hrow:X.ownsRow V.heap.size 85 1 v' (nd+1) (lL G.dv nd ++ [u]):=own_frame (P:=fun b=>v'.ownBlock=some b) q1 (fun _ q=>q) (fun b hb=>hX b (hrv b hb))
 refine ⟨ow',⟨fun c=>?_,?_,fun b q=>?_⟩,fun b hb h0 hf=>⟨hkeep b hb (by omega) (by omega),?_⟩⟩
 ·by_cases z:c=0
  ·rw [z]; exact Bp.zero
  by_cases z1:c=1
  ·subst z1
   refine ⟨fun _=>⟨?_,?_⟩,fun z=>by omega,fun z=>by omega,fun z=>by omega,fun z=>by omega,fun t z=>by unfold oH at z; omega,fun i z=>by unfold oD at z; omega⟩
   ·show ow' G.rb=1
    rw [o3 _ (fun w=>by have:=(hF0 _ w).1; omega) (fun w=>hrv _ w rfl)]
    exact r1
   ·rw [e]; exact heap4 _ r3
  by_cases z2:c=2
  ·subst z2
   refine ⟨fun z=>by omega,fun z=>?_,fun z=>?_,fun z=>by omega,fun z=>by omega,fun t z=>by unfold oH at z; omega,fun i z=>by unfold oD at z; omega⟩
   ·refine ⟨?_,o2⟩
    have e1:lL (upf G.dv nd u) (nd+1)=lL G.dv nd ++ [u]:=by
     rw [lL_succ9,upf_at,lL_congr (y:=G.dv) nd (fun j hj=>upf_ne _ _ (Nat.ne_of_lt hj))]
    show X.ownsRow _ _ _ v' (nd+1) (lL (upf G.dv nd u) (nd+1))
    rw [e1]
    exact hrow
   ·omega
  by_cases z3:c=oD nd
  ·subst z3
   refine ⟨fun z=>absurd z oD_ne.2.1,fun z=>absurd z oD_ne.2.2.1,fun z=>absurd z oD_ne.2.2.2.1,fun z=>absurd z oD_ne.2.2.2.2.1,fun z=>absurd z oD_ne.2.2.2.2.2.1,fun t z=>absurd z (oD_ne.2.2.2.2.2.2 t),fun k z hk=>?_⟩
   obtain rfl:=oD_inj z
   show DuctP X _ (upf G.dv nd u nd) _ _ _
   rw [upf_at]
   refine ⟨(drI_mono (R.frame (fun b hb=>?_) (Nat.le_trans k1.size hsz)) (fun b hb=>o1 b hb) (fun b hb=>?_)).cg (fun j hj=>by omega),fun x hx=>by cases hx⟩
   ·exact hkeep b (hlt b hb) (by have:=(hF0 b hb).1; omega) (by have:=(hF0 b hb).1; omega)
   ·by_cases w:F b
    ·exact Nat.lt_of_lt_of_le (hlt b w) (Nat.le_trans k1.size hsz)
    ·by_cases w3:v'.ownBlock=some b
     ·have:=o2 b w3
      have hb:ow' b=oD nd:=hb
      rw [this] at hb
      exact absurd hb.symm oD_ne.2.2.1
     ·have hb:ow' b=oD nd:=hb
      rw [o3 b w w3] at hb
      exact Nat.lt_of_lt_of_le (h.ge b (by rw [hb]; exact oD_ne.1)).2 (Nat.le_trans k1.size hsz)
  refine (h.bp c).frame (fun b q=>hkeep b (h.ge b (by omega)).2 (by omega) (by omega)) (Nat.le_trans k1.size hsz) (iff_ c z2 z3 z) z1 (fun w=>absurd w z2) (fun _=>⟨rfl,rfl,fun _ _=>rfl⟩) rfl rfl (fun _ _ q=>⟨q,rfl⟩) rfl (fun k w q=>?_)
  have hk:k ≠ nd:=fun m=>z3 (by rw [w,m])
  exact ⟨by omega,upf_ne _ _ hk⟩
 ·have s1:Saved (fun b=>ow b=2) W W':=k1
  refine ⟨?_,?_,?_,Nat.le_trans h.bel.size (Nat.le_trans k1.size hsz),fun b hb=>?_⟩
  ·rw [e]; exact (sv_cell (ow:=fun _=>1) (c0:=1) (W:=W') rfl).os.trans (k1.os.trans h.bel.os)
  ·rw [e]; exact (sv_cell (ow:=fun _=>1) (c0:=1) (W:=W') rfl).tape.trans (k1.tape.trans h.bel.tape)
  ·rw [e]; exact (sv_cell (ow:=fun _=>1) (c0:=1) (W:=W') rfl).output.trans (k1.output.trans h.bel.output)
  ·have hb0:ow b=0:=by
    by_cases m:ow b=0
    ·exact m
    ·have:=(h.ge b m).1; omega
   rw [hkeep b (Nat.lt_of_lt_of_le hb h.bel.size) (by omega) (by omega),h.bel.block b hb]
 ·by_cases w:F b
  ·exact ⟨(hF0 b w).2,Nat.lt_of_lt_of_le (hlt b w) (Nat.le_trans k1.size hsz)⟩
  ·by_cases w3:v'.ownBlock=some b
   ·exact ⟨(q1.lt b w3).1,Nat.lt_of_lt_of_le (q1.lt b w3).2 hsz⟩
   ·rw [o3 b w w3] at q
    exact ⟨(h.ge b q).1,Nat.lt_of_lt_of_le (h.ge b q).2 (Nat.le_trans k1.size hsz)⟩
 ·by_cases w3:v'.ownBlock=some b
  ·rcases k2 b w3 with m | m
   ·omega
   ·omega
  ·rw [o3 b hf w3]; exact h0
theorem Bg.addH {v':Value} {W':World} {F:Nat->Prop} {u:Nat} (hF:∀ q,F q ↔ q=u) (hu:ow u=0/\V.heap.size<=u) (R:W.heap[u]?=some (.cells (nC (G.ops nn) 0 0 (.slice none 0 0)) 89)) (h:Bg p G V nd nn ow W)
  (q1:W'.ownsRow V.heap.size 71 1 v' (nn+1) (lL (fun k=>pn (G.hn k)) nn ++ [pn u]))
  (q2:(∃ b c,G.hS=.slice (some ⟨b,0,none⟩) nn c/\v'=.slice (some ⟨b,0,none⟩) (nn+1) c/\W.grownBy W' (some b))\/(Below W.heap.size W W'/\∀ k,v'.ownBlock=some k->W.heap.size<=k)) (e:X=W'.setCell ⟨G.rb,1,none⟩ v') :
  ∃ ow',Bg p { G with hS:=v',hn:=upf G.hn nn u } V nd (nn+1) ow' X/\∀ b,b < W.heap.size->ow b=0->¬ F b->X.heap[b]?=W.heap[b]?/\ow' b=0:=by
 classical
 obtain ⟨r1,r2⟩:=h.run
 obtain ⟨w1,w2⟩:=h.hR
 have lr:=(Array.getElem?_eq_some_iff.1 r2).1
 have hlt:∀ q,F q->q < W.heap.size:=fun q hq=>by rw [(hF q).1 hq]; exact (Array.getElem?_eq_some_iff.1 R).1
 have hF0:∀ q,F q->ow q=0/\V.heap.size<=q:=fun q hq=>by rw [(hF q).1 hq]; exact hu
 have key:Saved (fun b=>ow b=3) W W'/\∀ b,v'.ownBlock=some b->ow b=3\/W.heap.size<=b:=by
  rcases q2 with ⟨b,c,f1,f2,g⟩ | ⟨g,hk⟩
  ·have hb:=w2 b (by rw [f1]; rfl)
   refine ⟨(Saved.refl _ _).grown g (fun k hk=>by cases hk; exact Or.inr hb),fun k hk=>?_⟩
   rw [f2] at hk
   cases hk
   exact Or.inl hb
  ·exact ⟨(Saved.refl _ _).below g (Nat.le_refl _),fun k w=>Or.inr (hk k w)⟩
 obtain ⟨k1,k2⟩:=key
 have r3:W'.heap[G.rb]?=some (.cells (rC G 0 0) 70):=by rw [k1.block _ lr (fun w=>by omega)]; exact r2
 have hX:∀ b,b ≠ G.rb->X.heap[b]?=W'.heap[b]?:=fun b hb=>by rw [e]; exact heap4o _ r3 hb
 have hsz:W'.heap.size<=X.heap.size:=by rw [e]; exact sz_cell
 have hkeep:∀ b,b < W.heap.size->ow b ≠ 1->ow b ≠ 3->X.heap[b]?=W.heap[b]?:=fun b hb h1 h2=>by
  rw [hX b (fun w=>h1 (by rw [w]; exact r1)),k1.block b hb h2]
 have hno:∀ b,v'.ownBlock=some b->¬ F b:=fun b hb hf=>by
  rcases k2 b hb with w | w
  ·have:=(hF0 b hf).1; omega
  ·have:=hlt b hf; omega
 have hrv:∀ b,v'.ownBlock=some b->b ≠ G.rb:=fun b hb q=>by
  rcases k2 b hb with w | w
  ·rw [q,r1] at w; cases w
  ·omega
 obtain ⟨ow',eow⟩:∃ f:Nat->Nat,∀ b,f b=if F b then oH nn else if v'.ownBlock=some b then 3 else ow b:=⟨_,fun _=>rfl⟩
 have o1:∀ b,F b->ow' b=oH nn:=fun b hb=>by rw [eow,if_pos hb]
 have o2:∀ b,v'.ownBlock=some b->ow' b=3:=fun b hb=>by rw [eow,if_neg (hno b hb),if_pos hb]
 have o3:∀ b,¬ F b->v'.ownBlock ≠ some b->ow' b=ow b:=fun b h1 h2=>by rw [eow,if_neg h1,if_neg h2]
 have iff_:∀ c,c ≠ 3->c ≠ oH nn->c ≠ 0->∀ b,ow' b=c ↔ ow b=c:=fun c h1 h2 h0 b=>by
  by_cases q:F b
  ·rw [o1 b q,(hF0 b q).1]
   exact ⟨fun w=>absurd w.symm h2,fun w=>absurd w.symm h0⟩
  ·by_cases w:v'.ownBlock=some b
   ·rw [o2 b w]
    refine ⟨fun z=>absurd z.symm h1,fun z=>?_⟩
    rcases k2 b w with m | m
    ·rw [m] at z; exact absurd z.symm h1
    ·have:=h.no m; omega
   ·rw [o3 b q w]
 have hrow:X.ownsRow V.heap.size 71 1 v' (nn+1) (lL (fun k=>pn (G.hn k)) nn ++ [pn u]):=own_frame (P:=fun b=>v'.ownBlock=some b) q1 (fun _ q=>q) (fun b hb=>hX b (hrv b hb))
 refine ⟨ow',⟨fun c=>?_,?_,fun b q=>?_⟩,fun b hb h0 hf=>⟨hkeep b hb (by omega) (by omega),?_⟩⟩
 ·by_cases z:c=0
  ·rw [z]; exact Bp.zero
  by_cases z1:c=1
  ·subst z1
   refine ⟨fun _=>⟨?_,?_⟩,fun z=>by omega,fun z=>by omega,fun z=>by omega,fun z=>by omega,fun t z=>by unfold oH at z; omega,fun i z=>by unfold oD at z; omega⟩
   ·show ow' G.rb=1
    rw [o3 _ (fun w=>by have:=(hF0 _ w).1; omega) (fun w=>hrv _ w rfl)]
    exact r1
   ·rw [e]; exact heap4 _ r3
  by_cases z2:c=3
  ·subst z2
   refine ⟨fun z=>by omega,fun z=>?_,fun z=>?_,fun z=>by omega,fun z=>by omega,fun t z=>by unfold oH at z; omega,fun i z=>by unfold oD at z; omega⟩
   ·omega
   ·refine ⟨?_,o2⟩
    have e1:lL (fun k=>pn (upf G.hn nn u k)) (nn+1)=lL (fun k=>pn (G.hn k)) nn ++ [pn u]:=by
     rw [lL_succ9]
     show lL (fun k=>pn (upf G.hn nn u k)) nn ++ [pn (upf G.hn nn u nn)]=_
     rw [upf_at,lL_congr (y:=fun k=>pn (G.hn k)) nn (fun j hj=>by show pn (upf G.hn nn u j)=_; rw [upf_ne _ _ (Nat.ne_of_lt hj)])]
    show X.ownsRow _ _ _ v' (nn+1) (lL (fun k=>pn (upf G.hn nn u k)) (nn+1))
    rw [e1]
    exact hrow
  by_cases z3:c=oH nn
  ·subst z3
   refine ⟨fun z=>absurd z oH_ne.2.1,fun z=>absurd z oH_ne.2.2.1,fun z=>absurd z oH_ne.2.2.2.1,fun z=>absurd z oH_ne.2.2.2.2.1,fun z=>absurd z oH_ne.2.2.2.2.2.1,fun k z hk=>?_,fun k z=>absurd z (oH_ne.2.2.2.2.2.2 k)⟩
   obtain rfl:=oH_inj z
   show HandP X _ _ (upf G.hn nn u nn) _ _ _ _
   rw [upf_at]
   have hfu:=(hF u).2 rfl
   exact ⟨.slice none 0 0,o1 u hfu,by rw [hkeep u (hlt u hfu) (by have:=hu.1; omega) (by have:=hu.1; omega)]; exact R,World.ownsRow_nil _ _ _ _,fun b hb=>(by cases hb),fun x hx=>(by cases hx)⟩
  refine (h.bp c).frame (fun b q=>hkeep b (h.ge b (by omega)).2 (by omega) (by omega)) (Nat.le_trans k1.size hsz) (iff_ c z2 z3 z) z1 (fun _=>⟨rfl,rfl,fun _ _=>rfl⟩) (fun w=>absurd w z2) rfl rfl (fun k w q=>?_) rfl (fun _ _ q=>⟨q,rfl⟩)
  have hk:k ≠ nn:=fun m=>z3 (by rw [w,m])
  exact ⟨by omega,upf_ne _ _ hk⟩
 ·have s1:Saved (fun b=>ow b=3) W W':=k1
  refine ⟨?_,?_,?_,Nat.le_trans h.bel.size (Nat.le_trans k1.size hsz),fun b hb=>?_⟩
  ·rw [e]; exact (sv_cell (ow:=fun _=>1) (c0:=1) (W:=W') rfl).os.trans (k1.os.trans h.bel.os)
  ·rw [e]; exact (sv_cell (ow:=fun _=>1) (c0:=1) (W:=W') rfl).tape.trans (k1.tape.trans h.bel.tape)
  ·rw [e]; exact (sv_cell (ow:=fun _=>1) (c0:=1) (W:=W') rfl).output.trans (k1.output.trans h.bel.output)
  ·have hb0:ow b=0:=by
    by_cases m:ow b=0
    ·exact m
    ·have:=(h.ge b m).1; omega
   rw [hkeep b (Nat.lt_of_lt_of_le hb h.bel.size) (by omega) (by omega),h.bel.block b hb]
 ·by_cases w:F b
  ·exact ⟨(hF0 b w).2,Nat.lt_of_lt_of_le (hlt b w) (Nat.le_trans k1.size hsz)⟩
  ·by_cases w3:v'.ownBlock=some b
   ·exact ⟨(q1.lt b w3).1,Nat.lt_of_lt_of_le (q1.lt b w3).2 hsz⟩
   ·rw [o3 b w w3] at q
    exact ⟨(h.ge b q).1,Nat.lt_of_lt_of_le (h.ge b q).2 (Nat.le_trans k1.size hsz)⟩
 ·by_cases w3:v'.ownBlock=some b
  ·rcases k2 b w3 with m | m
   ·omega
   ·omega
  ·rw [o3 b hf w3]; exact h0
theorem own_rowP {W:World} {B n:Nat} {v:Value} {T:TypeId} {f:Nat->Value} {P:Nat->Prop} (h:W.ownsRow B T 1 v n (lL f n)) (hP:∀ b,v.ownBlock=some b->P b):RowP W P T v n f:=by
 rcases h.2 with ⟨e1,e2⟩ | ⟨g,cap,cur,e1,_,h2,h3,_,h5,h6⟩
 ·exact Or.inl ⟨e1,e2⟩
 ·refine Or.inr ⟨g,cap,cur,e1,hP g (by rw [e1]; rfl),h2,by omega,fun i hi=>?_⟩
  have:=lL_get f n i hi
  rw [← h6,List.getElem?_take,if_pos (by omega),Array.getElem?_toList] at this
  exact this
def M0:Mm:=⟨fun _=>0,fun _=>0,fun _=>[],fun _=>[],fun _=>false,fun _=>none,fun _=>none,0,0⟩
theorem M0_agr:Agr p r0 0 M0:=⟨funext fun t=>by
  show 0=plE p (fun _=>0) (fun _=>false) t
  unfold plE
  rw [Bool.false_or]
  by_cases h:p.ln t<=0
  ·rw [if_pos (decide_eq_true h)]; omega
  ·rw [if_neg (by simpa using h)],rfl,rfl,rfl,rfl,rfl,rfl⟩
theorem Bg.rn (h:Bg p G V p.d p.n ow W) (hp:Okp p) (ho:∀ t,t < p.n->SliceO V (G.ops t) (p.ln t) (p.op t)):RN p G V ow M0 W:=by
 refine ⟨fun c=>?_,h.bel,h.ge,ho,hp,⟨fun t _=>Nat.zero_le _,fun t _=>?_,fun t _=>Nat.zero_le _,Nat.zero_le _,Nat.zero_le _⟩⟩
 ·obtain ⟨q1,q2,q3,q4,q5,q6,q7⟩:=h.bp c
  exact ⟨q1,fun z=>own_rowP (q2 z).1 (q2 z).2,fun z=>own_rowP (q3 z).1 (q3 z).2,q4,q5,q6,q7⟩
 ·show I64 0
  unfold I64
  omega
set_option maxRecDepth 100000 in
theorem infHp:∃ i,Try.prog.info? 71=some i/\i.zero=some (.pointer none)/\i.size=1/\i.bytes=8:=⟨_,rfl,by kernel_rfl,by kernel_rfl,by kernel_rfl⟩
set_option maxRecDepth 100000 in
theorem infDp:∃ i,Try.prog.info? 85=some i/\i.zero=some (.pointer none)/\i.size=1/\i.bytes=8:=⟨_,rfl,by kernel_rfl,by kernel_rfl,by kernel_rfl⟩
end
section
variable {o:Oper} {a:Act} {w W':World}
theorem execMkHp {x y:Operand} {n:Nat} (ho:o.op=.makeSlice 68 x y) (hx:a.eval x=.int .i64 ((n:Nat):Int)) (hy:a.eval y=.int .i64 ((n:Nat):Int)) (hn:n<=1024):(execOp a.eval o).run Try.prog w=.ok (.value (.slice (some ⟨w.heap.size,0,none⟩) n n)) (w.alloc (.cells (Duc.rA n fun _=>.pointer none) 71)):=by
 obtain ⟨i,h1,h2,h3,h4⟩:=infHp
 have h:=run_make (P:=Try.prog) w 68 71 i (.pointer none) Try.underlying68 h1 h2 .i64 .i64 (n:Int) (n:Int) (by omega) (by omega) (by rw [h4]; omega) (by omega)
 rw [h3,Int.toNat_natCast,Nat.mul_one] at h
 unfold execOp
 simp only [ho,hx,hy,Sem.run_bind,h,Result.andThen_ok,Sem.run_pure]
 rw [← Duc.rA_made]
 rfl
theorem execBdR {x y:Operand} {gS tS:Value} (ho:o.op=.build 70 #[(2,x),(3,y)]) (hx:a.eval x=gS) (hy:a.eval y=tS) (h1:∃ a n c,gS=.slice a n c) (h2:∃ a n c,tS=.slice a n c):(execOp a.eval o).run Try.prog w=.ok (.value (.agg #[.slice none 0 0,.slice none 0 0,gS,tS,.int .i64 0,.int .i64 0])) w:=by
 obtain ⟨a1,n1,c1,rfl⟩:=h1
 obtain ⟨a2,n2,c2,rfl⟩:=h2
 unfold execOp
 simp only [ho,List.map_toArray,List.map_cons,List.map_nil,hx,hy]
 simp [go_sem]
theorem execBxR {x:Operand} {gS tS:Value} (ho:o.op=.box 70 x) (hx:a.eval x=.agg #[.slice none 0 0,.slice none 0 0,gS,tS,.int .i64 0,.int .i64 0]) (h1:∃ a n c,gS=.slice a n c) (h2:∃ a n c,tS=.slice a n c):(execOp a.eval o).run Try.prog w=.ok (.value (.pointer (some ⟨w.heap.size,0,none⟩))) (w.alloc (.cells #[.slice none 0 0,.slice none 0 0,gS,tS,.int .i64 0,.int .i64 0] 70)):=by
 obtain ⟨a1,n1,c1,rfl⟩:=h1
 obtain ⟨a2,n2,c2,rfl⟩:=h2
 unfold execOp
 simp only [ho,hx]
 simp [go_sem]
theorem execBdN {x:Operand} {v:Value} (ho:o.op=.build 89 #[(0,x)]) (hx:a.eval x=v) (h1:∃ a n c,v=.slice a n c):(execOp a.eval o).run Try.prog w=.ok (.value (.agg (nC v 0 0 (.slice none 0 0)))) w:=by
 obtain ⟨a1,n1,c1,rfl⟩:=h1
 unfold execOp
 simp only [ho,List.map_toArray,List.map_cons,List.map_nil,hx]
 simp [go_sem,nC]
theorem execBxN {x:Operand} {v:Value} (ho:o.op=.box 89 x) (hx:a.eval x=.agg (nC v 0 0 (.slice none 0 0))) (h1:∃ a n c,v=.slice a n c):(execOp a.eval o).run Try.prog w=.ok (.value (.pointer (some ⟨w.heap.size,0,none⟩))) (w.alloc (.cells (nC v 0 0 (.slice none 0 0)) 89)):=by
 obtain ⟨a1,n1,c1,rfl⟩:=h1
 unfold execOp
 simp only [ho,hx]
 simp [go_sem,nC]
theorem execBsDp {x:Operand} {q:Option Addr} (ho:o.op=.buildSlice 67 1 #[(0,x)]) (hx:a.eval x=.pointer q):(execOp a.eval o).run Try.prog w=.ok (.value (.slice (some ⟨w.heap.size,0,none⟩) 1 1)) (w.alloc (.cells #[.pointer q] 85)):=by
 unfold execOp
 simp only [ho,List.map_toArray,List.map_cons,List.map_nil,hx]
 simp [go_sem]
theorem execApDp {x y:Operand} {v u v':Value} (ho:o.op=.call { callee:=.builtin .append,args:=#[x,y],argTypes:=#[67,67] }) (hx:a.eval x=v) (hy:a.eval y=u) (hr:(Builtin.append_ #[67,67] o.type #[v,u]).run Try.prog w=.ok v' W'):(execOp a.eval o).run Try.prog w=.ok (.value v') W':=by
 unfold execOp
 simp only [ho,resolve,invoke,builtin,Sem.run_bind,Sem.run_pure,Result.andThen_ok,List.map_toArray,List.map_cons,List.map_nil,hx,hy,hr]
theorem run_apDp (W:World) (B n g:Nat) (v:Value) (f:Nat->Value) (q:Option Addr) (hown:W.ownsRow B 85 1 v n (lL f n)) (hg:W.heap[g]?=some (.cells #[.pointer q] 85)) (hn:n<=1000000) (hB:B<=W.heap.size):∃ v' W',(Builtin.append_ #[67,67] 67 #[v,.slice (some ⟨g,0,none⟩) 1 1]).run Try.prog W=.ok v' W'/\W'.ownsRow B 85 1 v' (n+1) (lL f n ++ [.pointer q]) ∧
  ((∃ b c,v=.slice (some ⟨b,0,none⟩) n c/\v'=.slice (some ⟨b,0,none⟩) (n+1) c/\W.grownBy W' (some b))\/(Below W.heap.size W W'/\∀ k,v'.ownBlock=some k->W.heap.size<=k)):=by
 obtain ⟨i,i1,i2,i3,i4⟩:=infDp
 exact Win.run_appG W 67 67 85 i (.pointer none) 1 8 Try.underlying67 i1 i2 i3 i4 rfl (by decide) B n 1 v (lL f n) [.pointer q] hown ⟨g,0,none⟩ 1 rfl (fun j u hu=>by
  match j,hu with
  | 0,hu=>
   rw [Go.WideShapes.add_plain,cell_of_row _ _ _ _ _ _ hg]
   exact hu
  | j+1,hu=>cases hu) (fun u hu=>by rw [List.mem_singleton.1 hu]; rfl) (by omega) (by omega) (by omega) hB
theorem execBsHp {x:Operand} {q:Option Addr} (ho:o.op=.buildSlice 68 1 #[(0,x)]) (hx:a.eval x=.pointer q):(execOp a.eval o).run Try.prog w=.ok (.value (.slice (some ⟨w.heap.size,0,none⟩) 1 1)) (w.alloc (.cells #[.pointer q] 71)):=by
 unfold execOp
 simp only [ho,List.map_toArray,List.map_cons,List.map_nil,hx]
 simp [go_sem]
theorem execApHp {x y:Operand} {v u v':Value} (ho:o.op=.call { callee:=.builtin .append,args:=#[x,y],argTypes:=#[68,68] }) (hx:a.eval x=v) (hy:a.eval y=u) (hr:(Builtin.append_ #[68,68] o.type #[v,u]).run Try.prog w=.ok v' W'):(execOp a.eval o).run Try.prog w=.ok (.value v') W':=by
 unfold execOp
 simp only [ho,resolve,invoke,builtin,Sem.run_bind,Sem.run_pure,Result.andThen_ok,List.map_toArray,List.map_cons,List.map_nil,hx,hy,hr]
theorem run_apHp (W:World) (B n g:Nat) (v:Value) (f:Nat->Value) (q:Option Addr) (hown:W.ownsRow B 71 1 v n (lL f n)) (hg:W.heap[g]?=some (.cells #[.pointer q] 71)) (hn:n<=1000000) (hB:B<=W.heap.size):∃ v' W',(Builtin.append_ #[68,68] 68 #[v,.slice (some ⟨g,0,none⟩) 1 1]).run Try.prog W=.ok v' W'/\W'.ownsRow B 71 1 v' (n+1) (lL f n ++ [.pointer q]) ∧
  ((∃ b c,v=.slice (some ⟨b,0,none⟩) n c/\v'=.slice (some ⟨b,0,none⟩) (n+1) c/\W.grownBy W' (some b))\/(Below W.heap.size W W'/\∀ k,v'.ownBlock=some k->W.heap.size<=k)):=by
 obtain ⟨i,i1,i2,i3,i4⟩:=infHp
 exact Win.run_appG W 68 68 71 i (.pointer none) 1 8 Try.underlying68 i1 i2 i3 i4 rfl (by decide) B n 1 v (lL f n) [.pointer q] hown ⟨g,0,none⟩ 1 rfl (fun j u hu=>by
  match j,hu with
  | 0,hu=>
   rw [Go.WideShapes.add_plain,cell_of_row _ _ _ _ _ _ hg]
   exact hu
  | j+1,hu=>cases hu) (fun u hu=>by rw [List.mem_singleton.1 hu]; rfl) (by omega) (by omega) (by omega) hB
end
end Go.Proofs.Ytjjegmflllpknaa.Loo
