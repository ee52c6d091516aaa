import Derived.Test.YtjjegmflllpknaaN9b
import Derived.Test.YtjjegmflllpknaaQ9a
import Derived.Test.YtjjegmflllpknaaE8n
import Derived.Test.YtjjegmflllpknaaE8t
import Derived.Test.YtjjegmflllpknaaP8o
namespace Go.Proofs.Ytjjegmflllpknaa.Brd
open Go.RowKit Gf8 Aes By8 Cel Cf Tap Drw Prm
/- Lists of ints that are marked and grown (stage 12's apart): groups of rows. -/
theorem run_app2L (W:World) (ty:TypeId) (B n m:Nat) (v u:Value) (f q:Nat->Int) (hown:W.ownsRow B 3 1 v n (intsL n f)) (hu:SliceI W u m q) (hsome:∃ ad c',u=.slice (some ad) m c') (hm:0 < m) (hn:n+m<=17592186044416) (hB:B<=W.heap.size) :
  ∃ v' W',(Builtin.append_ #[22,22] ty #[v,u]).run Try.prog W=.ok v' W'/\W'.ownsRow B 3 1 v' (n+m) (intsL (n+m) (catI n f q)) ∧
   ((∃ b c,v=.slice (some ⟨b,0,none⟩) n c/\v'=.slice (some ⟨b,0,none⟩) (n+m) c/\W.grownBy W' (some b))\/(Below W.heap.size W W'/\∀ k,v'.ownBlock=some k->W.heap.size<=k)):=by
 obtain ⟨i,i1,i2,i3,i4⟩:=infoI
 obtain ⟨ad,c',rfl⟩:=hsome
 obtain ⟨⟨ao,cap,e,_,_,hc⟩,_⟩:=hu
 injection e with ea _ _
 subst ea
 have hnews:∀ j z,(intsL m q)[j]?=some z->W.cell? (ad.add j)=some z:=fun j z hz=>by
  have hj:j < m:=by have:=(List.getElem?_eq_some_iff.1 hz).1; rw [intsL_len] at this; exact this
  obtain ⟨b,off,e,_,e3⟩:=hc (by omega)
  obtain rfl:ad=⟨b,off,none⟩:=Option.some.inj e
  rw [Go.WideShapes.add_plain,e3 j hj]
  rw [intsL_get hj] at hz
  exact hz
 have hl:(intsL m q).length=m * i.size:=by rw [i3,intsL_len,Nat.mul_one]
 obtain ⟨v',W',hr,q1,q2,_⟩:=run_append_own (P:=Try.prog) W B 22 ty 3 i (.int .i64 0) 1 8 Try.underlying22 i1 i2 i3 i4 rfl (by decide) v n (intsL n f) hown ad m c' (intsL m q) (by rw [intsL_len,Nat.mul_one]) hnews (intsL_one _ _) (by unfold maxLen; omega) (by omega) hB
 rw [intsL_app] at q1
 refine ⟨v',W',hr,q1,?_⟩
 have hown2:=hown.2
 rcases hown2 with ⟨rfl,rfl⟩ | ⟨g',cap2,cur,rfl,hB',hg',hnc,hcm,hcs,htake⟩
 ·have hr2:=run_append_nil (P:=Try.prog) W 22 ty 3 i (.int .i64 0) Try.underlying22 i1 i2 ad m c' (intsL m q) hl hnews (by omega) (by omega) (by rw [i4]; omega)
  have r4:=hr.symm.trans hr2
  injection r4 with e1 e2
  subst e1
  subst e2
  exact Or.inr ⟨((Below.refl _ _).drew).alloc (Nat.le_refl _) _,fun k e=>Nat.le_of_eq (Option.some.inj e)⟩
 ·by_cases hroom:n+m<=cap2
  ·have hr2:=run_append_room (P:=Try.prog) W 22 ty 3 i Try.underlying22 i1 g' n cap2 cur hg' ad m c' (intsL m q) hl hnews (intsL_one _ _) hroom (by rw [hcs,i3,intsL_len]; omega)
   have r4:=hr.symm.trans hr2
   injection r4 with e1 e2
   subst e1
   exact Or.inl ⟨g',cap2,rfl,rfl,q2⟩
  ·have holds:∀ j u,(intsL n f)[j]?=some u->W.cell? ((⟨g',0,none⟩:Addr).add j)=some u:=hown.cells (g:=g') rfl
   have hr2:=run_append_grow (P:=Try.prog) W 22 ty 3 i (.int .i64 0) Try.underlying22 i1 i2 ⟨g',0,none⟩ n cap2 (intsL n f) (by rw [i3]; exact hown.1) holds ad m c' (intsL m q) hl hnews (by omega) (by omega) (growslice_fits (by omega) (by rw [i4]; omega))
   have r4:=hr.symm.trans hr2
   injection r4 with e1 e2
   subst e1
   subst e2
   exact Or.inr ⟨((Below.refl _ _).drew).alloc (Nat.le_refl _) _,fun k e=>Nat.le_of_eq (Option.some.inj e)⟩
structure Gp (B m:Nat) (x y:Nat->Value) (nn dd:Nat->Nat) (fx fy:Nat->Nat->Int) (W:World):Prop where
 rx:∀ t,t < m->W.ownsRow B 3 1 (x t) (nn t) (intsL (nn t) (fx t))
 ry:∀ t,t < m->W.ownsRow B 3 1 (y t) (nn t+dd t) (intsL (nn t+dd t) (fy t))
 lo:∀ t,t < m->∀ j,j < nn t->fy t j=fx t j
 pl:∀ t,t < m->(∃ g c,x t=.slice (some ⟨g,0,none⟩) (nn t) c/\y t=.slice (some ⟨g,0,none⟩) (nn t+dd t) c)\/∀ b,(y t).ownBlock=some b->(x t).ownBlock ≠ some b
 dis:∀ s t,s < m->t < m->s ≠ t->∀ b,((x s).ownBlock=some b\/(y s).ownBlock=some b)->¬ ((x t).ownBlock=some b\/(y t).ownBlock=some b)
def updD (dd:Nat->Nat) (t k:Nat):Nat->Nat:=fun s=>if s=t then dd t+k else dd s
def updG (fy:Nat->Nat->Int) (t:Nat) (q:Nat->Int):Nat->Nat->Int:=fun s=>if s=t then q else fy s
section
variable {B m:Nat} {x y:Nat->Value} {nn dd:Nat->Nat} {fx fy:Nat->Nat->Int} {W W':World}
theorem Gp.on (h:Gp B m x y nn dd fx fy W) (b:Below W.heap.size W W'):Gp B m x y nn dd fx fy W':=⟨fun t ht=>ownD_below (h.rx t ht) b,fun t ht=>ownD_below (h.ry t ht) b,h.lo,h.pl,h.dis⟩
theorem Gp.begin (h:FmI B m x nn fx W):Gp B m x x nn (fun _=>0) fx fx W:=by
 refine ⟨h.rows,h.rows,fun _ _ _ _=>rfl,fun t ht=>?_,fun s t hs ht hst b e q=>?_⟩
 ·rcases (h.rows t ht).2 with ⟨e,_⟩ | ⟨g,cap,cur,e,_⟩
  ·refine Or.inr fun b q=>?_
   rw [e] at q
   cases q
  ·exact Or.inl ⟨g,cap,e,e⟩
 ·exact h.dis s t hs ht hst b (e.elim id id) (q.elim id id)
theorem Gp.blt (h:Gp B m x y nn dd fx fy W) {t b:Nat} (ht:t < m) (e:(x t).ownBlock=some b\/(y t).ownBlock=some b):B<=b/\b < W.heap.size:=by
 rcases e with e | e
 ·exact (h.rx t ht).lt b e
 ·exact (h.ry t ht).lt b e
theorem Gp.overT {C n s:Nat} {u:TypeId} {v2:Value} {ys:List Value} (h:Gp B m x y nn dd fx fy W) (h2:W.ownsRow C u s v2 n ys) (hu:3 ≠ u) (gr:W.grownBy W' v2.ownBlock):Gp B m x y nn dd fx fy W':=
 ⟨fun t ht=>own_overT (h.rx t ht) h2 gr hu,fun t ht=>own_overT (h.ry t ht) h2 gr hu,h.lo,h.pl,h.dis⟩
theorem Gp.setT {g k:Nat} {u:TypeId} {c:Array Value} {z:Value} (h:Gp B m x y nn dd fx fy W) (hg:W.heap[g]?=some (.cells c u)) (hu:u ≠ 3):Gp B m x y nn dd fx fy (W.setCell ⟨g,k,none⟩ z):=
 ⟨fun t ht=>own_offT (h.rx t ht) hg hu,fun t ht=>own_offT (h.ry t ht) hg hu,h.lo,h.pl,h.dis⟩
theorem Gp.more {t k:Nat} {v':Value} {q:Nat->Int} (h:Gp B m x y nn dd fx fy W) (ht:t < m) (own:W'.ownsRow B 3 1 v' (nn t+dd t+k) (intsL (nn t+dd t+k) (catI (nn t+dd t) (fy t) q)))
  (hpl:(∃ b c,y t=.slice (some ⟨b,0,none⟩) (nn t+dd t) c/\v'=.slice (some ⟨b,0,none⟩) (nn t+dd t+k) c/\W.grownBy W' (some b))\/(Below W.heap.size W W'/\∀ k,v'.ownBlock=some k->W.heap.size<=k)) :
  Gp B m x (updX y t v') nn (updD dd t k) fx (updG fy t (catI (nn t+dd t) (fy t) q)) W':=by
 have yo:∀ s,s ≠ t->updX y t v' s=y s:=fun s hs=>if_neg hs
 have yt:updX y t v' t=v':=if_pos rfl
 have dt:updD dd t k t=dd t+k:=if_pos rfl
 have dO:∀ s,s ≠ t->updD dd t k s=dd s:=fun s hs=>if_neg hs
 have ft:updG fy t (catI (nn t+dd t) (fy t) q) t=catI (nn t+dd t) (fy t) q:=if_pos rfl
 have fo:∀ s,s ≠ t->updG fy t (catI (nn t+dd t) (fy t) q) s=fy s:=fun s hs=>if_neg hs
 have lo:∀ s,s < m->∀ j,j < nn s->updG fy t (catI (nn t+dd t) (fy t) q) s j=fx s j:=fun s hs j hj=>by
  by_cases e:s=t
  ·subst e
   rw [ft,catI_lo (by omega)]
   exact h.lo s hs j hj
  ·rw [fo s e]
   exact h.lo s hs j hj
 rcases hpl with ⟨b,c,e1,e2,gr⟩ | ⟨hb,hk⟩
 ·have hyb:(y t).ownBlock=some b:=by rw [e1]; rfl
  have hvb:v'.ownBlock=some b:=by rw [e2]; rfl
  have gx:∀ s,s < m->s ≠ t->W'.ownsRow B 3 1 (x s) (nn s) (intsL (nn s) (fx s)):=fun s hs hst=>ownW_grown (h.rx s hs) gr (fun z e q=>h.dis s t hs ht hst z (Or.inl e) (Or.inr (hyb.trans q)))
  have gy:∀ s,s < m->s ≠ t->W'.ownsRow B 3 1 (y s) (nn s+dd s) (intsL (nn s+dd s) (fy s)):=fun s hs hst=>ownW_grown (h.ry s hs) gr (fun z e q=>h.dis s t hs ht hst z (Or.inr e) (Or.inr (hyb.trans q)))
  refine ⟨fun s hs=>?_,fun s hs=>?_,lo,fun s hs=>?_,fun s u hs hu hsu z e q=>?_⟩
  ·by_cases e:s=t
   ·subst e
    rcases h.pl s hs with ⟨g,c',f1,f2⟩ | hp
    ·obtain ⟨e3,e4⟩:=slice_inj (e1.symm.trans f2)
     subst e3
     subst e4
     rw [e2] at own
     rw [f1,intsL_congr (g:=catI (nn s+dd s) (fy s) q) (fun j hj=>by rw [catI_lo (by omega)]; exact (h.lo s hs j hj).symm)]
     exact own_takeI own (by omega)
    ·exact ownW_grown (h.rx s hs) gr (fun z e q=>hp z (hyb.trans q) e)
   ·exact gx s hs e
  ·by_cases e:s=t
   ·subst e
    rw [yt,dt,ft,← Nat.add_assoc]
    exact own
   ·rw [yo s e,dO s e,fo s e]
    exact gy s hs e
  ·by_cases e:s=t
   ·subst e
    rw [yt,dt]
    rcases h.pl s hs with ⟨g,c',f1,f2⟩ | hp
    ·obtain ⟨e3,e4⟩:=slice_inj (e1.symm.trans f2)
     subst e3
     subst e4
     exact Or.inl ⟨b,c,f1,by rw [e2,Nat.add_assoc]⟩
    ·exact Or.inr fun z q=>hp z (hyb.trans (hvb.symm.trans q))
   ·rw [yo s e,dO s e]
    exact h.pl s hs
  ·have e':(x s).ownBlock=some z\/(y s).ownBlock=some z:=by
    by_cases es:s=t
    ·subst es
     rw [yt] at e
     exact e.imp id fun w=>hyb.trans (hvb.symm.trans w)
    ·rw [yo s es] at e
     exact e
   have q':(x u).ownBlock=some z\/(y u).ownBlock=some z:=by
    by_cases eu:u=t
    ·subst eu
     rw [yt] at q
     exact q.imp id fun w=>hyb.trans (hvb.symm.trans w)
    ·rw [yo u eu] at q
     exact q
   exact h.dis s u hs hu hsu z e' q'
 ·have ho:=h.on hb
  have nw:∀ s,s < m->∀ z,((x s).ownBlock=some z\/(y s).ownBlock=some z)->v'.ownBlock ≠ some z:=fun s hs z e q=>by
   have a1:=hk z q
   have a2:=(h.blt hs e).2
   omega
  refine ⟨ho.rx,fun s hs=>?_,lo,fun s hs=>?_,fun s u hs hu hsu z e q=>?_⟩
  ·by_cases e:s=t
   ·subst e
    rw [yt,dt,ft,← Nat.add_assoc]
    exact own
   ·rw [yo s e,dO s e,fo s e]
    exact ho.ry s hs
  ·by_cases e:s=t
   ·subst e
    rw [yt]
    exact Or.inr fun z q w=>nw s hs z (Or.inl w) q
   ·rw [yo s e,dO s e]
    exact h.pl s hs
  ·by_cases es:s=t
   ·subst es
    rw [yt] at e
    rw [yo u (fun w=>hsu w.symm)] at q
    rcases e with e | e
    ·exact h.dis s u hs hu hsu z (Or.inl e) q
    ·exact nw u hu z q e
   ·rw [yo s es] at e
    by_cases eu:u=t
    ·subst eu
     rw [yt] at q
     rcases q with q | q
     ·exact h.dis s u hs hu hsu z e (Or.inl q)
     ·exact nw s hs z e q
    ·rw [yo u eu] at q
     exact h.dis s u hs hu hsu z e q
end
end Go.Proofs.Ytjjegmflllpknaa.Brd

namespace Go.Proofs.Ytjjegmflllpknaa.Loo
open Go.RowKit Gf8 Aes By8 Cel Cf Win Drw Prm
/- The landed loom: a run in memory. Each of its blocks has an owner: 1 the run, 2 its ducts' row, 3 its hands' row, 4 givers, 5 takers, oH t the hand t, oD i the duct i; 0 is none of its blocks. -/
def oH (t:Nat):Nat:=6+2 * t
def oD (i:Nat):Nat:=7+2 * i
structure Ad where
 rb:Nat
 dS:Value
 hS:Value
 gS:Value
 tS:Value
 dv:Nat->Value
 hn:Nat->Nat
 ops:Nat->Value
structure Mm where
 pl:Nat->Nat
 rg:Nat->Int
 tk:Nat->List Int
 hd:Nat->List Int
 cl:Nat->Bool
 gv:Nat->Option Nat
 tv:Nat->Option Nat
 ms:Nat
 lt:Nat
def rC (A:Ad) (ms lt:Nat):Array Value:=#[A.dS,A.hS,A.gS,A.tS,.int .i64 ((ms:Nat):Int),.int .i64 ((lt:Nat):Int)]
def nC (o:Value) (pl:Nat) (rg:Int) (tv:Value):Array Value:=#[o,.int .i64 ((pl:Nat):Int),.int .i64 rg,tv]
def pn (g:Nat):Value:=.pointer (some ⟨g,0,none⟩)
def pv (A:Ad):Option Nat->Value
 | none=>.pointer none
 | some t=>pn (A.hn t)
def hL (l:List Int) (j:Nat):Int:=l.getD j 0
def RowP (W:World) (P:Nat->Prop) (T:TypeId) (S:Value) (n:Nat) (f:Nat->Value):Prop:=
 (S=.slice none 0 0/\n=0)\/∃ b cap cur,S=.slice (some ⟨b,0,none⟩) n cap/\P b/\W.heap[b]?=some (.cells cur T)/\n<=cur.size/\∀ i,i < n->cur[i]?=some (f i)
section
variable {W X:World} {P Q:Nat->Prop} {T:TypeId} {S:Value} {n:Nat} {f g:Nat->Value}
theorem RowP.frame (h:RowP W P T S n f) (e:∀ b,P b->X.heap[b]?=W.heap[b]?) (hP:∀ b,P b->Q b) (hf:∀ i,i < n->f i=g i):RowP X Q T S n g:=by
 rcases h with h | ⟨b,cap,cur,h1,h2,h3,h4,h5⟩
 ·exact Or.inl h
 ·exact Or.inr ⟨b,cap,cur,h1,hP b h2,by rw [e b h2]; exact h3,h4,fun i hi=>by rw [h5 i hi,hf i hi]⟩
theorem RowP.shp (h:RowP W P T S n f):∃ a c,S=.slice a n c:=by
 rcases h with ⟨rfl,rfl⟩ | ⟨b,cap,cur,h1,_⟩
 ·exact ⟨_,_,rfl⟩
 ·exact ⟨_,_,h1⟩
theorem RowP.open (h:RowP W P T S n f) {i:Nat} (hi:i < n):∃ b cap cur,S=.slice (some ⟨b,0,none⟩) n cap/\P b/\W.heap[b]?=some (.cells cur T)/\n<=cur.size/\∀ i,i < n->cur[i]?=some (f i):=by
 rcases h with ⟨_,rfl⟩ | h
 ·omega
 ·exact h
theorem RowP.at (h:RowP W P T S n f) {b cap i:Nat} (e:S=.slice (some ⟨b,0,none⟩) n cap) (hi:i < n):W.cell? ⟨b,i,none⟩=some (f i):=by
 obtain ⟨b',cap',cur,h1,h2,h3,h4,h5⟩:=h.open hi
 rw [e] at h1
 injection h1 with h1
 injection h1 with h1
 injection h1 with h1
 subst h1
 rw [cell_of_row _ _ _ _ _ _ h3]
 exact h5 i hi
end
def HandP (W:World) (P:Nat->Prop) (B g:Nat) (o:Value) (pl:Nat) (rg:Int) (tk:List Int):Prop:=
 ∃ tv,P g/\W.heap[g]?=some (.cells (nC o pl rg tv) 89)/\W.ownsRow B 3 1 tv tk.length (intsL tk.length (hL tk))/\(∀ b,tv.ownBlock=some b->P b)/\∀ x ∈ tk,I64 x
def DuctP (W:World) (P:Nat->Prop) (v:Value) (hd:List Int) (k:Nat) (c:Bool):Prop:=
 Duc.DRI W P v (fun j=>.int .i64 (hL hd j)) hd.length k c/\∀ x ∈ hd,I64 x
def Pc (p:Pl) (A:Ad) (U:World) (ow:Nat->Nat) (M:Mm) (W:World) (c:Nat):Prop:=
 (c=1->ow A.rb=1/\W.heap[A.rb]?=some (.cells (rC A M.ms M.lt) 70)) ∧
 (c=2->RowP W (fun b=>ow b=2) 85 A.dS p.d A.dv) ∧
 (c=3->RowP W (fun b=>ow b=3) 71 A.hS p.n (fun t=>pn (A.hn t))) ∧
 (c=4->RowP W (fun b=>ow b=4) 71 A.gS p.d (fun i=>pv A (M.gv i))) ∧
 (c=5->RowP W (fun b=>ow b=5) 71 A.tS p.d (fun i=>pv A (M.tv i))) ∧
 (∀ t,c=oH t->t < p.n->HandP W (fun b=>ow b=oH t) U.heap.size (A.hn t) (A.ops t) (M.pl t) (M.rg t) (M.tk t)) ∧
 (∀ i,c=oD i->i < p.d->DuctP W (fun b=>ow b=oD i) (A.dv i) (M.hd i) (p.cap i).toNat (M.cl i))
def MEq (c:Nat) (M N:Mm):Prop:=
 (c=1->M.ms=N.ms/\M.lt=N.lt)/\(c=4->M.gv=N.gv)/\(c=5->M.tv=N.tv)/\(∀ t,c=oH t->M.pl t=N.pl t/\M.rg t=N.rg t/\M.tk t=N.tk t)/\(∀ i,c=oD i->M.hd i=N.hd i/\M.cl i=N.cl i)
section
variable {p:Pl} {A:Ad} {U W X V:World} {ow ow' ow0:Nat->Nat} {M N:Mm} {c c0:Nat}
theorem own_frame {B n:Nat} {v:Value} {xs:List Value} {P:Nat->Prop} {T:TypeId} {s:Nat} (h:W.ownsRow B T s v n xs) (hP:∀ b,v.ownBlock=some b->P b) (e:∀ b,P b->X.heap[b]?=W.heap[b]?):X.ownsRow B T s v n xs:=by
 refine ⟨h.1,?_⟩
 rcases h.2 with h2 | ⟨g,cap,cur,rfl,h3,h4,h5⟩
 ·exact Or.inl h2
 ·exact Or.inr ⟨g,cap,cur,rfl,h3,by rw [e g (hP g rfl)]; exact h4,h5⟩
theorem HandP.frame {P Q:Nat->Prop} {B g pl:Nat} {o:Value} {rg:Int} {tk:List Int} (h:HandP W P B g o pl rg tk) (e:∀ b,P b->X.heap[b]?=W.heap[b]?) (hP:∀ b,P b->Q b):HandP X Q B g o pl rg tk:=by
 obtain ⟨tv,h1,h2,h3,h4,h5⟩:=h
 exact ⟨tv,hP _ h1,by rw [e g h1]; exact h2,own_frame h3 h4 e,fun b hb=>hP b (h4 b hb),h5⟩
theorem Pc.frame (h:Pc p A U ow M W c) (e:∀ b,ow b=c->X.heap[b]?=W.heap[b]?) (hs:W.heap.size<=X.heap.size) (eo:∀ b,ow' b=c ↔ ow b=c) (m:MEq c M N):Pc p A U ow' N X c:=by
 have eP:(fun b=>ow' b=c)=(fun b=>ow b=c):=funext fun b=>propext (eo b)
 obtain ⟨h1,h2,h3,h4,h5,h6,h7⟩:=h
 obtain ⟨m1,m4,m5,m6,m7⟩:=m
 refine ⟨fun z=>?_,fun z=>?_,fun z=>?_,fun z=>?_,fun z=>?_,fun t z ht=>?_,fun i z hi=>?_⟩
 ·obtain ⟨q1,q2⟩:=h1 z
  subst z
  refine ⟨(eo _).2 q1,?_⟩
  rw [e _ q1,q2,(m1 rfl).1,(m1 rfl).2]
 ·subst z
  rw [eP]
  exact (h2 rfl).frame e (fun _ hb=>hb) (fun _ _=>rfl)
 ·subst z
  rw [eP]
  exact (h3 rfl).frame e (fun _ hb=>hb) (fun _ _=>rfl)
 ·subst z
  rw [eP]
  exact (h4 rfl).frame e (fun _ hb=>hb) (fun i _=>by rw [m4 rfl])
 ·subst z
  rw [eP]
  exact (h5 rfl).frame e (fun _ hb=>hb) (fun i _=>by rw [m5 rfl])
 ·subst z
  rw [eP,← (m6 t rfl).1,← (m6 t rfl).2.1,← (m6 t rfl).2.2]
  exact (h6 t rfl ht).frame e (fun _ hb=>hb)
 ·subst z
  rw [eP,← (m7 i rfl).1,← (m7 i rfl).2]
  exact ⟨(h7 i rfl hi).1.frame e hs,(h7 i rfl hi).2⟩
theorem MEq.refl:MEq c M M:=⟨fun _=>⟨rfl,rfl⟩,fun _=>rfl,fun _=>rfl,fun _ _=>⟨rfl,rfl,rfl⟩,fun _ _=>⟨rfl,rfl⟩⟩
theorem Pc.zero:Pc p A U ow M W 0:=⟨fun z=>by omega,fun z=>by omega,fun z=>by omega,fun z=>by omega,fun z=>by omega,fun t z=>by unfold oH at z; omega,fun i z=>by unfold oD at z; omega⟩
structure Fit (p:Pl) (M:Mm):Prop where
 pl:∀ t,t < p.n->M.pl t<=p.ln t
 rg:∀ t,t < p.n->I64 (M.rg t)
 tk:∀ t,t < p.n->(M.tk t).length<=1000000
 lt:M.lt<=1000000
 ms:M.ms<=1000000
structure RN (p:Pl) (A:Ad) (U:World) (ow:Nat->Nat) (M:Mm) (W:World):Prop where
 pc:∀ c,Pc p A U ow M W c
 bel:Below U.heap.size U W
 ge:∀ b,ow b ≠ 0->U.heap.size<=b/\b < W.heap.size
 ops:∀ t,t < p.n->SliceO U (A.ops t) (p.ln t) (p.op t)
 ok:Okp p
 fit:Fit p M
theorem RN.no (h:RN p A U ow M W) {b:Nat} (hb:W.heap.size<=b):ow b=0:=by
 by_cases e:ow b=0
 ·exact e
 ·have:=(h.ge b e).2; omega
theorem RN.on (h:RN p A U ow M W) (hb:Below W.heap.size W X):RN p A U ow M X:=by
 refine ⟨fun c=>?_,h.bel.trans (hb.mono h.bel.size),fun b q=>⟨(h.ge b q).1,Nat.lt_of_lt_of_le (h.ge b q).2 hb.size⟩,h.ops,h.ok,h.fit⟩
 by_cases z:c=0
 ·rw [z]; exact Pc.zero
 ·exact (h.pc c).frame (fun b q=>hb.block b (h.ge b (by omega)).2) hb.size (fun b=>Iff.rfl) MEq.refl
theorem RN.upd (h:RN p A U ow M W) (sv:Saved (fun b=>ow b=c0) W X) (hc:c0 ≠ 0) (ext:∀ b,b < W.heap.size->ow' b=ow b) (new:∀ b,W.heap.size<=b->ow' b ≠ 0->ow' b=c0/\b < X.heap.size) (m:∀ c,c ≠ c0->MEq c M N) (pc:Pc p A U ow' N X c0) (ft:Fit p N):RN p A U ow' N X:=by
 refine ⟨fun c=>?_,⟨sv.os.trans h.bel.os,sv.tape.trans h.bel.tape,sv.output.trans h.bel.output,Nat.le_trans h.bel.size sv.size,fun b hb=>?_⟩,fun b q=>?_,h.ops,h.ok,ft⟩
 ·by_cases z:c=0
  ·rw [z]; exact Pc.zero
  by_cases z2:c=c0
  ·rw [z2]; exact pc
  refine (h.pc c).frame (fun b q=>sv.block b (h.ge b (by omega)).2 (fun w=>z2 (q.symm.trans w))) sv.size (fun b=>?_) (m c z2)
  by_cases hb:b < W.heap.size
  ·rw [ext b hb]
  ·have e1:=h.no (b:=b) (by omega)
   constructor
   ·intro q
    have:=new b (by omega) (by omega)
    omega
   ·intro q; omega
 ·rw [sv.block b (Nat.lt_of_lt_of_le hb h.bel.size) (fun w=>?_),h.bel.block b hb]
  have:=(h.ge b (by omega)).1
  omega
 ·by_cases hb:b < W.heap.size
  ·rw [ext b hb] at q
   exact ⟨(h.ge b q).1,Nat.lt_of_lt_of_le (h.ge b q).2 sv.size⟩
  ·exact ⟨Nat.le_trans h.bel.size (by omega),(new b (by omega) q).2⟩
structure St (p:Pl) (A:Ad) (U:World) (ow0:Nat->Nat) (V:World) (ow:Nat->Nat) (M:Mm) (W:World):Prop where
 rn:RN p A U ow M W
 sv:Saved (fun b=>ow0 b ≠ 0) V W
 sub:∀ b,ow b ≠ 0->ow0 b ≠ 0\/V.heap.size<=b
theorem RN.st (h:RN p A U ow M W):St p A U ow W ow M W:=⟨h,Saved.refl _ _,fun _ q=>Or.inl q⟩
theorem St.on (h:St p A U ow0 V ow M W) (hb:Below W.heap.size W X):St p A U ow0 V ow M X:=⟨h.rn.on hb,h.sv.below hb h.sv.size,h.sub⟩
theorem St.upd (h:St p A U ow0 V ow M W) (sv:Saved (fun b=>ow b=c0) W X) (hc:c0 ≠ 0) (ext:∀ b,b < W.heap.size->ow' b=ow b) (new:∀ b,W.heap.size<=b->ow' b ≠ 0->ow' b=c0/\b < X.heap.size) (m:∀ c,c ≠ c0->MEq c M N) (pc:Pc p A U ow' N X c0) (ft:Fit p N):St p A U ow0 V ow' N X:=by
 refine ⟨h.rn.upd sv hc ext new m pc ft,⟨sv.os.trans h.sv.os,sv.tape.trans h.sv.tape,sv.output.trans h.sv.output,Nat.le_trans h.sv.size sv.size,fun b hb hn=>?_⟩,fun b q=>?_⟩
 ·rw [sv.block b (Nat.lt_of_lt_of_le hb h.sv.size) (fun w=>?_),h.sv.block b hb hn]
  rcases h.sub b (by omega) with z | z
  ·exact hn z
  ·omega
 ·by_cases hb:b < W.heap.size
  ·rw [ext b hb] at q; exact h.sub b q
  ·exact Or.inr (by have:=h.sv.size; omega)
def To (p:Pl) (A:Ad) (U:World) (ow0:Nat->Nat) (V:World) (M:Mm) (W:World):Prop:=∃ ow,St p A U ow0 V ow M W
theorem St.to (h:St p A U ow0 V ow M W):To p A U ow0 V M W:=⟨ow,h⟩
theorem St.then_ (h:St p A U ow0 V ow M W) (g:St p A U ow W ow' N X):St p A U ow0 V ow' N X:=by
 refine ⟨g.rn,⟨g.sv.os.trans h.sv.os,g.sv.tape.trans h.sv.tape,g.sv.output.trans h.sv.output,Nat.le_trans h.sv.size g.sv.size,fun b hb hn=>?_⟩,fun b q=>?_⟩
 ·rw [g.sv.block b (Nat.lt_of_lt_of_le hb h.sv.size) (fun w=>?_),h.sv.block b hb hn]
  rcases h.sub b w with z | z
  ·exact hn z
  ·omega
 ·rcases g.sub b q with z | z
  ·exact h.sub b z
  ·exact Or.inr (by have:=h.sv.size; omega)
theorem St.local (g:St p A U ow W ow' N X) {b:Nat} {o:Obj} (hb:W.heap[b]?=some o) (ho:ow b=0):X.heap[b]?=some o/\ow' b=0:=by
 have hl:=(Array.getElem?_eq_some_iff.1 hb).1
 refine ⟨by rw [g.sv.block b hl (fun w=>w ho)]; exact hb,?_⟩
 by_cases e:ow' b=0
 ·exact e
 ·rcases g.sub b e with z | z
  ·exact absurd ho z
  ·omega
end
end Go.Proofs.Ytjjegmflllpknaa.Loo
