import Derived.Test.YtjjegmflllpknaaN9a
namespace Go.Proofs.Ytjjegmflllpknaa.Prm
open Go.RowKit Gf8 Aes By8 Cel Cf Tap Drw
/- PermKeeps: what is answered, by its number; append to one of the rows. -/
theorem slice_inj {b g n m c d:Nat} (e:Value.slice (some ⟨b,0,none⟩) n c=.slice (some ⟨g,0,none⟩) m d):b=g/\c=d:=by
 injection e with e1 _ e3
 injection e1 with e1
 injection e1 with e1 _ _
 exact ⟨e1,e3⟩
structure Ap (V W:World) (k:Nat) (x:Nat->Value) (nn:Nat->Nat) (ff:Nat->Nat->Int) (lv wv:Value) (bw t:Nat) (l:Value) (d:Nat):Prop where
 k2:K2 V W k x nn ff lv wv bw 18
 own:∃ q,W.ownsRow V.heap.size 3 1 l (nn t+d) (intsL (nn t+d) q)/\∀ j,j < nn t->q j=ff t j
 pl:(∃ g c,x t=.slice (some ⟨g,0,none⟩) (nn t) c/\l=.slice (some ⟨g,0,none⟩) (nn t+d) c)\/∀ s,s < k->∀ b,l.ownBlock=some b->(x s).ownBlock ≠ some b
section
variable {V W W':World} {k t d bw:Nat} {x:Nat->Value} {nn:Nat->Nat} {ff:Nat->Nat->Int} {lv wv l:Value}
theorem Ap.on (h:Ap V W k x nn ff lv wv bw t l d) (q:Below W.heap.size W W'):Ap V W' k x nn ff lv wv bw t l d:=by
 obtain ⟨p,h1,h2⟩:=h.own
 exact ⟨h.k2.on q,⟨p,ownD_below h1 q,h2⟩,h.pl⟩
theorem Ap.begin (h:K2 V W k x nn ff lv wv bw 18) (ht:t < k):Ap V W k x nn ff lv wv bw t (x t) 0:=by
 refine ⟨h,⟨ff t,h.k1.fam.rows t ht,fun _ _=>rfl⟩,?_⟩
 rcases (h.k1.fam.rows t ht).2 with ⟨e,_⟩ | ⟨g,cap,cur,e,_⟩
 ·refine Or.inr fun s _ b q=>?_
  rw [e] at q
  cases q
 ·exact Or.inl ⟨g,cap,e,e⟩
theorem Ap.more {l':Value} {q:Nat->Int} (h:Ap V W k x nn ff lv wv bw t l d) (ht:t < k) (own:W'.ownsRow V.heap.size 3 1 l' (nn t+d+1) (intsL (nn t+d+1) q)) (hq:∀ j,j < nn t->q j=ff t j)
  (hpl:(∃ b c,l=.slice (some ⟨b,0,none⟩) (nn t+d) c/\l'=.slice (some ⟨b,0,none⟩) (nn t+d+1) c/\W.grownBy W' (some b))\/(Below W.heap.size W W'/\∀ k,l'.ownBlock=some k->W.heap.size<=k)):Ap V W' k x nn ff lv wv bw t l' (d+1):=by
 rcases hpl with ⟨b,c,e1,e2,gr⟩ | ⟨hb,hk⟩
 ·have hown:=h.own
  obtain ⟨p,o1,_⟩:=hown
  have hbB:V.heap.size<=b:=by rw [e1] at o1; exact (o1.lt b rfl).1
  have gr2:W.grownBy W' l.ownBlock:=by rw [e1]; exact gr
  have hli:=own_overT h.k2.k1.li o1 gr2 (show (22:TypeId) ≠ 3 by decide)
  have hwa:=own_overT h.k2.wa o1 gr2 (show (22:TypeId) ≠ 3 by decide)
  have hbel:Below V.heap.size V W':=h.k2.k1.bel.grown gr h.k2.k1.bel.size (fun z e=>by rw [← Option.some.inj e]; exact hbB)
  have hfam:FmI V.heap.size k x nn ff W':=by
   refine ⟨fun s hs=>?_,h.k2.k1.fam.dis⟩
   rcases h.pl with ⟨g,c',f1,f2⟩ | hp
   ·have e3:=e1.symm.trans f2
    obtain ⟨e3,e4⟩:=slice_inj e3
    subst e3
    subst e4
    by_cases hst:s=t
    ·subst hst
     rw [e2] at own
     rw [f1,← intsL_congr hq]
     exact own_takeI own (by omega)
    ·exact ownW_grown (h.k2.k1.fam.rows s hs) gr (fun z e q=>h.k2.k1.fam.dis s t hs ht hst z e (by rw [f1]; exact q))
   ·exact ownW_grown (h.k2.k1.fam.rows s hs) gr (fun z e q=>hp s hs z (by rw [e1]; exact q) e)
  refine ⟨⟨⟨hbel,hfam,hli⟩,hwa,h.k2.lb,h.k2.b1,Nat.le_trans h.k2.b2 gr.size⟩,⟨q,own,hq⟩,?_⟩
  rcases h.pl with ⟨g,c',f1,f2⟩ | hp
  ·have e3:=e1.symm.trans f2
   obtain ⟨e3,e4⟩:=slice_inj e3
   subst e3
   subst e4
   exact Or.inl ⟨b,c,f1,e2⟩
  ·refine Or.inr fun s hs z q=>hp s hs z ?_
   rw [e2] at q
   rw [e1]
   exact q
 ·refine ⟨h.k2.on hb,⟨q,own,hq⟩,Or.inr fun s hs z e1 e2=>?_⟩
  have a1:=hk z e1
  have a2:=h.k2.k1.blt s hs z e2
  omega
end
end Go.Proofs.Ytjjegmflllpknaa.Prm
