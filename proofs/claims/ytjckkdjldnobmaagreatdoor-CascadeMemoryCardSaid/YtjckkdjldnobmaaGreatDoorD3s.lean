import Derived.Test.YtjckkdjldnobmaaGreatDoorD3f
import Derived.Test.YtjckkdjldnobmaaGreatDoorD1c
import Derived.Test.YtjckkdjldnobmaaGreatDoorX7f
import Derived.Deep.RegionWith
namespace Go.Proofs.YtjckkdjldnobmaaGreatDoor.Frm
open Go.RowKit Gf8 Aes By8 Cel
/- The reference's Pack, whole; copied. -/
structure CF (B n:Nat) (x:Nat->Value) (ln:Nat->Nat) (c:Nat->Nat->Nat) (cv:Value) (W:World):Prop where
 own:W.ownsRow B 24 1 cv n (xsL x 0 n)
 fam:Fam B n x ln c W
theorem CF.on {B k:Nat} {x:Nat->Value} {ln:Nat->Nat} {c:Nat->Nat->Nat} {cv:Value} {W W':World} (h:CF B k x ln c cv W) (hb:Below W.heap.size W W'):CF B k x ln c cv W':=⟨ownL_below h.own hb,h.fam.on hb⟩
theorem CF.base {B C k:Nat} {x:Nat->Value} {ln:Nat->Nat} {c:Nat->Nat->Nat} {cv:Value} {W:World} (h:CF C k x ln c cv W) (hB:B<=C):CF B k x ln c cv W:=⟨ownL_base h.own hB,⟨fun t ht=>own_base (h.fam.rows t ht) hB,h.fam.dis⟩⟩
theorem own_nilR {W:World} {B n:Nat} {v:Value} {xs:List Value} (h:W.ownsRow B 5 1 v n xs):∀ l c,v=.slice none l c->c=0:=own_nil h
theorem CF.cells {B k:Nat} {x:Nat->Value} {ln:Nat->Nat} {c:Nat->Nat->Nat} {cv:Value} {W:World} (h:CF B k x ln c cv W) (hb:∀ i j,i < k->j < ln i->c i j < 256) (hl:∀ i,i < k->ln i<=140737488351232):Cells W cv k x ln c:=by
 refine ⟨?_,fun i hi=>own_slice (h.fam.rows i hi) fun j hj=>hb i j hi hj,fun i hi=>own_nilR (h.fam.rows i hi),hl⟩
 by_cases h0:0 < k
 ·obtain ⟨g,cap,rfl,hB,hg,hc⟩:=ownL_cells h.own h0
  have:k<=cap/\cap < 9223372036854775808:=by
   rcases h.own.2 with ⟨e,_⟩ | ⟨g',cap',cur,e,_,_,h1,h2,_⟩
   ·cases e
   ·injection e with _ _ e3
    unfold maxLen at h2
    omega
  exact ⟨_,cap,rfl,this.1,this.2,fun _=>⟨g,0,rfl,hg,fun i hi=>by rw [Nat.zero_add]; have:=hc i hi; rw [Nat.zero_add] at this; exact this⟩⟩
 ·obtain ⟨ao,cap,rfl⟩:=ownL_shape h.own
  have:k<=cap/\cap < 9223372036854775808:=by
   rcases h.own.2 with ⟨e,_⟩ | ⟨g',cap',cur,e,_,_,h1,h2,_⟩
   ·injection e with _ _ e3
    omega
   ·injection e with _ _ e3
    unfold maxLen at h2
    omega
  exact ⟨ao,cap,rfl,this.1,this.2,fun q=>absurd q h0⟩
end Go.Proofs.YtjckkdjldnobmaaGreatDoor.Frm

namespace Go.Proofs.YtjckkdjldnobmaaGreatDoor.Frm
open Go.RowKit Gf8 Aes By8 Cel
/- What lies in FramePacks. -/
theorem ownL_staysT {W:World} {B n b k:Nat} {v u:Value} {xs:List Value} {c:Array Value} (h:W.ownsRow B 24 1 v n xs) (hb:W.heap[b]?=some (.cells c 5)):(W.setCell ⟨b,k,none⟩ u).ownsRow B 24 1 v n xs:=by
 refine ⟨h.1,?_⟩
 rcases h.2 with h | ⟨g,cap,cur,e,hB,hg,h2⟩
 ·exact Or.inl h
 ·refine Or.inr ⟨g,cap,cur,e,hB,?_,h2⟩
  rw [heap4o _ hb (fun e=>by subst e; rw [hg] at hb; simp at hb)]
  exact hg
structure PaS (I:Nat) (rd ep lf:Int) (n:Nat) (lv:Value) (y:Nat->Value) (m:Nat) (nn:Nat->Nat) (ff:Nat->Nat->Nat) (V W:World):Prop where
 i:W.heap[I]?=some (.cells (bC rd ep lf lv) 54)
 own:W.ownsRow V.heap.size 24 1 lv n (xsL y 0 n)
 fam:Fam V.heap.size m y nn ff W
 bel:Below V.heap.size V W
 lB:V.heap.size<=I
section
variable {I:Nat} {rd ep lf:Int} {n:Nat} {lv:Value} {y:Nat->Value} {m:Nat} {nn:Nat->Nat} {ff:Nat->Nat->Nat} {V W W':World}
theorem PaS.on (h:PaS I rd ep lf n lv y m nn ff V W) (hb:Below W.heap.size W W'):PaS I rd ep lf n lv y m nn ff V W':=
 ⟨by rw [hb.block _ (Array.getElem?_eq_some_iff.1 h.i).1]; exact h.i,ownL_below h.own hb,h.fam.on hb,h.bel.trans (hb.mono h.bel.size),h.lB⟩
theorem PaS.add (h:PaS I rd ep lf n lv y m nn ff V W) (hm:n<=m) (hb:Below W.heap.size W W') {r:Value} (hr:W'.ownsRow W.heap.size 5 1 r (nn m) (bytesL (nn m) (ff m))):PaS I rd ep lf n lv (updX y m r) (m+1) nn ff V W':=by
 have h':=h.on hb
 refine ⟨h'.i,?_,h.fam.add hb h.bel.size hr,h'.bel,h.lB⟩
 rw [xsL_congr (y:=y) fun t ht=>updX_lt _ _ (by omega)]
 exact h'.own
theorem PaS.cg {gg:Nat->Nat->Nat} (h:PaS I rd ep lf n lv y m nn ff V W) (e:∀ t,t < m->∀ l,l < nn t->ff t l=gg t l):PaS I rd ep lf n lv y m nn gg V W:=
 ⟨h.i,h.own,⟨fun t ht=>by have h2:=h.fam.rows t ht; rw [bytesL_congr (e t ht)] at h2; exact h2,h.fam.dis⟩,h.bel,h.lB⟩
theorem PaS.set (h:PaS I rd ep lf n lv y m nn ff V W) {t k g cap z:Nat} (ht:t < m) (hx:y t=.slice (some ⟨g,0,none⟩) (nn t) cap) :
  PaS I rd ep lf n lv y m nn (fun s=>if s=t then (fun l=>if l=k then z else ff t l) else ff s) V (W.setCell ⟨g,k,none⟩ (.int .u8 (z:Int))):=by
 have own:=h.fam.rows t ht
 obtain ⟨cur,hg⟩:=own_type own (k:=g) (by rw [hx]; rfl)
 have gB:V.heap.size<=g:=(own.lt g (by rw [hx]; rfl)).1
 refine ⟨?_,ownL_staysT h.own hg,⟨fun s hs=>?_,h.fam.dis⟩,h.bel.setCell (p:=⟨g,k,none⟩) gB _,h.lB⟩
 ·rw [heap4o _ hg (fun e=>by have q:=h.i; rw [e,hg] at q; simp at q)]
  exact h.i
 ·by_cases e:s=t
  ·subst e
   simp only [if_true]
   rw [hx] at own ⊢
   exact own_set (m:=k) z own
  ·simp only [if_neg e]
   exact own_stays (k:=k) (u:=.int .u8 (z:Int)) (h.fam.rows s hs) hg (fun q=>h.fam.dis t s ht hs (fun z=>e z.symm) g (by rw [hx]; rfl) q)
theorem PaS.drop (h:PaS I rd ep lf n lv y (n+3) nn ff V W) {u:Value} (hg:W.grownBy W' (y (n+1)).ownBlock) (hN:nn (n+2)=nn (n+1)) (hf:ff (n+2)=ff n) (hu:u=y (n+2)):PaS I rd ep lf n lv (fun t=>if t=n+1 then u else y t) (n+2) nn (fun t=>if t=n+1 then ff n else ff t) V W':=by
 have pv:=h.fam.rows (n+1) (by omega)
 have keep:∀ t,t < n+3->t ≠ n+1->W'.ownsRow V.heap.size 5 1 (y t) (nn t) (bytesL (nn t) (ff t)):=by
  intro t ht hne
  refine (h.fam.rows t ht).kept hg ?_
  cases e:(y t).ownBlock with
  | none=>exact Or.inl rfl
  | some g=>exact Or.inr (fun q=>h.fam.dis t (n+1) ht (by omega) hne g e q.symm)
 have tne:∀ {c:Array Value} {t:TypeId} {b:Nat},W.heap[b]?=some (.cells c t)->t ≠ 5->W'.heap[b]?=some (.cells c t):=by
  intro c t b hb ht
  rw [hg.block b (Array.getElem?_eq_some_iff.1 hb).1 (own_ne pv hb ht)]
  exact hb
 refine ⟨tne h.i (by decide),?_,⟨fun t ht=>?_,fun s t hs ht hst=>?_⟩,h.bel.grown hg h.bel.size (fun k hk=>(pv.lt k hk).1),h.lB⟩
 ·rw [xsL_congr (y:=y) fun t ht=>if_neg (by omega)]
  refine ⟨h.own.1,?_⟩
  rcases h.own.2 with h | ⟨g,cap,cur,e,hB,hgg,h2⟩
  ·exact Or.inl h
  ·exact Or.inr ⟨g,cap,cur,e,hB,tne hgg (by decide),h2⟩
 ·by_cases e:t=n+1
  ·simp only [if_pos e]
   have:=keep (n+2) (by omega) (by omega)
   rw [hN,hf] at this
   rw [e,hu]
   exact this
  ·simp only [if_neg e]
   exact keep t (by omega) e
 ·by_cases e1:s=n+1
  ·have e2:t ≠ n+1:=fun q=>hst (e1.trans q.symm)
   simp only [if_pos e1,if_neg e2,hu]
   exact h.fam.dis _ _ (by omega) (by omega) (by omega)
  ·by_cases e2:t=n+1
   ·simp only [if_neg e1,if_pos e2,hu]
    exact h.fam.dis _ _ (by omega) (by omega) (by omega)
   ·simp only [if_neg e1,if_neg e2]
    exact h.fam.dis _ _ (by omega) (by omega) hst
theorem PaS.cells (h:PaS I rd ep lf n lv y m nn ff V W) (hm:n<=m) (hb:∀ i j,i < n->j < nn i->ff i j < 256) (hl:∀ i,i < n->nn i<=140737488351232):Cells W lv n y nn ff:=
 CF.cells (B:=V.heap.size) ⟨h.own,⟨fun t ht=>h.fam.rows t (by omega),fun s t hs ht=>h.fam.dis s t (by omega) (by omega)⟩⟩ hb hl
end
end Go.Proofs.YtjckkdjldnobmaaGreatDoor.Frm

namespace Go.Proofs.YtjckkdjldnobmaaGreatDoor.Frm
open Go.RowKit Gf8 Aes By8 Cel
/- Lists that are marked and grown apart (the law's apart): what goes through it. -/
def gM (f:Nat->Nat) (n z:Nat):Nat->Nat:=fun l=>if l < n then f l else z
structure ApS (B m N:Nat) (x:Nat->Value) (ff:Nat->Nat->Nat) (zz:Nat->Nat) (gv:Nat->Value) (gl:Nat->Nat) (W:World):Prop where
 fam:Fam B m x (fun _=>N) ff W
 grown:∀ t,t < m->W.ownsRow B 5 1 (gv t) (gl t) (bytesL (gl t) (gM (ff t) N (zz t)))
 le:∀ t,t < m->N<=gl t
 at':∀ t,t < m->(gv t).ownBlock=(x t).ownBlock\/∀ s,s < m->Dis (gv t) (x s)
 dis:∀ s t,s < m->t < m->s ≠ t->Dis (gv s) (gv t)
theorem ApS.begin {B m N:Nat} {x:Nat->Value} {ff:Nat->Nat->Nat} {zz:Nat->Nat} {W:World} (h:Fam B m x (fun _=>N) ff W):ApS B m N x ff zz x (fun _=>N) W:=
 ⟨h,fun t ht=>by
  have e:bytesL N (gM (ff t) N (zz t))=bytesL N (ff t):=bytesL_congr fun l hl=>if_pos hl
  rw [e]
  exact h.rows t ht,fun _ _=>Nat.le_refl _,fun _ _=>Or.inl rfl,h.dis⟩
theorem ApS.on {B m N:Nat} {x:Nat->Value} {ff:Nat->Nat->Nat} {zz:Nat->Nat} {gv:Nat->Value} {gl:Nat->Nat} {W W':World} (h:ApS B m N x ff zz gv gl W) (hb:Below W.heap.size W W'):ApS B m N x ff zz gv gl W':=
 ⟨h.fam.on hb,fun t ht=>ownsRow_below (h.grown t ht) hb,h.le,h.at',h.dis⟩
theorem ApS.cell {B m N:Nat} {x:Nat->Value} {ff:Nat->Nat->Nat} {zz:Nat->Nat} {gv:Nat->Value} {gl:Nat->Nat} {W:World} {b k:Nat} {c:Array Value} {u:Value} (h:ApS B m N x ff zz gv gl W) (hb:W.heap[b]?=some (.cells c 24)):ApS B m N x ff zz gv gl (W.setCell ⟨b,k,none⟩ u):=
 ⟨⟨fun t ht=>own_stays (h.fam.rows t ht) hb (fun e=>own_ne (h.fam.rows t ht) hb (by decide) e.symm),h.fam.dis⟩,fun t ht=>own_stays (h.grown t ht) hb (fun e=>own_ne (h.grown t ht) hb (by decide) e.symm),h.le,h.at',h.dis⟩
end Go.Proofs.YtjckkdjldnobmaaGreatDoor.Frm

namespace Go.Proofs.YtjckkdjldnobmaaGreatDoor.Frm
open Go.RowKit Gf8 Aes By8 Cel
/- What goes through the law's apart. -/
def Gx (m:Nat) (x:Nat->Value) (k:Nat):Prop:=∃ t,t < m/\(x t).ownBlock=some k
theorem ApS.cg {B m N:Nat} {x:Nat->Value} {ff:Nat->Nat->Nat} {zz:Nat->Nat} {gv:Nat->Value} {gl gl':Nat->Nat} {W:World} (h:ApS B m N x ff zz gv gl W) (e:∀ t,t < m->gl t=gl' t):ApS B m N x ff zz gv gl' W:=
 ⟨h.fam,fun t ht=>by rw [← e t ht]; exact h.grown t ht,fun t ht=>by rw [← e t ht]; exact h.le t ht,h.at',h.dis⟩
structure MoS (B m N:Nat) (x gv:Nat->Value) (gl:Nat->Nat) (mo:Nat->Value) (R:Nat) (V W:World):Prop where
 ap:ApS B m N x (fun t _=>t % 256) (fun t=>(t+100) % 256) gv gl W
 sv:Saved (Gx m x) V W
 row:∃ c,W.heap[R]?=some (.cells c 24)/\c.size=m/\∀ t,t < m->c[t]?=some (mo t)
 new:V.heap.size<=R
 pl:∀ t,t < m->∀ k,(gv t).ownBlock=some k->V.heap.size<=k\/Gx m x k
section
variable {B m N:Nat} {x gv:Nat->Value} {gl:Nat->Nat} {mo:Nat->Value} {R:Nat} {V W W':World}
theorem MoS.cg {gl':Nat->Nat} {mo':Nat->Value} (h:MoS B m N x gv gl mo R V W) (e:∀ t,t < m->gl t=gl' t) (e':∀ t,t < m->mo t=mo' t):MoS B m N x gv gl' mo' R V W:=
 ⟨h.ap.cg e,h.sv,by obtain ⟨c,h1,h2,h3⟩:=h.row; exact ⟨c,h1,h2,fun t ht=>by rw [← e' t ht]; exact h3 t ht⟩,h.new,h.pl⟩
theorem MoS.on (h:MoS B m N x gv gl mo R V W) (hb:Below W.heap.size W W'):MoS B m N x gv gl mo R V W':=
 ⟨h.ap.on hb,h.sv.below hb h.sv.size,by obtain ⟨c,h1,h2,h3⟩:=h.row; exact ⟨c,by rw [hb.block _ (Array.getElem?_eq_some_iff.1 h1).1]; exact h1,h2,h3⟩,h.new,h.pl⟩
theorem MoS.put (h:MoS B m N x gv gl mo R V W) (i:Nat) (u:Value):MoS B m N x gv gl (updX mo i u) R V (W.setCell ⟨R,i,none⟩ u):=by
 obtain ⟨c,h1,h2,h3⟩:=h.row
 refine ⟨h.ap.cell h1,h.sv.cell _ (Or.inl h.new),⟨c.setIfInBounds i u,heap4 _ h1,by rw [Array.size_setIfInBounds]; exact h2,fun t ht=>?_⟩,h.new,h.pl⟩
 rw [Array.getElem?_setIfInBounds]
 unfold updX
 by_cases e:i=t
 ·subst e
  rw [if_pos rfl,if_pos rfl,if_pos (by omega)]
 ·rw [if_neg e,if_neg (fun q=>e q.symm)]
  exact h3 t ht
theorem MoS.at (h:MoS B m N x gv gl mo R V W) {i:Nat} (hi:i < m):W.cell? ⟨R,i,none⟩=some (mo i)/\W.frozen? ⟨R,i,none⟩=false:=by
 obtain ⟨c,h1,h2,h3⟩:=h.row
 exact ⟨by rw [cell_of_row _ _ _ _ _ _ h1]; exact h3 i hi,frozen4 h1⟩
end
end Go.Proofs.YtjckkdjldnobmaaGreatDoor.Frm

namespace Go.Proofs.YtjckkdjldnobmaaGreatDoor.Frm
open Go.RowKit Gf8 Aes By8 Cel
/- FrameBack. -/
theorem pack_read {p:Nat->Nat} {len:Nat} (hb:∀ j,j < len->p j < 256) (h:(jE p len).2=0):rK p len<=256/\packE (rRound p len) (rEpoch p len) (rLeft p len) (rK p len) (fun _=>320)=0/\packN (rRound p len) (rEpoch p len) (rLeft p len) (rK p len) (fun _=>320)=len/\(∀ j,j < len->packI (rRound p len) (rEpoch p len) (rLeft p len) (rK p len) (cellB p) j=p j)/\cellAt (rK p len)+4=len:=by
 obtain ⟨q1,q2,q3,q4,q5,q6,q7⟩:=ok_parts hb h
 obtain ⟨g,g1,g2⟩:=ok_good q1 q2
 have ok:okR p len=true:=by unfold okR; rw [h]; rfl
 have r1:rRound p len=rdN p 8 8:=by unfold rRound jRound; rw [if_pos ok,if_pos q1]
 have r2:rEpoch p len=rdN p 16 8:=by unfold rEpoch jEpoch; rw [if_pos ok,if_pos q1]
 have r3:rLeft p len=(p 5:Int):=by unfold rLeft jLeft; rw [if_pos ok,if_pos q1]
 have r4:rK p len=nCells p:=by unfold rK jK; rw [if_pos ok,if_pos q1]; exact q4
 rw [r1,r2,r3,r4]
 have hd:hdOk (rdN p 8 8) (rdN p 16 8) (p 5)=true:=by
  unfold hdOk
  have a:=g.rd
  have b:=g.ep
  have c:=g.lf
  simp
  omega
 have e:packE (rdN p 8 8) (rdN p 16 8) (p 5) (nCells p) (fun _=>320)=0:=by
  unfold packE
  rw [if_pos hd,if_pos q2,if_pos ((allC_iff _ _).2 fun _ _=>rfl)]
 refine ⟨q2,e,by unfold packN; rw [if_pos e]; exact q3.symm,fun j hj=>?_,q3.symm⟩
 unfold packI
 exact (back_pack hb h j hj).symm
theorem cellB_lt {p:Nat->Nat} {len k:Nat} (hb:∀ j,j < len->p j < 256) (hk:cellAt k<=len):∀ i j,i < k->j < 320->cellB p i j < 256:=by
 intro i j hi hj
 have:=cellAt_mono hi
 exact hb _ (by omega)
end Go.Proofs.YtjckkdjldnobmaaGreatDoor.Frm

namespace Go.Proofs.YtjckkdjldnobmaaGreatDoor.Frm
open Go.RowKit Gf8 Aes By8 Cel
/- Lists of cells put together; two Feeds. -/
theorem CG.grown {B C k n:Nat} {x:Nat->Value} {cb:Nat->Nat->Nat} {cv v:Value} {W W':World} {xs:List Value} (h:CG B k x cb cv W) (hv:W.ownsRow C 24 1 v n xs) (hg:W.grownBy W' v.ownBlock) (hd:∀ g,cv.ownBlock=some g->v.ownBlock ≠ some g):CG B k x cb cv W':=by
 refine ⟨?_,h.fam.grown hv hg⟩
 refine h.own.kept hg ?_
 cases e:cv.ownBlock with
 | none=>exact Or.inl rfl
 | some g=>exact Or.inr (fun q=>hd g e q.symm)
theorem FAt.grown {F C n:Nat} {s:FSt} {v:Value} {W W':World} {xs:List Value} (h:FAt F s W) (hv:W.ownsRow C 24 1 v n xs) (hg:W.grownBy W' v.ownBlock):FAt F s W':=
 ⟨by rw [hg.block F h.lt (ownL_ne hv h.row (by decide))]; exact h.row⟩
end Go.Proofs.YtjckkdjldnobmaaGreatDoor.Frm

namespace Go.Proofs.YtjckkdjldnobmaaGreatDoor.Frm
open Go.RowKit Gf8 Aes By8 Cel
/- Groundwork for FrameReads: appends under a guard; lists that stay. -/
theorem rk_facts {p:Nat->Nat} {len:Nat} (hb:∀ j,j < len->p j < 256):rK p len<=256/\∀ i j,i < rK p len->j < 320->cellB p i j < 256:=by
 by_cases h:(jE p len).2=0
 ·obtain ⟨h1,_,_,_,h5⟩:=pack_read hb h
  exact ⟨h1,cellB_lt hb (by omega)⟩
 ·have e:rK p len=0:=by
   unfold rK okR
   rw [if_neg]
   simpa using h
  rw [e]
  exact ⟨by omega,fun i j hi=>by omega⟩
structure LtB (b k:Nat) (x:Nat->Value) (cv:Value):Prop where
 own:∀ g,cv.ownBlock=some g->g < b
 rows:∀ t,t < k->∀ g,(x t).ownBlock=some g->g < b
theorem row_onB {W W':World} {B n b t:Nat} {v:Value} {xs:List Value} (h:W.ownsRow B t 1 v n xs) (hl:∀ g,v.ownBlock=some g->g < b) (hb:Below b W W'):W'.ownsRow B t 1 v n xs:=by
 refine ⟨h.1,?_⟩
 rcases h.2 with h | ⟨g,cap,cur,e,hB,hg,h2⟩
 ·exact Or.inl h
 ·exact Or.inr ⟨g,cap,cur,e,hB,by rw [hb.block g (hl g (by rw [e]; rfl))]; exact hg,h2⟩
theorem CL.onB {B k b:Nat} {x:Nat->Value} {p:Nat->Nat} {cv:Value} {W W':World} (h:CL B k x p cv W) (hl:LtB b k x cv) (hb:Below b W W'):CL B k x p cv W':=
 ⟨row_onB h.own hl.own hb,⟨fun t ht=>row_onB (h.fam.rows t ht) (hl.rows t ht) hb,h.fam.dis⟩⟩
end Go.Proofs.YtjckkdjldnobmaaGreatDoor.Frm

namespace Go.Proofs.YtjckkdjldnobmaaGreatDoor.Frm
open Go.RowKit Gf8 Aes By8 Cel
/- FramePacks. -/
theorem Cells.cg {W:World} {cv:Value} {n:Nat} {xv:Nat->Value} {ln lm:Nat->Nat} {c d:Nat->Nat->Nat} (h:Cells W cv n xv ln c) (e:∀ i,i < n->ln i=lm i) (f:∀ i j,i < n->j < ln i->c i j=d i j):Cells W cv n xv lm d:=
 ⟨h.shape,fun i hi=>by have:=sliceN_cg (h.cell i hi) (q:=d i) (fun j hj=>f i j hi hj); rw [e i hi] at this; exact this,h.nil,fun i hi=>by rw [← e i hi]; exact h.lens i hi⟩
theorem pack_lt {rd ep lf:Int} {n:Nat} {ln:Nat->Nat} {c:Nat->Nat->Nat} (hc:∀ i j,i < n->j < ln i->c i j < 256):∀ j,j < packN rd ep lf n ln->packI rd ep lf n c j < 256:=by
 intro j hj
 by_cases e0:packE rd ep lf n ln=0
 ·obtain ⟨rn,en,lnn,er,E,el,gd,hal,hN⟩:=packE_ok e0
  rw [hN] at hj
  rw [er,E,el]
  show packF rn en lnn n c j < 256
  by_cases h:j < cellAt n
  ·rw [packF_in _ _ _ _ _ h]
   exact packB_lt _ _ _ _ _ (by have:=gd.lf; omega) (fun a b ha hb=>hc a b ha (by rw [hal a ha]; exact hb)) h
  ·obtain ⟨i,rfl⟩:∃ i,j=cellAt n+i:=⟨j - cellAt n,by omega⟩
   rw [packF_foot]
   exact footF_lt _ _ _
 ·unfold packN at hj
  rw [if_neg e0] at hj
  omega
theorem execFldB0 {o:Oper} {a:Act} {w:World} {x:Operand} {g:Nat} (ho:o.op=.fieldAddr 54 x 0) (hx:a.eval x=.pointer (some ⟨g,0,none⟩)):(execOp a.eval o).run Tryz.prog w=.ok (.value (.pointer (some ⟨g,0,none⟩))) w:=by
 unfold execOp
 simp only [ho,hx]
 simp [go_sem]
theorem execFldB1 {o:Oper} {a:Act} {w:World} {x:Operand} {g:Nat} (ho:o.op=.fieldAddr 54 x 1) (hx:a.eval x=.pointer (some ⟨g,0,none⟩)):(execOp a.eval o).run Tryz.prog w=.ok (.value (.pointer (some ⟨g,3,none⟩))) w:=by
 unfold execOp
 simp only [ho,hx]
 simp [go_sem]
theorem execAllB {o:Oper} {a:Act} {w:World} (ho:o.op=.alloc 54):(execOp a.eval o).run Tryz.prog w=.ok (.value (.pointer (some ⟨w.heap.size,0,none⟩))) (w.alloc (.cells (bC 0 0 0 (.slice none 0 0)) 54)):=by
 have z:=zeroB
 unfold execOp
 simp only [ho]
 simp [go_sem,z,bC]
theorem execBt2 {o:Oper} {a:Act} {w:World} {x y:Operand} {rd ep lf:Int} {v:Value} (ho:o.op=.build 54 #[(0,x),(1,y)]) (hx:a.eval x=.agg (hC rd ep lf)) (hy:a.eval y=v) (hv:∃ a n c,v=.slice a n c):(execOp a.eval o).run Tryz.prog w=.ok (.value (.agg (bC rd ep lf v))) w:=by
 obtain ⟨ao,n,c,rfl⟩:=hv
 exact execB2 ho hx hy
theorem CF.rowT {B k:Nat} {x:Nat->Value} {ln:Nat->Nat} {c:Nat->Nat->Nat} {cv:Value} {W:World} (h:CF B k x ln c cv W) {R:Nat} {d:Array Value} {t:TypeId} (hr:W.heap[R]?=some (.cells d t)) (h1:t ≠ 24) (h2:t ≠ 5) (e:Array Value):CF B k x ln c cv (W.setRow R e):=
 ⟨ownL_row h.own hr h1 e,⟨fun t ht=>ownsRow_row (h.fam.rows t ht) hr h2 e,h.fam.dis⟩⟩
end Go.Proofs.YtjckkdjldnobmaaGreatDoor.Frm
