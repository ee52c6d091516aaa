import Derived.Test.YtjjegmflllpknaaZ9a
import Derived.Test.YtjjegmflllpknaaF9b
import Derived.Test.YtjjegmflllpknaaP9b
import Derived.Test.YtjjegmflllpknaaF9c
import Derived.Lib.SliceRun
namespace Go.Proofs.Ytjjegmflllpknaa.Tap
open Go.RowKit Gf8 Aes By8 Cel Cf
/- The law's awake, TapeJoins. Written by tools/mkV9o.py. -/
theorem execDec {o:Oper} {a:Act} {P:Program} {w w':World} {b c:Bool} (h:(execOp a.eval o).run P w=.ok (.value (.bool b)) w') (e:b=c):(execOp a.eval o).run P w=.ok (.value (.bool c)) w':=by rw [h,e]
end Go.Proofs.Ytjjegmflllpknaa.Tap

namespace Go.Proofs.Ytjjegmflllpknaa.Prm
open Go.RowKit Gf8 Aes By8 Cel Cf Tap Drw
/- Stage 11's reference: Check, Identity, Bounds, Put. Written by tools/mkP9c.py. -/
theorem infoBl:∃ i,Try.prog.info? 4=some i/\i.zero=some (.bool false)/\i.size=1/\i.bytes=1:=by
 have h:(Try.prog.info? 4).map (fun i=>(i.zero,i.size,i.bytes))=some (some (.bool false),1,1):=by kernel_rfl
 cases hq:Try.prog.info? 4 with
 | none=>rw [hq] at h; cases h
 | some i=>
  rw [hq] at h
  simp only [Option.map_some,Option.some.injEq,Prod.mk.injEq] at h
  exact ⟨i,rfl,h.1,h.2.1,h.2.2⟩
section
variable {o:Oper} {a:Act} {w:World}
theorem execMkBl {x y:Operand} {n:Nat} (ho:o.op=.makeSlice 43 x y) (hx:a.eval x=.int .i64 (n:Int)) (hy:a.eval y=.int .i64 (n:Int)) (hn:n<=140737488355328):(execOp a.eval o).run Try.prog w=.ok (.value (.slice (some ⟨w.heap.size,0,none⟩) n n)) (w.alloc (.cells (madeCells #[.bool false] n) 4)):=by
 obtain ⟨i,h1,h2,h3,h4⟩:=infoBl
 have h:=run_make (P:=Try.prog) w 43 4 i (.bool false) Try.underlying43 h1 h2 .i64 .i64 (n:Int) (n:Int) (by omega) (by omega) (by rw [h4]; omega) (by omega)
 rw [h3,Int.toNat_natCast,Nat.mul_one] at h
 unfold execOp
 simp only [ho,hx,hy,Sem.run_bind,h,Result.andThen_ok,Sem.run_pure]
 rfl
end
end Go.Proofs.Ytjjegmflllpknaa.Prm

namespace Go.Proofs.Ytjjegmflllpknaa.Prm
open Go.RowKit Gf8 Aes By8 Cel Cf Tap Drw
/- Stage 11's reference: Inverse, Compose, Apply, Fit, From. Written by tools/mkP9d.py. -/
theorem shpO {W:World} {B n:Nat} {t:TypeId} {v:Value} {xs:List Value} (h:W.ownsRow B t 1 v n xs):∃ g c,v=.slice g n c:=by
 rcases h.2 with ⟨rfl,rfl⟩ | ⟨g,cap,cur,rfl,_⟩
 ·exact ⟨_,_,rfl⟩
 ·exact ⟨_,_,rfl⟩
end Go.Proofs.Ytjjegmflllpknaa.Prm

namespace Go.Proofs.Ytjjegmflllpknaa.Prm
open Go.RowKit Gf8 Aes By8 Cel Cf Tap Drw
/- Stage 11's reference: find, Rank. Written by tools/mkP9e.py. -/
theorem SliceI.sub {w:World} {a:Option Addr} {len cap:Nat} {p:Nat->Int} (hv:SliceI w (.slice a len cap) len p) (l h:Nat) (h1:l<=h) (h2:h<=len) :
  SliceI w (sliced a l h cap 1) (h - l) (fun j=>p (l+j)):=by
 obtain ⟨⟨a',cap',e,e1,e2,e3⟩,hp⟩:=hv
 obtain ⟨rfl,_,rfl⟩:a=a'/\len=len/\cap=cap':=by
  injection e with x y z
  exact ⟨x,rfl,z⟩
 refine ⟨⟨_,cap - l,rfl,by omega,by omega,fun h0=>?_⟩,fun j hj=>hp (l+j) (by omega)⟩
 obtain ⟨b,off,rfl,hb,hc⟩:=e3 (by omega)
 rw [if_neg (by omega)]
 refine ⟨b,off+l,?_,hb,fun j hj=>?_⟩
 ·simp [Addr.add]
 ·rw [Nat.add_assoc]; exact hc (l+j) (by omega)
structure Two (V W:World) (u:Value) (nu:Nat) (fu:Nat->Int) (lv:Value) (nl:Nat) (fl:Nat->Int):Prop where
 ru:W.ownsRow V.heap.size 3 1 u nu (intsL nu fu)
 rl:W.ownsRow V.heap.size 3 1 lv nl (intsL nl fl)
 ap:∀ k,u.ownBlock=some k->lv.ownBlock ≠ some k
section
variable {V W W':World} {u lv:Value} {nu nl:Nat} {fu fl:Nat->Int}
theorem Two.on (h:Two V W u nu fu lv nl fl) (b:Below W.heap.size W W'):Two V W' u nu fu lv nl fl:=⟨ownD_below h.ru b,ownD_below h.rl b,h.ap⟩
theorem Two.over {C m:Nat} {v2:Value} {ys:List Value} (h:Two V W u nu fu lv nl fl) (hu:∀ k,u.ownBlock=some k->k < C) (hl:∀ k,lv.ownBlock=some k->k < C) (h2:W.ownsRow C 3 1 v2 m ys) (gr:W.grownBy W' v2.ownBlock):Two V W' u nu fu lv nl fl:=
 ⟨own_overB h.ru hu h2 gr,own_overB h.rl hl h2 gr,h.ap⟩
theorem Two.new {C m nl':Nat} {v':Value} {f' fl':Nat->Int} (h:Two V W u nu fu lv nl fl) (hu:∀ k,u.ownBlock=some k->k < C) (own:W.ownsRow C 3 1 v' m (intsL m f')) (hC:V.heap.size<=C) (em:m=nl') (ef:∀ j,j < nl'->f' j=fl' j):Two V W u nu fu v' nl' fl':=by
 subst em
 refine ⟨h.ru,?_,fun k e q=>?_⟩
 ·rw [← intsL_congr ef]
  exact ownD_base own hC
 ·have a1:=hu k e
  have a2:=(own.lt k q).1
  omega
theorem Two.lo {g c k:Nat} (h:Two V W u nu fu (.slice (some ⟨g,0,none⟩) nl c) nl fl) (hf:∀ j,j < nl->-9223372036854775808<=fl j/\fl j < 9223372036854775808) (hk:k < nl):SliceI W (.slice (some ⟨g,0,none⟩) k c) k fl:=by
 have h2:=SliceI.sub (own_ints h.rl hf) 0 k (Nat.zero_le _) (by omega)
 rw [sliced_0,Nat.sub_zero] at h2
 exact h2.cg fun j _=>by rw [Nat.zero_add]
theorem Two.hi {g c k:Nat} (h:Two V W u nu fu (.slice (some ⟨g,0,none⟩) nl c) nl fl) (hf:∀ j,j < nl->-9223372036854775808<=fl j/\fl j < 9223372036854775808) (hk:k < nl):SliceI W (sliced (some ⟨g,0,none⟩) (k+1) nl c 1) (nl - (k+1)) (fun j=>fl (k+1+j)):=
 SliceI.sub (own_ints h.rl hf) (k+1) nl hk (Nat.le_refl _)
end
end Go.Proofs.Ytjjegmflllpknaa.Prm

namespace Go.Proofs.Ytjjegmflllpknaa.Prm
open Go.RowKit Gf8 Aes By8 Cel Cf Tap Drw
/- Stage 11's reference: Draws. Written by tools/mkP9g.py. -/
theorem own_offB {W:World} {B n s g k:Nat} {t:TypeId} {v z:Value} {xs:List Value} (h:W.ownsRow B t s v n xs) (hv:v.ownBlock ≠ some g):(W.setCell ⟨g,k,none⟩ z).ownsRow B t s v n xs:=by
 refine ⟨h.1,?_⟩
 rcases h.2 with h | ⟨g1,cap,cur,e,hB,h1,hr⟩
 ·exact Or.inl h
 ·refine Or.inr ⟨g1,cap,cur,e,hB,?_,hr⟩
  subst e
  rw [Below.heap_setCell _ _ _ _ (fun q=>hv (by show some g1=some g; have q2:g1=g:=q; rw [q2]))]
  exact h1
structure Thr (V W:World) (va vt:Value) (n:Nat) (fa ft:Nat->Int) (u:Value) (nu:Nat) (fu:Nat->Int):Prop where
 ra:W.ownsRow V.heap.size 3 1 va n (intsL n fa)
 rt:W.ownsRow V.heap.size 3 1 vt n (intsL n ft)
 ru:W.ownsRow V.heap.size 3 1 u nu (intsL nu fu)
 nat:∀ k,va.ownBlock=some k->vt.ownBlock ≠ some k
 nau:∀ k,u.ownBlock=some k->va.ownBlock ≠ some k/\vt.ownBlock ≠ some k
section
variable {V W W':World} {va vt u:Value} {n nu g c:Nat} {fa ft fu:Nat->Int}
theorem Thr.on (h:Thr V W va vt n fa ft u nu fu) (b:Below W.heap.size W W'):Thr V W' va vt n fa ft u nu fu:=⟨ownD_below h.ra b,ownD_below h.rt b,ownD_below h.ru b,h.nat,h.nau⟩
theorem Thr.atA {j:Nat} (h:Thr V W va vt n fa ft u nu fu) (e:va=.slice (some ⟨g,0,none⟩) n c) (hj:j < n):W.cell? ⟨g,0+j,none⟩=some (.int .i64 (fa j))/\W.frozen? ⟨g,0+j,none⟩=false:=by
 have h1:=h.ra
 rw [e] at h1
 exact own_cellI h1 hj
theorem Thr.setT {j:Nat} (h:Thr V W va vt n fa ft u nu fu) (e:vt=.slice (some ⟨g,0,none⟩) n c) (z:Int):Thr V (W.setCell ⟨g,0+j,none⟩ (.int .i64 z)) va vt n fa (fun i=>if i=j then z else ft i) u nu fu:=by
 have hb:vt.ownBlock=some g:=by rw [e]; rfl
 refine ⟨own_offB h.ra (fun q=>h.nat g q hb),?_,own_offB h.ru (fun q=>(h.nau g q).2 hb),h.nat,h.nau⟩
 have h1:=h.rt
 rw [e] at h1 ⊢
 exact own_setF z h1
end
end Go.Proofs.Ytjjegmflllpknaa.Prm

namespace Go.Proofs.Ytjjegmflllpknaa.Prm
open Go.RowKit Gf8 Aes By8 Cel Cf Tap Drw
/- Package perm as it landed: swap, From, Draws. Written by tools/mkM9c.py. -/
theorem grown_bel {a w w':World} {row:Option Nat} (h:a.grownBy w row) (hb:Below w.heap.size w w'):a.grownBy w' row:=
 ⟨hb.os.trans h.os,hb.tape.trans h.tape,hb.output.trans h.output,Nat.le_trans h.size hb.size,fun k hk hne=>(hb.block k (Nat.lt_of_lt_of_le hk h.size)).trans (h.block k hk hne)⟩
def atA (n:Nat) (g:Nat->Nat):Nat->Nat->Nat
 | 0,x=>x
 | k+1,x=>if x=drA n g k (n - 1 - k) then drD n g k else atA n g k x
section
variable {V W W':World} {va vt u:Value} {n nu g c:Nat} {fa ft fu:Nat->Int}
end
end Go.Proofs.Ytjjegmflllpknaa.Prm

namespace Go.Proofs.Ytjjegmflllpknaa.Prm
open Go.RowKit Gf8 Aes By8 Cel Cf Tap Drw
/- Package perm as it landed: slices.Delete of ints, Unrank. Written by tools/mkM9d.py. -/
section
variable {o:Oper} {a:Act} {w:World}
end
theorem own_takeI {W:World} {B n i g c:Nat} {f:Nat->Int} (h:W.ownsRow B 3 1 (.slice (some ⟨g,0,none⟩) n c) n (intsL n f)) (hi:i<=n):W.ownsRow B 3 1 (.slice (some ⟨g,0,none⟩) i c) i (intsL i f):=by
 refine ⟨by rw [intsL_len,Nat.mul_one],?_⟩
 rcases h.2 with ⟨e,_⟩ | ⟨g',cap',cur,e,hB,hg,h1,h2,h3,h4⟩
 ·cases e
 ·injection e with e1 e2 e3
  injection e1 with e1
  injection e1 with e1 _ _
  subst e1
  subst e3
  refine Or.inr ⟨g,c,cur,rfl,hB,hg,by omega,h2,h3,?_⟩
  apply List.ext_getElem?
  intro j
  by_cases hj:j < i
  ·have h5:(cur.toList.take (n * 1))[j]?=(intsL n f)[j]?:=by rw [h4]
   rw [List.getElem?_take_of_lt (by omega),intsL_get (by omega)] at h5
   rw [List.getElem?_take_of_lt (by omega),intsL_get hj]
   exact h5
  ·rw [List.getElem?_eq_none (by simp; omega),List.getElem?_eq_none (by rw [intsL_len]; omega)]
section
variable {V W W':World} {lv lw:Value} {nu nl nl' g gu cu:Nat} {fu fu' fl fl':Nat->Int} {k:Nat} {z:Value}
theorem Two.put (h:Two V W (.slice (some ⟨gu,0,none⟩) nu cu) nu fu lv nl fl) (own:(W.setCell ⟨gu,k,none⟩ z).ownsRow V.heap.size 3 1 (.slice (some ⟨gu,0,none⟩) nu cu) nu (intsL nu fu')):Two V (W.setCell ⟨gu,k,none⟩ z) (.slice (some ⟨gu,0,none⟩) nu cu) nu fu' lv nl fl:=
 ⟨own,own_offB h.rl (h.ap gu rfl),h.ap⟩
end
end Go.Proofs.Ytjjegmflllpknaa.Prm

namespace Go.Proofs.Ytjjegmflllpknaa.Prm
open Go.RowKit Gf8 Aes By8 Cel Cf Tap Drw
/- PermKeeps: many rows of ints side by side, lists of them. -/
structure FmI (B k:Nat) (x:Nat->Value) (nn:Nat->Nat) (ff:Nat->Nat->Int) (W:World):Prop where
 rows:∀ t,t < k->W.ownsRow B 3 1 (x t) (nn t) (intsL (nn t) (ff t))
 dis:∀ s t,s < k->t < k->s ≠ t->∀ b,(x s).ownBlock=some b->(x t).ownBlock ≠ some b
def updF (ff:Nat->Nat->Int) (t j:Nat) (z:Int):Nat->Nat->Int:=fun s i=>if s=t then (if i=j then z else ff t i) else ff s i
theorem updF_o {ff:Nat->Nat->Int} {t j s:Nat} {z:Int} (h:s ≠ t):updF ff t j z s=ff s:=by
 funext i
 exact if_neg h
theorem updF_at {ff:Nat->Nat->Int} {t j i:Nat} {z:Int}:updF ff t j z t i=if i=j then z else ff t i:=if_pos rfl
section
variable {B k:Nat} {x:Nat->Value} {nn:Nat->Nat} {ff:Nat->Nat->Int} {W W':World}
theorem FmI.on (h:FmI B k x nn ff W) (b:Below W.heap.size W W'):FmI B k x nn ff W':=⟨fun t ht=>ownD_below (h.rows t ht) b,h.dis⟩
theorem FmI.over {C m:Nat} {v2:Value} {ys:List Value} (h:FmI B k x nn ff W) (hlt:∀ t,t < k->∀ b,(x t).ownBlock=some b->b < C) (h2:W.ownsRow C 3 1 v2 m ys) (gr:W.grownBy W' v2.ownBlock):FmI B k x nn ff W':=
 ⟨fun t ht=>own_overB (h.rows t ht) (hlt t ht) h2 gr,h.dis⟩
theorem FmI.overT {C m s:Nat} {u:TypeId} {v2:Value} {ys:List Value} (h:FmI B k x nn ff W) (h2:W.ownsRow C u s v2 m ys) (hu:3 ≠ u) (gr:W.grownBy W' v2.ownBlock):FmI B k x nn ff W':=
 ⟨fun t ht=>own_overT (h.rows t ht) h2 gr hu,h.dis⟩
theorem FmI.add {C L:Nat} {r:Value} {F:Nat->Int} (h:FmI B k x nn ff W) (hlt:∀ t,t < k->∀ b,(x t).ownBlock=some b->b < C) (hr:W.ownsRow C 3 1 r L (intsL L F)) (hB:B<=C) (eL:nn k=L) (eF:∀ j,j < L->ff k j=F j):FmI B (k+1) (updX x k r) nn ff W:=by
 subst eL
 refine ⟨fun t ht=>?_,fun s t hs ht hst b e=>?_⟩
 ·by_cases e:t=k
  ·subst e
   rw [updX_at,intsL_congr eF]
   exact ownD_base hr hB
  ·rw [updX_lt _ _ (by omega)]
   exact h.rows t (by omega)
 ·by_cases e1:t=k
  ·subst e1
   rw [updX_lt _ _ (by omega)] at e
   rw [updX_at]
   intro e2
   have:=hlt s (by omega) b e
   have:=(hr.lt b e2).1
   omega
  ·rw [updX_lt x r (show t < k by omega)]
   by_cases e2:s=k
   ·subst e2
    rw [updX_at] at e
    intro e3
    have:=hlt t (by omega) b e3
    have:=(hr.lt b e).1
    omega
   ·rw [updX_lt _ _ (by omega)] at e
    exact h.dis s t (by omega) (by omega) hst b e
theorem FmI.set {t g c j:Nat} (h:FmI B k x nn ff W) (ht:t < k) (e:x t=.slice (some ⟨g,0,none⟩) (nn t) c) (z:Int):FmI B k x nn (updF ff t j z) (W.setCell ⟨g,0+j,none⟩ (.int .i64 z)):=by
 refine ⟨fun s hs=>?_,h.dis⟩
 by_cases q:s=t
 ·subst q
  have h1:=h.rows s hs
  rw [e] at h1 ⊢
  rw [intsL_congr (g:=fun i=>if i=j then z else ff s i) (fun i _=>updF_at)]
  exact own_setF z h1
 ·rw [updF_o q]
  exact own_offB (h.rows s hs) (h.dis t s ht hs (fun z=>q z.symm) g (by rw [e]; rfl))
theorem FmI.cell {t g c j:Nat} (h:FmI B k x nn ff W) (ht:t < k) (e:x t=.slice (some ⟨g,0,none⟩) (nn t) c) (hj:j < nn t):W.cell? ⟨g,0+j,none⟩=some (.int .i64 (ff t j))/\W.frozen? ⟨g,0+j,none⟩=false:=by
 have h1:=h.rows t ht
 rw [e] at h1
 exact own_cellI h1 hj
end
theorem infoLI:∃ i,Try.prog.info? 22=some i/\i.zero=some (.slice none 0 0)/\i.size=1/\i.bytes=24:=by
 have h:(Try.prog.info? 22).map (fun i=>(i.zero,i.size,i.bytes))=some (some (.slice none 0 0),1,24):=by kernel_rfl
 cases hq:Try.prog.info? 22 with
 | none=>rw [hq] at h; cases h
 | some i=>
  rw [hq] at h
  simp only [Option.map_some,Option.some.injEq,Prod.mk.injEq] at h
  exact ⟨i,rfl,h.1,h.2.1,h.2.2⟩
section
variable {o:Oper} {a:Act} {w:World}
end
structure K1 (V W:World) (k:Nat) (x:Nat->Value) (nn:Nat->Nat) (ff:Nat->Nat->Int) (lv:Value) (a:Nat):Prop where
 bel:Below V.heap.size V W
 fam:FmI V.heap.size k x nn ff W
 li:W.ownsRow V.heap.size 22 1 lv a (lL (fun t=>x (2+t)) a)
section
variable {V W W':World} {k a b bw:Nat} {x:Nat->Value} {nn:Nat->Nat} {ff:Nat->Nat->Int} {lv wv:Value}
theorem K1.on (h:K1 V W k x nn ff lv a) (b:Below W.heap.size W W'):K1 V W' k x nn ff lv a:=⟨h.bel.trans (b.mono h.bel.size),h.fam.on b,ownD_below h.li b⟩
theorem K1.blt (h:K1 V W k x nn ff lv a):∀ t,t < k->∀ b,(x t).ownBlock=some b->b < W.heap.size:=fun t ht b e=>((h.fam.rows t ht).lt b e).2
theorem lL_updX {r:Value} {s:Nat} (h:s+a<=k):lL (fun t=>updX x k r (s+t)) a=lL (fun t=>x (s+t)) a:=lL_congr a fun t ht=>updX_lt _ _ (by omega)
theorem K1.add {C L:Nat} {r:Value} {F:Nat->Int} (h:K1 V W k x nn ff lv a) (ha:2+a<=k) (hlt:∀ t,t < k->∀ b,(x t).ownBlock=some b->b < C) (hr:W.ownsRow C 3 1 r L (intsL L F)) (hB:V.heap.size<=C) (eL:nn k=L) (eF:∀ j,j < L->ff k j=F j):K1 V W (k+1) (updX x k r) nn ff lv a:=
 ⟨h.bel,h.fam.add hlt hr hB eL eF,by rw [lL_updX ha]; exact h.li⟩
theorem K1.call {L:Nat} {r:Value} {F:Nat->Int} (h:K1 V W k x nn ff lv a) (ha:2+a<=k) (hb:Below W.heap.size W W') (hr:W'.ownsRow W.heap.size 3 1 r L (intsL L F)) (eL:nn k=L) (eF:∀ j,j < L->ff k j=F j):K1 V W' (k+1) (updX x k r) nn ff lv a:=
 (h.on hb).add ha h.blt hr h.bel.size eL eF
theorem K1.app {lv':Value} {a':Nat} (h:K1 V W k x nn ff lv a) (own:W'.ownsRow V.heap.size 22 1 lv' a' (lL (fun t=>x (2+t)) a')) (gr:W.grownBy W' lv.ownBlock):K1 V W' k x nn ff lv' a':=
 ⟨h.bel.grown gr h.bel.size (fun b e=>(h.li.lt b e).1),h.fam.overT h.li (by decide) gr,own⟩
theorem K1.shp (h:K1 V W k x nn ff lv a) {t:Nat} (ht:t < k):∃ g n c,x t=.slice g n c:=by
 obtain ⟨g,c,e⟩:=shpO (h.fam.rows t ht)
 exact ⟨g,_,c,e⟩
structure K2 (V W:World) (k:Nat) (x:Nat->Value) (nn:Nat->Nat) (ff:Nat->Nat->Int) (lv wv:Value) (bw b:Nat):Prop where
 k1:K1 V W k x nn ff lv 18
 wa:W.ownsRow bw 22 1 wv b (lL (fun t=>x (20+t)) b)
 lb:∀ g,lv.ownBlock=some g->g < bw
 b1:V.heap.size<=bw
 b2:bw<=W.heap.size
theorem K2.on (h:K2 V W k x nn ff lv wv bw b) (q:Below W.heap.size W W'):K2 V W' k x nn ff lv wv bw b:=⟨h.k1.on q,ownD_below h.wa q,h.lb,h.b1,Nat.le_trans h.b2 q.size⟩
theorem K2.over {C m:Nat} {v2:Value} {ys:List Value} (h:K2 V W k x nn ff lv wv bw b) (hlt:∀ t,t < k->∀ b,(x t).ownBlock=some b->b < C) (hC:V.heap.size<=C) (h2:W.ownsRow C 3 1 v2 m ys) (gr:W.grownBy W' v2.ownBlock):K2 V W' k x nn ff lv wv bw b:=
 ⟨⟨h.k1.bel.grown gr h.k1.bel.size (fun b e=>Nat.le_trans hC (h2.lt b e).1),h.k1.fam.over hlt h2 gr,own_overT h.k1.li h2 gr (by decide)⟩,own_overT h.wa h2 gr (by decide),h.lb,h.b1,Nat.le_trans h.b2 gr.size⟩
theorem K2.add {C L:Nat} {r:Value} {F:Nat->Int} (h:K2 V W k x nn ff lv wv bw b) (hk:20+b<=k) (hlt:∀ t,t < k->∀ b,(x t).ownBlock=some b->b < C) (hr:W.ownsRow C 3 1 r L (intsL L F)) (hB:V.heap.size<=C) (eL:nn k=L) (eF:∀ j,j < L->ff k j=F j):K2 V W (k+1) (updX x k r) nn ff lv wv bw b:=
 ⟨h.k1.add (by omega) hlt hr hB eL eF,by rw [lL_updX hk]; exact h.wa,h.lb,h.b1,h.b2⟩
theorem K2.app {wv':Value} {b':Nat} (h:K2 V W k x nn ff lv wv bw b) (own:W'.ownsRow bw 22 1 wv' b' (lL (fun t=>x (20+t)) b')) (gr:W.grownBy W' wv.ownBlock):K2 V W' k x nn ff lv wv' bw b':=
 ⟨⟨h.k1.bel.grown gr h.k1.bel.size (fun b e=>Nat.le_trans h.b1 (h.wa.lt b e).1),h.k1.fam.overT h.wa (by decide) gr,ownW_grown h.k1.li gr (fun g e q=>by have:=h.lb g e; have:=(h.wa.lt g q).1; omega)⟩,own,h.lb,h.b1,Nat.le_trans h.b2 gr.size⟩
theorem K2.set {t g c j:Nat} (h:K2 V W k x nn ff lv wv bw b) (ht:t < k) (e:x t=.slice (some ⟨g,0,none⟩) (nn t) c) (z:Int):K2 V (W.setCell ⟨g,0+j,none⟩ (.int .i64 z)) k x nn (updF ff t j z) lv wv bw b:=by
 have h1:=h.k1.fam.rows t ht
 rw [e] at h1
 obtain ⟨cur,hg,hB⟩:=own_cur h1
 exact ⟨⟨h.k1.bel.setCell hB _,h.k1.fam.set ht e z,own_offT h.k1.li hg (by decide)⟩,own_offT h.wa hg (by decide),h.lb,h.b1,Nat.le_trans h.b2 (by simp [World.setCell])⟩
end
end Go.Proofs.Ytjjegmflllpknaa.Prm
