import Derived.Test.YtjjegmflllpknaaE8h
import Derived.Laws.Cover3
namespace Go.Proofs.Ytjjegmflllpknaa.Win
open Go.RowKit Gf8 Aes By8 Cel Cf
/- Windows in memory of their own; what Open and Add need. Written by tools/mkC9m.py. -/
def up {α:Type} (f:Nat->α) (k:Nat) (z:α) (j:Nat):α:=if j=k then z else f j
theorem up_at {α:Type} (f:Nat->α) (k:Nat) (z:α):up f k z k=z:=if_pos rfl
theorem up_ne {α:Type} (f:Nat->α) {k j:Nat} (z:α) (h:j ≠ k):up f k z j=f j:=if_neg h
section
variable {W W':World} {B n s:Nat} {t:TypeId} {v:Value} {xs:List Value}
theorem ownE_below (h:W.ownsRow B t s v n xs) (hb:Below W.heap.size W W'):W'.ownsRow B t s v n xs:=by
 refine ⟨h.1,?_⟩
 rcases h.2 with h | ⟨g,cap,cur,e,hB,hg,hr⟩
 ·exact Or.inl h
 ·exact Or.inr ⟨g,cap,cur,e,hB,by rw [hb.block _ (Array.getElem?_eq_some_iff.1 hg).1]; exact hg,hr⟩
theorem ne_type {g k:Nat} {c d:Array Value} {u w:TypeId} (h1:W.heap[g]?=some (.cells c u)) (h2:W.heap[k]?=some (.cells d w)) (h:u ≠ w):k ≠ g:=fun q=>by
 subst q
 rw [h1] at h2
 injection h2 with h2
 injection h2 with _ h2 _
 exact h h2
theorem heapE_over {g:Nat} {c:Array Value} {u:TypeId} (h:W.ownsRow B t s v n xs) (hg:W.grownBy W' v.ownBlock) (hh:W.heap[g]?=some (.cells c u)) (hu:u ≠ t):W'.heap[g]?=some (.cells c u):=by
 rw [hg.block g (Array.getElem?_eq_some_iff.1 hh).1 (fun q=>?_)]
 ·exact hh
 ·rcases h.2 with ⟨rfl,_⟩ | ⟨k,cap,cur,rfl,_,h1,_⟩
  ·cases q
  ·obtain rfl:g=k:=by simpa [Value.ownBlock] using q
   exact ne_type h1 hh (fun e=>hu e.symm) rfl
theorem ownE_over {B2 n2 s2:Nat} {u:Value} {ys:List Value} {t2:TypeId} (h:W.ownsRow B t s v n xs) (hu:W.ownsRow B2 t2 s2 u n2 ys) (gr:W.grownBy W' u.ownBlock) (ht:t ≠ t2):W'.ownsRow B t s v n xs:=by
 refine ⟨h.1,?_⟩
 rcases h.2 with h | ⟨g,cap,cur,e,hB,hg,hr⟩
 ·exact Or.inl h
 ·exact Or.inr ⟨g,cap,cur,e,hB,heapE_over hu gr hg ht,hr⟩
end
section
variable {B n:Nat} {W W':World} {v:Value} {nu:Nat->Int} {tw:Nat->Value} {ln:Nat->Nat} {t:Nat->Nat->Nat->Nat}
end
section
variable {o:Oper} {a:Act} {w:World}
end
end Go.Proofs.Ytjjegmflllpknaa.Win

namespace Go.Proofs.Ytjjegmflllpknaa.Win
open Go.RowKit Gf8 Aes By8 Cel Cf
/- The reference's Open. Written by tools/mkC9n.py. -/
theorem cat0 {s p:Nat->Nat->Nat}:catT 0 s p=p:=funext fun k=>by
 unfold catT
 rw [if_neg (Nat.not_lt_zero _),Nat.sub_zero]
end Go.Proofs.Ytjjegmflllpknaa.Win

namespace Go.Proofs.Ytjjegmflllpknaa.Win
open Go.RowKit Gf8 Aes By8 Cel Cf
/- What the reference's Add needs. Written by tools/mkC9o.py. -/
theorem execLeN {o:Oper} {a:Act} {w:World} {x y:Operand} {p q:Nat} (ho:o.op=.binOp .leq 3 x y 3) (hx:a.eval x=.int .i64 (p:Int)) (hy:a.eval y=.int .i64 (q:Int)):(execOp a.eval o).run Try.prog w=.ok (.value (.bool (decide (p<=q)))) w:=by
 unfold execOp
 simp only [ho,hx,hy]
 simp [go_sem]
def PI (es:List Ep) (ep:Int) (f:List Nat) (i:Nat) (pb:Bool) (o:List Ep):Prop:=if pb then o ++ es.drop i=putW es ep f else f ≠ []/\o ++ putE (es.drop i) ep f=putE es ep f
section
variable {es o:List Ep} {ep:Int} {f:List Nat} {i:Nat} {x:Ep}
theorem PI.begin:PI es ep f 0 (decide (f=[])) []:=by
 unfold PI
 by_cases h:f=[]
 ·rw [if_pos (decide_eq_true h),putW,if_pos h]; rfl
 ·rw [if_neg (by rw [decide_eq_true_iff]; exact h)]
  exact ⟨h,rfl⟩
theorem PI.ne (h:PI es ep f i false o):f ≠ []:=h.1
theorem pi_f (h:PI es ep f i false o):o ++ putE (es.drop i) ep f=putW es ep f:=by
 have h2:=h.2
 rw [putW,if_neg h.1]
 exact h2
theorem PI.last (h:PI es ep f i false o) (hi:es.drop i=[]):PI es ep f i true (o ++ [(ep,f)]):=by
 have h2:=pi_f h
 rw [hi] at h2
 show o ++ [(ep,f)] ++ es.drop i=_
 rw [hi,List.append_nil]
 exact h2
theorem PI.ahead (h:PI es ep f i false o) (hi:es.drop i=x :: es.drop (i+1)) (hx:ep < x.1):PI es ep f i true (o ++ [(ep,f)]):=by
 have h2:=pi_f h
 rw [hi,putE,if_pos hx] at h2
 show o ++ [(ep,f)] ++ es.drop i=_
 rw [hi,List.append_assoc]
 exact h2
theorem PI.into (h:PI es ep f i false o) (hi:es.drop i=x :: es.drop (i+1)) (hx:x.1=ep):PI es ep f (i+1) true (o ++ [(x.1,srt (x.2 ++ f))]):=by
 have h2:=pi_f h
 rw [hi,putE,if_neg (by omega),if_pos hx] at h2
 show o ++ [_] ++ es.drop (i+1)=_
 rw [List.append_assoc]
 exact h2
theorem PI.next (h:PI es ep f i true o) (hi:es.drop i=x :: es.drop (i+1)):PI es ep f (i+1) true (o ++ [x]):=by
 have h2:o ++ es.drop i=putW es ep f:=h
 rw [hi] at h2
 show o ++ [x] ++ es.drop (i+1)=_
 rw [List.append_assoc]
 exact h2
end
end Go.Proofs.Ytjjegmflllpknaa.Win

namespace Go.Proofs.Ytjjegmflllpknaa.Win
open Go.RowKit Gf8 Aes By8 Cel Cf
/- The laws' tag and some; what the program's package keeps. Written by tools/mkC9q.py. -/
structure Wd (V:World) (nw:Int) (ev:Value) (n:Nat) (nu:Nat->Int) (tw:Nat->Value) (ln:Nat->Nat) (t:Nat->Nat->Nat->Nat):Prop where
 eps:Eps V ev n nu tw ln t
 n32:n * 32<=140737488351232
 ln16:∀ j,j < n->ln j * 16<=140737488351232
 num:I64 nw
theorem Wd.on {V W:World} {nw:Int} {ev:Value} {n:Nat} {nu:Nat->Int} {tw:Nat->Value} {ln:Nat->Nat} {t:Nat->Nat->Nat->Nat} (h:Wd V nw ev n nu tw ln t) (hb:Below V.heap.size V W):Wd W nw ev n nu tw ln t:=⟨h.eps.on hb,h.n32,h.ln16,h.num⟩
theorem Wd.n63 {V:World} {nw:Int} {ev:Value} {n:Nat} {nu:Nat->Int} {tw:Nat->Value} {ln:Nat->Nat} {t:Nat->Nat->Nat->Nat} (h:Wd V nw ev n nu tw ln t):n < 9223372036854775808:=by have:=h.n32; omega
section
variable {o:Oper} {a:Act} {w:World}
theorem execEqE {x y:Operand} {p q:Nat} (ho:o.op=.binOp .eql 32 x y 32) (hx:a.eval x=.int .i64 (p:Int)) (hy:a.eval y=.int .i64 (q:Int)):(execOp a.eval o).run Try.prog w=.ok (.value (.bool (decide (p=q)))) w:=by
 unfold execOp
 simp only [ho,hx,hy]
 by_cases h:p=q
 ·subst h
  simp [go_sem]
 ·have h2:¬ (p:Int)=q:=by omega
  simp [go_sem,h,h2]
theorem execNeE {x y:Operand} {p q:Nat} (ho:o.op=.binOp .neq 32 x y 32) (hx:a.eval x=.int .i64 (p:Int)) (hy:a.eval y=.int .i64 (q:Int)):(execOp a.eval o).run Try.prog w=.ok (.value (.bool (decide (p ≠ q)))) w:=by
 unfold execOp
 simp only [ho,hx,hy]
 by_cases h:p=q
 ·subst h
  simp [go_sem]
 ·have h2:¬ (p:Int)=q:=by omega
  simp [go_sem,h,h2]
end
end Go.Proofs.Ytjjegmflllpknaa.Win

namespace Go.Proofs.Ytjjegmflllpknaa.Win
open Go.RowKit Gf8 Aes By8 Cel Cf
/- WindowNames, WindowOpens, WindowAdds, WindowChecks over what the package keeps. Written by tools/mkC9s.py. -/
theorem Eps.cg {W:World} {v:Value} {n:Nat} {nu mu:Nat->Int} {tw:Nat->Value} {ln lm:Nat->Nat} {t:Nat->Nat->Nat->Nat} (h:Eps W v n nu tw ln t) (h1:∀ j,j < n->nu j=mu j) (h2:∀ j,j < n->ln j=lm j):Eps W v n mu tw lm t:=by
 obtain ⟨⟨a,c,e,q1,q2,q3⟩,hl,hn⟩:=h
 refine ⟨⟨a,c,e,q1,q2,fun h0=>?_⟩,fun j hj=>by rw [← h2 j hj]; exact hl j hj,fun j hj=>by rw [← h1 j hj]; exact hn j hj⟩
 obtain ⟨b,o,e1,e2,e3⟩:=q3 h0
 exact ⟨b,o,e1,e2,fun j hj=>by rw [← h1 j hj]; exact e3 j hj⟩
section
variable {o:Oper} {a:Act} {w:World}
theorem execLd3 {x:Operand} {b k:Nat} {v:Value} (ho:o.op=.load 3 x) (hx:a.eval x=.pointer (some ⟨b,k,none⟩)) (hc:w.cell? ⟨b,k,none⟩=some v):(execOp a.eval o).run Try.prog w=.ok (.value v) w:=by
 unfold execOp
 simp only [ho,hx]
 simp [go_sem,hc]
end
end Go.Proofs.Ytjjegmflllpknaa.Win

namespace Go.Proofs.Ytjjegmflllpknaa.Win
open Go.RowKit Gf8 Aes By8 Cel Cf
/- Right stays right behind Open and Add; scripts of steps. Written by tools/mkC9t.py. -/
structure Stps (W:World) (v:Value) (n:Nat) (pb:Nat->Bool) (ep:Nat->Int) (tw:Nat->Value) (m:Nat->Nat) (tg:Nat->Nat->Nat->Nat):Prop where
 shape:∃ a c,v=.slice a n c/\n<=c/\c < 9223372036854775808/\(0 < n->∃ b o,a=some ⟨b,o,none⟩/\b < W.heap.size/\∀ j,j < n->W.cell? ⟨b,o+j * 3+0,none⟩=some (.bool (pb j))/\W.cell? ⟨b,o+j * 3+1,none⟩=some (.int .i64 (ep j))/\W.cell? ⟨b,o+j * 3+2,none⟩=some (tw j))
 lists:∀ j,j < n->Tgs W (tw j) (m j) (tg j)
 nums:∀ j,j < n->I64 (ep j)
 m16:∀ j,j < n->m j * 16<=140737488351232
section
variable {W W':World} {v:Value} {n:Nat} {pb:Nat->Bool} {ep:Nat->Int} {tw:Nat->Value} {m:Nat->Nat} {tg:Nat->Nat->Nat->Nat}
theorem Stps.on (h:Stps W v n pb ep tw m tg) (hb:Below W.heap.size W W'):Stps W' v n pb ep tw m tg:=by
 obtain ⟨⟨a,c,e,h1,h2,h3⟩,hl,hn,hm⟩:=h
 refine ⟨⟨a,c,e,h1,h2,fun h0=>?_⟩,fun j hj=>(hl j hj).on hb,hn,hm⟩
 obtain ⟨b,o,e1,e2,e3⟩:=h3 h0
 exact ⟨b,o,e1,Nat.lt_of_lt_of_le e2 hb.size,fun j hj=>⟨by rw [cell_below hb e2]; exact (e3 j hj).1,by rw [cell_below hb e2]; exact (e3 j hj).2.1,by rw [cell_below hb e2]; exact (e3 j hj).2.2⟩⟩
theorem Stps.shp (h:Stps W v n pb ep tw m tg):∃ a c,v=.slice a n c:=by
 obtain ⟨a,c,e,_⟩:=h.shape
 exact ⟨a,c,e⟩
theorem Stps.at (h:Stps W v n pb ep tw m tg) (h0:0 < n):∃ b o c,v=.slice (some ⟨b,o,none⟩) n c/\b < W.heap.size/\∀ j,j < n->W.cell? ⟨b,o+j * 3+0,none⟩=some (.bool (pb j))/\W.cell? ⟨b,o+j * 3+1,none⟩=some (.int .i64 (ep j))/\W.cell? ⟨b,o+j * 3+2,none⟩=some (tw j):=by
 obtain ⟨a,c,e,_,_,h3⟩:=h.shape
 obtain ⟨b,o,e1,e2,e3⟩:=h3 h0
 exact ⟨b,o,c,by rw [e,e1],e2,e3⟩
end
section
variable {o:Oper} {a:Act} {w:World}
end
end Go.Proofs.Ytjjegmflllpknaa.Win

namespace Go.Proofs.Ytjjegmflllpknaa.Win
open Go.RowKit Gf8 Aes By8 Cel Cf
/- WindowKeeps: the law's whole. Written by tools/mkL9b.py. -/
theorem own_cap {W:World} {B n g c s:Nat} {ty:TypeId} {xs:List Value} (h:W.ownsRow B ty s (.slice (some ⟨g,0,none⟩) n c) n xs):n<=c/\c<=maxLen/\g < W.heap.size:=by
 rcases h.2 with ⟨e,_⟩ | ⟨g',cap,cur,e,_,hg,q1,q2,q3,q4⟩
 ·cases e
 ·injection e with e1 _ e3
  injection e1 with e1
  injection e1 with e1 _ _
  subst e1
  subst e3
  exact ⟨q1,q2,(Array.getElem?_eq_some_iff.1 hg).1⟩
end Go.Proofs.Ytjjegmflllpknaa.Win

namespace Go.Proofs.Ytjjegmflllpknaa.Win
open Go.RowKit Gf8 Aes By8 Cel Cf
/- WindowKeeps: rows of one type, marked and grown, apart from one another. -/
structure Fr (ty:TypeId) (s B m:Nat) (x:Nat->Value) (nn:Nat->Nat) (c:Nat->List Value) (W:World):Prop where
 rows:∀ t,t < m->W.ownsRow B ty s (x t) (nn t) (c t)
 dis:∀ p q,p < m->q < m->p ≠ q->∀ b,(x p).ownBlock=some b->(x q).ownBlock ≠ some b
theorem ownG {W W':World} {B n s:Nat} {ty:TypeId} {v:Value} {xs:List Value} {r:Option Nat} (h:W.ownsRow B ty s v n xs) (gr:W.grownBy W' r) (hne:∀ b,v.ownBlock=some b->r ≠ some b):W'.ownsRow B ty s v n xs:=by
 obtain ⟨h0,h⟩:=h
 refine ⟨h0,?_⟩
 rcases h with h | ⟨g,cap,cur,e,hB,hg,q⟩
 ·exact Or.inl h
 ·refine Or.inr ⟨g,cap,cur,e,hB,?_,q⟩
  rw [gr.block g (Array.getElem?_eq_some_iff.1 hg).1 (fun w=>hne g (by rw [e]; rfl) w.symm)]
  exact hg
theorem ownG_T {W W':World} {B n s g:Nat} {ty u:TypeId} {v:Value} {xs:List Value} {d:Array Value} (h:W.ownsRow B ty s v n xs) (hg:W.heap[g]?=some (.cells d u)) (hu:u ≠ ty) (gr:W.grownBy W' (some g)):W'.ownsRow B ty s v n xs:=by
 refine ownG h gr fun b hb e=>?_
 obtain rfl:=Option.some.inj e
 rcases h.2 with ⟨e1,_⟩ | ⟨k,cap,cur,e1,_,hk,_⟩
 ·rw [e1] at hb; cases hb
 ·rw [e1] at hb
  obtain rfl:k=g:=Option.some.inj hb
  exact ne_type hg hk hu rfl
section
variable {ty:TypeId} {s B m:Nat} {x:Nat->Value} {nn:Nat->Nat} {c:Nat->List Value} {W W':World}
theorem Fr.on (h:Fr ty s B m x nn c W) (hb:Below W.heap.size W W'):Fr ty s B m x nn c W':=⟨fun t ht=>ownE_below (h.rows t ht) hb,h.dis⟩
theorem Fr.offT {g:Nat} {u:TypeId} {d:Array Value} (h:Fr ty s B m x nn c W) (hg:W.heap[g]?=some (.cells d u)) (hu:u ≠ ty) (gr:W.grownBy W' (some g)):Fr ty s B m x nn c W':=⟨fun t ht=>ownG_T (h.rows t ht) hg hu gr,h.dis⟩
theorem Fr.over {B2 n2 s2:Nat} {u:Value} {ys:List Value} {t2:TypeId} (h:Fr ty s B m x nn c W) (hu:W.ownsRow B2 t2 s2 u n2 ys) (gr:W.grownBy W' u.ownBlock) (ht:ty ≠ t2):Fr ty s B m x nn c W':=⟨fun t q=>ownE_over (h.rows t q) hu gr ht,h.dis⟩
theorem Fr.cg {c2:Nat->List Value} (h:Fr ty s B m x nn c W) (e:∀ t,t < m->c t=c2 t):Fr ty s B m x nn c2 W:=⟨fun t ht=>by rw [← e t ht]; exact h.rows t ht,h.dis⟩
theorem Fr.put {t g:Nat} {z:List Value} (h:Fr ty s B m x nn c W) (ht:t < m) (hg:(x t).ownBlock=some g) (own:W'.ownsRow B ty s (x t) (nn t) z) (gr:W.grownBy W' (some g)):Fr ty s B m x nn (up c t z) W':=by
 refine ⟨fun q hq=>?_,h.dis⟩
 by_cases e:q=t
 ·subst e
  rw [up_at]
  exact own
 ·rw [up_ne _ _ e]
  exact ownG (h.rows q hq) gr fun b hb w=>h.dis q t hq ht e b hb (by rw [hg,w])
end
structure Gr (ty:TypeId) (s B m:Nat) (x y:Nat->Value) (nn dd:Nat->Nat) (c d:Nat->List Value) (W:World):Prop where
 rx:∀ t,t < m->W.ownsRow B ty s (x t) (nn t) (c t)
 ry:∀ t,t < m->W.ownsRow B ty s (y t) (nn t+dd t) (c t ++ d t)
 pl:∀ t,t < m->(∃ g k,x t=.slice (some ⟨g,0,none⟩) (nn t) k/\y t=.slice (some ⟨g,0,none⟩) (nn t+dd t) k)\/∀ b,(y t).ownBlock=some b->(x t).ownBlock ≠ some b
 dis:∀ p q,p < m->q < m->p ≠ q->∀ b,((x p).ownBlock=some b\/(y p).ownBlock=some b)->¬ ((x q).ownBlock=some b\/(y q).ownBlock=some b)
theorem slc_inj {g g' n n' c c':Nat} (h:Value.slice (some ⟨g,0,none⟩) n c=.slice (some ⟨g',0,none⟩) n' c'):g=g'/\c=c':=by
 injection h with h1 _ h3
 injection h1 with h1
 injection h1 with h1 _ _
 exact ⟨h1,h3⟩
theorem own_pre {W:World} {B g n k cap s:Nat} {ty:TypeId} {xs ys:List Value} (h:W.ownsRow B ty s (.slice (some ⟨g,0,none⟩) n cap) n (xs ++ ys)) (hx:xs.length=k * s) (hk:k<=n):W.ownsRow B ty s (.slice (some ⟨g,0,none⟩) k cap) k xs:=by
 refine ⟨hx,?_⟩
 rcases h.2 with ⟨e,_⟩ | ⟨g',cap',cur,e,hB,hg,q1,q2,q3,q4⟩
 ·cases e
 ·obtain ⟨rfl,rfl⟩:=slc_inj e
  refine Or.inr ⟨g,cap,cur,rfl,hB,hg,by omega,q2,q3,?_⟩
  have h5:=congrArg (List.take (k * s)) q4
  rw [List.take_take,Nat.min_eq_left (Nat.mul_le_mul_right s hk),← hx,List.take_left] at h5
  rw [← hx]
  exact h5
section
variable {ty:TypeId} {s B m:Nat} {x y:Nat->Value} {nn dd:Nat->Nat} {c d:Nat->List Value} {W W':World}
theorem Gr.on (h:Gr ty s B m x y nn dd c d W) (hb:Below W.heap.size W W'):Gr ty s B m x y nn dd c d W':=⟨fun t ht=>ownE_below (h.rx t ht) hb,fun t ht=>ownE_below (h.ry t ht) hb,h.pl,h.dis⟩
theorem Gr.offT {g:Nat} {u:TypeId} {f:Array Value} (h:Gr ty s B m x y nn dd c d W) (hg:W.heap[g]?=some (.cells f u)) (hu:u ≠ ty) (gr:W.grownBy W' (some g)):Gr ty s B m x y nn dd c d W':=⟨fun t ht=>ownG_T (h.rx t ht) hg hu gr,fun t ht=>ownG_T (h.ry t ht) hg hu gr,h.pl,h.dis⟩
theorem Gr.over {B2 n2 s2:Nat} {u:Value} {ys:List Value} {t2:TypeId} (h:Gr ty s B m x y nn dd c d W) (hu:W.ownsRow B2 t2 s2 u n2 ys) (gr:W.grownBy W' u.ownBlock) (ht:ty ≠ t2):Gr ty s B m x y nn dd c d W':=⟨fun t q=>ownE_over (h.rx t q) hu gr ht,fun t q=>ownE_over (h.ry t q) hu gr ht,h.pl,h.dis⟩
theorem Gr.cg {dd2:Nat->Nat} {d2:Nat->List Value} (h:Gr ty s B m x y nn dd c d W) (e:∀ t,t < m->dd t=dd2 t) (e2:∀ t,t < m->d t=d2 t):Gr ty s B m x y nn dd2 c d2 W:=
 ⟨h.rx,fun t ht=>by rw [← e t ht,← e2 t ht]; exact h.ry t ht,fun t ht=>by rw [← e t ht]; exact h.pl t ht,h.dis⟩
theorem Gr.begin (h:Fr ty s B m x nn c W):Gr ty s B m x x nn (fun _=>0) c (fun _=>[]) W:=by
 refine ⟨h.rows,fun t ht=>by rw [List.append_nil]; exact h.rows t ht,fun t ht=>?_,fun p q hp hq hpq b e w=>h.dis p q hp hq hpq b (e.elim id id) (w.elim id id)⟩
 rcases (h.rows t ht).2 with ⟨e,_⟩ | ⟨g,cap,cur,e,_⟩
 ·refine Or.inr fun b q=>?_
  rw [e] at q
  cases q
 ·exact Or.inl ⟨g,cap,e,e⟩
theorem Gr.blt (h:Gr ty s B m x y nn dd c d W) {t b:Nat} (ht:t < m) (e:(x t).ownBlock=some b\/(y t).ownBlock=some b):B<=b/\b < W.heap.size:=by
 rcases e with e | e
 ·exact (h.rx t ht).lt b e
 ·exact (h.ry t ht).lt b e
theorem Gr.more {t k:Nat} {v':Value} {z:List Value} (h:Gr ty s B m x y nn dd c d W) (ht:t < m) (own:W'.ownsRow B ty s v' (nn t+dd t+k) (c t ++ d t ++ z))
  (hpl:(∃ b r,y t=.slice (some ⟨b,0,none⟩) (nn t+dd t) r/\v'=.slice (some ⟨b,0,none⟩) (nn t+dd t+k) r/\W.grownBy W' (some b))\/(Below W.heap.size W W'/\∀ k,v'.ownBlock=some k->W.heap.size<=k)) :
  Gr ty s B m x (up y t v') nn (up dd t (dd t+k)) c (up d t (d t ++ z)) W':=by
 have own:W'.ownsRow B ty s v' (nn t+(dd t+k)) (c t ++ (d t ++ z)):=by rw [← Nat.add_assoc,← List.append_assoc]; exact own
 rcases hpl with ⟨b,r,e1,e2,gr⟩ | ⟨hb,hk⟩
 ·have e2:v'=.slice (some ⟨b,0,none⟩) (nn t+(dd t+k)) r:=by rw [e2,Nat.add_assoc]
  have hyb:(y t).ownBlock=some b:=by rw [e1]; rfl
  have hvb:v'.ownBlock=some b:=by rw [e2]; rfl
  have gx:∀ q,q < m->q ≠ t->W'.ownsRow B ty s (x q) (nn q) (c q):=fun q hq hqt=>ownG (h.rx q hq) gr (fun z e w=>h.dis q t hq ht hqt z (Or.inl e) (Or.inr (hyb.trans w)))
  have gy:∀ q,q < m->q ≠ t->W'.ownsRow B ty s (y q) (nn q+dd q) (c q ++ d q):=fun q hq hqt=>ownG (h.ry q hq) gr (fun z e w=>h.dis q t hq ht hqt z (Or.inr e) (Or.inr (hyb.trans w)))
  refine ⟨fun q hq=>?_,fun q hq=>?_,fun q hq=>?_,fun p q hp hq hpq z e w=>?_⟩
  ·by_cases e:q=t
   ·subst e
    rcases h.pl q hq with ⟨g,r',f1,f2⟩ | hp
    ·obtain ⟨rfl,rfl⟩:=slc_inj (e1.symm.trans f2)
     rw [e2] at own
     rw [f1]
     exact own_pre own (h.rx q hq).1 (by omega)
    ·exact ownG (h.rx q hq) gr (fun z e w=>hp z (hyb.trans w) e)
   ·exact gx q hq e
  ·by_cases e:q=t
   ·subst e
    rw [up_at,up_at,up_at]
    exact own
   ·rw [up_ne _ _ e,up_ne _ _ e,up_ne _ _ e]
    exact gy q hq e
  ·by_cases e:q=t
   ·subst e
    rw [up_at,up_at]
    rcases h.pl q hq with ⟨g,r',f1,f2⟩ | hp
    ·obtain ⟨rfl,rfl⟩:=slc_inj (e1.symm.trans f2)
     exact Or.inl ⟨b,r,f1,e2⟩
    ·exact Or.inr fun z w=>hp z (hyb.trans (hvb.symm.trans w))
   ·rw [up_ne _ _ e,up_ne _ _ e]
    exact h.pl q hq
  ·have e':(x p).ownBlock=some z\/(y p).ownBlock=some z:=by
    by_cases ep:p=t
    ·subst ep
     rw [up_at] at e
     exact e.imp id fun w=>hyb.trans (hvb.symm.trans w)
    ·rw [up_ne _ _ ep] at e
     exact e
   have w':(x q).ownBlock=some z\/(y q).ownBlock=some z:=by
    by_cases eq:q=t
    ·subst eq
     rw [up_at] at w
     exact w.imp id fun w=>hyb.trans (hvb.symm.trans w)
    ·rw [up_ne _ _ eq] at w
     exact w
   exact h.dis p q hp hq hpq z e' w'
 ·have ho:=h.on hb
  have nw:∀ q,q < m->∀ z,((x q).ownBlock=some z\/(y q).ownBlock=some z)->v'.ownBlock ≠ some z:=fun q hq z e w=>by
   have a1:=hk z w
   have a2:=(h.blt hq e).2
   omega
  refine ⟨ho.rx,fun q hq=>?_,fun q hq=>?_,fun p q hp hq hpq z e w=>?_⟩
  ·by_cases e:q=t
   ·subst e
    rw [up_at,up_at,up_at]
    exact own
   ·rw [up_ne _ _ e,up_ne _ _ e,up_ne _ _ e]
    exact ho.ry q hq
  ·by_cases e:q=t
   ·subst e
    rw [up_at]
    exact Or.inr fun z w u=>nw q hq z (Or.inl u) w
   ·rw [up_ne _ _ e,up_ne _ _ e]
    exact h.pl q hq
  ·by_cases ep:p=t
   ·subst ep
    rw [up_at] at e
    rw [up_ne _ _ (fun u=>hpq u.symm)] at w
    rcases e with e | e
    ·exact h.dis p q hp hq hpq z (Or.inl e) w
    ·exact nw q hq z w e
   ·rw [up_ne _ _ ep] at e
    by_cases eq:q=t
    ·subst eq
     rw [up_at] at w
     rcases w with w | w
     ·exact h.dis p q hp hq hpq z e (Or.inl w)
     ·exact nw p hp z e w
    ·rw [up_ne _ _ eq] at w
     exact h.dis p q hp hq hpq z e w
end
theorem run_appG (W:World) (t ty e:TypeId) (i:TypeInfo) (z:Value) (size bytes:Nat) (ht:Try.prog.underlying t=some (.slice e)) (hi:Try.prog.info? e=some i) (hz:i.zero=some z) (hsize:i.size=size) (hby:i.bytes=bytes) (hzs:z.cells.size=size) (hsz:0 < size)
  (B n m:Nat) (v:Value) (xs news:List Value) (hown:W.ownsRow B e size v n xs) (ad:Addr) (c':Nat) (hl:news.length=m * size) (hnews:∀ j u,news[j]?=some u->W.cell? (ad.add j)=some u) (h1:∀ u ∈ news,u.oneCell'=true) (hm:0 < m) (hn:(n+m) * bytes<=140737488355328) (h63:n+m<=140737488355328) (hB:B<=W.heap.size) :
  ∃ v' W',(Builtin.append_ #[t,t] ty #[v,.slice (some ad) m c']).run Try.prog W=.ok v' W'/\W'.ownsRow B e size v' (n+m) (xs ++ news) ∧
   ((∃ b c,v=.slice (some ⟨b,0,none⟩) n c/\v'=.slice (some ⟨b,0,none⟩) (n+m) c/\W.grownBy W' (some b))\/(Below W.heap.size W W'/\∀ k,v'.ownBlock=some k->W.heap.size<=k)):=by
 obtain ⟨v',W',hr,q1,q2,_⟩:=run_append_own (P:=Try.prog) W B t ty e i z size bytes ht hi hz hsize hby hzs hsz v n xs hown ad m c' news hl hnews h1 (by unfold maxLen; omega) hn hB
 refine ⟨v',W',hr,q1,?_⟩
 subst hsize
 subst hby
 have hown2:=hown.2
 rcases hown2 with ⟨rfl,rfl⟩ | ⟨g',cap2,cur,rfl,hB',hg',hnc,hcm,hcs,htake⟩
 ·have hr2:=run_append_nil (P:=Try.prog) W t ty e i z ht hi hz ad m c' news hl hnews (by omega) (by omega) (by rw [Nat.zero_add] at hn; omega)
  have r4:=hr.symm.trans hr2
  injection r4 with e1 e2
  subst e1
  subst e2
  exact Or.inr ⟨((Below.refl _ _).drew).alloc (Nat.le_refl _) _,fun k e=>Nat.le_of_eq (Option.some.inj e)⟩
 ·by_cases hroom:n+m<=cap2
  ·have hr2:=run_append_room (P:=Try.prog) W t ty e i ht hi g' n cap2 cur hg' ad m c' news hl hnews h1 hroom (by rw [hcs,hl,← Nat.add_mul]; exact Nat.mul_le_mul_right _ hroom)
   have r4:=hr.symm.trans hr2
   injection r4 with e1 e2
   subst e1
   exact Or.inl ⟨g',cap2,rfl,rfl,q2⟩
  ·have holds:∀ j u,xs[j]?=some u->W.cell? ((⟨g',0,none⟩:Addr).add j)=some u:=hown.cells (g:=g') rfl
   have hr2:=run_append_grow (P:=Try.prog) W t ty e i z ht hi hz ⟨g',0,none⟩ n cap2 xs hown.1 holds ad m c' news hl hnews (by omega) (by omega) (growslice_fits (by omega) hn)
   have r4:=hr.symm.trans hr2
   injection r4 with e1 e2
   subst e1
   subst e2
   exact Or.inr ⟨((Below.refl _ _).drew).alloc (Nat.le_refl _) _,fun k e=>Nat.le_of_eq (Option.some.inj e)⟩
end Go.Proofs.Ytjjegmflllpknaa.Win
