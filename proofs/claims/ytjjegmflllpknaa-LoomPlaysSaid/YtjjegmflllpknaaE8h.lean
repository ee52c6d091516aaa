import Derived.Test.YtjjegmflllpknaaC9c
import Derived.Test.YtjjegmflllpknaaJ8
import Derived.Test.YtjjegmflllpknaaE8f
import Derived.Test.YtjjegmflllpknaaN9a
import Derived.Test.YtjjegmflllpknaaF9c
import Derived.WalkKit
namespace Go.Proofs.Ytjjegmflllpknaa.Win
open Go.RowKit Gf8 Aes By8 Cel Cf
/- Rows of tags; the reference's all. Written by tools/mkC9f.py. -/
def catT (n:Nat) (t s:Nat->Nat->Nat) (k:Nat):Nat->Nat:=if k < n then t k else s (k - n)
theorem cat_hi {n k:Nat} {t s:Nat->Nat->Nat}:catT n t s (n+k)=s k:=by
 unfold catT
 rw [if_neg (by omega),Nat.add_sub_cancel_left]
section
variable {W W':World} {B n:Nat} {v:Value} {t:Nat->Nat->Nat}
end
end Go.Proofs.Ytjjegmflllpknaa.Win

namespace Go.Proofs.Ytjjegmflllpknaa.Win
open Go.RowKit Gf8 Aes By8 Cel Cf
/- Two lists in order made one; halves; what the reference's sorted needs. Written by tools/mkC9g.py. -/
section
variable {A B:Nat->Nat} {ma mb i j:Nat} {o:List Nat}
end
section
variable {W:World} {b off n c h:Nat} {t:Nat->Nat->Nat}
theorem Tgs.take {v:Value} (q:Tgs W v n t) (e:v=.slice (some ⟨b,off,none⟩) n c) (hh:h<=n):Tgs W (.slice (some ⟨b,off,none⟩) h c) h t:=by
 subst e
 obtain ⟨⟨a,c',e',h1,h2,h3⟩,hb,_⟩:=q
 injection e' with e1 _ e3
 subst e1 e3
 refine ⟨⟨_,_,rfl,by omega,h2,fun h0=>?_⟩,fun j hj=>hb j (by omega),fun l c e=>by cases e⟩
 obtain ⟨b',o',e4,e5,e6⟩:=h3 (by omega)
 exact ⟨b',o',e4,e5,fun j hj=>e6 j (by omega)⟩
theorem Tgs.drop {v:Value} (q:Tgs W v n t) (e:v=.slice (some ⟨b,off,none⟩) n c) (hh:h<=n):Tgs W (.slice (some ⟨b,off+h * 16,none⟩) (n - h) (c - h)) (n - h) fun k=>t (h+k):=by
 subst e
 obtain ⟨⟨a,c',e',h1,h2,h3⟩,hb,_⟩:=q
 injection e' with e1 _ e3
 subst e1 e3
 refine ⟨⟨_,_,rfl,by omega,by omega,fun h0=>?_⟩,fun j hj=>hb _ (by omega),fun l c e=>by cases e⟩
 obtain ⟨b',o',e4,e5,e6⟩:=h3 (by omega)
 injection e4 with e4
 injection e4 with e7 e8 _
 subst e7 e8
 exact ⟨b,off+h * 16,rfl,e5,fun j hj i hi=>by
  have:=e6 (h+j) (by omega) i hi
  rw [show off+h * 16+j * 16+i=off+(h+j) * 16+i by omega]
  exact this⟩
end
section
variable {o:Oper} {a:Act} {w:World}
end
end Go.Proofs.Ytjjegmflllpknaa.Win

namespace Go.Proofs.Ytjjegmflllpknaa.Win
open Go.RowKit Gf8 Aes By8 Cel Cf
/- What the reference's Check needs. Written by tools/mkC9i.py. -/
section
variable {o:Oper} {a:Act} {w:World}
theorem exIlss3 {x y:Operand} {p q:Int} (ho:o.op=.binOp .lss 3 x y 3) (hx:a.eval x=.int .i64 p) (hy:a.eval y=.int .i64 q):(execOp a.eval o).run Try.prog w=.ok (.value (.bool (decide (p < q)))) w:=by
 unfold execOp
 simp only [ho,hx,hy]
 simp [go_sem]
theorem exIgtr3 {x y:Operand} {p q:Int} (ho:o.op=.binOp .gtr 3 x y 3) (hx:a.eval x=.int .i64 p) (hy:a.eval y=.int .i64 q):(execOp a.eval o).run Try.prog w=.ok (.value (.bool (decide (p > q)))) w:=by
 unfold execOp
 simp only [ho,hx,hy]
 simp [go_sem]
theorem exIleq3 {x y:Operand} {p q:Int} (ho:o.op=.binOp .leq 3 x y 3) (hx:a.eval x=.int .i64 p) (hy:a.eval y=.int .i64 q):(execOp a.eval o).run Try.prog w=.ok (.value (.bool (decide (p<=q)))) w:=by
 unfold execOp
 simp only [ho,hx,hy]
 simp [go_sem]
theorem exIgeq3 {x y:Operand} {p q:Int} (ho:o.op=.binOp .geq 3 x y 3) (hx:a.eval x=.int .i64 p) (hy:a.eval y=.int .i64 q):(execOp a.eval o).run Try.prog w=.ok (.value (.bool (decide (p ≥ q)))) w:=by
 unfold execOp
 simp only [ho,hx,hy]
 simp [go_sem]
theorem exIeql3 {x y:Operand} {p q:Int} (ho:o.op=.binOp .eql 3 x y 3) (hx:a.eval x=.int .i64 p) (hy:a.eval y=.int .i64 q):(execOp a.eval o).run Try.prog w=.ok (.value (.bool (decide (p=q)))) w:=by
 unfold execOp
 simp only [ho,hx,hy]
 by_cases h:p=q
 ·subst h; simp [go_sem]
 ·simp [go_sem,h]
theorem exIneq3 {x y:Operand} {p q:Int} (ho:o.op=.binOp .neq 3 x y 3) (hx:a.eval x=.int .i64 p) (hy:a.eval y=.int .i64 q):(execOp a.eval o).run Try.prog w=.ok (.value (.bool (decide (p ≠ q)))) w:=by
 unfold execOp
 simp only [ho,hx,hy]
 by_cases h:p=q
 ·subst h; simp [go_sem]
 ·simp [go_sem,h]
theorem execGtN {x y:Operand} {p q:Nat} (ho:o.op=.binOp .gtr 3 x y 3) (hx:a.eval x=.int .i64 (p:Int)) (hy:a.eval y=.int .i64 (q:Int)):(execOp a.eval o).run Try.prog w=.ok (.value (.bool (decide (q < p)))) w:=by
 unfold execOp
 simp only [ho,hx,hy]
 simp [go_sem]
end
end Go.Proofs.Ytjjegmflllpknaa.Win

namespace Go.Proofs.Ytjjegmflllpknaa.Loo
open Go.RowKit Gf8 Aes By8 Cel Cf Win Drw Prm
/- Stage 19 (loom): plans and histories in memory; what a package of looms keeps (LImpl). -/
structure SliceO (w:World) (v:Value) (len:Nat) (o:Nat->Op3):Prop where
 shape:∃ a cap,v=.slice a len cap/\(0 < len->∃ b off,a=some ⟨b,off,none⟩/\b < w.heap.size/\∀ j,j < len->w.cell? ⟨b,off+j * 3,none⟩=some (.int .i64 (o j).k)/\w.cell? ⟨b,off+j * 3+1,none⟩=some (.int .i64 (o j).a)/\w.cell? ⟨b,off+j * 3+2,none⟩=some (.int .i64 (o j).b))
 fits:∀ j,j < len->I64 (o j).k/\I64 (o j).a/\I64 (o j).b
def SliceV (w:World) (v:Value) (n:Nat) (x:Nat->Value):Prop:=∃ a cap,v=.slice a n cap/\(0 < n->∃ b off,a=some ⟨b,off,none⟩/\b < w.heap.size/\∀ t,t < n->w.cell? ⟨b,off+t,none⟩=some (x t))
def SliceK (w:World) (v:Value) (n:Nat) (x y:Nat->Value):Prop:=∃ a cap,v=.slice a n cap/\(0 < n->∃ b off,a=some ⟨b,off,none⟩/\b < w.heap.size/\∀ t,t < n->w.cell? ⟨b,off+t * 2,none⟩=some (x t)/\w.cell? ⟨b,off+t * 2+1,none⟩=some (y t))
def PlA (w:World) (v:Value) (p:Pl):Prop:=∃ cv tv x,v=.agg #[cv,tv]/\SliceI w cv p.d p.cap/\SliceV w tv p.n x/\∀ t,t < p.n->SliceO w (x t) (p.ln t) (p.op t)
section
variable {w w':World} {v:Value} {n:Nat}
theorem SliceO.on {o:Nat->Op3} (h:SliceO w v n o) (hb:Below w.heap.size w w'):SliceO w' v n o:=by
 obtain ⟨⟨a,cap,e,h3⟩,hp⟩:=h
 refine ⟨⟨a,cap,e,fun h0=>?_⟩,hp⟩
 obtain ⟨b,off,e1,e2,e3⟩:=h3 h0
 exact ⟨b,off,e1,Nat.lt_of_lt_of_le e2 hb.size,fun j hj=>by rw [cell_below hb e2,cell_below hb e2,cell_below hb e2]; exact e3 j hj⟩
theorem SliceV.on {x:Nat->Value} (h:SliceV w v n x) (hb:Below w.heap.size w w'):SliceV w' v n x:=by
 obtain ⟨a,cap,e,h3⟩:=h
 refine ⟨a,cap,e,fun h0=>?_⟩
 obtain ⟨b,off,e1,e2,e3⟩:=h3 h0
 exact ⟨b,off,e1,Nat.lt_of_lt_of_le e2 hb.size,fun j hj=>by rw [cell_below hb e2]; exact e3 j hj⟩
theorem PlA.on {p:Pl} (h:PlA w v p) (hb:Below w.heap.size w w'):PlA w' v p:=by
 obtain ⟨cv,tv,x,e,h1,h2,h3⟩:=h
 exact ⟨cv,tv,x,e,h1.on hb,h2.on hb,fun t ht=>(h3 t ht).on hb⟩
theorem SliceV.shp {x:Nat->Value} (h:SliceV w v n x):∃ a c,v=.slice a n c:=by
 obtain ⟨a,c,e,_⟩:=h
 exact ⟨a,c,e⟩
theorem SliceV.cg {x y:Nat->Value} (h:SliceV w v n x) (e:∀ t,t < n->x t=y t):SliceV w v n y:=by
 obtain ⟨a,cap,q,h3⟩:=h
 refine ⟨a,cap,q,fun h0=>?_⟩
 obtain ⟨b,off,e1,e2,e3⟩:=h3 h0
 exact ⟨b,off,e1,e2,fun t ht=>by rw [e3 t ht,e t ht]⟩
theorem own_vals {B:Nat} {T:TypeId} {x:Nat->Value} (h:w.ownsRow B T 1 v n (lL x n)):SliceV w v n x:=by
 rcases h.2 with ⟨rfl,rfl⟩ | ⟨g,cap,cur,rfl,_,hg,h1,h2,h3,h4⟩
 ·exact ⟨_,_,rfl,fun h=>by omega⟩
 ·refine ⟨_,_,rfl,fun _=>⟨g,0,rfl,(Array.getElem?_eq_some_iff.1 hg).1,fun j hj=>?_⟩⟩
  rw [cell_of_row _ _ _ _ _ _ hg,Nat.zero_add,← Array.getElem?_toList]
  have:=lL_get x n j hj
  rw [← h4,List.getElem?_take,if_pos (by omega)] at this
  exact this
end
def hC (pk:Value) (mst:Nat) (en st:Bool) (lt:Nat) (tk:Value):Array Value:=#[pk,.int .i64 ((mst:Nat):Int),.bool en,.bool st,.int .i64 ((lt:Nat):Int),tk]
def cns (pk:Value) (tv:Nat->Value):Nat->Value
 | 0=>pk
 | i+1=>tv i
def hN (N:Nat) (tl:Nat->List Int):Nat->Nat
 | 0=>N
 | i+1=>(tl i).length
def hF (pf:Nat->Int) (tl:Nat->List Int):Nat->Nat->Int
 | 0=>pf
 | i+1=>fun j=>(tl i).getD j 0
structure His (B:Nat) (W:World) (pk tk:Value) (tv:Nat->Value) (N n:Nat) (pf:Nat->Int) (tl:Nat->List Int):Prop where
 fm:FmI B (n+1) (cns pk tv) (hN N tl) (hF pf tl) W
 tk:W.ownsRow B 22 1 tk n (lL tv n)
 pfit:∀ j,j < N->I64 (pf j)
 tfit:∀ t,t < n->∀ x ∈ tl t,I64 x
section
variable {B N n:Nat} {W X:World} {pk tk:Value} {tv:Nat->Value} {pf:Nat->Int} {tl:Nat->List Int}
theorem His.on (h:His B W pk tk tv N n pf tl) (hb:Below W.heap.size W X):His B X pk tk tv N n pf tl:=⟨h.fm.on hb,ownD_below h.tk hb,h.pfit,h.tfit⟩
theorem His.picks (h:His B W pk tk tv N n pf tl):SliceI W pk N pf:=own_ints (h.fm.rows 0 (by omega)) h.pfit
theorem His.taken (h:His B W pk tk tv N n pf tl) {t:Nat} (ht:t < n):SliceI W (tv t) (tl t).length (fun j=>(tl t).getD j 0):=
 own_ints (h.fm.rows (t+1) (by omega)) fun j hj=>h.tfit t ht _ (by
  show (tl t).getD j 0 ∈ tl t
  have hj':j < (tl t).length:=hj
  rw [List.getD_eq_getElem?_getD,List.getElem?_eq_getElem hj']
  exact List.getElem_mem hj')
theorem His.lists (h:His B W pk tk tv N n pf tl):SliceV W tk n tv:=own_vals h.tk
end
def scr (m:Nat) (sc:Nat->Int) (k:Nat):Int:=if k < m then sc k else 0
def CanCall (f:FuncId):Prop:=∃ fn,Try.prog.funcs[f]?=some fn/\(fn.name == "runtime.NumGoroutine")=false/\fn.body.isSome=true
structure Sys (σ:Type) where
 R:World->(Nat->Prop)->σ->Prop
 lo:Nat
 frame:∀ {W X F x},R W F x->(∀ b,F b->X.heap[b]?=W.heap[b]?)->(∀ b,b < lo->X.heap[b]?=W.heap[b]?)->W.heap.size<=X.heap.size->R X F x
 lt:∀ {W F x},R W F x->∀ b,F b->b < W.heap.size
 low:∀ {W F x},R W F x->lo<=W.heap.size
 n:Nat
 rf:Nat->Option (FuncId × Array Value)
 sf:Nat->Option (FuncId × Array Value)
 ra:σ->Nat->Bool × σ
 sa:σ->Nat->Bool × σ
 cr:σ->Nat->Prop
 cs:σ->Nat->Prop
 rok:∀ {t f c},t < n->rf t=some (f,c)->CanCall f
 sok:∀ {t f c},t < n->sf t=some (f,c)->CanCall f
 ready:∀ {V F x t f c},t < n->rf t=some (f,c)->cr x t->R V F x->Calls Try.prog f c V fun e w'=>∃ F',e=.returned (.bool (ra x t).1)/\R w' F' (ra x t).2/\Saved F V w'/\∀ q,F' q->F q\/V.heap.size<=q
 step:∀ {V F x t f c},t < n->sf t=some (f,c)->cs x t->R V F x->Calls Try.prog f c V fun e w'=>∃ F',e=.returned (.bool (sa x t).1)/\R w' F' (sa x t).2/\Saved F V w'/\∀ q,F' q->F q\/V.heap.size<=q
def fvl:Option (FuncId × Array Value)->Value
 | none=>.nilFunc
 | some (f,c)=>.func (.func f) #[] c
section
variable {σ:Type} (S:Sys σ)
def Sys.ask (en:Nat->Bool):Nat->σ->List Nat × σ
 | 0,x=>([],x)
 | t+1,x=>
  let (l,y):=Sys.ask en t x
  if en t=true then (l,y) else match S.rf t with
   | none=>(l ++ [t],y)
   | some _=>if (S.ra y t).1=true then (l ++ [t],(S.ra y t).2) else (l,(S.ra y t).2)
def Sys.alive (en:Nat->Bool):Bool:=(List.range S.n).any fun t=>!en t
def Sys.go (sc:Nat->Int):Nat->Nat->(Nat->Bool)->σ->List Nat->List Nat × (Nat->Bool) × σ × List Nat
 | 0,_,en,x,l=>(l,en,(S.ask en S.n x).2,(S.ask en S.n x).1)
 | m+1,k,en,x,l=>
  let (ml,y):=S.ask en S.n x
  if ml=[] then (l,en,y,[]) else
   let t:=ml.getD (chn (sc k) ml.length) 0
   Sys.go sc m (k+1) (upf en t (S.sa y t).1) (S.sa y t).2 (l ++ [t])
end
def Sys.Hold {σ:Type} (S:Sys σ) (most:Nat) (x:σ) (J:Nat->Nat->σ->Prop):Prop:=J 0 0 x/\(∀ j t y,j<=most->t < S.n->J j t y->S.cr y t/\J j (t+1) (S.ra y t).2/\J j (t+1) y)/\∀ j t y,j < most->t < S.n->J j S.n y->S.cs y t/\J (j+1) 0 (S.sa y t).2
def Sys.en0 {σ:Type} (S:Sys σ) (t:Nat):Bool:=(S.sf t).isNone
structure RunE {σ:Type} (S:Sys σ) (sc:Nat->Int) (most:Nat) (x:σ) (V:World) (F:Nat->Prop) (pk:Value) (F':Nat->Prop) (e:Ending) (W:World):Prop where
 ans:e=.returned (.agg (hC pk 0 (!S.alive (S.go sc most 0 S.en0 x []).2.1) (S.alive (S.go sc most 0 S.en0 x []).2.1 && decide ((S.go sc most 0 S.en0 x []).2.2.2=[])) 0 (.slice none 0 0)))
 own:W.ownsRow V.heap.size 3 1 pk (S.go sc most 0 S.en0 x []).1.length (intsL (S.go sc most 0 S.en0 x []).1.length (fun i=>((S.go sc most 0 S.en0 x []).1.getD i 0:Int)))
 R:S.R W F' (S.go sc most 0 S.en0 x []).2.2.1
 sv:Saved F V W
 fF:∀ q,F' q->F q\/V.heap.size<=q
 off:∀ b,pk.ownBlock=some b->¬ F' b
structure LImpl where
 check:∀ (p:Pl) (v:Value) (V:World),PlA V v p->Calls Try.prog 18 #[v] V fun e w'=>e=.returned (.int .i64 ((chk p:Nat):Int))/\Below V.heap.size V w'
 play:∀ (p:Pl) (v sv:Value) (m:Nat) (sc:Nat->Int) (V:World),PlA V v p->SliceI V sv m sc->Calls Try.prog 7 #[v,sv] V fun e w'=>((chk p ≠ 0->e=.returned (.tuple #[.agg (hC (.slice none 0 0) 0 false false 0 (.slice none 0 0)),.int .i64 ((chk p:Nat):Int)]))/\(chk p=0->∃ pk tk tv N,Run p (scr m sc) N/\e=.returned (.tuple #[.agg (hC pk (mx p (scr m sc) N) (!live p (rk p (scr m sc) N)) (live p (rk p (scr m sc) N) && decide (mayL p (rk p (scr m sc) N)=[])) (rk p (scr m sc) N).lt tk),.int .i64 ((0:Nat):Int)])/\His V.heap.size w' pk tk tv N p.n (fun i=>(Loo.pk p (scr m sc) i:Int)) (rk p (scr m sc) N).tk))/\Below V.heap.size V w'
 run:∀ {σ:Type} (S:Sys σ) (tv sv:Value) (m:Nat) (sc:Nat->Int) (most:Int) (x:σ) (F:Nat->Prop) (V:World),SliceK V tv S.n (fun t=>fvl (S.rf t)) (fun t=>fvl (S.sf t))->SliceI V sv m sc->S.R V F x->(∀ a n c,tv=.slice (some a) n c->¬ F a.block)->(∀ a n c,sv=.slice (some a) n c->¬ F a.block)->I64 most->S.n<=1000->most<=1000->(∃ J,S.Hold most.toNat x J)->Calls Try.prog 14 #[tv,sv,.int .i64 most] V fun e w'=>∃ pk F',RunE S (scr m sc) most.toNat x V F pk F' e w'
end Go.Proofs.Ytjjegmflllpknaa.Loo

namespace Go.Proofs.Ytjjegmflllpknaa.Loo
open Go.RowKit Gf8 Aes By8 Cel Cf Win Drw Prm
/- The laws' same, sameLists, sameHistory. Written by tools/mkE8h.py. -/
theorem hC_at {W:World} {g:Nat} {pk tk:Value} {m l:Nat} {en st:Bool} {t:TypeId} (h:W.heap[g]?=some (.cells (hC pk m en st l tk) t)):W.cell? ⟨g,0,none⟩=some pk/\W.cell? ⟨g,1,none⟩=some (.int .i64 ((m:Nat):Int))/\W.cell? ⟨g,2,none⟩=some (.bool en)/\W.cell? ⟨g,3,none⟩=some (.bool st)/\W.cell? ⟨g,4,none⟩=some (.int .i64 ((l:Nat):Int))/\W.cell? ⟨g,5,none⟩=some tk:=
 ⟨by rw [cell_of_row _ _ _ _ _ _ h]; rfl,by rw [cell_of_row _ _ _ _ _ _ h]; rfl,by rw [cell_of_row _ _ _ _ _ _ h]; rfl,by rw [cell_of_row _ _ _ _ _ _ h]; rfl,by rw [cell_of_row _ _ _ _ _ _ h]; rfl,by rw [cell_of_row _ _ _ _ _ _ h]; rfl⟩
theorem oneH {pk tk:Value} (m l:Nat) (en st:Bool) (h1:∃ a n c,pk=.slice a n c) (h2:∃ a n c,tk=.slice a n c):(hC pk m en st l tk).all (·.oneCell')=true:=by
 obtain ⟨a,n,c,rfl⟩:=h1
 obtain ⟨a2,n2,c2,rfl⟩:=h2
 simp [hC,Value.oneCell']
section
variable {o:Oper} {a:Act} {w:World}
theorem execBxH {x:Operand} {pk tk:Value} {m l:Nat} {en st:Bool} (ho:o.op=.box 29 x) (hx:a.eval x=.agg (hC pk m en st l tk)) (h1:∃ a n c,pk=.slice a n c) (h2:∃ a n c,tk=.slice a n c):(execOp a.eval o).run Try.prog w=.ok (.value (.pointer (some ⟨w.heap.size,0,none⟩))) (w.alloc (.cells (hC pk m en st l tk) 29)):=by
 obtain ⟨q,n,c,rfl⟩:=h1
 obtain ⟨q2,n2,c2,rfl⟩:=h2
 unfold execOp
 simp only [ho,hx]
 simp [go_sem]
theorem execAlH (ho:o.op=.alloc 29):(execOp a.eval o).run Try.prog w=.ok (.value (.pointer (some ⟨w.heap.size,0,none⟩))) (w.alloc (.cells (hC (.slice none 0 0) 0 false false 0 (.slice none 0 0)) 29)):=by
 unfold execOp
 simp only [ho]
 simp [go_sem,hC]
theorem execStH {x y:Operand} {g m l m0 l0:Nat} {pk tk pk0 tk0:Value} {en st en0 st0:Bool} (ho:o.op=.store 29 x y) (hx:a.eval x=.pointer (some ⟨g,0,none⟩)) (hy:a.eval y=.agg (hC pk m en st l tk)) (hg:w.heap[g]?=some (.cells (hC pk0 m0 en0 st0 l0 tk0) 29)) (h1:∃ a n c,pk=.slice a n c) (h2:∃ a n c,tk=.slice a n c):(execOp a.eval o).run Try.prog w=.ok .skip (w.setRow g (hC pk m en st l tk)):=by
 have h:=execStMid (P:=Try.prog) ho hx hy hg (Nat.le_refl _) (by show _=some 6; kernel_rfl) (oneH m l en st h1 h2)
 exact h
theorem execFh0 {x:Operand} {b:Nat} (ho:o.op=.fieldAddr 29 x 0) (hx:a.eval x=.pointer (some ⟨b,0,none⟩)):(execOp a.eval o).run Try.prog w=.ok (.value (.pointer (some ⟨b,0,none⟩))) w:=by
 unfold execOp
 simp only [ho,hx]
 simp [go_sem]
theorem execFh1 {x:Operand} {b:Nat} (ho:o.op=.fieldAddr 29 x 1) (hx:a.eval x=.pointer (some ⟨b,0,none⟩)):(execOp a.eval o).run Try.prog w=.ok (.value (.pointer (some ⟨b,1,none⟩))) w:=by
 unfold execOp
 simp only [ho,hx]
 simp [go_sem]
theorem execFh2 {x:Operand} {b:Nat} (ho:o.op=.fieldAddr 29 x 2) (hx:a.eval x=.pointer (some ⟨b,0,none⟩)):(execOp a.eval o).run Try.prog w=.ok (.value (.pointer (some ⟨b,2,none⟩))) w:=by
 unfold execOp
 simp only [ho,hx]
 simp [go_sem]
theorem execFh3 {x:Operand} {b:Nat} (ho:o.op=.fieldAddr 29 x 3) (hx:a.eval x=.pointer (some ⟨b,0,none⟩)):(execOp a.eval o).run Try.prog w=.ok (.value (.pointer (some ⟨b,3,none⟩))) w:=by
 unfold execOp
 simp only [ho,hx]
 simp [go_sem]
theorem execFh4 {x:Operand} {b:Nat} (ho:o.op=.fieldAddr 29 x 4) (hx:a.eval x=.pointer (some ⟨b,0,none⟩)):(execOp a.eval o).run Try.prog w=.ok (.value (.pointer (some ⟨b,4,none⟩))) w:=by
 unfold execOp
 simp only [ho,hx]
 simp [go_sem]
theorem execFh5 {x:Operand} {b:Nat} (ho:o.op=.fieldAddr 29 x 5) (hx:a.eval x=.pointer (some ⟨b,0,none⟩)):(execOp a.eval o).run Try.prog w=.ok (.value (.pointer (some ⟨b,5,none⟩))) w:=by
 unfold execOp
 simp only [ho,hx]
 simp [go_sem]
theorem execLdG {t:TypeId} {x:Operand} {b k:Nat} {v:Value} (ho:o.op=.load t x) (ht:t=22\/t=3\/t=4\/t=27\/t=23\/t=79) (hx:a.eval x=.pointer (some ⟨b,k,none⟩)) (hc:w.cell? ⟨b,k,none⟩=some v):(execOp a.eval o).run Try.prog w=.ok (.value v) w:=by
 unfold execOp
 rcases ht with rfl | rfl | rfl | rfl | rfl | rfl <;> (simp only [ho,hx]; simp [go_sem,hc])
theorem execLnLL {x:Operand} {v:Value} {len:Nat} (ho:o.op=.call { callee:=.builtin .len,args:=#[x],argTypes:=#[27] }) (hx:a.eval x=v) (hv:∃ ao c,v=.slice ao len c):(execOp a.eval o).run Try.prog w=.ok (.value (.int .i64 ((len:Nat):Int))) w:=by
 obtain ⟨ao,c,rfl⟩:=hv
 unfold execOp
 simp only [ho,resolve,invoke,builtin,Sem.run_bind,Sem.run_pure,Result.andThen_ok,List.map_toArray,List.map_cons,List.map_nil,hx]
 simp [go_sem]
theorem execIxLL {x i:Operand} {g off n cap k:Nat} (ho:o.op=.indexAddr 27 x i) (hx:a.eval x=.slice (some ⟨g,off,none⟩) n cap) (hi:a.eval i=.int .i64 (k:Int)) (hk:k < n):(execOp a.eval o).run Try.prog w=.ok (.value (.pointer (some ⟨g,off+k,none⟩))) w:=by
 have h1:(k:Int) < n:=by omega
 unfold execOp
 simp only [ho,hx,hi]
 simp [go_sem,h1]
theorem execEqBB {x y:Operand} {b:Bool} (ho:o.op=.binOp .eql 4 x y 4) (hx:a.eval x=.bool b) (hy:a.eval y=.bool b):(execOp a.eval o).run Try.prog w=.ok (.value (.bool true)) w:=by
 unfold execOp
 simp only [ho,hx,hy]
 simp [go_sem]
theorem execEreql {x:Operand} {p q:Nat} (ho:o.op=.binOp .eql 32 x (.const (.int .i64 ((q:Nat):Int))) 32) (hx:a.eval x=.int .i64 ((p:Nat):Int)):(execOp a.eval o).run Try.prog w=.ok (.value (.bool (decide (p=q)))) w:=by
 unfold execOp
 simp only [ho,hx]
 by_cases h:p=q
 ·subst h
  simp [go_sem]
 ·have h2:¬ (p:Int)=q:=by omega
  simp [go_sem,h,h2]
theorem execErneq {x:Operand} {p q:Nat} (ho:o.op=.binOp .neq 32 x (.const (.int .i64 ((q:Nat):Int))) 32) (hx:a.eval x=.int .i64 ((p:Nat):Int)):(execOp a.eval o).run Try.prog w=.ok (.value (.bool (decide (p ≠ q)))) w:=by
 unfold execOp
 simp only [ho,hx]
 by_cases h:p=q
 ·subst h
  simp [go_sem]
 ·have h2:¬ (p:Int)=q:=by omega
  simp [go_sem,h,h2]
end
theorem sl3 {v:Value} {n:Nat} (h:∃ a c,v=.slice a n c):∃ a n c,v=.slice a n c:=by
 obtain ⟨a,c,e⟩:=h
 exact ⟨a,n,c,e⟩
set_option maxRecDepth 100000 in
set_option maxHeartbeats 4000000 in
theorem same19 (f g:Nat->Int) (n:Nat) (v u:Value) (V:World) (hv:SliceI V v n f) (hu:SliceI V u n g) (he:∀ i,i < n->f i=g i) (hn17:n<=17592186044416) :
  Calls Try.prog 15 #[v,u] V fun e w'=>e=.returned (.bool true)/\Below V.heap.size V w':=by
 obtain ⟨ia,ic,rfl,-,-,hsh⟩:=hv.shape
 obtain ⟨ja,jc,rfl,-,-,hsj⟩:=hu.shape
 go_enter Try.func15,Try.ntmps15
 refine wo_ 26 [(0,.slice ia n ic),(1,.slice ja n jc)] ?_
 rintro a A ⟨t0,t1,-⟩
 have BW:Below V.heap.size V V:=Below.refl _ _
 have BB:Below V.heap.size V V:=Below.refl _ _
 refine wp_seq ?_
 refine wi_ A (h2_ t0 t1) (rf_ [] (h2_ t0 t1) ?_)
 rintro a A - ⟨t0,t1,-⟩
 refine wp_seq (wp_seq ?_)
 refine wi_ A (h2_ t0 t1) (rv_ 1 (.int .i64 ((n:Nat):Int)) (fun a E=>execLenI (len:=n) rfl (E _) ⟨_,_,rfl⟩) (rv_ 3 (.int .i64 ((n:Nat):Int)) (fun a E=>execLenI (len:=n) rfl (E _) ⟨_,_,rfl⟩) (rv_ 4 (.bool false) (fun a E=>execDec (execNeN (p:=n) (q:=n) rfl (E _) (E _)) (decide_eq_false (by omega))) (rf_ [(10,.bool false)] (h2_ t0 t1) ?_))))
 rintro a A ⟨t10,-⟩ ⟨t0,t1,-⟩
 refine wp_cond_false t10 (wp_skip ?_)
 clear t10
 refine wp_seq (wp_seq ?_)
 refine wi_ A (h2_ t0 t1) (rf_ [(5,.int .i64 ((0:Nat):Int))] (h2_ t0 t1) ?_)
 rintro a A ⟨t5,-⟩ ⟨t0,t1,-⟩
 refine wp_block ?_
 refine wp_loop (fun a W=>∃ (i:Nat),i<=n/\(a.tmps.size=26/\a.defers=[])/\a.eval (.tmp 0)=.slice ia n ic/\a.eval (.tmp 1)=.slice ja n jc/\a.eval (.tmp 5)=.int .i64 ((i:Nat):Int)/\Below V.heap.size V W) (fun a _=>n - (intOf (a.eval (.tmp 5))).toNat) ⟨0,Nat.zero_le _,A,t0,t1,t5,BB⟩ ?_
 rintro a XL4 ⟨i,hi,A,t0,t1,t5,BB⟩
 have es:=t5
 refine wp_seq (wp_seq ?_)
 refine wi_ A (h3_ t0 t1 t5) (rv_ 2 (.int .i64 ((n:Nat):Int)) (fun a E=>execLenI (len:=n) rfl (E _) ⟨_,_,rfl⟩) (rv_ 3 (.bool (decide (i < n))) (fun a E=>execLtW (p:=i) (q:=n) rfl (E _) (E _)) (rf_ [(14,.bool (decide (i < n)))] (h3_ t0 t1 t5) ?_)))
 rintro a A ⟨t14,-⟩ ⟨t0,t1,t5,-⟩
 by_cases hlt:i < n
 ·rw [decide_eq_true hlt] at t14
  refine wp_cond_true t14 (wp_skip ?_)
  clear t14
  refine wp_seq (wp_block ?_)
  obtain ⟨ib,io,rfl,hib,hcI⟩:=hsh (by omega)
  obtain ⟨jb,jo,rfl,hjb,hcJ⟩:=hsj (by omega)
  have cI:∀ X,Below V.heap.size V X->X.cell? ⟨ib,io+i,none⟩=some (.int .i64 (f i)):=fun X hX=>by rw [cell_below hX hib]; exact hcI i hlt
  have cJ:∀ X,Below V.heap.size V X->X.cell? ⟨jb,jo+i,none⟩=some (.int .i64 (f i)):=fun X hX=>by rw [cell_below hX hjb,he i hlt]; exact hcJ i hlt
  refine wp_seq ?_
  refine wj_ [0,1,2,3,4,5,6,7,8] [] [3,7] [] A (h3_ t0 t1 t5) (fun X6 bD=>?_)
  refine dw_ 2 (.pointer (some ⟨ib,io+i,none⟩)) (fun a X E=>execIdxN (k:=i) rfl (E _) (E _) hlt) (dv_ 3 (.int .i64 (f i)) (fun a X E hb=>execLdG rfl (Or.inr (Or.inl rfl)) (E _) (cI X (BB.trans (hb.mono BB.size)))) (dw_ 6 (.pointer (some ⟨jb,jo+i,none⟩)) (fun a X E=>execIdxN (k:=i) rfl (E _) (E _) hlt) (dv_ 7 (.int .i64 (f i)) (fun a X E hb=>execLdG rfl (Or.inr (Or.inl rfl)) (E _) (cJ X (BB.trans (hb.mono BB.size)))) (dw_ 8 (.bool false) (fun a X E=>execDec (exIneq3 (p:=(f i)) (q:=(f i)) rfl (E _) (E _)) (decide_eq_false (fun z=>z rfl))) (dz_ [(25,.bool false)] (h3_ t0 t1 t5) ?_)))))
  rintro a A ⟨t25,-⟩ ⟨t0,t1,t5,-⟩
  replace BB:=BB.trans (bD.mono BB.size)
  clear bD
  refine wp_cond_false t25 (wp_skip ?_)
  clear t25
  refine wi_ A (h3_ t0 t1 t5) (rv_ 1 (.int .i64 ((i+1:Nat):Int)) (fun a E=>execAd8 (p:=i) (q:=1) rfl (E _) rfl (by omega)) (rf_ [(5,.int .i64 ((i+1:Nat):Int))] (h2_ t0 t1) ?_))
  rintro a A ⟨t5,-⟩ ⟨t0,t1,-⟩
  exact ⟨⟨i+1,hlt,A,t0,t1,t5,BB⟩,by show n - (intOf (a.eval (.tmp 5))).toNat < n - (intOf (Act.eval _ (.tmp 5))).toNat; rw [t5,es]; show n - (i+1) < n - i; omega⟩
 ·rw [decide_eq_false hlt] at t14
  refine wp_cond_false t14 ?_
  refine wp_exit ?_
  first | with_reducible refine exit_in ?_ | with_reducible refine exit_then (exit_in ?_) | with_reducible refine exit_then (exit_then (exit_in ?_)) | refine exit_in ?_ | refine exit_then (exit_in ?_) | refine exit_then (exit_then (exit_in ?_))
  clear t14 es
  refine wp_seq ?_
  refine wi_ A (h3_ t0 t1 t5) (rg_ [(4,.bool true)] ?_)
  rintro a A ⟨t4,-⟩
  refine wp_ret ?_
  refine bodyPost_ret (results_tmp rfl _ _ _) A.2 ⟨?_,BB⟩
  show Ending.returned (a.eval (.tmp 4))=_
  rw [t4]
set_option maxRecDepth 100000 in
set_option maxHeartbeats 4000000 in
theorem sameLists19 (n:Nat) (x y:Nat->Value) (nn:Nat->Nat) (f g:Nat->Nat->Int) (v u:Value) (V:World) (hv:SliceV V v n x) (hu:SliceV V u n y) (hx:∀ t,t < n->SliceI V (x t) (nn t) (f t)) (hy:∀ t,t < n->SliceI V (y t) (nn t) (g t)) (he:∀ t,t < n->∀ j,j < nn t->f t j=g t j) (hn:∀ t,t < n->nn t<=17592186044416) (hn17:n<=17592186044416) :
  Calls Try.prog 29 #[v,u] V fun e w'=>e=.returned (.bool true)/\Below V.heap.size V w':=by
 obtain ⟨ia,ic,rfl,hsh⟩:=hv
 obtain ⟨ja,jc,rfl,hsj⟩:=hu
 go_enter Try.func29,Try.ntmps29
 refine wo_ 27 [(0,.slice ia n ic),(1,.slice ja n jc)] ?_
 rintro a A ⟨t0,t1,-⟩
 have BW:Below V.heap.size V V:=Below.refl _ _
 have BB:Below V.heap.size V V:=Below.refl _ _
 refine wp_seq ?_
 refine wi_ A (h2_ t0 t1) (rf_ [] (h2_ t0 t1) ?_)
 rintro a A - ⟨t0,t1,-⟩
 refine wp_seq (wp_seq ?_)
 refine wi_ A (h2_ t0 t1) (rv_ 1 (.int .i64 ((n:Nat):Int)) (fun a E=>execLnLL (len:=n) rfl (E _) ⟨_,_,rfl⟩) (rv_ 3 (.int .i64 ((n:Nat):Int)) (fun a E=>execLnLL (len:=n) rfl (E _) ⟨_,_,rfl⟩) (rv_ 4 (.bool false) (fun a E=>execDec (execNeN (p:=n) (q:=n) rfl (E _) (E _)) (decide_eq_false (by omega))) (rf_ [(10,.bool false)] (h2_ t0 t1) ?_))))
 rintro a A ⟨t10,-⟩ ⟨t0,t1,-⟩
 refine wp_cond_false t10 (wp_skip ?_)
 clear t10
 refine wp_seq (wp_seq ?_)
 refine wi_ A (h2_ t0 t1) (rf_ [(5,.int .i64 ((0:Nat):Int))] (h2_ t0 t1) ?_)
 rintro a A ⟨t5,-⟩ ⟨t0,t1,-⟩
 refine wp_block ?_
 refine wp_loop (fun a W=>∃ (i:Nat),i<=n/\(a.tmps.size=27/\a.defers=[])/\a.eval (.tmp 0)=.slice ia n ic/\a.eval (.tmp 1)=.slice ja n jc/\a.eval (.tmp 5)=.int .i64 ((i:Nat):Int)/\Below V.heap.size V W) (fun a _=>n - (intOf (a.eval (.tmp 5))).toNat) ⟨0,Nat.zero_le _,A,t0,t1,t5,BB⟩ ?_
 rintro a XL4 ⟨i,hi,A,t0,t1,t5,BB⟩
 have es:=t5
 refine wp_seq (wp_seq ?_)
 refine wi_ A (h3_ t0 t1 t5) (rv_ 2 (.int .i64 ((n:Nat):Int)) (fun a E=>execLnLL (len:=n) rfl (E _) ⟨_,_,rfl⟩) (rv_ 3 (.bool (decide (i < n))) (fun a E=>execLtW (p:=i) (q:=n) rfl (E _) (E _)) (rf_ [(14,.bool (decide (i < n)))] (h3_ t0 t1 t5) ?_)))
 rintro a A ⟨t14,-⟩ ⟨t0,t1,t5,-⟩
 by_cases hlt:i < n
 ·rw [decide_eq_true hlt] at t14
  refine wp_cond_true t14 (wp_skip ?_)
  clear t14
  refine wp_seq (wp_block ?_)
  obtain ⟨ib,io,rfl,hib,hcI⟩:=hsh (by omega)
  obtain ⟨jb,jo,rfl,hjb,hcJ⟩:=hsj (by omega)
  have cI:∀ X,Below V.heap.size V X->X.cell? ⟨ib,io+i,none⟩=some (x i):=fun X hX=>by rw [cell_below hX hib]; exact hcI i hlt
  have cJ:∀ X,Below V.heap.size V X->X.cell? ⟨jb,jo+i,none⟩=some (y i):=fun X hX=>by rw [cell_below hX hjb]; exact hcJ i hlt
  refine wp_seq ?_
  refine wj_ [0,1,2,3,4,5,6,7,8,9] [8] [3,7] [] A (h3_ t0 t1 t5) (fun X6_0 bD=>?_)
  refine dw_ 2 (.pointer (some ⟨ib,io+i,none⟩)) (fun a X E=>execIxLL (k:=i) rfl (E _) (E _) hlt) (dv_ 3 (x i) (fun a X E hb=>execLdG rfl (Or.inl rfl) (E _) (cI X (BB.trans (hb.mono BB.size)))) (dw_ 6 (.pointer (some ⟨jb,jo+i,none⟩)) (fun a X E=>execIxLL (k:=i) rfl (E _) (E _) hlt) (dv_ 7 (y i) (fun a X E hb=>execLdG rfl (Or.inl rfl) (E _) (cJ X (BB.trans (hb.mono BB.size)))) (dc_ 8 (same19 _ _ _ _ _ X6_0 ((hx i hlt).on (BB.trans (bD.mono BB.size))) ((hy i hlt).on (BB.trans (bD.mono BB.size))) (he i hlt) (hn i hlt)) (cb_ fun X6 bQ=>?_)))))
  replace bD:=bD.trans (bQ.mono bD.size)
  clear bQ
  refine ⟨Or.inr bD,?_⟩
  refine dw_ 9 (.bool false) (fun a X E=>execNot8 (b:=true) rfl (E _)) (dz_ [(26,.bool false)] (h3_ t0 t1 t5) ?_)
  rintro a A ⟨t26,-⟩ ⟨t0,t1,t5,-⟩
  replace BB:=BB.trans (bD.mono BB.size)
  clear bD
  refine wp_cond_false t26 (wp_skip ?_)
  clear t26
  refine wi_ A (h3_ t0 t1 t5) (rv_ 1 (.int .i64 ((i+1:Nat):Int)) (fun a E=>execAd8 (p:=i) (q:=1) rfl (E _) rfl (by omega)) (rf_ [(5,.int .i64 ((i+1:Nat):Int))] (h2_ t0 t1) ?_))
  rintro a A ⟨t5,-⟩ ⟨t0,t1,-⟩
  exact ⟨⟨i+1,hlt,A,t0,t1,t5,BB⟩,by show n - (intOf (a.eval (.tmp 5))).toNat < n - (intOf (Act.eval _ (.tmp 5))).toNat; rw [t5,es]; show n - (i+1) < n - i; omega⟩
 ·rw [decide_eq_false hlt] at t14
  refine wp_cond_false t14 ?_
  refine wp_exit ?_
  first | with_reducible refine exit_in ?_ | with_reducible refine exit_then (exit_in ?_) | with_reducible refine exit_then (exit_then (exit_in ?_)) | refine exit_in ?_ | refine exit_then (exit_in ?_) | refine exit_then (exit_then (exit_in ?_))
  clear t14 es
  refine wp_seq ?_
  refine wi_ A (h3_ t0 t1 t5) (rg_ [(4,.bool true)] ?_)
  rintro a A ⟨t4,-⟩
  refine wp_ret ?_
  refine bodyPost_ret (results_tmp rfl _ _ _) A.2 ⟨?_,BB⟩
  show Ending.returned (a.eval (.tmp 4))=_
  rw [t4]
set_option maxRecDepth 100000 in
set_option maxHeartbeats 4000000 in
theorem sameHistory19 (pa ta pb tb:Value) (m l N n:Nat) (en st:Bool) (p q:Nat->Int) (x y:Nat->Value) (nn:Nat->Nat) (f g:Nat->Nat->Int) (V:World) (hp:SliceI V pa N p) (hq:SliceI V pb N q) (hpq:∀ i,i < N->p i=q i) (hN:N<=17592186044416) (hv:SliceV V ta n x) (hu:SliceV V tb n y) (hx:∀ t,t < n->SliceI V (x t) (nn t) (f t)) (hy:∀ t,t < n->SliceI V (y t) (nn t) (g t)) (he:∀ t,t < n->∀ j,j < nn t->f t j=g t j) (hn:∀ t,t < n->nn t<=17592186044416) (hn17:n<=17592186044416) :
  Calls Try.prog 8 #[.agg (hC pa m en st l ta),.agg (hC pb m en st l tb)] V fun e w'=>e=.returned (.bool true)/\Below V.heap.size V w':=by
 have hs1:=sl3 hp.shp
 have hs2:=sl3 hv.shp
 have hs3:=sl3 hq.shp
 have hs4:=sl3 hu.shp
 go_enter Try.func8,Try.ntmps8
 refine wo_ 45 [(0,.agg (hC pa m en st l ta)),(1,.agg (hC pb m en st l tb))] ?_
 rintro a A ⟨t0,t1,-⟩
 have BW:Below V.heap.size V V:=Below.refl _ _
 have BB:Below V.heap.size V V:=Below.refl _ _
 refine wp_seq ?_
 obtain ⟨g2,egg2⟩:∃ z_:Nat,V.heap.size=z_:=⟨_,rfl⟩
 refine wi_ A (h2_ t0 t1) (rs_ 0 (fun a E=>?_))
 refine stepV rfl rfl (execBxH rfl (E _) hs1 hs2) ⟨.pointer (some ⟨g2,0,none⟩),⟨_,rfl,by subst egg2; rfl⟩,fun X0_1 hX=>?_⟩
 have bQ:Below V.heap.size V X0_1:=by subst hX egg2; exact (belNew V _)
 have Fg2:(X0_1.heap[g2]?=some (.cells (hC pa m en st l ta) 29)):=by subst hX egg2; exact heapNew V _
 have Fgeg2:(V.heap.size<=g2):=by subst hX egg2; exact (BB).size
 replace BB:=BB.trans (bQ.mono BB.size)
 clear bQ hX egg2 E a
 obtain ⟨g3,egg3⟩:∃ z_:Nat,X0_1.heap.size=z_:=⟨_,rfl⟩
 refine rs_ 1 (fun a E=>?_)
 refine stepV rfl rfl (execBxH rfl (E _) hs3 hs4) ⟨.pointer (some ⟨g3,0,none⟩),⟨_,rfl,by subst egg3; rfl⟩,fun X0 hX=>?_⟩
 have bQ:Below X0_1.heap.size X0_1 X0:=by subst hX egg3; exact (belNew X0_1 _)
 have Fg3:(X0.heap[g3]?=some (.cells (hC pb m en st l tb) 29)):=by subst hX egg3; exact heapNew X0_1 _
 have Fgeg3:(V.heap.size<=g3):=by subst hX egg3; exact (BB).size
 replace Fg2:=(on9 Fg2 bQ)
 replace BB:=BB.trans (bQ.mono BB.size)
 clear bQ hX egg3 E a
 refine rg_ [(2,.pointer (some ⟨g2,0,none⟩)),(3,.pointer (some ⟨g3,0,none⟩))] ?_
 rintro a A ⟨t2,t3,-⟩
 refine wp_seq ?_
 refine wi_ A (h2_ t2 t3) (rv_ 0 (.pointer (some ⟨g2,0,none⟩)) (fun a E=>execFh0 rfl (E _)) (rv_ 1 (pa) (fun a E=>execLdG rfl (Or.inl rfl) (E _) (hC_at Fg2).1) (rv_ 2 (.pointer (some ⟨g3,0,none⟩)) (fun a E=>execFh0 rfl (E _)) (rv_ 3 (pb) (fun a E=>execLdG rfl (Or.inl rfl) (E _) (hC_at Fg3).1) (rc_ 4 (same19 _ _ N _ _ X0 (hp.on BB) (hq.on BB) hpq hN) (cb_ fun X1_1 bQ=>?_))))))
 replace Fg2:=(on9 Fg2 bQ)
 replace Fg3:=(on9 Fg3 bQ)
 replace BB:=BB.trans (bQ.mono BB.size)
 clear bQ
 refine rv_ 6 (.pointer (some ⟨g2,1,none⟩)) (fun a E=>execFh1 rfl (E _)) (rv_ 7 (.int .i64 ((m:Nat):Int)) (fun a E=>execLdG rfl (Or.inr (Or.inl rfl)) (E _) (hC_at Fg2).2.1) (rv_ 8 (.pointer (some ⟨g3,1,none⟩)) (fun a E=>execFh1 rfl (E _)) (rv_ 9 (.int .i64 ((m:Nat):Int)) (fun a E=>execLdG rfl (Or.inr (Or.inl rfl)) (E _) (hC_at Fg3).2.1) (rv_ 10 (.bool true) (fun a E=>execDec (execEqN (p:=m) (q:=m) rfl (E _) (E _)) (decide_eq_true (by rfl))) (rv_ 13 (.pointer (some ⟨g2,2,none⟩)) (fun a E=>execFh2 rfl (E _)) (rv_ 14 (.bool en) (fun a E=>execLdG rfl (Or.inr (Or.inr (Or.inl rfl))) (E _) (hC_at Fg2).2.2.1) (rv_ 15 (.pointer (some ⟨g3,2,none⟩)) (fun a E=>execFh2 rfl (E _)) (rv_ 16 (.bool en) (fun a E=>execLdG rfl (Or.inr (Or.inr (Or.inl rfl))) (E _) (hC_at Fg3).2.2.1) (rv_ 17 (.bool true) (fun a E=>execEqBB (b:=en) rfl (E _) (E _)) (rv_ 20 (.pointer (some ⟨g2,3,none⟩)) (fun a E=>execFh3 rfl (E _)) (rv_ 21 (.bool st) (fun a E=>execLdG rfl (Or.inr (Or.inr (Or.inl rfl))) (E _) (hC_at Fg2).2.2.2.1) (rv_ 22 (.pointer (some ⟨g3,3,none⟩)) (fun a E=>execFh3 rfl (E _)) (rv_ 23 (.bool st) (fun a E=>execLdG rfl (Or.inr (Or.inr (Or.inl rfl))) (E _) (hC_at Fg3).2.2.2.1) (rv_ 24 (.bool true) (fun a E=>execEqBB (b:=st) rfl (E _) (E _)) (rv_ 27 (.pointer (some ⟨g2,4,none⟩)) (fun a E=>execFh4 rfl (E _)) (rv_ 28 (.int .i64 ((l:Nat):Int)) (fun a E=>execLdG rfl (Or.inr (Or.inl rfl)) (E _) (hC_at Fg2).2.2.2.2.1) (rv_ 29 (.pointer (some ⟨g3,4,none⟩)) (fun a E=>execFh4 rfl (E _)) (rv_ 30 (.int .i64 ((l:Nat):Int)) (fun a E=>execLdG rfl (Or.inr (Or.inl rfl)) (E _) (hC_at Fg3).2.2.2.2.1) (rv_ 31 (.bool true) (fun a E=>execDec (execEqN (p:=l) (q:=l) rfl (E _) (E _)) (decide_eq_true (by rfl))) (rv_ 34 (.pointer (some ⟨g2,5,none⟩)) (fun a E=>execFh5 rfl (E _)) (rv_ 35 (ta) (fun a E=>execLdG rfl (Or.inr (Or.inr (Or.inr (Or.inl rfl)))) (E _) (hC_at Fg2).2.2.2.2.2) (rv_ 36 (.pointer (some ⟨g3,5,none⟩)) (fun a E=>execFh5 rfl (E _)) (rv_ 37 (tb) (fun a E=>execLdG rfl (Or.inr (Or.inr (Or.inr (Or.inl rfl)))) (E _) (hC_at Fg3).2.2.2.2.2) (rc_ 38 (sameLists19 n x y nn f g _ _ X1_1 (hv.on BB) (hu.on BB) (fun t ht=>(hx t ht).on BB) (fun t ht=>(hy t ht).on BB) he hn hn17) (cb_ fun X1 bQ=>?_)))))))))))))))))))))))))
 replace Fg2:=(on9 Fg2 bQ)
 replace Fg3:=(on9 Fg3 bQ)
 replace BB:=BB.trans (bQ.mono BB.size)
 clear bQ
 refine rg_ [(4,.bool true)] ?_
 rintro a A ⟨t4,-⟩
 refine wp_ret ?_
 refine bodyPost_ret (results_tmp rfl _ _ _) A.2 ⟨?_,BB⟩
 show Ending.returned (a.eval (.tmp 4))=_
 rw [t4]
end Go.Proofs.Ytjjegmflllpknaa.Loo
