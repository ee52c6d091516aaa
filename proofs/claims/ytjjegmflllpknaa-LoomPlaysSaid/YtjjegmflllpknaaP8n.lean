import Derived.Test.YtjjegmflllpknaaL9c
import Derived.Test.YtjjegmflllpknaaZ9a
import Derived.Test.YtjjegmflllpknaaF9c
import Derived.Test.YtjjegmflllpknaaE8h
import Derived.Test.YtjjegmflllpknaaN9a
import Derived.WalkKit
import Derived.Laws.CopyRow
namespace Go.Proofs.Ytjjegmflllpknaa.Duc
open Go.RowKit Gf8 Aes By8 Cel Cf Win Drw
/- Stage 18 (duct): a book in memory; what a package of ducts keeps (DImpl). -/
section
variable {P:Program} {fn:Func} {p u v x:Tmp} {ty:TypeId} (tmps:Array Value) (w:World) (g:Nat) (t:TypeId) (cs:Array Value) (fr:Nat × Nat) (d:TypeDesc)
theorem res_c1 (h:fn.results=#[.cell p ty,.tmp u]) (hp:tmps.getD p undef=.pointer (some ⟨g,0,none⟩)) (hg:w.heap[g]?=some (.cells cs t fr)) (hu:P.underlying ty=some d) (hd:(match d with | .struct _ | .array _ _=>true | _=>false)=true) (hi:(P.info? ty).map (·.size)=some cs.size) :
  (results fn tmps).run P w=.ok (.tuple #[.agg cs,tmps.getD u undef]) w:=by
 have hp':tmps[p]?.getD undef=.pointer (some ⟨g,0,none⟩):=by simpa using hp
 simp [results,h,hp',asAddr,run_loadVar_row w g t ty cs fr d hg hu hd hi]
end
theorem grR18 {W:World} {g:Nat} {c:Array Value}:W.grownBy (W.setRow g c) (some g):=by
 have hb:Below g W (W.setRow g c):=below4 (Below.refl _ _) (Nat.le_refl _) c
 refine ⟨hb.os,hb.tape,hb.output,hb.size,fun b hbs hne=>?_⟩
 rw [setRow_other _ _ _ _ (fun e=>hne (by rw [e]))]
theorem keep_over {W X:World} {B n g s:Nat} {v:Value} {xs:List Value} {t u:TypeId} {c:Array Value} (hg:W.heap[g]?=some (.cells c t)) (own:W.ownsRow B u s v n xs) (gr:W.grownBy X v.ownBlock) (ht:t ≠ u):X.heap[g]?=some (.cells c t):=by
 rw [gr.block g (Array.getElem?_eq_some_iff.1 hg).1 (fun e=>?_)]
 ·exact hg
 ·rcases own.2 with ⟨e1,_⟩ | ⟨k,cap,cur,e1,_,hk,_⟩
  ·rw [e1] at e; cases e
  ·rw [e1] at e
   cases e
   rw [hg] at hk
   cases hk
   exact ht rfl
section
variable {o:Oper} {a:Act} {w:World}
theorem execEqBB {x y:Operand} {b:Bool} (ho:o.op=.binOp .eql 4 x y 4) (hx:a.eval x=.bool b) (hy:a.eval y=.bool b):(execOp a.eval o).run Try.prog w=.ok (.value (.bool true)) w:=by
 unfold execOp
 simp only [ho,hx,hy]
 simp [go_sem]
end
structure DImpl (El:Value->Prop) (zv:Value) (fN fP fT fC fL fK fD fU fE:FuncId) where
 R:World->(Nat->Prop)->Value->(Nat->Value)->Nat->Nat->Bool->Prop
 nil:∀ W x,R W (fun _=>False) (.pointer none) x 0 0 true
 frame:∀ {W X F v x n k c},R W F v x n k c->(∀ b,F b->X.heap[b]?=W.heap[b]?)->W.heap.size<=X.heap.size->R X F v x n k c
 lt:∀ {W F v x n k c},R W F v x n k c->∀ b,F b->b < W.heap.size
 cg:∀ {W F v x y n k c},R W F v x n k c->(∀ j,j < n->x j=y j)->R W F v y n k c
 le:∀ {W F v x n k c},R W F v x n k c->n<=k/\k<=1024
 ptr:∀ {W F v x n k c},R W F v x n k c->∃ p,v=.pointer p
 new:∀ (s:Int) (V:World) (x:Nat->Value),Calls Try.prog fN #[.int .i64 s] V fun e w'=>((0<=s/\s<=1024->∃ b F,e=.returned (.tuple #[.pointer (some ⟨b,0,none⟩),.int .i64 ((0:Nat):Int)])/\R w' F (.pointer (some ⟨b,0,none⟩)) x 0 s.toNat false/\∀ q,F q->V.heap.size<=q)/\(¬ (0<=s/\s<=1024)->e=.returned (.tuple #[.pointer none,.int .i64 ((2:Nat):Int)])))/\Below V.heap.size V w'
 put:∀ {V F v x n k c u},R V F v x n k c->El u->Calls Try.prog fP #[v,u] V fun e w'=>∃ F',e=.returned (.tuple #[.bool (decide (c=false/\n < k)),.int .i64 (((if c then 180 else 0:Nat):Nat):Int)])/\R w' F' v (up x n u) (if c=false/\n < k then n+1 else n) k c/\Saved F V w'/\∀ q,F' q->F q\/V.heap.size<=q
 take:∀ {V F v x n k c},R V F v x n k c->Calls Try.prog fT #[v] V fun e w'=>∃ F',e=.returned (.tuple #[if 0 < n then x 0 else zv,.bool (decide (0 < n)),.int .i64 (((if n=0/\c=true then 180 else 0:Nat):Nat):Int)])/\R w' F' v (fun j=>x (j+1)) (n - 1) k c/\Saved F V w'/\∀ q,F' q->F q\/V.heap.size<=q
 close:∀ {V F v x n k c},R V F v x n k c->Calls Try.prog fC #[v] V fun e w'=>∃ F',e=.returned (.int .i64 (((if c then 180 else 0:Nat):Nat):Int))/\R w' F' v x n k true/\Saved F V w'/\∀ q,F' q->F q\/V.heap.size<=q
 len:∀ {V F v x n k c},R V F v x n k c->Calls Try.prog fL #[v] V fun e w'=>e=.returned (.int .i64 ((n:Nat):Int))/\Below V.heap.size V w'
 cap:∀ {V F v x n k c},R V F v x n k c->Calls Try.prog fK #[v] V fun e w'=>e=.returned (.int .i64 ((k:Nat):Int))/\Below V.heap.size V w'
 closed:∀ {V F v x n k c},R V F v x n k c->Calls Try.prog fD #[v] V fun e w'=>e=.returned (.bool c)/\Below V.heap.size V w'
 canPut:∀ {V F v x n k c},R V F v x n k c->Calls Try.prog fU #[v] V fun e w'=>e=.returned (.bool (decide (c=false/\n < k)))/\Below V.heap.size V w'
 canTake:∀ {V F v x n k c},R V F v x n k c->Calls Try.prog fE #[v] V fun e w'=>e=.returned (.bool (decide (0 < n)))/\Below V.heap.size V w'
abbrev ElI (v:Value):Prop:=∃ z:Int,v=.int .i64 z/\I64 z
abbrev ImplI:=DImpl ElI (.int .i64 0) 40 70 72 68 62 63 55 56 64
end Go.Proofs.Ytjjegmflllpknaa.Duc

namespace Go.Proofs.Ytjjegmflllpknaa.Duc
open Go.RowKit Gf8 Aes By8 Cel Cf Win Drw Prm
/- The reference's New, Put, Take, Close. Written by tools/mkP8b.py. -/
theorem grC18 {W:World} {g k:Nat} {u:Value}:W.grownBy (W.setCell ⟨g,k,none⟩ u) (some g):=by
 have hb:Below g W (W.setCell ⟨g,k,none⟩ u):=(Below.refl _ _).setCell (p:=⟨g,k,none⟩) (Nat.le_refl _) u
 refine ⟨hb.os,hb.tape,hb.output,hb.size,fun b hbs hne=>?_⟩
 have hn:b ≠ g:=fun e=>hne (by rw [e])
 simp [World.setCell,Array.getElem?_modify,hn.symm]
theorem keepT {W X:World} {g k:Nat} {c d:Array Value} {t u:TypeId} (h:W.heap[k]?=some (.cells d u)) (hg:W.heap[g]?=some (.cells c t)) (ht:t ≠ u) (gr:W.grownBy X (some g)):X.heap[k]?=some (.cells d u):=by
 rw [gr.block k (Array.getElem?_eq_some_iff.1 h).1 (fun e=>by cases e; rw [h] at hg; cases hg; exact ht rfl)]
 exact h
theorem own_shp {W:World} {B n:Nat} {v:Value} {xs:List Value} {t:TypeId} {s:Nat} (h:W.ownsRow B t s v n xs):∃ ao c,v=.slice ao n c:=by
 rcases h.2 with ⟨rfl,rfl⟩ | ⟨g,cap,cur,rfl,_⟩
 ·exact ⟨_,_,rfl⟩
 ·exact ⟨_,_,rfl⟩
theorem cat0 {W:World} {B n:Nat} {v:Value} {z:Nat->Int} (h:W.ownsRow B 3 1 v (0+n) (intsL (0+n) (catI 0 z z))):W.ownsRow B 3 1 v n (intsL n z):=by
 rw [Nat.zero_add] at h
 rw [intsL_congr (g:=z) (fun j hj=>by rw [show j=0+j by omega,catI_hi,Nat.zero_add])] at h
 exact h
end Go.Proofs.Ytjjegmflllpknaa.Duc

namespace Go.Proofs.Ytjjegmflllpknaa.Duc
open Go.RowKit Gf8 Aes By8 Cel Cf Win Drw Prm
/- What the law asks of a duct, by its contract. Written by tools/mkP8c.py. -/
section
variable {El:Value->Prop} {zv:Value} {fN fP fT fC fL fK fD fU fE:FuncId} (I:DImpl El zv fN fP fT fC fL fK fD fU fE) {V W X:World} {F:Nat->Prop} {v u:Value} {x:Nat->Value} {n k:Nat} {c:Bool}
theorem DImpl.on (h:I.R V F v x n k c) (hb:Below V.heap.size V X):I.R X F v x n k c:=I.frame h (fun b hF=>hb.block b (I.lt h b hF)) hb.size
end
end Go.Proofs.Ytjjegmflllpknaa.Duc

namespace Go.Proofs.Ytjjegmflllpknaa.Duc
open Go.RowKit Gf8 Aes By8 Cel Cf Win Drw Prm
/- Comparisons of ducts and errors; awake, place. Written by tools/mkP8d.py. -/
section
variable {o:Oper} {a:Act} {w:World}
theorem execDIeqln {x:Operand} (ho:o.op=.binOp .eql 85 x (.const (.pointer none)) 85) (hx:a.eval x=.pointer none):(execOp a.eval o).run Try.prog w=.ok (.value (.bool true)) w:=by
 unfold execOp
 simp only [ho,hx]
 simp [go_sem]
theorem execDIeqls {x:Operand} {b k:Nat} (ho:o.op=.binOp .eql 85 x (.const (.pointer none)) 85) (hx:a.eval x=.pointer (some ⟨b,k,none⟩)):(execOp a.eval o).run Try.prog w=.ok (.value (.bool false)) w:=by
 unfold execOp
 simp only [ho,hx]
 simp [go_sem]
theorem execEreql {x:Operand} {p q:Nat} (ho:o.op=.binOp .eql 32 x (.const (.int .i64 ((q:Nat):Int))) 32) (hx:a.eval x=.int .i64 ((p:Nat):Int)):(execOp a.eval o).run Try.prog w=.ok (.value (.bool (decide (p=q)))) w:=by
 unfold execOp
 simp only [ho,hx]
 by_cases h:p=q
 ·subst h
  simp [go_sem]
 ·have h2:¬ (p:Int)=q:=by omega
  simp [go_sem,h,h2]
theorem execErneq {x:Operand} {p q:Nat} (ho:o.op=.binOp .neq 32 x (.const (.int .i64 ((q:Nat):Int))) 32) (hx:a.eval x=.int .i64 ((p:Nat):Int)):(execOp a.eval o).run Try.prog w=.ok (.value (.bool (decide (p ≠ q)))) w:=by
 unfold execOp
 simp only [ho,hx]
 by_cases h:p=q
 ·subst h
  simp [go_sem]
 ·have h2:¬ (p:Int)=q:=by omega
  simp [go_sem,h,h2]
end
section
variable {El:Value->Prop} {zv:Value} {fN fP fT fC fL fK fD fU fE:FuncId} (I:DImpl El zv fN fP fT fC fL fK fD fU fE) {V W X:World} {F:Nat->Prop} {v u:Value} {x:Nat->Value} {n k:Nat} {c:Bool}
end
end Go.Proofs.Ytjjegmflllpknaa.Duc

namespace Go.Proofs.Ytjjegmflllpknaa.Duc
open Go.RowKit Gf8 Aes By8 Cel Cf Win Drw Prm
/- Steps in memory; place; what `played` leaves. Written by tools/mkP8e.py. -/
def xL (k d x:Int):List Value:=[.int .i64 k,.int .i64 d,.int .i64 x]
def xC (k d x:Int):Array Value:=#[.int .i64 k,.int .i64 d,.int .i64 x]
structure Sp3 (W:World) (v:Value) (n:Nat) (kd wh ix:Nat->Int):Prop where
 shape:∃ a c,v=.slice a n c/\(0 < n->∃ b q,a=some ⟨b,q,none⟩/\b < W.heap.size/\∀ j,j < n->W.rangeAt b (q+j * 3) (xL (kd j) (wh j) (ix j)))
 num:∀ j,j < n->I64 (wh j)/\I64 (ix j)
section
variable {W W':World} {v:Value} {n:Nat} {kd wh ix:Nat->Int}
theorem range18 {b q:Nat} {l:List Value} (h:W.rangeAt b q l) (hb:Below W.heap.size W W') (hl:b < W.heap.size):W'.rangeAt b q l:=fun j x hx=>by
 rw [cell_below hb hl]
 exact h j x hx
theorem Sp3.on (h:Sp3 W v n kd wh ix) (hb:Below W.heap.size W W'):Sp3 W' v n kd wh ix:=by
 obtain ⟨⟨a,c,e,h3⟩,h1⟩:=h
 refine ⟨⟨a,c,e,fun h0=>?_⟩,h1⟩
 obtain ⟨b,q,e1,e2,e3⟩:=h3 h0
 exact ⟨b,q,e1,Nat.lt_of_lt_of_le e2 hb.size,fun j hj=>range18 (e3 j hj) hb e2⟩
theorem Sp3.shp (h:Sp3 W v n kd wh ix):∃ a c,v=.slice a n c:=by
 obtain ⟨a,c,e,_⟩:=h.shape
 exact ⟨a,c,e⟩
theorem Sp3.at (h:Sp3 W v n kd wh ix) (h0:0 < n):∃ b q c,v=.slice (some ⟨b,q,none⟩) n c/\b < W.heap.size/\∀ j,j < n->W.rangeAt b (q+j * 3) (xL (kd j) (wh j) (ix j)):=by
 obtain ⟨a,c,e,h3⟩:=h.shape
 obtain ⟨b,q,e1,e2,e3⟩:=h3 h0
 exact ⟨b,q,c,by rw [e,e1],e2,e3⟩
end
section
variable {o:Oper} {a:Act} {w:World}
end
section
variable {I:ImplI} {U V X Y:World} {F F':Nat->Prop} {v:Value} {x:Nat->Value} {n k:Nat} {c:Bool}
end
end Go.Proofs.Ytjjegmflllpknaa.Duc

namespace Go.Proofs.Ytjjegmflllpknaa.Duc
open Go.RowKit Gf8 Aes By8 Cel Cf Win Drw Prm
/- The landed ducts: a ring in memory. -/
def pC (r:Value) (f n k:Nat) (c:Bool):Array Value:=#[r,.int .i64 ((f:Nat):Int),.int .i64 ((n:Nat):Int),.int .i64 ((k:Nat):Int),.bool c]
section
variable {W:World} {g f n k:Nat} {r u:Value} {c d:Bool} {t:TypeId}
theorem pC_at (h:W.heap[g]?=some (.cells (pC r f n k c) t)):W.cell? ⟨g,0,none⟩=some r/\W.cell? ⟨g,1,none⟩=some (.int .i64 ((f:Nat):Int))/\W.cell? ⟨g,2,none⟩=some (.int .i64 ((n:Nat):Int))/\W.cell? ⟨g,3,none⟩=some (.int .i64 ((k:Nat):Int))/\W.cell? ⟨g,4,none⟩=some (.bool c):=
 ⟨by rw [cell_of_row _ _ _ _ _ _ h]; rfl,by rw [cell_of_row _ _ _ _ _ _ h]; rfl,by rw [cell_of_row _ _ _ _ _ _ h]; rfl,by rw [cell_of_row _ _ _ _ _ _ h]; rfl,by rw [cell_of_row _ _ _ _ _ _ h]; rfl⟩
theorem pC_set0 (h:W.heap[g]?=some (.cells (pC r f n k c) t)):(W.setCell ⟨g,0,none⟩ u).heap[g]?=some (.cells (pC u f n k c) t):=heap4 _ h
theorem pC_set1 (h:W.heap[g]?=some (.cells (pC r f n k c) t)) {z:Nat}:(W.setCell ⟨g,1,none⟩ (.int .i64 ((z:Nat):Int))).heap[g]?=some (.cells (pC r z n k c) t):=heap4 _ h
theorem pC_set2 (h:W.heap[g]?=some (.cells (pC r f n k c) t)) {z:Nat}:(W.setCell ⟨g,2,none⟩ (.int .i64 ((z:Nat):Int))).heap[g]?=some (.cells (pC r f z k c) t):=heap4 _ h
theorem pC_set4 (h:W.heap[g]?=some (.cells (pC r f n k c) t)):(W.setCell ⟨g,4,none⟩ (.bool d)).heap[g]?=some (.cells (pC r f n k d) t):=heap4 _ h
end
def rA (m:Nat) (y:Nat->Value):Array Value:=((List.range m).map y).toArray
theorem rA_size (m:Nat) (y:Nat->Value):(rA m y).size=m:=by simp [rA]
theorem rA_at {m i:Nat} {y:Nat->Value} (h:i < m):(rA m y)[i]?=some (y i):=by simp [rA,h]
theorem rA_no {m i:Nat} {y:Nat->Value} (h:¬ i < m):(rA m y)[i]?=none:=Array.getElem?_eq_none (by rw [rA_size]; omega)
theorem rA_cell {W:World} {b m i:Nat} {y:Nat->Value} {t:TypeId} (h:W.heap[b]?=some (.cells (rA m y) t)) (hi:i < m):W.cell? ⟨b,i,none⟩=some (y i):=by
 rw [cell_of_row _ _ _ _ _ _ h]
 exact rA_at hi
theorem rA_set {m i:Nat} {y:Nat->Value} {u:Value} (h:i < m):(rA m y).setIfInBounds i u=rA m (up y i u):=by
 apply Array.ext_getElem?
 intro j
 by_cases e:i=j
 ·subst e
  rw [Array.getElem?_setIfInBounds_self_of_lt (by rw [rA_size]; exact h),rA_at h,up_at]
 ·rw [Array.getElem?_setIfInBounds_ne e]
  by_cases hj:j < m
  ·rw [rA_at hj,rA_at hj,up_ne _ _ (Ne.symm e)]
  ·rw [rA_no hj,rA_no hj]
theorem rA_made (z:Value) (n:Nat):madeCells #[z] n=rA n (fun _=>z):=by
 apply Array.ext_getElem?
 intro j
 by_cases hj:j < n
 ·rw [rA_at hj]
  simp [madeCells,hj,Nat.mod_one]
 ·rw [rA_no hj]
  simp [madeCells]
  omega
def splV (y:Nat->Value) (o m:Nat) (h:Nat->Value):Nat->Value:=fun i=>if o<=i/\i < o+m then h (i - o) else y i
theorem rA_spl {N o m:Nat} {y h:Nat->Value} (hl:o+m<=N):((rA N y).toList.take o ++ (List.range m).map h ++ (rA N y).toList.drop (o+m)).toArray=rA N (splV y o m h):=by
 apply Array.ext_getElem?
 intro i
 have h1:((rA N y).toList.take o).length=o:=by simp [rA]; omega
 rw [List.getElem?_toArray,List.append_assoc]
 by_cases q:i < o
 ·rw [List.getElem?_append_left (by omega),List.getElem?_take,if_pos q,Array.getElem?_toList,rA_at (by omega),rA_at (by omega)]
  unfold splV
  rw [if_neg (by omega)]
 ·rw [List.getElem?_append_right (by omega),h1]
  by_cases q2:i < o+m
  ·rw [List.getElem?_append_left (by simp; omega),rA_at (by omega)]
   unfold splV
   rw [if_pos ⟨by omega,q2⟩,List.getElem?_map,List.getElem?_range (by omega)]
   rfl
  ·rw [List.getElem?_append_right (by simp; omega),List.getElem?_drop,Array.getElem?_toList]
   simp only [List.length_map,List.length_range]
   rw [show o+m+(i - o - m)=i by omega]
   by_cases q3:i < N
   ·rw [rA_at q3,rA_at q3]
    unfold splV
    rw [if_neg (by omega)]
   ·rw [rA_no q3,rA_no q3]
def Rg (te:TypeId) (El:Value->Prop) (W:World) (F:Nat->Prop) (r:Value) (f m n:Nat) (x:Nat->Value):Prop:=
 (m=0/\n=0/\f=0/\r=.slice none 0 0)\/∃ b y,F b/\r=.slice (some ⟨b,0,none⟩) m m/\f < m/\n<=m/\W.heap[b]?=some (.cells (rA m y) te)/\(∀ i,i < m->El (y i))/\∀ j,j < n->y ((f+j) % m)=x j
def DR (td te:TypeId) (El:Value->Prop) (W:World) (F:Nat->Prop) (v:Value) (x:Nat->Value) (n k:Nat) (c:Bool):Prop:=
 n<=k/\k<=1024/\(∀ b,F b->b < W.heap.size)/\((v=.pointer none/\k=0/\c=true)\/∃ g r f m,v=.pointer (some ⟨g,0,none⟩)/\F g/\W.heap[g]?=some (.cells (pC r f n k c) td)/\m<=k/\Rg te El W F r f m n x)
section
variable {td te:TypeId} {El:Value->Prop} {W X V:World} {F:Nat->Prop} {v r:Value} {x y:Nat->Value} {g b f m n k:Nat} {c:Bool}
theorem DR.nil:DR td te El W (fun _=>False) (.pointer none) x 0 0 true:=⟨Nat.le_refl _,by omega,fun _ h=>h.elim,Or.inl ⟨rfl,rfl,rfl⟩⟩
theorem Rg.frame (h:Rg te El W F r f m n x) (e:∀ b,F b->X.heap[b]?=W.heap[b]?):Rg te El X F r f m n x:=by
 rcases h with h | ⟨b,y,h1,h2,h3,h4,h5,h6⟩
 ·exact Or.inl h
 ·exact Or.inr ⟨b,y,h1,h2,h3,h4,by rw [e b h1]; exact h5,h6⟩
theorem DR.frame (h:DR td te El W F v x n k c) (e:∀ b,F b->X.heap[b]?=W.heap[b]?) (hs:W.heap.size<=X.heap.size):DR td te El X F v x n k c:=by
 obtain ⟨h1,h2,h3,h4⟩:=h
 refine ⟨h1,h2,fun b hb=>Nat.lt_of_lt_of_le (h3 b hb) hs,?_⟩
 rcases h4 with h4 | ⟨g,r,f,m,q1,q2,q3,q4,q5⟩
 ·exact Or.inl h4
 ·exact Or.inr ⟨g,r,f,m,q1,q2,by rw [e g q2]; exact q3,q4,q5.frame e⟩
theorem DR.cg (h:DR td te El W F v x n k c) (e:∀ j,j < n->x j=y j):DR td te El W F v y n k c:=by
 obtain ⟨h1,h2,h3,h4⟩:=h
 refine ⟨h1,h2,h3,?_⟩
 rcases h4 with h4 | ⟨g,r,f,m,q1,q2,q3,q4,q5⟩
 ·exact Or.inl h4
 ·refine Or.inr ⟨g,r,f,m,q1,q2,q3,q4,?_⟩
  rcases q5 with q5 | ⟨b,z,w1,w2,w3,w4,w5,w6,w7⟩
  ·exact Or.inl q5
  ·exact Or.inr ⟨b,z,w1,w2,w3,w4,w5,w6,fun j hj=>(w7 j hj).trans (e j hj)⟩
theorem DR.ptr (h:DR td te El W F v x n k c):∃ p,v=.pointer p:=by
 rcases h.2.2.2 with ⟨q,_⟩ | ⟨g,r,f,m,q,_⟩
 ·exact ⟨_,q⟩
 ·exact ⟨_,q⟩
structure Dq (td te:TypeId) (El:Value->Prop) (V:World) (F:Nat->Prop) (g b f m n k:Nat) (c:Bool) (y:Nat->Value) (X:World):Prop where
 sv:Saved F V X
 hg:X.heap[g]?=some (.cells (pC (.slice (some ⟨b,0,none⟩) m m) f n k c) td)
 hb:X.heap[b]?=some (.cells (rA m y) te)
 gF:F g
 bF:F b\/V.heap.size<=b
 fm:f < m
 el:∀ i,i < m->El (y i)
 mk':m<=k
 k1:k<=1024
theorem Dq.on (h:Dq td te El V F g b f m n k c y W) (hb:Below W.heap.size W X):Dq td te El V F g b f m n k c y X:=
 ⟨h.sv.below hb h.sv.size,on9 h.hg hb,on9 h.hb hb,h.gF,h.bF,h.fm,h.el,h.mk',h.k1⟩
theorem Dq.ne (h:Dq td te El V F g b f m n k c y W) (ht:td ≠ te):b ≠ g:=by
 rintro rfl
 have h1:=h.hg
 rw [h.hb] at h1
 injection h1 with h1
 injection h1 with _ h2 _
 exact ht h2.symm
theorem Dq.put (h:Dq td te El V F g b f m n k c y W) (ht:td ≠ te) {i:Nat} {u:Value} (hi:i < m) (hu:El u) (e:X=W.setCell ⟨b,i,none⟩ u):Dq td te El V F g b f m n k c (up y i u) X:=by
 have hn:=h.ne ht
 refine ⟨by rw [e]; exact h.sv.cell u h.bF.symm,by rw [e,heap4o _ h.hb (Ne.symm hn)]; exact h.hg,by rw [e,heap4 _ h.hb,rA_set hi],h.gF,h.bF,h.fm,fun j hj=>?_,h.mk',h.k1⟩
 by_cases q:j=i
 ·rw [q,up_at]; exact hu
 ·rw [up_ne _ _ q]; exact h.el j hj
theorem Dq.held (h:Dq td te El V F g b f m n k c y W) (ht:td ≠ te) {z:Nat} (e:X=W.setCell ⟨g,2,none⟩ (.int .i64 ((z:Nat):Int))):Dq td te El V F g b f m z k c y X:=by
 have hn:=h.ne ht
 exact ⟨by rw [e]; exact h.sv.cell _ (Or.inr h.gF),by rw [e]; exact pC_set2 h.hg,by rw [e,heap4o _ h.hg hn]; exact h.hb,h.gF,h.bF,h.fm,h.el,h.mk',h.k1⟩
theorem Dq.first (h:Dq td te El V F g b f m n k c y W) (ht:td ≠ te) {z:Nat} (hz:z < m) (e:X=W.setCell ⟨g,1,none⟩ (.int .i64 ((z:Nat):Int))):Dq td te El V F g b z m n k c y X:=by
 have hn:=h.ne ht
 exact ⟨by rw [e]; exact h.sv.cell _ (Or.inr h.gF),by rw [e]; exact pC_set1 h.hg,by rw [e,heap4o _ h.hg hn]; exact h.hb,h.gF,h.bF,hz,h.el,h.mk',h.k1⟩
theorem Dq.out (h:Dq td te El V F g b f m n k c y W) (hn:n<=m) (hx:∀ j,j < n->y ((f+j) % m)=x j):∃ F',DR td te El W F' (.pointer (some ⟨g,0,none⟩)) x n k c/\Saved F V W/\∀ q,F' q->F q\/V.heap.size<=q:=by
 refine ⟨fun q=>q=g\/q=b,⟨Nat.le_trans hn h.mk',h.k1,fun q hq=>?_,Or.inr ⟨g,_,f,m,rfl,Or.inl rfl,h.hg,h.mk',Or.inr ⟨b,y,Or.inr rfl,rfl,h.fm,hn,h.hb,h.el,hx⟩⟩⟩,h.sv,fun q hq=>?_⟩
 ·rcases hq with rfl | rfl
  ·exact (Array.getElem?_eq_some_iff.1 h.hg).1
  ·exact (Array.getElem?_eq_some_iff.1 h.hb).1
 ·rcases hq with rfl | rfl
  ·exact Or.inl h.gF
  ·exact h.bF
theorem DR.same (h:DR td te El V F v x n k c) (hb:Below V.heap.size V W):∃ F',DR td te El W F' v x n k c/\Saved F V W/\∀ q,F' q->F q\/V.heap.size<=q:=
 ⟨F,h.frame (fun b hF=>hb.block b (h.2.2.1 b hF)) hb.size,(Saved.refl _ _).below hb (Nat.le_refl _),fun _ hq=>Or.inl hq⟩
theorem DR.close (h:DR td te El V F v x n k c) (ht:td ≠ te) (hb:Below V.heap.size V W) (hv:v=.pointer (some ⟨g,0,none⟩)) (e:X=W.setCell ⟨g,4,none⟩ (.bool true)):∃ F',DR td te El X F' v x n k true/\Saved F V X/\∀ q,F' q->F q\/V.heap.size<=q:=by
 have hW:=h.frame (X:=W) (fun b hF=>hb.block b (h.2.2.1 b hF)) hb.size
 obtain ⟨h1,h2,h3,h4⟩:=hW
 rcases h4 with ⟨q,_⟩ | ⟨g',r,f,m,q1,q2,q3,q4,q5⟩
 ·rw [hv] at q; cases q
 ·rw [hv] at q1
  obtain rfl:g=g':=by injection q1 with q1; injection q1 with q1; injection q1
  have hs:Saved F V X:=by rw [e]; exact ((Saved.refl F V).below hb (Nat.le_refl _)).cell _ (Or.inr q2)
  have hsz:W.heap.size<=X.heap.size:=by rw [e]; exact (grC18 (W:=W) (g:=g) (k:=4) (u:=.bool true)).size
  refine ⟨F,⟨h1,h2,fun b hF=>Nat.lt_of_lt_of_le (h3 b hF) hsz,Or.inr ⟨g,r,f,m,hv,q2,by rw [e]; exact pC_set4 q3,q4,?_⟩⟩,hs,fun q hq=>Or.inl hq⟩
  rcases q5 with q5 | ⟨b,y,w1,w2,w3,w4,w5,w6⟩
  ·exact Or.inl q5
  ·refine Or.inr ⟨b,y,w1,w2,w3,w4,?_,w6⟩
   rw [e,heap4o _ q3 (fun z=>?_)]
   ·exact w5
   ·subst z
    rw [w5] at q3
    injection q3 with q3
    injection q3 with _ z2 _
    exact ht z2.symm
theorem Dq.base (h:Dq td te El W F g b f m n k c y X) (hb:Below V.heap.size V W):Dq td te El V F g b f m n k c y X:=
 ⟨⟨h.sv.os.trans hb.os,h.sv.tape.trans hb.tape,h.sv.output.trans hb.output,Nat.le_trans hb.size h.sv.size,fun q hq hF=>by rw [h.sv.block q (Nat.lt_of_lt_of_le hq hb.size) hF,hb.block q hq]⟩,h.hg,h.hb,h.gF,h.bF.imp id (Nat.le_trans hb.size),h.fm,h.el,h.mk',h.k1⟩
theorem wid_el {M:Nat} {zv:Value} (hf:f < m) (el:∀ i,i < m->El (y i)) (hz:El zv):∀ i,i < M->El (splV (splV (fun _=>zv) 0 (m - f) fun j=>y (f+j)) (m - f) f (fun j=>y (0+j)) i):=by
 intro i _
 unfold splV
 split
 ·exact el _ (by omega)
 ·split
  ·exact el _ (by omega)
  ·exact hz
theorem wid_x {zv:Value} (hf:f < m) (hx:∀ j,j < m->y ((f+j) % m)=x j):∀ j,j < m->splV (splV (fun _=>zv) 0 (m - f) fun j=>y (f+j)) (m - f) f (fun j=>y (0+j)) j=x j:=by
 intro j hj
 rw [← hx j hj]
 unfold splV
 by_cases h1:j < m - f
 ·rw [if_neg (by omega),if_pos (by omega),Nat.mod_eq_of_lt (by omega)]
  rfl
 ·rw [if_pos (by omega),Nat.mod_eq_sub_mod (by omega),Nat.mod_eq_of_lt (by omega)]
  exact congrArg y (by omega)
theorem ring_next {f n m:Nat} {y x:Nat->Value} {u:Value} (hn:n < m) (hx:∀ j,j < n->y ((f+j) % m)=x j):∀ j,j < n+1->up y ((f+n) % m) u ((f+j) % m)=up x n u j:=by
 intro j hj
 by_cases e:j=n
 ·rw [e,up_at,up_at]
 ·have hlt:j < n:=by omega
  rw [up_ne x u e,up_ne _ _ (fun q=>?_),hx j hlt]
  have h1:=Nat.div_add_mod (f+j) m
  have h2:=Nat.div_add_mod (f+n) m
  rw [q] at h1
  have h3:m * ((f+n) / m) - m * ((f+j) / m)=n - j:=by omega
  rw [← Nat.mul_sub] at h3
  rcases Nat.eq_zero_or_pos ((f+n) / m - (f+j) / m) with z | z
  ·rw [z] at h3; omega
  ·have:=Nat.mul_le_mul_left m z
   omega
theorem ring_off {f n m:Nat} {y x:Nat->Value} {u:Value} (hf:f < m) (hn:n<=m) (h0:0 < n) (hx:∀ j,j < n->y ((f+j) % m)=x j):∀ j,j < n - 1->up y f u (((f+1) % m+j) % m)=x (j+1):=by
 intro j hj
 rw [Nat.mod_add_mod,show f+1+j=f+(j+1) by omega,up_ne _ _ (fun q=>?_),hx (j+1) (by omega)]
 by_cases z:f+(j+1) < m
 ·rw [Nat.mod_eq_of_lt z] at q; omega
 ·rw [Nat.mod_eq_sub_mod (by omega),Nat.mod_eq_of_lt (by omega)] at q
  omega
end
theorem execNl {o:Oper} {a:Act} {w:World} {P:Program} {x:Operand} {ad:Addr} (ho:o.op=.nilCheck x) (hx:a.eval x=.pointer (some ad)):(execOp a.eval o).run P w=.ok (.value (.pointer (some ad))) w:=by
 unfold execOp
 simp only [ho,hx]
 simp [go_sem]
def OneK (u:Value):Prop:=(∃ k z,u=.int k z)\/(∃ b,u=.bool b)\/(∃ s,u=.string s)\/∃ a n c,u=.slice a n c
end Go.Proofs.Ytjjegmflllpknaa.Duc
