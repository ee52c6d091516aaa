import Derived.Test.YtjjegmflllpknaaX7b
import Derived.Test.YtjjegmflllpknaaX7f
import Derived.Test.YtjjegmflllpknaaF9b
import Derived.Laws.IdiomStrings
import Derived.Laws.Strings2
import Derived.Lib.Bytes
namespace Go.Proofs.Ytjjegmflllpknaa.Tap
open Go.RowKit Gf8 Aes By8 Cel Cf
/- Strings of bytes: one of them, a piece, and back to a list; rows that bear a conversion's mark. -/
section
variable {o:Oper} {a:Act} {w:World}
end
def OwnM (W:World) (B:Nat) (v:Value) (n:Nat) (p:Nat->Nat):Prop:=
 ∃ g cap cur fz,v=.slice (some ⟨g,0,none⟩) n cap/\B<=g/\W.heap[g]?=some (.cells cur 5 fz)/\n<=cap/\cap<=maxLen/\cur.size=cap/\(∀ j,j < n->cur[j]?=some (.int .u8 (p j:Nat)))/\(∀ j,j < n->p j < 256)/\(cap<=fz.1\/fz.2=0)
theorem OwnM.slice {W:World} {B n:Nat} {v:Value} {p:Nat->Nat} (h:OwnM W B v n p):SliceN W v n p:=by
 obtain ⟨g,cap,cur,fz,rfl,hB,hg,h1,h2,h3,h4,h5,h6⟩:=h
 refine ⟨⟨_,_,rfl,h1,by unfold maxLen at h2; omega,fun _=>⟨g,0,rfl,(Array.getElem?_eq_some_iff.1 hg).1,fun j hj=>?_⟩⟩,h5⟩
 rw [cell_of_row _ _ _ _ _ _ hg,Nat.zero_add]
 exact h4 j hj
theorem OwnM.on {W W':World} {B n:Nat} {v:Value} {p:Nat->Nat} (h:OwnM W B v n p) (hb:Below W.heap.size W W'):OwnM W' B v n p:=by
 obtain ⟨g,cap,cur,fz,rfl,hB,hg,hr⟩:=h
 exact ⟨g,cap,cur,fz,rfl,hB,by rw [hb.block _ (Array.getElem?_eq_some_iff.1 hg).1]; exact hg,hr⟩
theorem OwnM.base {W:World} {B C n:Nat} {v:Value} {p:Nat->Nat} (h:OwnM W C v n p) (hB:B<=C):OwnM W B v n p:=by
 obtain ⟨g,cap,cur,fz,e,h1,hr⟩:=h
 exact ⟨g,cap,cur,fz,e,Nat.le_trans hB h1,hr⟩
end Go.Proofs.Ytjjegmflllpknaa.Tap

namespace Go.Proofs.Ytjjegmflllpknaa.Tap
open Go.RowKit Gf8 Aes By8 Cel Cf
/- The program's Tape: New, Left, Used, behind. -/
theorem results_cell9 {P:Program} {fn:Func} {p:Tmp} {ty:TypeId} (h:fn.results=#[.cell p ty]) (tmps:Array Value) (w:World) (g:Nat) (t:TypeId) (cs:Array Value) (fr:Nat × Nat) (d:TypeDesc)
  (hp:tmps.getD p undef=.pointer (some ⟨g,0,none⟩)) (hg:w.heap[g]?=some (.cells cs t fr))
  (hu:P.underlying ty=some d) (hd:(match d with | .struct _ | .array _ _=>true | _=>false)=true) (hi:(P.info? ty).map (·.size)=some cs.size) :
  (results fn tmps).run P w=.ok (.agg cs) w:=by
 have hp':tmps[p]?.getD undef=.pointer (some ⟨g,0,none⟩):=by simpa using hp
 simp [results,h,hp',asAddr,run_loadVar_row w g t ty cs fr d hg hu hd hi]
section
variable {o:Oper} {a:Act} {w:World}
theorem execLd3 {x:Operand} {b f:Nat} {v:Int} (ho:o.op=.load 3 x) (hx:a.eval x=.pointer (some ⟨b,f,none⟩)) (hc:w.cell? ⟨b,f,none⟩=some (.int .i64 v)):(execOp a.eval o).run Try.prog w=.ok (.value (.int .i64 v)) w:=by
 unfold execOp
 simp only [ho,hx]
 simp [go_sem,hc]
end
end Go.Proofs.Ytjjegmflllpknaa.Tap

namespace Go.Proofs.Ytjjegmflllpknaa.Tap
open Go.RowKit Gf8 Aes By8 Cel Cf
/- The program's Byte and Take. Written by tools/mkV9l.py. -/
theorem on9 {W X:World} {g:Nat} {c:Obj} (h:W.heap[g]?=some c) (b:Below W.heap.size W X):X.heap[g]?=some c:=by rw [b.block _ (Array.getElem?_eq_some_iff.1 h).1]; exact h
section
variable {o:Oper} {a:Act} {w:World}
theorem execEqN {x y:Operand} {p q:Nat} (ho:o.op=.binOp .eql 3 x y 3) (hx:a.eval x=.int .i64 (p:Int)) (hy:a.eval y=.int .i64 (q:Int)):(execOp a.eval o).run Try.prog w=.ok (.value (.bool (decide (p=q)))) w:=by
 unfold execOp
 simp only [ho,hx,hy]
 by_cases h:p=q
 ·subst h
  simp [go_sem]
 ·have h2:¬ (p:Int)=q:=by omega
  simp [go_sem,h,h2]
theorem execEqE {x y:Operand} {p q:Nat} (ho:o.op=.binOp .eql 32 x y 32) (hx:a.eval x=.int .i64 (p:Int)) (hy:a.eval y=.int .i64 (q:Int)):(execOp a.eval o).run Try.prog w=.ok (.value (.bool (decide (p=q)))) w:=by
 unfold execOp
 simp only [ho,hx,hy]
 by_cases h:p=q
 ·subst h
  simp [go_sem]
 ·have h2:¬ (p:Int)=q:=by omega
  simp [go_sem,h,h2]
theorem execNeN {x y:Operand} {p q:Nat} (ho:o.op=.binOp .neq 3 x y 3) (hx:a.eval x=.int .i64 (p:Int)) (hy:a.eval y=.int .i64 (q:Int)):(execOp a.eval o).run Try.prog w=.ok (.value (.bool (decide (p ≠ q)))) w:=by
 unfold execOp
 simp only [ho,hx,hy]
 by_cases h:p=q
 ·subst h
  simp [go_sem]
 ·have h2:¬ (p:Int)=q:=by omega
  simp [go_sem,h,h2]
theorem execNeE {x y:Operand} {p q:Nat} (ho:o.op=.binOp .neq 32 x y 32) (hx:a.eval x=.int .i64 (p:Int)) (hy:a.eval y=.int .i64 (q:Int)):(execOp a.eval o).run Try.prog w=.ok (.value (.bool (decide (p ≠ q)))) w:=by
 unfold execOp
 simp only [ho,hx,hy]
 by_cases h:p=q
 ·subst h
  simp [go_sem]
 ·have h2:¬ (p:Int)=q:=by omega
  simp [go_sem,h,h2]
theorem execGtN {x y:Operand} {p q:Nat} (ho:o.op=.binOp .gtr 3 x y 3) (hx:a.eval x=.int .i64 (p:Int)) (hy:a.eval y=.int .i64 (q:Int)):(execOp a.eval o).run Try.prog w=.ok (.value (.bool (decide (q < p)))) w:=by
 unfold execOp
 simp only [ho,hx,hy]
 by_cases h:q < p
 ·simp [go_sem,h]
 ·simp [go_sem,h]
end
theorem OwnM.set {X:World} {B n g:Nat} {v:Value} {q:Nat->Nat} {cur c:Array Value} {t:TypeId} (h:OwnM X B v n q) (hg:X.heap[g]?=some (.cells cur t)) (ht:t ≠ 5):OwnM (X.setRow g c) B v n q:=by
 obtain ⟨g1,cap,cu,fz,e,hB,h1,hr⟩:=h
 refine ⟨g1,cap,cu,fz,e,hB,?_,hr⟩
 rw [setRow_other _ _ _ _ (fun q=>?_)]
 ·exact h1
 ·subst q
  rw [h1] at hg
  injection hg with hg
  injection hg with _ hg _
  exact ht hg.symm
def TkA (W:World) (B:Nat) (v:Value) (k:Nat) (q:Nat->Nat):Prop:=(v=.slice none 0 0/\k=0)\/OwnM W B v k q
theorem TkA.slice {W:World} {B n:Nat} {v:Value} {p:Nat->Nat} (h:TkA W B v n p):SliceN W v n p:=by
 rcases h with ⟨rfl,rfl⟩ | h
 ·exact ⟨⟨_,_,rfl,Nat.le_refl _,by omega,fun h=>by omega⟩,fun j hj=>by omega⟩
 ·exact h.slice
theorem TkA.on {W W':World} {B n:Nat} {v:Value} {p:Nat->Nat} (h:TkA W B v n p) (hb:Below W.heap.size W W'):TkA W' B v n p:=h.imp id (·.on hb)
theorem TkA.base {W:World} {B C n:Nat} {v:Value} {p:Nat->Nat} (h:TkA W C v n p) (hB:B<=C):TkA W B v n p:=h.imp id (·.base hB)
theorem TkA.set {X:World} {B n g:Nat} {v:Value} {q:Nat->Nat} {cur c:Array Value} {t:TypeId} (h:TkA X B v n q) (hg:X.heap[g]?=some (.cells cur t)) (ht:t ≠ 5):TkA (X.setRow g c) B v n q:=h.imp id (·.set hg ht)
end Go.Proofs.Ytjjegmflllpknaa.Tap

namespace Go.Proofs.Ytjjegmflllpknaa.Tap
open Go.RowKit Gf8 Aes By8 Cel Cf
/- append to a row that may bear a mark behind its cells. -/
theorem bytesL_len (n:Nat) (p:Nat->Nat):(bytesL n p).length=n:=by simp [bytesL]
theorem bytesL_one (n:Nat) (p:Nat->Nat):∀ u ∈ bytesL n p,u.oneCell'=true:=by
 intro z hz
 unfold bytesL at hz
 obtain ⟨k,_,rfl⟩:=List.mem_map.1 hz
 rfl
theorem OwnM.some {W:World} {B n:Nat} {v:Value} {p:Nat->Nat} (h:OwnM W B v n p):∀ l c,v ≠ .slice none l c:=by
 obtain ⟨g,cap,cur,fz,rfl,_⟩:=h
 intro l c e
 cases e
theorem OwnM.over {W W':World} {B b n:Nat} {v:Value} {p:Nat->Nat} {row:Option Nat} (h:OwnM W B v n p) (hg:W.grownBy W' row) (hr:∀ k,row=Option.some k->k < b) (hb:b<=B):OwnM W' B v n p:=by
 obtain ⟨g,cap,cur,fz,e,hB,h1,hrest⟩:=h
 refine ⟨g,cap,cur,fz,e,hB,?_,hrest⟩
 rw [hg.block g (Array.getElem?_eq_some_iff.1 h1).1 (fun q=>?_)]
 ·exact h1
 ·have:=hr g q.symm
  omega
theorem OwnM.row {W:World} {B n:Nat} {v:Value} {p:Nat->Nat} (h:OwnM W B v n p):∀ k,v.ownBlock=Option.some k->B<=k/\k < W.heap.size:=by
 obtain ⟨g,cap,cur,fz,rfl,hB,h1,_⟩:=h
 intro k hk
 obtain rfl:g=k:=by simpa [Value.ownBlock] using hk
 exact ⟨hB,(Array.getElem?_eq_some_iff.1 h1).1⟩
section
variable {o:Oper} {a:Act} {w:World}
theorem execLeN {x y:Operand} {p q:Nat} (ho:o.op=.binOp .leq 3 x y 3) (hx:a.eval x=.int .i64 (p:Int)) (hy:a.eval y=.int .i64 (q:Int)):(execOp a.eval o).run Try.prog w=.ok (.value (.bool (decide (p<=q)))) w:=by
 unfold execOp
 simp only [ho,hx,hy]
 by_cases h:p<=q
 ·simp [go_sem,h]
 ·simp [go_sem,h]
end
end Go.Proofs.Ytjjegmflllpknaa.Tap

namespace Go.Proofs.Ytjjegmflllpknaa.Drw
/- Draws over Nat. -/
def scan (p:Nat->Nat) (b:Nat):Nat->Nat->Nat
 | 0,at'=>at'
 | k+1,at'=>if p at' / b < 256 / b then at' else scan p b k (at'+1)
def dS (p:Nat->Nat) (l at':Nat) (b:Int):Nat:=scan p b.toNat (l - at') at'
def dE (p:Nat->Nat) (l at':Nat) (b:Int):Nat:=if b < 1\/256 < b then 2 else if b=1 then 0 else if dS p l at' b < l then 0 else 3
def dN (p:Nat->Nat) (l at':Nat) (b:Int):Nat:=if dE p l at' b=0 then (if b=1 then at' else dS p l at' b+1) else 0
def plA (p:Nat->Nat) (l:Nat) (bs:Nat->Int):Nat->Nat
 | 0=>0
 | i+1=>dN p l (plA p l bs i) (bs i)
def okA (p:Nat->Nat) (l:Nat) (bs:Nat->Int) (n:Nat):Prop:=∀ i,i < n->dE p l (plA p l bs i) (bs i)=0
end Go.Proofs.Ytjjegmflllpknaa.Drw

namespace Go.Proofs.Ytjjegmflllpknaa.Drw
/- A tape that is turned. -/
section
variable {p:Nat->Nat} {l:Nat} {bs ws:Nat->Int} {n:Nat}
theorem turned (v b w:Nat) (hw:w < b):(v - v % b+w) / b=v / b/\(v - v % b+w) % b=w:=by
 have hb:0 < b:=by omega
 have e:v - v % b=b * (v / b):=by have:=Nat.div_add_mod v b; omega
 rw [e]
 refine ⟨?_,?_⟩
 ·rw [Nat.mul_add_div hb,Nat.div_eq_of_lt hw,Nat.add_zero]
 ·rw [Nat.mul_add_mod,Nat.mod_eq_of_lt hw]
end
end Go.Proofs.Ytjjegmflllpknaa.Drw

namespace Go.Proofs.Ytjjegmflllpknaa.Drw
/- Draws in pieces, and of other tapes that begin alike. -/
theorem scan_shift (p:Nat->Nat) (b n:Nat):∀ k x,scan p b k (n+x)=n+scan (fun j=>p (n+j)) b k x
 | 0,x=>rfl
 | k+1,x=>by
  unfold scan
  by_cases h:p (n+x) / b < 256 / b
  ·rw [if_pos h,if_pos h]
  ·rw [if_neg h,if_neg h]
   exact scan_shift p b n k (x+1)
theorem dS_shift (p:Nat->Nat) (l n x:Nat) (c:Int):dS p l (n+x) c=n+dS (fun j=>p (n+j)) (l - n) x c:=by
 unfold dS
 rw [show l - (n+x)=l - n - x by omega]
 exact scan_shift p _ n _ x
theorem dE_shift (p:Nat->Nat) (l n x:Nat) (c:Int):dE p l (n+x) c=dE (fun j=>p (n+j)) (l - n) x c:=by
 unfold dE
 have e:(dS p l (n+x) c < l)=(dS (fun j=>p (n+j)) (l - n) x c < l - n):=by
  rw [dS_shift]
  exact propext ⟨fun h=>by omega,fun h=>by omega⟩
 simp only [e]
theorem dN_shift (p:Nat->Nat) (l n x:Nat) (c:Int) (h:dE p l (n+x) c=0):dN p l (n+x) c=n+dN (fun j=>p (n+j)) (l - n) x c:=by
 have h':dE (fun j=>p (n+j)) (l - n) x c=0:=by rw [← dE_shift]; exact h
 unfold dN
 rw [if_pos h,if_pos h']
 by_cases h1:c=1
 ·rw [if_pos h1,if_pos h1]
 ·rw [if_neg h1,if_neg h1,dS_shift]
  omega
def catI (m:Nat) (a b:Nat->Int):Nat->Int:=fun i=>if i < m then a i else b (i - m)
theorem catI_lo {m i:Nat} {a b:Nat->Int} (h:i < m):catI m a b i=a i:=if_pos h
theorem catI_hi {m i:Nat} {a b:Nat->Int}:catI m a b (m+i)=b i:=by unfold catI; rw [if_neg (by omega),Nat.add_sub_cancel_left]
section
variable {p:Nat->Nat} {l m:Nat} {a b:Nat->Int}
theorem plA_lo:∀ {i},i<=m->plA p l (catI m a b) i=plA p l a i
 | 0,_=>rfl
 | i+1,h=>by
  show dN p l (plA p l (catI m a b) i) (catI m a b i)=dN p l (plA p l a i) (a i)
  rw [plA_lo (by omega),catI_lo (by omega)]
theorem okA_lo:okA p l (catI m a b) m ↔ okA p l a m:=
 ⟨fun h i hi=>by have:=h i hi; rw [plA_lo (by omega),catI_lo hi] at this; exact this,fun h i hi=>by rw [plA_lo (by omega),catI_lo hi]; exact h i hi⟩
theorem cat_hi (n:Nat) (hn:n=plA p l a m):∀ {k},(okA p l (catI m a b) (m+k)->okA (fun j=>p (n+j)) (l - n) b k/\plA p l (catI m a b) (m+k)=n+plA (fun j=>p (n+j)) (l - n) b k)/\(okA p l a m->okA (fun j=>p (n+j)) (l - n) b k->okA p l (catI m a b) (m+k)/\plA p l (catI m a b) (m+k)=n+plA (fun j=>p (n+j)) (l - n) b k)
 | 0=>by
  refine ⟨fun _=>⟨fun i hi=>by omega,?_⟩,fun h _=>⟨okA_lo.2 h,?_⟩⟩
  ·rw [Nat.add_zero,plA_lo (Nat.le_refl _)]; exact hn.symm
  ·rw [Nat.add_zero,plA_lo (Nat.le_refl _)]; exact hn.symm
 | k+1=>by
  obtain ⟨ih1,ih2⟩:=cat_hi n hn (k:=k)
  refine ⟨fun h=>?_,fun h1 h2=>?_⟩
  ·obtain ⟨e1,e2⟩:=ih1 fun i hi=>h i (by omega)
   have e3:=h (m+k) (by omega)
   rw [e2,catI_hi] at e3
   refine ⟨fun i hi=>?_,?_⟩
   ·by_cases q:i=k
    ·subst q; rw [← dE_shift]; exact e3
    ·exact e1 i (by omega)
   ·show dN p l (plA p l (catI m a b) (m+k)) (catI m a b (m+k))=_
    rw [e2,catI_hi]
    exact dN_shift p l n _ _ e3
  ·obtain ⟨e1,e2⟩:=ih2 h1 fun i hi=>h2 i (by omega)
   have e3:dE p l (n+plA (fun j=>p (n+j)) (l - n) b k) (b k)=0:=by rw [dE_shift]; exact h2 k (by omega)
   refine ⟨fun i hi=>?_,?_⟩
   ·by_cases q:i=m+k
    ·subst q; rw [e2,catI_hi]; exact e3
    ·exact e1 i (by omega)
   ·show dN p l (plA p l (catI m a b) (m+k)) (catI m a b (m+k))=_
    rw [e2,catI_hi]
    exact dN_shift p l n _ _ e3
end
end Go.Proofs.Ytjjegmflllpknaa.Drw

namespace Go.Proofs.Ytjjegmflllpknaa.Drw
open Go.RowKit Gf8 Aes By8 Cel Cf Tap
/- Lists of ints. -/
structure SliceI (w:World) (v:Value) (len:Nat) (f:Nat->Int):Prop where
 shape:∃ a cap,v=.slice a len cap/\len<=cap/\cap<=maxLen/\(0 < len->∃ b off,a=some ⟨b,off,none⟩/\b < w.heap.size/\∀ j,j < len->w.cell? ⟨b,off+j,none⟩=some (.int .i64 (f j)))
 fits:∀ j,j < len->-9223372036854775808<=f j/\f j < 9223372036854775808
theorem SliceI.on {w w':World} {v:Value} {len:Nat} {f:Nat->Int} (h:SliceI w v len f) (hb:Below w.heap.size w w'):SliceI w' v len f:=by
 obtain ⟨⟨a,cap,e,h1,h2,h3⟩,hp⟩:=h
 refine ⟨⟨a,cap,e,h1,h2,fun h0=>?_⟩,hp⟩
 obtain ⟨b,off,e1,e2,e3⟩:=h3 h0
 exact ⟨b,off,e1,Nat.lt_of_lt_of_le e2 hb.size,fun j hj=>by rw [cell_below hb e2]; exact e3 j hj⟩
theorem SliceI.cg {w:World} {v:Value} {len:Nat} {f g:Nat->Int} (h:SliceI w v len f) (e:∀ j,j < len->f j=g j):SliceI w v len g:=by
 obtain ⟨⟨a,cap,q,h1,h2,h3⟩,hp⟩:=h
 refine ⟨⟨a,cap,q,h1,h2,fun h0=>?_⟩,fun j hj=>by rw [← e j hj]; exact hp j hj⟩
 obtain ⟨b,off,e1,e2,e3⟩:=h3 h0
 exact ⟨b,off,e1,e2,fun j hj=>by rw [e3 j hj,e j hj]⟩
theorem SliceI.shp {w:World} {v:Value} {len:Nat} {f:Nat->Int} (h:SliceI w v len f):∃ a c,v=.slice a len c:=by
 obtain ⟨a,c,e,_⟩:=h.shape
 exact ⟨a,c,e⟩
theorem slice_nilI {V:World} {f:Nat->Int}:SliceI V (.slice none 0 0) 0 f:=⟨⟨_,_,rfl,Nat.le_refl _,by unfold maxLen; omega,fun h=>by omega⟩,fun j hj=>by omega⟩
def intsL (n:Nat) (f:Nat->Int):List Value:=(List.range n).map fun j=>.int .i64 (f j)
theorem intsL_len (n:Nat) (f:Nat->Int):(intsL n f).length=n:=by simp [intsL]
theorem intsL_get {n j:Nat} {f:Nat->Int} (h:j < n):(intsL n f)[j]?=some (.int .i64 (f j)):=by simp [intsL,h]
theorem intsL_congr {n:Nat} {f g:Nat->Int} (h:∀ j,j < n->f j=g j):intsL n f=intsL n g:=by
 unfold intsL
 apply List.map_congr_left
 intro i hi
 rw [h i (List.mem_range.1 hi)]
theorem own_ints {W:World} {B n:Nat} {v:Value} {f:Nat->Int} (h:W.ownsRow B 3 1 v n (intsL n f)) (hf:∀ j,j < n->-9223372036854775808<=f j/\f j < 9223372036854775808):SliceI W v n f:=by
 rcases h.2 with ⟨rfl,rfl⟩ | ⟨g,cap,cur,rfl,_,hg,h1,h2,h3,h4⟩
 ·exact slice_nilI
 ·refine ⟨⟨_,_,rfl,h1,h2,fun _=>⟨g,0,rfl,(Array.getElem?_eq_some_iff.1 hg).1,fun j hj=>?_⟩⟩,hf⟩
  rw [cell_of_row _ _ _ _ _ _ hg,Nat.zero_add,← Array.getElem?_toList]
  have:=intsL_get (f:=f) hj
  rw [← h4,List.getElem?_take,if_pos (by omega)] at this
  exact this
section
variable {o:Oper} {a:Act} {w:World}
theorem execLenI {x:Operand} {v:Value} {len:Nat} (ho:o.op=.call { callee:=.builtin .len,args:=#[x],argTypes:=#[22] }) (hx:a.eval x=v) (hv:∃ ao c,v=.slice ao len c):(execOp a.eval o).run Try.prog w=.ok (.value (.int .i64 (len:Int))) w:=by
 obtain ⟨ao,c,rfl⟩:=hv
 unfold execOp
 simp only [ho,resolve,invoke,builtin,Sem.run_bind,Sem.run_pure,Result.andThen_ok,List.map_toArray,List.map_cons,List.map_nil,hx]
 simp [go_sem]
theorem execIdxN {x i:Operand} {g off n cap k:Nat} (ho:o.op=.indexAddr 22 x i) (hx:a.eval x=.slice (some ⟨g,off,none⟩) n cap) (hi:a.eval i=.int .i64 (k:Int)) (hk:k < n):(execOp a.eval o).run Try.prog w=.ok (.value (.pointer (some ⟨g,off+k,none⟩))) w:=by
 have h1:(k:Int) < n:=by omega
 unfold execOp
 simp only [ho,hx,hi]
 simp [go_sem,h1]
set_option maxRecDepth 100000 in
theorem execMkI {x:Operand} {n:Nat} (ho:o.op=.makeSlice 22 (.const (.int .i64 0)) x) (hx:a.eval x=.int .i64 (n:Int)) (hn:n<=17592186044416):(execOp a.eval o).run Try.prog w=.ok (.value (.slice (some ⟨w.heap.size,0,none⟩) 0 n)) (w.alloc (.cells (madeCells #[.int .i64 0] n) 3)):=by
 obtain ⟨i,h1,h2,h3,h4⟩:∃ i,Try.prog.info? 3=some i/\i.zero=some (.int .i64 0)/\i.size=1/\i.bytes=8:=⟨_,rfl,by kernel_rfl,by kernel_rfl,by kernel_rfl⟩
 have h:=run_make (P:=Try.prog) w 22 3 i (.int .i64 0) Try.underlying22 h1 h2 .i64 .i64 0 (n:Int) (by omega) (by omega) (by rw [h4]; omega) (by omega)
 rw [h3,Int.toNat_natCast,Nat.mul_one] at h
 have ec:a.eval (.const (.int .i64 0))=.int .i64 0:=rfl
 unfold execOp
 simp only [ho,hx,ec,Sem.run_bind,h,Result.andThen_ok,Sem.run_pure]
 rfl
set_option maxRecDepth 100000 in
theorem execBsI {x:Operand} {z:Int} (ho:o.op=.buildSlice 22 1 #[(0,x)]) (hx:a.eval x=.int .i64 z):(execOp a.eval o).run Try.prog w=.ok (.value (.slice (some ⟨w.heap.size,0,none⟩) 1 1)) (w.alloc (.cells #[.int .i64 z] 3)):=by
 unfold execOp
 simp only [ho,List.map_toArray,List.map_cons,List.map_nil,hx]
 simp [go_sem]
end
set_option maxRecDepth 100000 in
theorem infoI:∃ i,Try.prog.info? 3=some i/\i.zero=some (.int .i64 0)/\i.size=1/\i.bytes=8:=⟨_,rfl,by kernel_rfl,by kernel_rfl,by kernel_rfl⟩
end Go.Proofs.Ytjjegmflllpknaa.Drw

namespace Go.Proofs.Ytjjegmflllpknaa.Drw
open Go.RowKit Gf8 Aes By8 Cel Cf Tap
/- Lists of ints: rows of one's own, what stays, append, make; pieces of code. General: it lies at any seat with []int and []uint8. -/
theorem ownD_below {W W':World} {B n:Nat} {v:Value} {xs:List Value} {t:TypeId} {s:Nat} (h:W.ownsRow B t s v n xs) (hb:Below W.heap.size W W'):W'.ownsRow B t s v n xs:=by
 refine ⟨h.1,?_⟩
 rcases h.2 with h | ⟨g,cap,cur,e,hB,hg,hr⟩
 ·exact Or.inl h
 ·exact Or.inr ⟨g,cap,cur,e,hB,on9 hg hb,hr⟩
theorem ownD_base {W:World} {B C t s n:Nat} {v:Value} {xs:List Value} (h:W.ownsRow C t s v n xs) (hB:B<=C):W.ownsRow B t s v n xs:=by
 refine ⟨h.1,?_⟩
 rcases h.2 with h | ⟨g,cap,cur,e,hC,h1⟩
 ·exact Or.inl h
 ·exact Or.inr ⟨g,cap,cur,e,Nat.le_trans hB hC,h1⟩
theorem results_tmp2 {fn:Func} {t u:Tmp} (h:fn.results=#[.tmp t,.tmp u]) (tmps:Array Value) (P:Program) (w:World):(results fn tmps).run P w=.ok (.tuple #[tmps.getD t undef,tmps.getD u undef]) w:=by
 simp [results,h]
theorem ownL_some9 {W:World} {B m:Nat} {v:Value} {xs:List Value} {t:TypeId} {s:Nat} (h:W.ownsRow B t s v m xs) (hm:0 < m):∃ g c,v=.slice (some ⟨g,0,none⟩) m c/\B<=g/\g < W.heap.size:=by
 rcases h.2 with ⟨_,e⟩ | ⟨g,cap,cur,e,hB,hg,_⟩
 ·omega
 ·exact ⟨g,cap,e,hB,(Array.getElem?_eq_some_iff.1 hg).1⟩
theorem intsL_app (n m:Nat) (f g:Nat->Int):intsL n f ++ intsL m g=intsL (n+m) (catI n f g):=by
 unfold intsL
 rw [List.range_add,List.map_append,List.map_map]
 congr 1
 ·exact List.map_congr_left fun j hj=>by rw [catI_lo (List.mem_range.1 hj)]
 ·exact List.map_congr_left fun j _=>by simp only [Function.comp]; rw [catI_hi]
theorem intsL_one (n:Nat) (f:Nat->Int):∀ u ∈ intsL n f,u.oneCell'=true:=fun u hu=>by
 obtain ⟨j,_,rfl⟩:=List.mem_map.1 hu
 rfl
theorem own_cellI {W:World} {B n g cap j:Nat} {f:Nat->Int} (h:W.ownsRow B 3 1 (.slice (some ⟨g,0,none⟩) n cap) n (intsL n f)) (hj:j < n):W.cell? ⟨g,0+j,none⟩=some (.int .i64 (f j))/\W.frozen? ⟨g,0+j,none⟩=false:=by
 rw [Nat.zero_add]
 rcases h.2 with ⟨e,_⟩ | ⟨g',cap',cur,e,_,hg,h1,h2,h3,h4⟩
 ·cases e
 ·injection e with e1 _ _
  injection e1 with e1
  injection e1 with e1 _ _
  subst e1
  refine ⟨?_,frozen4 hg⟩
  rw [cell_of_row _ _ _ _ _ _ hg,← Array.getElem?_toList]
  have h5:(cur.toList.take (n * 1))[j]?=some (.int .i64 (f j)):=by rw [h4]; exact intsL_get hj
  rw [List.getElem?_take_of_lt (by omega)] at h5
  exact h5
theorem own_setF {W:World} {B n g cap k:Nat} {f:Nat->Int} (z:Int) (h:W.ownsRow B 3 1 (.slice (some ⟨g,0,none⟩) n cap) n (intsL n f)):(W.setCell ⟨g,0+k,none⟩ (.int .i64 z)).ownsRow B 3 1 (.slice (some ⟨g,0,none⟩) n cap) n (intsL n (fun j=>if j=k then z else f j)):=by
 rw [Nat.zero_add]
 refine ⟨by rw [intsL_len,Nat.mul_one],?_⟩
 rcases h.2 with ⟨e,_⟩ | ⟨g',cap',cur,e,hB,hg,h1,h2,h3,h4⟩
 ·cases e
 ·injection e with e1 e2 e3
  injection e1 with e1
  injection e1 with e1 _ _
  subst e1
  subst e3
  refine Or.inr ⟨g,cap,cur.setIfInBounds k (.int .i64 z),rfl,hB,heap4 _ hg,h1,h2,by simpa using h3,?_⟩
  apply List.ext_getElem?
  intro j
  have h5:(cur.toList.take (n * 1))[j]?=(intsL n f)[j]?:=by rw [h4]
  by_cases hj:j < n
  ·rw [List.getElem?_take_of_lt (by omega),intsL_get hj] at h5
   rw [List.getElem?_take_of_lt (by omega),intsL_get hj,Array.getElem?_toList,Array.getElem?_setIfInBounds]
   by_cases hk:k=j
   ·subst hk
    rw [if_pos rfl,if_pos rfl,if_pos (by simp at h3; omega)]
   ·rw [if_neg hk,if_neg (fun q=>hk q.symm),← Array.getElem?_toList]
    exact h5
  ·rw [List.getElem?_eq_none (by simp; omega),List.getElem?_eq_none (by rw [intsL_len]; omega)]
def hasR:Code->Nat->Bool
 | .seq x y,k=>hasR x k || hasR y k
 | .region id _ _,k=>Nat.beq id k
 | .block _ x,k=>hasR x k
 | .loop x,k=>hasR x k
 | .cond _ x y,k=>hasR x k || hasR y k
 | _,_=>false
def leadR:Code->Nat->Bool
 | .seq x _,k=>leadR x k
 | .region id _ _,k=>Nat.beq id k
 | _,_=>false
def findR (k:Nat):Code->Code
 | .seq x y=>bif leadR x k then .seq x y else bif hasR x k then findR k x else findR k y
 | .block _ x=>findR k x
 | .loop x=>findR k x
 | .cond _ x y=>bif hasR x k then findR k x else findR k y
 | c=>c
theorem own_offT {W:World} {B n s g k:Nat} {t u:TypeId} {v z:Value} {xs:List Value} {c:Array Value} {fr:Nat × Nat} (h:W.ownsRow B t s v n xs) (hg:W.heap[g]?=some (.cells c u fr)) (ht:u ≠ t):(W.setCell ⟨g,k,none⟩ z).ownsRow B t s v n xs:=by
 refine ⟨h.1,?_⟩
 rcases h.2 with h | ⟨g1,cap,cur,e,hB,h1,hr⟩
 ·exact Or.inl h
 ·refine Or.inr ⟨g1,cap,cur,e,hB,?_,hr⟩
  rw [Below.heap_setCell _ _ _ _ (fun q=>?_)]
  ·exact h1
  ·have q2:g1=g:=q
   subst q2
   rw [h1] at hg
   injection hg with hg
   injection hg with _ hg _
   exact ht hg.symm
theorem heap_overL {W W':World} {B n s:Nat} {v:Value} {xs:List Value} {g:Nat} {c:Array Value} {t u:TypeId} {fr:Nat × Nat} (h:W.ownsRow B u s v n xs) (hg:W.grownBy W' v.ownBlock) (hh:W.heap[g]?=some (.cells c t fr)) (ht:t ≠ u):W'.heap[g]?=some (.cells c t fr):=by
 rw [hg.block g (Array.getElem?_eq_some_iff.1 hh).1 (fun q=>?_)]
 ·exact hh
 ·rcases h.2 with ⟨rfl,_⟩ | ⟨k,cap,cur,rfl,_,h1,_⟩
  ·cases q
  ·obtain rfl:g=k:=by simpa [Value.ownBlock] using q
   rw [h1] at hh
   injection hh with hh
   injection hh with _ hh _
   exact ht hh.symm
theorem own_cur {W:World} {B n g c:Nat} {t:TypeId} {xs:List Value} (h:W.ownsRow B t 1 (.slice (some ⟨g,0,none⟩) n c) n xs):∃ cur,W.heap[g]?=some (.cells cur t)/\B<=g:=by
 rcases h.2 with ⟨e,_⟩ | ⟨g',cap',cur,e,hB,hg,_⟩
 ·cases e
 ·injection e with e1 _ _
  injection e1 with e1
  injection e1 with e1 _ _
  subst e1
  exact ⟨cur,hg,hB⟩
theorem own_cap {W:World} {B n g c:Nat} {t:TypeId} {xs:List Value} (h:W.ownsRow B t 1 (.slice (some ⟨g,0,none⟩) n c) n xs):n<=c:=by
 rcases h.2 with ⟨e,_⟩ | ⟨g',cap',cur,e,_,_,h1,_⟩
 ·cases e
 ·injection e with _ _ e3
  omega
theorem own_overT {W W':World} {B n s C m s':Nat} {t u:TypeId} {v v2:Value} {xs ys:List Value} (h:W.ownsRow B t s v n xs) (h2:W.ownsRow C u s' v2 m ys) (gr:W.grownBy W' v2.ownBlock) (ht:t ≠ u):W'.ownsRow B t s v n xs:=by
 refine ⟨h.1,?_⟩
 rcases h.2 with e | ⟨g1,cap,cur,e,hB,h1,hr⟩
 ·exact Or.inl e
 ·exact Or.inr ⟨g1,cap,cur,e,hB,heap_overL h2 gr h1 ht,hr⟩
theorem own_overB {W W':World} {B n s C m s':Nat} {t u:TypeId} {v v2:Value} {xs ys:List Value} (h:W.ownsRow B t s v n xs) (hv:∀ k,v.ownBlock=some k->k < C) (h2:W.ownsRow C u s' v2 m ys) (gr:W.grownBy W' v2.ownBlock):W'.ownsRow B t s v n xs:=
 ownW_grown h gr fun k e q=>by
  have a1:=hv k e
  have a2:=(h2.lt k q).1
  omega
end Go.Proofs.Ytjjegmflllpknaa.Drw
