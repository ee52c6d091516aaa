import Derived.Test.YtjckkdjldnobmaaGreatDoorX7b
import Derived.Test.YtjckkdjldnobmaaGreatDoorX7f
import Derived.Test.YtjckkdjldnobmaaGreatDoorO0
import Derived.Deep.RegionHeld
import Derived.Laws.IdiomStrings
import Derived.Laws.Strings2
import Derived.Lib.Bytes
namespace Go.Proofs.YtjckkdjldnobmaaGreatDoor.Cf
open Go.RowKit Gf8 Aes By8 Cel
/- Closed frames: operations of bytes, ints, lists of bytes and lists of these. Gathered by tools/mkE9a.py. -/
section
variable {o:Oper} {a:Act} {w W:World}
theorem execAsgB {P:Program} {o:Oper} {a:Act} {w:World} {x:Operand} {v:Value} (ho:o.op=.assign x) (hx:a.eval x=v):(execOp a.eval o).run P w=.ok (.value v) w:=by
 unfold execOp
 simp only [ho,hx]
 rfl
theorem execExtT {x:Operand} {k:Nat} {arr:Array Value} {v:Value} (ho:o.op=.extract x k) (hx:a.eval x=.tuple arr) (hk:arr[k]?=some v):(execOp a.eval o).run Tryz.prog w=.ok (.value v) w:=by
 unfold execOp
 simp only [ho,hx]
 simp [go_sem,hk]
theorem execIdxL {x i:Operand} {b off n cap k:Nat} (ho:o.op=.indexAddr 22 x i) (hx:a.eval x=.slice (some ⟨b,off,none⟩) n cap) (hi:a.eval i=.int .i64 (k:Int)) (hk:k < n):(execOp a.eval o).run Tryz.prog w=.ok (.value (.pointer (some ⟨b,off+k,none⟩))) w:=by
 have h1:(k:Int) < n:=by omega
 unfold execOp
 simp only [ho,hx,hi]
 simp [go_sem,h1,Addr.add_mid]
theorem execU8 {x:Operand} {n:Nat} (ho:o.op=.convert 3 5 x) (hx:a.eval x=.int .i64 (n:Int)):(execOp a.eval o).run Tryz.prog w=.ok (.value (.int .u8 ((n % 256:Nat):Int))) w:=by
 unfold execOp
 simp only [ho,hx]
 simp [go_sem,IntKind.wrap,show IntKind.u8.signed=false from rfl]
theorem execBsL {x:Operand} {r:Value} (ho:o.op=.buildSlice 22 1 #[(0,x)]) (hx:a.eval x=r) (hr:∃ g n c,r=.slice g n c):(execOp a.eval o).run Tryz.prog w=.ok (.value (.slice (some ⟨w.heap.size,0,none⟩) 1 1)) (w.alloc (.cells #[r] 24)):=by
 obtain ⟨g,n,c,rfl⟩:=hr
 unfold execOp
 simp only [ho,List.map_toArray,List.map_cons,List.map_nil,hx]
 simp [go_sem]
def lL (x:Nat->Value):Nat->List Value
 | 0=>[]
 | n+1=>lL x n ++ [x n]
theorem lL_len (x:Nat->Value):∀ n,(lL x n).length=n
 | 0=>rfl
 | n+1=>by simp [lL,lL_len x n]
theorem lL_get (x:Nat->Value):∀ (n k:Nat),k < n->(lL x n)[k]?=some (x k)
 | 0,k,hk=>by omega
 | n+1,k,hk=>by
  simp only [lL]
  by_cases h:k < n
  ·rw [List.getElem?_append_left (by rw [lL_len]; exact h)]
   exact lL_get x n k h
  ·obtain rfl:k=n:=by omega
   rw [List.getElem?_append_right (by rw [lL_len]; omega),lL_len]
   simp
theorem lL_congr {x y:Nat->Value}:∀ n,(∀ i,i < n->x i=y i)->lL x n=lL y n
 | 0,_=>rfl
 | n+1,h=>by simp only [lL]; rw [lL_congr n (fun i hi=>h i (by omega)),h n (by omega)]
theorem infoL8:∃ i,Tryz.prog.info? 24=some i/\i.zero=some (.slice none 0 0)/\i.size=1/\i.bytes=24:=by
 have h:(Tryz.prog.info? 24).map (fun i=>(i.zero,i.size,i.bytes))=some (some (.slice none 0 0),1,24):=by kernel_rfl
 cases hq:Tryz.prog.info? 24 with
 | none=>rw [hq] at h; cases h
 | some i=>
  rw [hq] at h
  simp only [Option.map_some,Option.some.injEq,Prod.mk.injEq] at h
  exact ⟨i,rfl,h.1,h.2.1,h.2.2⟩
theorem execLenL {x:Operand} {ao:Option Addr} {c len:Nat} (ho:o.op=.call { callee:=.builtin .len,args:=#[x],argTypes:=#[22] }) (hx:a.eval x=.slice ao len c):(execOp a.eval o).run Tryz.prog w=.ok (.value (.int .i64 (len:Int))) w:=by
 unfold execOp
 simp only [ho,resolve,invoke,builtin,Sem.run_bind,Sem.run_pure,Result.andThen_ok,List.map_toArray,List.map_cons,List.map_nil,hx]
 simp [go_sem]
theorem execLtW {x y:Operand} {p q:Nat} (ho:o.op=.binOp .lss 3 x y 3) (hx:a.eval x=.int .i64 (p:Int)) (hy:a.eval y=.int .i64 (q:Int)):(execOp a.eval o).run Tryz.prog w=.ok (.value (.bool (decide (p < q)))) w:=by
 unfold execOp
 simp only [ho,hx,hy]
 simp [go_sem]
theorem execAd8 {x y:Operand} {p q:Nat} (ho:o.op=.binOp .add 3 x y 3) (hx:a.eval x=.int .i64 (p:Int)) (hy:a.eval y=.int .i64 (q:Int)) (h:p+q < 9223372036854775808):(execOp a.eval o).run Tryz.prog w=.ok (.value (.int .i64 ((p+q:Nat):Int))) w:=by
 have e:IntKind.i64.wrap ((p:Int)+(q:Int))=((p+q:Nat):Int):=by rw [← Int.natCast_add]; exact wrap_i64_nat h
 unfold execOp
 simp only [ho,hx,hy]
 simp [go_sem,e]
theorem execNot8 {x:Operand} {b:Bool} (ho:o.op=.unOp .not 4 x) (hx:a.eval x=.bool b):(execOp a.eval o).run Tryz.prog w=.ok (.value (.bool (!b))) w:=by
 unfold execOp
 simp only [ho,hx]
 simp [go_sem]
theorem execAppO {s x:Operand} {T e:TypeId} {i:TypeInfo} {z:Value} {size bytes B n m c:Nat} {v:Value} {xs news:List Value} {ad:Addr}
  (ho:o.op=.call { callee:=.builtin .append,args:=#[s,x],argTypes:=#[T,T] }) (ht:Tryz.prog.underlying T=some (.slice e)) (hi:Tryz.prog.info? e=some i) (hz:i.zero=some z) (hsize:i.size=size) (hby:i.bytes=bytes) (hzs:z.cells.size=size) (hsz:0 < size)
  (hs:a.eval s=v) (hown:W.ownsRow B e size v n xs) (hx:a.eval x=.slice (some ad) m c) (hl:news.length=m * size) (hnews:∀ j u,news[j]?=some u->W.cell? (ad.add j)=some u) (h1:∀ u ∈ news,u.oneCell'=true) (h63:n+m<=maxLen) (hbytes:(n+m) * bytes<=140737488355328) (hB:B<=W.heap.size) :
  ∃ v' W',(execOp a.eval o).run Tryz.prog W=.ok (.value v') W'/\W'.ownsRow B e size v' (n+m) (xs ++ news)/\W.grownBy W' v.ownBlock:=by
 obtain ⟨v',w',hr,q1,q2,_⟩:=run_append_own (P:=Tryz.prog) W B T o.type e i z size bytes ht hi hz hsize hby hzs hsz v n xs hown ad m c news hl hnews h1 h63 hbytes hB
 refine ⟨v',w',?_,q1,q2⟩
 unfold execOp
 simp only [ho,resolve,invoke,builtin,Sem.run_bind,Sem.run_pure,Result.andThen_ok,List.map_toArray,List.map_cons,List.map_nil,hs,hx,hr]
theorem execAppN {s x:Operand} {B n m:Nat} {v u:Value} {p:Nat->Nat}
  (ho:o.op=.call { callee:=.builtin .append,args:=#[s,x],argTypes:=#[24,24] })
  (hs:a.eval s=v) (hx:a.eval x=u) (hown:W.ownsRow B 5 1 v n (bytesL n p)) (hu:SliceN W u m (fun j=>p (n+j))) (hnil:∀ l c,u=.slice none l c->c=0) (hbig:n+m<=140737488355328) (hB:B<=W.heap.size) :
  ∃ v' W',(execOp a.eval o).run Tryz.prog W=.ok (.value v') W'/\W'.ownsRow B 5 1 v' (n+m) (bytesL (n+m) p)/\W.grownBy W' v.ownBlock:=by
 obtain ⟨i,h1,h2,h3,h4⟩:=info5
 obtain ⟨⟨ao,cap,rfl,_,_,hc⟩,_⟩:=hu
 cases ao with
 | none=>
  have hm:m=0:=by
   rcases Nat.eq_zero_or_pos m with e | e
   ·exact e
   ·obtain ⟨_,_,e',_⟩:=hc e
    cases e'
  subst hm
  have hcap:=hnil _ _ rfl
  subst hcap
  have hr:=run_append_owned_none (P:=Tryz.prog) W B 24 o.type 5 i 1 Tryz.underlying24 h1 v n (bytesL n p) hown
  refine ⟨v,W,?_,hown,⟨rfl,rfl,rfl,Nat.le_refl _,fun _ _ _=>rfl⟩⟩
  unfold execOp
  simp only [ho,resolve,invoke,builtin,Sem.run_bind,Sem.run_pure,Result.andThen_ok,List.map_toArray,List.map_cons,List.map_nil,hs,hx,hr]
 | some ad=>
  obtain ⟨v',w',hr,q1,q2⟩:=execAppO (m:=m) (c:=cap) (ad:=ad) (xs:=bytesL n p) (size:=1) (bytes:=1) (z:=.int .u8 0) (news:=bytesL m fun j=>p (n+j)) ho Tryz.underlying24 h1 h2 h3 h4 rfl (by decide) hs hown hx (by rw [bytesL_len,Nat.mul_one]) (fun j z hz=>by
   have hj:j < m:=by have:=(List.getElem?_eq_some_iff.1 hz).1; rw [bytesL_len] at this; exact this
   obtain ⟨b,off,e,_,e3⟩:=hc (by omega)
   obtain rfl:ad=⟨b,off,none⟩:=Option.some.inj e
   rw [Go.WideShapes.add_plain,e3 j hj]
   rw [bytesL_at m _ hj] at hz
   exact hz) (bytesL_one _ _) (by unfold maxLen; omega) (by omega) hB
  rw [bytesL_app] at q1
  exact ⟨v',w',hr,q1,q2⟩
end
theorem ret_then {K:Act->World->Prop} {Q:Exit->Act->World->Prop} {a:Act} {w:World} (h:Q .ret a w):Exit.then K Q .ret a w:=h
theorem ret_in {id:Nat} {Q:Exit->Act->World->Prop} {a:Act} {w:World} (h:Q .ret a w):Exit.inBlock id Q .ret a w:=h
theorem ownW_grown {W W':World} {B n s:Nat} {t:TypeId} {v:Value} {xs:List Value} {b:Option Nat} (h:W.ownsRow B t s v n xs) (hg:W.grownBy W' b) (hne:∀ k,v.ownBlock=some k->b ≠ some k):W'.ownsRow B t s v n xs:=by
 refine ⟨h.1,?_⟩
 rcases h.2 with h | ⟨g,cap,cur,e,hB,hgr,h1,h2,h3,h4⟩
 ·exact Or.inl h
 ·refine Or.inr ⟨g,cap,cur,e,hB,?_,h1,h2,h3,h4⟩
  rw [hg.block g (Array.getElem?_eq_some_iff.1 hgr).1 (fun q=>hne g (by rw [e]; rfl) q.symm)]
  exact hgr
theorem stepAppN {ops:Array Oper} {Q:Exit->Act->World->Prop} {K:Act->World->Prop} {j:Nat} {o:Oper} {a:Act} {W:World} {s x:Operand} {B n m:Nat} {v u:Value} {p:Nat->Nat} (hos:ops[j]?=some o) (hg:Region.wanted o (yielded ops a.tmps)=true)
  (ho:o.op=.call { callee:=.builtin .append,args:=#[s,x],argTypes:=#[24,24] }) (hs:a.eval s=v) (hx:a.eval x=u) (hown:W.ownsRow B 5 1 v n (bytesL n p)) (hu:SliceN W u m (fun j=>p (n+j))) (hnil:∀ l c,u=.slice none l c->c=0) (hbig:n+m<=140737488355328) (hB:B<=W.heap.size)
  (hK:∀ v' W',W'.ownsRow B 5 1 v' (n+m) (bytesL (n+m) p)->W.grownBy W' v.ownBlock->K (a.put o.dst v') W'):wpOp Tryz.prog ops Q j K a W:=by
 obtain ⟨v',W',run,q1,q2⟩:=execAppN ho hs hx hown hu hnil hbig hB
 exact stepV hos hg run (hK v' W' q1 q2)
theorem lL_upd (x:Nat->Value) (i:Nat) (r:Value):lL x i ++ [r]=lL (updX x i r) (i+1):=by
 show lL x i ++ [r]=lL (updX x i r) i ++ [updX x i r i]
 rw [updX_at,lL_congr i (x:=x) (y:=updX x i r) fun k hk=>by
  have e:k ≠ i:=by omega
  unfold updX
  rw [if_neg e]]
theorem fam_base {B C m:Nat} {x:Nat->Value} {nn:Nat->Nat} {ff:Nat->Nat->Nat} {W:World} (h:Fam C m x nn ff W) (hB:B<=C):Fam B m x nn ff W:=⟨fun t ht=>own_base (h.rows t ht) hB,h.dis⟩
theorem ownQ_shape {W:World} {B n s:Nat} {t:TypeId} {v:Value} {xs:List Value} (h:W.ownsRow B t s v n xs):∃ a c,v=.slice a n c:=by
 rcases h.2 with ⟨rfl,rfl⟩ | ⟨g,cap,cur,rfl,_⟩
 ·exact ⟨_,_,rfl⟩
 ·exact ⟨_,_,rfl⟩
theorem own_set8 {W:World} {B n g cap m:Nat} {p:Nat->Nat} (z:Nat) (h:W.ownsRow B 5 1 (.slice (some ⟨g,0,none⟩) n cap) n (bytesL n p)) :
  (W.setCell ⟨g,m,none⟩ (.int .u8 z)).ownsRow B 5 1 (.slice (some ⟨g,0,none⟩) n cap) n (bytesL n fun j=>if j=m then z else p j):=by
 obtain ⟨h0,h1⟩:=h
 rcases h1 with ⟨e,_⟩ | ⟨g',cap',cur,e,hB,hg,hnc,hcm,hcs,ht⟩
 ·cases e
 ·injection e with e1 _ e3
  injection e1 with e1
  injection e1 with e1 _ _
  subst e1 e3
  refine ⟨by rw [bytesL_len]; omega,.inr ⟨g,cap,cur.setIfInBounds m (.int .u8 z),rfl,hB,?_,hnc,hcm,by simpa using hcs,?_⟩⟩
  ·rw [setCell_eq_setRow W g m cur 5 _ _ hg]; exact setRow_heap _ _ _ _ _ _ hg
  ·have key:∀ j,j < n->cur.toList[j]?=some (.int .u8 (p j)):=fun j hj=>by
    have e:=congrArg (fun l=>l[j]?) ht
    simp only [bytesL_at n p hj] at e
    rw [List.getElem?_take,if_pos (by omega)] at e
    exact e
   apply List.ext_getElem?
   intro j
   by_cases hj:j < n
   ·rw [bytesL_at n _ hj,List.getElem?_take,if_pos (by omega),Array.toList_setIfInBounds,List.getElem?_set]
    by_cases hjm:m=j
    ·subst hjm
     have lc:=(List.getElem?_eq_some_iff.1 (key m hj)).1
     rw [if_pos rfl,if_pos (by omega),if_pos rfl]
    ·rw [if_neg hjm,key j hj,if_neg (fun e=>hjm e.symm)]
   ·rw [List.getElem?_eq_none (by rw [List.length_take]; omega),List.getElem?_eq_none (by rw [bytesL_len]; omega)]
theorem fam_cg8 {B m:Nat} {x:Nat->Value} {nn:Nat->Nat} {ff gg:Nat->Nat->Nat} {W:World} (h:Fam B m x nn ff W) (e:∀ t,t < m->∀ l,l < nn t->ff t l=gg t l):Fam B m x nn gg W:=
 ⟨fun t ht=>by have h2:=h.rows t ht; rw [bytesL_congr (e t ht)] at h2; exact h2,h.dis⟩
theorem ownW_setCell {W:World} {B n s g k:Nat} {t:TypeId} {v z:Value} {xs:List Value} {c:Array Value} (h:W.ownsRow B t s v n xs) (hg:W.heap[g]?=some (.cells c 5)) (ht:t ≠ 5):(W.setCell ⟨g,k,none⟩ z).ownsRow B t s v n xs:=by
 refine ⟨h.1,?_⟩
 rcases h.2 with h | ⟨r,cap,cur,e,hB,hgr,h1⟩
 ·exact Or.inl h
 ·refine Or.inr ⟨r,cap,cur,e,hB,?_,h1⟩
  have ne:r ≠ g:=fun e=>by
   rw [e,hg] at hgr
   injection hgr with hgr
   injection hgr with _ e5
   exact ht e5.symm
  rw [setCell_eq_setRow W g k c 5 _ _ hg,setRow_other _ _ _ _ ne]
  exact hgr
theorem row_ne8 {W:World} {B B2 n m s k:Nat} {v u:Value} {xs ys:List Value} {t:TypeId} (h:W.ownsRow B 5 1 v n xs) (ho:W.ownsRow B2 t s u m ys) (ht:t ≠ 5) (hk:u.ownBlock=some k):v.ownBlock ≠ some k:=by
 rcases ho.2 with ⟨rfl,_⟩ | ⟨g,cap,cur,rfl,_,hg,_⟩
 ·cases hk
 ·obtain rfl:g=k:=Option.some.inj hk
  exact fun q=>own_ne h hg ht q.symm
section
variable {o:Oper} {a:Act} {w W:World}
theorem execStL {x v:Operand} {b k:Nat} {u old:Value} (ho:o.op=.store 24 x v) (hx:a.eval x=.pointer (some ⟨b,k,none⟩)) (hv:a.eval v=u) (hu:∃ g n c,u=.slice g n c) (hc:w.cell? ⟨b,k,none⟩=some old) (hf:w.frozen? ⟨b,k,none⟩=false):(execOp a.eval o).run Tryz.prog w=.ok .skip (w.setCell ⟨b,k,none⟩ u):=by
 obtain ⟨g,n,c,rfl⟩:=hu
 unfold execOp
 simp only [ho,hx,hv]
 simp [go_sem,hc,hf]
theorem execPickT {x y z:Operand} {v:Value} (ho:o.op=.pick x y z) (hx:a.eval x=.bool true) (hy:a.eval y=v):(execOp a.eval o).run Tryz.prog w=.ok (.value v) w:=by
 unfold execOp
 simp only [ho,hx,hy]
 simp [go_sem]
theorem execPickF {x y z:Operand} {v:Value} (ho:o.op=.pick x y z) (hx:a.eval x=.bool false) (hz:a.eval z=v):(execOp a.eval o).run Tryz.prog w=.ok (.value v) w:=by
 unfold execOp
 simp only [ho,hx,hz]
 simp [go_sem]
end
end Go.Proofs.YtjckkdjldnobmaaGreatDoor.Cf

namespace Go.Proofs.YtjckkdjldnobmaaGreatDoor.Dro
/- Dead drops over Nat: names nothing of a program. -/
def cnt (p:Nat->Bool):Nat->Nat
 | 0=>0
 | n+1=>cnt p n+(if p n then 1 else 0)
def fst_ (p:Nat->Bool):Nat->Nat
 | 0=>0
 | n+1=>if cnt p n=0 then (if p n then n else n+1) else fst_ p n
def rgt (l:Nat):Bool:=decide (8<=l/\l<=48)
def nmQ (a b:Nat->Nat):Bool:=(List.range 8).all fun j=>a j == b j
def otQ (ln:Nat->Nat) (c:Nat->Nat->Nat) (i k:Nat):Bool:=decide (k ≠ i) && (rgt (ln k) && nmQ (c k) (c i))
def paF (n:Nat) (ln:Nat->Nat) (c:Nat->Nat->Nat) (i:Nat):Nat:=fst_ (otQ ln c i) n
end Go.Proofs.YtjckkdjldnobmaaGreatDoor.Dro

namespace Go.Proofs.YtjckkdjldnobmaaGreatDoor.Tap
open Go.RowKit Gf8 Aes By8 Cel Cf
/- What goes through the law's apart: lists of any lengths. -/
def Gx (m:Nat) (x:Nat->Value) (k:Nat):Prop:=∃ t,t < m/\(x t).ownBlock=some k
def mkA (f:Nat->Nat->Nat) (i k t:Nat):Nat->Nat:=fun l=>if t < i\/(t=i/\l < k) then t % 256 else f t l
theorem apn_cg {B m:Nat} {nn:Nat->Nat} {x:Nat->Value} {ff:Nat->Nat->Nat} {zz:Nat->Nat} {gv:Nat->Value} {gl gl':Nat->Nat} {W:World} (h:ApN B m nn x ff zz gv gl W) (e:∀ t,t < m->gl t=gl' t):ApN B m nn x ff zz gv gl' W:=
 ⟨h.fam,fun t ht=>by rw [← e t ht]; exact h.grown t ht,fun t ht=>by rw [← e t ht]; exact h.le t ht,h.at',h.dis⟩
structure MoN (B m:Nat) (nn:Nat->Nat) (x gv:Nat->Value) (gl:Nat->Nat) (mo:Nat->Value) (R:Nat) (V W:World):Prop where
 ap:ApN B m nn x (fun t _=>t % 256) (fun t=>(t+140) % 256) gv gl W
 sv:Saved (Gx m x) V W
 row:∃ c,W.heap[R]?=some (.cells c 24)/\c.size=m/\∀ t,t < m->c[t]?=some (mo t)
 new:V.heap.size<=R
 pl:∀ t,t < m->∀ k,(gv t).ownBlock=some k->V.heap.size<=k\/Gx m x k
section
variable {B m:Nat} {nn:Nat->Nat} {x gv:Nat->Value} {gl:Nat->Nat} {mo:Nat->Value} {R:Nat} {V W W':World}
theorem MoN.cg {gl':Nat->Nat} {mo':Nat->Value} (h:MoN B m nn x gv gl mo R V W) (e:∀ t,t < m->gl t=gl' t) (e':∀ t,t < m->mo t=mo' t):MoN B m nn x gv gl' mo' R V W:=
 ⟨apn_cg h.ap e,h.sv,by obtain ⟨c,h1,h2,h3⟩:=h.row; exact ⟨c,h1,h2,fun t ht=>by rw [← e' t ht]; exact h3 t ht⟩,h.new,h.pl⟩
theorem MoN.on (h:MoN B m nn x gv gl mo R V W) (hb:Below W.heap.size W W'):MoN B m nn x gv gl mo R V W':=
 ⟨h.ap.on hb,h.sv.below hb h.sv.size,by obtain ⟨c,h1,h2,h3⟩:=h.row; exact ⟨c,by rw [hb.block _ (Array.getElem?_eq_some_iff.1 h1).1]; exact h1,h2,h3⟩,h.new,h.pl⟩
theorem MoN.put (h:MoN B m nn x gv gl mo R V W) (i:Nat) (u:Value):MoN B m nn x gv gl (updX mo i u) R V (W.setCell ⟨R,i,none⟩ u):=by
 obtain ⟨c,h1,h2,h3⟩:=h.row
 refine ⟨h.ap.cell h1,h.sv.cell _ (Or.inl h.new),⟨c.setIfInBounds i u,heap4 _ h1,by rw [Array.size_setIfInBounds]; exact h2,fun t ht=>?_⟩,h.new,h.pl⟩
 rw [Array.getElem?_setIfInBounds]
 unfold updX
 by_cases e:i=t
 ·subst e
  rw [if_pos rfl,if_pos rfl,if_pos (by omega)]
 ·rw [if_neg e,if_neg (fun q=>e q.symm)]
  exact h3 t ht
theorem MoN.at (h:MoN B m nn x gv gl mo R V W) {i:Nat} (hi:i < m):W.cell? ⟨R,i,none⟩=some (mo i)/\W.frozen? ⟨R,i,none⟩=false:=by
 obtain ⟨c,h1,h2,h3⟩:=h.row
 exact ⟨by rw [cell_of_row _ _ _ _ _ _ h1]; exact h3 i hi,frozen4 h1⟩
end
end Go.Proofs.YtjckkdjldnobmaaGreatDoor.Tap

namespace Go.Proofs.YtjckkdjldnobmaaGreatDoor.Tap
open Go.RowKit Gf8 Aes By8 Cel Cf
/- The law's apart: the lists are marked. Written by tools/mkV9c.py. -/
structure AA (U:Value) (a:Act):Prop where
 sz:a.tmps.size=137
 df:a.defers=[]
 t0:a.eval (.tmp 0)=U
theorem AA.keep {U:Value} {a a':Act} {ds:List Nat} (h:AA U a) (hs:a'.tmps.size=137) (hd:a'.defers=a.defers) (hf:∀ e,e ∉ ds->a'.eval (.tmp e)=a.eval (.tmp e)) (hk:([0]:List Nat).all (fun k=>!ds.contains k)=true):AA U a':=by
 have hk2:∀ k,k ∈ ([0]:List Nat)->k ∉ ds:=fun k hk1=>by
  have:=List.all_eq_true.1 hk k hk1
  simpa using this
 exact ⟨hs,hd.trans h.df,(hf 0 (hk2 0 (by simp))).trans h.t0⟩
end Go.Proofs.YtjckkdjldnobmaaGreatDoor.Tap

namespace Go.Proofs.YtjckkdjldnobmaaGreatDoor.Tap
open Go.RowKit Gf8 Aes By8 Cel Cf
/- The law's apart: lists that are grown. -/
structure GSt (B m:Nat) (nn:Nat->Nat) (x:Nat->Value) (R:Nat) (V W:World) (lo hi:Nat) (pre:Prop) (i:Nat) (gv:Nat->Value) (gl:Nat->Nat) (mo:Nat->Value):Prop where
 mn:MoN B m nn x gv gl mo R V W
 len:∀ t,t < m->gl t=nn t+(if t < i then hi else lo)
 done:∀ t,t < m->t < i->mo t=gv t
 todo:∀ t,t < m->i<=t->(pre->mo t=gv t)/\(¬ pre->gv t=x t)
structure GI (B m:Nat) (nn:Nat->Nat) (x:Nat->Value) (R:Nat) (V W:World) (lo hi:Nat) (pre:Prop) (i n':Nat) (v:Value) (gv:Nat->Value) (gl:Nat->Nat) (mo:Nat->Value):Prop where
 mn:MoN B m nn x gv gl mo R V W
 v_:gv i=v
 n_:gl i=n'
 len:∀ t,t < m->t ≠ i->gl t=nn t+(if t < i then hi else lo)
 done:∀ t,t < m->t < i->mo t=gv t
 todo:∀ t,t < m->i < t->(pre->mo t=gv t)/\(¬ pre->gv t=x t)
section
variable {B m:Nat} {nn:Nat->Nat} {x:Nat->Value} {R:Nat} {V W W':World} {lo hi:Nat} {pre:Prop} {i n':Nat} {v:Value} {gv:Nat->Value} {gl:Nat->Nat} {mo:Nat->Value}
theorem GSt.start (h:GSt B m nn x R V W lo hi pre i gv gl mo) (hi':i < m):GI B m nn x R V W lo hi pre i (nn i+lo) (gv i) gv gl mo:=
 ⟨h.mn,rfl,by rw [h.len i hi',if_neg (by omega)],fun t ht _=>h.len t ht,h.done,fun t ht hl=>h.todo t ht (by omega)⟩
theorem GI.on (h:GI B m nn x R V W lo hi pre i n' v gv gl mo) (hb:Below W.heap.size W W'):GI B m nn x R V W' lo hi pre i n' v gv gl mo:=⟨h.mn.on hb,h.v_,h.n_,h.len,h.done,h.todo⟩
theorem GI.own (h:GI B m nn x R V W lo hi pre i n' v gv gl mo) (hi':i < m):W.ownsRow B 5 1 v n' (bytesL n' (gM (fun _=>i % 256) (nn i) ((i+140) % 256))):=by
 have:=h.mn.ap.grown i hi'
 rw [h.v_,h.n_] at this
 exact this
theorem GI.put (h:GI B m nn x R V W lo hi pre i (nn i+hi) v gv gl mo):GSt B m nn x R V (W.setCell ⟨R,0+i,none⟩ v) lo hi pre (i+1) gv gl (updX mo i v):=by
 rw [Nat.zero_add]
 refine ⟨h.mn.put i v,fun t ht=>?_,fun t ht hl=>?_,fun t ht hl=>?_⟩
 ·by_cases e:t=i
  ·rw [e,h.n_,if_pos (by omega)]
  ·rw [h.len t ht e]
   by_cases q:t < i
   ·rw [if_pos q,if_pos (by omega)]
   ·rw [if_neg q,if_neg (by omega)]
 ·by_cases e:t=i
  ·rw [e,updX_at,h.v_]
  ·unfold updX
   rw [if_neg e]
   exact h.done t ht (by omega)
 ·have e:t ≠ i:=by omega
  unfold updX
  rw [if_neg e]
  exact h.todo t ht (by omega)
end
theorem GSt.begin {B m:Nat} {nn:Nat->Nat} {x:Nat->Value} {f:Nat->Nat->Nat} {V W:World} (FA:Fam B m x nn (mkA f m 0) W) (SV:Saved (Gx m x) V W) :
  GSt B m nn x W.heap.size V (W.alloc (.cells (madeCells #[.slice none 0 0] m) 24)) 0 8 False 0 x nn (fun _=>.slice none 0 0):=by
 have FA':Fam B m x nn (fun t _=>t % 256) W:=fam_cg8 FA fun t ht l _=>by unfold mkA; rw [if_pos (by omega)]
 refine ⟨⟨(ApN.begin FA').on (belNew W _),SV.below (belNew W _) SV.size,⟨_,heapNew W _,by simp [madeCells],fun t ht=>by simp [madeCells,ht,Nat.mod_one]⟩,SV.size,fun t ht k hk=>.inr ⟨t,ht,hk⟩⟩,fun t ht=>by rw [if_neg (by omega)]; rfl,fun t _ q=>by omega,fun t ht _=>⟨fun q=>q.elim,fun _=>rfl⟩⟩
end Go.Proofs.YtjckkdjldnobmaaGreatDoor.Tap

namespace Go.Proofs.YtjckkdjldnobmaaGreatDoor.Tap
open Go.RowKit Gf8 Aes By8 Cel Cf
/- The law's apart: the lists are grown. Written by tools/mkV9e.py. -/
theorem GSt.again {B m:Nat} {nn:Nat->Nat} {x:Nat->Value} {R:Nat} {V W:World} {gv:Nat->Value} {gl:Nat->Nat} {mo:Nat->Value} (h:GSt B m nn x R V W 0 8 False m gv gl mo):GSt B m nn x R V W 8 128 True 0 gv gl mo:=
 ⟨h.mn,fun t ht=>by rw [h.len t ht,if_pos ht,if_neg (by omega)],fun t _ q=>by omega,fun t ht _=>⟨fun _=>h.done t ht ht,fun q=>absurd trivial q⟩⟩
end Go.Proofs.YtjckkdjldnobmaaGreatDoor.Tap

namespace Go.Proofs.YtjckkdjldnobmaaGreatDoor.Tap
open Go.RowKit Gf8 Aes By8 Cel Cf
/- Strings of bytes: one of them, a piece, and back to a list; rows that bear a conversion's mark. -/
section
variable {o:Oper} {a:Act} {w:World}
end
def OwnM (W:World) (B:Nat) (v:Value) (n:Nat) (p:Nat->Nat):Prop:=
 ∃ g cap cur fz,v=.slice (some ⟨g,0,none⟩) n cap/\B<=g/\W.heap[g]?=some (.cells cur 5 fz)/\n<=cap/\cap<=maxLen/\cur.size=cap/\(∀ j,j < n->cur[j]?=some (.int .u8 (p j:Nat)))/\(∀ j,j < n->p j < 256)/\(cap<=fz.1\/fz.2=0)
theorem OwnM.slice {W:World} {B n:Nat} {v:Value} {p:Nat->Nat} (h:OwnM W B v n p):SliceN W v n p:=by
 obtain ⟨g,cap,cur,fz,rfl,hB,hg,h1,h2,h3,h4,h5,h6⟩:=h
 refine ⟨⟨_,_,rfl,h1,by unfold maxLen at h2; omega,fun _=>⟨g,0,rfl,(Array.getElem?_eq_some_iff.1 hg).1,fun j hj=>?_⟩⟩,h5⟩
 rw [cell_of_row _ _ _ _ _ _ hg,Nat.zero_add]
 exact h4 j hj
theorem OwnM.on {W W':World} {B n:Nat} {v:Value} {p:Nat->Nat} (h:OwnM W B v n p) (hb:Below W.heap.size W W'):OwnM W' B v n p:=by
 obtain ⟨g,cap,cur,fz,rfl,hB,hg,hr⟩:=h
 exact ⟨g,cap,cur,fz,rfl,hB,by rw [hb.block _ (Array.getElem?_eq_some_iff.1 hg).1]; exact hg,hr⟩
theorem OwnM.base {W:World} {B C n:Nat} {v:Value} {p:Nat->Nat} (h:OwnM W C v n p) (hB:B<=C):OwnM W B v n p:=by
 obtain ⟨g,cap,cur,fz,e,h1,hr⟩:=h
 exact ⟨g,cap,cur,fz,e,Nat.le_trans hB h1,hr⟩
end Go.Proofs.YtjckkdjldnobmaaGreatDoor.Tap

namespace Go.Proofs.YtjckkdjldnobmaaGreatDoor.Tap
open Go.RowKit Gf8 Aes By8 Cel Cf
/- The program's Byte and Take. Written by tools/mkV9l.py. -/
theorem on9 {W X:World} {g:Nat} {c:Obj} (h:W.heap[g]?=some c) (b:Below W.heap.size W X):X.heap[g]?=some c:=by rw [b.block _ (Array.getElem?_eq_some_iff.1 h).1]; exact h
section
variable {o:Oper} {a:Act} {w:World}
theorem execEqN {x y:Operand} {p q:Nat} (ho:o.op=.binOp .eql 3 x y 3) (hx:a.eval x=.int .i64 (p:Int)) (hy:a.eval y=.int .i64 (q:Int)):(execOp a.eval o).run Tryz.prog w=.ok (.value (.bool (decide (p=q)))) w:=by
 unfold execOp
 simp only [ho,hx,hy]
 by_cases h:p=q
 ·subst h
  simp [go_sem]
 ·have h2:¬ (p:Int)=q:=by omega
  simp [go_sem,h,h2]
theorem execEqE {x y:Operand} {p q:Nat} (ho:o.op=.binOp .eql 30 x y 30) (hx:a.eval x=.int .i64 (p:Int)) (hy:a.eval y=.int .i64 (q:Int)):(execOp a.eval o).run Tryz.prog w=.ok (.value (.bool (decide (p=q)))) w:=by
 unfold execOp
 simp only [ho,hx,hy]
 by_cases h:p=q
 ·subst h
  simp [go_sem]
 ·have h2:¬ (p:Int)=q:=by omega
  simp [go_sem,h,h2]
theorem execNeN {x y:Operand} {p q:Nat} (ho:o.op=.binOp .neq 3 x y 3) (hx:a.eval x=.int .i64 (p:Int)) (hy:a.eval y=.int .i64 (q:Int)):(execOp a.eval o).run Tryz.prog w=.ok (.value (.bool (decide (p ≠ q)))) w:=by
 unfold execOp
 simp only [ho,hx,hy]
 by_cases h:p=q
 ·subst h
  simp [go_sem]
 ·have h2:¬ (p:Int)=q:=by omega
  simp [go_sem,h,h2]
theorem execNeE {x y:Operand} {p q:Nat} (ho:o.op=.binOp .neq 30 x y 30) (hx:a.eval x=.int .i64 (p:Int)) (hy:a.eval y=.int .i64 (q:Int)):(execOp a.eval o).run Tryz.prog w=.ok (.value (.bool (decide (p ≠ q)))) w:=by
 unfold execOp
 simp only [ho,hx,hy]
 by_cases h:p=q
 ·subst h
  simp [go_sem]
 ·have h2:¬ (p:Int)=q:=by omega
  simp [go_sem,h,h2]
theorem execGtN {x y:Operand} {p q:Nat} (ho:o.op=.binOp .gtr 3 x y 3) (hx:a.eval x=.int .i64 (p:Int)) (hy:a.eval y=.int .i64 (q:Int)):(execOp a.eval o).run Tryz.prog w=.ok (.value (.bool (decide (q < p)))) w:=by
 unfold execOp
 simp only [ho,hx,hy]
 by_cases h:q < p
 ·simp [go_sem,h]
 ·simp [go_sem,h]
end
theorem OwnM.set {X:World} {B n g:Nat} {v:Value} {q:Nat->Nat} {cur c:Array Value} {t:TypeId} (h:OwnM X B v n q) (hg:X.heap[g]?=some (.cells cur t)) (ht:t ≠ 5):OwnM (X.setRow g c) B v n q:=by
 obtain ⟨g1,cap,cu,fz,e,hB,h1,hr⟩:=h
 refine ⟨g1,cap,cu,fz,e,hB,?_,hr⟩
 rw [setRow_other _ _ _ _ (fun q=>?_)]
 ·exact h1
 ·subst q
  rw [h1] at hg
  injection hg with hg
  injection hg with _ hg _
  exact ht hg.symm
def TkA (W:World) (B:Nat) (v:Value) (k:Nat) (q:Nat->Nat):Prop:=(v=.slice none 0 0/\k=0)\/OwnM W B v k q
theorem TkA.slice {W:World} {B n:Nat} {v:Value} {p:Nat->Nat} (h:TkA W B v n p):SliceN W v n p:=by
 rcases h with ⟨rfl,rfl⟩ | h
 ·exact ⟨⟨_,_,rfl,Nat.le_refl _,by omega,fun h=>by omega⟩,fun j hj=>by omega⟩
 ·exact h.slice
theorem TkA.on {W W':World} {B n:Nat} {v:Value} {p:Nat->Nat} (h:TkA W B v n p) (hb:Below W.heap.size W W'):TkA W' B v n p:=h.imp id (·.on hb)
theorem TkA.base {W:World} {B C n:Nat} {v:Value} {p:Nat->Nat} (h:TkA W C v n p) (hB:B<=C):TkA W B v n p:=h.imp id (·.base hB)
theorem TkA.set {X:World} {B n g:Nat} {v:Value} {q:Nat->Nat} {cur c:Array Value} {t:TypeId} (h:TkA X B v n q) (hg:X.heap[g]?=some (.cells cur t)) (ht:t ≠ 5):TkA (X.setRow g c) B v n q:=h.imp id (·.set hg ht)
end Go.Proofs.YtjckkdjldnobmaaGreatDoor.Tap

namespace Go.Proofs.YtjckkdjldnobmaaGreatDoor.Cf
open Go.RowKit Gf8 Aes By8 Cel
/- A region in its order of which only the operations that do something are walked: moves, assignments, picks, extracts, what isn't wanted are reckoned. -/
def lk (E:Nat->Value):List (Nat × Value)->Nat->Value
 | [],d=>E d
 | p :: l,d=>bif Nat.beq d p.1 then p.2 else lk E l d
def evO (f:Nat->Value):Operand->Value
 | .tmp d=>f d
 | .const v=>v
 | .global g=>.pointer (some ⟨g,0,none⟩)
 | .func g=>.func (.func g) #[] #[]
theorem evO_eval {a:Act} {f:Nat->Value} (h:∀ d,a.eval (.tmp d)=f d):∀ x,a.eval x=evO f x
 | .tmp d=>h d
 | .const _=>rfl
 | .global _=>rfl
 | .func _=>rfl
def wnt (ops:Array Oper) (f:Nat->Value) (o:Oper):Option Bool:=
 match o.guard with
 | none=>some true
 | some (k,b)=>
  match (ops[k]?).bind (·.dst) with
  | none=>none
  | some d=>
   match f d with
   | .bool c=>some (c == b)
   | .tuple ⟨[]⟩=>some false
   | _=>none
def eas (ops:Array Oper) (f:Nat->Value) (o:Oper):Option Value:=
 match wnt ops f o with
 | none=>none
 | some false=>some undef
 | some true=>
  match o.op with
  | .move x=>some (evO f x)
  | .assign x=>some (evO f x)
  | .pick c x y=>
   match evO f c with
   | .bool true=>some (evO f x)
   | .bool false=>some (evO f y)
   | _=>none
  | .extract x k=>
   match evO f x with
   | .tuple arr=>arr[k]?
   | _=>none
  | _=>none
def acc (ops:Array Oper) (E v:Nat->Value):Nat->List (Nat × Value)
 | 0=>[]
 | k+1=>
  match ops[k]? with
  | none=>acc ops E v k
  | some o=>
   match o.dst with
   | none=>acc ops E v k
   | some d=>(d,(eas ops (lk E (acc ops E v k)) o).getD (v k)) :: acc ops E v k
def vl (ops:Array Oper) (E v:Nat->Value) (k:Nat):Value:=
 match ops[k]? with
 | none=>undef
 | some o=>(eas ops (lk E (acc ops E v k)) o).getD (v k)
def hrd (ops:Array Oper) (E v:Nat->Value) (k:Nat):Bool:=
 match ops[k]? with
 | none=>false
 | some o=>(eas ops (lk E (acc ops E v k)) o).isNone
def AllL (P:Nat->Prop):List Nat->Prop
 | []=>True
 | j :: l=>P j/\AllL P l
theorem AllL.get {P:Nat->Prop}:∀ {l:List Nat},AllL P l->∀ {j},j ∈ l->P j
 | [],_,_,h=>by cases h
 | i :: l,h,j,hj=>by
  rcases List.mem_cons.1 hj with e | e
  ·rw [e]; exact h.1
  ·exact AllL.get h.2 e
def nb (j:Nat):List Nat->Nat
 | []=>0
 | i :: l=>(bif Nat.blt i j then 1 else 0)+nb j l
def ent (a:Act) (d:Nat):Value:=a.eval (.tmp d)
def okD (N:Nat) (ops:Array Oper):Bool:=decide ((dsOf ops).map (·.2)).Nodup && (dsOf ops).all (fun p=>decide (p.2 < N))
theorem acc_cg {ops:Array Oper} {E u v:Nat->Value}:∀ {k:Nat},(∀ i,i < k->hrd ops E v i=true->u i=v i)->acc ops E u k=acc ops E v k
 | 0,_=>rfl
 | k+1,h=>by
  have ih:=acc_cg (k:=k) fun i hi=>h i (by omega)
  have hk:=h k (by omega)
  unfold hrd at hk
  unfold acc
  cases ho:ops[k]? with
  | none=>exact ih
  | some o=>
   simp only [ho] at hk ⊢
   cases o.dst with
   | none=>exact ih
   | some d=>
    simp only [ih]
    congr 2
    cases he:eas ops (lk E (acc ops E v k)) o with
    | none=>rw [he] at hk; exact hk rfl
    | some x=>rfl
theorem wnt_is {ops:Array Oper} {a:Act} {f:Nat->Value} {o:Oper} {b:Bool} (h:∀ d,a.eval (.tmp d)=f d) (hw:wnt ops f o=some b):Region.wanted o (yielded ops a.tmps)=b:=by
 unfold wnt at hw
 cases hg:o.guard with
 | none=>
  simp only [hg] at hw
  injection hw with hw
  subst hw
  simp [Region.wanted,hg]
 | some p=>
  obtain ⟨k,c⟩:=p
  simp only [hg] at hw
  cases hq:ops[k]? with
  | none=>simp [hq] at hw
  | some q=>
   cases hd:q.dst with
   | none=>simp [hq,hd] at hw
   | some d=>
    simp only [hq,hd,Option.bind_some] at hw
    cases hf:f d with
    | bool x=>
     rw [hf] at hw
     injection hw with hw
     subst hw
     have hy:=yieldedAt hq hd ((h d).trans hf)
     simp only [Region.wanted,hg,hy]
     cases x <;> cases c <;> rfl
    | tuple arr=>
     rw [hf] at hw
     obtain ⟨l⟩:=arr
     cases l with
     | nil=>
      injection hw with hw
      subst hw
      exact unwantedNo hg (yieldedNo hq hd ((h d).trans hf))
     | cons _ _=>cases hw
    | _=>rw [hf] at hw; cases hw
theorem eas_step {ops:Array Oper} {Q:Exit->Act->World->Prop} {K:Act->World->Prop} {j:Nat} {o:Oper} {a:Act} {w:World} {f:Nat->Value} {x:Value} (ho:ops[j]?=some o) (h:∀ d,a.eval (.tmp d)=f d) (he:eas ops f o=some x) (hK:K (a.put o.dst x) w):wpOp Tryz.prog ops Q j K a w:=by
 have ev:=evO_eval h
 unfold eas at he
 cases hw:wnt ops f o with
 | none=>simp [hw] at he
 | some b=>
  have hw2:=wnt_is h hw
  cases b with
  | false=>
   simp only [hw] at he
   injection he with he
   subst he
   exact stepU ho hw2 hK
  | true=>
   simp only [hw] at he
   cases hop:o.op with
   | move y=>
    simp only [hop] at he
    injection he with he
    exact stepV ho hw2 (execMvB hop ((ev y).trans he)) hK
   | assign y=>
    simp only [hop] at he
    injection he with he
    exact stepV ho hw2 (execAsgB hop ((ev y).trans he)) hK
   | pick c y z=>
    simp only [hop] at he
    cases hc:evO f c with
    | bool t=>
     rw [hc] at he
     cases t with
     | true=>
      injection he with he
      exact stepV ho hw2 (execPickT hop ((ev c).trans hc) ((ev y).trans he)) hK
     | false=>
      injection he with he
      exact stepV ho hw2 (execPickF hop ((ev c).trans hc) ((ev z).trans he)) hK
    | _=>rw [hc] at he; cases he
   | extract y k=>
    simp only [hop] at he
    cases hc:evO f y with
    | tuple arr=>
     rw [hc] at he
     exact stepV ho hw2 (execExtT hop ((ev y).trans hc) he) hK
    | _=>rw [hc] at he; cases he
   | _=>simp [hop] at he
theorem kt {a a0:Act} {f:Operand->Value} {d:Nat} {v:Value} (e:∀ x,a.eval x=f x) (t:a0.eval (.tmp d)=v) (h:f (.tmp d)=a0.eval (.tmp d):=by rfl):a.eval (.tmp d)=v:=(e _).trans (h.trans t)
theorem allrfl {P:Nat->Prop} {hl:List Nat} (h:∀ i,P i):AllL P hl:=by
 induction hl with
 | nil=>trivial
 | cons i l ih=>exact ⟨h i,ih⟩
theorem ar {α:Type} {j:Nat} {u:Nat->α} {hl:List Nat}:AllL (fun i=>i < j->u i=u i) hl:=allrfl fun _ _=>rfl
end Go.Proofs.YtjckkdjldnobmaaGreatDoor.Cf

namespace Go.Proofs.YtjckkdjldnobmaaGreatDoor.Cf
open Go.RowKit Gf8 Aes By8 Cel
/- A region in its order, walked from one operation that does something to the next; the slots that are known are a list, and all that only moves values is reckoned. -/
def vL (l:List (Nat × Value)):Nat->Value:=lk (fun _=>undef) l
def Hd (a:Act):List (Nat × Value)->Prop
 | []=>True
 | (d,v) :: l=>a.eval (.tmp d)=v/\Hd a l
def Fr (a:Act) (l:List (Nat × Value)):Prop:=∀ d,a.eval (.tmp d)=lk (ent a) l d
theorem f0 {a:Act}:Fr a []:=fun _=>rfl
theorem fc {a:Act} {d:Nat} {v:Value} {l:List (Nat × Value)} (t:a.eval (.tmp d)=v) (h:Fr a l):Fr a ((d,v) :: l):=fun e=>by
 unfold lk
 cases hb:Nat.beq e d with
 | true=>
  rw [Nat.eq_of_beq_eq_true hb]
  exact t
 | false=>exact h e
theorem Hd.fr {a:Act}:∀ {l:List (Nat × Value)},Hd a l->Fr a l
 | [],_=>f0
 | (_,_) :: _,h=>fc h.1 (Hd.fr h.2)
theorem hd_of {a:Act} {f:Nat->Value} (h:∀ d,a.eval (.tmp d)=f d):∀ (l:List (Nat × Value)),l.map (fun p=>f p.1)=l.map (·.2)->Hd a l
 | [],_=>trivial
 | (d,_) :: l,e=>by
  injection e with e1 e2
  exact ⟨(h d).trans e1,hd_of h l e2⟩
def opA (ops:Array Oper) (k:Nat):Oper:=(ops[k]?).getD default
def eaR (ops:Array Oper) (E v:Nat->Value) (j:Nat):Nat->Bool
 | 0=>true
 | m+1=>(eas ops (lk E (acc ops E v j)) (opA ops j)).isSome && eaR ops E v (j+1) m
def skp (ops:Array Oper) (E v:Nat->Value) (j k:Nat):Bool:=Nat.ble j k && Nat.blt k ops.size && eaR ops E v j (k - j) && (eas ops (lk E (acc ops E v k)) (opA ops k)).isNone
def okN (N:Nat) (ops:Array Oper):Bool:=ops.all fun o=>match o.dst with | none=>true | some d=>Nat.blt d N
def Rest (ops:Array Oper) (Q:Exit->Act->World->Prop) (N:Nat) (D:List Deferred) (E:Nat->Value) (j:Nat) (vs:List (Nat × Value)) (W:World):Prop:=
 okN N ops=true->∀ a:Act,(a.tmps.size=N/\a.defers=D)->(∀ d,a.eval (.tmp d)=lk E (acc ops E (vL vs) j) d)->wpList Tryz.prog ops Q (ops.toList.drop j) a W
section
variable {ops:Array Oper} {Q:Exit->Act->World->Prop} {N:Nat} {D:List Deferred} {E:Nat->Value} {j:Nat} {vs:List (Nat × Value)} {W:World} {id:Nat}
theorem opA_of {k:Nat} (h:k < ops.size):ops[k]?=some (opA ops k):=by
 unfold opA
 rw [Array.getElem?_eq_getElem h]
 rfl
theorem drop_at {k:Nat} {o:Oper} (h:ops[k]?=some o):ops.toList.drop k=o :: ops.toList.drop (k+1):=by
 obtain ⟨hl,rfl⟩:=Array.getElem?_eq_some_iff.1 h
 have h2:k < ops.toList.length:=by simpa using hl
 rw [List.drop_eq_getElem_cons h2]
 simp
theorem okN_at {k d:Nat} {o:Oper} (h:okN N ops=true) (ho:ops[k]?=some o) (hd:o.dst=some d):d < N:=by
 obtain ⟨hl,rfl⟩:=Array.getElem?_eq_some_iff.1 ho
 have h1:=(Array.all_eq_true.1 h) k hl
 rw [hd] at h1
 exact Nat.le_of_ble_eq_true h1
theorem put_on {a:Act} {k:Nat} {o:Oper} {v v':Nat->Value} {x:Value} (hN:okN N ops=true) (A:a.tmps.size=N/\a.defers=D) (ho:ops[k]?=some o) (h:∀ d,a.eval (.tmp d)=lk E (acc ops E v k) d) (hc:acc ops E v' k=acc ops E v k) (hx:(eas ops (lk E (acc ops E v k)) o).getD (v' k)=x) :
  ((a.put o.dst x).tmps.size=N/\(a.put o.dst x).defers=D)/\∀ d,(a.put o.dst x).eval (.tmp d)=lk E (acc ops E v' (k+1)) d:=by
 refine ⟨⟨by rw [put_size]; exact A.1,?_⟩,fun d=>?_⟩
 ·rw [← A.2]
  cases o.dst <;> rfl
 ·unfold acc
  rw [ho]
  simp only
  cases hd:o.dst with
  | none=>
   simp only [hc]
   exact h d
  | some e=>
   simp only [hc,hx]
   unfold lk
   cases hb:Nat.beq d e with
   | true=>
    rw [Nat.eq_of_beq_eq_true hb,put_same _ _ (by rw [A.1]; exact okN_at hN ho hd)]
    rfl
   | false=>
    rw [put_other _ _ (fun q=>by rw [q,Nat.beq_refl] at hb; cases hb)]
    exact h d
theorem rest_on {m:Nat} (e:eaR ops E (vL vs) j m=true) (hk:j+m<=ops.size) (h:Rest ops Q N D E (j+m) vs W):Rest ops Q N D E j vs W:=by
 induction m generalizing j with
 | zero=>exact h
 | succ m ih=>
  unfold eaR at e
  rw [Bool.and_eq_true] at e
  have h2:=ih (j:=j+1) e.2 (by omega) (by rw [show j+1+m=j+(m+1) by omega]; exact h)
  intro hN a A hv
  have ho:=opA_of (ops:=ops) (k:=j) (by omega)
  rw [drop_at ho]
  obtain ⟨x,hx⟩:=Option.isSome_iff_exists.1 e.1
  refine wpList_of_op ho (eas_step ho hv hx ?_)
  obtain ⟨A',hv'⟩:=put_on (x:=x) (v':=vL vs) hN A ho hv rfl (by rw [hx]; rfl)
  exact h2 hN _ A' hv'
theorem rs_ (k:Nat) (h:∀ a:Act,(∀ x,a.eval x=evO (lk E (acc ops E (vL vs) k)) x)->wpOp Tryz.prog ops Q k (fun a' w'=>∃ v,(∃ o,ops[k]?=some o/\a'=a.put o.dst v)/\∀ X,X=w'->Rest ops Q N D E (k+1) ((k,v) :: vs) X) a W) (hk:skp ops E (vL vs) j k=true:=by kernel_rfl):Rest ops Q N D E j vs W:=by
 unfold skp at hk
 simp only [Bool.and_eq_true] at hk
 obtain ⟨⟨⟨h1,h2⟩,h3⟩,h4⟩:=hk
 have h1':=Nat.le_of_ble_eq_true h1
 have h2':k < ops.size:=Nat.le_of_ble_eq_true h2
 refine rest_on h3 (by omega) ?_
 rw [show j+(k - j)=k by omega]
 intro hN a A hv
 have ho:=opA_of h2'
 rw [drop_at ho]
 refine wpList_of_op ho (wpOp_mono ?_ (h a (evO_eval hv)))
 rintro a' w' ⟨v,⟨o,ho',rfl⟩,hR⟩
 rw [ho] at ho'
 cases ho'
 have hcg:acc ops E (vL ((k,v) :: vs)) k=acc ops E (vL vs) k:=acc_cg fun i hi _=>by
  show lk (fun _=>undef) ((k,v) :: vs) i=_
  unfold lk
  rw [show Nat.beq i k=false from by
   cases hb:Nat.beq i k with
   | false=>rfl
   | true=>have:=Nat.eq_of_beq_eq_true hb; omega]
  rfl
 have hkk:vL ((k,v) :: vs) k=v:=by
  show lk (fun _=>undef) ((k,v) :: vs) k=v
  unfold lk
  rw [Nat.beq_refl]
  rfl
 obtain ⟨A',hv'⟩:=put_on (x:=v) (v':=vL ((k,v) :: vs)) hN A ho hv hcg (by rw [Option.isNone_iff_eq_none.1 h4,Option.getD_none,hkk])
 exact hR _ rfl hN _ A' hv'
theorem rv_ (k:Nat) (v:Value) (h:∀ a:Act,(∀ x,a.eval x=evO (lk E (acc ops E (vL vs) k)) x)->(execOp a.eval (opA ops k)).run Tryz.prog W=.ok (.value v) W) (n:Rest ops Q N D E (k+1) ((k,v) :: vs) W) (hk:skp ops E (vL vs) j k=true:=by kernel_rfl) (hw:wnt ops (lk E (acc ops E (vL vs) k)) (opA ops k)=some true:=by kernel_rfl):Rest ops Q N D E j vs W:=by
 refine rs_ k (fun a e=>?_) hk
 unfold skp at hk
 simp only [Bool.and_eq_true] at hk
 have ho:=opA_of (ops:=ops) (k:=k) (Nat.le_of_ble_eq_true hk.1.1.2)
 exact stepV ho (wnt_is (fun d=>e (.tmp d)) hw) (h a e) ⟨v,⟨_,ho,rfl⟩,fun X eX=>by rw [eX]; exact n⟩
def fnA (ops:Array Oper) (k:Nat):FuncId:=
 match (opA ops k).op with
 | .call c=>match c.callee with
  | .value (.func f)=>f
  | _=>0
 | _=>0
def agA (ops:Array Oper) (f:Nat->Value) (k:Nat):Array Value:=
 match (opA ops k).op with
 | .call c=>⟨c.args.toList.map (evO f)⟩
 | _=>#[]
def clA (P:Program) (ops:Array Oper) (k:Nat):Bool:=
 match (opA ops k).op with
 | .call c=>match c.callee with
  | .value (.func f)=>match P.funcs[f]? with
   | some fn=>!(fn.name == "runtime.NumGoroutine") && fn.body.isSome
   | none=>false
  | _=>false
 | _=>false
theorem rc_ (k:Nat) {post:Ending->World->Prop} (c:Calls Tryz.prog (fnA ops k) (agA ops (lk E (acc ops E (vL vs) k)) k) W post) (n:∀ e w',post e w'->∃ v,e=.returned v/\Rest ops Q N D E (k+1) ((k,v) :: vs) w') (hk:skp ops E (vL vs) j k=true:=by kernel_rfl) (hw:wnt ops (lk E (acc ops E (vL vs) k)) (opA ops k)=some true:=by kernel_rfl) (hc:clA Tryz.prog ops k=true:=by kernel_rfl):Rest ops Q N D E j vs W:=by
 refine rs_ k (fun a e=>?_) hk
 unfold skp at hk
 simp only [Bool.and_eq_true] at hk
 have ho:=opA_of (ops:=ops) (k:=k) (Nat.le_of_ble_eq_true hk.1.1.2)
 unfold clA at hc
 unfold fnA agA at c
 cases hop:(opA ops k).op with
 | call cl=>
  simp only [hop] at hc c
  obtain ⟨cal,xs,ts⟩:=cl
  simp only at hc c
  cases cal with
  | value x=>
   cases x with
   | func f=>
    simp only at hc c
    cases hf:Tryz.prog.funcs[f]? with
    | none=>simp [hf] at hc
    | some fn=>
     simp only [hf,Bool.and_eq_true,Bool.not_eq_true'] at hc
     have hr:=execCall (a:=a) (w:=W) hop hf hc.1 hc.2
     have he:xs.map a.eval=⟨xs.toList.map (evO (lk E (acc ops E (vL vs) k)))⟩:=by
      apply Array.ext'
      simp only [Array.toList_map]
      exact List.map_congr_left fun x _=>e x
     rw [he] at hr
     refine stepC ho (wnt_is (fun d=>e (.tmp d)) hw) hr c fun e' w' hp=>?_
     obtain ⟨v,rfl,hR⟩:=n e' w' hp
     exact ⟨v,rfl,v,⟨_,ho,rfl⟩,fun X eX=>by rw [eX]; exact hR⟩
   | _=>simp at hc
  | _=>simp at hc
 | _=>simp [hop] at hc
theorem cs_ {v:Value} {R:Value->World->Prop} (h:R v W):∀ (e:Ending) w',(e=.returned v/\w'=W)->∃ v',e=.returned v'/\R v' w':=fun _ _ ⟨h1,h2⟩=>⟨v,h1,by rw [h2]; exact h⟩
theorem cb_ {v:Value} {R:Value->World->Prop} (h:∀ X,Below W.heap.size W X->R v X):∀ (e:Ending) w',(e=.returned v/\Below W.heap.size W w')->∃ v',e=.returned v'/\R v' w':=fun _ _ ⟨h1,h2⟩=>⟨v,h1,h _ h2⟩
theorem eqw {R:World->Prop} (h:R W):∀ X,X=W->R X:=fun _ e=>by rw [e]; exact h
theorem rf_ {a0:Act} {l:List (Nat × Value)} (new:List (Nat × Value)) (_old:Hd a0 l) (h:∀ a:Act,(a.tmps.size=N/\a.defers=D)->Hd a new->Hd a l->Q .normal a W) (hk:(Nat.ble j ops.size && eaR ops E (vL vs) j (ops.size - j))=true:=by kernel_rfl)
  (h1:new.map (fun p=>lk E (acc ops E (vL vs) ops.size) p.1)=new.map (·.2):=by kernel_rfl) (h2:l.map (fun p=>lk E (acc ops E (vL vs) ops.size) p.1)=l.map (·.2):=by kernel_rfl):Rest ops Q N D E j vs W:=by
 rw [Bool.and_eq_true] at hk
 have hj:=Nat.le_of_ble_eq_true hk.1
 refine rest_on hk.2 (by omega) ?_
 rw [show j+(ops.size - j)=ops.size by omega]
 intro hN a A hv
 rw [List.drop_eq_nil_of_le (by simp)]
 exact h a A (hd_of hv new h1) (hd_of hv l h2)
theorem rg_ (new:List (Nat × Value)) (h:∀ a:Act,(a.tmps.size=N/\a.defers=D)->Hd a new->Q .normal a W) (hk:(Nat.ble j ops.size && eaR ops E (vL vs) j (ops.size - j))=true:=by kernel_rfl)
  (h1:new.map (fun p=>lk E (acc ops E (vL vs) ops.size) p.1)=new.map (·.2):=by kernel_rfl):Rest ops Q N D E j vs W:=by
 rw [Bool.and_eq_true] at hk
 have hj:=Nat.le_of_ble_eq_true hk.1
 refine rest_on hk.2 (by omega) ?_
 rw [show j+(ops.size - j)=ops.size by omega]
 intro hN a A hv
 rw [List.drop_eq_nil_of_le (by simp)]
 exact h a A (hd_of hv new h1)
theorem wi_ {a0:Act} {l:List (Nat × Value)} (A:a0.tmps.size=N/\a0.defers=D) (F:Hd a0 l) (h:Rest ops Q N D (lk (ent a0) l) 0 [] W) (hN:okN N ops=true:=by kernel_rfl):(Code.region id ops false).wp Tryz.prog Q a0 W:=
 wp_region_list (h hN a0 A F.fr)
theorem wo_ {c:Code} {a0:Act} (N:Nat) (l:List (Nat × Value)) (h:∀ a:Act,(a.tmps.size=N/\a.defers=[])->Hd a l->c.wp Tryz.prog Q a W) (h1:a0.tmps.size=N:=by rfl) (h2:a0.defers=[]:=by rfl) (h3:l.map (fun p=>a0.eval (.tmp p.1))=l.map (·.2):=by rfl):c.wp Tryz.prog Q a0 W:=
 h a0 ⟨h1,h2⟩ (hd_of (f:=fun d=>a0.eval (.tmp d)) (fun _=>rfl) l h3)
end
section
variable {a:Act} {d1 d2 d3 d4 d5 d6 d7 d8 d9 d10 d11 d12 d13 d14 d15 d16:Nat} {v1 v2 v3 v4 v5 v6 v7 v8 v9 v10 v11 v12 v13 v14 v15 v16:Value}
theorem h0_:Hd a []:=trivial
theorem h1_ (t1:a.eval (.tmp d1)=v1):Hd a [(d1,v1)]:=⟨t1,trivial⟩
theorem h2_ (t1:a.eval (.tmp d1)=v1) (t2:a.eval (.tmp d2)=v2):Hd a [(d1,v1),(d2,v2)]:=⟨t1,t2,trivial⟩
theorem h3_ (t1:a.eval (.tmp d1)=v1) (t2:a.eval (.tmp d2)=v2) (t3:a.eval (.tmp d3)=v3):Hd a [(d1,v1),(d2,v2),(d3,v3)]:=⟨t1,t2,t3,trivial⟩
theorem h4_ (t1:a.eval (.tmp d1)=v1) (t2:a.eval (.tmp d2)=v2) (t3:a.eval (.tmp d3)=v3) (t4:a.eval (.tmp d4)=v4):Hd a [(d1,v1),(d2,v2),(d3,v3),(d4,v4)]:=⟨t1,t2,t3,t4,trivial⟩
theorem h5_ (t1:a.eval (.tmp d1)=v1) (t2:a.eval (.tmp d2)=v2) (t3:a.eval (.tmp d3)=v3) (t4:a.eval (.tmp d4)=v4) (t5:a.eval (.tmp d5)=v5):Hd a [(d1,v1),(d2,v2),(d3,v3),(d4,v4),(d5,v5)]:=⟨t1,t2,t3,t4,t5,trivial⟩
theorem h6_ (t1:a.eval (.tmp d1)=v1) (t2:a.eval (.tmp d2)=v2) (t3:a.eval (.tmp d3)=v3) (t4:a.eval (.tmp d4)=v4) (t5:a.eval (.tmp d5)=v5) (t6:a.eval (.tmp d6)=v6):Hd a [(d1,v1),(d2,v2),(d3,v3),(d4,v4),(d5,v5),(d6,v6)]:=⟨t1,t2,t3,t4,t5,t6,trivial⟩
theorem h7_ (t1:a.eval (.tmp d1)=v1) (t2:a.eval (.tmp d2)=v2) (t3:a.eval (.tmp d3)=v3) (t4:a.eval (.tmp d4)=v4) (t5:a.eval (.tmp d5)=v5) (t6:a.eval (.tmp d6)=v6) (t7:a.eval (.tmp d7)=v7):Hd a [(d1,v1),(d2,v2),(d3,v3),(d4,v4),(d5,v5),(d6,v6),(d7,v7)]:=⟨t1,t2,t3,t4,t5,t6,t7,trivial⟩
theorem h8_ (t1:a.eval (.tmp d1)=v1) (t2:a.eval (.tmp d2)=v2) (t3:a.eval (.tmp d3)=v3) (t4:a.eval (.tmp d4)=v4) (t5:a.eval (.tmp d5)=v5) (t6:a.eval (.tmp d6)=v6) (t7:a.eval (.tmp d7)=v7) (t8:a.eval (.tmp d8)=v8):Hd a [(d1,v1),(d2,v2),(d3,v3),(d4,v4),(d5,v5),(d6,v6),(d7,v7),(d8,v8)]:=⟨t1,t2,t3,t4,t5,t6,t7,t8,trivial⟩
theorem h9_ (t1:a.eval (.tmp d1)=v1) (t2:a.eval (.tmp d2)=v2) (t3:a.eval (.tmp d3)=v3) (t4:a.eval (.tmp d4)=v4) (t5:a.eval (.tmp d5)=v5) (t6:a.eval (.tmp d6)=v6) (t7:a.eval (.tmp d7)=v7) (t8:a.eval (.tmp d8)=v8) (t9:a.eval (.tmp d9)=v9):Hd a [(d1,v1),(d2,v2),(d3,v3),(d4,v4),(d5,v5),(d6,v6),(d7,v7),(d8,v8),(d9,v9)]:=⟨t1,t2,t3,t4,t5,t6,t7,t8,t9,trivial⟩
theorem h10_ (t1:a.eval (.tmp d1)=v1) (t2:a.eval (.tmp d2)=v2) (t3:a.eval (.tmp d3)=v3) (t4:a.eval (.tmp d4)=v4) (t5:a.eval (.tmp d5)=v5) (t6:a.eval (.tmp d6)=v6) (t7:a.eval (.tmp d7)=v7) (t8:a.eval (.tmp d8)=v8) (t9:a.eval (.tmp d9)=v9) (t10:a.eval (.tmp d10)=v10):Hd a [(d1,v1),(d2,v2),(d3,v3),(d4,v4),(d5,v5),(d6,v6),(d7,v7),(d8,v8),(d9,v9),(d10,v10)]:=⟨t1,t2,t3,t4,t5,t6,t7,t8,t9,t10,trivial⟩
theorem h11_ (t1:a.eval (.tmp d1)=v1) (t2:a.eval (.tmp d2)=v2) (t3:a.eval (.tmp d3)=v3) (t4:a.eval (.tmp d4)=v4) (t5:a.eval (.tmp d5)=v5) (t6:a.eval (.tmp d6)=v6) (t7:a.eval (.tmp d7)=v7) (t8:a.eval (.tmp d8)=v8) (t9:a.eval (.tmp d9)=v9) (t10:a.eval (.tmp d10)=v10) (t11:a.eval (.tmp d11)=v11):Hd a [(d1,v1),(d2,v2),(d3,v3),(d4,v4),(d5,v5),(d6,v6),(d7,v7),(d8,v8),(d9,v9),(d10,v10),(d11,v11)]:=⟨t1,t2,t3,t4,t5,t6,t7,t8,t9,t10,t11,trivial⟩
end
end Go.Proofs.YtjckkdjldnobmaaGreatDoor.Cf

namespace Go.Proofs.YtjckkdjldnobmaaGreatDoor.Cf
open Go.RowKit Gf8 Aes By8 Cel
/- A drawn region, walked in one order: what only reads may come up at any time, what changes the world comes up in one order. -/
def rch (ops:Array Oper):Nat->Nat->Nat->Bool
 | 0,_,_=>false
 | k+1,i,p=>(List.range i).any fun j=>waits (opA ops i) j && (Nat.beq j p || rch ops k j p)
def okd (ops:Array Oper) (j d:Nat):Bool:=
 (List.range ops.size).all fun i=>(match (opA ops i).dst with | none=>true | some e=>!Nat.beq e d) || waits (opA ops j) i || Nat.beq i j || rch ops 12 i j
def okx (ops:Array Oper) (j:Nat):Operand->Bool
 | .tmp d=>okd ops j d
 | _=>true
def dOk (ops:Array Oper) (p i:Nat):Bool:=match (opA ops p).dst with | none=>true | some d=>!okd ops i d
def psh (ops:Array Oper) (p:Nat) (v:Value) (ev:List (Nat × Value)):List (Nat × Value):=match (opA ops p).dst with | none=>ev | some d=>(d,v) :: ev
def Ag (ops:Array Oper) (E:Nat->Value) (p:Nat) (ev:List (Nat × Value)) (a:Act):Prop:=∀ x,okx ops p x=true->a.eval x=evO (lk E ev) x
section
variable (ops:Array Oper) (Q:Exit->Act->World->Prop) (N:Nat) (D:List Deferred) (E:Nat->Value) (C:World->Prop) (ef rd nc:List Nat)
def PuO (p:Nat) (ev:List (Nat × Value)) (v:Value):Prop:=∀ a X,Ag ops E p ev a->(rd.elem p=true->C X)->wpOp Tryz.prog ops Q p (fun a' w'=>a'=a.put (opA ops p).dst v/\w'=X) a X
def EfO (p:Nat) (ev:List (Nat × Value)) (K:Value->World->Prop) (W:World):Prop:=∀ a,Ag ops E p ev a->wpOp Tryz.prog ops Q p (fun a' w'=>∃ v,a'=a.put (opA ops p).dst v/\(nc.elem p=true\/C w')/\K v w') a W
def DW:List Nat->List (Nat × Value)->World->Prop
 | [],ev,W=>∀ a:Act,(a.tmps.size=N/\a.defers=D)->(∀ d,a.eval (.tmp d)=lk E ev d)->Q .normal a W
 | p :: R,ev,W=>match ef.elem p with
  | true=>EfO ops Q E C nc p ev (fun v w=>DW R (psh ops p v ev) w) W
  | false=>∃ v,PuO ops Q E C rd p ev v/\DW R (psh ops p v ev) W
end
theorem evO_cg {f g:Nat->Value} (h:∀ d,f d=g d):∀ x,evO f x=evO g x
 | .tmp d=>h d
 | .const _=>rfl
 | .global _=>rfl
 | .func _=>rfl
section
variable {ops:Array Oper} {Q:Exit->Act->World->Prop} {N:Nat} {D:List Deferred} {E:Nat->Value} {C:World->Prop} {ef rd nc:List Nat} {W:World}
theorem Ag.cg {p:Nat} {ev ev':List (Nat × Value)} {a:Act} (e:∀ d,lk E ev d=lk E ev' d) (h:Ag ops E p ev a):Ag ops E p ev' a:=fun x hx=>(h x hx).trans (evO_cg e x)
theorem psh_cg {p:Nat} {v:Value} {ev ev':List (Nat × Value)} (e:∀ d,lk E ev d=lk E ev' d) (d:Nat):lk E (psh ops p v ev) d=lk E (psh ops p v ev') d:=by
 unfold psh
 cases (opA ops p).dst with
 | none=>exact e d
 | some q=>
  simp only [lk]
  rw [e d]
theorem DW_cg:∀ {R:List Nat} {ev ev':List (Nat × Value)} {W:World},(∀ d,lk E ev d=lk E ev' d)->DW ops Q N D E C ef rd nc R ev W->DW ops Q N D E C ef rd nc R ev' W
 | [],_,_,_,e,h=>fun a A hv=>h a A fun d=>(hv d).trans (e d).symm
 | p :: R,ev,ev',W,e,h=>by
  unfold DW at h ⊢
  cases hp:ef.elem p with
  | true=>
   rw [hp] at h
   exact fun a ha=>wpOp_mono (fun a' w' ⟨v,q1,q2,q3⟩=>⟨v,q1,q2,DW_cg (psh_cg e) q3⟩) (h a (ha.cg fun d=>(e d).symm))
  | false=>
   rw [hp] at h
   obtain ⟨v,h1,h2⟩:=h
   exact ⟨v,fun a X ha hc=>h1 a X (ha.cg fun d=>(e d).symm) hc,DW_cg (psh_cg e) h2⟩
theorem lk_psh {p:Nat} {v:Value} {ev:List (Nat × Value)} {d:Nat} (h:(opA ops p).dst ≠ some d):lk E (psh ops p v ev) d=lk E ev d:=by
 unfold psh
 cases hd:(opA ops p).dst with
 | none=>rfl
 | some q=>
  simp only [lk]
  cases hb:Nat.beq d q with
  | false=>rfl
  | true=>exact absurd (by rw [hd,Nat.eq_of_beq_eq_true hb]) h
theorem lk_psh_at {p:Nat} {v:Value} {ev:List (Nat × Value)} {d:Nat} (h:(opA ops p).dst=some d):lk E (psh ops p v ev) d=v:=by
 unfold psh
 rw [h]
 simp only [lk,Nat.beq_refl]
 rfl
theorem ag_lk {p i:Nat} (h:dOk ops p i=true) (v:Value) (ev:List (Nat × Value)):∀ x,okx ops i x=true->evO (lk E (psh ops p v ev)) x=evO (lk E ev) x
 | .tmp d,hx=>lk_psh fun q=>by
  unfold dOk at h
  rw [q] at h
  have hx':okd ops i d=true:=hx
  simp [hx'] at h
 | .const _,_=>rfl
 | .global _,_=>rfl
 | .func _,_=>rfl
theorem Ag.up {p i:Nat} {v:Value} {ev:List (Nat × Value)} {a:Act} (h:dOk ops p i=true) (ha:Ag ops E i ev a):Ag ops E i (psh ops p v ev) a:=fun x hx=>(ha x hx).trans (ag_lk h v ev x hx).symm
theorem Ag.dn {p i:Nat} {v:Value} {ev:List (Nat × Value)} {a:Act} (h:dOk ops p i=true) (ha:Ag ops E i (psh ops p v ev) a):Ag ops E i ev a:=fun x hx=>(ha x hx).trans (ag_lk h v ev x hx)
theorem psh_comm {p i:Nat} {u v:Value} {ev:List (Nat × Value)} (h:∀ d,(opA ops p).dst=some d->(opA ops i).dst ≠ some d) (d:Nat):lk E (psh ops i v (psh ops p u ev)) d=lk E (psh ops p u (psh ops i v ev)) d:=by
 by_cases h1:(opA ops i).dst=some d
 ·rw [lk_psh_at h1,lk_psh (fun q=>h d q h1),lk_psh_at h1]
 ·rw [lk_psh h1]
  by_cases h2:(opA ops p).dst=some d
  ·rw [lk_psh_at h2,lk_psh_at h2]
  ·rw [lk_psh h2,lk_psh h2,lk_psh h1]
def Ind (ops:Array Oper) (ef:List Nat) (p i:Nat):Prop:=ef.elem p=false/\dOk ops p i=true/\dOk ops i p=true/\∀ d,(opA ops p).dst=some d->(opA ops i).dst ≠ some d
theorem swapP {i:Nat} (hi:ef.elem i=false):∀ {R:List Nat} {ev:List (Nat × Value)},i ∈ R->(∀ p ∈ R.takeWhile (· != i),Ind ops ef p i)->DW ops Q N D E C ef rd nc R ev W->∃ v,PuO ops Q E C rd i ev v/\DW ops Q N D E C ef rd nc (R.erase i) (psh ops i v ev) W
 | [],_,h,_,_=>by cases h
 | p :: R,ev,h,hb,hd=>by
  by_cases e:p=i
  ·subst e
   unfold DW at hd
   rw [hi] at hd
   rw [List.erase_cons_head]
   exact hd
  ·have hne:(p != i)=true:=by simpa using e
   rw [List.takeWhile_cons,if_pos hne] at hb
   obtain ⟨b1,b2,b3,b4⟩:=hb p (List.mem_cons_self ..)
   unfold DW at hd
   rw [b1] at hd
   obtain ⟨u,hu,hR⟩:=hd
   obtain ⟨v,hv,hd2⟩:=swapP hi (R:=R) (by rcases List.mem_cons.1 h with q | q; exact absurd q.symm e; exact q) (fun q hq=>hb q (List.mem_cons_of_mem _ hq)) hR
   refine ⟨v,fun a X ha hc=>hv a X (ha.up b2) hc,?_⟩
   rw [List.erase_cons_tail (by simpa using e)]
   unfold DW
   rw [b1]
   exact ⟨u,fun a X ha hc=>hu a X (ha.dn b3) hc,DW_cg (psh_comm b4) hd2⟩
theorem swapE {i:Nat} (hi:ef.elem i=true):∀ {R:List Nat} {ev:List (Nat × Value)},i ∈ R->(∀ p ∈ R.takeWhile (· != i),Ind ops ef p i)->DW ops Q N D E C ef rd nc R ev W->EfO ops Q E C nc i ev (fun v w=>DW ops Q N D E C ef rd nc (R.erase i) (psh ops i v ev) w) W
 | [],_,h,_,_=>by cases h
 | p :: R,ev,h,hb,hd=>by
  by_cases e:p=i
  ·subst e
   unfold DW at hd
   rw [hi] at hd
   rw [List.erase_cons_head]
   exact hd
  ·have hne:(p != i)=true:=by simpa using e
   rw [List.takeWhile_cons,if_pos hne] at hb
   obtain ⟨b1,b2,b3,b4⟩:=hb p (List.mem_cons_self ..)
   unfold DW at hd
   rw [b1] at hd
   obtain ⟨u,hu,hR⟩:=hd
   have hE:=swapE hi (R:=R) (by rcases List.mem_cons.1 h with q | q; exact absurd q.symm e; exact q) (fun q hq=>hb q (List.mem_cons_of_mem _ hq)) hR
   intro a ha
   refine wpOp_mono ?_ (hE a (ha.up b2))
   rintro a' w' ⟨v,q1,q2,q3⟩
   refine ⟨v,q1,q2,?_⟩
   rw [List.erase_cons_tail (by simpa using e)]
   unfold DW
   rw [b1]
   exact ⟨u,fun a X ha hc=>hu a X (ha.dn b3) hc,DW_cg (psh_comm b4) q3⟩
def prs (ops:Array Oper) (ef:List Nat):List Nat->Bool
 | []=>true
 | p :: R=>R.all (fun i=>(!ef.elem p && dOk ops p i && dOk ops i p) || rch ops 12 i p) && prs ops ef R
def chk (N:Nat) (ops:Array Oper) (ord ef rd nc:List Nat):Bool:=
 frontB .any ops && okD N ops && decide ord.Nodup && (List.range ops.size).all (fun j=>ord.elem j) && ord.all (fun j=>Nat.blt j ops.size) && prs ops ef ord && nc.all (fun e=>Nat.blt e ops.size && rd.all fun r=>rch ops 12 e r)
theorem rch_done {l:Nat->Bool} (hcl:∀ i,i < ops.size->l i=true->∀ m,waits (opA ops i) m=true->l m=true):∀ {k i p:Nat},rch ops k i p=true->i < ops.size->(∀ m,waits (opA ops i) m=true->l m=true)->l p=true
 | 0,_,_,h,_,_=>by cases h
 | k+1,i,p,h,hi,hw=>by
  unfold rch at h
  obtain ⟨j,hj,h2⟩:=List.any_eq_true.1 h
  rw [Bool.and_eq_true,Bool.or_eq_true] at h2
  have hlj:=hw j h2.1
  have hji:j < i:=List.mem_range.1 hj
  rcases h2.2 with q | q
  ·rw [← Nat.eq_of_beq_eq_true q]
   exact hlj
  ·exact rch_done hcl q (by omega) (hcl j (by omega) hlj)
theorem prs_at {f:Nat->Bool} {j:Nat}:∀ {ord:List Nat},prs ops ef ord=true->j ∈ ord.filter f->∀ p ∈ (ord.filter f).takeWhile (· != j),((!ef.elem p && dOk ops p j && dOk ops j p) || rch ops 12 j p)=true
 | [],_,h,_,_=>by cases h
 | q :: O,hp,hj,p,hm=>by
  unfold prs at hp
  rw [Bool.and_eq_true] at hp
  by_cases hf:f q=true
  ·rw [List.filter_cons_of_pos hf] at hj hm
   by_cases e:q=j
   ·subst e
    rw [List.takeWhile_cons,if_neg (by simp)] at hm
    cases hm
   ·rw [List.takeWhile_cons,if_pos (by simpa using e)] at hm
    have hj2:j ∈ O.filter f:=by
     rcases List.mem_cons.1 hj with z | z
     ·exact absurd z.symm e
     ·exact z
    rcases List.mem_cons.1 hm with z | z
    ·subst z
     exact List.all_eq_true.1 hp.1 j (List.mem_filter.1 hj2).1
    ·exact prs_at hp.2 hj2 p z
  ·rw [List.filter_cons_of_neg hf] at hj hm
   exact prs_at hp.2 hj p hm
theorem tw_imp {f:Nat->Bool} {p:Nat}:∀ {R:List Nat},p ∈ R.takeWhile f->f p=true
 | [],h=>by cases h
 | q :: R,h=>by
  rw [List.takeWhile_cons] at h
  by_cases hq:f q=true
  ·rw [if_pos hq] at h
   rcases List.mem_cons.1 h with z | z
   ·rw [z]; exact hq
   ·exact tw_imp z
  ·rw [if_neg hq] at h
   cases h
theorem erase_up {ord:List Nat} {l:Nat->Bool} {j:Nat} (hn:ord.Nodup):(ord.filter fun i=>!l i).erase j=ord.filter fun i=>!updB l j i:=by
 rw [List.Nodup.erase_eq_filter (hn.filter _),List.filter_filter]
 congr 1
 funext i
 unfold updB
 by_cases e:i=j
 ·subst e; simp
 ·simp [e]
theorem wd_ {id:Nat} {a0:Act} {V:World} {l0:List (Nat × Value)} (ord ef rd nc:List Nat) (C:World->Prop) (A:a0.tmps.size=N/\a0.defers=D) (F:Hd a0 l0) (hC:C V.drew) (h:DW ops Q N D (lk (ent a0) l0) C ef rd nc ord [] V.drew)
  (hk:chk N ops ord ef rd nc=true:=by kernel_rfl) (hm:Tryz.prog.follows .mixedOrders=true:=by kernel_rfl):(Code.region id ops true).wp Tryz.prog Q a0 V:=by
 unfold chk at hk
 simp only [Bool.and_eq_true] at hk
 obtain ⟨⟨⟨⟨⟨⟨k1,k2⟩,k3⟩,k4⟩,k5⟩,k6⟩,k7⟩:=hk
 have hnd:ord.Nodup:=of_decide_eq_true k3
 have hok2:=Bool.and_eq_true _ _ ▸ k2
 have hds:((dsOf ops).map (·.2)).Nodup:=of_decide_eq_true hok2.1
 have hin:∀ j,j < ops.size->j ∈ ord:=fun j hj=>by simpa using List.all_eq_true.1 k4 j (List.mem_range.2 hj)
 have hlt:∀ j,j ∈ ord->j < ops.size:=fun j hj=>Nat.le_of_ble_eq_true (List.all_eq_true.1 k5 j hj)
 have uniq:∀ {i j d:Nat},i < ops.size->j < ops.size->(opA ops i).dst=some d->(opA ops j).dst=some d->i=j:=fun hi hj e1 e2=>inj2 _ hds _ _ _ (mem_dsOf.2 ⟨_,opA_of hi,e1⟩) (mem_dsOf.2 ⟨_,opA_of hj,e2⟩)
 have hE:∀ d,a0.eval (.tmp d)=lk (ent a0) l0 d:=F.fr
 refine wp_region_detX N (dsOf ops) (fun l x w=>∃ ev,DW ops Q N D (lk (ent a0) l0) C ef rd nc (ord.filter fun i=>!l i) ev w/\((∀ i d,i < ops.size->l i=true->(opA ops i).dst=some d->lk (lk (ent a0) l0) ev d=x i)/\(∀ d,(∀ i,i < ops.size->l i=true->(opA ops i).dst ≠ some d)->lk (lk (ent a0) l0) ev d=lk (ent a0) l0 d))/\(C w\/∃ e,nc.elem e=true/\l e=true)) (fun _=>undef) hm k1 A.1 rfl hds hok2.2 ?_ ?_ ?_
 ·refine ⟨[],?_,⟨fun i d _ q=>(by cases q),fun d _=>rfl⟩,Or.inl hC⟩
  have e0:ord.filter (fun i=>!(fun _:Nat=>false) i)=ord:=List.filter_eq_self.2 (fun _ _=>rfl)
  rw [e0]
  exact h
 ·rintro j hj l x a w hl hfr hdep hl2 hcl hno ⟨ev,hD,⟨e1,e2⟩,hc⟩
  have hoj:=opA_of hj
  have hw:∀ m,waits (opA ops j) m=true->l m=true:=fun m=>hl2 _ hoj m
  have hcl':∀ i,i < ops.size->l i=true->∀ m,waits (opA ops i) m=true->l m=true:=fun i hi q m=>hcl i _ (opA_of hi) q m
  have hag:Ag ops (lk (ent a0) l0) j ev a:=by
   intro y hy
   cases y with
   | tmp d=>
    have hy':okd ops j d=true:=hy
    show a.eval (.tmp d)=lk (lk (ent a0) l0) ev d
    by_cases hex:∃ i,i < ops.size/\(opA ops i).dst=some d
    ·obtain ⟨i,hi,hd⟩:=hex
     have h3:=List.all_eq_true.1 hy' i (List.mem_range.2 hi)
     rw [hd] at h3
     simp only [Nat.beq_refl,Bool.not_true,Bool.false_or,Bool.or_eq_true] at h3
     by_cases hli:l i=true
     ·rw [e1 i d hi hli hd]
      rcases h3 with (h3 | h3) | h3
      ·exact hdep _ hoj i h3 _ (opA_of hi) d hd
      ·rw [Nat.eq_of_beq_eq_true h3,hl] at hli
       cases hli
      ·have:=rch_done hcl' h3 hi (hcl' i hi hli)
       rw [hl] at this
       cases this
     ·have hli':l i=false:=by simpa using hli
      rw [hno i _ (opA_of hi) d hd hli',hE d]
      refine (e2 d fun i' hi' q1 q2=>?_).symm
      rw [uniq hi' hi q2 hd,hli'] at q1
      cases q1
    ·have hnot:d ∉ (dsOf ops).map (·.2):=fun hm=>by
      obtain ⟨⟨i,d2⟩,hp,e⟩:=List.mem_map.1 hm
      obtain ⟨o,ho,hd⟩:=mem_dsOf.1 hp
      have hi:=(Array.getElem?_eq_some_iff.1 ho).1
      rw [opA_of hi] at ho
      injection ho with ho
      exact hex ⟨i,hi,by rw [ho,hd]; exact congrArg some e⟩
     rw [hfr d hnot,hE d]
     exact (e2 d fun i hi _ q=>hex ⟨i,hi,q⟩).symm
   | const=>rfl
   | global=>rfl
   | func=>rfl
  have hjR:j ∈ ord.filter fun i=>!l i:=List.mem_filter.2 ⟨hin j hj,by rw [hl]; rfl⟩
  have hind:∀ p ∈ (ord.filter fun i=>!l i).takeWhile (· != j),Ind ops ef p j:=fun p hp=>by
   have h3:=prs_at k6 hjR p hp
   have hpR:p ∈ ord.filter fun i=>!l i:=(List.takeWhile_sublist _).subset hp
   have hpl:l p=false:=by simpa using (List.mem_filter.1 hpR).2
   have hps:=hlt p (List.mem_filter.1 hpR).1
   have hpj:p ≠ j:=by simpa using tw_imp hp
   rw [Bool.or_eq_true] at h3
   rcases h3 with h3 | h3
   ·simp only [Bool.and_eq_true,Bool.not_eq_true'] at h3
    exact ⟨h3.1.1,h3.1.2,h3.2,fun d q1 q2=>hpj (uniq hps hj q1 q2)⟩
   ·have:=rch_done hcl' h3 hj hw
    rw [hpl] at this
    cases this
  have ups:∀ v:Value,(∀ i d,i < ops.size->updB l j i=true->(opA ops i).dst=some d->lk (lk (ent a0) l0) (psh ops j v ev) d=updS x j v i)/\(∀ d,(∀ i,i < ops.size->updB l j i=true->(opA ops i).dst ≠ some d)->lk (lk (ent a0) l0) (psh ops j v ev) d=lk (ent a0) l0 d):=fun v=>by
   refine ⟨fun i d hi q hd=>?_,fun d hd=>?_⟩
   ·unfold updS
    by_cases e:i=j
    ·subst e
     rw [if_pos rfl,lk_psh_at hd]
    ·rw [if_neg e,lk_psh (fun z=>e (uniq hi hj hd z))]
     refine e1 i d hi ?_ hd
     unfold updB at q
     rw [if_neg e] at q
     exact q
   ·rw [lk_psh (hd j hj (by unfold updB; rw [if_pos rfl]))]
    refine e2 d fun i hi q=>hd i hi ?_
    unfold updB
    by_cases e:i=j
    ·rw [if_pos e]
    ·rw [if_neg e]; exact q
  have upl:∀ e,l e=true->updB l j e=true:=fun e q=>by
   unfold updB
   by_cases z:e=j
   ·rw [if_pos z]
   ·rw [if_neg z]; exact q
  cases hej:ef.elem j with
  | false=>
   obtain ⟨v,hv,hD2⟩:=swapP hej hjR hind hD
   refine wpOp_mono ?_ (hv a w hag fun hrd=>?_)
   ·rintro a' w' ⟨q1,q2⟩
    rw [q2]
    refine ⟨v,⟨_,hoj,q1⟩,_,by rw [← erase_up hnd]; exact hD2,ups v,?_⟩
    rcases hc with hc | ⟨e,z1,z2⟩
    ·exact Or.inl hc
    ·exact Or.inr ⟨e,z1,upl e z2⟩
   ·rcases hc with hc | ⟨e,z1,z2⟩
    ·exact hc
    ·have h4:=List.all_eq_true.1 k7 e (by simpa using z1)
     rw [Bool.and_eq_true] at h4
     have hes:=Nat.le_of_ble_eq_true h4.1
     have h5:=List.all_eq_true.1 h4.2 j (by simpa using hrd)
     have:=rch_done hcl' h5 hes (hcl' e hes z2)
     rw [hl] at this
     cases this
  | true=>
   have hE2:=swapE hej hjR hind hD
   refine wpOp_mono ?_ (hE2 a hag)
   rintro a' w' ⟨v,q1,q2,q3⟩
   refine ⟨v,⟨_,hoj,q1⟩,_,by rw [← erase_up hnd]; exact q3,ups v,?_⟩
   rcases q2 with q2 | q2
   ·exact Or.inr ⟨j,q2,by unfold updB; rw [if_pos rfl]⟩
   ·exact Or.inl q2
 ·rintro l x w hall ⟨ev,hD,⟨e1,e2⟩,_⟩
  rw [List.filter_eq_nil_iff.2 (fun i hi=>by rw [hall i (hlt i hi)]; simp)] at hD
  refine hD _ ⟨by rw [putP_size]; exact A.1,by rw [putP_defers]; exact A.2⟩ fun d=>?_
  by_cases hm2:d ∈ (dsOf ops).map (·.2)
  ·obtain ⟨⟨i,d2⟩,hp,e⟩:=List.mem_map.1 hm2
   obtain ⟨o,ho,hd⟩:=mem_dsOf.1 hp
   have e':d2=d:=e
   subst e'
   have hi:=(Array.getElem?_eq_some_iff.1 ho).1
   rw [opA_of hi] at ho
   injection ho with ho
   rw [putP_same _ _ _ hds (fun q hq=>by rw [A.1]; simpa using List.all_eq_true.1 hok2.2 q hq) _ hp]
   exact (e1 i d2 hi (hall i hi) (by rw [ho,hd])).symm
  ·rw [putP_other _ _ _ hm2,hE d]
   exact (e2 d fun i hi _ q=>hm2 (List.mem_map.2 ⟨(i,d),mem_dsOf.2 ⟨_,opA_of hi,q⟩,rfl⟩)).symm
end
def eSl (ops:Array Oper) (o:Oper):List Operand:=
 (match o.guard with | none=>[] | some (k,_)=>match (ops[k]?).bind (·.dst) with | none=>[] | some d=>[.tmp d]) ++
 match o.op with
 | .move x=>[x]
 | .assign x=>[x]
 | .pick c x y=>[c,x,y]
 | .extract x _=>[x]
 | _=>[]
theorem wnt_cg {ops:Array Oper} {f g:Nat->Value} {o:Oper} (h:∀ x ∈ eSl ops o,evO f x=evO g x):wnt ops f o=wnt ops g o:=by
 unfold wnt
 cases hg:o.guard with
 | none=>rfl
 | some p=>
  obtain ⟨k,b⟩:=p
  simp only
  cases hd:(ops[k]?).bind (·.dst) with
  | none=>rfl
  | some d=>
   have e:f d=g d:=h (.tmp d) (List.mem_append_left _ (by rw [hg]; simp only [hd]; exact List.mem_cons_self ..))
   simp only [e]
theorem eas_cg {ops:Array Oper} {f g:Nat->Value} {o:Oper} (h:∀ x ∈ eSl ops o,evO f x=evO g x):eas ops f o=eas ops g o:=by
 unfold eas
 rw [wnt_cg h]
 have h2:∀ x ∈ (match o.op with | .move x=>[x] | .assign x=>[x] | .pick c x y=>[c,x,y] | .extract x _=>[x] | _=>[]),evO f x=evO g x:=fun x hx=>h x (List.mem_append_right _ hx)
 cases wnt ops g o with
 | none=>rfl
 | some b=>
  cases b with
  | false=>rfl
  | true=>
   cases hop:o.op with
   | move x=>rw [hop] at h2; simp only [h2 x (by simp)]
   | assign x=>rw [hop] at h2; simp only [h2 x (by simp)]
   | pick c x y=>rw [hop] at h2; simp only [h2 c (by simp),h2 x (by simp),h2 y (by simp)]
   | extract x k=>rw [hop] at h2; simp only [h2 x (by simp)]
   | _=>rfl
def eaD (ops:Array Oper) (E:Nat->Value) (ef:List Nat) (ev:List (Nat × Value)) (p:Nat):Option Value:=bif !ef.elem p && (eSl ops (opA ops p)).all (okx ops p) then eas ops (lk E ev) (opA ops p) else none
def acD (ops:Array Oper) (E:Nat->Value) (ef ord:List Nat) (v:Nat->Value):Nat->List (Nat × Value)
 | 0=>[]
 | m+1=>match ord[m]? with
  | none=>acD ops E ef ord v m
  | some p=>psh ops p ((eaD ops E ef (acD ops E ef ord v m) p).getD (v p)) (acD ops E ef ord v m)
def RsD (ops:Array Oper) (Q:Exit->Act->World->Prop) (N:Nat) (D:List Deferred) (E:Nat->Value) (C:World->Prop) (ef rd nc ord:List Nat) (m:Nat) (vs:List (Nat × Value)) (W:World):Prop:=DW ops Q N D E C ef rd nc (ord.drop m) (acD ops E ef ord (vL vs) m) W
def eaM (ops:Array Oper) (E:Nat->Value) (ef ord:List Nat) (v:Nat->Value) (m:Nat):Nat->Bool
 | 0=>true
 | t+1=>(match ord[m]? with | none=>false | some p=>Nat.blt p ops.size && (eaD ops E ef (acD ops E ef ord v m) p).isSome) && eaM ops E ef ord v (m+1) t
def posO:List Nat->Nat->Nat
 | [],_=>0
 | p :: R,k=>bif Nat.beq p k then 0 else posO R k+1
def skD (ops:Array Oper) (E:Nat->Value) (ef ord:List Nat) (v:Nat->Value) (m k:Nat):Bool:=
 Nat.ble m (posO ord k) && (match ord[posO ord k]? with | none=>false | some p=>Nat.beq p k) && Nat.blt k ops.size && eaM ops E ef ord v m (posO ord k - m) && (eaD ops E ef (acD ops E ef ord v (posO ord k)) k).isNone
def gdD (ops:Array Oper) (E:Nat->Value) (ev:List (Nat × Value)) (k:Nat):Bool:=(eSl ops (opA ops k)).all (okx ops k) && (match wnt ops (lk E ev) (opA ops k) with | some true=>true | _=>false)
def axD (ops:Array Oper) (k:Nat):Bool:=match (opA ops k).op with | .call c=>c.args.all (okx ops k) | _=>false
section
variable {ops:Array Oper} {Q:Exit->Act->World->Prop} {N:Nat} {D:List Deferred} {E:Nat->Value} {C:World->Prop} {ef rd nc ord:List Nat} {m:Nat} {vs:List (Nat × Value)} {W:World}
theorem posO_lt {k:Nat}:∀ {ord:List Nat} {i:Nat},i < posO ord k->ord[i]? ≠ some k
 | [],_,h=>by cases h
 | p :: R,i,h=>by
  unfold posO at h
  cases hb:Nat.beq p k with
  | true=>rw [hb] at h; exact absurd h (Nat.not_lt_zero _)
  | false=>
   rw [hb] at h
   have h':i < posO R k+1:=h
   match i,h' with
   | 0,_=>intro q; simp at q; rw [q,Nat.beq_refl] at hb; cases hb
   | i+1,h'=>rw [List.getElem?_cons_succ]; exact posO_lt (by omega)
theorem acD_cg {u v:Nat->Value}:∀ {m:Nat},(∀ i p,i < m->ord[i]?=some p->u p=v p)->acD ops E ef ord u m=acD ops E ef ord v m
 | 0,_=>rfl
 | m+1,h=>by
  have ih:=acD_cg (m:=m) fun i p hi=>h i p (by omega)
  unfold acD
  cases ho:ord[m]? with
  | none=>exact ih
  | some p=>simp only [ih,h m p (by omega) ho]
theorem rsD_on {t:Nat} (e:eaM ops E ef ord (vL vs) m t=true) (h:RsD ops Q N D E C ef rd nc ord (m+t) vs W):RsD ops Q N D E C ef rd nc ord m vs W:=by
 induction t generalizing m with
 | zero=>exact h
 | succ t ih=>
  unfold eaM at e
  rw [Bool.and_eq_true] at e
  have h2:=ih (m:=m+1) e.2 (by rw [show m+1+t=m+(t+1) by omega]; exact h)
  cases ho:ord[m]? with
  | none=>simp [ho] at e
  | some p=>
   simp only [ho,Bool.and_eq_true] at e
   obtain ⟨hp,he⟩:=e.1
   have hps:p < ops.size:=Nat.le_of_ble_eq_true hp
   obtain ⟨x,hx⟩:=Option.isSome_iff_exists.1 he
   obtain ⟨hl,rfl⟩:=List.getElem?_eq_some_iff.1 ho
   have hdr:ord.drop m=ord[m] :: ord.drop (m+1):=List.drop_eq_getElem_cons hl
   unfold RsD at h2 ⊢
   rw [hdr]
   have hac:acD ops E ef ord (vL vs) (m+1)=psh ops ord[m] x (acD ops E ef ord (vL vs) m):=by
    rw [acD,ho]
    simp only [hx,Option.getD_some]
   rw [hac] at h2
   unfold eaD at hx
   cases hc:(!ef.elem ord[m] && (eSl ops (opA ops ord[m])).all (okx ops ord[m])) with
   | false=>rw [hc] at hx; cases hx
   | true=>
    rw [hc] at hx
    have hx':eas ops (lk E (acD ops E ef ord (vL vs) m)) (opA ops ord[m])=some x:=hx
    rw [Bool.and_eq_true] at hc
    have hef:ef.elem ord[m]=false:=by simpa using hc.1
    unfold DW
    rw [hef]
    refine ⟨x,fun a X ha _=>?_,h2⟩
    refine eas_step (opA_of hps) (f:=fun d=>a.eval (.tmp d)) (fun _=>rfl) ?_ ⟨rfl,rfl⟩
    rw [← hx']
    refine eas_cg fun y hy=>?_
    rw [← evO_eval (a:=a) (f:=fun d=>a.eval (.tmp d)) (fun _=>rfl) y]
    exact ha y (List.all_eq_true.1 hc.2 y hy)
theorem sk_parts {k:Nat} (hk:skD ops E ef ord (vL vs) m k=true):m<=posO ord k/\ord[posO ord k]?=some k/\k < ops.size/\eaM ops E ef ord (vL vs) m (posO ord k - m)=true/\(eaD ops E ef (acD ops E ef ord (vL vs) (posO ord k)) k).isNone=true:=by
 unfold skD at hk
 simp only [Bool.and_eq_true] at hk
 obtain ⟨⟨⟨⟨h1,h2⟩,h3⟩,h4⟩,h5⟩:=hk
 refine ⟨Nat.le_of_ble_eq_true h1,?_,Nat.le_of_ble_eq_true h3,h4,h5⟩
 cases ho:ord[posO ord k]? with
 | none=>rw [ho] at h2; cases h2
 | some p=>rw [ho] at h2; rw [Nat.eq_of_beq_eq_true h2]
theorem acD_next {k:Nat} {v:Value} (ho:ord[posO ord k]?=some k) (h5:(eaD ops E ef (acD ops E ef ord (vL vs) (posO ord k)) k).isNone=true):acD ops E ef ord (vL ((k,v) :: vs)) (posO ord k+1)=psh ops k v (acD ops E ef ord (vL vs) (posO ord k)):=by
 have hcg:acD ops E ef ord (vL ((k,v) :: vs)) (posO ord k)=acD ops E ef ord (vL vs) (posO ord k):=acD_cg fun i p hi hp=>by
  show lk (fun _=>undef) ((k,v) :: vs) p=lk (fun _=>undef) vs p
  simp only [lk]
  cases hb:Nat.beq p k with
  | false=>rfl
  | true=>exact absurd (by rw [hp,Nat.eq_of_beq_eq_true hb]) (posO_lt hi)
 rw [acD,ho]
 simp only [hcg,Option.isNone_iff_eq_none.1 h5,Option.getD_none]
 congr 1
 show lk (fun _=>undef) ((k,v) :: vs) k=v
 simp only [lk,Nat.beq_refl]
 rfl
theorem gd_want {k:Nat} {ev:List (Nat × Value)} {a:Act} (hg:gdD ops E ev k=true) (ha:Ag ops E k ev a):Region.wanted (opA ops k) (yielded ops a.tmps)=true:=by
 unfold gdD at hg
 rw [Bool.and_eq_true] at hg
 have e:wnt ops (fun d=>a.eval (.tmp d)) (opA ops k)=wnt ops (lk E ev) (opA ops k):=wnt_cg fun y hy=>by
  rw [← evO_eval (a:=a) (f:=fun d=>a.eval (.tmp d)) (fun _=>rfl) y]
  exact ha y (List.all_eq_true.1 hg.1 y hy)
 cases hw:wnt ops (lk E ev) (opA ops k) with
 | none=>rw [hw] at hg; cases hg.2
 | some b=>
  cases b with
  | false=>rw [hw] at hg; cases hg.2
  | true=>exact wnt_is (f:=fun d=>a.eval (.tmp d)) (fun _=>rfl) (e.trans hw)
theorem dv_ (k:Nat) (v:Value) (h:∀ (a:Act) (X:World),(∀ x (_q:okx ops k x=true:=by rfl),a.eval x=evO (lk E (acD ops E ef ord (vL vs) (posO ord k))) x)->C X->(execOp a.eval (opA ops k)).run Tryz.prog X=.ok (.value v) X) (n:RsD ops Q N D E C ef rd nc ord (posO ord k+1) ((k,v) :: vs) W)
  (hk:skD ops E ef ord (vL vs) m k=true:=by kernel_rfl) (hg:gdD ops E (acD ops E ef ord (vL vs) (posO ord k)) k=true:=by kernel_rfl) (he:ef.elem k=false:=by rfl) (hr:rd.elem k=true:=by rfl):RsD ops Q N D E C ef rd nc ord m vs W:=by
 obtain ⟨h1,h2,h3,h4,h5⟩:=sk_parts hk
 refine rsD_on h4 ?_
 rw [show m+(posO ord k - m)=posO ord k by omega]
 obtain ⟨hl,hl2⟩:=List.getElem?_eq_some_iff.1 h2
 unfold RsD at n ⊢
 rw [List.drop_eq_getElem_cons hl,hl2]
 rw [acD_next h2 h5] at n
 unfold DW
 rw [he]
 exact ⟨v,fun a X ha hc=>stepV (opA_of h3) (gd_want hg ha) (h a X ha (hc hr)) ⟨rfl,rfl⟩,n⟩
theorem dw_ (k:Nat) (v:Value) (h:∀ (a:Act) (X:World),(∀ x (_q:okx ops k x=true:=by rfl),a.eval x=evO (lk E (acD ops E ef ord (vL vs) (posO ord k))) x)->(execOp a.eval (opA ops k)).run Tryz.prog X=.ok (.value v) X) (n:RsD ops Q N D E C ef rd nc ord (posO ord k+1) ((k,v) :: vs) W)
  (hk:skD ops E ef ord (vL vs) m k=true:=by kernel_rfl) (hg:gdD ops E (acD ops E ef ord (vL vs) (posO ord k)) k=true:=by kernel_rfl) (he:ef.elem k=false:=by rfl):RsD ops Q N D E C ef rd nc ord m vs W:=by
 obtain ⟨h1,h2,h3,h4,h5⟩:=sk_parts hk
 refine rsD_on h4 ?_
 rw [show m+(posO ord k - m)=posO ord k by omega]
 obtain ⟨hl,hl2⟩:=List.getElem?_eq_some_iff.1 h2
 unfold RsD at n ⊢
 rw [List.drop_eq_getElem_cons hl,hl2]
 rw [acD_next h2 h5] at n
 unfold DW
 rw [he]
 exact ⟨v,fun a X ha _=>stepV (opA_of h3) (gd_want hg ha) (h a X ha) ⟨rfl,rfl⟩,n⟩
theorem ds_ (k:Nat) (h:∀ (a:Act),(∀ x (_q:okx ops k x=true:=by rfl),a.eval x=evO (lk E (acD ops E ef ord (vL vs) (posO ord k))) x)->wpOp Tryz.prog ops Q k (fun a' w'=>∃ v,(∃ o,ops[k]?=some o/\a'=a.put o.dst v)/\∀ X,X=w'->(nc.elem k=true\/C X)/\RsD ops Q N D E C ef rd nc ord (posO ord k+1) ((k,v) :: vs) X) a W)
  (hk:skD ops E ef ord (vL vs) m k=true:=by kernel_rfl) (he:ef.elem k=true:=by rfl):RsD ops Q N D E C ef rd nc ord m vs W:=by
 obtain ⟨h1,h2,h3,h4,h5⟩:=sk_parts hk
 refine rsD_on h4 ?_
 rw [show m+(posO ord k - m)=posO ord k by omega]
 obtain ⟨hl,hl2⟩:=List.getElem?_eq_some_iff.1 h2
 unfold RsD
 rw [List.drop_eq_getElem_cons hl,hl2]
 unfold DW
 rw [he]
 intro a ha
 refine wpOp_mono ?_ (h a ha)
 rintro a' w' ⟨v,⟨o,ho,q1⟩,q2⟩
 rw [opA_of h3] at ho
 cases ho
 obtain ⟨q3,q4⟩:=q2 _ rfl
 unfold RsD at q4
 rw [acD_next h2 h5] at q4
 exact ⟨v,q1,q3,q4⟩
theorem dc_ (k:Nat) {post:Ending->World->Prop} (c:Calls Tryz.prog (fnA ops k) (agA ops (lk E (acD ops E ef ord (vL vs) (posO ord k))) k) W post) (n:∀ e w',post e w'->∃ v,e=.returned v/\(nc.elem k=true\/C w')/\RsD ops Q N D E C ef rd nc ord (posO ord k+1) ((k,v) :: vs) w')
  (hk:skD ops E ef ord (vL vs) m k=true:=by kernel_rfl) (hg:gdD ops E (acD ops E ef ord (vL vs) (posO ord k)) k=true:=by kernel_rfl) (hx:axD ops k=true:=by kernel_rfl) (hc:clA Tryz.prog ops k=true:=by kernel_rfl) (he:ef.elem k=true:=by rfl):RsD ops Q N D E C ef rd nc ord m vs W:=by
 obtain ⟨_,_,h3,_,_⟩:=sk_parts hk
 refine ds_ k (fun a ha=>?_) hk he
 have ho:=opA_of h3
 unfold clA at hc
 unfold axD at hx
 unfold fnA agA at c
 cases hop:(opA ops k).op with
 | call cl=>
  simp only [hop] at hc c hx
  obtain ⟨cal,xs,ts⟩:=cl
  simp only at hc c hx
  cases cal with
  | value x=>
   cases x with
   | func f=>
    simp only at hc c
    cases hf:Tryz.prog.funcs[f]? with
    | none=>simp [hf] at hc
    | some fn=>
     simp only [hf,Bool.and_eq_true,Bool.not_eq_true'] at hc
     have hr:=execCall (a:=a) (w:=W) hop hf hc.1 hc.2
     have he2:xs.map a.eval=⟨xs.toList.map (evO (lk E (acD ops E ef ord (vL vs) (posO ord k))))⟩:=by
      apply Array.ext'
      simp only [Array.toList_map]
      exact List.map_congr_left fun x hx2=>ha x ((Array.all_eq_true_iff_forall_mem.1 hx) x (by simpa using hx2))
     rw [he2] at hr
     refine stepC ho (gd_want hg fun x q=>ha x q) hr c fun e' w' hp=>?_
     obtain ⟨v,rfl,hR⟩:=n e' w' hp
     exact ⟨v,rfl,v,⟨_,ho,rfl⟩,fun X eX=>by rw [eX]; exact hR⟩
   | _=>simp at hc
  | _=>simp at hc
 | _=>simp [hop] at hc
theorem dz_ {a0:Act} {l:List (Nat × Value)} (new:List (Nat × Value)) (_old:Hd a0 l) (h:∀ a:Act,(a.tmps.size=N/\a.defers=D)->Hd a new->Hd a l->Q .normal a W) (hk:(Nat.ble m ord.length && eaM ops E ef ord (vL vs) m (ord.length - m))=true:=by kernel_rfl)
  (h1:new.map (fun p=>lk E (acD ops E ef ord (vL vs) ord.length) p.1)=new.map (·.2):=by kernel_rfl) (h2:l.map (fun p=>lk E (acD ops E ef ord (vL vs) ord.length) p.1)=l.map (·.2):=by kernel_rfl):RsD ops Q N D E C ef rd nc ord m vs W:=by
 rw [Bool.and_eq_true] at hk
 have hj:=Nat.le_of_ble_eq_true hk.1
 refine rsD_on hk.2 ?_
 rw [show m+(ord.length - m)=ord.length by omega]
 unfold RsD
 rw [List.drop_eq_nil_of_le (Nat.le_refl _)]
 exact fun a A hv=>h a A (hd_of hv new h1) (hd_of hv l h2)
theorem wj_ {id:Nat} {a0:Act} {V:World} {l0:List (Nat × Value)} (ord ef rd nc:List Nat) (A:a0.tmps.size=N/\a0.defers=D) (F:Hd a0 l0) (h:∀ X,Below V.heap.size V X->RsD ops Q N D (lk (ent a0) l0) (Below V.heap.size V) ef rd nc ord 0 [] X)
  (hk:chk N ops ord ef rd nc=true:=by kernel_rfl) (hm:Tryz.prog.follows .mixedOrders=true:=by kernel_rfl):(Code.region id ops true).wp Tryz.prog Q a0 V:=
 wd_ ord ef rd nc _ A F (Below.refl _ _).drew (h _ (Below.refl _ _).drew) hk hm
end
end Go.Proofs.YtjckkdjldnobmaaGreatDoor.Cf

namespace Go.Proofs.YtjckkdjldnobmaaGreatDoor.Tap
open Go.RowKit Gf8 Aes By8 Cel Cf
/- append to a row that may bear a mark behind its cells. -/
theorem bytesL_len (n:Nat) (p:Nat->Nat):(bytesL n p).length=n:=by simp [bytesL]
theorem OwnM.some {W:World} {B n:Nat} {v:Value} {p:Nat->Nat} (h:OwnM W B v n p):∀ l c,v ≠ .slice none l c:=by
 obtain ⟨g,cap,cur,fz,rfl,_⟩:=h
 intro l c e
 cases e
theorem OwnM.over {W W':World} {B b n:Nat} {v:Value} {p:Nat->Nat} {row:Option Nat} (h:OwnM W B v n p) (hg:W.grownBy W' row) (hr:∀ k,row=Option.some k->k < b) (hb:b<=B):OwnM W' B v n p:=by
 obtain ⟨g,cap,cur,fz,e,hB,h1,hrest⟩:=h
 refine ⟨g,cap,cur,fz,e,hB,?_,hrest⟩
 rw [hg.block g (Array.getElem?_eq_some_iff.1 h1).1 (fun q=>?_)]
 ·exact h1
 ·have:=hr g q.symm
  omega
theorem OwnM.row {W:World} {B n:Nat} {v:Value} {p:Nat->Nat} (h:OwnM W B v n p):∀ k,v.ownBlock=Option.some k->B<=k/\k < W.heap.size:=by
 obtain ⟨g,cap,cur,fz,rfl,hB,h1,_⟩:=h
 intro k hk
 obtain rfl:g=k:=by simpa [Value.ownBlock] using hk
 exact ⟨hB,(Array.getElem?_eq_some_iff.1 h1).1⟩
section
variable {o:Oper} {a:Act} {w:World}
end
end Go.Proofs.YtjckkdjldnobmaaGreatDoor.Tap

namespace Go.Proofs.YtjckkdjldnobmaaGreatDoor.Drw
/- Draws over Nat. -/
def scan (p:Nat->Nat) (b:Nat):Nat->Nat->Nat
 | 0,at'=>at'
 | k+1,at'=>if p at' / b < 256 / b then at' else scan p b k (at'+1)
def dS (p:Nat->Nat) (l at':Nat) (b:Int):Nat:=scan p b.toNat (l - at') at'
def dE (p:Nat->Nat) (l at':Nat) (b:Int):Nat:=if b < 1\/256 < b then 2 else if b=1 then 0 else if dS p l at' b < l then 0 else 3
def dN (p:Nat->Nat) (l at':Nat) (b:Int):Nat:=if dE p l at' b=0 then (if b=1 then at' else dS p l at' b+1) else 0
def plA (p:Nat->Nat) (l:Nat) (bs:Nat->Int):Nat->Nat
 | 0=>0
 | i+1=>dN p l (plA p l bs i) (bs i)
def okA (p:Nat->Nat) (l:Nat) (bs:Nat->Int) (n:Nat):Prop:=∀ i,i < n->dE p l (plA p l bs i) (bs i)=0
end Go.Proofs.YtjckkdjldnobmaaGreatDoor.Drw

namespace Go.Proofs.YtjckkdjldnobmaaGreatDoor.Drw
/- A tape that is turned. -/
section
variable {p:Nat->Nat} {l:Nat} {bs ws:Nat->Int} {n:Nat}
theorem turned (v b w:Nat) (hw:w < b):(v - v % b+w) / b=v / b/\(v - v % b+w) % b=w:=by
 have hb:0 < b:=by omega
 have e:v - v % b=b * (v / b):=by have:=Nat.div_add_mod v b; omega
 rw [e]
 refine ⟨?_,?_⟩
 ·rw [Nat.mul_add_div hb,Nat.div_eq_of_lt hw,Nat.add_zero]
 ·rw [Nat.mul_add_mod,Nat.mod_eq_of_lt hw]
end
end Go.Proofs.YtjckkdjldnobmaaGreatDoor.Drw

namespace Go.Proofs.YtjckkdjldnobmaaGreatDoor.Drw
open Go.RowKit Gf8 Aes By8 Cel Cf Tap
/- Lists of ints. -/
structure SliceI (w:World) (v:Value) (len:Nat) (f:Nat->Int):Prop where
 shape:∃ a cap,v=.slice a len cap/\len<=cap/\cap<=maxLen/\(0 < len->∃ b off,a=some ⟨b,off,none⟩/\b < w.heap.size/\∀ j,j < len->w.cell? ⟨b,off+j,none⟩=some (.int .i64 (f j)))
 fits:∀ j,j < len->-9223372036854775808<=f j/\f j < 9223372036854775808
theorem SliceI.on {w w':World} {v:Value} {len:Nat} {f:Nat->Int} (h:SliceI w v len f) (hb:Below w.heap.size w w'):SliceI w' v len f:=by
 obtain ⟨⟨a,cap,e,h1,h2,h3⟩,hp⟩:=h
 refine ⟨⟨a,cap,e,h1,h2,fun h0=>?_⟩,hp⟩
 obtain ⟨b,off,e1,e2,e3⟩:=h3 h0
 exact ⟨b,off,e1,Nat.lt_of_lt_of_le e2 hb.size,fun j hj=>by rw [cell_below hb e2]; exact e3 j hj⟩
theorem SliceI.cg {w:World} {v:Value} {len:Nat} {f g:Nat->Int} (h:SliceI w v len f) (e:∀ j,j < len->f j=g j):SliceI w v len g:=by
 obtain ⟨⟨a,cap,q,h1,h2,h3⟩,hp⟩:=h
 refine ⟨⟨a,cap,q,h1,h2,fun h0=>?_⟩,fun j hj=>by rw [← e j hj]; exact hp j hj⟩
 obtain ⟨b,off,e1,e2,e3⟩:=h3 h0
 exact ⟨b,off,e1,e2,fun j hj=>by rw [e3 j hj,e j hj]⟩
theorem SliceI.shp {w:World} {v:Value} {len:Nat} {f:Nat->Int} (h:SliceI w v len f):∃ a c,v=.slice a len c:=by
 obtain ⟨a,c,e,_⟩:=h.shape
 exact ⟨a,c,e⟩
section
variable {o:Oper} {a:Act} {w:World}
end
end Go.Proofs.YtjckkdjldnobmaaGreatDoor.Drw

namespace Go.Proofs.YtjckkdjldnobmaaGreatDoor.Tap
open Go.RowKit Gf8 Aes By8 Cel Cf
/- The law's awake, TapeJoins. Written by tools/mkV9o.py. -/
theorem execDec {o:Oper} {a:Act} {P:Program} {w w':World} {b c:Bool} (h:(execOp a.eval o).run P w=.ok (.value (.bool b)) w') (e:b=c):(execOp a.eval o).run P w=.ok (.value (.bool c)) w':=by rw [h,e]
end Go.Proofs.YtjckkdjldnobmaaGreatDoor.Tap

namespace Go.Proofs.YtjckkdjldnobmaaGreatDoor.Drw
open Go.RowKit Gf8 Aes By8 Cel Cf Tap
/- Lists of ints: rows of one's own, what stays, append, make; pieces of code. General: it lies at any seat with []int and []uint8. -/
theorem ownD_below {W W':World} {B n:Nat} {v:Value} {xs:List Value} {t:TypeId} {s:Nat} (h:W.ownsRow B t s v n xs) (hb:Below W.heap.size W W'):W'.ownsRow B t s v n xs:=by
 refine ⟨h.1,?_⟩
 rcases h.2 with h | ⟨g,cap,cur,e,hB,hg,hr⟩
 ·exact Or.inl h
 ·exact Or.inr ⟨g,cap,cur,e,hB,on9 hg hb,hr⟩
theorem ownD_base {W:World} {B C t s n:Nat} {v:Value} {xs:List Value} (h:W.ownsRow C t s v n xs) (hB:B<=C):W.ownsRow B t s v n xs:=by
 refine ⟨h.1,?_⟩
 rcases h.2 with h | ⟨g,cap,cur,e,hC,h1⟩
 ·exact Or.inl h
 ·exact Or.inr ⟨g,cap,cur,e,Nat.le_trans hB hC,h1⟩
theorem results_tmp2 {fn:Func} {t u:Tmp} (h:fn.results=#[.tmp t,.tmp u]) (tmps:Array Value) (P:Program) (w:World):(results fn tmps).run P w=.ok (.tuple #[tmps.getD t undef,tmps.getD u undef]) w:=by
 simp [results,h]
theorem own_nilI {W:World} {B n:Nat} {t:TypeId} {v:Value} {xs:List Value} (h:W.ownsRow B t 1 v n xs):∀ l c,v=.slice none l c->c=0:=by
 intro l c e
 rcases h.2 with ⟨rfl,_⟩ | ⟨g,cap,cur,rfl,_⟩
 ·injection e with _ _ e3; exact e3.symm
 ·injection e with e1; cases e1
def hasR:Code->Nat->Bool
 | .seq x y,k=>hasR x k || hasR y k
 | .region id _ _,k=>Nat.beq id k
 | .block _ x,k=>hasR x k
 | .loop x,k=>hasR x k
 | .cond _ x y,k=>hasR x k || hasR y k
 | _,_=>false
def leadR:Code->Nat->Bool
 | .seq x _,k=>leadR x k
 | .region id _ _,k=>Nat.beq id k
 | _,_=>false
def findR (k:Nat):Code->Code
 | .seq x y=>bif leadR x k then .seq x y else bif hasR x k then findR k x else findR k y
 | .block _ x=>findR k x
 | .loop x=>findR k x
 | .cond _ x y=>bif hasR x k then findR k x else findR k y
 | c=>c
end Go.Proofs.YtjckkdjldnobmaaGreatDoor.Drw

namespace Go.Proofs.YtjckkdjldnobmaaGreatDoor.Dro
open Go.RowKit Gf8 Aes By8 Cel Cf Tap Drw
/- Lists of bytes and lists of these, read by their values alone (no block is named). -/
def adB:Value->Nat
 | .slice (some ⟨b,_,_⟩) _ _=>b
 | _=>0
def adO:Value->Nat
 | .slice (some ⟨_,o,_⟩) _ _=>o
 | _=>0
def cutH:Value->Nat->Value
 | .slice a _ cap,k=>sliced a 0 k cap 1
 | v,_=>v
def cutL:Value->Nat->Value
 | .slice a len cap,k=>sliced a k len cap 1
 | v,_=>v
structure Ls (W:World) (cv:Value) (n:Nat) (xv:Nat->Value) (ln:Nat->Nat) (c:Nat->Nat->Nat):Prop where
 shape:∃ a cap,cv=.slice a n cap/\n<=cap/\cap < 9223372036854775808/\(0 < n->∃ b off,a=some ⟨b,off,none⟩/\b < W.heap.size/\∀ i,i < n->W.cell? ⟨b,off+i,none⟩=some (xv i))
 cell:∀ i,i < n->SliceN W (xv i) (ln i) (c i)
 nil:∀ i,i < n->∀ l cc,xv i=.slice none l cc->cc=0
 lens:∀ i,i < n->ln i<=140737488351232
section
variable {W W':World} {cv v:Value} {n m k:Nat} {xv:Nat->Value} {ln:Nat->Nat} {c:Nat->Nat->Nat} {p:Nat->Nat}
theorem Ls.on (h:Ls W cv n xv ln c) (hb:Below W.heap.size W W'):Ls W' cv n xv ln c:=by
 obtain ⟨a,cap,e,h1,h2,h3⟩:=h.shape
 refine ⟨⟨a,cap,e,h1,h2,fun h0=>?_⟩,fun i hi=>(h.cell i hi).on hb,h.nil,h.lens⟩
 obtain ⟨b,off,e2,hl,hc⟩:=h3 h0
 exact ⟨b,off,e2,Nat.lt_of_lt_of_le hl hb.size,fun i hi=>by rw [cell_below hb hl]; exact hc i hi⟩
theorem Ls.shp (h:Ls W cv n xv ln c):∃ a cap,cv=.slice a n cap:=by
 obtain ⟨a,cap,e,_⟩:=h.shape
 exact ⟨a,cap,e⟩
theorem shp (h:SliceN W v n p):∃ a cap,v=.slice a n cap:=by
 obtain ⟨a,cap,e,_⟩:=h.shape
 exact ⟨a,cap,e⟩
theorem cutH_is (h:SliceN W v n p) (hk:k<=n):SliceN W (cutH v k) k p:=by
 obtain ⟨a,cap,rfl⟩:=shp h
 have q:=h.sub 0 k (Nat.zero_le _) hk
 have e:(fun j=>p (0+j))=p:=by funext j; rw [Nat.zero_add]
 rw [e] at q
 exact q
theorem cutL_is (h:SliceN W v n p) (hk:k<=n):SliceN W (cutL v k) (n - k) fun j=>p (k+j):=by
 obtain ⟨a,cap,rfl⟩:=shp h
 exact h.sub k n hk (Nat.le_refl _)
theorem slice_cg {q:Nat->Nat} (h:SliceN W v n p) (e:∀ j,j < n->p j=q j):SliceN W v n q:=sliceN_cg h e
variable {o:Oper} {a:Act} {x y z:Operand}
theorem execLenLL (ho:o.op=.call { callee:=.builtin .len,args:=#[x],argTypes:=#[22] }) (hx:a.eval x=cv) (h:∃ ad cap,cv=.slice ad n cap):(execOp a.eval o).run Tryz.prog W=.ok (.value (.int .i64 (n:Int))) W:=by
 obtain ⟨ad,cap,rfl⟩:=h
 exact execLenL ho hx
theorem execIdxLs (h:Ls W cv n xv ln c) (ho:o.op=.indexAddr 22 x y) (hx:a.eval x=cv) (hy:a.eval y=.int .i64 (k:Int)) (hk:k < n):(execOp a.eval o).run Tryz.prog W=.ok (.value (.pointer (some ⟨adB cv,adO cv+k,none⟩))) W:=by
 obtain ⟨ad,cap,rfl,_,_,q⟩:=h.shape
 obtain ⟨b,off,rfl,_⟩:=q (by omega)
 exact Cf.execIdxL ho hx hy hk
theorem execLdLs (h:Ls W cv n xv ln c) (ho:o.op=.load 24 x) (hx:a.eval x=.pointer (some ⟨adB cv,adO cv+k,none⟩)) (hk:k < n):(execOp a.eval o).run Tryz.prog W=.ok (.value (xv k)) W:=by
 obtain ⟨ad,cap,rfl,_,_,q⟩:=h.shape
 obtain ⟨b,off,rfl,_,hc⟩:=q (by omega)
 exact execLdL ho hx (hc k hk)
theorem execIdxSb (h:SliceN W v n p) (ho:o.op=.indexAddr 24 x y) (hx:a.eval x=v) (hy:a.eval y=.int .i64 (k:Int)) (hk:k < n):(execOp a.eval o).run Tryz.prog W=.ok (.value (.pointer (some ⟨adB v,adO v+k,none⟩))) W:=by
 obtain ⟨ad,cap,rfl,_,_,q⟩:=h.shape
 obtain ⟨b,off,rfl,_⟩:=q (by omega)
 exact execIdxS ho hx hy hk
theorem execLdSb (h:SliceN W v n p) (ho:o.op=.load 5 x) (hx:a.eval x=.pointer (some ⟨adB v,adO v+k,none⟩)) (hk:k < n):(execOp a.eval o).run Tryz.prog W=.ok (.value (.int .u8 ((p k:Nat):Int))) W:=by
 obtain ⟨ad,cap,rfl,_,_,q⟩:=h.shape
 obtain ⟨b,off,rfl,_,hc⟩:=q (by omega)
 exact execLdB ho hx (hc k hk)
theorem execCutH (h:SliceN W v n p) (ho:o.op=.slice 24 x none (some y) none) (hx:a.eval x=v) (hy:a.eval y=.int .i64 (k:Int)) (hk:k<=n):(execOp a.eval o).run Tryz.prog W=.ok (.value (cutH v k)) W:=by
 obtain ⟨ad,cap,rfl,h1,_⟩:=h.shape
 exact execSlH ho hx hy (slice_h ad n cap k (by omega) W)
theorem execCutL (h:SliceN W v n p) (ho:o.op=.slice 24 x (some y) none none) (hx:a.eval x=v) (hy:a.eval y=.int .i64 (k:Int)) (hk:k<=n):(execOp a.eval o).run Tryz.prog W=.ok (.value (cutL v k)) W:=by
 obtain ⟨ad,cap,rfl,h1,_⟩:=h.shape
 exact execSlL ho hx hy (slice_l ad n cap k hk W)
end
end Go.Proofs.YtjckkdjldnobmaaGreatDoor.Dro
