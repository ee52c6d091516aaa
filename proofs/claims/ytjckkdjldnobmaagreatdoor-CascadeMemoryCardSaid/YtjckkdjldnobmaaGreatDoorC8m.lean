import Derived.Test.YtjckkdjldnobmaaGreatDoorC8g
import Derived.Test.YtjckkdjldnobmaaGreatDoorC8e
import Derived.Test.YtjckkdjldnobmaaGreatDoorX7c
import Derived.Test.YtjckkdjldnobmaaGreatDoorI1
namespace Go.Proofs.YtjckkdjldnobmaaGreatDoor.Cas
open Go.RowKit Gf8 Aes By8 Cel Cf Tap Drw Dro Oni Rou
/- CascadeMemory: rows of one's own written over and grown beside others; what a package of cascades keeps, for it. -/
structure ImplM (G:World->Prop):Prop extends Impl G where
 entry:∀ (rd ep lf:Int) (n:Nat) (cv:Value) (xv:Nat->Value) (ln:Nat->Nat) (c:Nat->Nat->Nat) (V:World),G V->Frm.Cells V cv n xv ln c->n<=140737488351232->
  Calls Tryz.prog 8 #[.int .i64 rd,.int .i64 ep,.int .i64 lf,cv] V fun e w'=>(∃ r,e=.returned (.tuple #[r,.int .i64 ((Frm.packE rd ep lf n ln:Nat):Int)])/\w'.ownsRow V.heap.size 5 1 r (Frm.packN rd ep lf n ln) (bytesL (Frm.packN rd ep lf n ln) (Frm.packI rd ep lf n c)))/\Below V.heap.size V w'
 pays:∀ (p:Nat->Nat) (len:Nat) (v:Value) (V:World),G V->SliceN V v len p->len<=140737488351232->
  Calls Tryz.prog 9 #[v] V fun e w'=>(∃ r y,e=.returned (.tuple #[r,.int .i64 ((paE p len:Nat):Int)])/\w'.ownsRow V.heap.size 24 1 r (paN p len) (lL y (paN p len))/\Fam V.heap.size (paN p len) y (paL p len) (paF p len) w')/\Below V.heap.size V w'
def gI (z k:Nat) (f:Nat->Nat) (l:Nat):Nat:=if l < k then z else f l
theorem gI_0 {z l:Nat} {f:Nat->Nat}:f l=gI z 0 f l:=(if_neg (Nat.not_lt_zero l)).symm
theorem gI_set {z u l:Nat} {f:Nat->Nat}:(if l=u then z else gI z u f l)=gI z (u+1) f l:=by
 unfold gI
 by_cases e:l=u
 ·subst e; rw [if_pos rfl,if_pos (Nat.lt_succ_self l)]
 ·rw [if_neg e]
  by_cases q:l < u
  ·rw [if_pos q,if_pos (by omega)]
  ·rw [if_neg q,if_neg (by omega)]
section
variable {W W':World} {B C n m k q:Nat} {v u z:Value} {p:Nat->Nat} {xs ys:List Value} {t T:TypeId} {y:Nat->Value}
theorem own_atV (h:W.ownsRow B 5 1 v n (bytesL n p)) (hk:k < n):W.cell? ⟨adB v,adO v+k,none⟩=some (.int .u8 ((p k:Nat):Int))/\W.frozen? ⟨adB v,adO v+k,none⟩=false:=by
 obtain ⟨g,cap,ex,hB,_,hcl⟩:=Cel.own_cells h (by omega)
 obtain ⟨cu,hcu⟩:=own_type h (k:=g) (by rw [ex]; rfl)
 subst ex
 refine ⟨?_,frozen4 hcu⟩
 show W.cell? ⟨g,0+k,none⟩=_
 rw [Nat.zero_add]
 exact hcl k hk
theorem own_here (h:W.ownsRow B t 1 v n xs) (hn:0 < n):v.ownBlock=some (adB v)/\B<=adB v/\(∃ c,W.heap[adB v]?=some (.cells c t))/\adO v=0:=by
 rcases h.2 with ⟨rfl,e⟩ | ⟨g,cap,cur,rfl,hB,hg,_⟩
 ·omega
 ·exact ⟨rfl,hB,⟨cur,hg⟩,rfl⟩
theorem own_putV (h:W.ownsRow B 5 1 v n (bytesL n p)) (hk:k < n) (z:Nat):(W.setCell ⟨adB v,adO v+k,none⟩ (.int .u8 (z:Int))).ownsRow B 5 1 v n (bytesL n fun j=>if j=k then z else p j):=by
 obtain ⟨g,cap,ex,_⟩:=Cel.own_cells h (by omega)
 subst ex
 show (W.setCell ⟨g,0+k,none⟩ _).ownsRow _ _ _ _ _ _
 rw [Nat.zero_add]
 exact own_set8 z h
theorem own_offV (h:W.ownsRow B 5 1 v n xs) (hu:W.ownsRow C 5 1 u m ys) (hm:0 < m) (d:Dis u v):(W.setCell ⟨adB u,k,none⟩ z).ownsRow B 5 1 v n xs:=by
 obtain ⟨h1,_,⟨c,hc⟩,_⟩:=own_here hu hm
 exact own_stays h hc (d _ h1)
theorem lst_offV (h:W.ownsRow B t 1 v n xs) (hu:W.ownsRow C 5 1 u m ys) (hm:0 < m) (ht:t ≠ 5):(W.setCell ⟨adB u,k,none⟩ z).ownsRow B t 1 v n xs:=by
 obtain ⟨_,_,⟨c,hc⟩,_⟩:=own_here hu hm
 exact ownW_setCell h hc ht
theorem own_offL (h:W.ownsRow B 5 1 v n xs) (hu:W.ownsRow C 24 1 u m ys) (hm:0 < m):(W.setCell ⟨adB u,k,none⟩ z).ownsRow B 5 1 v n xs:=by
 obtain ⟨h1,_,⟨c,hc⟩,_⟩:=own_here hu hm
 exact own_stays h hc (fun e=>row_ne8 h hu (by decide) h1 e)
theorem lst_offL (h:W.ownsRow B T 1 v n xs) (hne:∀ b,v.ownBlock=some b->b ≠ q):(W.setCell ⟨q,k,none⟩ z).ownsRow B T 1 v n xs:=by
 refine ⟨h.1,?_⟩
 rcases h.2 with h | ⟨r,cap,cur,e,hB,hgr,h1⟩
 ·exact Or.inl h
 ·refine Or.inr ⟨r,cap,cur,e,hB,?_,h1⟩
  rw [Below.heap_setCell _ _ _ _ (fun e2=>hne r (by rw [e]; rfl) e2)]
  exact hgr
theorem lst_put (h:W.ownsRow B t 1 v n (lL y n)) (hk:k < n):(W.setCell ⟨adB v,adO v+k,none⟩ z).ownsRow B t 1 v n (lL (updX y k z) n):=by
 refine ⟨by rw [lL_len,Nat.mul_one],?_⟩
 rcases h.2 with ⟨_,e⟩ | ⟨g,cap,cur,e,hB,hg,h1,h2,h3,h4⟩
 ·omega
 ·subst e
  show _\/_
  refine Or.inr ⟨g,cap,cur.setIfInBounds k z,rfl,hB,?_,h1,h2,by simpa using h3,?_⟩
  ·show (W.setCell ⟨g,0+k,none⟩ z).heap[g]?=_
   rw [Nat.zero_add]
   exact heap4 _ hg
  apply List.ext_getElem?
  intro j
  have h5:(cur.toList.take (n * 1))[j]?=(lL y n)[j]?:=by rw [h4]
  by_cases hj:j < n
  ·rw [List.getElem?_take_of_lt (by omega),lL_get _ _ _ hj] at h5
   rw [List.getElem?_take_of_lt (by omega),lL_get _ _ _ hj,Array.getElem?_toList,Array.getElem?_setIfInBounds]
   by_cases hk:k=j
   ·subst hk
    rw [if_pos rfl,if_pos (by simp at h3; omega),updX_at]
   ·rw [if_neg hk,show updX y k z j=y j from if_neg (fun q=>hk q.symm),← Array.getElem?_toList]
    exact h5
  ·rw [List.getElem?_eq_none (by simp; omega),List.getElem?_eq_none (by rw [lL_len]; omega)]
theorem lst_at (h:W.ownsRow B t 1 v n (lL y n)) (hk:k < n):W.cell? ⟨adB v,adO v+k,none⟩=some (y k)/\W.frozen? ⟨adB v,adO v+k,none⟩=false:=by
 rcases h.2 with ⟨_,e⟩ | ⟨g,cap,cur,e,hB,hg,h1,h2,h3,h4⟩
 ·omega
 ·subst e
  have q:(cur.toList.take (n * 1))[k]?=(lL y n)[k]?:=by rw [h4]
  rw [List.getElem?_take_of_lt (by omega),lL_get _ _ _ hk,Array.getElem?_toList] at q
  refine ⟨?_,frozen4 hg⟩
  show W.cell? ⟨g,0+k,none⟩=_
  rw [Nat.zero_add,cell_of_row _ _ _ _ _ _ hg]
  exact q
theorem own_cg {q:Nat->Nat} (h:W.ownsRow B 5 1 v n (bytesL n p)) (e:∀ l,l < n->p l=q l):W.ownsRow B 5 1 v n (bytesL n q):=by rw [← bytesL_congr e]; exact h
theorem own_kept (h:W.ownsRow B 5 1 v n xs) (hg:W.grownBy W' u.ownBlock) (d:Dis u v):W'.ownsRow B 5 1 v n xs:=ownW_grown h hg fun k hk e=>d k e hk
theorem lst_kept (h:W.ownsRow B 24 1 v n xs) (hu:W.ownsRow C 5 1 u m ys) (hg:W.grownBy W' u.ownBlock):W'.ownsRow B 24 1 v n xs:=ownW_grown h hg fun k hk e=>row_ne8 hu h (by decide) hk e
end
section
variable {o:Oper} {a:Act} {W:World} {x y':Operand} {B n k:Nat} {v z:Value} {y:Nat->Value} {p:Nat->Nat}
theorem execIdxOL (h:W.ownsRow B 24 1 v n (lL y n)) (ho:o.op=.indexAddr 22 x y') (hx:a.eval x=v) (hy:a.eval y'=.int .i64 ((k:Nat):Int)) (hk:k < n):(execOp a.eval o).run Tryz.prog W=.ok (.value (.pointer (some ⟨adB v,adO v+k,none⟩))) W:=by
 rcases h.2 with ⟨_,e⟩ | ⟨g,cap,cur,e,_⟩
 ·omega
 ·subst e
  exact Cf.execIdxL ho hx hy hk
theorem execLdOL (h:W.ownsRow B 24 1 v n (lL y n)) (ho:o.op=.load 24 x) (hx:a.eval x=.pointer (some ⟨adB v,adO v+k,none⟩)) (hk:k < n) (e:y k=z):(execOp a.eval o).run Tryz.prog W=.ok (.value z) W:=by
 subst e
 exact Cel.execLdL ho hx (lst_at h hk).1
theorem execIdxOB (h:W.ownsRow B 5 1 v n (bytesL n p)) (ho:o.op=.indexAddr 24 x y') (hx:a.eval x=v) (hy:a.eval y'=.int .i64 ((k:Nat):Int)) (hk:k < n):(execOp a.eval o).run Tryz.prog W=.ok (.value (.pointer (some ⟨adB v,adO v+k,none⟩))) W:=by
 obtain ⟨g,cap,ex,_⟩:=Cel.own_cells h (by omega)
 subst ex
 exact execIdxS ho hx hy hk
end
section
variable {P:Program} (w:World)
theorem runMk_nil (t u ty e:TypeId) (i:TypeInfo) (z:Value) (ht:P.underlying t=some (.slice e)) (hu:P.underlying u=some (.int .i64)) (hi:P.info? e=some i) (hz:i.zero=some z) (hsize:i.size=1) (hby:i.bytes=1)
  (m:Nat) (h0:0 < m) (hm:m<=1000000) (hfit:Builtin.nextslicecap (0+m) 0 * i.bytes<=281474976710656) :
  (Builtin.append_ #[t,u] ty #[.slice none 0 0,.int .i64 (m:Int)]).run P w =
   .ok (.slice (some ⟨w.heap.size,0,none⟩) (0+m) (grownCap w (0+m) 0 e))
    (w.drew.alloc (.cells (#[] ++ Builtin.zeroCells z.cells m ++ Builtin.zeroCells z.cells (grownCap w (0+m) 0 e - (0+m))) e)):=by
 have e1:IntKind.i64.wrap (m:Int)=m:=wrap_i64_nat (by omega)
 have e2:¬ ((m:Int) < 0):=by omega
 have e3:¬ (281474976710656 < (m:Int)):=by omega
 have e4:m ≠ 0:=by omega
 have e6:max (m:Int) 0=m:=by omega
 have h63':¬ (9223372036854775807 < (m:Int)):=by omega
 have h48':¬ (281474976710656 < Builtin.nextslicecap (0+m) 0 * i.bytes):=by omega
 rw [hby,Nat.mul_one] at h48'
 simp only [Nat.zero_add] at h48' ⊢
 simp [Builtin.append_,run_underlying ht,run_underlying hu,sizeOf,typeInfo,zeroValue,hi,hz,hsize,hby,asInt,asIntOf,e1,e2,e3,e4,e6,h63',h48',Question.forced,newRow,grownCap,Builtin.firstCells]
end
theorem stepAppMk {ops:Array Oper} {Q:Exit->Act->World->Prop} {K:Act->World->Prop} {j:Nat} {o:Oper} {a:Act} {W:World} {s x:Operand} {B n m:Nat} {v:Value} {p:Nat->Nat} (hos:ops[j]?=some o) (hgd:Region.wanted o (yielded ops a.tmps)=true)
  (ho:o.op=.call { callee:=.builtin .append,args:=#[s,x],argTypes:=#[24,3] })
  (hs:a.eval s=v) (hx:a.eval x=.int .i64 (m:Int)) (hown:W.ownsRow B 5 1 v n (bytesL n p)) (hz:∀ j,j < m->p (n+j)=0) (h0:0 < m) (hm:m<=1000000) (hbig:n+m<=200000000000000) (hB:B<=W.heap.size)
  (hK:∀ v' W',W'.ownsRow B 5 1 v' (n+m) (bytesL (n+m) p)->W.grownBy W' v.ownBlock->(v'.ownBlock=v.ownBlock\/v'.ownBlock=some W.heap.size)->K (a.put o.dst v') W'):wpOp Tryz.prog ops Q j K a W:=by
 obtain ⟨i,i1,i2,i3,i4⟩:=info5
 have en:(Builtin.zeroCells (Value.int .u8 0).cells m).toList=bytesL m (fun j=>p (n+j)):=by
  rw [zeros_bytes]
  exact bytesL_congr fun j hj=>(hz j hj).symm
 have ea:Builtin.zeroCells (Value.int .u8 0).cells m=(bytesL m (fun j=>p (n+j))).toArray:=by rw [← en]
 have hlen:(bytesL (n+m) p).length=(n+m) * 1:=by rw [bytesL_len,Nat.mul_one]
 have key:∃ v' w',(Builtin.append_ #[24,3] o.type #[v,.int .i64 (m:Int)]).run Tryz.prog W=.ok v' w'/\w'.ownsRow B 5 1 v' (n+m) (bytesL (n+m) p)/\W.grownBy w' v.ownBlock/\(v'.ownBlock=v.ownBlock\/v'.ownBlock=some W.heap.size):=by
  have news:∀ (old:Nat),old < n+m->(W.drew.alloc (.cells ((bytesL n p).toArray ++ Builtin.zeroCells (Value.int .u8 0).cells m ++ Builtin.zeroCells (Value.int .u8 0).cells (grownCap W (n+m) old 5 - (n+m))) 5)).ownsRow B 5 1 (.slice (some ⟨W.heap.size,0,none⟩) (n+m) (grownCap W (n+m) old 5)) (n+m) (bytesL (n+m) p):=by
   intro old ho2
   have hge:=grownCap_ge W (n+m) old 5
   have hcm2:grownCap W (n+m) old 5<=maxLen:=grownCap_le_maxLen W (n+m) old 5 (by unfold maxLen; omega)
   refine ⟨hlen,.inr ⟨W.heap.size,_,_,rfl,hB,heap_alloc_new W.drew _,hge,hcm2,?_,?_⟩⟩
   ·simp only [Array.size_append,List.size_toArray,size_zeroCells,bytesL_len]
    simp [Value.cells]
    omega
   ·rw [ea]
    simp only [Array.toList_append,List.append_assoc]
    rw [← List.append_assoc,bytesL_app,← hlen]
    exact List.take_left
  rcases hown.2 with ⟨rfl,rfl⟩ | ⟨g,cap,cur,rfl,hbg,hg,hnc,hcm,hcs,htake⟩
  ·have hr:=runMk_nil (P:=Tryz.prog) W 24 3 o.type 5 i (.int .u8 0) Tryz.underlying24 Tryz.underlying3 i1 i2 i3 i4 m h0 hm (by rw [i4]; exact grow_fits (by omega) hbig)
   exact ⟨_,_,hr,news 0 (by omega),⟨rfl,rfl,rfl,by simp,fun k hk _=>Below.heap_alloc W.drew _ k hk⟩,.inr rfl⟩
  ·by_cases hroom:n+m<=cap
   ·have hr:=runMk_room (P:=Tryz.prog) W 24 3 o.type 5 i (.int .u8 0) Tryz.underlying24 Tryz.underlying3 i1 i2 i3 i4 g n cap cur hg m h0 hm _ en (By8.bytesL_one _ _) hroom (by rw [bytesL_len]; omega)
    refine ⟨_,_,hr,⟨hlen,.inr ⟨g,cap,_,rfl,hbg,setRow_heap W g cur _ 5 _ hg,hroom,hcm,?_,?_⟩⟩,⟨rfl,rfl,rfl,by simp,fun k _ hk=>setRow_other W g k _ (fun e=>hk (by simp [Value.ownBlock,e]))⟩,.inl rfl⟩
    ·simp only [List.size_toArray,List.length_append,List.length_take,List.length_drop,Array.length_toList,bytesL_len]
     omega
    ·have ht2:cur.toList.take n=bytesL n p:=by rw [← htake,Nat.mul_one]
     rw [ht2,bytesL_app,← hlen]
     exact List.take_left
   ·have holds:∀ j u,(bytesL n p)[j]?=some u->W.cell? ((⟨g,0,none⟩:Addr).add j)=some u:=hown.cells (g:=g) rfl
    have hr:=runMk_grow (P:=Tryz.prog) W 24 3 o.type 5 i (.int .u8 0) Tryz.underlying24 Tryz.underlying3 i1 i2 i3 i4 ⟨g,0,none⟩ n cap (bytesL n p) (by rw [bytesL_len,i3,Nat.mul_one]) holds m h0 hm (by omega) (by omega) (by rw [i4]; exact grow_fits (by omega) hbig)
    exact ⟨_,_,hr,news cap (by omega),⟨rfl,rfl,rfl,by simp,fun k hk _=>Below.heap_alloc W.drew _ k hk⟩,.inr rfl⟩
 obtain ⟨v',w',hr,q1,q2,q3⟩:=key
 refine stepV hos hgd (v:=v') (w':=w') ?_ (hK v' w' q1 q2 q3)
 unfold execOp
 simp only [ho,resolve,invoke,builtin,Sem.run_bind,Sem.run_pure,Result.andThen_ok,List.map_toArray,List.map_cons,List.map_nil,hs,hx,hr]
/- Nonces copied; comparisons. -/
def nsL (t:Nat->Nat->Nat):Nat->List Value
 | 0=>[]
 | n+1=>nsL t n ++ bytesL 16 (t n)
theorem nsL_len (t:Nat->Nat->Nat):∀ n,(nsL t n).length=n * 16
 | 0=>rfl
 | n+1=>by rw [nsL,List.length_append,nsL_len t n,bytesL_len]; omega
theorem nsL_at (t:Nat->Nat->Nat):∀ n j i,j < n->i < 16->(nsL t n)[j * 16+i]?=some (.int .u8 ((t j i:Nat):Int))
 | 0,_,_,h,_=>by omega
 | n+1,j,i,h,hi=>by
  rw [nsL]
  by_cases q:j < n
  ·rw [List.getElem?_append_left (by rw [nsL_len]; omega)]
   exact nsL_at t n j i q hi
  ·obtain rfl:j=n:=by omega
   rw [List.getElem?_append_right (by rw [nsL_len]; omega),nsL_len,Nat.add_sub_cancel_left]
   exact bytesL_at 16 _ hi
theorem nsL_one (t:Nat->Nat->Nat) (n:Nat):∀ u ∈ nsL t n,u.oneCell'=true:=by
 induction n with
 | zero=>intro u hu; cases hu
 | succ n ih=>
  intro u hu
  rw [nsL,List.mem_append] at hu
  rcases hu with h | h
  ·exact ih u h
  ·exact By8.bytesL_one _ _ u h
theorem nons_ownL {W:World} {B n:Nat} {v:Value} {t:Nat->Nat->Nat} (h:W.ownsRow B 34 16 v n (nsL t n)) (hb:∀ j,j < n->By (t j)):Nons W v n t:=by
 rcases h.2 with ⟨rfl,rfl⟩ | ⟨g,cap,cur,rfl,_,hg,q1,q2,q3,q4⟩
 ·exact ⟨⟨none,0,rfl,Nat.le_refl _,by omega,fun h=>absurd h (Nat.lt_irrefl _)⟩,hb⟩
 ·have hm:maxLen < 9223372036854775808:=by decide
  refine ⟨⟨_,_,rfl,q1,by omega,fun _=>⟨g,0,rfl,(Array.getElem?_eq_some_iff.1 hg).1,fun j hj i hi=>?_⟩⟩,hb⟩
  rw [cell_of_row _ _ _ _ _ _ hg,Nat.zero_add,← Array.getElem?_toList]
  have h5:(cur.toList.take (n * 16))[j * 16+i]?=some (.int .u8 ((t j i:Nat):Int)):=by rw [q4]; exact nsL_at t n j i hj hi
  rw [List.getElem?_take_of_lt (by omega)] at h5
  exact h5
theorem info1625:∃ i,Tryz.prog.info? 34=some i/\i.zero=some (.agg (bA 16 fun _=>0))/\i.size=16/\i.bytes=16:=by
 have h:(Tryz.prog.info? 34).map (fun i=>(i.zero,i.size,i.bytes))=some (some (.agg (bA 16 fun _=>0)),16,16):=by kernel_rfl
 obtain ⟨i,h1,h2⟩:=Option.map_eq_some_iff.1 h
 simp only [Prod.mk.injEq] at h2
 exact ⟨i,h1,h2.1,h2.2.1,h2.2.2⟩
theorem stepAppNs {ops:Array Oper} {Q:Exit->Act->World->Prop} {K:Act->World->Prop} {j:Nat} {o:Oper} {a:Act} {W:World} {s x:Operand} {m:Nat} {u:Value} {p:Nat->Nat->Nat} (hos:ops[j]?=some o) (hgd:Region.wanted o (yielded ops a.tmps)=true)
  (ho:o.op=.call { callee:=.builtin .append,args:=#[s,x],argTypes:=#[23,23] }) (hs:a.eval s=.slice none 0 0) (hx:a.eval x=u) (src:Nons W u m p) (hm:m<=100000)
  (hK:∀ v' W',Nons W' v' m p->Below W.heap.size W W'->K (a.put o.dst v') W'):wpOp Tryz.prog ops Q j K a W:=by
 obtain ⟨i,i1,i2,i3,i4⟩:=info1625
 obtain ⟨⟨ao,cap,rfl,q1,q2,q3⟩,hb⟩:=src
 have none16:W.ownsRow W.heap.size 34 16 (.slice none 0 0) 0 (nsL p 0):=⟨rfl,Or.inl ⟨rfl,rfl⟩⟩
 cases ao with
 | none=>
  have hm:m=0:=by
   rcases Nat.eq_zero_or_pos m with e | e
   ·exact e
   ·obtain ⟨_,_,e',_⟩:=q3 e
    cases e'
  subst hm
  have hr:(Builtin.append_ #[23,23] o.type #[.slice none 0 0,.slice none 0 cap]).run Tryz.prog W=.ok (.slice none 0 0) W:=by
   simp [Builtin.append_,run_underlying Tryz.underlying23,sizeOf,typeInfo,i1,Builtin.lenOf,Builtin.firstCells]
  refine stepV hos hgd (v:=.slice none 0 0) (w':=W) ?_ (hK _ W (nons_ownL none16 hb) (Below.refl _ _))
  unfold execOp
  simp only [ho,resolve,invoke,builtin,Sem.run_bind,Sem.run_pure,Result.andThen_ok,List.map_toArray,List.map_cons,List.map_nil,hs,hx,hr]
 | some ad=>
  obtain ⟨v',w',hr,r1,r2,_⟩:=run_append_own (P:=Tryz.prog) W W.heap.size 23 o.type 34 i (.agg (bA 16 fun _=>0)) 16 16 Tryz.underlying23 i1 i2 i3 i4 (by simp [Value.cells,bA_size]) (by decide) (.slice none 0 0) 0 (nsL p 0) none16 ad m cap (nsL p m) (nsL_len p m) (fun j z hzz=>by
   have hj:j < m * 16:=by have:=(List.getElem?_eq_some_iff.1 hzz).1; rw [nsL_len] at this; exact this
   obtain ⟨b,off,e,_,e3⟩:=q3 (by omega)
   obtain rfl:ad=⟨b,off,none⟩:=Option.some.inj e
   have h1:=e3 (j / 16) (by omega) (j % 16) (by omega)
   have h2:=nsL_at p m (j / 16) (j % 16) (by omega) (by omega)
   rw [show j / 16 * 16+j % 16=j by omega] at h2
   rw [show off+j / 16 * 16+j % 16=off+j by omega] at h1
   rw [Go.WideShapes.add_plain,h1,← h2]
   exact hzz) (nsL_one p m) (by unfold maxLen; omega) (by omega) (Nat.le_refl _)
  rw [Nat.zero_add] at r1
  refine stepV hos hgd (v:=v') (w':=w') ?_ (hK v' w' (nons_ownL r1 hb) ((Below.refl _ W).grown r2 (Nat.le_refl _) (fun k hk=>by cases hk)))
  unfold execOp
  simp only [ho,resolve,invoke,builtin,Sem.run_bind,Sem.run_pure,Result.andThen_ok,List.map_toArray,List.map_cons,List.map_nil,hs,hx,hr]
theorem eqB_25 (n:Nat) (f:Nat->Nat):eqB n f f=true:=by
 unfold eqB
 simp
def zf (_:Nat):Nat:=0
section
variable {o:Oper} {a:Act} {w:World} {x y:Operand}
theorem execNe16 {f:Nat->Nat} (ho:o.op=.binOp .neq 34 x y 34) (hx:a.eval x=.agg (bA 16 f)) (hy:a.eval y=.agg (bA 16 f)):(execOp a.eval o).run Tryz.prog w=.ok (.value (.bool false)) w:=by
 have:=Aes.exec_neq16 (w:=w) ho hx hy
 rw [eqB_25] at this
 exact this
theorem execNe5z {i:Nat} (ho:o.op=.binOp .neq 5 x (.const (.int .u8 0)) 5) (hx:a.eval x=.int .u8 ((zf i:Nat):Int)):(execOp a.eval o).run Tryz.prog w=.ok (.value (.bool false)) w:=by
 unfold zf at hx
 unfold execOp
 simp only [ho,hx]
 simp [go_sem]
end
section
variable {W:World} {o:Oper} {a:Act} {x y:Operand} {v:Value} {n k:Nat} {q:Nat->Nat->Nat}
theorem execLenNs (h:Nons W v n q) (ho:o.op=.call { callee:=.builtin .len,args:=#[x],argTypes:=#[23] }) (hx:a.eval x=v):(execOp a.eval o).run Tryz.prog W=.ok (.value (.int .i64 (n:Int))) W:=by
 obtain ⟨ao,c,rfl,_⟩:=h.shape
 unfold execOp
 simp only [ho]
 simp [go_sem] at hx ⊢
 simp [hx,go_sem]
theorem execIdxNs (h:Nons W v n q) (ho:o.op=.indexAddr 23 x y) (hx:a.eval x=v) (hy:a.eval y=.int .i64 (k:Int)) (hk:k < n):(execOp a.eval o).run Tryz.prog W=.ok (.value (.pointer (some ⟨adB v,adO v+k * 16,none⟩))) W:=by
 obtain ⟨ad,cap,rfl,_,_,e⟩:=h.shape
 obtain ⟨b,off,rfl,_⟩:=e (by omega)
 exact execIdxA ho hx hy hk
theorem execLdNs (h:Nons W v n q) (ho:o.op=.load 34 x) (hx:a.eval x=.pointer (some ⟨adB v,adO v+k * 16,none⟩)) (hk:k < n):(execOp a.eval o).run Tryz.prog W=.ok (.value (.agg (bA 16 (q k)))) W:=by
 obtain ⟨ad,cap,rfl,_,_,e⟩:=h.shape
 obtain ⟨b,off,rfl,_,hc⟩:=e (by omega)
 exact execLdList ho hx (hc k hk) Tryz.underlying34 rfl (by kernel_rfl)
end
structure Cps (W:World) (k:Nat) (y:Nat->Value) (ln:Nat->Nat) (c:Nat->Nat->Nat):Prop where
 sl:∀ i,i < k->SliceN W (y i) (ln i) (c i)
 ty:∀ i,i < k->TyB W (y i)
 nl:∀ i,i < k->∀ l cc,y i=.slice none l cc->cc=0
section
variable {W X:World} {k n C:Nat} {y:Nat->Value} {ln:Nat->Nat} {c:Nat->Nat->Nat} {u r:Value} {ys:List Value}
theorem Cps.zero (W:World) (y:Nat->Value) (ln:Nat->Nat) (c:Nat->Nat->Nat):Cps W 0 y ln c:=⟨fun i hi=>absurd hi (Nat.not_lt_zero i),fun i hi=>absurd hi (Nat.not_lt_zero i),fun i hi=>absurd hi (Nat.not_lt_zero i)⟩
theorem Cps.on (h:Cps W k y ln c) (b:Below W.heap.size W X):Cps X k y ln c:=⟨fun i hi=>(h.sl i hi).on b,fun i hi=>(h.ty i hi).on b,h.nl⟩
theorem Cps.add (h:Cps W k y ln c) (hs:SliceN W r (ln k) (c k)) (ht:TyB W r) (hn:∀ l cc,r=.slice none l cc->cc=0):Cps W (k+1) (updX y k r) ln c:=by
 refine ⟨fun i hi=>?_,fun i hi=>?_,fun i hi=>?_⟩
 ·by_cases e:i=k
  ·subst e; rw [updX_at]; exact hs
  ·rw [updX_lt _ _ (by omega)]; exact h.sl i (by omega)
 ·by_cases e:i=k
  ·subst e; rw [updX_at]; exact ht
  ·rw [updX_lt _ _ (by omega)]; exact h.ty i (by omega)
 ·by_cases e:i=k
  ·subst e; rw [updX_at]; exact hn
  ·rw [updX_lt _ _ (by omega)]; exact h.nl i (by omega)
theorem Cps.grown (h:Cps W k y ln c) (hu:W.ownsRow C 24 1 u n ys) (hg:W.grownBy X u.ownBlock):Cps X k y ln c:=by
 have keep:∀ (b:Nat) (cur:Array Value),W.heap[b]?=some (.cells cur 5)->X.heap[b]?=W.heap[b]?:=fun b cur q=>hg.block b (Array.getElem?_eq_some_iff.1 q).1 (fun e=>by
  obtain ⟨c2,q2⟩:=own_typeL hu e.symm
  rw [q] at q2
  injection q2 with q3
  injection q3 with _ q5
  exact absurd q5 (by decide))
 refine ⟨fun i hi=>?_,fun i hi ad m c2 e=>?_,h.nl⟩
 ·obtain ⟨a,cap,e,h1,h2,h3⟩:=(h.sl i hi).shape
  refine ⟨⟨a,cap,e,h1,h2,fun h0=>?_⟩,(h.sl i hi).bytes⟩
  obtain ⟨b,off,e2,hl,hc⟩:=h3 h0
  obtain ⟨cur,q⟩:=h.ty i hi ⟨b,off,none⟩ (ln i) cap (by rw [e,e2])
  refine ⟨b,off,e2,Nat.lt_of_lt_of_le hl hg.size,fun j hj=>?_⟩
  have:=hc j hj
  rw [cell_of_row _ _ _ _ _ _ q] at this
  rw [cell_of_row _ _ _ _ _ _ ((keep b cur q).trans q)]
  exact this
 ·obtain ⟨cur,q⟩:=h.ty i hi ad m c2 e
  exact ⟨cur,by rw [keep _ cur q]; exact q⟩
theorem Cps.ls {B:Nat} (hc:Cps W n y ln c) (h:W.ownsRow B 24 1 u n (lL y n)) (hl:∀ t,t < n->ln t<=140737488351232):Ls W u n y ln c:=by
 refine ⟨?_,hc.sl,hc.nl,hl⟩
 rcases h.2 with ⟨rfl,e⟩ | ⟨g,cap,cur,rfl,h1,h2,h3,h4,h5,h6⟩
 ·obtain rfl:n=0:=by
   cases n with
   | zero=>rfl
   | succ n=>simp at e
  exact ⟨none,0,rfl,Nat.le_refl _,by omega,fun q=>absurd q (Nat.lt_irrefl 0)⟩
 ·have hc:=h.cells (g:=g) rfl
  refine ⟨_,cap,rfl,h3,by unfold maxLen at h4; omega,fun _=>⟨g,0,rfl,(Array.getElem?_eq_some_iff.1 h2).1,fun i hi=>?_⟩⟩
  have:=hc i (y i) (lL_get y n i hi)
  rw [Go.WideShapes.add_plain] at this
  exact this
theorem dis_mk {B m:Nat} {v v' y:Value} {xs:List Value} (d:Dis v y) (hy:W.ownsRow B 5 1 y m xs) (pl:v'.ownBlock=v.ownBlock\/v'.ownBlock=some W.heap.size):Dis v' y:=fun k h1 h2=>by
 rcases pl with e | e
 ·exact d k (by rw [← e]; exact h1) h2
 ·rw [e] at h1
  injection h1 with h1
  have:=(hy.lt k h2).2
  omega
end
def pyB (p:Nat->Nat) (n l:Nat):Nat:=if l < n then p l else 0
theorem py_load {W:World} {B n:Nat} {v:Value} {p:Nat->Nat} (h:W.ownsRow B 5 1 v (n+64) (bytesL (n+64) (pyB p n))) (hp:∀ i,i < n->p i < 256):SliceN W v (n+64) (pyB p n):=own_slice h fun j _=>by
 unfold pyB
 split
 ·rename_i q; exact hp j q
 ·decide
theorem py_cut {W:World} {B n:Nat} {v:Value} {p:Nat->Nat} (h:W.ownsRow B 5 1 v (n+64) (bytesL (n+64) (pyB p n))) (hp:∀ i,i < n->p i < 256):SliceN W (cutH v n) n p:=slice_cg (cutH_is (py_load h hp) (by omega)) fun j hj=>if_pos hj
theorem py_rest {W:World} {B n:Nat} {v:Value} {p:Nat->Nat} (h:W.ownsRow B 5 1 v (n+64) (bytesL (n+64) (pyB p n))) (hp:∀ i,i < n->p i < 256):SliceN W (cutL v n) (n+64 - n) zf:=slice_cg (cutL_is (py_load h hp) (by omega)) fun j hj=>if_neg (by omega)
theorem py_nil {W:World} {B n:Nat} {v:Value} {p:Nat->Nat} (h:W.ownsRow B 5 1 v (n+64) (bytesL (n+64) (pyB p n))):∀ l c,cutH v n=.slice none l c->c=0:=fun l c e=>by
 rcases h.2 with ⟨_,e2⟩ | ⟨g',c',cur,e2,_⟩
 ·have:=h.1
  omega
 ·subst e2
  have q:cutH (.slice (some ⟨g',0,none⟩) (n+64) c') n=sliced (some ⟨g',0,none⟩) 0 n c' 1:=rfl
  rw [q] at e
  unfold sliced at e
  split at e <;> (injection e with e1; cases e1)
theorem pk_le (rd ep lf:Int) (n:Nat) (ln:Nat->Nat):Frm.packN rd ep lf n ln<=140737488351232:=by
 unfold Frm.packN
 split
 ·rename_i h
  have hn:n<=256:=by
   unfold Frm.packE at h
   by_cases q:n<=256
   ·exact q
   ·rw [if_neg q] at h
    split at h <;> exact absurd h (by decide)
  unfold Frm.cellAt
  omega
 ·omega
theorem suN_le (h hn:Nat) (lk:Nat->Nat) (ep:Int) (n:Nat):suN h hn lk ep n<=320:=by
 unfold suN
 split <;> omega
end Go.Proofs.YtjckkdjldnobmaaGreatDoor.Cas

namespace Go.Proofs.YtjckkdjldnobmaaGreatDoor.Cas
open Go.RowKit Gf8 Aes By8 Cel Cf Tap Drw Dro Oni Rou
/- CascadeMemory: from region 49 on. Written by tools/mkC8k.py. -/
set_option maxRecDepth 100000 in
set_option maxHeartbeats 4000000 in
theorem memC {G:World->Prop} (I:ImplM G) (V:World) (hg:∀ W,Below V.heap.size V W->G W) (S:World) (BV:Below V.heap.size V S) (p:Nat->Nat) (len:Nat) (v22 v24:Value) (FR:SliceN S v22 len p) (FRb:SliceN S v24 len p) (hlen:len<=140737488351232)
  (a:Act) (A:a.tmps.size=287/\a.defers=[]) (t22:a.eval (.tmp 22)=v22) (t24:a.eval (.tmp 24)=v24) :
  (findR 49 (Tryz.f3.body.getD .skip)).wp Tryz.prog (bodyPost Tryz.prog Tryz.f3 fun e w'=>e=.returned (.bool true)/\Below V.heap.size V w') a S:=by
 have BB:Below S.heap.size S S:=Below.refl _ _
 have hpn:=pa_many FR.bytes
 refine wp_seq ?_
 refine wi_ A (h2_ t22 t24) (rc_ 1 (I.pays p len v22 S (hg S (BV.trans ((BB).mono BV.size))) (FR.on BB) hlen) fun e X49 hh=>?_)
 obtain ⟨⟨v222,y222,he,hk1_,hk2_⟩,hb⟩:=hh
 refine ⟨_,he,?_⟩
 have bQ:Below S.heap.size S X49:=hb
 have FU:(X49.ownsRow S.heap.size 24 1 v222 (paN p len) (lL y222 (paN p len))):=ownD_base hk1_ (BB).size
 have FF:(Fam S.heap.size (paN p len) y222 (paL p len) (paF p len) X49):=fam_base hk2_ (BB).size
 replace BB:=BB.trans (bQ.mono BB.size)
 clear bQ
 refine rf_ [(26,v222),(27,.int .i64 ((paE p len:Nat):Int))] (h2_ t22 t24) ?_
 rintro a A ⟨t26,t27,-⟩ ⟨t22,t24,-⟩
 have hUL:∀ k,v222.ownBlock=some k->k < X49.heap.size:=fun k hk=>(FU.lt k hk).2
 have hFL:∀ t,t < paN p len->∀ k,(y222 t).ownBlock=some k->k < X49.heap.size:=fun t ht k hk=>((FF.rows t ht).lt k hk).2
 refine wp_seq ?_
 refine wi_ A (h4_ t22 t24 t26 t27) (rc_ 1 (I.pays p len v22 X49 (hg X49 (BV.trans ((BB).mono BV.size))) (FR.on BB) hlen) fun e X50 hh=>?_)
 obtain ⟨⟨v227,y227,he,hk1_,hk2_⟩,hb⟩:=hh
 refine ⟨_,he,?_⟩
 have bQ:Below X49.heap.size X49 X50:=hb
 have FU2:(X50.ownsRow X49.heap.size 24 1 v227 (paN p len) (lL y227 (paN p len))):=hk1_
 have FF2:(Fam X49.heap.size (paN p len) y227 (paL p len) (paF p len) X50):=hk2_
 replace FU:=(ownD_below FU bQ)
 replace FF:=(FF.on bQ)
 replace BB:=BB.trans (bQ.mono BB.size)
 clear bQ
 refine rf_ [(28,v227)] (h4_ t22 t24 t26 t27) ?_
 rintro a A ⟨t28,-⟩ ⟨t22,t24,t26,t27,-⟩
 have hdl:∀ s t,s < paN p len->t < paN p len->s ≠ t->Dis (y222 s) (y222 t):=FF.dis
 have hdm:∀ s t,s < paN p len->t < paN p len->Dis (y222 s) (y227 t):=fun s t hs ht k h1 h2=>by
  have:=hFL s hs k h1
  have:=((FF2.rows t ht).lt k h2).1
  omega
 have hUm:∀ k,v227.ownBlock=some k->∀ q,v222.ownBlock=some q->k ≠ q:=fun k hk q hq=>by
  have:=hUL q hq
  have:=(FU2.lt k hk).1
  omega
 have hd2:∀ s t,s < paN p len->t < paN p len->s ≠ t->Dis (y227 s) (y227 t):=FF2.dis
 have FL:(∀ t,0<=t->t < paN p len->X50.ownsRow S.heap.size 5 1 (y222 t) (paL p len t) (bytesL (paL p len t) (paF p len t))):=fun t _ ht=>FF.rows t ht
 have FM:(∀ t,t < paN p len->X50.ownsRow X49.heap.size 5 1 (y227 t) (paL p len t) (bytesL (paL p len t) (paF p len t))):=FF2.rows
 clear FF FF2 hUL hFL
 refine wp_seq (wp_seq ?_)
 by_cases hE:¬ paE p len=0
 ·refine wi_ A (h5_ t22 t24 t26 t27 t28) (rv_ 1 (.bool true) (fun a E=>execDec (execNeE (p:=paE p len) (q:=0) rfl (E _) rfl) (decide_eq_true (by omega))) (rf_ [(231,.bool true)] (h2_ t22 t24) ?_))
  rintro a A ⟨t231,-⟩ ⟨t22,t24,-⟩
  refine wp_cond_true t231 ?_
  clear t231
  refine wp_seq ?_
  refine wi_ A (h2_ t22 t24) (rv_ 1 (.string (strN p len)) (fun a E=>execStr rfl (E _) ((FR.on BB))) (rv_ 3 (.string (strN p len)) (fun a E=>execStr rfl (E _) ((FRb.on BB))) (rv_ 4 (.bool true) (fun a E=>By8.execEqlS rfl (E _) (E _)) (rg_ [(4,.bool true)] ?_))))
  rintro a A ⟨t4,-⟩
  refine wp_ret ?_
  repeat (first | with_reducible refine ret_in ?_ | with_reducible refine ret_then ?_)
  refine bodyPost_ret (results_tmp rfl _ _ _) A.2 ⟨?_,BV.trans (BB.mono BV.size)⟩
  show Ending.returned (a.eval (.tmp 4))=_
  rw [t4]
 refine wi_ A (h5_ t22 t24 t26 t27 t28) (rv_ 1 (.bool false) (fun a E=>execDec (execNeE (p:=paE p len) (q:=0) rfl (E _) rfl) (decide_eq_false (by omega))) (rf_ [(231,.bool false)] (h4_ t22 t24 t26 t28) ?_))
 rintro a A ⟨t231,-⟩ ⟨t22,t24,t26,t28,-⟩
 refine wp_cond_false t231 (wp_skip ?_)
 clear t231
 refine wp_seq (wp_seq ?_)
 refine wi_ A (h4_ t22 t24 t26 t28) (rv_ 1 (.int .i64 ((paN p len:Nat):Int)) (fun a E=>execLenLL rfl (E _) (ownQ_shape FU)) (rf_ [(238,.int .i64 ((paN p len:Nat):Int)),(239,.int .i64 ((0:Nat):Int))] (h4_ t22 t24 t26 t28) ?_))
 rintro a A ⟨t238,t239,-⟩ ⟨t22,t24,t26,t28,-⟩
 refine wp_block ?_
 refine wp_loop (fun a W=>∃ (i:Nat) (yi:Nat->Value),i<=paN p len/\(∀ t,i<=t->t < paN p len->yi t=y222 t)/\(a.tmps.size=287/\a.defers=[])/\a.eval (.tmp 22)=v22/\a.eval (.tmp 24)=v24/\a.eval (.tmp 26)=v222/\a.eval (.tmp 28)=v227/\a.eval (.tmp 238)=.int .i64 ((paN p len:Nat):Int)/\a.eval (.tmp 239)=.int .i64 ((i:Nat):Int)/\Below S.heap.size S W/\(W.ownsRow S.heap.size 24 1 v222 (paN p len) (lL yi (paN p len)))/\(W.ownsRow X49.heap.size 24 1 v227 (paN p len) (lL y227 (paN p len)))/\(∀ t,i<=t->t < paN p len->W.ownsRow S.heap.size 5 1 (y222 t) (paL p len t) (bytesL (paL p len t) (paF p len t)))/\(∀ t,t < paN p len->W.ownsRow X49.heap.size 5 1 (y227 t) (paL p len t) (bytesL (paL p len t) (paF p len t)))) (fun a _=>paN p len - (intOf (a.eval (.tmp 239))).toNat) ⟨0,y222,Nat.zero_le _,(fun t _ _=>rfl),A,t22,t24,t26,t28,t238,t239,BB,FU,FU2,FL,FM⟩ ?_
 rintro a XL54 ⟨i,yi,hi,hyi,A,t22,t24,t26,t28,t238,t239,BB,FU,FU2,FL,FM⟩
 have esi:=t239
 refine wp_seq ?_
 refine wi_ A (h6_ t22 t24 t26 t28 t238 t239) (rv_ 0 (.bool (decide (i < paN p len))) (fun a E=>execLtW (p:=i) (q:=paN p len) rfl (E _) (E _)) (rf_ [(240,.bool (decide (i < paN p len)))] (h6_ t22 t24 t26 t28 t238 t239) ?_))
 rintro a A ⟨t240,-⟩ ⟨t22,t24,t26,t28,t238,t239,-⟩
 refine wp_seq ?_
 by_cases lti:i < paN p len
 ·rw [decide_eq_true lti] at t240
  refine wp_cond_true t240 (wp_skip ?_)
  clear t240
  refine wp_seq (wp_block ?_)
  have hpl:=pa_len p len i
  refine wp_seq ?_
  refine wi_ A (h6_ t22 t24 t26 t28 t238 t239) (rf_ [(30,.int .i64 ((i:Nat):Int))] (h6_ t22 t24 t26 t28 t238 t239) ?_)
  rintro a A ⟨t30,-⟩ ⟨t22,t24,t26,t28,t238,t239,-⟩
  refine wp_seq (wp_seq ?_)
  refine wi_ A (h7_ t22 t24 t26 t28 t238 t239 t30) (rv_ 2 (.pointer (some ⟨adB v222,adO v222+i,none⟩)) (fun a E=>execIdxOL FU rfl (E _) (E _) lti) (rv_ 3 (y222 i) (fun a E=>execLdOL FU rfl (E _) lti (hyi i (Nat.le_refl _) lti)) (rv_ 4 (.int .i64 ((paL p len i:Nat):Int)) (fun a E=>execLenV (len:=paL p len i) rfl (E _) (by obtain ⟨a_,c_,e_⟩:=ownQ_shape (FL i (Nat.le_refl _) lti); exact ⟨a_,c_,e_⟩)) (rf_ [(246,.int .i64 ((paL p len i:Nat):Int)),(247,.int .i64 ((0:Nat):Int))] (h7_ t22 t24 t26 t28 t238 t239 t30) ?_))))
  rintro a A ⟨t246,t247,-⟩ ⟨t22,t24,t26,t28,t238,t239,t30,-⟩
  have FG:(XL54.ownsRow S.heap.size 5 1 (y222 i) (paL p len i) (bytesL (paL p len i) (gI (i % 256) 0 (paF p len i)))):=own_cg (FL i (Nat.le_refl _) lti) (fun l _=>gI_0)
  replace FL:(∀ t,i+1<=t->t < paN p len->XL54.ownsRow S.heap.size 5 1 (y222 t) (paL p len t) (bytesL (paL p len t) (paF p len t))):=fun t h1 h2=>FL t (by omega) h2
  refine wp_block ?_
  refine wp_loop (fun a W=>∃ (u:Nat),u<=paL p len i/\(a.tmps.size=287/\a.defers=[])/\a.eval (.tmp 22)=v22/\a.eval (.tmp 24)=v24/\a.eval (.tmp 26)=v222/\a.eval (.tmp 28)=v227/\a.eval (.tmp 238)=.int .i64 ((paN p len:Nat):Int)/\a.eval (.tmp 239)=.int .i64 ((i:Nat):Int)/\a.eval (.tmp 30)=.int .i64 ((i:Nat):Int)/\a.eval (.tmp 246)=.int .i64 ((paL p len i:Nat):Int)/\a.eval (.tmp 247)=.int .i64 ((u:Nat):Int)/\Below S.heap.size S W/\(W.ownsRow S.heap.size 24 1 v222 (paN p len) (lL yi (paN p len)))/\(W.ownsRow X49.heap.size 24 1 v227 (paN p len) (lL y227 (paN p len)))/\(∀ t,i+1<=t->t < paN p len->W.ownsRow S.heap.size 5 1 (y222 t) (paL p len t) (bytesL (paL p len t) (paF p len t)))/\(∀ t,t < paN p len->W.ownsRow X49.heap.size 5 1 (y227 t) (paL p len t) (bytesL (paL p len t) (paF p len t)))/\(W.ownsRow S.heap.size 5 1 (y222 i) (paL p len i) (bytesL (paL p len i) (gI (i % 256) u (paF p len i))))) (fun a _=>paL p len i - (intOf (a.eval (.tmp 247))).toNat) ⟨0,Nat.zero_le _,A,t22,t24,t26,t28,t238,t239,t30,t246,t247,BB,FU,FU2,FL,FM,FG⟩ ?_
  rintro a XL57 ⟨u,hu,A,t22,t24,t26,t28,t238,t239,t30,t246,t247,BB,FU,FU2,FL,FM,FG⟩
  have esu:=t247
  refine wp_seq ?_
  refine wi_ A (h9_ t22 t24 t26 t28 t238 t239 t30 t246 t247) (rv_ 0 (.bool (decide (u < paL p len i))) (fun a E=>execLtW (p:=u) (q:=paL p len i) rfl (E _) (E _)) (rf_ [(248,.bool (decide (u < paL p len i)))] (h9_ t22 t24 t26 t28 t238 t239 t30 t246 t247) ?_))
  rintro a A ⟨t248,-⟩ ⟨t22,t24,t26,t28,t238,t239,t30,t246,t247,-⟩
  refine wp_seq ?_
  by_cases ltu:u < paL p len i
  ·rw [decide_eq_true ltu] at t248
   refine wp_cond_true t248 (wp_skip ?_)
   clear t248
   refine wp_seq (wp_block ?_)
   have hp0:0 < paL p len i:=Nat.lt_of_le_of_lt (Nat.zero_le _) ltu
   have hge:=(own_here FG hp0).2.1
   refine wp_seq ?_
   refine wi_ A (h9_ t22 t24 t26 t28 t238 t239 t30 t246 t247) (rf_ [(31,.int .i64 ((u:Nat):Int))] (h9_ t22 t24 t26 t28 t238 t239 t30 t246 t247) ?_)
   rintro a A ⟨t31,-⟩ ⟨t22,t24,t26,t28,t238,t239,t30,t246,t247,-⟩
   refine wi_ A (h10_ t22 t24 t26 t28 t238 t239 t30 t246 t247 t31) (rv_ 2 (.pointer (some ⟨adB v222,adO v222+i,none⟩)) (fun a E=>execIdxOL FU rfl (E _) (E _) lti) (rv_ 3 (y222 i) (fun a E=>execLdOL FU rfl (E _) lti (hyi i (Nat.le_refl _) lti)) (rv_ 6 (.int .u8 ((i % 256:Nat):Int)) (fun a E=>Cf.execU8 rfl (E _)) (rv_ 7 (.pointer (some ⟨adB (y222 i),adO (y222 i)+u,none⟩)) (fun a E=>execIdxOB FG rfl (E _) (E _) ltu) (rs_ 8 (fun a E=>?_))))))
   obtain ⟨hc_,hf_⟩:=own_atV FG ltu
   refine stepS rfl rfl (execStB rfl (E _) (E _) hc_ hf_) ⟨_,⟨_,rfl,rfl⟩,fun X59 hX=>?_⟩
   obtain ⟨BB,FU,FU2,FL,FM,FG2⟩:Below S.heap.size S X59/\(X59.ownsRow S.heap.size 24 1 v222 (paN p len) (lL yi (paN p len)))/\(X59.ownsRow X49.heap.size 24 1 v227 (paN p len) (lL y227 (paN p len)))/\(∀ t,i+1<=t->t < paN p len->X59.ownsRow S.heap.size 5 1 (y222 t) (paL p len t) (bytesL (paL p len t) (paF p len t)))/\(∀ t,t < paN p len->X59.ownsRow X49.heap.size 5 1 (y227 t) (paL p len t) (bytesL (paL p len t) (paF p len t)))/\(X59.ownsRow S.heap.size 5 1 (y222 i) (paL p len i) (bytesL (paL p len i) (gI (i % 256) (u+1) (paF p len i)))):=by subst hX; exact ⟨(BB).setCell hge _,(lst_offV FU FG hp0 (by decide)),(lst_offV FU2 FG hp0 (by decide)),(fun t h1 h2=>own_offV (FL t h1 h2) FG hp0 (hdl i t lti h2 (by omega))),(fun t ht=>own_offV (FM t ht) FG hp0 (hdm i t lti ht)),own_cg (own_putV FG ltu _) (fun l _=>gI_set)⟩
   clear FG hX E a
   refine rf_ [] (h9_ t22 t24 t26 t28 t238 t239 t30 t246 t247) ?_
   rintro a A - ⟨t22,t24,t26,t28,t238,t239,t30,t246,t247,-⟩
   refine wi_ A (h9_ t22 t24 t26 t28 t238 t239 t30 t246 t247) (rv_ 0 (.int .i64 ((u+1:Nat):Int)) (fun a E=>execAd8 (p:=u) (q:=1) rfl (E _) rfl (by omega)) (rf_ [(247,.int .i64 ((u+1:Nat):Int))] (h8_ t22 t24 t26 t28 t238 t239 t30 t246) ?_))
   rintro a A ⟨t247,-⟩ ⟨t22,t24,t26,t28,t238,t239,t30,t246,-⟩
   exact ⟨⟨u+1,ltu,A,t22,t24,t26,t28,t238,t239,t30,t246,t247,BB,FU,FU2,FL,FM,FG2⟩,by show paL p len i - (intOf (a.eval (.tmp 247))).toNat < paL p len i - (intOf (Act.eval _ (.tmp 247))).toNat; rw [t247,esu]; show paL p len i - (u+1) < paL p len i - u; omega⟩
  ·rw [decide_eq_false ltu] at t248
   refine wp_cond_false t248 ?_
   refine wp_exit ?_
   first | with_reducible refine exit_in ?_ | with_reducible refine exit_then (exit_in ?_) | with_reducible refine exit_then (exit_then (exit_in ?_)) | refine exit_in ?_ | refine exit_then (exit_in ?_) | refine exit_then (exit_then (exit_in ?_))
   clear t248 esu
   refine wi_ A (h7_ t22 t24 t26 t28 t238 t239 t30) (rv_ 4 (.pointer (some ⟨adB v222,adO v222+i,none⟩)) (fun a E=>execIdxOL FU rfl (E _) (E _) lti) (rv_ 5 (y222 i) (fun a E=>execLdOL FU rfl (E _) lti (hyi i (Nat.le_refl _) lti)) (rs_ 6 (fun a E=>?_))))
   refine stepAppMk (m:=64) (p:=fun l=>if l < paL p len i then gI (i % 256) u (paF p len i) l else 0) rfl rfl rfl (E _) rfl (own_cg FG (fun l hl=>(if_pos hl).symm)) (fun j _=>if_neg (by omega)) (by omega) (by omega) (by have:=pa_len p len i; omega) (BB).size fun v265 X61_1 own' gr _=>⟨_,⟨_,rfl,rfl⟩,eqw ?_⟩
   obtain ⟨BB,FU,FU2,FL,FM,FSH⟩:Below S.heap.size S X61_1/\(X61_1.ownsRow S.heap.size 24 1 v222 (paN p len) (lL yi (paN p len)))/\(X61_1.ownsRow X49.heap.size 24 1 v227 (paN p len) (lL y227 (paN p len)))/\(∀ t,i+1<=t->t < paN p len->X61_1.ownsRow S.heap.size 5 1 (y222 t) (paL p len t) (bytesL (paL p len t) (paF p len t)))/\(∀ t,t < paN p len->X61_1.ownsRow X49.heap.size 5 1 (y227 t) (paL p len t) (bytesL (paL p len t) (paF p len t)))/\(∃ g n c,v265=.slice g n c):=⟨(BB).grown gr (BB).size (fun k hk=>(FG.lt k hk).1),(lst_kept FU FG gr),(lst_kept FU2 FG gr),(fun t h1 h2=>own_kept (FL t h1 h2) gr (hdl i t lti h2 (by omega))),(fun t ht=>own_kept (FM t ht) gr (hdm i t lti ht)),(by obtain ⟨a_,c_,e_⟩:=ownQ_shape own'; exact ⟨a_,_,c_,e_⟩)⟩
   clear FG E a
   refine rv_ 7 (.pointer (some ⟨adB v222,adO v222+i,none⟩)) (fun a E=>execIdxOL FU rfl (E _) (E _) lti) (rs_ 8 (fun a E=>?_))
   obtain ⟨hc_,hf_⟩:=lst_at FU lti
   refine stepS rfl rfl (Cf.execStL rfl (E _) (E _) FSH hc_ hf_) ⟨_,⟨_,rfl,rfl⟩,fun X61 hX=>?_⟩
   obtain ⟨BB,FU2,FL,FM,FU3⟩:Below S.heap.size S X61/\(X61.ownsRow X49.heap.size 24 1 v227 (paN p len) (lL y227 (paN p len)))/\(∀ t,i+1<=t->t < paN p len->X61.ownsRow S.heap.size 5 1 (y222 t) (paL p len t) (bytesL (paL p len t) (paF p len t)))/\(∀ t,t < paN p len->X61.ownsRow X49.heap.size 5 1 (y227 t) (paL p len t) (bytesL (paL p len t) (paF p len t)))/\(X61.ownsRow S.heap.size 24 1 v222 (paN p len) (lL (updX yi i v265) (paN p len))):=by subst hX; exact ⟨(BB).setCell (own_here FU (Nat.lt_of_le_of_lt (Nat.zero_le _) lti)).2.1 _,(lst_offL FU2 (fun b hb=>hUm b hb _ (own_here FU (Nat.lt_of_le_of_lt (Nat.zero_le _) lti)).1)),(fun t h1 h2=>own_offL (FL t h1 h2) FU (Nat.lt_of_le_of_lt (Nat.zero_le _) lti)),(fun t ht=>own_offL (FM t ht) FU (Nat.lt_of_le_of_lt (Nat.zero_le _) lti)),lst_put FU lti⟩
   clear FU hX E a
   refine rf_ [] (h6_ t22 t24 t26 t28 t238 t239) ?_
   rintro a A - ⟨t22,t24,t26,t28,t238,t239,-⟩
   refine wi_ A (h6_ t22 t24 t26 t28 t238 t239) (rv_ 0 (.int .i64 ((i+1:Nat):Int)) (fun a E=>execAd8 (p:=i) (q:=1) rfl (E _) rfl (by omega)) (rf_ [(239,.int .i64 ((i+1:Nat):Int))] (h5_ t22 t24 t26 t28 t238) ?_))
   rintro a A ⟨t239,-⟩ ⟨t22,t24,t26,t28,t238,-⟩
   exact ⟨⟨i+1,updX yi i v265,lti,(fun t h1 h2=>by rw [show updX yi i v265 t=yi t from if_neg (by omega)]; exact hyi t (by omega) h2),A,t22,t24,t26,t28,t238,t239,BB,FU3,FU2,FL,FM⟩,by show paN p len - (intOf (a.eval (.tmp 239))).toNat < paN p len - (intOf (Act.eval _ (.tmp 239))).toNat; rw [t239,esi]; show paN p len - (i+1) < paN p len - i; omega⟩
 ·rw [decide_eq_false lti] at t240
  refine wp_cond_false t240 ?_
  refine wp_exit ?_
  first | with_reducible refine exit_in ?_ | with_reducible refine exit_then (exit_in ?_) | with_reducible refine exit_then (exit_then (exit_in ?_)) | refine exit_in ?_ | refine exit_then (exit_in ?_) | refine exit_then (exit_then (exit_in ?_))
  clear t240 esi
  refine wp_seq ?_
  refine wi_ A (h5_ t22 t24 t26 t28 t238) (rc_ 1 (rpay25 p len v24 XL54 (FRb.on BB) hlen) fun e X63 hh=>?_)
  obtain ⟨⟨v270,y270,he,hk⟩,hb⟩:=hh
  refine ⟨_,he,?_⟩
  have bQ:Below XL54.heap.size XL54 X63:=hb
  have FW:(Ls X63 v270 (paN p len) y270 (paL p len) (paF p len)):=hk
  replace FU:=(ownD_below FU bQ)
  replace FU2:=(ownD_below FU2 bQ)
  replace FL:=((fun t_ h1_ h2_=>ownsRow_below (FL t_ h1_ h2_) bQ))
  replace FM:=((fun t_ h1_=>ownsRow_below (FM t_ h1_) bQ))
  replace BB:=BB.trans (bQ.mono BB.size)
  clear bQ
  refine rf_ [(32,v270),(33,.int .i64 ((paE p len:Nat):Int))] (h3_ t22 t24 t28) ?_
  rintro a A ⟨t32,t33,-⟩ ⟨t22,t24,t28,-⟩
  refine wp_seq ?_
  refine wi_ A (h5_ t22 t24 t28 t32 t33) (rv_ 1 (.bool true) (fun a E=>execDec (execEqN (p:=paE p len) (q:=0) rfl (E _) rfl) (decide_eq_true (by omega))) (rc_ 5 (same25 (paN p len) v227 v270 y227 y270 (paL p len) (paF p len) X63 (ls_fam FU2 ⟨FM,hd2⟩ (pa_byte FR.bytes) (fun t _=>by have:=pa_len p len t; omega)) FW) (cb_ fun X64 bQ=>?_)))
  replace FU:=(ownD_below FU bQ)
  replace FU2:=(ownD_below FU2 bQ)
  replace FL:=((fun t_ h1_ h2_=>ownsRow_below (FL t_ h1_ h2_) bQ))
  replace FM:=((fun t_ h1_=>ownsRow_below (FM t_ h1_) bQ))
  replace FW:=(FW.on bQ)
  replace BB:=BB.trans (bQ.mono BB.size)
  clear bQ
  refine rv_ 9 (.string (strN p len)) (fun a E=>execStr rfl (E _) ((FR.on BB))) (rv_ 11 (.string (strN p len)) (fun a E=>execStr rfl (E _) ((FRb.on BB))) (rv_ 12 (.bool true) (fun a E=>By8.execEqlS rfl (E _) (E _)) (rg_ [(4,.bool true)] ?_)))
  rintro a A ⟨t4,-⟩
  refine wp_ret ?_
  repeat (first | with_reducible refine ret_in ?_ | with_reducible refine ret_then ?_)
  refine bodyPost_ret (results_tmp rfl _ _ _) A.2 ⟨?_,BV.trans (BB.mono BV.size)⟩
  show Ending.returned (a.eval (.tmp 4))=_
  rw [t4]
end Go.Proofs.YtjckkdjldnobmaaGreatDoor.Cas

namespace Go.Proofs.YtjckkdjldnobmaaGreatDoor.Cas
open Go.RowKit Gf8 Aes By8 Cel Cf Tap Drw Dro Oni Rou
/- CascadeMemory: regions 32 to 48. Written by tools/mkC8l.py. -/
set_option maxRecDepth 100000 in
set_option maxHeartbeats 4000000 in
theorem memB {G:World->Prop} (I:ImplM G) (V:World) (hg:∀ W,Below V.heap.size V W->G W) (U S:World) (BV:Below V.heap.size V U) (BU:Below U.heap.size U S) (nx:Nat) (F:Nat->Nat) (v5 v12 v14:Value) (FW:SliceN U v5 nx F) (FX:S.ownsRow U.heap.size 5 1 v12 nx (bytesL nx F)) (FY:S.ownsRow U.heap.size 5 1 v14 nx (bytesL nx F)) (dxy:Dis v12 v14) (hF:∀ j,j < nx->F j < 256) (hnx:nx<=320) (m:Nat) (cv:Value) (xc:Nat->Value) (lc:Nat->Nat) (c:Nat->Nat->Nat) (hC:Frm.Cells V cv m xc lc c) (hm:m<=300)
  (a:Act) (A:a.tmps.size=287/\a.defers=[]) (t1:a.eval (.tmp 1)=cv) (t5:a.eval (.tmp 5)=v5) (t12:a.eval (.tmp 12)=v12) (t14:a.eval (.tmp 14)=v14) :
  (findR 32 (Tryz.f3.body.getD .skip)).wp Tryz.prog (bodyPost Tryz.prog Tryz.f3 fun e w'=>e=.returned (.bool true)/\Below V.heap.size V w') a S:=by
 have BB:=BU
 replace FX:(S.ownsRow U.heap.size 5 1 v12 (nx) (bytesL (nx) (gI 238 0 F))):=own_cg FX (fun l _=>gI_0)
 refine wp_seq (wp_seq ?_)
 refine wi_ A (h4_ t1 t5 t12 t14) (rv_ 1 (.int .i64 ((nx:Nat):Int)) (fun a E=>execLenV (len:=nx) rfl (E _) (ownQ_shape FX)) (rf_ [(184,.int .i64 ((nx:Nat):Int)),(185,.int .i64 ((0:Nat):Int))] (h4_ t1 t5 t12 t14) ?_))
 rintro a A ⟨t184,t185,-⟩ ⟨t1,t5,t12,t14,-⟩
 refine wp_block ?_
 refine wp_loop (fun a W=>∃ (i:Nat),i<=nx/\(a.tmps.size=287/\a.defers=[])/\a.eval (.tmp 1)=cv/\a.eval (.tmp 5)=v5/\a.eval (.tmp 12)=v12/\a.eval (.tmp 14)=v14/\a.eval (.tmp 184)=.int .i64 ((nx:Nat):Int)/\a.eval (.tmp 185)=.int .i64 ((i:Nat):Int)/\Below U.heap.size U W/\(W.ownsRow U.heap.size 5 1 v12 (nx) (bytesL (nx) (gI 238 i F)))/\(W.ownsRow U.heap.size 5 1 v14 nx (bytesL nx F))) (fun a _=>nx - (intOf (a.eval (.tmp 185))).toNat) ⟨0,Nat.zero_le _,A,t1,t5,t12,t14,t184,t185,BB,FX,FY⟩ ?_
 rintro a XL33 ⟨i,hi,A,t1,t5,t12,t14,t184,t185,BB,FX,FY⟩
 have esi:=t185
 refine wp_seq ?_
 refine wi_ A (h6_ t1 t5 t12 t14 t184 t185) (rv_ 0 (.bool (decide (i < nx))) (fun a E=>execLtW (p:=i) (q:=nx) rfl (E _) (E _)) (rf_ [(186,.bool (decide (i < nx)))] (h6_ t1 t5 t12 t14 t184 t185) ?_))
 rintro a A ⟨t186,-⟩ ⟨t1,t5,t12,t14,t184,t185,-⟩
 refine wp_seq ?_
 by_cases lti:i < nx
 ·rw [decide_eq_true lti] at t186
  refine wp_cond_true t186 (wp_skip ?_)
  clear t186
  refine wp_seq (wp_block ?_)
  have hp0:0 < nx:=Nat.lt_of_le_of_lt (Nat.zero_le _) lti
  have hge:=(own_here FX hp0).2.1
  refine wp_seq ?_
  refine wi_ A (h6_ t1 t5 t12 t14 t184 t185) (rf_ [(19,.int .i64 ((i:Nat):Int))] (h6_ t1 t5 t12 t14 t184 t185) ?_)
  rintro a A ⟨t19,-⟩ ⟨t1,t5,t12,t14,t184,t185,-⟩
  refine wi_ A (h7_ t1 t5 t12 t14 t184 t185 t19) (rv_ 2 (.pointer (some ⟨adB v12,adO v12+i,none⟩)) (fun a E=>execIdxOB FX rfl (E _) (E _) lti) (rs_ 3 (fun a E=>?_)))
  obtain ⟨hc_,hf_⟩:=own_atV FX lti
  refine stepS rfl rfl (execStB (v:=((238:Nat):Int)) rfl (E _) rfl hc_ hf_) ⟨_,⟨_,rfl,rfl⟩,fun X35 hX=>?_⟩
  obtain ⟨BB,FY,FX2⟩:Below U.heap.size U X35/\(X35.ownsRow U.heap.size 5 1 v14 nx (bytesL nx F))/\(X35.ownsRow U.heap.size 5 1 v12 (nx) (bytesL (nx) (gI 238 (i+1) F))):=by subst hX; exact ⟨(BB).setCell hge _,own_offV FY FX hp0 dxy,own_cg (own_putV FX lti _) (fun l _=>gI_set)⟩
  clear FX hX E a
  refine rf_ [] (h6_ t1 t5 t12 t14 t184 t185) ?_
  rintro a A - ⟨t1,t5,t12,t14,t184,t185,-⟩
  refine wi_ A (h6_ t1 t5 t12 t14 t184 t185) (rv_ 0 (.int .i64 ((i+1:Nat):Int)) (fun a E=>execAd8 (p:=i) (q:=1) rfl (E _) rfl (by omega)) (rf_ [(185,.int .i64 ((i+1:Nat):Int))] (h5_ t1 t5 t12 t14 t184) ?_))
  rintro a A ⟨t185,-⟩ ⟨t1,t5,t12,t14,t184,-⟩
  exact ⟨⟨i+1,lti,A,t1,t5,t12,t14,t184,t185,BB,FX2,FY⟩,by show nx - (intOf (a.eval (.tmp 185))).toNat < nx - (intOf (Act.eval _ (.tmp 185))).toNat; rw [t185,esi]; show nx - (i+1) < nx - i; omega⟩
 ·rw [decide_eq_false lti] at t186
  refine wp_cond_false t186 ?_
  refine wp_exit ?_
  first | with_reducible refine exit_in ?_ | with_reducible refine exit_then (exit_in ?_) | with_reducible refine exit_then (exit_then (exit_in ?_)) | refine exit_in ?_ | refine exit_then (exit_in ?_) | refine exit_then (exit_then (exit_in ?_))
  clear t186 esi
  refine wp_seq ?_
  refine wi_ A (h6_ t1 t5 t12 t14 t184 t185) (rs_ 1 (fun a E=>?_))
  refine stepAppMk (m:=64) (p:=(fun l=>if l < nx then gI 238 i F l else 0)) rfl rfl rfl (E _) rfl (own_cg FX (fun l hl=>(if_pos hl).symm)) (fun j _=>if_neg (by omega)) (by omega) (by omega) (by omega) (BB).size fun v193 X37 own' gr pl=>⟨_,⟨_,rfl,rfl⟩,eqw ?_⟩
  obtain ⟨BB,FY,FZ,FD⟩:Below U.heap.size U X37/\(X37.ownsRow U.heap.size 5 1 v14 nx (bytesL nx F))/\(X37.ownsRow U.heap.size 5 1 v193 (nx+64) (bytesL (nx+64) (gI 221 0 (fun l=>if l < nx then gI 238 i F l else 0))))/\(Dis v193 v14):=⟨(BB).grown gr (BB).size (fun k hk=>(FX.lt k hk).1),own_kept FY gr dxy,own_cg own' (fun l _=>gI_0 (z:=221) (f:=(fun l=>if l < nx then gI 238 i F l else 0))),dis_mk dxy FY pl⟩
  clear FX E a
  refine rf_ [(20,v193)] (h3_ t1 t5 t14) ?_
  rintro a A ⟨t20,-⟩ ⟨t1,t5,t14,-⟩
  refine wp_seq (wp_seq ?_)
  refine wi_ A (h4_ t1 t5 t14 t20) (rv_ 1 (.int .i64 ((nx+64:Nat):Int)) (fun a E=>execLenV (len:=nx+64) rfl (E _) (ownQ_shape FZ)) (rf_ [(195,.int .i64 ((nx+64:Nat):Int)),(196,.int .i64 ((0:Nat):Int))] (h4_ t1 t5 t14 t20) ?_))
  rintro a A ⟨t195,t196,-⟩ ⟨t1,t5,t14,t20,-⟩
  revert FZ
  generalize (fun l=>if l < nx then gI 238 i F l else 0)=P
  intro FZ
  refine wp_block ?_
  refine wp_loop (fun a W=>∃ (i:Nat),i<=nx+64/\(a.tmps.size=287/\a.defers=[])/\a.eval (.tmp 1)=cv/\a.eval (.tmp 5)=v5/\a.eval (.tmp 14)=v14/\a.eval (.tmp 20)=v193/\a.eval (.tmp 195)=.int .i64 ((nx+64:Nat):Int)/\a.eval (.tmp 196)=.int .i64 ((i:Nat):Int)/\Below U.heap.size U W/\(W.ownsRow U.heap.size 5 1 v193 (nx+64) (bytesL (nx+64) (gI 221 i P)))/\(W.ownsRow U.heap.size 5 1 v14 nx (bytesL nx F))) (fun a _=>nx+64 - (intOf (a.eval (.tmp 196))).toNat) ⟨0,Nat.zero_le _,A,t1,t5,t14,t20,t195,t196,BB,FZ,FY⟩ ?_
  rintro a XL39 ⟨i,hi,A,t1,t5,t14,t20,t195,t196,BB,FZ,FY⟩
  have esi:=t196
  refine wp_seq ?_
  refine wi_ A (h6_ t1 t5 t14 t20 t195 t196) (rv_ 0 (.bool (decide (i < nx+64))) (fun a E=>execLtW (p:=i) (q:=nx+64) rfl (E _) (E _)) (rf_ [(197,.bool (decide (i < nx+64)))] (h6_ t1 t5 t14 t20 t195 t196) ?_))
  rintro a A ⟨t197,-⟩ ⟨t1,t5,t14,t20,t195,t196,-⟩
  refine wp_seq ?_
  by_cases lti:i < nx+64
  ·rw [decide_eq_true lti] at t197
   refine wp_cond_true t197 (wp_skip ?_)
   clear t197
   refine wp_seq (wp_block ?_)
   have hp0:0 < nx+64:=Nat.lt_of_le_of_lt (Nat.zero_le _) lti
   have hge:=(own_here FZ hp0).2.1
   refine wp_seq ?_
   refine wi_ A (h6_ t1 t5 t14 t20 t195 t196) (rf_ [(21,.int .i64 ((i:Nat):Int))] (h6_ t1 t5 t14 t20 t195 t196) ?_)
   rintro a A ⟨t21,-⟩ ⟨t1,t5,t14,t20,t195,t196,-⟩
   refine wi_ A (h7_ t1 t5 t14 t20 t195 t196 t21) (rv_ 2 (.pointer (some ⟨adB v193,adO v193+i,none⟩)) (fun a E=>execIdxOB FZ rfl (E _) (E _) lti) (rs_ 3 (fun a E=>?_)))
   obtain ⟨hc_,hf_⟩:=own_atV FZ lti
   refine stepS rfl rfl (execStB (v:=((221:Nat):Int)) rfl (E _) rfl hc_ hf_) ⟨_,⟨_,rfl,rfl⟩,fun X41 hX=>?_⟩
   obtain ⟨BB,FY,FZ2⟩:Below U.heap.size U X41/\(X41.ownsRow U.heap.size 5 1 v14 nx (bytesL nx F))/\(X41.ownsRow U.heap.size 5 1 v193 (nx+64) (bytesL (nx+64) (gI 221 (i+1) P))):=by subst hX; exact ⟨(BB).setCell hge _,own_offV FY FZ hp0 FD,own_cg (own_putV FZ lti _) (fun l _=>gI_set)⟩
   clear FZ hX E a
   refine rf_ [] (h6_ t1 t5 t14 t20 t195 t196) ?_
   rintro a A - ⟨t1,t5,t14,t20,t195,t196,-⟩
   refine wi_ A (h6_ t1 t5 t14 t20 t195 t196) (rv_ 0 (.int .i64 ((i+1:Nat):Int)) (fun a E=>execAd8 (p:=i) (q:=1) rfl (E _) rfl (by omega)) (rf_ [(196,.int .i64 ((i+1:Nat):Int))] (h5_ t1 t5 t14 t20 t195) ?_))
   rintro a A ⟨t196,-⟩ ⟨t1,t5,t14,t20,t195,-⟩
   exact ⟨⟨i+1,lti,A,t1,t5,t14,t20,t195,t196,BB,FZ2,FY⟩,by show nx+64 - (intOf (a.eval (.tmp 196))).toNat < nx+64 - (intOf (Act.eval _ (.tmp 196))).toNat; rw [t196,esi]; show nx+64 - (i+1) < nx+64 - i; omega⟩
  ·rw [decide_eq_false lti] at t197
   refine wp_cond_false t197 ?_
   refine wp_exit ?_
   first | with_reducible refine exit_in ?_ | with_reducible refine exit_then (exit_in ?_) | with_reducible refine exit_then (exit_then (exit_in ?_)) | refine exit_in ?_ | refine exit_then (exit_in ?_) | refine exit_then (exit_then (exit_in ?_))
   clear t197 esi
   refine wp_seq (wp_seq ?_)
   refine wi_ A (h6_ t1 t5 t14 t20 t195 t196) (rv_ 1 (.string (strN F nx)) (fun a E=>execStr rfl (E _) ((own_slice FY hF))) (rv_ 3 (.string (strN F nx)) (fun a E=>execStr rfl (E _) ((FW.on BB))) (rv_ 4 (.bool false) (fun a E=>By8.execNeqS rfl (E _) (E _)) (rf_ [(207,.bool false)] (h1_ t1) ?_))))
   rintro a A ⟨t207,-⟩ ⟨t1,-⟩
   refine wp_cond_false t207 (wp_skip ?_)
   clear t207
   clear FZ FY
   refine wp_seq ?_
   refine wi_ A (h1_ t1) (rc_ 1 (I.entry ((1:Nat):Int) ((1:Nat):Int) ((0:Nat):Int) m cv xc lc c XL39 (hg XL39 (BV.trans ((BB).mono BV.size))) (hC.on (BV.trans ((BB).mono BV.size))) (by omega)) fun e X45 hh=>?_)
   obtain ⟨⟨v210,he,hk⟩,hb⟩:=hh
   refine ⟨_,he,?_⟩
   have bQ:Below XL39.heap.size XL39 X45:=hb
   have FA:(X45.ownsRow U.heap.size 5 1 v210 (Frm.packN ((1:Nat):Int) ((1:Nat):Int) ((0:Nat):Int) m lc) (bytesL (Frm.packN ((1:Nat):Int) ((1:Nat):Int) ((0:Nat):Int) m lc) (Frm.packI ((1:Nat):Int) ((1:Nat):Int) ((0:Nat):Int) m c))):=own_base hk (BB).size
   replace BB:=BB.trans (bQ.mono BB.size)
   clear bQ
   refine rf_ [(22,v210),(23,.int .i64 ((Frm.packE ((1:Nat):Int) ((1:Nat):Int) ((0:Nat):Int) m lc:Nat):Int))] (h1_ t1) ?_
   rintro a A ⟨t22,t23,-⟩ ⟨t1,-⟩
   refine wp_seq ?_
   refine wi_ A (h3_ t1 t22 t23) (rc_ 1 (I.entry ((1:Nat):Int) ((1:Nat):Int) ((0:Nat):Int) m cv xc lc c X45 (hg X45 (BV.trans ((BB).mono BV.size))) (hC.on (BV.trans ((BB).mono BV.size))) (by omega)) fun e X46 hh=>?_)
   obtain ⟨⟨v215,he,hk⟩,hb⟩:=hh
   refine ⟨_,he,?_⟩
   have bQ:Below X45.heap.size X45 X46:=hb
   have FB:(X46.ownsRow U.heap.size 5 1 v215 (Frm.packN ((1:Nat):Int) ((1:Nat):Int) ((0:Nat):Int) m lc) (bytesL (Frm.packN ((1:Nat):Int) ((1:Nat):Int) ((0:Nat):Int) m lc) (Frm.packI ((1:Nat):Int) ((1:Nat):Int) ((0:Nat):Int) m c))):=own_base hk (BB).size
   replace FA:=(ownsRow_below FA bQ)
   replace BB:=BB.trans (bQ.mono BB.size)
   clear bQ
   refine rf_ [(24,v215)] (h2_ t22 t23) ?_
   rintro a A ⟨t24,-⟩ ⟨t22,t23,-⟩
   refine wp_seq (wp_seq ?_)
   by_cases hE:¬ Frm.packE ((1:Nat):Int) ((1:Nat):Int) ((0:Nat):Int) m lc=0
   ·refine wi_ A (h3_ t22 t23 t24) (rv_ 1 (.bool true) (fun a E=>execDec (execNeE (p:=Frm.packE ((1:Nat):Int) ((1:Nat):Int) ((0:Nat):Int) m lc) (q:=0) rfl (E _) rfl) (decide_eq_true (by omega))) (rg_ [(219,.bool true)] ?_))
    rintro a A ⟨t219,-⟩
    refine wp_cond_true t219 ?_
    clear t219
    refine wp_seq ?_
    refine wi_ A h0_ (rg_ [(4,.bool true)] ?_)
    rintro a A ⟨t4,-⟩
    refine wp_ret ?_
    repeat (first | with_reducible refine ret_in ?_ | with_reducible refine ret_then ?_)
    refine bodyPost_ret (results_tmp rfl _ _ _) A.2 ⟨?_,BV.trans (BB.mono BV.size)⟩
    show Ending.returned (a.eval (.tmp 4))=_
    rw [t4]
   refine wi_ A (h3_ t22 t23 t24) (rv_ 1 (.bool false) (fun a E=>execDec (execNeE (p:=Frm.packE ((1:Nat):Int) ((1:Nat):Int) ((0:Nat):Int) m lc) (q:=0) rfl (E _) rfl) (decide_eq_false (by omega))) (rf_ [(219,.bool false)] (h2_ t22 t24) ?_))
   rintro a A ⟨t219,-⟩ ⟨t22,t24,-⟩
   refine wp_cond_false t219 (wp_skip ?_)
   clear t219
   have hpb:∀ j,j < Frm.packN ((1:Nat):Int) ((1:Nat):Int) ((0:Nat):Int) m lc->Frm.packI ((1:Nat):Int) ((1:Nat):Int) ((0:Nat):Int) m c j < 256:=Frm.pack_lt (fun i j hi hj=>(hC.cell i hi).bytes j hj)
   exact memC I V hg X46 (BV.trans (BB.mono BV.size)) _ _ v210 v215 (own_slice FA hpb) (own_slice FB hpb) (pk_le _ _ _ _ _) a A t22 t24
end Go.Proofs.YtjckkdjldnobmaaGreatDoor.Cas

namespace Go.Proofs.YtjckkdjldnobmaaGreatDoor.Cas
open Go.RowKit Gf8 Aes By8 Cel Cf Tap Drw Dro Oni Rou
/- CascadeMemory. Written by tools/mkC8m.py. -/
set_option maxRecDepth 100000 in
set_option maxHeartbeats 4000000 in
theorem memory25 {G:World->Prop} (I:ImplM G) (h hn n:Nat) (ep:Int) (mv nv pv:Value) (xv:Nat->Value) (lk:Nat->Nat) (mk q:Nat->Nat->Nat) (p:Nat->Nat) (V:World) (hg:∀ W,Below V.heap.size V W->G W) (hL:Ls V mv h xv lk mk) (hq:Nons V nv hn q) (hp:SliceZ V pv n p) (m:Nat) (cv:Value) (xc:Nat->Value) (lc:Nat->Nat) (c:Nat->Nat->Nat) (hC:Frm.Cells V cv m xc lc c) :
  Calls Tryz.prog 3 #[.agg #[mv,.int .i64 ep,nv,pv],cv] V fun e w'=>e=.returned (.bool true)/\Below V.heap.size V w':=by
 go_enter Tryz.func3,Tryz.ntmps3
 refine wo_ 287 [(0,.agg #[mv,.int .i64 ep,nv,pv]),(1,cv)] ?_
 rintro a A ⟨t0,t1,-⟩
 have BW:Below V.heap.size V V:=Below.refl _ _
 have BB:=BW
 have hcl:Ls V cv m xc lc c:=⟨hC.shape,hC.cell,hC.nil,hC.lens⟩
 refine wp_seq ?_
 obtain ⟨g2,egg2⟩:∃ z_:Nat,V.heap.size=z_:=⟨_,rfl⟩
 refine wi_ A (h2_ t0 t1) (rs_ 0 (fun a E=>?_))
 refine stepV rfl rfl (execBxCl rfl (E _)) ⟨.pointer (some ⟨g2,0,none⟩),⟨_,rfl,by subst egg2; rfl⟩,fun X0 hX=>?_⟩
 have bQ:Below V.heap.size V X0:=by subst hX egg2; exact (belNew V _)
 have Fg2:(X0.heap[g2]?=some (.cells #[mv,.int .i64 ep,nv,pv] 26)):=by subst hX egg2; exact heapNew V _
 replace BB:=BB.trans (bQ.mono BB.size)
 clear bQ hX egg2 E a
 refine rf_ [(2,.pointer (some ⟨g2,0,none⟩))] (h1_ t1) ?_
 rintro a A ⟨t2,-⟩ ⟨t1,-⟩
 refine wp_seq (wp_seq ?_)
 refine wi_ A (h2_ t1 t2) (rc_ 0 (awake25 I.toAw X0 (fun W h=>hg W ((BB).trans (h.mono (BB).size)))) (cb_ fun X1 bQ=>?_))
 replace Fg2:=(on9 Fg2 bQ)
 replace BB:=BB.trans (bQ.mono BB.size)
 clear bQ
 refine rv_ 1 (.bool false) (fun a E=>execNot8 (b:=true) rfl (E _)) (rf_ [(35,.bool false)] (h2_ t1 t2) ?_)
 rintro a A ⟨t35,-⟩ ⟨t1,t2,-⟩
 refine wp_cond_false t35 (wp_skip ?_)
 clear t35
 refine wp_seq (wp_seq ?_)
 by_cases gh_:100 < h
 ·refine wi_ A (h2_ t1 t2) (rv_ 0 (.pointer (some ⟨g2,0,none⟩)) (fun a E=>execFdCl (k:=0) rfl (E _) (by decide)) (rv_ 1 (mv) (fun a E=>execLdCl rfl (Or.inr (Or.inl rfl)) (E _) (at_cl Fg2 rfl)) (rv_ 2 (.int .i64 ((h:Nat):Int)) (fun a E=>execLenLL rfl (E _) (hL.on BB).shp) (rv_ 3 (.bool true) (fun a E=>execDec (execGtN (p:=h) (q:=100) rfl (E _) rfl) (decide_eq_true (by omega))) (rg_ [(56,.bool true)] ?_)))))
  rintro a A ⟨t56,-⟩
  refine wp_cond_true t56 ?_
  clear t56
  refine wp_seq ?_
  refine wi_ A h0_ (rg_ [(4,.bool true)] ?_)
  rintro a A ⟨t4,-⟩
  refine wp_ret ?_
  repeat (first | with_reducible refine ret_in ?_ | with_reducible refine ret_then ?_)
  refine bodyPost_ret (results_tmp rfl _ _ _) A.2 ⟨?_,BB⟩
  show Ending.returned (a.eval (.tmp 4))=_
  rw [t4]
 by_cases ghn_:100 < hn
 ·refine wi_ A (h2_ t1 t2) (rv_ 0 (.pointer (some ⟨g2,0,none⟩)) (fun a E=>execFdCl (k:=0) rfl (E _) (by decide)) (rv_ 1 (mv) (fun a E=>execLdCl rfl (Or.inr (Or.inl rfl)) (E _) (at_cl Fg2 rfl)) (rv_ 2 (.int .i64 ((h:Nat):Int)) (fun a E=>execLenLL rfl (E _) (hL.on BB).shp) (rv_ 3 (.bool false) (fun a E=>execDec (execGtN (p:=h) (q:=100) rfl (E _) rfl) (decide_eq_false (by omega))) (rv_ 5 (.pointer (some ⟨g2,2,none⟩)) (fun a E=>execFdCl (k:=2) rfl (E _) (by decide)) (rv_ 6 (nv) (fun a E=>execLdCl rfl (Or.inr (Or.inr (Or.inl rfl))) (E _) (at_cl Fg2 rfl)) (rv_ 7 (.int .i64 ((hn:Nat):Int)) (fun a E=>execLenNs (hq.on BB) rfl (E _)) (rv_ 8 (.bool true) (fun a E=>execDec (execGtN (p:=hn) (q:=100) rfl (E _) rfl) (decide_eq_true (by omega))) (rg_ [(56,.bool true)] ?_)))))))))
  rintro a A ⟨t56,-⟩
  refine wp_cond_true t56 ?_
  clear t56
  refine wp_seq ?_
  refine wi_ A h0_ (rg_ [(4,.bool true)] ?_)
  rintro a A ⟨t4,-⟩
  refine wp_ret ?_
  repeat (first | with_reducible refine ret_in ?_ | with_reducible refine ret_then ?_)
  refine bodyPost_ret (results_tmp rfl _ _ _) A.2 ⟨?_,BB⟩
  show Ending.returned (a.eval (.tmp 4))=_
  rw [t4]
 by_cases gm_:300 < m
 ·refine wi_ A (h2_ t1 t2) (rv_ 0 (.pointer (some ⟨g2,0,none⟩)) (fun a E=>execFdCl (k:=0) rfl (E _) (by decide)) (rv_ 1 (mv) (fun a E=>execLdCl rfl (Or.inr (Or.inl rfl)) (E _) (at_cl Fg2 rfl)) (rv_ 2 (.int .i64 ((h:Nat):Int)) (fun a E=>execLenLL rfl (E _) (hL.on BB).shp) (rv_ 3 (.bool false) (fun a E=>execDec (execGtN (p:=h) (q:=100) rfl (E _) rfl) (decide_eq_false (by omega))) (rv_ 5 (.pointer (some ⟨g2,2,none⟩)) (fun a E=>execFdCl (k:=2) rfl (E _) (by decide)) (rv_ 6 (nv) (fun a E=>execLdCl rfl (Or.inr (Or.inr (Or.inl rfl))) (E _) (at_cl Fg2 rfl)) (rv_ 7 (.int .i64 ((hn:Nat):Int)) (fun a E=>execLenNs (hq.on BB) rfl (E _)) (rv_ 8 (.bool false) (fun a E=>execDec (execGtN (p:=hn) (q:=100) rfl (E _) rfl) (decide_eq_false (by omega))) (rv_ 12 (.int .i64 ((m:Nat):Int)) (fun a E=>execLenLL rfl (E _) (hcl.on BB).shp) (rv_ 13 (.bool true) (fun a E=>execDec (execGtN (p:=m) (q:=300) rfl (E _) rfl) (decide_eq_true (by omega))) (rg_ [(56,.bool true)] ?_)))))))))))
  rintro a A ⟨t56,-⟩
  refine wp_cond_true t56 ?_
  clear t56
  refine wp_seq ?_
  refine wi_ A h0_ (rg_ [(4,.bool true)] ?_)
  rintro a A ⟨t4,-⟩
  refine wp_ret ?_
  repeat (first | with_reducible refine ret_in ?_ | with_reducible refine ret_then ?_)
  refine bodyPost_ret (results_tmp rfl _ _ _) A.2 ⟨?_,BB⟩
  show Ending.returned (a.eval (.tmp 4))=_
  rw [t4]
 by_cases gn_:10000 < n
 ·refine wi_ A (h2_ t1 t2) (rv_ 0 (.pointer (some ⟨g2,0,none⟩)) (fun a E=>execFdCl (k:=0) rfl (E _) (by decide)) (rv_ 1 (mv) (fun a E=>execLdCl rfl (Or.inr (Or.inl rfl)) (E _) (at_cl Fg2 rfl)) (rv_ 2 (.int .i64 ((h:Nat):Int)) (fun a E=>execLenLL rfl (E _) (hL.on BB).shp) (rv_ 3 (.bool false) (fun a E=>execDec (execGtN (p:=h) (q:=100) rfl (E _) rfl) (decide_eq_false (by omega))) (rv_ 5 (.pointer (some ⟨g2,2,none⟩)) (fun a E=>execFdCl (k:=2) rfl (E _) (by decide)) (rv_ 6 (nv) (fun a E=>execLdCl rfl (Or.inr (Or.inr (Or.inl rfl))) (E _) (at_cl Fg2 rfl)) (rv_ 7 (.int .i64 ((hn:Nat):Int)) (fun a E=>execLenNs (hq.on BB) rfl (E _)) (rv_ 8 (.bool false) (fun a E=>execDec (execGtN (p:=hn) (q:=100) rfl (E _) rfl) (decide_eq_false (by omega))) (rv_ 12 (.int .i64 ((m:Nat):Int)) (fun a E=>execLenLL rfl (E _) (hcl.on BB).shp) (rv_ 13 (.bool false) (fun a E=>execDec (execGtN (p:=m) (q:=300) rfl (E _) rfl) (decide_eq_false (by omega))) (rv_ 16 (.pointer (some ⟨g2,3,none⟩)) (fun a E=>execFdCl (k:=3) rfl (E _) (by decide)) (rv_ 17 (pv) (fun a E=>execLdCl rfl (Or.inr (Or.inr (Or.inr rfl))) (E _) (at_cl Fg2 rfl)) (rv_ 18 (.int .i64 ((n:Nat):Int)) (fun a E=>execLenV (len:=n) rfl (E _) (shp ((hp.sl.on BB)))) (rv_ 19 (.bool true) (fun a E=>execDec (execGtN (p:=n) (q:=10000) rfl (E _) rfl) (decide_eq_true (by omega))) (rg_ [(56,.bool true)] ?_)))))))))))))))
  rintro a A ⟨t56,-⟩
  refine wp_cond_true t56 ?_
  clear t56
  refine wp_seq ?_
  refine wi_ A h0_ (rg_ [(4,.bool true)] ?_)
  rintro a A ⟨t4,-⟩
  refine wp_ret ?_
  repeat (first | with_reducible refine ret_in ?_ | with_reducible refine ret_then ?_)
  refine bodyPost_ret (results_tmp rfl _ _ _) A.2 ⟨?_,BB⟩
  show Ending.returned (a.eval (.tmp 4))=_
  rw [t4]
 refine wi_ A (h2_ t1 t2) (rv_ 0 (.pointer (some ⟨g2,0,none⟩)) (fun a E=>execFdCl (k:=0) rfl (E _) (by decide)) (rv_ 1 (mv) (fun a E=>execLdCl rfl (Or.inr (Or.inl rfl)) (E _) (at_cl Fg2 rfl)) (rv_ 2 (.int .i64 ((h:Nat):Int)) (fun a E=>execLenLL rfl (E _) (hL.on BB).shp) (rv_ 3 (.bool false) (fun a E=>execDec (execGtN (p:=h) (q:=100) rfl (E _) rfl) (decide_eq_false (by omega))) (rv_ 5 (.pointer (some ⟨g2,2,none⟩)) (fun a E=>execFdCl (k:=2) rfl (E _) (by decide)) (rv_ 6 (nv) (fun a E=>execLdCl rfl (Or.inr (Or.inr (Or.inl rfl))) (E _) (at_cl Fg2 rfl)) (rv_ 7 (.int .i64 ((hn:Nat):Int)) (fun a E=>execLenNs (hq.on BB) rfl (E _)) (rv_ 8 (.bool false) (fun a E=>execDec (execGtN (p:=hn) (q:=100) rfl (E _) rfl) (decide_eq_false (by omega))) (rv_ 12 (.int .i64 ((m:Nat):Int)) (fun a E=>execLenLL rfl (E _) (hcl.on BB).shp) (rv_ 13 (.bool false) (fun a E=>execDec (execGtN (p:=m) (q:=300) rfl (E _) rfl) (decide_eq_false (by omega))) (rv_ 16 (.pointer (some ⟨g2,3,none⟩)) (fun a E=>execFdCl (k:=3) rfl (E _) (by decide)) (rv_ 17 (pv) (fun a E=>execLdCl rfl (Or.inr (Or.inr (Or.inr rfl))) (E _) (at_cl Fg2 rfl)) (rv_ 18 (.int .i64 ((n:Nat):Int)) (fun a E=>execLenV (len:=n) rfl (E _) (shp ((hp.sl.on BB)))) (rv_ 19 (.bool false) (fun a E=>execDec (execGtN (p:=n) (q:=10000) rfl (E _) rfl) (decide_eq_false (by omega))) (rf_ [(56,.bool false)] (h2_ t1 t2) ?_)))))))))))))))
 rintro a A ⟨t56,-⟩ ⟨t1,t2,-⟩
 refine wp_cond_false t56 (wp_skip ?_)
 clear t56
 refine wp_seq ?_
 refine wi_ A (h2_ t1 t2) (rv_ 0 (.pointer (some ⟨g2,0,none⟩)) (fun a E=>execFdCl (k:=0) rfl (E _) (by decide)) (rv_ 1 (mv) (fun a E=>execLdCl rfl (Or.inr (Or.inl rfl)) (E _) (at_cl Fg2 rfl)) (rv_ 2 (.pointer (some ⟨g2,1,none⟩)) (fun a E=>execFdCl (k:=1) rfl (E _) (by decide)) (rv_ 3 (.int .i64 ep) (fun a E=>execLdCl rfl (Or.inl rfl) (E _) (at_cl Fg2 rfl)) (rv_ 4 (.pointer (some ⟨g2,2,none⟩)) (fun a E=>execFdCl (k:=2) rfl (E _) (by decide)) (rv_ 5 (nv) (fun a E=>execLdCl rfl (Or.inr (Or.inr (Or.inl rfl))) (E _) (at_cl Fg2 rfl)) (rv_ 6 (.pointer (some ⟨g2,3,none⟩)) (fun a E=>execFdCl (k:=3) rfl (E _) (by decide)) (rv_ 7 (pv) (fun a E=>execLdCl rfl (Or.inr (Or.inr (Or.inr rfl))) (E _) (at_cl Fg2 rfl)) (rc_ 8 (rsuS h hn n ep mv nv pv xv lk mk q p X1 (hL.on BB) (hq.on BB) (hp.on BB) (by omega) (by omega) (by omega)) fun e X5 hh=>?_)))))))))
 obtain ⟨v66,he,hk,hb⟩:=hh
 refine ⟨_,he,?_⟩
 have bQ:Below X1.heap.size X1 X5:=hb
 have FW:(SliceN X5 v66 (suN h hn lk ep n) (suF h mk ep q n p)):=hk
 replace Fg2:=(on9 Fg2 bQ)
 replace BB:=BB.trans (bQ.mono BB.size)
 clear bQ
 refine rf_ [(5,v66),(6,.int .i64 ((suE h hn lk ep n:Nat):Int))] (h2_ t1 t2) ?_
 rintro a A ⟨t5,t6,-⟩ ⟨t1,t2,-⟩
 replace BW:=BW.trans (BB.mono BW.size)
 clear BB
 have BB:Below X5.heap.size X5 X5:=Below.refl _ _
 replace hL:=hL.on BW
 replace hq:=hq.on BW
 replace hp:=hp.on BW
 clear hcl
 refine wp_seq ?_
 refine wi_ A (h4_ t1 t2 t5 t6) (rf_ [(7,.slice none 0 0)] (h4_ t1 t2 t5 t6) ?_)
 rintro a A ⟨t7,-⟩ ⟨t1,t2,t5,t6,-⟩
 refine wp_seq (wp_seq ?_)
 refine wi_ A (h5_ t1 t2 t5 t6 t7) (rv_ 0 (.pointer (some ⟨g2,0,none⟩)) (fun a E=>execFdCl (k:=0) rfl (E _) (by decide)) (rv_ 1 (mv) (fun a E=>execLdCl rfl (Or.inr (Or.inl rfl)) (E _) (at_cl (on9 Fg2 BB) rfl)) (rv_ 2 (.int .i64 ((h:Nat):Int)) (fun a E=>execLenLL rfl (E _) (hL.on BB).shp) (rf_ [(70,mv),(71,.int .i64 ((h:Nat):Int)),(72,.int .i64 ((0:Nat):Int))] (h5_ t1 t2 t5 t6 t7) ?_))))
 rintro a A ⟨t70,t71,t72,-⟩ ⟨t1,t2,t5,t6,t7,-⟩
 have FU:(X5.ownsRow X5.heap.size 24 1 (.slice none 0 0) (0) (lL (fun _=>undef) (0))):=World.ownsRow_nil _ _ _ _
 have FK:(Cps X5 (0) (fun _=>undef) lk mk):=Cps.zero _ _ _ _
 refine wp_block ?_
 refine wp_loop (fun a W=>∃ (i:Nat) (u:Value) (y:Nat->Value),i<=h/\(∀ t,t < i->lk t<=10000)/\(a.tmps.size=287/\a.defers=[])/\a.eval (.tmp 1)=cv/\a.eval (.tmp 2)=.pointer (some ⟨g2,0,none⟩)/\a.eval (.tmp 5)=v66/\a.eval (.tmp 6)=.int .i64 ((suE h hn lk ep n:Nat):Int)/\a.eval (.tmp 7)=u/\a.eval (.tmp 70)=mv/\a.eval (.tmp 71)=.int .i64 ((h:Nat):Int)/\a.eval (.tmp 72)=.int .i64 ((i:Nat):Int)/\Below X5.heap.size X5 W/\(W.ownsRow X5.heap.size 24 1 u (i) (lL y (i)))/\(Cps W (i) y lk mk)) (fun a _=>h - (intOf (a.eval (.tmp 72))).toNat) ⟨0,.slice none 0 0,fun _=>undef,Nat.zero_le _,(fun t ht=>absurd ht (Nat.not_lt_zero t)),A,t1,t2,t5,t6,t7,t70,t71,t72,BB,FU,FK⟩ ?_
 rintro a XL8 ⟨i,u,y,hi,hlk,A,t1,t2,t5,t6,t7,t70,t71,t72,BB,FU,FK⟩
 have esi:=t72
 refine wp_seq ?_
 refine wi_ A (h8_ t1 t2 t5 t6 t7 t70 t71 t72) (rv_ 0 (.bool (decide (i < h))) (fun a E=>execLtW (p:=i) (q:=h) rfl (E _) (E _)) (rf_ [(73,.bool (decide (i < h)))] (h8_ t1 t2 t5 t6 t7 t70 t71 t72) ?_))
 rintro a A ⟨t73,-⟩ ⟨t1,t2,t5,t6,t7,t70,t71,t72,-⟩
 refine wp_seq ?_
 by_cases lti:i < h
 ·rw [decide_eq_true lti] at t73
  refine wp_cond_true t73 (wp_skip ?_)
  clear t73
  refine wp_seq (wp_block ?_)
  refine wp_seq ?_
  refine wi_ A (h8_ t1 t2 t5 t6 t7 t70 t71 t72) (rv_ 0 (.pointer (some ⟨adB mv,adO mv+i,none⟩)) (fun a E=>execIdxLs (k:=i) (hL.on BB) rfl (E _) (E _) lti) (rv_ 1 (xv i) (fun a E=>execLdLs (k:=i) (hL.on BB) rfl (E _) lti) (rf_ [(9,xv i)] (h8_ t1 t2 t5 t6 t7 t70 t71 t72) ?_)))
  rintro a A ⟨t9,-⟩ ⟨t1,t2,t5,t6,t7,t70,t71,t72,-⟩
  refine wp_seq (wp_seq ?_)
  by_cases gk_:10000 < lk i
  ·refine wi_ A (h9_ t1 t2 t5 t6 t7 t70 t71 t72 t9) (rv_ 1 (.int .i64 ((lk i:Nat):Int)) (fun a E=>execLenV (len:=lk i) rfl (E _) (shp (((hL.on BB).cell i lti)))) (rv_ 2 (.bool true) (fun a E=>execDec (execGtN (p:=lk i) (q:=10000) rfl (E _) rfl) (decide_eq_true (by omega))) (rg_ [(78,.bool true)] ?_)))
   rintro a A ⟨t78,-⟩
   refine wp_cond_true t78 ?_
   clear t78
   refine wp_seq ?_
   refine wi_ A h0_ (rg_ [(4,.bool true)] ?_)
   rintro a A ⟨t4,-⟩
   refine wp_ret ?_
   repeat (first | with_reducible refine ret_in ?_ | with_reducible refine ret_then ?_)
   refine bodyPost_ret (results_tmp rfl _ _ _) A.2 ⟨?_,BW.trans (BB.mono BW.size)⟩
   show Ending.returned (a.eval (.tmp 4))=_
   rw [t4]
  refine wi_ A (h9_ t1 t2 t5 t6 t7 t70 t71 t72 t9) (rv_ 1 (.int .i64 ((lk i:Nat):Int)) (fun a E=>execLenV (len:=lk i) rfl (E _) (shp (((hL.on BB).cell i lti)))) (rv_ 2 (.bool false) (fun a E=>execDec (execGtN (p:=lk i) (q:=10000) rfl (E _) rfl) (decide_eq_false (by omega))) (rf_ [(78,.bool false)] (h9_ t1 t2 t5 t6 t7 t70 t71 t72 t9) ?_)))
  rintro a A ⟨t78,-⟩ ⟨t1,t2,t5,t6,t7,t70,t71,t72,t9,-⟩
  refine wp_cond_false t78 (wp_skip ?_)
  clear t78
  refine wi_ A (h9_ t1 t2 t5 t6 t7 t70 t71 t72 t9) (rs_ 2 (fun a E=>?_))
  refine stepAppN (v:=.slice none 0 0) (p:=mk i) rfl rfl rfl rfl (E _) (World.ownsRow_nil _ _ _ _) (slice_cg ((hL.on BB).cell i lti) (fun j hj=>by rw [Nat.zero_add])) (hL.nil i lti) (by omega) (Nat.le_refl _) fun v81 X12_1 own' gr=>?_
  rw [Nat.zero_add] at own'
  have bg:Below XL8.heap.size XL8 X12_1:=(Below.refl _ XL8).grown gr (Nat.le_refl _) (fun k hk=>by cases hk)
  refine ⟨_,⟨_,rfl,rfl⟩,eqw ?_⟩
  obtain ⟨BB,FU,FK1,FSH⟩:Below X5.heap.size X5 X12_1/\(X12_1.ownsRow X5.heap.size 24 1 u (i) (lL y (i)))/\(Cps X12_1 (i+1) (updX y i v81) lk mk)/\(∃ a_ c_,v81=.slice a_ (lk i) c_):=⟨(BB).trans (bg.mono (BB).size),(ownD_below FU bg),(FK.on bg).add (own_slice own' (hL.cell i lti).bytes) (own_tyB own') (own_nilI own'),ownQ_shape own'⟩
  clear FK E a
  obtain ⟨g82,egg82⟩:∃ z_:Nat,X12_1.heap.size=z_:=⟨_,rfl⟩
  refine rs_ 3 (fun a E=>?_)
  refine stepV rfl rfl (Cf.execBsL rfl (E _) (by obtain ⟨q1,q2,q3⟩:=FSH; exact ⟨q1,_,q2,q3⟩)) ⟨.slice (some ⟨g82,0,none⟩) 1 1,⟨_,rfl,by subst egg82; rfl⟩,fun X12_2 hX=>?_⟩
  have bQ:Below X12_1.heap.size X12_1 X12_2:=by subst hX egg82; exact (belNew X12_1 _)
  have Fg82:(X12_2.heap[g82]?=some (.cells #[v81] 24)):=by subst hX egg82; exact heapNew X12_1 _
  replace FU:=(ownD_below FU bQ)
  replace FK1:=(FK1.on bQ)
  replace BB:=BB.trans (bQ.mono BB.size)
  clear bQ hX egg82 E a
  refine rs_ 4 (fun a E=>?_)
  refine stepAppLB rfl rfl rfl (E _) (E _) FU Fg82 rfl (one25 FSH) (by omega) (BB).size fun v83 X12 own' gr=>⟨_,⟨_,rfl,rfl⟩,eqw ?_⟩
  obtain ⟨BB,FK1,FU1⟩:Below X5.heap.size X5 X12/\(Cps X12 (i+1) (updX y i v81) lk mk)/\(X12.ownsRow X5.heap.size 24 1 v83 (i+1) (lL (updX y i v81) (i+1))):=⟨(BB).grown gr (BB).size (fun k hk=>(FU.lt k hk).1),(FK1.grown FU gr),(lL_upd y i _ ▸ own')⟩
  clear FU FSH Fg82 E a
  refine rf_ [(7,v83)] (h7_ t1 t2 t5 t6 t70 t71 t72) ?_
  rintro a A ⟨t7,-⟩ ⟨t1,t2,t5,t6,t70,t71,t72,-⟩
  refine wi_ A (h8_ t1 t2 t5 t6 t7 t70 t71 t72) (rv_ 0 (.int .i64 ((i+1:Nat):Int)) (fun a E=>execAd8 (p:=i) (q:=1) rfl (E _) rfl (by omega)) (rf_ [(72,.int .i64 ((i+1:Nat):Int))] (h7_ t1 t2 t5 t6 t7 t70 t71) ?_))
  rintro a A ⟨t72,-⟩ ⟨t1,t2,t5,t6,t7,t70,t71,-⟩
  exact ⟨⟨i+1,v83,updX y i v81,lti,(fun t ht=>if e:t=i then e ▸ (by omega) else hlk t (by omega)),A,t1,t2,t5,t6,t7,t70,t71,t72,BB,FU1,FK1⟩,by show h - (intOf (a.eval (.tmp 72))).toNat < h - (intOf (Act.eval _ (.tmp 72))).toNat; rw [t72,esi]; show h - (i+1) < h - i; omega⟩
 ·rw [decide_eq_false lti] at t73
  refine wp_cond_false t73 ?_
  refine wp_exit ?_
  first | with_reducible refine exit_in ?_ | with_reducible refine exit_then (exit_in ?_) | with_reducible refine exit_then (exit_then (exit_in ?_)) | refine exit_in ?_ | refine exit_then (exit_in ?_) | refine exit_then (exit_then (exit_in ?_))
  clear t73 esi
  have ei:i=h:=by omega
  rw [ei] at FU FK hlk
  have FM:Ls XL8 u h y lk mk:=FK.ls FU (fun t ht=>by have:=hlk t ht; omega)
  clear FU FK hlk
  refine wp_seq ?_
  refine wi_ A (h5_ t1 t2 t5 t6 t7) (rv_ 0 (.pointer (some ⟨g2,2,none⟩)) (fun a E=>execFdCl (k:=2) rfl (E _) (by decide)) (rv_ 1 (nv) (fun a E=>execLdCl rfl (Or.inr (Or.inr (Or.inl rfl))) (E _) (at_cl (on9 Fg2 BB) rfl)) (rs_ 2 (fun a E=>?_))))
  refine stepAppNs rfl rfl rfl rfl (E _) (hq.on BB) (by omega) fun v87 X14 hk_ bg=>⟨_,⟨_,rfl,rfl⟩,eqw ?_⟩
  obtain ⟨BB,FM,FN⟩:Below X5.heap.size X5 X14/\(Ls X14 u h y lk mk)/\(Nons X14 v87 hn q):=⟨(BB).trans (bg.mono (BB).size),(FM.on bg),hk_⟩
  clear E a
  refine rf_ [(10,v87)] (h5_ t1 t2 t5 t6 t7) ?_
  rintro a A ⟨t10,-⟩ ⟨t1,t2,t5,t6,t7,-⟩
  replace hL:=hL.on BB
  replace hq:=hq.on BB
  replace hp:=hp.on BB
  replace Fg2:=(on9 Fg2 BB)
  replace FW:=(FW.on BB)
  replace BW:=BW.trans (BB.mono BW.size)
  clear BB
  have BB:Below X14.heap.size X14 X14:=Below.refl _ _
  refine wp_seq ?_
  refine wi_ A (h6_ t1 t2 t5 t6 t7 t10) (rv_ 0 (.pointer (some ⟨g2,3,none⟩)) (fun a E=>execFdCl (k:=3) rfl (E _) (by decide)) (rv_ 1 (pv) (fun a E=>execLdCl rfl (Or.inr (Or.inr (Or.inr rfl))) (E _) (at_cl (on9 Fg2 BB) rfl)) (rs_ 2 (fun a E=>?_))))
  refine stepAppN (v:=.slice none 0 0) (p:=p) rfl rfl rfl rfl (E _) (World.ownsRow_nil _ _ _ _) (slice_cg (hp.sl.on BB) (fun j hj=>by rw [Nat.zero_add])) hp.nil (by omega) (Nat.le_refl _) fun v90 X15_1 own' gr=>?_
  rw [Nat.zero_add] at own'
  have bg:Below X14.heap.size X14 X15_1:=(Below.refl _ X14).grown gr (Nat.le_refl _) (fun k hk=>by cases hk)
  refine ⟨_,⟨_,rfl,rfl⟩,eqw ?_⟩
  obtain ⟨BB,FO⟩:Below X14.heap.size X14 X15_1/\(X15_1.ownsRow X14.heap.size 5 1 v90 n (bytesL n p)):=⟨(BB).trans (bg.mono (BB).size),own_base own' (BB).size⟩
  clear E a
  refine rs_ 3 (fun a E=>?_)
  refine stepAppMk (m:=64) (p:=pyB p n) rfl rfl rfl (E _) rfl (own_cg FO (fun l hl=>(if_pos hl).symm)) (fun j _=>if_neg (by omega)) (by omega) (by omega) (by omega) (BB).size fun v91 X15 own' gr _=>⟨_,⟨_,rfl,rfl⟩,eqw ?_⟩
  obtain ⟨BB,FP⟩:Below X14.heap.size X14 X15/\(X15.ownsRow X14.heap.size 5 1 v91 (n+64) (bytesL (n+64) (pyB p n))):=⟨(BB).grown gr (BB).size (fun k hk=>(FO.lt k hk).1),own'⟩
  clear FO E a
  refine rf_ [(11,v91)] (h6_ t1 t2 t5 t6 t7 t10) ?_
  rintro a A ⟨t11,-⟩ ⟨t1,t2,t5,t6,t7,t10,-⟩
  have hF:∀ j,j < suN h hn lk ep n->suF h mk ep q n p j < 256:=suF_lt hq.by_ hp.sl.bytes
  refine wp_seq ?_
  refine wj_ [0,1,2,3,4,5,6,7,8,9,10,11,12,13,14] [9] [2,6,7,8] [] A (h7_ t1 t2 t5 t6 t7 t10 t11) (fun X16_0 bD=>?_)
  refine dw_ 1 (.pointer (some ⟨g2,1,none⟩)) (fun a X E=>execFdCl (k:=1) rfl (E _) (by decide)) (dv_ 2 (.int .i64 ep) (fun a X E hb=>execLdCl rfl (Or.inl rfl) (E _) (at_cl (on9 Fg2 (BB.trans (hb.mono BB.size))) rfl)) (dw_ 5 (.pointer (some ⟨g2,3,none⟩)) (fun a X E=>execFdCl (k:=3) rfl (E _) (by decide)) (dv_ 6 (pv) (fun a X E hb=>execLdCl rfl (Or.inr (Or.inr (Or.inr rfl))) (E _) (at_cl (on9 Fg2 (BB.trans (hb.mono BB.size))) rfl)) (dv_ 7 (.int .i64 ((n:Nat):Int)) (fun a X E hb=>execLenV (len:=n) rfl (E _) (shp ((hp.sl.on (BB.trans (hb.mono BB.size)))))) (dv_ 8 (cutH v91 n) (fun a X E hb=>execCutH (k:=n) (py_load (ownsRow_below FP hb) hp.sl.bytes) rfl (E _) (E _) (by omega)) (dc_ 9 (I.submit h hn n ep u v87 (cutH v91 n) y lk mk q p X16_0 (hg X16_0 (BW.trans (((BB.trans (bD.mono BB.size))).mono BW.size))) (FM.on (BB.trans (bD.mono BB.size))) (FN.on (BB.trans (bD.mono BB.size))) ⟨py_cut (ownsRow_below FP bD) hp.sl.bytes,py_nil (ownsRow_below FP bD)⟩ (by omega) (by omega) (by omega)) fun e X16 hh=>?_))))))
  obtain ⟨⟨v102,he,hk⟩,hb⟩:=hh
  refine ⟨_,he,?_⟩
  have bQ:Below X16_0.heap.size X16_0 X16:=hb
  have FX:(X16.ownsRow X14.heap.size 5 1 v102 (suN h hn lk ep n) (bytesL (suN h hn lk ep n) (suF h mk ep q n p))):=own_base hk ((BB.trans (bD.mono BB.size))).size
  replace bD:=bD.trans (bQ.mono bD.size)
  clear bQ
  refine ⟨Or.inr bD,?_⟩
  refine dz_ [(12,v102),(13,.int .i64 ((suE h hn lk ep n:Nat):Int))] (h7_ t1 t2 t5 t6 t7 t10 t11) ?_
  rintro a A ⟨t12,t13,-⟩ ⟨t1,t2,t5,t6,t7,t10,t11,-⟩
  replace FP:=(ownsRow_below FP bD)
  replace BB:=BB.trans (bD.mono BB.size)
  clear bD
  refine wp_seq ?_
  refine wj_ [0,1,2,3,4,5,6,7,8,9,10,11,12,13,14] [9] [2,6,7,8] [] A (h9_ t1 t2 t5 t6 t7 t10 t11 t12 t13) (fun X17_0 bD=>?_)
  refine dw_ 1 (.pointer (some ⟨g2,1,none⟩)) (fun a X E=>execFdCl (k:=1) rfl (E _) (by decide)) (dv_ 2 (.int .i64 ep) (fun a X E hb=>execLdCl rfl (Or.inl rfl) (E _) (at_cl (on9 Fg2 (BB.trans (hb.mono BB.size))) rfl)) (dw_ 5 (.pointer (some ⟨g2,3,none⟩)) (fun a X E=>execFdCl (k:=3) rfl (E _) (by decide)) (dv_ 6 (pv) (fun a X E hb=>execLdCl rfl (Or.inr (Or.inr (Or.inr rfl))) (E _) (at_cl (on9 Fg2 (BB.trans (hb.mono BB.size))) rfl)) (dv_ 7 (.int .i64 ((n:Nat):Int)) (fun a X E hb=>execLenV (len:=n) rfl (E _) (shp ((hp.sl.on (BB.trans (hb.mono BB.size)))))) (dv_ 8 (cutH v91 n) (fun a X E hb=>execCutH (k:=n) (py_load (ownsRow_below FP hb) hp.sl.bytes) rfl (E _) (E _) (by omega)) (dc_ 9 (I.submit h hn n ep u v87 (cutH v91 n) y lk mk q p X17_0 (hg X17_0 (BW.trans (((BB.trans (bD.mono BB.size))).mono BW.size))) (FM.on (BB.trans (bD.mono BB.size))) (FN.on (BB.trans (bD.mono BB.size))) ⟨py_cut (ownsRow_below FP bD) hp.sl.bytes,py_nil (ownsRow_below FP bD)⟩ (by omega) (by omega) (by omega)) fun e X17 hh=>?_))))))
  obtain ⟨⟨v115,he,hk⟩,hb⟩:=hh
  refine ⟨_,he,?_⟩
  have bQ:Below X17_0.heap.size X17_0 X17:=hb
  have FY:(X17.ownsRow X14.heap.size 5 1 v115 (suN h hn lk ep n) (bytesL (suN h hn lk ep n) (suF h mk ep q n p))):=own_base hk ((BB.trans (bD.mono BB.size))).size
  have FD:(Dis v102 v115):=dis_new (ownsRow_below FX bD) hk
  replace bD:=bD.trans (bQ.mono bD.size)
  clear bQ
  refine ⟨Or.inr bD,?_⟩
  refine dz_ [(14,v115),(15,.int .i64 ((suE h hn lk ep n:Nat):Int))] (h9_ t1 t2 t5 t6 t7 t10 t11 t12 t13) ?_
  rintro a A ⟨t14,t15,-⟩ ⟨t1,t2,t5,t6,t7,t10,t11,t12,t13,-⟩
  replace FP:=(ownsRow_below FP bD)
  replace FX:=(ownsRow_below FX bD)
  replace BB:=BB.trans (bD.mono BB.size)
  clear bD
  refine wp_seq (wp_seq ?_)
  refine wj_ [0,1,2,3,4,5,6,7,8,9,10,11,12,13,14,15,16,17,18,19,20,21,22,23,24,25,26,27,28,29,30,31,32,33,34,35] [21] [5,7,12,14,20,27,28,29,30,32,33] [] A (h11_ t1 t2 t5 t6 t7 t10 t11 t12 t13 t14 t15) (fun X18_0 bD=>?_)
  refine dw_ 2 (.bool false) (fun a X E=>by exact execDec (execNeN (p:=suE h hn lk ep n) (q:=suE h hn lk ep n) rfl (E _) (E _)) (decide_eq_false (by omega))) (dv_ 5 (.string (strN (suF h mk ep q n p) (suN h hn lk ep n))) (fun a X E hb=>execStr rfl (E _) ((own_slice (ownsRow_below FX hb) hF))) (dv_ 7 (.string (strN (suF h mk ep q n p) (suN h hn lk ep n))) (fun a X E hb=>execStr rfl (E _) ((FW.on (BB.trans (hb.mono BB.size))))) (dw_ 8 (.bool false) (fun a X E=>By8.execNeqS (s:=strN (suF h mk ep q n p) (suN h hn lk ep n)) rfl (E _) (E _)) (dv_ 12 (.string (strN (suF h mk ep q n p) (suN h hn lk ep n))) (fun a X E hb=>execStr rfl (E _) ((own_slice (ownsRow_below FY hb) hF))) (dv_ 14 (.string (strN (suF h mk ep q n p) (suN h hn lk ep n))) (fun a X E hb=>execStr rfl (E _) ((FW.on (BB.trans (hb.mono BB.size))))) (dw_ 15 (.bool false) (fun a X E=>By8.execNeqS (s:=strN (suF h mk ep q n p) (suN h hn lk ep n)) rfl (E _) (E _)) (dw_ 19 (.pointer (some ⟨g2,0,none⟩)) (fun a X E=>execFdCl (k:=0) rfl (E _) (by decide)) (dv_ 20 (mv) (fun a X E hb=>execLdCl rfl (Or.inr (Or.inl rfl)) (E _) (at_cl (on9 Fg2 (BB.trans (hb.mono BB.size))) rfl)) (dc_ 21 (same25 h u mv y xv lk mk X18_0 (FM.on (BB.trans (bD.mono BB.size))) (hL.on (BB.trans (bD.mono BB.size)))) (cb_ fun X18 bQ=>?_))))))))))
  replace bD:=bD.trans (bQ.mono bD.size)
  clear bQ
  refine ⟨Or.inr bD,?_⟩
  refine dw_ 22 (.bool false) (fun a X E=>execNot8 (b:=true) rfl (E _)) (dw_ 26 (.pointer (some ⟨g2,3,none⟩)) (fun a X E=>execFdCl (k:=3) rfl (E _) (by decide)) (dv_ 27 (pv) (fun a X E hb=>execLdCl rfl (Or.inr (Or.inr (Or.inr rfl))) (E _) (at_cl (on9 Fg2 (BB.trans (hb.mono BB.size))) rfl)) (dv_ 28 (.int .i64 ((n:Nat):Int)) (fun a X E hb=>execLenV (len:=n) rfl (E _) (shp ((hp.sl.on (BB.trans (hb.mono BB.size)))))) (dv_ 29 (cutH v91 n) (fun a X E hb=>execCutH (k:=n) (py_load (ownsRow_below FP hb) hp.sl.bytes) rfl (E _) (E _) (by omega)) (dv_ 30 (.string (strN p n)) (fun a X E hb=>execStr rfl (E _) ((py_cut (ownsRow_below FP hb) hp.sl.bytes))) (dw_ 31 (.pointer (some ⟨g2,3,none⟩)) (fun a X E=>execFdCl (k:=3) rfl (E _) (by decide)) (dv_ 32 (pv) (fun a X E hb=>execLdCl rfl (Or.inr (Or.inr (Or.inr rfl))) (E _) (at_cl (on9 Fg2 (BB.trans (hb.mono BB.size))) rfl)) (dv_ 33 (.string (strN p n)) (fun a X E hb=>execStr rfl (E _) ((hp.sl.on (BB.trans (hb.mono BB.size))))) (dw_ 34 (.bool false) (fun a X E=>By8.execNeqS (s:=strN p n) rfl (E _) (E _)) (dz_ [(153,.bool false)] (h7_ t1 t2 t5 t10 t11 t12 t14) ?_))))))))))
  rintro a A ⟨t153,-⟩ ⟨t1,t2,t5,t10,t11,t12,t14,-⟩
  replace FP:=(ownsRow_below FP bD)
  replace FX:=(ownsRow_below FX bD)
  replace FY:=(ownsRow_below FY bD)
  replace BB:=BB.trans (bD.mono BB.size)
  clear bD
  refine wp_cond_false t153 (wp_skip ?_)
  clear t153
  refine wp_seq (wp_seq ?_)
  refine wi_ A (h7_ t1 t2 t5 t10 t11 t12 t14) (rv_ 1 (.pointer (some ⟨g2,3,none⟩)) (fun a E=>execFdCl (k:=3) rfl (E _) (by decide)) (rv_ 2 (pv) (fun a E=>execLdCl rfl (Or.inr (Or.inr (Or.inr rfl))) (E _) (at_cl (on9 Fg2 BB) rfl)) (rv_ 3 (.int .i64 ((n:Nat):Int)) (fun a E=>execLenV (len:=n) rfl (E _) (shp ((hp.sl.on BB)))) (rv_ 4 (cutL v91 n) (fun a E=>execCutL (k:=n) (py_load FP hp.sl.bytes) rfl (E _) (E _) (by omega)) (rv_ 5 (.int .i64 ((n+64 - n:Nat):Int)) (fun a E=>execLenV (len:=n+64 - n) rfl (E _) (shp ((py_rest FP hp.sl.bytes)))) (rf_ [(158,cutL v91 n),(159,.int .i64 ((n+64 - n:Nat):Int)),(160,.int .i64 ((0:Nat):Int))] (h6_ t1 t2 t5 t10 t12 t14) ?_))))))
  rintro a A ⟨t158,t159,t160,-⟩ ⟨t1,t2,t5,t10,t12,t14,-⟩
  refine wp_block ?_
  refine wp_loop (fun a W=>∃ (i:Nat),i<=n+64 - n/\(a.tmps.size=287/\a.defers=[])/\a.eval (.tmp 1)=cv/\a.eval (.tmp 2)=.pointer (some ⟨g2,0,none⟩)/\a.eval (.tmp 5)=v66/\a.eval (.tmp 10)=v87/\a.eval (.tmp 12)=v102/\a.eval (.tmp 14)=v115/\a.eval (.tmp 158)=cutL v91 n/\a.eval (.tmp 159)=.int .i64 ((n+64 - n:Nat):Int)/\a.eval (.tmp 160)=.int .i64 ((i:Nat):Int)/\Below X14.heap.size X14 W/\(W.ownsRow X14.heap.size 5 1 v91 (n+64) (bytesL (n+64) (pyB p n)))/\(W.ownsRow X14.heap.size 5 1 v102 (suN h hn lk ep n) (bytesL (suN h hn lk ep n) (suF h mk ep q n p)))/\(W.ownsRow X14.heap.size 5 1 v115 (suN h hn lk ep n) (bytesL (suN h hn lk ep n) (suF h mk ep q n p)))) (fun a _=>n+64 - n - (intOf (a.eval (.tmp 160))).toNat) ⟨0,Nat.zero_le _,A,t1,t2,t5,t10,t12,t14,t158,t159,t160,BB,FP,FX,FY⟩ ?_
  rintro a XL21 ⟨i,hi,A,t1,t2,t5,t10,t12,t14,t158,t159,t160,BB,FP,FX,FY⟩
  have esi:=t160
  refine wp_seq ?_
  refine wi_ A (h9_ t1 t2 t5 t10 t12 t14 t158 t159 t160) (rv_ 0 (.bool (decide (i < n+64 - n))) (fun a E=>execLtW (p:=i) (q:=n+64 - n) rfl (E _) (E _)) (rf_ [(161,.bool (decide (i < n+64 - n)))] (h9_ t1 t2 t5 t10 t12 t14 t158 t159 t160) ?_))
  rintro a A ⟨t161,-⟩ ⟨t1,t2,t5,t10,t12,t14,t158,t159,t160,-⟩
  refine wp_seq ?_
  by_cases lti:i < n+64 - n
  ·rw [decide_eq_true lti] at t161
   refine wp_cond_true t161 (wp_skip ?_)
   clear t161
   refine wp_seq (wp_block ?_)
   refine wp_seq ?_
   refine wi_ A (h9_ t1 t2 t5 t10 t12 t14 t158 t159 t160) (rv_ 0 (.pointer (some ⟨adB (cutL v91 n),adO (cutL v91 n)+i,none⟩)) (fun a E=>execIdxSb (k:=i) ((py_rest FP hp.sl.bytes)) rfl (E _) (E _) lti) (rv_ 1 (.int .u8 ((zf i:Nat):Int)) (fun a E=>execLdSb (k:=i) ((py_rest FP hp.sl.bytes)) rfl (E _) lti) (rf_ [(17,.int .u8 ((zf i:Nat):Int))] (h9_ t1 t2 t5 t10 t12 t14 t158 t159 t160) ?_)))
   rintro a A ⟨t17,-⟩ ⟨t1,t2,t5,t10,t12,t14,t158,t159,t160,-⟩
   refine wp_seq ?_
   refine wi_ A (h10_ t1 t2 t5 t10 t12 t14 t158 t159 t160 t17) (rv_ 1 (.bool false) (fun a E=>execNe5z rfl (E _)) (rf_ [(165,.bool false)] (h9_ t1 t2 t5 t10 t12 t14 t158 t159 t160) ?_))
   rintro a A ⟨t165,-⟩ ⟨t1,t2,t5,t10,t12,t14,t158,t159,t160,-⟩
   refine wp_cond_false t165 (wp_skip ?_)
   clear t165
   refine wi_ A (h9_ t1 t2 t5 t10 t12 t14 t158 t159 t160) (rv_ 0 (.int .i64 ((i+1:Nat):Int)) (fun a E=>execAd8 (p:=i) (q:=1) rfl (E _) rfl (by omega)) (rf_ [(160,.int .i64 ((i+1:Nat):Int))] (h8_ t1 t2 t5 t10 t12 t14 t158 t159) ?_))
   rintro a A ⟨t160,-⟩ ⟨t1,t2,t5,t10,t12,t14,t158,t159,-⟩
   exact ⟨⟨i+1,lti,A,t1,t2,t5,t10,t12,t14,t158,t159,t160,BB,FP,FX,FY⟩,by show n+64 - n - (intOf (a.eval (.tmp 160))).toNat < n+64 - n - (intOf (Act.eval _ (.tmp 160))).toNat; rw [t160,esi]; show n+64 - n - (i+1) < n+64 - n - i; omega⟩
  ·rw [decide_eq_false lti] at t161
   refine wp_cond_false t161 ?_
   refine wp_exit ?_
   first | with_reducible refine exit_in ?_ | with_reducible refine exit_then (exit_in ?_) | with_reducible refine exit_then (exit_then (exit_in ?_)) | refine exit_in ?_ | refine exit_then (exit_in ?_) | refine exit_then (exit_then (exit_in ?_))
   clear t161 esi
   clear FP
   refine wp_seq (wp_seq ?_)
   refine wi_ A (h6_ t1 t2 t5 t10 t12 t14) (rv_ 1 (.int .i64 ((hn:Nat):Int)) (fun a E=>execLenNs (FN.on BB) rfl (E _)) (rf_ [(168,.int .i64 ((hn:Nat):Int)),(169,.int .i64 ((0:Nat):Int))] (h6_ t1 t2 t5 t10 t12 t14) ?_))
   rintro a A ⟨t168,t169,-⟩ ⟨t1,t2,t5,t10,t12,t14,-⟩
   refine wp_block ?_
   refine wp_loop (fun a W=>∃ (i:Nat),i<=hn/\(a.tmps.size=287/\a.defers=[])/\a.eval (.tmp 1)=cv/\a.eval (.tmp 2)=.pointer (some ⟨g2,0,none⟩)/\a.eval (.tmp 5)=v66/\a.eval (.tmp 10)=v87/\a.eval (.tmp 12)=v102/\a.eval (.tmp 14)=v115/\a.eval (.tmp 168)=.int .i64 ((hn:Nat):Int)/\a.eval (.tmp 169)=.int .i64 ((i:Nat):Int)/\Below X14.heap.size X14 W/\(W.ownsRow X14.heap.size 5 1 v102 (suN h hn lk ep n) (bytesL (suN h hn lk ep n) (suF h mk ep q n p)))/\(W.ownsRow X14.heap.size 5 1 v115 (suN h hn lk ep n) (bytesL (suN h hn lk ep n) (suF h mk ep q n p)))) (fun a _=>hn - (intOf (a.eval (.tmp 169))).toNat) ⟨0,Nat.zero_le _,A,t1,t2,t5,t10,t12,t14,t168,t169,BB,FX,FY⟩ ?_
   rintro a XL27 ⟨i,hi,A,t1,t2,t5,t10,t12,t14,t168,t169,BB,FX,FY⟩
   have esi:=t169
   refine wp_seq ?_
   refine wi_ A (h8_ t1 t2 t5 t10 t12 t14 t168 t169) (rv_ 0 (.bool (decide (i < hn))) (fun a E=>execLtW (p:=i) (q:=hn) rfl (E _) (E _)) (rf_ [(170,.bool (decide (i < hn)))] (h8_ t1 t2 t5 t10 t12 t14 t168 t169) ?_))
   rintro a A ⟨t170,-⟩ ⟨t1,t2,t5,t10,t12,t14,t168,t169,-⟩
   refine wp_seq ?_
   by_cases lti:i < hn
   ·rw [decide_eq_true lti] at t170
    refine wp_cond_true t170 (wp_skip ?_)
    clear t170
    refine wp_seq (wp_block ?_)
    refine wp_seq ?_
    refine wi_ A (h8_ t1 t2 t5 t10 t12 t14 t168 t169) (rf_ [(18,.int .i64 ((i:Nat):Int))] (h8_ t1 t2 t5 t10 t12 t14 t168 t169) ?_)
    rintro a A ⟨t18,-⟩ ⟨t1,t2,t5,t10,t12,t14,t168,t169,-⟩
    refine wp_seq ?_
    refine wj_ [0,1,2,3,4,5,6,7,8,9] [] [2,3,5,7,8] [] A (h9_ t1 t2 t5 t10 t12 t14 t168 t169 t18) (fun X29 bD=>?_)
    refine dv_ 2 (.pointer (some ⟨adB v87,adO v87+i * 16,none⟩)) (fun a X E hb=>execIdxNs (k:=i) (FN.on (BB.trans (hb.mono BB.size))) rfl (E _) (E _) lti) (dv_ 3 (.agg (bA 16 (q i))) (fun a X E hb=>execLdNs (k:=i) (FN.on (BB.trans (hb.mono BB.size))) rfl (E _) lti) (dw_ 4 (.pointer (some ⟨g2,2,none⟩)) (fun a X E=>execFdCl (k:=2) rfl (E _) (by decide)) (dv_ 5 (nv) (fun a X E hb=>execLdCl rfl (Or.inr (Or.inr (Or.inl rfl))) (E _) (at_cl (on9 Fg2 (BB.trans (hb.mono BB.size))) rfl)) (dv_ 7 (.pointer (some ⟨adB nv,adO nv+i * 16,none⟩)) (fun a X E hb=>execIdxNs (k:=i) (hq.on (BB.trans (hb.mono BB.size))) rfl (E _) (E _) lti) (dv_ 8 (.agg (bA 16 (q i))) (fun a X E hb=>execLdNs (k:=i) (hq.on (BB.trans (hb.mono BB.size))) rfl (E _) lti) (dw_ 9 (.bool false) (fun a X E=>execNe16 rfl (E _) (E _)) (dz_ [(181,.bool false)] (h8_ t1 t2 t5 t10 t12 t14 t168 t169) ?_)))))))
    rintro a A ⟨t181,-⟩ ⟨t1,t2,t5,t10,t12,t14,t168,t169,-⟩
    replace FX:=(ownsRow_below FX bD)
    replace FY:=(ownsRow_below FY bD)
    replace BB:=BB.trans (bD.mono BB.size)
    clear bD
    refine wp_cond_false t181 (wp_skip ?_)
    clear t181
    refine wi_ A (h8_ t1 t2 t5 t10 t12 t14 t168 t169) (rv_ 0 (.int .i64 ((i+1:Nat):Int)) (fun a E=>execAd8 (p:=i) (q:=1) rfl (E _) rfl (by omega)) (rf_ [(169,.int .i64 ((i+1:Nat):Int))] (h7_ t1 t2 t5 t10 t12 t14 t168) ?_))
    rintro a A ⟨t169,-⟩ ⟨t1,t2,t5,t10,t12,t14,t168,-⟩
    exact ⟨⟨i+1,lti,A,t1,t2,t5,t10,t12,t14,t168,t169,BB,FX,FY⟩,by show hn - (intOf (a.eval (.tmp 169))).toNat < hn - (intOf (Act.eval _ (.tmp 169))).toNat; rw [t169,esi]; show hn - (i+1) < hn - i; omega⟩
   ·rw [decide_eq_false lti] at t170
    refine wp_cond_false t170 ?_
    refine wp_exit ?_
    first | with_reducible refine exit_in ?_ | with_reducible refine exit_then (exit_in ?_) | with_reducible refine exit_then (exit_then (exit_in ?_)) | refine exit_in ?_ | refine exit_then (exit_in ?_) | refine exit_then (exit_then (exit_in ?_))
    clear t170 esi
    exact memB I V hg X14 XL27 BW BB (suN h hn lk ep n) (suF h mk ep q n p) v66 v102 v115 FW FX FY FD hF (suN_le _ _ _ _ _) m cv xc lc c hC (by omega) a A t1 t5 t12 t14
end Go.Proofs.YtjckkdjldnobmaaGreatDoor.Cas
