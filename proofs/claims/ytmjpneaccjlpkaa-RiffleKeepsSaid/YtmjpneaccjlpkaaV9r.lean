import Derived.Test.YtmjpneaccjlpkaaE9a
import Derived.Test.YtmjpneaccjlpkaaG9a
import Derived.Test.YtmjpneaccjlpkaaP9c
import Derived.Test.YtmjpneaccjlpkaaF9b
namespace Go.Proofs.Ytmjpneaccjlpkaa.Tap
open Go.RowKit Gf8 Aes By8 Cel Cf
/- What goes through the law's apart: lists of any lengths. -/
def Gx (m:Nat) (x:Nat->Value) (k:Nat):Prop:=∃ t,t < m/\(x t).ownBlock=some k
def mkA (f:Nat->Nat->Nat) (i k t:Nat):Nat->Nat:=fun l=>if t < i\/(t=i/\l < k) then t % 256 else f t l
theorem run_mkL (n:Nat) (hn:n<=1000000) (W:World):(Instr.makeSlice 53 (.int .i64 (n:Int)) (.int .i64 (n:Int))).run Try.prog W=.ok (.slice (some ⟨W.heap.size,0,none⟩) n n) (W.alloc (.cells (madeCells #[.slice none 0 0] n) 23)):=by
 obtain ⟨i,h1,h2,h3,h4⟩:=infoB
 have h:=run_make (P:=Try.prog) W 53 23 i (.slice none 0 0) Try.underlying53 h1 h2 .i64 .i64 (n:Int) (n:Int) (by omega) (by omega) (by rw [h4]; omega) (by omega)
 rw [h3,Int.toNat_natCast,Nat.mul_one] at h
 exact h
theorem apn_cg {B m:Nat} {nn:Nat->Nat} {x:Nat->Value} {ff:Nat->Nat->Nat} {zz:Nat->Nat} {gv:Nat->Value} {gl gl':Nat->Nat} {W:World} (h:ApN B m nn x ff zz gv gl W) (e:∀ t,t < m->gl t=gl' t):ApN B m nn x ff zz gv gl' W:=
 ⟨h.fam,fun t ht=>by rw [← e t ht]; exact h.grown t ht,fun t ht=>by rw [← e t ht]; exact h.le t ht,h.at',h.dis⟩
structure MoN (B m:Nat) (nn:Nat->Nat) (x gv:Nat->Value) (gl:Nat->Nat) (mo:Nat->Value) (R:Nat) (V W:World):Prop where
 ap:ApN B m nn x (fun t _=>t % 256) (fun t=>(t+140) % 256) gv gl W
 sv:Saved (Gx m x) V W
 row:∃ c,W.heap[R]?=some (.cells c 23)/\c.size=m/\∀ t,t < m->c[t]?=some (mo t)
 new:V.heap.size<=R
 pl:∀ t,t < m->∀ k,(gv t).ownBlock=some k->V.heap.size<=k\/Gx m x k
section
variable {B m:Nat} {nn:Nat->Nat} {x gv:Nat->Value} {gl:Nat->Nat} {mo:Nat->Value} {R:Nat} {V W W':World}
theorem MoN.cg {gl':Nat->Nat} {mo':Nat->Value} (h:MoN B m nn x gv gl mo R V W) (e:∀ t,t < m->gl t=gl' t) (e':∀ t,t < m->mo t=mo' t):MoN B m nn x gv gl' mo' R V W:=
 ⟨apn_cg h.ap e,h.sv,by obtain ⟨c,h1,h2,h3⟩:=h.row; exact ⟨c,h1,h2,fun t ht=>by rw [← e' t ht]; exact h3 t ht⟩,h.new,h.pl⟩
theorem MoN.on (h:MoN B m nn x gv gl mo R V W) (hb:Below W.heap.size W W'):MoN B m nn x gv gl mo R V W':=
 ⟨h.ap.on hb,h.sv.below hb h.sv.size,by obtain ⟨c,h1,h2,h3⟩:=h.row; exact ⟨c,by rw [hb.block _ (Array.getElem?_eq_some_iff.1 h1).1]; exact h1,h2,h3⟩,h.new,h.pl⟩
theorem MoN.grow (h:MoN B m nn x gv gl mo R V W) {i k:Nat} (hi:i < m) {v':Value}
  (hv:W'.ownsRow B 5 1 v' (gl i+k) (bytesL (gl i+k) (gM (fun _=>i % 256) (nn i) ((i+140) % 256)))) (hp:(v'.ownBlock=(gv i).ownBlock/\W.grownBy W' (gv i).ownBlock/\capV v'=capV (gv i))\/(v'.ownBlock=some W.heap.size/\W.grownBy W' Option.none)) :
  MoN B m nn x (updX gv i v') (fun t=>if t=i then gl i+k else gl t) mo R V W':=by
 refine ⟨h.ap.grow hi hv hp,?_,?_,h.new,fun t ht b hb=>?_⟩
 ·rcases hp with ⟨_,hg,_⟩ | ⟨_,hg⟩
  ·exact h.sv.grown hg (h.pl i hi)
  ·exact h.sv.grown hg (fun k e=>by cases e)
 ·obtain ⟨c,h1,h2,h3⟩:=h.row
  refine ⟨c,?_,h2,h3⟩
  rcases hp with ⟨_,hg,_⟩ | ⟨_,hg⟩
  ·rw [hg.block _ (Array.getElem?_eq_some_iff.1 h1).1 (own_ne (h.ap.grown i hi) h1 (by decide))]
   exact h1
  ·rw [hg.block _ (Array.getElem?_eq_some_iff.1 h1).1 (by simp)]
   exact h1
 ·by_cases e:t=i
  ·subst e
   rw [updX_at] at hb
   rcases hp with ⟨e,_⟩ | ⟨e,_⟩
   ·exact h.pl t ht b (by rw [← e]; exact hb)
   ·rw [e] at hb
    have:=Option.some.inj hb
    have:=h.sv.size
    exact Or.inl (by omega)
  ·unfold updX at hb
   rw [if_neg e] at hb
   exact h.pl t ht b hb
theorem MoN.put (h:MoN B m nn x gv gl mo R V W) (i:Nat) (u:Value):MoN B m nn x gv gl (updX mo i u) R V (W.setCell ⟨R,i,none⟩ u):=by
 obtain ⟨c,h1,h2,h3⟩:=h.row
 refine ⟨h.ap.cell h1,h.sv.cell _ (Or.inl h.new),⟨c.setIfInBounds i u,heap4 _ h1,by rw [Array.size_setIfInBounds]; exact h2,fun t ht=>?_⟩,h.new,h.pl⟩
 rw [Array.getElem?_setIfInBounds]
 unfold updX
 by_cases e:i=t
 ·subst e
  rw [if_pos rfl,if_pos rfl,if_pos (by omega)]
 ·rw [if_neg e,if_neg (fun q=>e q.symm)]
  exact h3 t ht
theorem MoN.at (h:MoN B m nn x gv gl mo R V W) {i:Nat} (hi:i < m):W.cell? ⟨R,i,none⟩=some (mo i)/\W.frozen? ⟨R,i,none⟩=false:=by
 obtain ⟨c,h1,h2,h3⟩:=h.row
 exact ⟨by rw [cell_of_row _ _ _ _ _ _ h1]; exact h3 i hi,frozen4 h1⟩
end
end Go.Proofs.Ytmjpneaccjlpkaa.Tap

namespace Go.Proofs.Ytmjpneaccjlpkaa.Tap
open Go.RowKit Gf8 Aes By8 Cel Cf
/- The law's apart: the lists are marked. Written by tools/mkV9c.py. -/
structure AA (U:Value) (a:Act):Prop where
 sz:a.tmps.size=137
 df:a.defers=[]
 t0:a.eval (.tmp 0)=U
theorem AA.keep {U:Value} {a a':Act} {ds:List Nat} (h:AA U a) (hs:a'.tmps.size=137) (hd:a'.defers=a.defers) (hf:∀ e,e ∉ ds->a'.eval (.tmp e)=a.eval (.tmp e)) (hk:([0]:List Nat).all (fun k=>!ds.contains k)=true):AA U a':=by
 have hk2:∀ k,k ∈ ([0]:List Nat)->k ∉ ds:=fun k hk1=>by
  have:=List.all_eq_true.1 hk k hk1
  simpa using this
 exact ⟨hs,hd.trans h.df,(hf 0 (hk2 0 (by simp))).trans h.t0⟩
end Go.Proofs.Ytmjpneaccjlpkaa.Tap

namespace Go.Proofs.Ytmjpneaccjlpkaa.Tap
open Go.RowKit Gf8 Aes By8 Cel Cf
/- The law's apart: lists that are grown. -/
theorem execMkL {o:Oper} {a:Act} {w:World} {n:Nat} {x y:Operand} (ho:o.op=.makeSlice 53 x y) (hx:a.eval x=.int .i64 (n:Int)) (hy:a.eval y=.int .i64 (n:Int)) (hn:n<=1000000) :
  (execOp a.eval o).run Try.prog w=.ok (.value (.slice (some ⟨w.heap.size,0,none⟩) n n)) (w.alloc (.cells (madeCells #[.slice none 0 0] n) 23)):=by
 unfold execOp
 simp only [ho,hx,hy,Sem.run_bind,run_mkL n hn,Result.andThen_ok,Sem.run_pure]
structure GSt (B m:Nat) (nn:Nat->Nat) (x:Nat->Value) (R:Nat) (V W:World) (lo hi:Nat) (pre:Prop) (i:Nat) (gv:Nat->Value) (gl:Nat->Nat) (mo:Nat->Value):Prop where
 mn:MoN B m nn x gv gl mo R V W
 len:∀ t,t < m->gl t=nn t+(if t < i then hi else lo)
 done:∀ t,t < m->t < i->mo t=gv t
 todo:∀ t,t < m->i<=t->(pre->mo t=gv t)/\(¬ pre->gv t=x t)
structure GI (B m:Nat) (nn:Nat->Nat) (x:Nat->Value) (R:Nat) (V W:World) (lo hi:Nat) (pre:Prop) (i n':Nat) (v:Value) (gv:Nat->Value) (gl:Nat->Nat) (mo:Nat->Value):Prop where
 mn:MoN B m nn x gv gl mo R V W
 v_:gv i=v
 n_:gl i=n'
 len:∀ t,t < m->t ≠ i->gl t=nn t+(if t < i then hi else lo)
 done:∀ t,t < m->t < i->mo t=gv t
 todo:∀ t,t < m->i < t->(pre->mo t=gv t)/\(¬ pre->gv t=x t)
section
variable {B m:Nat} {nn:Nat->Nat} {x:Nat->Value} {R:Nat} {V W W':World} {lo hi:Nat} {pre:Prop} {i n':Nat} {v:Value} {gv:Nat->Value} {gl:Nat->Nat} {mo:Nat->Value}
theorem GI.on (h:GI B m nn x R V W lo hi pre i n' v gv gl mo) (hb:Below W.heap.size W W'):GI B m nn x R V W' lo hi pre i n' v gv gl mo:=⟨h.mn.on hb,h.v_,h.n_,h.len,h.done,h.todo⟩
theorem GI.own (h:GI B m nn x R V W lo hi pre i n' v gv gl mo) (hi':i < m):W.ownsRow B 5 1 v n' (bytesL n' (gM (fun _=>i % 256) (nn i) ((i+140) % 256))):=by
 have:=h.mn.ap.grown i hi'
 rw [h.v_,h.n_] at this
 exact this
theorem GI.put (h:GI B m nn x R V W lo hi pre i (nn i+hi) v gv gl mo):GSt B m nn x R V (W.setCell ⟨R,0+i,none⟩ v) lo hi pre (i+1) gv gl (updX mo i v):=by
 rw [Nat.zero_add]
 refine ⟨h.mn.put i v,fun t ht=>?_,fun t ht hl=>?_,fun t ht hl=>?_⟩
 ·by_cases e:t=i
  ·rw [e,h.n_,if_pos (by omega)]
  ·rw [h.len t ht e]
   by_cases q:t < i
   ·rw [if_pos q,if_pos (by omega)]
   ·rw [if_neg q,if_neg (by omega)]
 ·by_cases e:t=i
  ·rw [e,updX_at,h.v_]
  ·unfold updX
   rw [if_neg e]
   exact h.done t ht (by omega)
 ·have e:t ≠ i:=by omega
  unfold updX
  rw [if_neg e]
  exact h.todo t ht (by omega)
theorem GI.grow (h:GI B m nn x R V W lo hi pre i n' v gv gl mo) (hi':i < m) {k:Nat} {v':Value} (hv:W'.ownsRow B 5 1 v' (n'+k) (bytesL (n'+k) (gM (fun _=>i % 256) (nn i) ((i+140) % 256)))) (hp:(v'.ownBlock=v.ownBlock/\W.grownBy W' v.ownBlock/\capV v'=capV v)\/(v'.ownBlock=some W.heap.size/\W.grownBy W' Option.none)) :
  GI B m nn x R V W' lo hi pre i (n'+k) v' (updX gv i v') (fun t=>if t=i then gl i+k else gl t) mo:=by
 refine ⟨h.mn.grow hi' (by rw [h.n_]; exact hv) (by rw [h.v_]; exact hp),updX_at _ _ _,by show (if i=i then gl i+k else gl i)=_; rw [if_pos rfl,h.n_],fun t ht hne=>?_,fun t ht hl=>?_,fun t ht hl=>?_⟩
 ·show (if t=i then gl i+k else gl t)=_
  rw [if_neg hne]
  exact h.len t ht hne
 ·have e:t ≠ i:=by omega
  unfold updX
  rw [if_neg e]
  exact h.done t ht hl
 ·have e:t ≠ i:=by omega
  unfold updX
  rw [if_neg e]
  exact h.todo t ht hl
end
theorem GSt.begin {B m:Nat} {nn:Nat->Nat} {x:Nat->Value} {f:Nat->Nat->Nat} {V W:World} (FA:Fam B m x nn (mkA f m 0) W) (SV:Saved (Gx m x) V W) :
  GSt B m nn x W.heap.size V (W.alloc (.cells (madeCells #[.slice none 0 0] m) 23)) 0 8 False 0 x nn (fun _=>.slice none 0 0):=by
 have FA':Fam B m x nn (fun t _=>t % 256) W:=fam_cg8 FA fun t ht l _=>by unfold mkA; rw [if_pos (by omega)]
 refine ⟨⟨(ApN.begin FA').on (belNew W _),SV.below (belNew W _) SV.size,⟨_,heapNew W _,by simp [madeCells],fun t ht=>by simp [madeCells,ht,Nat.mod_one]⟩,SV.size,fun t ht k hk=>.inr ⟨t,ht,hk⟩⟩,fun t ht=>by rw [if_neg (by omega)]; rfl,fun t _ q=>by omega,fun t ht _=>⟨fun q=>q.elim,fun _=>rfl⟩⟩
end Go.Proofs.Ytmjpneaccjlpkaa.Tap

namespace Go.Proofs.Ytmjpneaccjlpkaa.Tap
open Go.RowKit Gf8 Aes By8 Cel Cf
/- The law's apart: the lists are grown. Written by tools/mkV9e.py. -/
theorem GSt.again {B m:Nat} {nn:Nat->Nat} {x:Nat->Value} {R:Nat} {V W:World} {gv:Nat->Value} {gl:Nat->Nat} {mo:Nat->Value} (h:GSt B m nn x R V W 0 8 False m gv gl mo):GSt B m nn x R V W 8 128 True 0 gv gl mo:=
 ⟨h.mn,fun t ht=>by rw [h.len t ht,if_pos ht,if_neg (by omega)],fun t _ q=>by omega,fun t ht _=>⟨fun _=>h.done t ht ht,fun q=>absurd trivial q⟩⟩
end Go.Proofs.Ytmjpneaccjlpkaa.Tap

namespace Go.Proofs.Ytmjpneaccjlpkaa.Tap
open Go.RowKit Gf8 Aes By8 Cel Cf
/- Parts; the law's alike where they are the same. Written by tools/mkV9g.py. -/
def ptC (n b c:Value):Array Value:=#[n,b,c]
theorem ptC_at {W:World} {g:Nat} {n b c:Value} {t:TypeId} (h:W.heap[g]?=some (.cells (ptC n b c) t)):W.cell? ⟨g,0,none⟩=some n/\W.cell? ⟨g,1,none⟩=some b/\W.cell? ⟨g,2,none⟩=some c:=by
 refine ⟨?_,?_,?_⟩
 ·rw [cell_of_row _ _ _ _ _ _ h]; rfl
 ·rw [cell_of_row _ _ _ _ _ _ h]; rfl
 ·rw [cell_of_row _ _ _ _ _ _ h]; rfl
section
variable {o:Oper} {a:Act} {w:World}
theorem execPt0 {x:Operand} {b:Nat} (ho:o.op=.fieldAddr 55 x 0) (hx:a.eval x=.pointer (some ⟨b,0,none⟩)):(execOp a.eval o).run Try.prog w=.ok (.value (.pointer (some ⟨b,0,none⟩))) w:=by
 unfold execOp
 simp only [ho,hx]
 simp [go_sem]
theorem execPt1 {x:Operand} {b:Nat} (ho:o.op=.fieldAddr 55 x 1) (hx:a.eval x=.pointer (some ⟨b,0,none⟩)):(execOp a.eval o).run Try.prog w=.ok (.value (.pointer (some ⟨b,1,none⟩))) w:=by
 unfold execOp
 simp only [ho,hx]
 simp [go_sem]
theorem execPt2 {x:Operand} {b:Nat} (ho:o.op=.fieldAddr 55 x 2) (hx:a.eval x=.pointer (some ⟨b,0,none⟩)):(execOp a.eval o).run Try.prog w=.ok (.value (.pointer (some ⟨b,2,none⟩))) w:=by
 unfold execOp
 simp only [ho,hx]
 simp [go_sem]
end
structure LA (ra rb:Nat) (a:Act):Prop where
 sz:a.tmps.size=48
 df:a.defers=[]
 t2:a.eval (.tmp 2)=.pointer (some ⟨ra,0,none⟩)
 t3:a.eval (.tmp 3)=.pointer (some ⟨rb,0,none⟩)
theorem LA.keep {ra rb:Nat} {a a':Act} {ds:List Nat} (h:LA ra rb a) (hs:a'.tmps.size=48) (hd:a'.defers=a.defers) (hf:∀ e,e ∉ ds->a'.eval (.tmp e)=a.eval (.tmp e)) (hk:([2,3]:List Nat).all (fun k=>!ds.contains k)=true):LA ra rb a':=by
 have hk2:∀ k,k ∈ ([2,3]:List Nat)->k ∉ ds:=fun k hk1=>by
  have:=List.all_eq_true.1 hk k hk1
  simpa using this
 exact ⟨hs,hd.trans h.df,(hf 2 (hk2 2 (by simp))).trans h.t2,(hf 3 (hk2 3 (by simp))).trans h.t3⟩
end Go.Proofs.Ytmjpneaccjlpkaa.Tap

namespace Go.Proofs.Ytmjpneaccjlpkaa.Tap
open Go.RowKit Gf8 Aes By8 Cel Cf
/- The law's lists. Written by tools/mkV9i.py. -/
theorem ownW_base9 {W:World} {B C t s n:Nat} {v:Value} {xs:List Value} (h:W.ownsRow C t s v n xs) (hB:B<=C):W.ownsRow B t s v n xs:=by
 refine ⟨h.1,?_⟩
 rcases h.2 with h | ⟨g,cap,cur,e,hC,h1⟩
 ·exact Or.inl h
 ·exact Or.inr ⟨g,cap,cur,e,Nat.le_trans hB hC,h1⟩
end Go.Proofs.Ytmjpneaccjlpkaa.Tap

namespace Go.Proofs.Ytmjpneaccjlpkaa.Tap
open Go.RowKit Gf8 Aes By8 Cel Cf
/- What Split answers. -/
def spE (len:Nat) (ch:Int):Nat:=if ch < 1\/64 < ch then 2 else if len < 18 then 3 else 0
def spC (len:Nat) (ch:Int):Nat:=if spE len ch=0 then ch.toNat else 0
def spA (len:Nat) (ch:Int):Nat:=if spE len ch=0 then 18 else 0
def spB (len:Nat) (ch:Int):Nat:=if spE len ch=0 then (len - 18) / 2 else 0
def spQ (len:Nat) (ch:Int):Nat:=if spE len ch=0 then (len - 18 - (len - 18) / 2) / ch.toNat else 0
def ptX (nv bv:Value) (x:Nat->Value):Nat->Value:=fun t=>if t=0 then nv else if t=1 then bv else x (t - 2)
def ptN (ln lb lq:Nat):Nat->Nat:=fun t=>if t=0 then ln else if t=1 then lb else lq
def ptF (f:Nat->Nat) (ln lb lq:Nat):Nat->Nat->Nat:=fun t j=>if t=0 then f j else if t=1 then f (ln+j) else f (ln+lb+(t - 2) * lq+j)
structure PtS (W:World) (B n:Nat) (nv bv cv:Value) (x:Nat->Value) (ln lb lq:Nat) (f:Nat->Nat):Prop where
 own:W.ownsRow B 23 1 cv n (lL x n)
 fam:Fam B (2+n) (ptX nv bv x) (ptN ln lb lq) (ptF f ln lb lq) W
theorem ownsLL_below {W W':World} {B n:Nat} {v:Value} {xs:List Value} {t:TypeId} {s:Nat} (h:W.ownsRow B t s v n xs) (hb:Below W.heap.size W W'):W'.ownsRow B t s v n xs:=by
 refine ⟨h.1,?_⟩
 rcases h.2 with h | ⟨g,cap,cur,e,hB,hg,hr⟩
 ·exact Or.inl h
 ·exact Or.inr ⟨g,cap,cur,e,hB,on9 hg hb,hr⟩
theorem PtS.on {W W':World} {B n:Nat} {nv bv cv:Value} {x:Nat->Value} {ln lb lq:Nat} {f:Nat->Nat} (h:PtS W B n nv bv cv x ln lb lq f) (hb:Below W.heap.size W W'):PtS W' B n nv bv cv x ln lb lq f:=⟨ownsLL_below h.own hb,h.fam.on hb⟩
theorem PtS.base {W:World} {B C n:Nat} {nv bv cv:Value} {x:Nat->Value} {ln lb lq:Nat} {f:Nat->Nat} (h:PtS W C n nv bv cv x ln lb lq f) (hB:B<=C):PtS W B n nv bv cv x ln lb lq f:=⟨ownW_base9 h.own hB,fam_base h.fam hB⟩
theorem pts_none (W:World) (B:Nat) (x:Nat->Value) (f:Nat->Nat):PtS W B 0 (.slice none 0 0) (.slice none 0 0) (.slice none 0 0) x 0 0 0 f:=by
 refine ⟨World.ownsRow_nil _ _ _ _,⟨fun t ht=>?_,fun s t hs ht _ q h=>?_⟩⟩
 ·have e:t=0\/t=1:=by omega
  rcases e with rfl | rfl <;> exact World.ownsRow_nil _ _ _ _
 ·have e:s=0\/s=1:=by omega
  rcases e with rfl | rfl <;> cases h
def LiR (R n i:Nat) (x:Nat->Value) (W:World):Prop:=∃ c,W.heap[R]?=some (.cells c 23)/\c.size=n/\∀ t,t < i->c[t]?=some (x t)
theorem LiR.on {R n i:Nat} {x:Nat->Value} {W W':World} (h:LiR R n i x W) (hb:Below W.heap.size W W'):LiR R n i x W':=by
 obtain ⟨c,h1,h2,h3⟩:=h
 exact ⟨c,on9 h1 hb,h2,h3⟩
theorem LiR.begin (W:World) (n:Nat) (x:Nat->Value):LiR W.heap.size n 0 x (W.alloc (.cells (madeCells #[.slice none 0 0] n) 23)):=⟨_,heapNew W _,by simp [madeCells],fun t ht=>by omega⟩
theorem LiR.put {R n i:Nat} {x:Nat->Value} {W:World} (h:LiR R n i x W) (hi:i < n) (r:Value):LiR R n (i+1) (updX x i r) (W.setCell ⟨R,0+i,none⟩ r):=by
 obtain ⟨c,h1,h2,h3⟩:=h
 refine ⟨c.setIfInBounds (0+i) r,heap4 _ h1,by rw [Array.size_setIfInBounds]; exact h2,fun t ht=>?_⟩
 rw [Array.getElem?_setIfInBounds,Nat.zero_add]
 unfold updX
 by_cases e:i=t
 ·subst e
  rw [if_pos rfl,if_pos rfl,if_pos (by omega)]
 ·rw [if_neg e,if_neg (fun q=>e q.symm)]
  exact h3 t (by omega)
theorem LiR.cell {R n i:Nat} {x:Nat->Value} {W:World} (h:LiR R n i x W) {k:Nat} (hk:k < n):(∃ v,W.cell? ⟨R,k,none⟩=some v)/\W.frozen? ⟨R,k,none⟩=false:=by
 obtain ⟨c,h1,h2,_⟩:=h
 exact ⟨⟨_,by rw [cell_of_row _ _ _ _ _ _ h1]; exact Array.getElem?_eq_getElem (by omega)⟩,frozen4 h1⟩
theorem LiR.own {R n B:Nat} {x:Nat->Value} {W:World} (h:LiR R n n x W) (hB:B<=R) (hn:n<=1000):W.ownsRow B 23 1 (.slice (some ⟨R,0,none⟩) n n) n (lL x n):=by
 obtain ⟨c,h1,h2,h3⟩:=h
 refine ⟨by rw [lL_len,Nat.mul_one],Or.inr ⟨R,n,c,rfl,hB,h1,Nat.le_refl _,by unfold maxLen; omega,by rw [h2,Nat.mul_one],?_⟩⟩
 apply List.ext_getElem?
 intro k
 by_cases e:k < n
 ·rw [List.getElem?_take,if_pos (by omega),Array.getElem?_toList,h3 k e,lL_get x n k e]
 ·rw [List.getElem?_eq_none (by simp; omega),List.getElem?_eq_none (by rw [lL_len]; omega)]
theorem fam_setL {B m R k:Nat} {x:Nat->Value} {nn:Nat->Nat} {ff:Nat->Nat->Nat} {W:World} {v:Value} {c:Array Value} (h:Fam B m x nn ff W) (hR:W.heap[R]?=some (.cells c 23)):Fam B m x nn ff (W.setCell ⟨R,k,none⟩ v):=
 ⟨fun t ht=>by
  have ht2:=h.rows t ht
  refine ⟨ht2.1,?_⟩
  rcases ht2.2 with e | ⟨g,cap,cur,e,hB,hg,hr⟩
  ·exact Or.inl e
  ·refine Or.inr ⟨g,cap,cur,e,hB,?_,hr⟩
   rw [heap4o _ hR (fun q=>?_)]
   ·exact hg
   ·subst q
    rw [hR] at hg
    injection hg with hg
    injection hg with _ hg _
    exact absurd hg (by decide),h.dis⟩
section
variable {o:Oper} {a:Act} {w:World}
theorem execQuoN {x y:Operand} {p q:Nat} (ho:o.op=.binOp .quo 3 x y 3) (hx:a.eval x=.int .i64 (p:Int)) (hy:a.eval y=.int .i64 (q:Int)) (hq:0 < q) (hp:p < 9223372036854775808):(execOp a.eval o).run Try.prog w=.ok (.value (.int .i64 ((p / q:Nat):Int))) w:=by
 have hl:p / q<=p:=Nat.div_le_self _ _
 have ew:∀ k:Nat,k < 9223372036854775808->IntKind.i64.wrap (k:Int)=(k:Int):=fun k hk=>by simp [IntKind.wrap,IntKind.bits,IntKind.signed]; omega
 have ec:(p:Int) / (q:Int)=((p / q:Nat):Int):=by simp
 have e2:=ew (p / q) (by omega)
 unfold execOp
 simp only [ho,hx,hy]
 simp [go_sem]
 rw [if_neg (by omega),ec,e2]
theorem execMulN {x y:Operand} {p q:Nat} (ho:o.op=.binOp .mul 3 x y 3) (hx:a.eval x=.int .i64 (p:Int)) (hy:a.eval y=.int .i64 (q:Int)) (h:p * q < 9223372036854775808):(execOp a.eval o).run Try.prog w=.ok (.value (.int .i64 ((p * q:Nat):Int))) w:=by
 have ew:IntKind.i64.wrap ((p:Int) * q)=((p * q:Nat):Int):=by
  rw [← Int.natCast_mul]
  simp [IntKind.wrap,IntKind.bits,IntKind.signed]
  omega
 unfold execOp
 simp only [ho,hx,hy]
 simp [go_sem,ew]
end
end Go.Proofs.Ytmjpneaccjlpkaa.Tap

namespace Go.Proofs.Ytmjpneaccjlpkaa.Tap
open Go.RowKit Gf8 Aes By8 Cel Cf
/- The program's pieces. Written by tools/mkV9r.py. -/
set_option maxRecDepth 100000 in
set_option maxHeartbeats 4000000 in
theorem pieces_any (f:Nat->Nat) (len n:Nat) (v:Value) (V:World) (hv:SliceN V v len f) (hl:len<=140737488351232) (hn0:0 < n) (hn:n<=64) (q:Nat) (hq:len / n=q) :
  Calls Try.prog 40 #[v,.int .i64 (n:Int)] V fun e w'=>∃ r x,e=.returned r/\w'.ownsRow V.heap.size 23 1 r n (lL x n)/\Fam V.heap.size n x (fun _=>q) (fun i j=>f (i * q+j)) w'/\Below V.heap.size V w':=by
 obtain ⟨ao,cap,rfl,hcl,_⟩:=id hv.shape
 have hql:q<=len:=by rw [← hq]; exact Nat.div_le_self _ _
 go_enter Try.func40,Try.ntmps40
 refine wp_seq ?_
 refine wo_ 34 [(0,.slice ao len cap),(1,.int .i64 ((n:Nat):Int))] ?_
 rintro a A ⟨t0,t1,-⟩
 refine wi_ A (h2_ t0 t1) (rf_ [] (h2_ t0 t1) ?_)
 rintro a A - ⟨t0,t1,-⟩
 have BW:Below V.heap.size V V:=Below.refl _ _
 have BB:=BW
 refine wp_seq ?_
 refine wi_ A (h2_ t0 t1) (rv_ 1 (.int .i64 ((len:Nat):Int)) (fun a e=>execLenV (len:=len) rfl (e _) ⟨_,_,rfl⟩) (rv_ 3 (.int .i64 ((q:Nat):Int)) (fun a e=>hq ▸ execQuoN (p:=len) (q:=n) rfl (e _) (e _) (by omega) (by omega)) (rf_ [(5,.int .i64 ((q:Nat):Int))] (h2_ t0 t1) ?_)))
 rintro a A ⟨t5,-⟩ ⟨t0,t1,-⟩
 refine wp_seq ?_
 obtain ⟨g6,egg6⟩:∃ z_:Nat,V.heap.size=z_:=⟨_,rfl⟩
 refine wi_ A (h3_ t0 t1 t5) (rs_ 1 (fun a e=>?_))
 refine stepV rfl rfl (execMkL rfl (e _) (e _) (by omega)) ⟨.slice (some ⟨g6,0,none⟩) n n,⟨_,rfl,by subst egg6; rfl⟩,fun X2 hX=>?_⟩
 have bQ:Below V.heap.size V X2:=by subst hX egg6; exact (belNew V _)
 have FR:(LiR g6 n 0 (fun _=>undef) X2):=by subst hX egg6; exact LiR.begin V n _
 have FF:(Fam V.heap.size 0 (fun _=>undef) (fun _=>q) (fun i j=>f (i * q+j)) X2):=by subst hX egg6; exact Fam.none _ _ _ _ _
 have Fge6:(V.heap.size<=g6):=by subst hX egg6; exact (BB).size
 replace BB:=BB.trans (bQ.mono BB.size)
 clear bQ hX egg6 e a
 refine rf_ [(6,.slice (some ⟨g6,0,none⟩) n n)] (h3_ t0 t1 t5) ?_
 rintro a A ⟨t6,-⟩ ⟨t0,t1,t5,-⟩
 refine wp_seq (wp_seq ?_)
 refine wi_ A (h4_ t0 t1 t5 t6) (rv_ 1 (.int .i64 ((n:Nat):Int)) (fun a e=>execLenL (len:=n) rfl (e _)) (rf_ [(15,.int .i64 ((n:Nat):Int)),(16,.int .i64 ((0:Nat):Int))] (h4_ t0 t1 t5 t6) ?_))
 rintro a A ⟨t15,t16,-⟩ ⟨t0,t1,t5,t6,-⟩
 refine wp_block ?_
 refine wp_loop (fun a W=>∃ (i:Nat) (x:Nat->Value),i<=n/\((a.tmps.size=34/\a.defers=[])/\a.eval (.tmp 0)=.slice ao len cap/\a.eval (.tmp 1)=.int .i64 ((n:Nat):Int)/\a.eval (.tmp 5)=.int .i64 ((q:Nat):Int)/\a.eval (.tmp 6)=.slice (some ⟨g6,0,none⟩) n n/\a.eval (.tmp 15)=.int .i64 ((n:Nat):Int)/\a.eval (.tmp 16)=.int .i64 ((i:Nat):Int)/\Below V.heap.size V W/\LiR g6 n i x W/\Fam V.heap.size i x (fun _=>q) (fun i j=>f (i * q+j)) W)) (fun a _=>n - (intOf (a.eval (.tmp 16))).toNat) ⟨0,_,by omega,A,t0,t1,t5,t6,t15,t16,BB,FR,FF⟩ ?_
 rintro a XL ⟨i,x,hi,A,t0,t1,t5,t6,t15,t16,BB,FR,FF⟩
 have e16:=t16
 refine wp_seq ?_
 refine wi_ A (h6_ t0 t1 t5 t6 t15 t16) (rv_ 0 (.bool (decide (i < n))) (fun a e=>execLtW (p:=i) (q:=n) rfl (e _) (e _)) (rf_ [(17,.bool (decide (i < n)))] (h6_ t0 t1 t5 t6 t15 t16) ?_))
 rintro a A ⟨t17,-⟩ ⟨t0,t1,t5,t6,t15,t16,-⟩
 refine wp_seq ?_
 by_cases hlt:i < n
 ·rw [decide_eq_true hlt] at t17
  refine wp_cond_true t17 (wp_skip ?_)
  clear t17
  have h1q:i * q<=(i+1) * q:=Nat.mul_le_mul_right _ (by omega)
  have h2q:(i+1) * q<=len:=Nat.le_trans (Nat.mul_le_mul_right q (show i+1<=n by omega)) (by rw [← hq]; exact Nat.mul_div_le len n)
  have h3q:(i+1) * q=i * q+q:=by rw [Nat.add_mul,Nat.one_mul]
  have hs:SliceN V (sliced ao (i * q) ((i+1) * q) cap 1) q (fun j=>f (i * q+j)):=by
   have:=hv.sub (i * q) ((i+1) * q) h1q h2q
   rw [show (i+1) * q - i * q=q by omega] at this
   exact this
  refine wp_seq (wp_block ?_)
  refine wp_seq ?_
  refine wi_ A (h6_ t0 t1 t5 t6 t15 t16) (rf_ [(7,.int .i64 ((i:Nat):Int))] (h6_ t0 t1 t5 t6 t15 t16) ?_)
  rintro a A ⟨t7,-⟩ ⟨t0,t1,t5,t6,t15,t16,-⟩
  refine wi_ A (h7_ t0 t1 t5 t6 t15 t16 t7) (rv_ 5 (.int .i64 ((i * q:Nat):Int)) (fun a e=>execMulN (p:=i) (q:=q) rfl (e _) (e _) (by omega)) (rv_ 7 (.int .i64 ((i+1:Nat):Int)) (fun a e=>execAd8 (p:=i) (q:=1) rfl (e _) rfl (by omega)) (rv_ 9 (.int .i64 (((i+1) * q:Nat):Int)) (fun a e=>execMulN (p:=i+1) (q:=q) rfl (e _) (e _) (by omega)) (rv_ 10 ((sliced ao (i * q) ((i+1) * q) cap 1)) (fun a e=>By8.execSlLH rfl (e _) (e _) (e _) (By8.slice_lh ao len cap (i * q) ((i+1) * q) h1q (by omega) XL)) (rc_ 11 (clone9 (fun j=>f (i * q+j)) q _ XL (hs.on BB) (by omega)) fun e X6_1 hh=>?_)))))
  obtain ⟨v30,he,hown,hb⟩:=hh
  refine ⟨_,he,?_⟩
  have bQ:Below XL.heap.size XL X6_1:=hb
  have FG:(Fam V.heap.size (i+1) (updX x i v30) (fun _=>q) (fun i j=>f (i * q+j)) X6_1):=FF.add hb (BB).size hown
  have Fsh:(∃ g_ n_ c_,v30=.slice g_ n_ c_):=(by obtain ⟨g_,c_,e_⟩:=ownQ_shape hown; exact ⟨g_,_,c_,e_⟩)
  replace FR:=(FR.on bQ)
  replace BB:=BB.trans (bQ.mono BB.size)
  clear FF bQ
  refine rv_ 12 (.pointer (some ⟨g6,0+i,none⟩)) (fun a e=>Cf.execIdxL (k:=i) rfl (e _) (e _) hlt) (rs_ 13 (fun a e=>?_))
  obtain ⟨⟨old,hc⟩,hfz⟩:=FR.cell (show 0+i < n by omega)
  obtain ⟨c_,hR,_⟩:=id FR
  refine stepS rfl rfl (execStL rfl (e _) (e _) Fsh hc hfz) ⟨_,⟨_,rfl,rfl⟩,fun X6 hX=>?_⟩
  obtain ⟨BB,FG,FR2⟩:Below V.heap.size V X6/\(Fam V.heap.size (i+1) (updX x i v30) (fun _=>q) (fun i j=>f (i * q+j)) X6)/\(LiR g6 n (i+1) (updX x i v30) X6):=by subst hX; exact ⟨(BB).setCell Fge6 _,fam_setL FG hR,FR.put hlt _⟩
  clear FR Fsh hX e a
  refine rf_ [] (h6_ t0 t1 t5 t6 t15 t16) ?_
  rintro a A - ⟨t0,t1,t5,t6,t15,t16,-⟩
  refine wi_ A (h6_ t0 t1 t5 t6 t15 t16) (rv_ 0 (.int .i64 ((i+1:Nat):Int)) (fun a e=>execAd8 (p:=i) (q:=1) rfl (e _) rfl (by omega)) (rf_ [(16,.int .i64 ((i+1:Nat):Int))] (h5_ t0 t1 t5 t6 t15) ?_))
  rintro a A ⟨t16,-⟩ ⟨t0,t1,t5,t6,t15,-⟩
  exact ⟨⟨i+1,_,hlt,A,t0,t1,t5,t6,t15,t16,BB,FR2,FG⟩,by show n - (intOf (a.eval (.tmp 16))).toNat < n - (intOf (Act.eval _ (.tmp 16))).toNat; rw [t16,e16]; show n - (i+1) < n - i; omega⟩
 ·rw [decide_eq_false hlt] at t17
  refine wp_cond_false t17 ?_
  refine wp_exit ?_
  first | with_reducible refine exit_in ?_ | with_reducible refine exit_then (exit_in ?_) | with_reducible refine exit_then (exit_then (exit_in ?_)) | refine exit_in ?_ | refine exit_then (exit_in ?_) | refine exit_then (exit_then (exit_in ?_))
  clear t17
  have hin:i=n:=by omega
  rw [hin] at FR FF
  refine wp_seq ?_
  refine wi_ A (h6_ t0 t1 t5 t6 t15 t16) (rg_ [(4,.slice (some ⟨g6,0,none⟩) n n)] ?_)
  rintro a A ⟨t4,-⟩
  refine wp_ret ?_
  refine bodyPost_ret (results_tmp rfl _ _ _) A.2 ⟨_,x,?_,FR.own Fge6 (by omega),FF,BB⟩
  show Ending.returned (a.eval (.tmp 4))=_
  rw [t4]
end Go.Proofs.Ytmjpneaccjlpkaa.Tap
