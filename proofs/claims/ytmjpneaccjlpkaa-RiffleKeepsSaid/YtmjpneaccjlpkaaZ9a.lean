import Derived.Test.YtmjpneaccjlpkaaG9a
namespace Go.Proofs.Ytmjpneaccjlpkaa.Drw
/- A tape that is turned. -/
section
variable {p:Nat->Nat} {l:Nat} {bs ws:Nat->Int} {n:Nat}
theorem plA_step (h:okA p l bs n) {i:Nat} (hi:i < n):(bs i=1->plA p l bs (i+1)=plA p l bs i)/\(bs i ≠ 1->plA p l bs (i+1)=dS p l (plA p l bs i) (bs i)+1/\dS p l (plA p l bs i) (bs i) < l/\plA p l bs i<=dS p l (plA p l bs i) (bs i)):=by
 have e:=h i hi
 have hok:=dE_ok e
 refine ⟨fun h1=>?_,fun h1=>?_⟩
 ·show dN p l (plA p l bs i) (bs i)=_
  unfold dN
  rw [if_pos e,if_pos h1]
 ·refine ⟨?_,?_,?_⟩
  ·show dN p l (plA p l bs i) (bs i)=_
   unfold dN
   rw [if_pos e,if_neg h1]
  ·rcases hok.2 with h2 | h2
   ·exact absurd h2 h1
   ·exact h2
  ·exact (scan_in _ _ _ _).1
theorem plA_mono (h:okA p l bs n) {i j:Nat} (hij:i<=j) (hj:j<=n):plA p l bs i<=plA p l bs j:=by
 induction j with
 | zero=>
  have:i=0:=by omega
  subst this
  exact Nat.le_refl _
 | succ k ih=>
  by_cases e:i=k+1
  ·subst e; exact Nat.le_refl _
  ·exact Nat.le_trans (ih (by omega) (by omega)) (dN_ge (h k (by omega)))
def tp (p:Nat->Nat) (l:Nat) (bs:Nat->Int) (i:Nat):Nat:=plA p l bs (i+1) - 1
theorem tp_is (h:okA p l bs n) {i:Nat} (hi:i < n) (h1:bs i ≠ 1):tp p l bs i=dS p l (plA p l bs i) (bs i)/\plA p l bs i<=tp p l bs i/\tp p l bs i < l/\plA p l bs (i+1)=tp p l bs i+1:=by
 obtain ⟨e1,e2,e3⟩:=(plA_step h hi).2 h1
 have e4:tp p l bs i=dS p l (plA p l bs i) (bs i):=by unfold tp; rw [e1]; rfl
 rw [e4]
 exact ⟨rfl,e3,e2,e1⟩
theorem tp_lt (h:okA p l bs n) {i j:Nat} (hij:i < j) (hj:j < n) (h1:bs i ≠ 1) (h2:bs j ≠ 1):tp p l bs i < tp p l bs j:=by
 have a:=tp_is h (show i < n by omega) h1
 have b:=tp_is h hj h2
 have c:=plA_mono h (show i+1<=j by omega) (by omega)
 omega
theorem dA_is (h:okA p l bs n) {i:Nat} (hi:i < n) (h1:bs i ≠ 1):dA p l bs i=p (tp p l bs i) % (bs i).toNat:=by
 unfold dA dV
 rw [if_pos ⟨h i hi,h1⟩,(tp_is h hi h1).1]
theorem trF_at (h:okA p l bs n):∀ {m i},i < m->m<=n->bs i ≠ 1->trF p l bs ws m (tp p l bs i)=p (tp p l bs i) - dA p l bs i+(ws i).toNat
 | 0,i,hi,_,_=>by omega
 | m+1,i,hi,hm,h1=>by
  show (if bs m ≠ 1/\tp p l bs i=plA p l bs (m+1) - 1 then _ else trF p l bs ws m (tp p l bs i))=_
  by_cases e:i=m
  ·subst e
   rw [if_pos ⟨h1,rfl⟩]
  ·rw [if_neg (fun q=>by
    have:=tp_lt h (show i < m by omega) (by omega) h1 q.1
    have:tp p l bs m=plA p l bs (m+1) - 1:=rfl
    omega)]
   exact trF_at h (by omega) (by omega) h1
theorem trF_else:∀ {m j},(∀ i,i < m->bs i ≠ 1->j ≠ tp p l bs i)->trF p l bs ws m j=p j
 | 0,_,_=>rfl
 | m+1,j,h=>by
  show (if bs m ≠ 1/\j=plA p l bs (m+1) - 1 then _ else trF p l bs ws m j)=_
  rw [if_neg (fun q=>h m (by omega) q.1 q.2)]
  exact trF_else fun i hi=>h i (by omega)
def wOk (bs ws:Nat->Int) (n:Nat):Prop:=∀ i,i < n->0<=ws i/\ws i < bs i
theorem anyW_no {bs ws:Nat->Int}:∀ {n},anyW bs ws n=false ↔ wOk bs ws n
 | 0=>⟨fun _ i h=>by omega,fun _=>rfl⟩
 | n+1=>by
  simp only [anyW,Bool.or_eq_false_iff,decide_eq_false_iff_not]
  rw [anyW_no]
  refine ⟨fun h i hi=>?_,fun h=>⟨fun i hi=>h i (by omega),by have:=h n (by omega); omega⟩⟩
  by_cases q:i=n
  ·subst q; have:=h.2; omega
  ·exact h.1 i (by omega)
theorem turned (v b w:Nat) (hw:w < b):(v - v % b+w) / b=v / b/\(v - v % b+w) % b=w:=by
 have hb:0 < b:=by omega
 have e:v - v % b=b * (v / b):=by have:=Nat.div_add_mod v b; omega
 rw [e]
 refine ⟨?_,?_⟩
 ·rw [Nat.mul_add_div hb,Nat.div_eq_of_lt hw,Nat.add_zero]
 ·rw [Nat.mul_add_mod,Nat.mod_eq_of_lt hw]
theorem turned_lt (v b w:Nat) (hw:w < b) (hv:v / b < 256 / b) (h256:b<=256):v - v % b+w < 256:=by
 have hb:0 < b:=by omega
 have h1:=(turned v b w hw).1
 have h2:(v - v % b+w) < ((v - v % b+w) / b+1) * b:=by
  rw [Nat.mul_comm]
  exact Nat.lt_mul_div_succ _ hb
 rw [h1] at h2
 have h3:(v / b+1) * b<=(256 / b) * b:=Nat.mul_le_mul_right _ hv
 have h4:(256 / b) * b<=256:=Nat.div_mul_le_self _ _
 omega
theorem ok_pos (h:okA p l bs n) {i:Nat} (hi:i < n):1<=bs i/\bs i<=256:=by
 have:=(dE_ok (h i hi)).1
 unfold bad at this
 omega
theorem turn_tells (h:okA p l bs n) (hw:wOk bs ws n):∀ {i},i<=n->plA (trF p l bs ws n) l bs i=plA p l bs i/\∀ k,k < i->dE (trF p l bs ws n) l (plA p l bs k) (bs k)=0/\(dV (trF p l bs ws n) l (plA p l bs k) (bs k):Int)=ws k
 | 0,_=>⟨rfl,fun k hk=>by omega⟩
 | i+1,hi=>by
  obtain ⟨ih1,ih2⟩:=turn_tells h hw (i:=i) (by omega)
  have hb:=ok_pos h (show i < n by omega)
  have key:dE (trF p l bs ws n) l (plA p l bs i) (bs i)=0/\(dV (trF p l bs ws n) l (plA p l bs i) (bs i):Int)=ws i/\dN (trF p l bs ws n) l (plA p l bs i) (bs i)=plA p l bs (i+1):=by
   have nb:¬ (bs i < 1\/256 < bs i):=by omega
   by_cases h1:bs i=1
   ·have e:dE (trF p l bs ws n) l (plA p l bs i) (bs i)=0:=by
     unfold dE
     rw [if_neg nb,if_pos h1]
    refine ⟨e,?_,?_⟩
    ·unfold dV
     rw [if_neg (fun q=>q.2 h1)]
     have:=hw i (by omega)
     omega
    ·unfold dN
     rw [if_pos e,if_pos h1,(plA_step h (show i < n by omega)).1 h1]
   ·obtain ⟨t1,t2,t3,t4⟩:=tp_is h (show i < n by omega) h1
    have wl:(ws i).toNat < (bs i).toNat:=by have:=hw i (by omega); omega
    have hq:trF p l bs ws n (tp p l bs i)=p (tp p l bs i) - p (tp p l bs i) % (bs i).toNat+(ws i).toNat:=by
     rw [trF_at h (show i < n by omega) (Nat.le_refl _) h1,dA_is h (by omega) h1]
    have ht:=turned (p (tp p l bs i)) _ _ wl
    have hit:p (tp p l bs i) / (bs i).toNat < 256 / (bs i).toNat:=by
     rw [t1]
     exact scan_hit _ _ _ _ (by
      have:scan p (bs i).toNat (l - plA p l bs i) (plA p l bs i)=tp p l bs i:=t1.symm
      rw [this]
      omega)
    have hsc:dS (trF p l bs ws n) l (plA p l bs i) (bs i)=tp p l bs i:=by
     unfold dS
     refine scan_is _ _ _ _ _ t2 (by omega) (by rw [hq,ht.1]; exact hit) fun j h2 h3=>?_
     rw [trF_else fun k hk hk1=>?_]
     ·exact scan_pass p (bs i).toNat (l - plA p l bs i) (plA p l bs i) j h2 (by
       have:scan p (bs i).toNat (l - plA p l bs i) (plA p l bs i)=tp p l bs i:=t1.symm
       rw [this]
       exact h3)
     ·have a:=tp_is h hk hk1
      by_cases c:k < i
      ·have:=plA_mono h (show k+1<=i by omega) (by omega)
       omega
      ·by_cases c2:k=i
       ·subst c2; omega
       ·have:=tp_lt h (show i < k by omega) hk h1 hk1
        omega
    have e:dE (trF p l bs ws n) l (plA p l bs i) (bs i)=0:=by
     unfold dE
     rw [if_neg nb,if_neg h1,hsc,if_pos t3]
    refine ⟨e,?_,?_⟩
    ·unfold dV
     rw [if_pos ⟨e,h1⟩,hsc,hq,ht.2]
     have:=hw i (by omega)
     omega
    ·unfold dN
     rw [if_pos e,if_neg h1,hsc,t4]
  refine ⟨?_,fun k hk=>?_⟩
  ·show dN (trF p l bs ws n) l (plA (trF p l bs ws n) l bs i) (bs i)=_
   rw [ih1]
   exact key.2.2
  ·by_cases e:k=i
   ·subst e; exact ⟨key.1,key.2.1⟩
   ·exact ih2 k (by omega)
theorem turn_ok (h:okA p l bs n) (hw:wOk bs ws n):okA (trF p l bs ws n) l bs n:=fun i hi=>by
 rw [(turn_tells h hw (i:=i) (by omega)).1]
 exact ((turn_tells h hw (i:=n) (Nat.le_refl _)).2 i hi).1
theorem turn_dA (h:okA p l bs n) (hw:wOk bs ws n) {i:Nat} (hi:i < n):(dA (trF p l bs ws n) l bs i:Int)=ws i:=by
 unfold dA
 rw [(turn_tells h hw (i:=i) (by omega)).1]
 exact ((turn_tells h hw (i:=n) (Nat.le_refl _)).2 i hi).2
theorem turn_tp (h:okA p l bs n) (hw:wOk bs ws n) {i:Nat} (hi:i < n):tp (trF p l bs ws n) l bs i=tp p l bs i:=by
 unfold tp
 rw [(turn_tells h hw (i:=i+1) (by omega)).1]
theorem turn_turn {us:Nat->Int} (h:okA p l bs n) (hw:wOk bs ws n) (j:Nat):trF (trF p l bs ws n) l bs us n j=trF p l bs us n j:=by
 by_cases e:∃ i,i < n/\bs i ≠ 1/\j=tp p l bs i
 ·obtain ⟨i,hi,h1,rfl⟩:=e
  have wl:(ws i).toNat < (bs i).toNat:=by have:=hw i hi; omega
  have hq:trF p l bs ws n (tp p l bs i)=p (tp p l bs i) - p (tp p l bs i) % (bs i).toNat+(ws i).toNat:=by
   rw [trF_at h hi (Nat.le_refl _) h1,dA_is h hi h1]
  have hd:dA (trF p l bs ws n) l bs i=(ws i).toNat:=by have:=turn_dA h hw hi; omega
  have h2:=trF_at (ws:=us) (turn_ok h hw) hi (Nat.le_refl _) h1
  rw [turn_tp h hw hi] at h2
  rw [h2,hd,hq,trF_at (ws:=us) h hi (Nat.le_refl _) h1,dA_is h hi h1]
  omega
 ·rw [trF_else (fun i hi h1 q=>e ⟨i,hi,h1,by rw [← turn_tp h hw hi]; exact q⟩),trF_else (fun i hi h1 q=>e ⟨i,hi,h1,q⟩),trF_else (fun i hi h1 q=>e ⟨i,hi,h1,q⟩)]
theorem turn_own (h:okA p l bs n) (hw:∀ i,i < n->ws i=dA p l bs i) (j:Nat):trF p l bs ws n j=p j:=by
 by_cases e:∃ i,i < n/\bs i ≠ 1/\j=tp p l bs i
 ·obtain ⟨i,hi,h1,rfl⟩:=e
  rw [trF_at h hi (Nat.le_refl _) h1,hw i hi,dA_is h hi h1]
  have:p (tp p l bs i) % (bs i).toNat<=p (tp p l bs i):=Nat.mod_le _ _
  omega
 ·rw [trF_else (fun i hi h1 q=>e ⟨i,hi,h1,q⟩)]
theorem turn_byte (h:okA p l bs n) (hw:wOk bs ws n) (hp:∀ j,j < l->p j < 256) {j:Nat} (hj:j < l):trF p l bs ws n j < 256:=by
 by_cases e:∃ i,i < n/\bs i ≠ 1/\j=tp p l bs i
 ·obtain ⟨i,hi,h1,rfl⟩:=e
  have wl:(ws i).toNat < (bs i).toNat:=by have:=hw i hi; omega
  obtain ⟨t1,t2,t3,t4⟩:=tp_is h hi h1
  rw [trF_at h hi (Nat.le_refl _) h1,dA_is h hi h1]
  have hb:=ok_pos h hi
  refine turned_lt _ _ _ wl ?_ (by omega)
  rw [t1]
  exact scan_hit _ _ _ _ (by
   have:scan p (bs i).toNat (l - plA p l bs i) (plA p l bs i)=tp p l bs i:=t1.symm
   rw [this]
   omega)
 ·rw [trF_else (fun i hi h1 q=>e ⟨i,hi,h1,q⟩)]
  exact hp j hj
end
end Go.Proofs.Ytmjpneaccjlpkaa.Drw

namespace Go.Proofs.Ytmjpneaccjlpkaa.Drw
/- Draws in pieces, and of other tapes that begin alike. -/
def catI (m:Nat) (a b:Nat->Int):Nat->Int:=fun i=>if i < m then a i else b (i - m)
theorem catI_lo {m i:Nat} {a b:Nat->Int} (h:i < m):catI m a b i=a i:=if_pos h
theorem catI_hi {m i:Nat} {a b:Nat->Int}:catI m a b (m+i)=b i:=by unfold catI; rw [if_neg (by omega),Nat.add_sub_cancel_left]
section
variable {p:Nat->Nat} {l m:Nat} {a b:Nat->Int}
end
theorem scan_eq {p q:Nat->Nat} {b:Nat}:∀ {k at'},(∀ j,j < at'+k->p j=q j)->scan p b k at'=scan q b k at'
 | 0,_,_=>rfl
 | k+1,at',h=>by
  unfold scan
  rw [h at' (by omega),scan_eq (at':=at'+1) fun j hj=>h j (by omega)]
end Go.Proofs.Ytmjpneaccjlpkaa.Drw

namespace Go.Proofs.Ytmjpneaccjlpkaa.Drw
open Go.RowKit Gf8 Aes By8 Cel Cf Tap
/- Lists of ints. -/
structure SliceI (w:World) (v:Value) (len:Nat) (f:Nat->Int):Prop where
 shape:∃ a cap,v=.slice a len cap/\len<=cap/\cap<=maxLen/\(0 < len->∃ b off,a=some ⟨b,off,none⟩/\b < w.heap.size/\∀ j,j < len->w.cell? ⟨b,off+j,none⟩=some (.int .i64 (f j)))
 fits:∀ j,j < len->-9223372036854775808<=f j/\f j < 9223372036854775808
theorem SliceI.on {w w':World} {v:Value} {len:Nat} {f:Nat->Int} (h:SliceI w v len f) (hb:Below w.heap.size w w'):SliceI w' v len f:=by
 obtain ⟨⟨a,cap,e,h1,h2,h3⟩,hp⟩:=h
 refine ⟨⟨a,cap,e,h1,h2,fun h0=>?_⟩,hp⟩
 obtain ⟨b,off,e1,e2,e3⟩:=h3 h0
 exact ⟨b,off,e1,Nat.lt_of_lt_of_le e2 hb.size,fun j hj=>by rw [cell_below hb e2]; exact e3 j hj⟩
theorem SliceI.cg {w:World} {v:Value} {len:Nat} {f g:Nat->Int} (h:SliceI w v len f) (e:∀ j,j < len->f j=g j):SliceI w v len g:=by
 obtain ⟨⟨a,cap,q,h1,h2,h3⟩,hp⟩:=h
 refine ⟨⟨a,cap,q,h1,h2,fun h0=>?_⟩,fun j hj=>by rw [← e j hj]; exact hp j hj⟩
 obtain ⟨b,off,e1,e2,e3⟩:=h3 h0
 exact ⟨b,off,e1,e2,fun j hj=>by rw [e3 j hj,e j hj]⟩
theorem SliceI.shp {w:World} {v:Value} {len:Nat} {f:Nat->Int} (h:SliceI w v len f):∃ a c,v=.slice a len c:=by
 obtain ⟨a,c,e,_⟩:=h.shape
 exact ⟨a,c,e⟩
theorem slice_nilI {V:World} {f:Nat->Int}:SliceI V (.slice none 0 0) 0 f:=⟨⟨_,_,rfl,Nat.le_refl _,by unfold maxLen; omega,fun h=>by omega⟩,fun j hj=>by omega⟩
def intsL (n:Nat) (f:Nat->Int):List Value:=(List.range n).map fun j=>.int .i64 (f j)
theorem intsL_len (n:Nat) (f:Nat->Int):(intsL n f).length=n:=by simp [intsL]
theorem intsL_get {n j:Nat} {f:Nat->Int} (h:j < n):(intsL n f)[j]?=some (.int .i64 (f j)):=by simp [intsL,h]
theorem intsL_succ (n:Nat) (f:Nat->Int):intsL (n+1) f=intsL n f ++ [.int .i64 (f n)]:=by simp [intsL,List.range_succ]
theorem intsL_congr {n:Nat} {f g:Nat->Int} (h:∀ j,j < n->f j=g j):intsL n f=intsL n g:=by
 unfold intsL
 apply List.map_congr_left
 intro i hi
 rw [h i (List.mem_range.1 hi)]
theorem own_ints {W:World} {B n:Nat} {v:Value} {f:Nat->Int} (h:W.ownsRow B 3 1 v n (intsL n f)) (hf:∀ j,j < n->-9223372036854775808<=f j/\f j < 9223372036854775808):SliceI W v n f:=by
 rcases h.2 with ⟨rfl,rfl⟩ | ⟨g,cap,cur,rfl,_,hg,h1,h2,h3,h4⟩
 ·exact slice_nilI
 ·refine ⟨⟨_,_,rfl,h1,h2,fun _=>⟨g,0,rfl,(Array.getElem?_eq_some_iff.1 hg).1,fun j hj=>?_⟩⟩,hf⟩
  rw [cell_of_row _ _ _ _ _ _ hg,Nat.zero_add,← Array.getElem?_toList]
  have:=intsL_get (f:=f) hj
  rw [← h4,List.getElem?_take,if_pos (by omega)] at this
  exact this
section
variable {o:Oper} {a:Act} {w:World}
theorem execLenI {x:Operand} {v:Value} {len:Nat} (ho:o.op=.call { callee:=.builtin .len,args:=#[x],argTypes:=#[24] }) (hx:a.eval x=v) (hv:∃ ao c,v=.slice ao len c):(execOp a.eval o).run Try.prog w=.ok (.value (.int .i64 (len:Int))) w:=by
 obtain ⟨ao,c,rfl⟩:=hv
 unfold execOp
 simp only [ho,resolve,invoke,builtin,Sem.run_bind,Sem.run_pure,Result.andThen_ok,List.map_toArray,List.map_cons,List.map_nil,hx]
 simp [go_sem]
theorem execIdxN {x i:Operand} {g off n cap k:Nat} (ho:o.op=.indexAddr 24 x i) (hx:a.eval x=.slice (some ⟨g,off,none⟩) n cap) (hi:a.eval i=.int .i64 (k:Int)) (hk:k < n):(execOp a.eval o).run Try.prog w=.ok (.value (.pointer (some ⟨g,off+k,none⟩))) w:=by
 have h1:(k:Int) < n:=by omega
 unfold execOp
 simp only [ho,hx,hi]
 simp [go_sem,h1]
theorem execIdxB9 {x i:Operand} {g off n cap k:Nat} (ho:o.op=.indexAddr 23 x i) (hx:a.eval x=.slice (some ⟨g,off,none⟩) n cap) (hi:a.eval i=.int .i64 (k:Int)) (hk:k < n):(execOp a.eval o).run Try.prog w=.ok (.value (.pointer (some ⟨g,off+k,none⟩))) w:=by
 have h1:(k:Int) < n:=by omega
 unfold execOp
 simp only [ho,hx,hi]
 simp [go_sem,h1]
theorem execCv53 {x:Operand} {p:Nat} (ho:o.op=.convert 5 3 x) (hx:a.eval x=.int .u8 (p:Int)) (h:p < 256):(execOp a.eval o).run Try.prog w=.ok (.value (.int .i64 (p:Int))) w:=by
 have e:IntKind.i64.wrap (p:Int)=(p:Int):=by simp [IntKind.wrap,IntKind.bits,IntKind.signed]; omega
 unfold execOp
 simp only [ho,hx]
 simp [go_sem,e]
theorem execLtCt {x:Operand} {p q:Int} (ho:o.op=.binOp .lss 3 x (.const (.int .i64 q)) 3) (hx:a.eval x=.int .i64 p) (h:p < q):(execOp a.eval o).run Try.prog w=.ok (.value (.bool true)) w:=by
 unfold execOp
 simp only [ho,hx]
 simp [go_sem,h]
theorem execLtCf {x:Operand} {p q:Int} (ho:o.op=.binOp .lss 3 x (.const (.int .i64 q)) 3) (hx:a.eval x=.int .i64 p) (h:¬ p < q):(execOp a.eval o).run Try.prog w=.ok (.value (.bool false)) w:=by
 unfold execOp
 simp only [ho,hx]
 simp [go_sem]
 omega
theorem execGtCt {x:Operand} {p q:Int} (ho:o.op=.binOp .gtr 3 x (.const (.int .i64 q)) 3) (hx:a.eval x=.int .i64 p) (h:q < p):(execOp a.eval o).run Try.prog w=.ok (.value (.bool true)) w:=by
 unfold execOp
 simp only [ho,hx]
 simp [go_sem,h]
theorem execGtCf {x:Operand} {p q:Int} (ho:o.op=.binOp .gtr 3 x (.const (.int .i64 q)) 3) (hx:a.eval x=.int .i64 p) (h:¬ q < p):(execOp a.eval o).run Try.prog w=.ok (.value (.bool false)) w:=by
 unfold execOp
 simp only [ho,hx]
 simp [go_sem]
 omega
theorem execNeI {x y:Operand} {p:Int} (ho:o.op=.binOp .neq 3 x y 3) (hx:a.eval x=.int .i64 p) (hy:a.eval y=.int .i64 p):(execOp a.eval o).run Try.prog w=.ok (.value (.bool false)) w:=by
 unfold execOp
 simp only [ho,hx,hy]
 simp [go_sem]
theorem execGeIt {x y:Operand} {p q:Int} (ho:o.op=.binOp .geq 3 x y 3) (hx:a.eval x=.int .i64 p) (hy:a.eval y=.int .i64 q) (h:q<=p):(execOp a.eval o).run Try.prog w=.ok (.value (.bool true)) w:=by
 unfold execOp
 simp only [ho,hx,hy]
 simp [go_sem]
 omega
theorem execGeIf {x y:Operand} {p q:Int} (ho:o.op=.binOp .geq 3 x y 3) (hx:a.eval x=.int .i64 p) (hy:a.eval y=.int .i64 q) (h:¬ q<=p):(execOp a.eval o).run Try.prog w=.ok (.value (.bool false)) w:=by
 unfold execOp
 simp only [ho,hx,hy]
 simp [go_sem]
 omega
theorem execQuoD {x y:Operand} {p q:Nat} (ho:o.op=.binOp .quo 3 x y 3) (hx:a.eval x=.int .i64 (p:Int)) (hy:a.eval y=.int .i64 (q:Int)) (hq:0 < q) (hp:p < 9223372036854775808):(execOp a.eval o).run Try.prog w=.ok (.value (.int .i64 ((p / q:Nat):Int))) w:=by
 have hl:p / q<=p:=Nat.div_le_self _ _
 have ew:∀ k:Nat,k < 9223372036854775808->IntKind.i64.wrap (k:Int)=(k:Int):=fun k hk=>by simp [IntKind.wrap,IntKind.bits,IntKind.signed]; omega
 have ec:(p:Int) / (q:Int)=((p / q:Nat):Int):=by simp
 have e2:=ew (p / q) (by omega)
 unfold execOp
 simp only [ho,hx,hy]
 simp [go_sem]
 rw [if_neg (by omega),ec,e2]
set_option maxRecDepth 100000 in
theorem execMkI {x:Operand} {n:Nat} (ho:o.op=.makeSlice 24 (.const (.int .i64 0)) x) (hx:a.eval x=.int .i64 (n:Int)) (hn:n<=17592186044416):(execOp a.eval o).run Try.prog w=.ok (.value (.slice (some ⟨w.heap.size,0,none⟩) 0 n)) (w.alloc (.cells (madeCells #[.int .i64 0] n) 3)):=by
 obtain ⟨i,h1,h2,h3,h4⟩:∃ i,Try.prog.info? 3=some i/\i.zero=some (.int .i64 0)/\i.size=1/\i.bytes=8:=⟨_,rfl,by kernel_rfl,by kernel_rfl,by kernel_rfl⟩
 have h:=run_make (P:=Try.prog) w 24 3 i (.int .i64 0) Try.underlying24 h1 h2 .i64 .i64 0 (n:Int) (by omega) (by omega) (by rw [h4]; omega) (by omega)
 rw [h3,Int.toNat_natCast,Nat.mul_one] at h
 have ec:a.eval (.const (.int .i64 0))=.int .i64 0:=rfl
 unfold execOp
 simp only [ho,hx,ec,Sem.run_bind,h,Result.andThen_ok,Sem.run_pure]
 rfl
set_option maxRecDepth 100000 in
theorem execBsI {x:Operand} {z:Int} (ho:o.op=.buildSlice 24 1 #[(0,x)]) (hx:a.eval x=.int .i64 z):(execOp a.eval o).run Try.prog w=.ok (.value (.slice (some ⟨w.heap.size,0,none⟩) 1 1)) (w.alloc (.cells #[.int .i64 z] 3)):=by
 unfold execOp
 simp only [ho,List.map_toArray,List.map_cons,List.map_nil,hx]
 simp [go_sem]
end
set_option maxRecDepth 100000 in
theorem infoI:∃ i,Try.prog.info? 3=some i/\i.zero=some (.int .i64 0)/\i.size=1/\i.bytes=8:=⟨_,rfl,by kernel_rfl,by kernel_rfl,by kernel_rfl⟩
theorem own_mkI (W:World) (n:Nat) (f:Nat->Int) (hn:n<=17592186044416):(W.alloc (.cells (madeCells #[.int .i64 0] n) 3)).ownsRow W.heap.size 3 1 (.slice (some ⟨W.heap.size,0,none⟩) 0 n) 0 (intsL 0 f):=
 ⟨rfl,Or.inr ⟨W.heap.size,n,_,rfl,Nat.le_refl _,heapNew W _,Nat.zero_le _,by unfold maxLen; omega,by simp [madeCells],rfl⟩⟩
theorem stepAppI {ops:Array Oper} {Q:Exit->Act->World->Prop} {K:Act->World->Prop} {j:Nat} {o:Oper} {a:Act} {W:World} {s x:Operand} {B n g:Nat} {v:Value} {f:Nat->Int} (hos:ops[j]?=some o) (hgd:Region.wanted o (yielded ops a.tmps)=true)
  (ho:o.op=.call { callee:=.builtin .append,args:=#[s,x],argTypes:=#[24,24] }) (hs:a.eval s=v) (hx:a.eval x=.slice (some ⟨g,0,none⟩) 1 1) (hown:W.ownsRow B 3 1 v n (intsL n f)) (hg:W.heap[g]?=some (.cells #[.int .i64 (f n)] 3)) (hn:n+1<=17592186044416) (hB:B<=W.heap.size)
  (hK:∀ v' W',W'.ownsRow B 3 1 v' (n+1) (intsL (n+1) f)->W.grownBy W' v.ownBlock->K (a.put o.dst v') W'):wpOp Try.prog ops Q j K a W:=by
 obtain ⟨i,i1,i2,i3,i4⟩:=infoI
 obtain ⟨v',W',run,q1,q2⟩:=execAppO (W:=W) (news:=[.int .i64 (f n)]) ho Try.underlying24 i1 i2 i3 i4 rfl (by decide) hs hown hx rfl (fun j u hu=>by
  rw [Go.WideShapes.add_plain,cell_of_row _ _ _ _ _ _ hg,Nat.zero_add,← Array.getElem?_toList]
  exact hu) (fun u hu=>by
  obtain rfl:=List.mem_singleton.1 hu
  rfl) (by unfold maxLen; omega) (by omega) hB
 rw [← intsL_succ] at q1
 exact stepV hos hgd run (hK v' W' q1 q2)
end Go.Proofs.Ytmjpneaccjlpkaa.Drw

namespace Go.Proofs.Ytmjpneaccjlpkaa.Drw
open Go.RowKit Gf8 Aes By8 Cel Cf Tap
/- Lists of ints: rows of one's own, what stays, append, make; pieces of code. General: it lies at any seat with []int and []uint8. -/
theorem ownD_below {W W':World} {B n:Nat} {v:Value} {xs:List Value} {t:TypeId} {s:Nat} (h:W.ownsRow B t s v n xs) (hb:Below W.heap.size W W'):W'.ownsRow B t s v n xs:=by
 refine ⟨h.1,?_⟩
 rcases h.2 with h | ⟨g,cap,cur,e,hB,hg,hr⟩
 ·exact Or.inl h
 ·exact Or.inr ⟨g,cap,cur,e,hB,on9 hg hb,hr⟩
theorem ownD_base {W:World} {B C t s n:Nat} {v:Value} {xs:List Value} (h:W.ownsRow C t s v n xs) (hB:B<=C):W.ownsRow B t s v n xs:=by
 refine ⟨h.1,?_⟩
 rcases h.2 with h | ⟨g,cap,cur,e,hC,h1⟩
 ·exact Or.inl h
 ·exact Or.inr ⟨g,cap,cur,e,Nat.le_trans hB hC,h1⟩
theorem results_tmp2 {fn:Func} {t u:Tmp} (h:fn.results=#[.tmp t,.tmp u]) (tmps:Array Value) (P:Program) (w:World):(results fn tmps).run P w=.ok (.tuple #[tmps.getD t undef,tmps.getD u undef]) w:=by
 simp [results,h]
theorem ownL_some9 {W:World} {B m:Nat} {v:Value} {xs:List Value} {t:TypeId} {s:Nat} (h:W.ownsRow B t s v m xs) (hm:0 < m):∃ g c,v=.slice (some ⟨g,0,none⟩) m c/\B<=g/\g < W.heap.size:=by
 rcases h.2 with ⟨_,e⟩ | ⟨g,cap,cur,e,hB,hg,_⟩
 ·omega
 ·exact ⟨g,cap,e,hB,(Array.getElem?_eq_some_iff.1 hg).1⟩
theorem lit_ints {W:World} {b N:Nat} {C:Array Value} {f:Nat->Int} {t:TypeId} {fr:Nat × Nat} (hg:W.heap[b]?=some (.cells C t fr)) (hC:∀ j,j < N->C[j]?=some (.int .i64 (f j))) (hf:∀ j,j < N->-9223372036854775808<=f j/\f j < 9223372036854775808) (hN:N<=1000):SliceI W (.slice (some ⟨b,0,none⟩) N N) N f:=
 ⟨⟨_,_,rfl,Nat.le_refl _,by unfold maxLen; omega,fun _=>⟨b,0,rfl,(Array.getElem?_eq_some_iff.1 hg).1,fun j hj=>by rw [cell_of_row _ _ _ _ _ _ hg,Nat.zero_add]; exact hC j hj⟩⟩,hf⟩
theorem execMkN {o:Oper} {a:Act} {w:World} {x y:Operand} {n:Nat} (ho:o.op=.makeSlice 24 x y) (hx:a.eval x=.int .i64 (n:Int)) (hy:a.eval y=.int .i64 (n:Int)) (hn:n<=17592186044416):(execOp a.eval o).run Try.prog w=.ok (.value (.slice (some ⟨w.heap.size,0,none⟩) n n)) (w.alloc (.cells (madeCells #[.int .i64 0] n) 3)):=by
 obtain ⟨i,h1,h2,h3,h4⟩:=infoI
 have h:=run_make (P:=Try.prog) w 24 3 i (.int .i64 0) Try.underlying24 h1 h2 .i64 .i64 (n:Int) (n:Int) (by omega) (by omega) (by rw [h4]; omega) (by omega)
 rw [h3,Int.toNat_natCast,Nat.mul_one] at h
 unfold execOp
 simp only [ho,hx,hy,Sem.run_bind,h,Result.andThen_ok,Sem.run_pure]
 rfl
theorem intsL_app (n m:Nat) (f g:Nat->Int):intsL n f ++ intsL m g=intsL (n+m) (catI n f g):=by
 unfold intsL
 rw [List.range_add,List.map_append,List.map_map]
 congr 1
 ·exact List.map_congr_left fun j hj=>by rw [catI_lo (List.mem_range.1 hj)]
 ·exact List.map_congr_left fun j _=>by simp only [Function.comp]; rw [catI_hi]
theorem intsL_one (n:Nat) (f:Nat->Int):∀ u ∈ intsL n f,u.oneCell'=true:=fun u hu=>by
 obtain ⟨j,_,rfl⟩:=List.mem_map.1 hu
 rfl
theorem execBs0I {o:Oper} {a:Act} {w:World} (ho:o.op=.buildSlice 24 0 #[]):(execOp a.eval o).run Try.prog w=.ok (.value (.slice (some ⟨w.heap.size,0,none⟩) 0 0)) (w.alloc (.cells #[] 3)):=by
 unfold execOp
 simp only [ho]
 simp [go_sem]
theorem own_noneI (W:World) (f:Nat->Int):(W.alloc (.cells #[] 3)).ownsRow W.heap.size 3 1 (.slice (some ⟨W.heap.size,0,none⟩) 0 0) 0 (intsL 0 f):=
 ⟨rfl,Or.inr ⟨W.heap.size,0,_,rfl,Nat.le_refl _,heapNew W _,Nat.zero_le _,Nat.zero_le _,by simp,rfl⟩⟩
theorem own_nilI {W:World} {B n:Nat} {t:TypeId} {v:Value} {xs:List Value} (h:W.ownsRow B t 1 v n xs):∀ l c,v=.slice none l c->c=0:=by
 intro l c e
 rcases h.2 with ⟨rfl,_⟩ | ⟨g,cap,cur,rfl,_⟩
 ·injection e with _ _ e3; exact e3.symm
 ·injection e with e1; cases e1
theorem stepAppIs {ops:Array Oper} {Q:Exit->Act->World->Prop} {K:Act->World->Prop} {j:Nat} {o:Oper} {a:Act} {W:World} {s x:Operand} {B n m:Nat} {v u:Value} {f g:Nat->Int} (hos:ops[j]?=some o) (hgd:Region.wanted o (yielded ops a.tmps)=true)
  (ho:o.op=.call { callee:=.builtin .append,args:=#[s,x],argTypes:=#[24,24] }) (hs:a.eval s=v) (hx:a.eval x=u) (hown:W.ownsRow B 3 1 v n (intsL n f)) (hu:SliceI W u m g) (hnil:∀ l c,u=.slice none l c->c=0) (hn:n+m<=17592186044416) (hB:B<=W.heap.size)
  (hK:∀ v' W',W'.ownsRow B 3 1 v' (n+m) (intsL (n+m) (catI n f g))->W.grownBy W' v.ownBlock->K (a.put o.dst v') W'):wpOp Try.prog ops Q j K a W:=by
 obtain ⟨i,i1,i2,i3,i4⟩:=infoI
 obtain ⟨⟨ao,cap,rfl,_,_,hc⟩,_⟩:=hu
 cases ao with
 | none=>
  have hm:m=0:=by
   rcases Nat.eq_zero_or_pos m with e | e
   ·exact e
   ·obtain ⟨_,_,e',_⟩:=hc e
    cases e'
  subst hm
  have hcap:=hnil _ _ rfl
  subst hcap
  have hr:=run_append_owned_none (P:=Try.prog) W B 24 o.type 3 i 1 Try.underlying24 i1 v n (intsL n f) hown
  refine stepV hos hgd (v:=v) (w':=W) ?_ (hK v W (by rw [Nat.add_zero,intsL_congr fun j hj=>catI_lo hj]; exact hown) ⟨rfl,rfl,rfl,Nat.le_refl _,fun _ _ _=>rfl⟩)
  unfold execOp
  simp only [ho,resolve,invoke,builtin,Sem.run_bind,Sem.run_pure,Result.andThen_ok,List.map_toArray,List.map_cons,List.map_nil,hs,hx,hr]
 | some ad=>
  obtain ⟨v',W',run,q1,q2⟩:=execAppO (W:=W) (m:=m) (c:=cap) (ad:=ad) (news:=intsL m g) ho Try.underlying24 i1 i2 i3 i4 rfl (by decide) hs hown hx (by rw [intsL_len,Nat.mul_one]) (fun j z hz=>by
   have hj:j < m:=by have:=(List.getElem?_eq_some_iff.1 hz).1; rw [intsL_len] at this; exact this
   obtain ⟨b,off,e,_,e3⟩:=hc (by omega)
   obtain rfl:ad=⟨b,off,none⟩:=Option.some.inj e
   rw [Go.WideShapes.add_plain,e3 j hj]
   rw [intsL_get hj] at hz
   exact hz) (intsL_one _ _) (by unfold maxLen; omega) (by omega) hB
  rw [intsL_app] at q1
  exact stepV hos hgd run (hK v' W' q1 q2)
theorem own_cat0 {W:World} {B m:Nat} {v:Value} {f g:Nat->Int} (h:W.ownsRow B 3 1 v (0+m) (intsL (0+m) (catI 0 f g))):W.ownsRow B 3 1 v m (intsL m g):=by
 rw [Nat.zero_add] at h
 rw [intsL_congr (f:=g) (g:=catI 0 f g) fun j _=>by unfold catI; rw [if_neg (by omega),Nat.sub_zero]]
 exact h
theorem own_setT {W:World} {C m s g:Nat} {t u:TypeId} {v:Value} {xs:List Value} {cur c:Array Value} (h:W.ownsRow C t s v m xs) (hg:W.heap[g]?=some (.cells cur u)) (ht:u ≠ t):(W.setRow g c).ownsRow C t s v m xs:=by
 refine ⟨h.1,?_⟩
 rcases h.2 with h | ⟨g1,cap,cu,e,hB,h1,hr⟩
 ·exact Or.inl h
 ·refine Or.inr ⟨g1,cap,cu,e,hB,?_,hr⟩
  rw [setRow_other _ _ _ _ (fun q=>?_)]
  ·exact h1
  ·subst q
   rw [h1] at hg
   injection hg with hg
   injection hg with _ hg _
   exact ht hg.symm
theorem own_mkZ (W:World) (n:Nat) (f:Nat->Int) (hn:n<=17592186044416) (hf:∀ j,j < n->f j=0):(W.alloc (.cells (madeCells #[.int .i64 0] n) 3)).ownsRow W.heap.size 3 1 (.slice (some ⟨W.heap.size,0,none⟩) n n) n (intsL n f):=by
 refine ⟨by rw [intsL_len,Nat.mul_one],Or.inr ⟨W.heap.size,n,_,rfl,Nat.le_refl _,heapNew W _,Nat.le_refl _,by unfold maxLen; omega,by simp [madeCells],?_⟩⟩
 apply List.ext_getElem?
 intro j
 by_cases h:j < n
 ·simp [madeCells,intsL,h,hf j h,Nat.mod_one]
 ·simp [madeCells,intsL,h]
theorem own_cellI {W:World} {B n g cap j:Nat} {f:Nat->Int} (h:W.ownsRow B 3 1 (.slice (some ⟨g,0,none⟩) n cap) n (intsL n f)) (hj:j < n):W.cell? ⟨g,0+j,none⟩=some (.int .i64 (f j))/\W.frozen? ⟨g,0+j,none⟩=false:=by
 rw [Nat.zero_add]
 rcases h.2 with ⟨e,_⟩ | ⟨g',cap',cur,e,_,hg,h1,h2,h3,h4⟩
 ·cases e
 ·injection e with e1 _ _
  injection e1 with e1
  injection e1 with e1 _ _
  subst e1
  refine ⟨?_,frozen4 hg⟩
  rw [cell_of_row _ _ _ _ _ _ hg,← Array.getElem?_toList]
  have h5:(cur.toList.take (n * 1))[j]?=some (.int .i64 (f j)):=by rw [h4]; exact intsL_get hj
  rw [List.getElem?_take_of_lt (by omega)] at h5
  exact h5
theorem off_own {W:World} {B n g cap k:Nat} {t u:TypeId} {z:Value} {xs:List Value} {h:Nat} {c:Array Value} (ho:W.ownsRow B t 1 (.slice (some ⟨g,0,none⟩) n cap) n xs) (hh:W.heap[h]?=some (.cells c u)) (ht:u ≠ t):(W.setCell ⟨g,k,none⟩ z).heap[h]?=some (.cells c u):=by
 rcases ho.2 with ⟨e,_⟩ | ⟨g',cap',cur,e,_,hg,_⟩
 ·cases e
 ·injection e with e1 _ _
  injection e1 with e1
  injection e1 with e1 _ _
  subst e1
  rw [heap4o z hg (fun q=>?_)]
  ·exact hh
  ·subst q
   rw [hg] at hh
   injection hh with hh
   injection hh with _ hh _
   exact ht hh.symm
theorem own_setF {W:World} {B n g cap k:Nat} {f:Nat->Int} (z:Int) (h:W.ownsRow B 3 1 (.slice (some ⟨g,0,none⟩) n cap) n (intsL n f)):(W.setCell ⟨g,0+k,none⟩ (.int .i64 z)).ownsRow B 3 1 (.slice (some ⟨g,0,none⟩) n cap) n (intsL n (fun j=>if j=k then z else f j)):=by
 rw [Nat.zero_add]
 refine ⟨by rw [intsL_len,Nat.mul_one],?_⟩
 rcases h.2 with ⟨e,_⟩ | ⟨g',cap',cur,e,hB,hg,h1,h2,h3,h4⟩
 ·cases e
 ·injection e with e1 e2 e3
  injection e1 with e1
  injection e1 with e1 _ _
  subst e1
  subst e3
  refine Or.inr ⟨g,cap,cur.setIfInBounds k (.int .i64 z),rfl,hB,heap4 _ hg,h1,h2,by simpa using h3,?_⟩
  apply List.ext_getElem?
  intro j
  have h5:(cur.toList.take (n * 1))[j]?=(intsL n f)[j]?:=by rw [h4]
  by_cases hj:j < n
  ·rw [List.getElem?_take_of_lt (by omega),intsL_get hj] at h5
   rw [List.getElem?_take_of_lt (by omega),intsL_get hj,Array.getElem?_toList,Array.getElem?_setIfInBounds]
   by_cases hk:k=j
   ·subst hk
    rw [if_pos rfl,if_pos rfl,if_pos (by simp at h3; omega)]
   ·rw [if_neg hk,if_neg (fun q=>hk q.symm),← Array.getElem?_toList]
    exact h5
  ·rw [List.getElem?_eq_none (by simp; omega),List.getElem?_eq_none (by rw [intsL_len]; omega)]
theorem execStI9 {o:Oper} {a:Act} {w:World} {x y:Operand} {b k:Nat} {z:Int} {old:Value} (ho:o.op=.store 3 x y) (hx:a.eval x=.pointer (some ⟨b,k,none⟩)) (hy:a.eval y=.int .i64 z) (hc:w.cell? ⟨b,k,none⟩=some old) (hf:w.frozen? ⟨b,k,none⟩=false):(execOp a.eval o).run Try.prog w=.ok .skip (w.setCell ⟨b,k,none⟩ (.int .i64 z)):=by
 unfold execOp
 simp only [ho,hx,hy]
 simp [go_sem,hc,hf]
def leadR:Code->Nat->Bool
 | .seq x _,k=>leadR x k
 | .region id _ _,k=>Nat.beq id k
 | _,_=>false
theorem own_offT {W:World} {B n s g k:Nat} {t u:TypeId} {v z:Value} {xs:List Value} {c:Array Value} {fr:Nat × Nat} (h:W.ownsRow B t s v n xs) (hg:W.heap[g]?=some (.cells c u fr)) (ht:u ≠ t):(W.setCell ⟨g,k,none⟩ z).ownsRow B t s v n xs:=by
 refine ⟨h.1,?_⟩
 rcases h.2 with h | ⟨g1,cap,cur,e,hB,h1,hr⟩
 ·exact Or.inl h
 ·refine Or.inr ⟨g1,cap,cur,e,hB,?_,hr⟩
  rw [Below.heap_setCell _ _ _ _ (fun q=>?_)]
  ·exact h1
  ·have q2:g1=g:=q
   subst q2
   rw [h1] at hg
   injection hg with hg
   injection hg with _ hg _
   exact ht hg.symm
theorem heap_overL {W W':World} {B n s:Nat} {v:Value} {xs:List Value} {g:Nat} {c:Array Value} {t u:TypeId} {fr:Nat × Nat} (h:W.ownsRow B u s v n xs) (hg:W.grownBy W' v.ownBlock) (hh:W.heap[g]?=some (.cells c t fr)) (ht:t ≠ u):W'.heap[g]?=some (.cells c t fr):=by
 rw [hg.block g (Array.getElem?_eq_some_iff.1 hh).1 (fun q=>?_)]
 ·exact hh
 ·rcases h.2 with ⟨rfl,_⟩ | ⟨k,cap,cur,rfl,_,h1,_⟩
  ·cases q
  ·obtain rfl:g=k:=by simpa [Value.ownBlock] using q
   rw [h1] at hh
   injection hh with hh
   injection hh with _ hh _
   exact ht hh.symm
theorem own_cur {W:World} {B n g c:Nat} {t:TypeId} {xs:List Value} (h:W.ownsRow B t 1 (.slice (some ⟨g,0,none⟩) n c) n xs):∃ cur,W.heap[g]?=some (.cells cur t)/\B<=g:=by
 rcases h.2 with ⟨e,_⟩ | ⟨g',cap',cur,e,hB,hg,_⟩
 ·cases e
 ·injection e with e1 _ _
  injection e1 with e1
  injection e1 with e1 _ _
  subst e1
  exact ⟨cur,hg,hB⟩
theorem run_placeI (W:World) (ty:TypeId) (B n g:Nat) (v:Value) (f:Nat->Int) (z0:Int) (hown:W.ownsRow B 3 1 v n (intsL n f)) (hg:W.heap[g]?=some (.cells #[.int .i64 z0] 3)) (hn:n+1<=17592186044416) :
  ∃ v' W',(Builtin.append_ #[24,24] ty #[v,.slice (some ⟨g,0,none⟩) 1 1]).run Try.prog W=.ok v' W'/\(∀ k,v'.ownBlock=some k->v.ownBlock=some k\/W.heap.size<=k):=by
 obtain ⟨i,i1,i2,i3,i4⟩:=infoI
 have hl:([.int .i64 z0]:List Value).length=1 * i.size:=by rw [i3]; rfl
 have hnews:∀ j u,([.int .i64 z0]:List Value)[j]?=some u->W.cell? ((⟨g,0,none⟩:Addr).add j)=some u:=fun j u hu=>by
  rw [Go.WideShapes.add_plain,cell_of_row _ _ _ _ _ _ hg,Nat.zero_add,← Array.getElem?_toList]
  exact hu
 have h1:∀ u ∈ ([.int .i64 z0]:List Value),u.oneCell'=true:=fun u hu=>by
  obtain rfl:=List.mem_singleton.1 hu
  rfl
 have hown2:=hown.2
 rcases hown2 with ⟨rfl,rfl⟩ | ⟨g',cap,cur,rfl,hB,hg',hnc,hcm,hcs,htake⟩
 ·have hr:=run_append_nil (P:=Try.prog) W 24 ty 3 i (.int .i64 0) Try.underlying24 i1 i2 ⟨g,0,none⟩ 1 1 [.int .i64 z0] hl hnews (by omega) (by omega) (by rw [i4]; omega)
  exact ⟨_,_,hr,fun k e=>Or.inr (Nat.le_of_eq (Option.some.inj e))⟩
 ·by_cases hroom:n+1<=cap
  ·have hr:=run_append_room (P:=Try.prog) W 24 ty 3 i Try.underlying24 i1 g' n cap cur hg' ⟨g,0,none⟩ 1 1 [.int .i64 z0] hl hnews h1 hroom (by rw [hcs,i3]; simp; omega)
   exact ⟨_,_,hr,fun k e=>Or.inl e⟩
  ·have holds:∀ j u,(intsL n f)[j]?=some u->W.cell? ((⟨g',0,none⟩:Addr).add j)=some u:=hown.cells (g:=g') rfl
   have hr:=run_append_grow (P:=Try.prog) W 24 ty 3 i (.int .i64 0) Try.underlying24 i1 i2 ⟨g',0,none⟩ n cap (intsL n f) (by rw [i3]; exact hown.1) holds ⟨g,0,none⟩ 1 1 [.int .i64 z0] hl hnews (by omega) (by omega) (growslice_fits (by omega) (by rw [i4]; omega))
   exact ⟨_,_,hr,fun k e=>Or.inr (Nat.le_of_eq (Option.some.inj e))⟩
theorem own_cap {W:World} {B n g c:Nat} {t:TypeId} {xs:List Value} (h:W.ownsRow B t 1 (.slice (some ⟨g,0,none⟩) n c) n xs):n<=c:=by
 rcases h.2 with ⟨e,_⟩ | ⟨g',cap',cur,e,_,_,h1,_⟩
 ·cases e
 ·injection e with _ _ e3
  omega
theorem own_overT {W W':World} {B n s C m s':Nat} {t u:TypeId} {v v2:Value} {xs ys:List Value} (h:W.ownsRow B t s v n xs) (h2:W.ownsRow C u s' v2 m ys) (gr:W.grownBy W' v2.ownBlock) (ht:t ≠ u):W'.ownsRow B t s v n xs:=by
 refine ⟨h.1,?_⟩
 rcases h.2 with e | ⟨g1,cap,cur,e,hB,h1,hr⟩
 ·exact Or.inl e
 ·exact Or.inr ⟨g1,cap,cur,e,hB,heap_overL h2 gr h1 ht,hr⟩
theorem own_overB {W W':World} {B n s C m s':Nat} {t u:TypeId} {v v2:Value} {xs ys:List Value} (h:W.ownsRow B t s v n xs) (hv:∀ k,v.ownBlock=some k->k < C) (h2:W.ownsRow C u s' v2 m ys) (gr:W.grownBy W' v2.ownBlock):W'.ownsRow B t s v n xs:=
 ownW_grown h gr fun k e q=>by
  have a1:=hv k e
  have a2:=(h2.lt k q).1
  omega
theorem two_fits {y z:Int} (hy:-9223372036854775808<=y/\y < 9223372036854775808) (hz:-9223372036854775808<=z/\z < 9223372036854775808):∀ j,j < 2->-9223372036854775808<=(fun j=>if j=0 then y else z:Nat->Int) j/\(fun j=>if j=0 then y else z:Nat->Int) j < 9223372036854775808:=fun j _=>by
 show -9223372036854775808<=(if j=0 then y else z)/\(if j=0 then y else z) < 9223372036854775808
 by_cases e:j=0
 ·rw [if_pos e]; exact hy
 ·rw [if_neg e]; exact hz
theorem execBsI2 {o:Oper} {a:Act} {w:World} {y z:Int} (ho:o.op=.buildSlice 24 2 #[(0,.const (.int .i64 y)),(1,.const (.int .i64 z))]):(execOp a.eval o).run Try.prog w=.ok (.value (.slice (some ⟨w.heap.size,0,none⟩) 2 2)) (w.alloc (.cells #[.int .i64 y,.int .i64 z] 3)):=by
 unfold execOp
 simp only [ho]
 simp [go_sem]
theorem sliceI2 (X:World) (y z:Int) (hy:-9223372036854775808<=y/\y < 9223372036854775808) (hz:-9223372036854775808<=z/\z < 9223372036854775808):SliceI (X.alloc (.cells #[.int .i64 y,.int .i64 z] 3)) (.slice (some ⟨X.heap.size,0,none⟩) 2 2) 2 (fun j=>if j=0 then y else z):=
 lit_ints (heapNew X _) (fun j hj=>by
  match j,hj with
  | 0,_=>rfl
  | 1,_=>rfl
  | k+2,h=>omega) (two_fits hy hz) (by omega)
theorem sl_hI (g len cap h:Nat) (hh:h<=cap) (W:World):(Instr.sliceAt 24 (.slice (some ⟨g,0,none⟩) len cap) none (some (.int .i64 (h:Int))) none).run Try.prog W=.ok (.slice (some ⟨g,0,none⟩) h cap) W:=by
 have e2:(h:Int)<=cap:=by omega
 have e:(Instr.sliceAt 24 (.slice (some ⟨g,0,none⟩) len cap) none (some (.int .i64 (h:Int))) none).run Try.prog W=.ok (sliced (some ⟨g,0,none⟩) 0 h cap 1) W:=by
  obtain ⟨i,i1,_,_,_⟩:=infoI
  simp [Instr.sliceAt,Instr.slice,run_underlying Try.underlying24,Instr.sliceBounds,run_sliceBound,sliced,hh,sizeOf,typeInfo,i1]
 rw [sliced_0] at e
 exact e
end Go.Proofs.Ytmjpneaccjlpkaa.Drw
