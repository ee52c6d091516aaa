import Derived.Test.YtmjpneaccjlpkaaX9j
import Derived.Test.YtmjpneaccjlpkaaX9r
import Derived.Test.YtmjpneaccjlpkaaX9q
import Derived.Test.YtmjpneaccjlpkaaX7b
namespace Go.Proofs.Ytmjpneaccjlpkaa.Rif
open Go.RowKit Gf8 Aes By8 Cel Cf Tap Drw Prm Brd
/- Stage 13's RiffleKeeps. Written by tools/mkX9t.py. -/
theorem hc_ {a:Act} {d:Nat} {v:Value} {l:List (Nat × Value)} (t:a.eval (.tmp d)=v) (h:Hd a l):Hd a ((d,v) :: l):=⟨t,h⟩
def pX (p:Nat->Nat) (L j:Nat):Nat:=if j < L then p j else if j=L then 161 else 162
def wX (wf:Nat->Int) (m j:Nat):Int:=if j < m then wf j else if j=m then 71 else 72
def nB (L:Nat):Nat->Nat
 | 0=>L+2
 | _+1=>L
def fB (p q:Nat->Nat) (L:Nat):Nat->Nat->Nat
 | 0=>pX p L
 | _+1=>q
def nI (m:Nat):Nat->Nat
 | 0=>m+2
 | _+1=>m
def fI (wf o s:Nat->Int) (m:Nat):Nat->Nat->Int
 | 0=>wX wf m
 | 1=>o
 | 2=>o
 | _+3=>s
def mB (f:Nat->Nat->Nat) (j t i:Nat):Nat:=if 0 < t/\i < j then t else f t i
def zB (p:Nat->Nat) (L:Nat):Nat->Nat->Nat
 | 0=>pX p L
 | t+1=>fun _=>t+1
def mI (f:Nat->Nat->Int) (l j t i:Nat):Int:=if 0 < t/\(t<=l\/(t=l+1/\i < j)) then -1 - ((t - 1:Nat):Int) else f t i
def zI (wf:Nat->Int) (m:Nat):Nat->Nat->Int
 | 0=>wX wf m
 | t+1=>fun _=>-1 - (t:Int)
def yI (wf:Nat->Int) (m t i:Nat):Int:=if i < nI m t then zI wf m t i else ((900+(t - 1):Nat):Int)
def dU (r l:Nat):Nat->Nat
 | 0=>0
 | t+1=>if t < l then r+1 else r
def gK (L r:Nat):Nat->Nat
 | 0=>L+2
 | _+1=>L+r
def x5 (q:Nat->Nat) (i j:Nat):Nat:=if j < i then q j ^^^ 5 else q j
section
variable {p q:Nat->Nat} {L:Nat}
theorem pX_lo {j:Nat} (h:j < L):pX p L (0+j)=p j:=by
 rw [Nat.zero_add]
 exact if_pos h
theorem pX_byte (hp:∀ j,j < L->p j < 256) (j:Nat):pX p L j < 256:=by
 unfold pX
 by_cases h:j < L
 ·rw [if_pos h]; exact hp j h
 ·rw [if_neg h]
  by_cases h2:j=L
  ·rw [if_pos h2]; decide
  ·rw [if_neg h2]; decide
theorem pX_L:pX p L L=161:=by
 unfold pX
 rw [if_neg (by omega),if_pos rfl]
theorem pX_L1:pX p L (L+1)=162:=by
 unfold pX
 rw [if_neg (by omega),if_neg (by omega)]
theorem pX_two (X:World) (p:Nat->Nat) (L:Nat):SliceN (X.alloc (.cells #[.int .u8 161,.int .u8 162] 5)) (.slice (some ⟨X.heap.size,0,none⟩) 2 2) 2 (fun j=>pX p L (0+L+j)):=by
 have e0:pX p L (0+L+0)=161:=by rw [Nat.zero_add,Nat.add_zero]; exact pX_L
 have e1:pX p L (0+L+1)=162:=by rw [Nat.zero_add]; exact pX_L1
 refine ⟨⟨_,_,rfl,Nat.le_refl _,by omega,fun _=>⟨X.heap.size,0,rfl,by simp,fun j hj=>?_⟩⟩,fun j hj=>?_⟩
 ·rw [cell_of_row _ _ _ _ _ _ (heapNew X _)]
  match j,hj with
  | 0,_=>rw [e0]; rfl
  | 1,_=>rw [e1]; rfl
  | j+2,h=>omega
 ·match j,hj with
  | 0,_=>rw [e0]; decide
  | 1,_=>rw [e1]; decide
  | j+2,h=>omega
theorem mB_two (i:Nat) {f:Nat->Nat->Nat} {n:Nat->Nat}:∀ t,t < 3->∀ l,l < n t->(fun t=>if t=2 then (fun l=>if l=i then 2 else (fun t=>if t=1 then (fun l=>if l=i then 1 else mB f i 1 l) else mB f i t) 2 l) else (fun t=>if t=1 then (fun l=>if l=i then 1 else mB f i 1 l) else mB f i t) t) t l=mB f (i+1) t l:=fun t ht l _=>by
 match t,ht with
 | 0,_=>show mB f i 0 l=_; unfold mB; rw [if_neg (by omega),if_neg (by omega)]
 | 1,_=>
  show (if l=i then 1 else mB f i 1 l)=_
  unfold mB
  by_cases h:l=i
  ·rw [if_pos h,if_pos (by omega)]
  ·rw [if_neg h]
   by_cases h2:l < i
   ·rw [if_pos (by omega),if_pos (by omega)]
   ·rw [if_neg (by omega),if_neg (by omega)]
 | 2,_=>
  show (if l=i then 2 else mB f i 2 l)=_
  unfold mB
  by_cases h:l=i
  ·rw [if_pos h,if_pos (by omega)]
  ·rw [if_neg h]
   by_cases h2:l < i
   ·rw [if_pos (by omega),if_pos (by omega)]
   ·rw [if_neg (by omega),if_neg (by omega)]
 | t+3,h=>omega
theorem mB_all {i:Nat} (hi:L<=i):∀ t,t < 3->∀ l,l < nB L t->mB (fB p q L) i t l=zB p L t l:=fun t _ l hl=>by
 match t,hl with
 | 0,_=>exact if_neg (by omega)
 | t+1,hl=>
  have h2:l < L:=hl
  exact if_pos (by omega)
theorem x5_at {i:Nat}:x5 q i i=q i:=if_neg (by omega)
theorem x5_set {i:Nat} (l:Nat):(if l=i then q i ^^^ 5 else x5 q i l)=x5 q (i+1) l:=by
 unfold x5
 by_cases h:l=i
 ·rw [if_pos h,if_pos (by omega),h]
 ·rw [if_neg h]
  by_cases h2:l < i
  ·rw [if_pos h2,if_pos (by omega)]
  ·rw [if_neg h2,if_neg (by omega)]
theorem gK_0 (L:Nat):∀ t,t < 3->nB L t=gK L 0 t:=fun t _=>by
 match t with
 | 0=>rfl
 | t+1=>rfl
theorem gK_two (L r:Nat):∀ t,t < 3->(fun t=>if t=2 then (fun t=>if t=1 then gK L r 1+1 else gK L r t) 2+1 else (fun t=>if t=1 then gK L r 1+1 else gK L r t) t) t=gK L (r+1) t:=fun t ht=>by
 match t,ht with
 | 0,_=>rfl
 | 1,_=>rfl
 | 2,_=>rfl
 | t+3,h=>omega
end
section
variable {wf o s:Nat->Int} {m:Nat}
theorem wX_lo {j:Nat} (h:j < m):catI 0 (wX wf m) wf j=wX wf m j:=by
 unfold catI wX
 rw [if_neg (by omega),if_pos h,Nat.sub_zero]
theorem wX_hi {j:Nat} (h:j < 0+m+2):catI (0+m) (wX wf m) (fun j=>if j=0 then 71 else 72) j=wX wf m j:=by
 unfold catI
 by_cases q:j < 0+m
 ·rw [if_pos q]
 ·rw [if_neg q]
  show (if j - (0+m)=0 then (71:Int) else 72)=_
  unfold wX
  by_cases q2:j=m
  ·rw [if_pos (by omega),if_neg (by omega),if_pos q2]
  ·rw [if_neg (by omega),if_neg (by omega),if_neg q2]
theorem mI_one (l j:Nat) {f:Nat->Nat->Int} {n:Nat->Nat}:∀ t,t < 5->∀ i,i < n t->updF (mI f l j) (l+1) j (-1 - (l:Int)) t i=mI f l (j+1) t i:=fun t _ i _=>by
 show (if t=l+1 then (if i=j then -1 - (l:Int) else mI f l j (l+1) i) else mI f l j t i)=_
 unfold mI
 by_cases h:t=l+1
 ·subst h
  rw [if_pos rfl]
  by_cases h2:i=j
  ·rw [if_pos h2,if_pos (by omega),Nat.add_sub_cancel]
  ·rw [if_neg h2]
   by_cases h3:i < j
   ·rw [if_pos (by omega),if_pos (by omega)]
   ·rw [if_neg (by omega),if_neg (by omega)]
 ·rw [if_neg h]
  by_cases h2:0 < t/\t<=l
  ·rw [if_pos (by omega),if_pos (by omega)]
  ·rw [if_neg (by omega),if_neg (by omega)]
theorem mI_row {l j:Nat} (hj:m<=j) {f:Nat->Nat->Int}:∀ t,t < 5->∀ i,i < nI m t->mI f l j t i=mI f (l+1) 0 t i:=fun t _ i hi=>by
 unfold mI
 match t,hi with
 | 0,_=>rw [if_neg (by omega),if_neg (by omega)]
 | t+1,hi=>
  have h2:i < m:=hi
  by_cases h:t<=l
  ·rw [if_pos (by omega),if_pos (by omega)]
  ·rw [if_neg (by omega),if_neg (by omega)]
theorem mI_all {l:Nat} (hl:4<=l):∀ t,t < 5->∀ i,i < nI m t->mI (fI wf o s m) l 0 t i=zI wf m t i:=fun t ht i _=>by
 match t,ht with
 | 0,_=>exact if_neg (by omega)
 | t+1,h=>exact if_pos (by omega)
theorem dU_0 (_m:Nat):∀ t,t < 5->(fun _=>0:Nat->Nat) t=dU 0 0 t:=fun t _=>by
 match t with
 | 0=>rfl
 | t+1=>
  show 0=if t < 0 then 0+1 else 0
  rw [if_neg (by omega)]
theorem dU_le {r l:Nat} (t:Nat):dU r l (t+1)<=r+1:=by
 show (if t < l then r+1 else r)<=_
 by_cases h:t < l
 ·rw [if_pos h]; exact Nat.le_refl _
 ·rw [if_neg h]; omega
theorem yI_0 (m:Nat):∀ t,t < 5->∀ j,j < nI m t+dU 0 0 t->zI wf m t j=yI wf m t j:=fun t ht j hj=>by
 have h:dU 0 0 t=0:=(dU_0 m t ht).symm
 exact (if_pos (by omega)).symm
theorem dU_one (r l:Nat):∀ t,t < 5->updD (dU r l) (l+1) 1 t=dU r (l+1) t:=fun t _=>by
 show (if t=l+1 then dU r l (l+1)+1 else dU r l t)=_
 match t with
 | 0=>exact if_neg (by omega)
 | t+1=>
  show (if t+1=l+1 then (if l < l then r+1 else r)+1 else (if t < l then r+1 else r))=if t < l+1 then r+1 else r
  by_cases h:t=l
  ·rw [if_pos (by omega),if_neg (by omega),if_pos (by omega)]
  ·rw [if_neg (by omega)]
   by_cases h2:t < l
   ·rw [if_pos h2,if_pos (by omega)]
   ·rw [if_neg h2,if_neg (by omega)]
theorem yI_one (r l:Nat):∀ t,t < 5->∀ j,j < nI m t+dU r (l+1) t->updG (yI wf m) (l+1) (catI (nI m (l+1)+dU r l (l+1)) (yI wf m (l+1)) (fun _=>((900+l:Nat):Int))) t j=yI wf m t j:=fun t _ j _=>by
 show (if t=l+1 then catI (nI m (l+1)+dU r l (l+1)) (yI wf m (l+1)) (fun _=>((900+l:Nat):Int)) else yI wf m t) j=_
 by_cases h:t=l+1
 ·subst h
  rw [if_pos rfl]
  unfold catI
  by_cases h2:j < nI m (l+1)+dU r l (l+1)
  ·rw [if_pos h2]
  ·rw [if_neg h2]
   unfold yI
   rw [if_neg (by omega),Nat.add_sub_cancel]
 ·rw [if_neg h]
theorem dU_row {r l:Nat} (hl:4<=l):∀ t,t < 5->dU r l t=dU (r+1) 0 t:=fun t ht=>by
 match t,ht with
 | 0,_=>rfl
 | t+1,h=>
  show (if t < l then r+1 else r)=if t < 0 then r+1+1 else r+1
  rw [if_pos (by omega),if_neg (by omega)]
end
theorem lL_s {y:Nat->Value} {l n:Nat} {v:Value}:lL (updX (fun q=>y (q+1)) l v) n=lL (fun q=>updX y (l+1) v (q+1)) n:=lL_congr n fun i _=>by
 show (if i=l then v else y (i+1))=if i+1=l+1 then v else y (i+1)
 by_cases h:i=l
 ·rw [if_pos h,if_pos (by omega)]
 ·rw [if_neg h,if_neg (by omega)]
theorem own_room {W:World} {B n g c:Nat} {t:TypeId} {xs:List Value} (h:W.ownsRow B t 1 (.slice (some ⟨g,0,none⟩) n c) n xs):n<=c:=by
 rcases h.2 with ⟨e,_⟩ | ⟨g',c',cur,e,_,_,h1,_⟩
 ·cases e
 ·injection e with _ _ e3
  omega
theorem own_take8 {W:World} {B n i g c:Nat} {f:Nat->Nat} (h:W.ownsRow B 5 1 (.slice (some ⟨g,0,none⟩) n c) n (bytesL n f)) (hi:i<=n):W.ownsRow B 5 1 (.slice (some ⟨g,0,none⟩) i c) i (bytesL i f):=by
 rcases h.2 with ⟨e,_⟩ | ⟨g',c',cur,e,hB,hg,h1,h2,h3,h4⟩
 ·cases e
 ·injection e with e1 _ e3
  injection e1 with e1
  injection e1 with e1 _ _
  subst e1
  subst e3
  refine ⟨by rw [bytesL_len,Nat.mul_one],Or.inr ⟨g,c,cur,rfl,hB,hg,by omega,h2,h3,?_⟩⟩
  rw [Nat.mul_one] at h4 ⊢
  have h5:cur.toList.take i=(cur.toList.take n).take i:=by rw [List.take_take,Nat.min_eq_left hi]
  rw [h5,h4]
  unfold bytesL
  rw [← List.map_take,List.take_range,Nat.min_eq_left hi]
theorem ip_slice {W:World} {B L g c:Nat} {v:Value} {p:Nat->Nat} (e:v=.slice (some ⟨g,0,none⟩) (L+2) c) (h:W.ownsRow B 5 1 v (L+2) (bytesL (L+2) (pX p L))) (hp:∀ j,j < L->p j < 256):SliceN W (.slice (some ⟨g,0,none⟩) L c) L p:=by
 subst e
 exact sliceN_cg (own_slice (own_take8 h (by omega)) (fun j _=>pX_byte hp j)) (fun j hj=>if_pos hj)
theorem iw_slice {W:World} {B m g c:Nat} {v:Value} {wf:Nat->Int} (e:v=.slice (some ⟨g,0,none⟩) (m+2) c) (h:W.ownsRow B 3 1 v (m+2) (intsL (m+2) (wX wf m))) (hf:∀ j,j < m->-9223372036854775808<=wf j/\wf j < 9223372036854775808):SliceI W (.slice (some ⟨g,0,none⟩) m c) m wf:=by
 subst e
 have h2:=own_takeI h (show m<=m+2 by omega)
 rw [intsL_congr (f:=wX wf m) (g:=wf) (fun j hj=>if_pos hj)] at h2
 exact own_ints h2 hf
theorem pX_c1 {W:World} {B L g c:Nat} {v:Value} {p:Nat->Nat} (e:v=.slice (some ⟨g,0,none⟩) (L+2) c) (h:W.ownsRow B 5 1 v (L+2) (bytesL (L+2) (pX p L))):W.cell? ⟨g,0+L,none⟩=some (.int .u8 161):=by
 subst e
 rw [(own_cell9 h (show L < L+2 by omega)).1,pX_L]
 rfl
theorem pX_c2 {W:World} {B L g c:Nat} {v:Value} {p:Nat->Nat} (e:v=.slice (some ⟨g,0,none⟩) (L+2) c) (h:W.ownsRow B 5 1 v (L+2) (bytesL (L+2) (pX p L))):W.cell? ⟨g,0+(L+1),none⟩=some (.int .u8 162):=by
 subst e
 rw [(own_cell9 h (show L+1 < L+2 by omega)).1,pX_L1]
 rfl
theorem wX_c1 {W:World} {B m g c:Nat} {v:Value} {wf:Nat->Int} (e:v=.slice (some ⟨g,0,none⟩) (m+2) c) (h:W.ownsRow B 3 1 v (m+2) (intsL (m+2) (wX wf m))):W.cell? ⟨g,0+m,none⟩=some (.int .i64 71):=by
 subst e
 rw [(own_cellI h (show m < m+2 by omega)).1]
 unfold wX
 rw [if_neg (by omega),if_pos rfl]
theorem wX_c2 {W:World} {B m g c:Nat} {v:Value} {wf:Nat->Int} (e:v=.slice (some ⟨g,0,none⟩) (m+2) c) (h:W.ownsRow B 3 1 v (m+2) (intsL (m+2) (wX wf m))):W.cell? ⟨g,0+(m+1),none⟩=some (.int .i64 72):=by
 subst e
 rw [(own_cellI h (show m+1 < m+2 by omega)).1]
 unfold wX
 rw [if_neg (by omega),if_neg (by omega)]
theorem x5_slice {W:World} {B L g c i:Nat} {p:Nat->Nat} (h:W.ownsRow B 5 1 (.slice (some ⟨g,0,none⟩) (L+2) c) (L+2) (bytesL (L+2) (x5 (pX p L) i))) (hi:L<=i) (hp:∀ j,j < L->p j < 256):SliceN W (.slice (some ⟨g,0,none⟩) L c) L (fun i=>p i ^^^ 5):=by
 have e:∀ j,j < L->x5 (pX p L) i j=p j ^^^ 5:=fun j hj=>by
  unfold x5 pX
  rw [if_pos (by omega),if_pos hj]
 have h2:=own_take8 h (show L<=L+2 by omega)
 rw [bytesL_congr e] at h2
 exact own_slice h2 (fun j hj=>Nat.xor_lt_two_pow (n:=8) (hp j hj) (by decide))
theorem grown_1 {W:World} {B L g c j:Nat} {v:Value} {p:Nat->Nat} (e:v=.slice (some ⟨g,0,none⟩) (L+20) c) (h:W.ownsRow B 5 1 v (L+20) (bytesL (L+20) (gM (zB p L 1) L 3))) (hj:j < L):W.cell? ⟨g,0+j,none⟩=some (.int .u8 1):=by
 subst e
 rw [(own_cell9 h (show j < L+20 by omega)).1]
 unfold gM
 rw [if_pos hj]
 rfl
theorem grown_2 {W:World} {B L g c j:Nat} {v:Value} {p:Nat->Nat} (e:v=.slice (some ⟨g,0,none⟩) (L+20) c) (h:W.ownsRow B 5 1 v (L+20) (bytesL (L+20) (gM (zB p L 2) L 4))) (hj:j < L):W.cell? ⟨g,0+j,none⟩=some (.int .u8 2):=by
 subst e
 rw [(own_cell9 h (show j < L+20 by omega)).1]
 unfold gM
 rw [if_pos hj]
 rfl
theorem ry_lo {W:World} {B m g c j l:Nat} {v:Value} {wf:Nat->Int} (e:v=.slice (some ⟨g,0,none⟩) (m+20) c) (h:W.ownsRow B 3 1 v (m+20) (intsL (m+20) (yI wf m (l+1)))) (hj:j < m):W.cell? ⟨g,0+j,none⟩=some (.int .i64 (-1 - (l:Int))):=by
 subst e
 rw [(own_cellI h (show j < m+20 by omega)).1]
 unfold yI
 rw [if_pos (show j < nI m (l+1) from hj)]
 rfl
theorem ry_hi {W:World} {B m g c j l:Nat} {v:Value} {wf:Nat->Int} (e:v=.slice (some ⟨g,0,none⟩) (m+20) c) (h:W.ownsRow B 3 1 v (m+20) (intsL (m+20) (yI wf m (l+1)))) (h0:m<=j) (hj:j < m+20):W.cell? ⟨g,0+j,none⟩=some (.int .i64 ((900+l:Nat):Int)):=by
 subst e
 rw [(own_cellI h hj).1]
 unfold yI
 rw [if_neg (show ¬ j < nI m (l+1) from Nat.not_lt.2 h0)]
 rfl
theorem own_four (X:World) (y:Nat->Value):(X.alloc (.cells #[y 0,y 1,y 2,y 3] 24)).ownsRow X.heap.size 24 1 (.slice (some ⟨X.heap.size,0,none⟩) 4 4) 4 (lL y 4):=by
 refine ⟨by rw [lL_len],Or.inr ⟨_,_,_,rfl,Nat.le_refl _,heapNew X _,Nat.le_refl _,by unfold maxLen; omega,rfl,?_⟩⟩
 apply List.ext_getElem?
 intro j
 match j with
 | 0=>rw [lL_get _ _ _ (by omega)]; rfl
 | 1=>rw [lL_get _ _ _ (by omega)]; rfl
 | 2=>rw [lL_get _ _ _ (by omega)]; rfl
 | 3=>rw [lL_get _ _ _ (by omega)]; rfl
 | j+4=>rw [List.getElem?_eq_none (by simp),List.getElem?_eq_none (by rw [lL_len]; omega)]
theorem fam_first {B L:Nat} {v:Value} {p q:Nat->Nat} {W:World} (h:W.ownsRow B 5 1 v (L+2) (bytesL (L+2) (pX p L))):Fam B 1 (updX (fun _=>undef) 0 v) (nB L) (fB p q L) W:=
 ⟨fun t ht=>by
  obtain rfl:t=0:=by omega
  exact h,fun s t hs ht hst=>absurd (show s=t by omega) hst⟩
theorem fmi_first {B m:Nat} {v:Value} {wf o s:Nat->Int} {W:World} (h:W.ownsRow B 3 1 v (m+2) (intsL (m+2) (wX wf m))):FmI B 1 (updX (fun _=>undef) 0 v) (nI m) (fI wf o s m) W:=
 ⟨fun t ht=>by
  obtain rfl:t=0:=by omega
  exact h,fun s t hs ht hst=>absurd (show s=t by omega) hst⟩
theorem fmi_add {B k:Nat} {x:Nat->Value} {nn:Nat->Nat} {ff:Nat->Nat->Int} {W W':World} (h:FmI B k x nn ff W) (hb:Below W.heap.size W W') (hB:B<=W.heap.size) {r:Value} (hr:W'.ownsRow W.heap.size 3 1 r (nn k) (intsL (nn k) (ff k))):FmI B (k+1) (updX x k r) nn ff W':=
 FmI.add (h.on hb) (fun t ht b e=>((h.rows t ht).lt b e).2) hr hB rfl (fun _ _=>rfl)
section
variable {B m:Nat} {x:Nat->Value} {nn:Nat->Nat} {ff:Nat->Nat->Nat} {zz:Nat->Nat} {gv:Nat->Value} {gl:Nat->Nat} {W W':World}
theorem fam_overT {C n s:Nat} {u:TypeId} {v2:Value} {ys:List Value} (h:Fam B m x nn ff W) (h2:W.ownsRow C u s v2 n ys) (gr:W.grownBy W' v2.ownBlock) (hu:5 ≠ u):Fam B m x nn ff W':=⟨fun t ht=>Drw.own_overT (h.rows t ht) h2 gr hu,h.dis⟩
theorem fam_offT {g k:Nat} {u:TypeId} {c:Array Value} {z:Value} (h:Fam B m x nn ff W) (hg:W.heap[g]?=some (.cells c u)) (hu:u ≠ 5):Fam B m x nn ff (W.setCell ⟨g,k,none⟩ z):=⟨fun t ht=>own_offT (h.rows t ht) hg hu,h.dis⟩
theorem apN_overT {C n s:Nat} {u:TypeId} {v2:Value} {ys:List Value} (h:ApN B m nn x ff zz gv gl W) (h2:W.ownsRow C u s v2 n ys) (gr:W.grownBy W' v2.ownBlock) (hu:5 ≠ u):ApN B m nn x ff zz gv gl W':=⟨fam_overT h.fam h2 gr hu,fun t ht=>Drw.own_overT (h.grown t ht) h2 gr hu,h.le,h.at',h.dis⟩
theorem apN_offT {g k:Nat} {u:TypeId} {c:Array Value} {z:Value} (h:ApN B m nn x ff zz gv gl W) (hg:W.heap[g]?=some (.cells c u)) (hu:u ≠ 5):ApN B m nn x ff zz gv gl (W.setCell ⟨g,k,none⟩ z):=⟨fam_offT h.fam hg hu,fun t ht=>own_offT (h.grown t ht) hg hu,h.le,h.at',h.dis⟩
theorem apN_cgl {gl':Nat->Nat} (h:ApN B m nn x ff zz gv gl W) (e:∀ t,t < m->gl t=gl' t):ApN B m nn x ff zz gv gl' W:=⟨h.fam,fun t ht=>by rw [← e t ht]; exact h.grown t ht,fun t ht=>by rw [← e t ht]; exact h.le t ht,h.at',h.dis⟩
theorem stepGrB {ops:Array Oper} {Q:Exit->Act->World->Prop} {K:Act->World->Prop} {j g i:Nat} {o:Oper} {a:Act} {s y:Operand} {z:Int} (hos:ops[j]?=some o) (hgd:Region.wanted o (yielded ops a.tmps)=true)
  (ho:o.op=.call { callee:=.builtin .append,args:=#[s,y],argTypes:=#[23,23] }) (hs:a.eval s=gv i) (hy:a.eval y=.slice (some ⟨g,0,none⟩) 1 1) (h:ApN B m nn x ff zz gv gl W) (hi:i < m) (hg:W.heap[g]?=some (.cells #[.int .u8 z] 5)) (hn:gl i+1<=200000000000000) (hB:B<=W.heap.size)
  (hK:∀ v' W',ApN B m nn x ff zz (updX gv i v') (fun t=>if t=i then gl i+1 else gl t) W'->W.grownBy W' (gv i).ownBlock->K (a.put o.dst v') W') (hz:z=((zz i:Nat):Int):=by rfl):wpOp Try.prog ops Q j K a W:=by
 obtain ⟨i0,h1,h2,h3,h4⟩:=info5
 subst hz
 have hle:=h.le i hi
 obtain ⟨v',w',hr,q1,q2⟩:=run_append_ownR (P:=Try.prog) W B 23 o.type 5 i0 (.int .u8 0) Try.underlying23 h1 h2 h3 h4 rfl (gv i) (gl i) (bytesL (gl i) (gM (ff i) (nn i) (zz i))) (h.grown i hi) ⟨g,0,none⟩ 1 1 (bytesL 1 fun j=>gM (ff i) (nn i) (zz i) (gl i+j)) (bytesL_len _ _) (by
  intro j u hu
  have hj:j < 1:=by have:=(List.getElem?_eq_some_iff.1 hu).1; rw [bytesL_len] at this; exact this
  obtain rfl:j=0:=by omega
  rw [bytesL_at 1 _ hj] at hu
  rw [Addr.add_mid,Nat.zero_add,cell_of_row _ _ _ _ _ _ hg,← hu]
  show some (Value.int .u8 ((zz i:Nat):Int))=some (Value.int .u8 ((gM (ff i) (nn i) (zz i) (gl i+0):Nat):Int))
  unfold gM
  rw [if_neg (by omega)]) (By8.bytesL_one _ _) hn hB
 rw [bytesL_app] at q1
 refine stepV hos hgd (v:=v') (w':=w') ?_ (hK v' w' (h.grow hi q1 q2) ?_)
 ·unfold execOp
  simp only [ho,resolve,invoke,builtin,Sem.run_bind,Sem.run_pure,Result.andThen_ok,List.map_toArray,List.map_cons,List.map_nil,hs,hy,hr]
 ·rcases q2 with ⟨_,q,_⟩ | ⟨_,q⟩
  ·exact q
  ·exact ⟨q.os,q.tape,q.output,q.size,fun k hk _=>q.block k hk (fun e=>by cases e)⟩
end
section
variable {B m:Nat} {x y:Nat->Value} {nn dd:Nat->Nat} {fx fy:Nat->Nat->Int} {W W':World}
theorem gp_cg {dd':Nat->Nat} {fy':Nat->Nat->Int} (h:Gp B m x y nn dd fx fy W) (hd:∀ t,t < m->dd t=dd' t) (hf:∀ t,t < m->∀ j,j < nn t+dd' t->fy t j=fy' t j):Gp B m x y nn dd' fx fy' W:=
 ⟨h.rx,fun t ht=>by
  have h2:=h.ry t ht
  rw [hd t ht,intsL_congr (hf t ht)] at h2
  exact h2,fun t ht j hj=>(hf t ht j (by omega)).symm.trans (h.lo t ht j hj),fun t ht=>by
  have h2:=h.pl t ht
  rw [hd t ht] at h2
  exact h2,h.dis⟩
theorem stepGp {ops:Array Oper} {Q:Exit->Act->World->Prop} {K:Act->World->Prop} {j t:Nat} {o:Oper} {a:Act} {s u:Operand} {v:Value} {z:Int} (hos:ops[j]?=some o) (hgd:Region.wanted o (yielded ops a.tmps)=true)
  (ho:o.op=.call { callee:=.builtin .append,args:=#[s,u],argTypes:=#[24,24] }) (hs:a.eval s=y t) (hu:a.eval u=v) (h:Gp B m x y nn dd fx fy W) (ht:t < m) (hv:SliceI W v 1 (fun _=>z)) (hn:nn t+dd t+1<=17592186044416) (hB:B<=W.heap.size)
  (hK:∀ v' W',Gp B m x (updX y t v') nn (updD dd t 1) fx (updG fy t (catI (nn t+dd t) (fy t) (fun _=>z))) W'->W.grownBy W' (y t).ownBlock->K (a.put o.dst v') W'):wpOp Try.prog ops Q j K a W:=by
 have hsome:∃ ad c',v=.slice (some ad) 1 c':=by
  obtain ⟨ao,c,e,_,_,hc⟩:=hv.shape
  obtain ⟨b,off,e2,_⟩:=hc (by omega)
  exact ⟨_,_,by rw [e,e2]⟩
 obtain ⟨v',W',hr,q1,q3⟩:=run_app2L W o.type _ (nn t+dd t) 1 (y t) v (fy t) (fun _=>z) (h.ry t ht) hv hsome (by omega) hn hB
 refine stepV hos hgd (v:=v') (w':=W') ?_ (hK v' W' (h.more ht q1 q3) ?_)
 ·unfold execOp
  simp only [ho,resolve,invoke,builtin,Sem.run_bind,Sem.run_pure,Result.andThen_ok,List.map_toArray,List.map_cons,List.map_nil,hs,hu,hr]
 ·rcases q3 with ⟨b,c,e1,_,gr⟩ | ⟨hb,_⟩
  ·rw [e1]
   exact gr
  ·exact ⟨hb.os,hb.tape,hb.output,hb.size,fun j hj _=>hb.block j hj⟩
end
section
variable (p:Nat->Nat) (wf:Nat->Int) (L m:Nat) (ch:Int) (pv wv:Value) (V:World)
theorem kp_turn (FP:SliceN V pv L p) (hl:L<=140737488351232) (FW:SliceI V wv m wf) (hE:tnE L ((m:Nat):Int) ch wf m p=0):Calls Try.prog 16 #[pv,.int .i64 ((m:Nat):Int),.int .i64 ch,wv] V fun e w'=>∃ r,e=.returned (.tuple #[r,.int .i64 ((0:Nat):Int)])/\w'.ownsRow V.heap.size 5 1 r L (bytesL L (tnF L ((m:Nat):Int) ch wf p))/\Below V.heap.size V w':=
 Calls.mono (pturn p L ((m:Nat):Int) ch wf m pv wv V FP hl FW) fun e w' ⟨r,g1,g2,g3⟩=>by
  rw [hE] at g1
  rw [hE,zl_ok] at g2
  exact ⟨r,g1,g2,g3⟩
theorem kp_order (FP:SliceN V pv L p) (hl:L<=140737488351232) (hE:riE L ((m:Nat):Int) ch p=0) (_hm:m<=256):Calls Try.prog 10 #[pv,.int .i64 ((m:Nat):Int),.int .i64 ch] V fun e w'=>∃ r,e=.returned (.tuple #[r,.int .i64 ((0:Nat):Int)])/\w'.ownsRow V.heap.size 3 1 r m (intsL m (orF L ((m:Nat):Int) ch p))/\Below V.heap.size V w':=
 Calls.mono (porder p L ((m:Nat):Int) ch pv V FP hl) fun e w' ⟨r,g1,g2,g3⟩=>by
  rw [hE] at g1
  rw [hE,zl_ok] at g2
  exact ⟨r,g1,g2,g3⟩
theorem kp_shuffle (FP:SliceN V pv L p) (hl:L<=140737488351232) (FW:SliceI V wv m wf) (hE:riE L ((m:Nat):Int) ch p=0):Calls Try.prog 11 #[pv,.int .i64 ch,wv] V fun e w'=>∃ r,e=.returned (.tuple #[r,.int .i64 ((0:Nat):Int)])/\w'.ownsRow V.heap.size 3 1 r m (intsL m (fun i=>wf (orF L ((m:Nat):Int) ch p i).toNat))/\Below V.heap.size V w':=
 Calls.mono (pshuffleI p L m ch wf pv wv V FP hl FW) fun e w' ⟨r,g1,g2,g3⟩=>by
  rw [hE] at g1
  rw [hE,zl_ok] at g2
  exact ⟨r,g1,g2,g3⟩
end
theorem or_fits0 {L m:Nat} {ch:Int} {p:Nat->Nat} (hE:riE L ((m:Nat):Int) ch p=0):∀ j,j < m->-9223372036854775808<=orF L ((m:Nat):Int) ch p j/\orF L ((m:Nat):Int) ch p j < 9223372036854775808:=fun j hj=>or_fits j (by rw [hE,zl_ok]; exact hj)
theorem sf_fits {L m J:Nat} {ch:Int} {p:Nat->Nat} {g:Nat->Int} (hf:Fit L m J ((m:Nat):Int) ch p) (hg:∀ j,j < m->-9223372036854775808<=g j/\g j < 9223372036854775808):∀ j,j < m->-9223372036854775808<=g (orF L ((m:Nat):Int) ch p j).toNat/\g (orF L ((m:Nat):Int) ch p j).toNat < 9223372036854775808:=fun j hj=>by
 have h1:=hf.or_lt hj
 exact hg _ (by omega)
section
variable {o:Oper} {a:Act} {w:World}
theorem execNeUc {x:Operand} {z:Int} (ho:o.op=.binOp .neq 5 x (.const (.int .u8 z)) 5) (hx:a.eval x=.int .u8 z):(execOp a.eval o).run Try.prog w=.ok (.value (.bool false)) w:=by
 have hc:a.eval (.const (.int .u8 z))=.int .u8 z:=rfl
 unfold execOp
 simp only [ho,hx,hc]
 simp [go_sem]
theorem execBsLI4 {x0 x1 x2 x3:Operand} {r0 r1 r2 r3:Value} (ho:o.op=.buildSlice 50 4 #[(0,x0),(1,x1),(2,x2),(3,x3)]) (h0:a.eval x0=r0) (h1:a.eval x1=r1) (h2:a.eval x2=r2) (h3:a.eval x3=r3)
  (q0:∃ g n c,r0=.slice g n c) (q1:∃ g n c,r1=.slice g n c) (q2:∃ g n c,r2=.slice g n c) (q3:∃ g n c,r3=.slice g n c) :
  (execOp a.eval o).run Try.prog w=.ok (.value (.slice (some ⟨w.heap.size,0,none⟩) 4 4)) (w.alloc (.cells #[r0,r1,r2,r3] 24)):=by
 obtain ⟨_,_,_,rfl⟩:=q0
 obtain ⟨_,_,_,rfl⟩:=q1
 obtain ⟨_,_,_,rfl⟩:=q2
 obtain ⟨_,_,_,rfl⟩:=q3
 unfold execOp
 simp only [ho,List.map_toArray,List.map_cons,List.map_nil,h0,h1,h2,h3]
 simp [go_sem]
end
set_option maxRecDepth 100000 in
set_option maxHeartbeats 4000000 in
theorem keeps13 (p:Nat->Nat) (L:Nat) (n ch:Int) (wf:Nat->Int) (m:Nat) (pv wv:Value) (V:World) (FP:SliceN V pv L p) (hl:L<=140737488351232) (hz:∀ l c,pv=.slice none l c->c=0) (FW:SliceI V wv m wf) (hm17:m<=17592186043904) (hzw:∀ l c,wv=.slice none l c->c=0) :
  Calls Try.prog 8 #[.agg (akC pv (.int .i64 n) (.int .i64 ch) wv)] V fun e w'=>e=.returned (.bool true)/\Below V.heap.size V w':=by
 go_enter Try.func8,Try.ntmps8
 refine wp_open (fun a=>(a.tmps.size=429/\a.defers=[])/\a.eval (.tmp 0)=.agg (akC pv (.int .i64 n) (.int .i64 ch) wv)) ⟨⟨rfl,rfl⟩,rfl⟩ ?_
 rintro a ⟨A,t0⟩
 have BW:Below V.heap.size V V:=Below.refl _ _
 refine wp_seq ?_
 obtain ⟨gq,eggq⟩:∃ z_:Nat,V.heap.size=z_:=⟨_,rfl⟩
 refine wi_ A (h1_ t0) (rs_ 0 (fun a e=>?_))
 refine stepV rfl rfl (execBoxJb rfl (e _)) ⟨.pointer (some ⟨gq,0,none⟩),⟨_,rfl,by subst eggq; rfl⟩,fun X0 hX=>?_⟩
 have bQ:Below V.heap.size V X0:=by subst hX eggq; exact (belNew V _)
 have FQ:(X0.heap[gq]?=some (.cells (akC pv (.int .i64 n) (.int .i64 ch) wv) 38)):=by subst hX eggq; exact heapNew V _
 have bX:=bQ
 clear bQ hX eggq e a
 refine rg_ [(1,.pointer (some ⟨gq,0,none⟩))] ?_
 rintro a A ⟨t1,-⟩
 replace FP:=(FP.on bX)
 replace FW:=(FW.on bX)
 have ZX0:=bX.size
 replace BW:=BW.trans (bX.mono BW.size)
 clear bX
 refine wp_seq (wp_seq ?_)
 refine wi_ A (h1_ t1) (rc_ 0 (alive13 X0) (cb_ fun X1 bQ=>?_))
 have bX:=bQ
 clear bQ
 refine rv_ 1 (.bool false) (fun a e=>execNot8 (b:=true) rfl (e _)) (rf_ [(38,.bool false)] (h1_ t1) ?_)
 rintro a A ⟨t38,-⟩ ⟨t1,-⟩
 replace FP:=(FP.on bX)
 replace FW:=(FW.on bX)
 replace FQ:=(on9 FQ bX)
 have ZX1:=bX.size
 replace BW:=BW.trans (bX.mono BW.size)
 clear bX
 refine wp_cond_false t38 (wp_skip ?_)
 clear t38
 refine wp_seq ?_
 refine wi_ A (h1_ t1) (rv_ 0 (.pointer (some ⟨gq,0,none⟩)) (fun a e=>execFldJb0 rfl (e _)) (rv_ 1 (pv) (fun a e=>execLdL rfl (e _) (ak_at0 FQ)) (rv_ 2 (.pointer (some ⟨gq,1,none⟩)) (fun a e=>execFldJb1 rfl (e _)) (rv_ 3 (.int .i64 n) (fun a e=>execLd3 rfl (e _) (ak_at1 FQ)) (rv_ 4 (.pointer (some ⟨gq,2,none⟩)) (fun a e=>execFldJb2 rfl (e _)) (rv_ 5 (.int .i64 ch) (fun a e=>execLd3 rfl (e _) (ak_at2 FQ)) (rv_ 6 (.pointer (some ⟨gq,3,none⟩)) (fun a e=>execFldJb3 rfl (e _)) (rv_ 7 (wv) (fun a e=>execLdLI (v:=wv) rfl (e _) (ak_at3 FQ)) (rc_ 8 (rturn13 p L n ch wf m _ _ X1 FP (by omega) FW (by omega)) fun e X3 hh=>?_)))))))))
 obtain ⟨v48,he,hk,hb⟩:=hh
 refine ⟨_,he,?_⟩
 have bQ:Below X1.heap.size X1 X3:=hb
 have Fv48:SliceN X3 v48 (zl (tnE L n ch wf m p) L) (tnF L n ch wf p):=own_slice hk (fun _ hj=>tn_byte (FP).bytes hj)
 have bX:=bQ
 clear bQ
 refine rf_ [(3,v48),(4,.int .i64 ((tnE L n ch wf m p:Nat):Int))] (h1_ t1) ?_
 rintro a A ⟨t3,t4,-⟩ ⟨t1,-⟩
 replace FP:=(FP.on bX)
 replace FW:=(FW.on bX)
 replace FQ:=(on9 FQ bX)
 have ZX3:=bX.size
 replace BW:=BW.trans (bX.mono BW.size)
 clear bX
 refine wp_seq (wp_seq ?_)
 by_cases hF:tnE L n ch wf m p=0
 ·refine wi_ A (h3_ t1 t3 t4) (rv_ 1 (.bool false) (fun a e=>execDec (execNeN (p:=tnE L n ch wf m p) (q:=0) rfl (e _) rfl) (decide_eq_false (by omega))) (rf_ [(52,.bool false)] (h2_ t1 t3) ?_))
  rintro a A ⟨t52,-⟩ ⟨t1,t3,-⟩
  refine wp_cond_false t52 (wp_skip ?_)
  clear t52
  obtain ⟨hft,hw,hwi⟩:=tn_ok hF
  obtain rfl:n=(m:Int):=hft.n
  have hm:m<=256:=hft.le
  have hL18:18<=L:=hft.len
  have hR:riE L ((m:Nat):Int) ch p=0:=hft.ri
  have hpb:∀ j,j < L->p j < 256:=FP.bytes
  replace Fv48:SliceN X3 v48 (L) (tnF L ((m:Nat):Int) ch wf p):=(by have h_:=Fv48; rw [hF,zl_ok] at h_; exact h_)
  have BB:Below X3.heap.size X3 X3:=Below.refl _ _
  refine wp_seq ?_
  obtain ⟨g53,egg53⟩:∃ z_:Nat,X3.heap.size=z_:=⟨_,rfl⟩
  refine wi_ A (h2_ t1 t3) (rs_ 0 (fun a e=>?_))
  refine stepV rfl rfl (execBs0 rfl) ⟨.slice (some ⟨g53,0,none⟩) 0 0,⟨_,rfl,by subst egg53; rfl⟩,fun X6_1 hX=>?_⟩
  have bQ:Below X3.heap.size X3 X6_1:=by subst hX egg53; exact (belNew X3 _)
  have F53:(X6_1.ownsRow X3.heap.size 5 1 (.slice (some ⟨g53,0,none⟩) 0 0) (0) (bytesL (0) (pX p L))):=by subst hX egg53; exact own_base (own_none X3 _) (BB).size
  replace BB:=BB.trans (bQ.mono BB.size)
  clear bQ hX egg53 e a
  refine rv_ 1 (.pointer (some ⟨gq,0,none⟩)) (fun a e=>execFldJb0 rfl (e _)) (rv_ 2 (pv) (fun a e=>execLdL rfl (e _) (ak_at0 (on9 FQ BB))) (rs_ 3 (fun a e=>?_)))
  refine stepAppN (n:=0) (m:=L) (p:=pX p L) rfl rfl rfl (e _) (e _) F53 (sliceN_cg (FP.on BB) (fun j hj=>(pX_lo hj).symm)) hz (by omega) (BB).size fun v56 X6_2 own' gr=>⟨_,⟨_,rfl,rfl⟩,eqw ?_⟩
  obtain ⟨BB,F56⟩:Below X3.heap.size X3 X6_2/\(X6_2.ownsRow X3.heap.size 5 1 v56 (0+L) (bytesL (0+L) (pX p L))):=⟨(BB).grown gr (BB).size (fun k hk=>(F53.lt k hk).1),own'⟩
  clear F53 e a
  obtain ⟨g57,egg57⟩:∃ z_:Nat,X6_2.heap.size=z_:=⟨_,rfl⟩
  refine rs_ 4 (fun a e=>?_)
  refine stepV rfl rfl (execBsU2 rfl) ⟨.slice (some ⟨g57,0,none⟩) 2 2,⟨_,rfl,by subst egg57; rfl⟩,fun X6_3 hX=>?_⟩
  have bQ:Below X6_2.heap.size X6_2 X6_3:=by subst hX egg57; exact (belNew X6_2 _)
  have F57:(SliceN X6_3 (.slice (some ⟨g57,0,none⟩) 2 2) 2 (fun j=>pX p L (0+L+j))):=by subst hX egg57; exact pX_two X6_2 p L
  replace F56:=(ownsRow_below F56 bQ)
  replace BB:=BB.trans (bQ.mono BB.size)
  clear bQ hX egg57 e a
  refine rs_ 5 (fun a e=>?_)
  refine stepAppN (n:=0+L) (m:=2) (p:=pX p L) rfl rfl rfl (e _) (e _) F56 F57 (fun _ _ e=>by cases e) (by omega) (BB).size fun v58 X6 own' gr=>⟨_,⟨_,rfl,rfl⟩,eqw ?_⟩
  obtain ⟨BB,F58⟩:Below X3.heap.size X3 X6/\(X6.ownsRow X3.heap.size 5 1 v58 (0+L+2) (bytesL (0+L+2) (pX p L))):=⟨(BB).grown gr (BB).size (fun k hk=>(F56.lt k hk).1),own'⟩
  clear F56 F57 e a
  refine rf_ [(5,v58)] (h2_ t1 t3) ?_
  rintro a A ⟨t5,-⟩ ⟨t1,t3,-⟩
  rw [Nat.zero_add] at F58
  obtain ⟨gp,cp,epp,hgp,-⟩:=ownL_some9 F58 (by omega)
  have hcp:L+2<=cp:=own_room (epp ▸ F58)
  have FB:(Fam X3.heap.size 1 (updX (fun _=>undef) 0 v58) (nB L) (fB p (tnF L ((m:Nat):Int) ch wf p) L) X6):=fam_first F58
  clear F58
  refine wp_seq ?_
  obtain ⟨g59,egg59⟩:∃ z_:Nat,X6.heap.size=z_:=⟨_,rfl⟩
  refine wi_ A (h3_ t1 t3 t5) (rs_ 0 (fun a e=>?_))
  refine stepV rfl rfl (execBs0I rfl) ⟨.slice (some ⟨g59,0,none⟩) 0 0,⟨_,rfl,by subst egg59; rfl⟩,fun X7_1 hX=>?_⟩
  have bQ:Below X6.heap.size X6 X7_1:=by subst hX egg59; exact (belNew X6 _)
  have F59:(X7_1.ownsRow X3.heap.size 3 1 (.slice (some ⟨g59,0,none⟩) 0 0) (0) (intsL (0) (wX wf m))):=by subst hX egg59; exact ownD_base (own_noneI X6 _) (BB).size
  replace FB:=(FB.on bQ)
  replace BB:=BB.trans (bQ.mono BB.size)
  clear bQ hX egg59 e a
  refine rv_ 1 (.pointer (some ⟨gq,3,none⟩)) (fun a e=>execFldJb3 rfl (e _)) (rv_ 2 (wv) (fun a e=>execLdLI (v:=wv) rfl (e _) (ak_at3 (on9 FQ BB))) (rs_ 3 (fun a e=>?_)))
  refine stepAppIs (f:=wX wf m) (g:=wf) rfl rfl rfl (e _) (e _) F59 (FW.on BB) hzw (by omega) (BB).size fun v62 X7_2 own' gr=>⟨_,⟨_,rfl,rfl⟩,eqw ?_⟩
  obtain ⟨BB,FB,F62⟩:Below X3.heap.size X3 X7_2/\(Fam X3.heap.size 1 (updX (fun _=>undef) 0 v58) (nB L) (fB p (tnF L ((m:Nat):Int) ch wf p) L) X7_2)/\(X7_2.ownsRow X3.heap.size 3 1 v62 (0+m) (intsL (0+m) (wX wf m))):=⟨(BB).grown gr (BB).size (fun k hk=>(F59.lt k hk).1),(fam_overT FB F59 gr (by decide)),(by rw [intsL_congr (g:=wX wf m) (fun j hj=>wX_lo (by omega))] at own'; exact own')⟩
  clear F59 e a
  obtain ⟨g63,egg63⟩:∃ z_:Nat,X7_2.heap.size=z_:=⟨_,rfl⟩
  refine rs_ 4 (fun a e=>?_)
  refine stepV rfl rfl (execBsI2 (y:=71) (z:=72) rfl) ⟨.slice (some ⟨g63,0,none⟩) 2 2,⟨_,rfl,by subst egg63; rfl⟩,fun X7_3 hX=>?_⟩
  have bQ:Below X7_2.heap.size X7_2 X7_3:=by subst hX egg63; exact (belNew X7_2 _)
  have F63:(SliceI X7_3 (.slice (some ⟨g63,0,none⟩) 2 2) 2 (fun j=>if j=0 then 71 else 72)):=by subst hX egg63; exact sliceI2 X7_2 71 72 (by omega) (by omega)
  replace FB:=(FB.on bQ)
  replace F62:=(ownD_below F62 bQ)
  replace BB:=BB.trans (bQ.mono BB.size)
  clear bQ hX egg63 e a
  refine rs_ 5 (fun a e=>?_)
  refine stepAppIs (f:=wX wf m) (g:=fun j=>if j=0 then 71 else 72) rfl rfl rfl (e _) (e _) F62 F63 (fun _ _ e=>by cases e) (by omega) (BB).size fun v64 X7 own' gr=>⟨_,⟨_,rfl,rfl⟩,eqw ?_⟩
  obtain ⟨BB,FB,F64⟩:Below X3.heap.size X3 X7/\(Fam X3.heap.size 1 (updX (fun _=>undef) 0 v58) (nB L) (fB p (tnF L ((m:Nat):Int) ch wf p) L) X7)/\(X7.ownsRow X3.heap.size 3 1 v64 (0+m+2) (intsL (0+m+2) (wX wf m))):=⟨(BB).grown gr (BB).size (fun k hk=>(F62.lt k hk).1),(fam_overT FB F62 gr (by decide)),(by rw [intsL_congr (g:=wX wf m) (fun j hj=>wX_hi hj)] at own'; exact own')⟩
  clear F62 F63 e a
  refine rf_ [(6,v64)] (h3_ t1 t3 t5) ?_
  rintro a A ⟨t6,-⟩ ⟨t1,t3,t5,-⟩
  rw [Nat.zero_add] at F64
  obtain ⟨gw,cw,eww,-,-⟩:=ownL_some9 F64 (by omega)
  have hcw:m+2<=cw:=own_room (eww ▸ F64)
  have FI:(FmI X3.heap.size 1 (updX (fun _=>undef) 0 v64) (nI m) (fI wf (orF L ((m:Nat):Int) ch p) (fun i=>wf (orF L ((m:Nat):Int) ch p i).toNat) m) X7):=fmi_first F64
  clear F64
  refine wp_seq ?_
  refine wj_ [0,1,2,3,4,5,6,7,8,9,10] [] [2,3,7] [] A (h4_ t1 t3 t5 t6) (fun X8 bD=>?_)
  refine dw_ 1 (.pointer (some ⟨gq,0,none⟩)) (fun a X e=>execFldJb0 rfl (e _)) (dv_ 2 (pv) (fun a X e hb=>execLdL rfl (e _) (ak_at0 (on9 FQ (BB.trans (hb.mono BB.size))))) (dv_ 3 (.int .i64 ((L:Nat):Int)) (fun a X e hb=>execLenV (len:=L) rfl (e _) (shp9 (FP.on (BB.trans (hb.mono BB.size))))) (dw_ 4 (.slice (some ⟨gp,0,none⟩) L cp) (fun a X e=>By8.execSlH rfl ((e _).trans epp) (e _) (sl_h8 gp (L+2) cp L (by omega) X)) (dw_ 6 (.pointer (some ⟨gq,1,none⟩)) (fun a X e=>execFldJb1 rfl (e _)) (dv_ 7 (.int .i64 ((m:Nat):Int)) (fun a X e hb=>execLd3 rfl (e _) (ak_at1 (on9 FQ (BB.trans (hb.mono BB.size))))) (dw_ 8 (.slice (some ⟨gw,0,none⟩) m cw) (fun a X e=>By8.execSlH rfl ((e _).trans eww) (e _) (sl_hI gw (m+2) cw m (by omega) X)) (dz_ [(7,.slice (some ⟨gp,0,none⟩) L cp),(8,.slice (some ⟨gw,0,none⟩) m cw)] (h4_ t1 t3 t5 t6) ?_)))))))
  rintro a A ⟨t7,t8,-⟩ ⟨t1,t3,t5,t6,-⟩
  replace FB:=(FB.on bD)
  replace FI:=(FI.on bD)
  replace BB:=BB.trans (bD.mono BB.size)
  clear bD
  refine wp_seq ?_
  refine wi_ A (h6_ t1 t3 t5 t6 t7 t8) (rv_ 1 (.pointer (some ⟨gq,1,none⟩)) (fun a e=>execFldJb1 rfl (e _)) (rv_ 2 (.int .i64 ((m:Nat):Int)) (fun a e=>execLd3 rfl (e _) (ak_at1 (on9 FQ BB))) (rv_ 3 (.pointer (some ⟨gq,2,none⟩)) (fun a e=>execFldJb2 rfl (e _)) (rv_ 4 (.int .i64 ch) (fun a e=>execLd3 rfl (e _) (ak_at2 (on9 FQ BB))) (rc_ 6 (kp_turn p wf L m ch _ _ X8 (ip_slice epp (FB.rows 0 (by omega)) hpb) (by omega) (iw_slice eww (FI.rows 0 (by omega)) FW.fits) hF) fun e X9 hh=>?_)))))
  obtain ⟨va,he,hk,hb⟩:=hh
  refine ⟨_,he,?_⟩
  have bQ:Below X8.heap.size X8 X9:=hb
  have FB2:(Fam X3.heap.size 2 (updX (updX (fun _=>undef) 0 v58) 1 va) (nB L) (fB p (tnF L ((m:Nat):Int) ch wf p) L) X9):=Fam.add FB hb (BB).size hk
  replace FI:=(FI.on bQ)
  replace BB:=BB.trans (bQ.mono BB.size)
  clear FB bQ
  refine rf_ [(9,va),(10,.int .i64 ((0:Nat):Int))] (h6_ t1 t3 t5 t6 t7 t8) ?_
  rintro a A ⟨t9,t10,-⟩ ⟨t1,t3,t5,t6,t7,t8,-⟩
  have FB:=FB2
  clear FB2
  refine wp_seq ?_
  refine wi_ A (h8_ t1 t3 t5 t6 t7 t8 t9 t10) (rv_ 1 (.pointer (some ⟨gq,1,none⟩)) (fun a e=>execFldJb1 rfl (e _)) (rv_ 2 (.int .i64 ((m:Nat):Int)) (fun a e=>execLd3 rfl (e _) (ak_at1 (on9 FQ BB))) (rv_ 3 (.pointer (some ⟨gq,2,none⟩)) (fun a e=>execFldJb2 rfl (e _)) (rv_ 4 (.int .i64 ch) (fun a e=>execLd3 rfl (e _) (ak_at2 (on9 FQ BB))) (rc_ 6 (kp_turn p wf L m ch _ _ X9 (ip_slice epp (FB.rows 0 (by omega)) hpb) (by omega) (iw_slice eww (FI.rows 0 (by omega)) FW.fits) hF) fun e X10 hh=>?_)))))
  obtain ⟨vb,he,hk,hb⟩:=hh
  refine ⟨_,he,?_⟩
  have bQ:Below X9.heap.size X9 X10:=hb
  have FB2:(Fam X3.heap.size 3 (updX (updX (updX (fun _=>undef) 0 v58) 1 va) 2 vb) (nB L) (fB p (tnF L ((m:Nat):Int) ch wf p) L) X10):=Fam.add FB hb (BB).size hk
  replace FI:=(FI.on bQ)
  replace BB:=BB.trans (bQ.mono BB.size)
  clear FB bQ
  refine rf_ [(11,vb),(12,.int .i64 ((0:Nat):Int))] (h8_ t1 t3 t5 t6 t7 t8 t9 t10) ?_
  rintro a A ⟨t11,t12,-⟩ ⟨t1,t3,t5,t6,t7,t8,t9,t10,-⟩
  have FB:=FB2
  clear FB2
  refine wp_seq ?_
  refine wi_ A (h10_ t1 t3 t5 t6 t7 t8 t9 t10 t11 t12) (rv_ 1 (.pointer (some ⟨gq,1,none⟩)) (fun a e=>execFldJb1 rfl (e _)) (rv_ 2 (.int .i64 ((m:Nat):Int)) (fun a e=>execLd3 rfl (e _) (ak_at1 (on9 FQ BB))) (rv_ 3 (.pointer (some ⟨gq,2,none⟩)) (fun a e=>execFldJb2 rfl (e _)) (rv_ 4 (.int .i64 ch) (fun a e=>execLd3 rfl (e _) (ak_at2 (on9 FQ BB))) (rc_ 5 (kp_order p L m ch _ X10 (ip_slice epp (FB.rows 0 (by omega)) hpb) (by omega) hR hm) fun e X11 hh=>?_)))))
  obtain ⟨vc,he,hk,hb⟩:=hh
  refine ⟨_,he,?_⟩
  have bQ:Below X10.heap.size X10 X11:=hb
  have FI2:(FmI X3.heap.size 2 (updX (updX (fun _=>undef) 0 v64) 1 vc) (nI m) (fI wf (orF L ((m:Nat):Int) ch p) (fun i=>wf (orF L ((m:Nat):Int) ch p i).toNat) m) X11):=fmi_add FI hb (BB).size hk
  replace FB:=(FB.on bQ)
  replace BB:=BB.trans (bQ.mono BB.size)
  clear FI bQ
  refine rf_ [(13,vc),(14,.int .i64 ((0:Nat):Int))] (h10_ t1 t3 t5 t6 t7 t8 t9 t10 t11 t12) ?_
  rintro a A ⟨t13,t14,-⟩ ⟨t1,t3,t5,t6,t7,t8,t9,t10,t11,t12,-⟩
  have FI:=FI2
  clear FI2
  refine wp_seq ?_
  refine wi_ A (h12_ t1 t3 t5 t6 t7 t8 t9 t10 t11 t12 t13 t14) (rv_ 1 (.pointer (some ⟨gq,1,none⟩)) (fun a e=>execFldJb1 rfl (e _)) (rv_ 2 (.int .i64 ((m:Nat):Int)) (fun a e=>execLd3 rfl (e _) (ak_at1 (on9 FQ BB))) (rv_ 3 (.pointer (some ⟨gq,2,none⟩)) (fun a e=>execFldJb2 rfl (e _)) (rv_ 4 (.int .i64 ch) (fun a e=>execLd3 rfl (e _) (ak_at2 (on9 FQ BB))) (rc_ 5 (kp_order p L m ch _ X11 (ip_slice epp (FB.rows 0 (by omega)) hpb) (by omega) hR hm) fun e X12 hh=>?_)))))
  obtain ⟨vd,he,hk,hb⟩:=hh
  refine ⟨_,he,?_⟩
  have bQ:Below X11.heap.size X11 X12:=hb
  have FI2:(FmI X3.heap.size 3 (updX (updX (updX (fun _=>undef) 0 v64) 1 vc) 2 vd) (nI m) (fI wf (orF L ((m:Nat):Int) ch p) (fun i=>wf (orF L ((m:Nat):Int) ch p i).toNat) m) X12):=fmi_add FI hb (BB).size hk
  replace FB:=(FB.on bQ)
  replace BB:=BB.trans (bQ.mono BB.size)
  clear FI bQ
  refine rf_ [(15,vd),(16,.int .i64 ((0:Nat):Int))] (h12_ t1 t3 t5 t6 t7 t8 t9 t10 t11 t12 t13 t14) ?_
  rintro a A ⟨t15,t16,-⟩ ⟨t1,t3,t5,t6,t7,t8,t9,t10,t11,t12,t13,t14,-⟩
  have FI:=FI2
  clear FI2
  refine wp_seq ?_
  refine wi_ A (h14_ t1 t3 t5 t6 t7 t8 t9 t10 t11 t12 t13 t14 t15 t16) (rv_ 1 (.pointer (some ⟨gq,2,none⟩)) (fun a e=>execFldJb2 rfl (e _)) (rv_ 2 (.int .i64 ch) (fun a e=>execLd3 rfl (e _) (ak_at2 (on9 FQ BB))) (rc_ 4 (kp_shuffle p wf L m ch _ _ X12 (ip_slice epp (FB.rows 0 (by omega)) hpb) (by omega) (iw_slice eww (FI.rows 0 (by omega)) FW.fits) hR) fun e X13 hh=>?_)))
  obtain ⟨vs,he,hk,hb⟩:=hh
  refine ⟨_,he,?_⟩
  have bQ:Below X12.heap.size X12 X13:=hb
  have FI2:(FmI X3.heap.size 4 (updX (updX (updX (updX (fun _=>undef) 0 v64) 1 vc) 2 vd) 3 vs) (nI m) (fI wf (orF L ((m:Nat):Int) ch p) (fun i=>wf (orF L ((m:Nat):Int) ch p i).toNat) m) X13):=fmi_add FI hb (BB).size hk
  replace FB:=(FB.on bQ)
  replace BB:=BB.trans (bQ.mono BB.size)
  clear FI bQ
  refine rf_ [(17,vs),(18,.int .i64 ((0:Nat):Int))] (h14_ t1 t3 t5 t6 t7 t8 t9 t10 t11 t12 t13 t14 t15 t16) ?_
  rintro a A ⟨t17,t18,-⟩ ⟨t1,t3,t5,t6,t7,t8,t9,t10,t11,t12,t13,t14,t15,t16,-⟩
  have FI:=FI2
  clear FI2
  refine wp_seq ?_
  refine wi_ A (h16_ t1 t3 t5 t6 t7 t8 t9 t10 t11 t12 t13 t14 t15 t16 t17 t18) (rv_ 1 (.pointer (some ⟨gq,2,none⟩)) (fun a e=>execFldJb2 rfl (e _)) (rv_ 2 (.int .i64 ch) (fun a e=>execLd3 rfl (e _) (ak_at2 (on9 FQ BB))) (rc_ 4 (kp_shuffle p wf L m ch _ _ X13 (ip_slice epp (FB.rows 0 (by omega)) hpb) (by omega) (iw_slice eww (FI.rows 0 (by omega)) FW.fits) hR) fun e X14 hh=>?_)))
  obtain ⟨vt,he,hk,hb⟩:=hh
  refine ⟨_,he,?_⟩
  have bQ:Below X13.heap.size X13 X14:=hb
  have FI2:(FmI X3.heap.size 5 (updX (updX (updX (updX (updX (fun _=>undef) 0 v64) 1 vc) 2 vd) 3 vs) 4 vt) (nI m) (fI wf (orF L ((m:Nat):Int) ch p) (fun i=>wf (orF L ((m:Nat):Int) ch p i).toNat) m) X14):=fmi_add FI hb (BB).size hk
  replace FB:=(FB.on bQ)
  replace BB:=BB.trans (bQ.mono BB.size)
  clear FI bQ
  refine rf_ [(19,vt),(20,.int .i64 ((0:Nat):Int))] (h16_ t1 t3 t5 t6 t7 t8 t9 t10 t11 t12 t13 t14 t15 t16 t17 t18) ?_
  rintro a A ⟨t19,t20,-⟩ ⟨t1,t3,t5,t6,t7,t8,t9,t10,t11,t12,t13,t14,t15,t16,t17,t18,-⟩
  have FI:=FI2
  clear FI2
  obtain ⟨xb,exb⟩:∃ z_,updX (updX (updX (fun _=>undef) 0 v58) 1 va) 2 vb=z_:=⟨_,rfl⟩
  obtain ⟨xi,exi⟩:∃ z_,updX (updX (updX (updX (updX (fun _=>undef) 0 v64) 1 vc) 2 vd) 3 vs) 4 vt=z_:=⟨_,rfl⟩
  replace t5:a.eval (.tmp 5)=xb 0:=t5.trans (by rw [← exb]; rfl)
  replace t9:a.eval (.tmp 9)=xb 1:=t9.trans (by rw [← exb]; rfl)
  replace t11:a.eval (.tmp 11)=xb 2:=t11.trans (by rw [← exb]; rfl)
  replace t6:a.eval (.tmp 6)=xi 0:=t6.trans (by rw [← exi]; rfl)
  replace t13:a.eval (.tmp 13)=xi 1:=t13.trans (by rw [← exi]; rfl)
  replace t15:a.eval (.tmp 15)=xi 2:=t15.trans (by rw [← exi]; rfl)
  replace t17:a.eval (.tmp 17)=xi 3:=t17.trans (by rw [← exi]; rfl)
  replace t19:a.eval (.tmp 19)=xi 4:=t19.trans (by rw [← exi]; rfl)
  replace epp:xb 0=.slice (some ⟨gp,0,none⟩) (L+2) cp:=by rw [← exb]; exact epp
  replace eww:xi 0=.slice (some ⟨gw,0,none⟩) (m+2) cw:=by rw [← exi]; exact eww
  rw [exb] at FB
  rw [exi] at FI
  clear exb exi
  obtain ⟨ga,ca,ea,hga,-⟩:=ownL_some9 (FB.rows 1 (by omega)) (show 0 < L by omega)
  obtain ⟨gb,cb,eb,hgb,-⟩:=ownL_some9 (FB.rows 2 (by omega)) (show 0 < L by omega)
  refine wp_seq (wp_seq ?_)
  refine wi_ A (hc_ t1 (hc_ t3 (h16_ t5 t6 t7 t8 t9 t10 t11 t12 t13 t14 t15 t16 t17 t18 t19 t20))) (rv_ 1 (.bool false) (fun a e=>execDec (execNeE (p:=0) (q:=0) rfl (e _) rfl) (decide_eq_false (by decide))) (rv_ 4 (.bool false) (fun a e=>execDec (execNeE (p:=0) (q:=0) rfl (e _) rfl) (decide_eq_false (by decide))) (rv_ 8 (.bool false) (fun a e=>execDec (execNeE (p:=0) (q:=0) rfl (e _) rfl) (decide_eq_false (by decide))) (rv_ 12 (.bool false) (fun a e=>execDec (execNeE (p:=0) (q:=0) rfl (e _) rfl) (decide_eq_false (by decide))) (rv_ 16 (.bool false) (fun a e=>execDec (execNeE (p:=0) (q:=0) rfl (e _) rfl) (decide_eq_false (by decide))) (rv_ 20 (.bool false) (fun a e=>execDec (execNeE (p:=0) (q:=0) rfl (e _) rfl) (decide_eq_false (by decide))) (rv_ 24 (.string (strN (tnF L ((m:Nat):Int) ch wf p) L)) (fun a e=>By8.execStr rfl (e _) (own_slice (FB.rows 1 (by omega)) (fun _ hj=>tn_byte hpb (by rw [hF,zl_ok]; exact hj)))) (rv_ 26 (.string (strN (tnF L ((m:Nat):Int) ch wf p) L)) (fun a e=>By8.execStr rfl (e _) (Fv48.on BB)) (rv_ 27 (.bool false) (fun a e=>By8.execNeqS rfl (e _) (e _)) (rv_ 31 (.string (strN (tnF L ((m:Nat):Int) ch wf p) L)) (fun a e=>By8.execStr rfl (e _) (own_slice (FB.rows 2 (by omega)) (fun _ hj=>tn_byte hpb (by rw [hF,zl_ok]; exact hj)))) (rv_ 33 (.string (strN (tnF L ((m:Nat):Int) ch wf p) L)) (fun a e=>By8.execStr rfl (e _) (Fv48.on BB)) (rv_ 34 (.bool false) (fun a e=>By8.execNeqS rfl (e _) (e _)) (rc_ 39 (sm_t _ _ (m) _ _ X14 (own_ints (FI.rows 1 (by omega)) (or_fits0 hR)) (own_ints (FI.rows 2 (by omega)) (or_fits0 hR)) (fun _ _=>rfl) (by omega)) (cb_ fun X15_1 bQ=>?_))))))))))))))
  replace FB:=(FB.on bQ)
  replace FI:=(FI.on bQ)
  replace BB:=BB.trans (bQ.mono BB.size)
  clear bQ
  refine rv_ 40 (.bool false) (fun a e=>execNot8 (b:=true) rfl (e _)) (rc_ 45 (sm_t _ _ (m) _ _ X15_1 (own_ints (FI.rows 3 (by omega)) (sf_fits hft FW.fits)) (own_ints (FI.rows 4 (by omega)) (sf_fits hft FW.fits)) (fun _ _=>rfl) (by omega)) (cb_ fun X15 bQ=>?_))
  replace FB:=(FB.on bQ)
  replace FI:=(FI.on bQ)
  replace BB:=BB.trans (bQ.mono BB.size)
  clear bQ
  refine rv_ 46 (.bool false) (fun a e=>execNot8 (b:=true) rfl (e _)) (rf_ [(175,.bool false)] (h11_ t1 t5 t6 t7 t8 t9 t11 t13 t15 t17 t19) ?_)
  rintro a A ⟨t175,-⟩ ⟨t1,t5,t6,t7,t8,t9,t11,t13,t15,t17,t19,-⟩
  refine wp_cond_false t175 (wp_skip ?_)
  clear t175
  clear Fv48
  refine wp_seq (wp_seq ?_)
  refine wi_ A (h11_ t1 t5 t6 t7 t8 t9 t11 t13 t15 t17 t19) (rv_ 1 (.string (strN p L)) (fun a e=>By8.execStr rfl (e _) (ip_slice epp (FB.rows 0 (by omega)) hpb)) (rv_ 2 (.pointer (some ⟨gq,0,none⟩)) (fun a e=>execFldJb0 rfl (e _)) (rv_ 3 (pv) (fun a e=>execLdL rfl (e _) (ak_at0 (on9 FQ BB))) (rv_ 4 (.string (strN p L)) (fun a e=>By8.execStr rfl (e _) (FP.on BB)) (rv_ 5 (.bool false) (fun a e=>By8.execNeqS rfl (e _) (e _)) (rv_ 8 (.pointer (some ⟨gq,3,none⟩)) (fun a e=>execFldJb3 rfl (e _)) (rv_ 9 (wv) (fun a e=>execLdLI (v:=wv) rfl (e _) (ak_at3 (on9 FQ BB))) (rc_ 10 (sm_t _ _ (m) _ _ X15 (iw_slice eww (FI.rows 0 (by omega)) FW.fits) (FW.on BB) (fun _ _=>rfl) (by omega)) (cb_ fun X17 bQ=>?_)))))))))
  replace FB:=(FB.on bQ)
  replace FI:=(FI.on bQ)
  replace BB:=BB.trans (bQ.mono BB.size)
  clear bQ
  refine rv_ 11 (.bool false) (fun a e=>execNot8 (b:=true) rfl (e _)) (rv_ 16 (.int .i64 ((L:Nat):Int)) (fun a e=>execLenV (len:=L) rfl (e _) ⟨_,_,rfl⟩) (rv_ 17 (.pointer (some ⟨gp,0+L,none⟩)) (fun a e=>execIdxB9 (k:=L) rfl ((e _).trans epp) (e _) (by omega)) (rv_ 18 (.int .u8 161) (fun a e=>execLdB rfl (e _) (pX_c1 epp (FB.rows 0 (by omega)))) (rv_ 19 (.bool false) (fun a e=>execNeUc rfl (e _)) (rv_ 24 (.int .i64 ((L:Nat):Int)) (fun a e=>execLenV (len:=L) rfl (e _) ⟨_,_,rfl⟩) (rv_ 25 (.int .i64 ((L+1:Nat):Int)) (fun a e=>execAd8 (p:=L) (q:=1) rfl (e _) rfl (by omega)) (rv_ 26 (.pointer (some ⟨gp,0+(L+1),none⟩)) (fun a e=>execIdxB9 (k:=L+1) rfl ((e _).trans epp) (e _) (by omega)) (rv_ 27 (.int .u8 162) (fun a e=>execLdB rfl (e _) (pX_c2 epp (FB.rows 0 (by omega)))) (rv_ 28 (.bool false) (fun a e=>execNeUc rfl (e _)) (rv_ 32 (.pointer (some ⟨gq,1,none⟩)) (fun a e=>execFldJb1 rfl (e _)) (rv_ 33 (.int .i64 ((m:Nat):Int)) (fun a e=>execLd3 rfl (e _) (ak_at1 (on9 FQ BB))) (rv_ 34 (.pointer (some ⟨gw,0+m,none⟩)) (fun a e=>execIdxN (k:=m) rfl ((e _).trans eww) (e _) (by omega)) (rv_ 35 (.int .i64 71) (fun a e=>execLd3 rfl (e _) (wX_c1 eww (FI.rows 0 (by omega)))) (rv_ 36 (.bool false) (fun a e=>execNeI rfl (e _) rfl) (rv_ 40 (.pointer (some ⟨gq,1,none⟩)) (fun a e=>execFldJb1 rfl (e _)) (rv_ 41 (.int .i64 ((m:Nat):Int)) (fun a e=>execLd3 rfl (e _) (ak_at1 (on9 FQ BB))) (rv_ 42 (.int .i64 ((m+1:Nat):Int)) (fun a e=>execAd8 (p:=m) (q:=1) rfl (e _) rfl (by omega)) (rv_ 43 (.pointer (some ⟨gw,0+(m+1),none⟩)) (fun a e=>execIdxN (k:=m+1) rfl ((e _).trans eww) (e _) (by omega)) (rv_ 44 (.int .i64 72) (fun a e=>execLd3 rfl (e _) (wX_c2 eww (FI.rows 0 (by omega)))) (rv_ 45 (.bool false) (fun a e=>execNeI rfl (e _) rfl) (rf_ [(222,.bool false)] (h9_ t1 t7 t8 t9 t11 t13 t15 t17 t19) ?_)))))))))))))))))))))
  rintro a A ⟨t222,-⟩ ⟨t1,t7,t8,t9,t11,t13,t15,t17,t19,-⟩
  refine wp_cond_false t222 (wp_skip ?_)
  clear t222
  refine wp_seq (wp_seq ?_)
  refine wi_ A (h9_ t1 t7 t8 t9 t11 t13 t15 t17 t19) (rf_ [(21,.int .i64 ((0:Nat):Int))] (h9_ t1 t7 t8 t9 t11 t13 t15 t17 t19) ?_)
  rintro a A ⟨t21,-⟩ ⟨t1,t7,t8,t9,t11,t13,t15,t17,t19,-⟩
  have FB0:(Fam X3.heap.size 3 (xb) (nB L) (mB (fB p (tnF L ((m:Nat):Int) ch wf p) L) 0) X17):=fam_cg8 FB (fun _ _ _ _=>(if_neg (by omega)).symm)
  clear FB
  have FB:=FB0
  clear FB0
  refine wp_block ?_
  refine wp_loop (fun a W=>∃ (i:Nat),i<=L/\(a.tmps.size=429/\a.defers=[])/\a.eval (.tmp 1)=.pointer (some ⟨gq,0,none⟩)/\a.eval (.tmp 7)=.slice (some ⟨gp,0,none⟩) L cp/\a.eval (.tmp 8)=.slice (some ⟨gw,0,none⟩) m cw/\a.eval (.tmp 9)=xb 1/\a.eval (.tmp 11)=xb 2/\a.eval (.tmp 13)=xi 1/\a.eval (.tmp 15)=xi 2/\a.eval (.tmp 17)=xi 3/\a.eval (.tmp 19)=xi 4/\a.eval (.tmp 21)=.int .i64 ((i:Nat):Int)/\Below X3.heap.size X3 W/\(Fam X3.heap.size 3 (xb) (nB L) (mB (fB p (tnF L ((m:Nat):Int) ch wf p) L) i) W)/\(FmI X3.heap.size 5 (xi) (nI m) (fI wf (orF L ((m:Nat):Int) ch p) (fun i=>wf (orF L ((m:Nat):Int) ch p i).toNat) m) W)) (fun a _=>L - (intOf (a.eval (.tmp 21))).toNat) ⟨0,Nat.zero_le _,A,t1,t7,t8,t9,t11,t13,t15,t17,t19,t21,BB,FB,FI⟩ ?_
  rintro a XL20 ⟨i,hi,A,t1,t7,t8,t9,t11,t13,t15,t17,t19,t21,BB,FB,FI⟩
  have esi:=t21
  refine wp_seq (wp_seq ?_)
  refine wi_ A (h10_ t1 t7 t8 t9 t11 t13 t15 t17 t19 t21) (rv_ 2 (.int .i64 ((L:Nat):Int)) (fun a e=>execLenV (len:=L) rfl (e _) ⟨_,_,ea⟩) (rv_ 3 (.bool (decide (i < L))) (fun a e=>execLtW (p:=i) (q:=L) rfl (e _) (e _)) (rf_ [(226,.bool (decide (i < L)))] (h10_ t1 t7 t8 t9 t11 t13 t15 t17 t19 t21) ?_)))
  rintro a A ⟨t226,-⟩ ⟨t1,t7,t8,t9,t11,t13,t15,t17,t19,t21,-⟩
  by_cases lti:i < L
  ·rw [decide_eq_true lti] at t226
   refine wp_cond_true t226 (wp_skip ?_)
   clear t226
   refine wp_seq (wp_block ?_)
   refine wi_ A (h10_ t1 t7 t8 t9 t11 t13 t15 t17 t19 t21) (rv_ 4 (.pointer (some ⟨ga,0+i,none⟩)) (fun a e=>execIdxB9 (k:=i) rfl ((e _).trans ea) (e _) lti) (rs_ 5 (fun a e=>?_)))
   obtain ⟨hc_,hf_⟩:=own_cell9 (show _ from ea ▸ FB.rows 1 (by omega)) lti
   refine stepS rfl rfl (execStB9d (z:=(1:Nat)) rfl (e _) rfl hc_ hf_) ⟨_,⟨_,rfl,rfl⟩,fun X22_1 hX=>?_⟩
   obtain ⟨BB,FI,FB1⟩:Below X3.heap.size X3 X22_1/\(FmI X3.heap.size 5 (xi) (nI m) (fI wf (orF L ((m:Nat):Int) ch p) (fun i=>wf (orF L ((m:Nat):Int) ch p i).toNat) m) X22_1)/\(Fam X3.heap.size 3 (xb) (nB L) (fun t=>if t=1 then (fun l=>if l=i then 1 else mB (fB p (tnF L ((m:Nat):Int) ch wf p) L) i 1 l) else mB (fB p (tnF L ((m:Nat):Int) ch wf p) L) i t) X22_1):=by subst hX; exact ⟨(BB).setCell hga _,(FmI.offT FI (own_cur (ea ▸ FB.rows 1 (by omega))).choose_spec.1 (by decide)),(by rw [Nat.zero_add]; exact fam_set8 FB (by omega) ea 1)⟩
   clear FB hX e a
   refine rv_ 6 (.pointer (some ⟨gb,0+i,none⟩)) (fun a e=>execIdxB9 (k:=i) rfl ((e _).trans eb) (e _) lti) (rs_ 7 (fun a e=>?_))
   obtain ⟨hc_,hf_⟩:=own_cell9 (show _ from eb ▸ FB1.rows 2 (by omega)) lti
   refine stepS rfl rfl (execStB9d (z:=(2:Nat)) rfl (e _) rfl hc_ hf_) ⟨_,⟨_,rfl,rfl⟩,fun X22 hX=>?_⟩
   obtain ⟨BB,FI,FB2⟩:Below X3.heap.size X3 X22/\(FmI X3.heap.size 5 (xi) (nI m) (fI wf (orF L ((m:Nat):Int) ch p) (fun i=>wf (orF L ((m:Nat):Int) ch p i).toNat) m) X22)/\(Fam X3.heap.size 3 (xb) (nB L) (fun t=>if t=2 then (fun l=>if l=i then 2 else (fun t=>if t=1 then (fun l=>if l=i then 1 else mB (fB p (tnF L ((m:Nat):Int) ch wf p) L) i 1 l) else mB (fB p (tnF L ((m:Nat):Int) ch wf p) L) i t) 2 l) else (fun t=>if t=1 then (fun l=>if l=i then 1 else mB (fB p (tnF L ((m:Nat):Int) ch wf p) L) i 1 l) else mB (fB p (tnF L ((m:Nat):Int) ch wf p) L) i t) t) X22):=by subst hX; exact ⟨(BB).setCell hgb _,(FmI.offT FI (own_cur (eb ▸ FB1.rows 2 (by omega))).choose_spec.1 (by decide)),(by rw [Nat.zero_add]; exact fam_set8 FB1 (by omega) eb 2)⟩
   clear FB1 hX e a
   refine rf_ [] (h10_ t1 t7 t8 t9 t11 t13 t15 t17 t19 t21) ?_
   rintro a A - ⟨t1,t7,t8,t9,t11,t13,t15,t17,t19,t21,-⟩
   have FB3:(Fam X3.heap.size 3 (xb) (nB L) (mB (fB p (tnF L ((m:Nat):Int) ch wf p) L) (i+1)) X22):=fam_cg8 FB2 (mB_two i)
   clear FB2
   refine wi_ A (h10_ t1 t7 t8 t9 t11 t13 t15 t17 t19 t21) (rv_ 1 (.int .i64 ((i+1:Nat):Int)) (fun a e=>execAd8 (p:=i) (q:=1) rfl (e _) rfl (by omega)) (rf_ [(21,.int .i64 ((i+1:Nat):Int))] (h9_ t1 t7 t8 t9 t11 t13 t15 t17 t19) ?_))
   rintro a A ⟨t21,-⟩ ⟨t1,t7,t8,t9,t11,t13,t15,t17,t19,-⟩
   exact ⟨⟨i+1,lti,A,t1,t7,t8,t9,t11,t13,t15,t17,t19,t21,BB,FB3,FI⟩,by show L - (intOf (a.eval (.tmp 21))).toNat < L - (intOf (Act.eval _ (.tmp 21))).toNat; rw [t21,esi]; show L - (i+1) < L - i; omega⟩
  ·rw [decide_eq_false lti] at t226
   refine wp_cond_false t226 ?_
   refine wp_exit ?_
   first | with_reducible refine exit_in ?_ | with_reducible refine exit_then (exit_in ?_) | with_reducible refine exit_then (exit_then (exit_in ?_)) | refine exit_in ?_ | refine exit_then (exit_in ?_) | refine exit_then (exit_then (exit_in ?_))
   clear t226 esi
   have FB4:(Fam X3.heap.size 3 (xb) (nB L) (zB p L) XL20):=fam_cg8 FB (mB_all (by omega))
   clear FB t21
   have FB:=FB4
   clear FB4
   refine wp_seq ?_
   obtain ⟨g239,egg239⟩:∃ z_:Nat,XL20.heap.size=z_:=⟨_,rfl⟩
   refine wi_ A (h9_ t1 t7 t8 t9 t11 t13 t15 t17 t19) (rs_ 4 (fun a e=>?_))
   refine stepV rfl rfl (execBsLI4 rfl (e _) (e _) (e _) (e _) (Brd.shp3 (FI.rows 1 (by omega))) (Brd.shp3 (FI.rows 2 (by omega))) (Brd.shp3 (FI.rows 3 (by omega))) (Brd.shp3 (FI.rows 4 (by omega)))) ⟨.slice (some ⟨g239,0,none⟩) 4 4,⟨_,rfl,by subst egg239; rfl⟩,fun X23 hX=>?_⟩
   have bQ:Below XL20.heap.size XL20 X23:=by subst hX egg239; exact (belNew XL20 _)
   have F239:(X23.ownsRow X3.heap.size 24 1 (.slice (some ⟨g239,0,none⟩) 4 4) 4 (lL (fun q=>xi (q+1)) 4)):=by subst hX egg239; exact ownD_base (own_four XL20 (fun q=>xi (q+1))) (BB).size
   replace FB:=(FB.on bQ)
   replace FI:=(FI.on bQ)
   replace BB:=BB.trans (bQ.mono BB.size)
   clear bQ hX egg239 e a
   refine rf_ [(22,.slice (some ⟨g239,0,none⟩) 4 4)] (h9_ t1 t7 t8 t9 t11 t13 t15 t17 t19) ?_
   rintro a A ⟨t22,-⟩ ⟨t1,t7,t8,t9,t11,t13,t15,t17,t19,-⟩
   have FT:=F239
   clear F239
   refine wp_seq (wp_seq ?_)
   refine wi_ A (h10_ t1 t7 t8 t9 t11 t13 t15 t17 t19 t22) (rf_ [(23,.int .i64 ((0:Nat):Int))] (h10_ t1 t7 t8 t9 t11 t13 t15 t17 t19 t22) ?_)
   rintro a A ⟨t23,-⟩ ⟨t1,t7,t8,t9,t11,t13,t15,t17,t19,t22,-⟩
   have FI0:(FmI X3.heap.size 5 (xi) (nI m) (mI (fI wf (orF L ((m:Nat):Int) ch p) (fun i=>wf (orF L ((m:Nat):Int) ch p i).toNat) m) 0 0) X23):=FmI.cgF FI (fun _ _ _ _=>(if_neg (by omega)).symm)
   clear FI
   have FI:=FI0
   clear FI0
   refine wp_block ?_
   refine wp_loop (fun a W=>∃ (l:Nat),l<=4/\(a.tmps.size=429/\a.defers=[])/\a.eval (.tmp 1)=.pointer (some ⟨gq,0,none⟩)/\a.eval (.tmp 7)=.slice (some ⟨gp,0,none⟩) L cp/\a.eval (.tmp 8)=.slice (some ⟨gw,0,none⟩) m cw/\a.eval (.tmp 9)=xb 1/\a.eval (.tmp 11)=xb 2/\a.eval (.tmp 13)=xi 1/\a.eval (.tmp 15)=xi 2/\a.eval (.tmp 17)=xi 3/\a.eval (.tmp 19)=xi 4/\a.eval (.tmp 22)=.slice (some ⟨g239,0,none⟩) 4 4/\a.eval (.tmp 23)=.int .i64 ((l:Nat):Int)/\Below X3.heap.size X3 W/\(Fam X3.heap.size 3 (xb) (nB L) (zB p L) W)/\(FmI X3.heap.size 5 (xi) (nI m) (mI (fI wf (orF L ((m:Nat):Int) ch p) (fun i=>wf (orF L ((m:Nat):Int) ch p i).toNat) m) l 0) W)/\(W.ownsRow X3.heap.size 24 1 (.slice (some ⟨g239,0,none⟩) 4 4) 4 (lL (fun q=>xi (q+1)) 4))) (fun a _=>4 - (intOf (a.eval (.tmp 23))).toNat) ⟨0,Nat.zero_le _,A,t1,t7,t8,t9,t11,t13,t15,t17,t19,t22,t23,BB,FB,FI,FT⟩ ?_
   rintro a XL25 ⟨l,hl,A,t1,t7,t8,t9,t11,t13,t15,t17,t19,t22,t23,BB,FB,FI,FT⟩
   have esl:=t23
   refine wp_seq (wp_seq ?_)
   refine wi_ A (h11_ t1 t7 t8 t9 t11 t13 t15 t17 t19 t22 t23) (rv_ 1 (.bool (decide (l < 4))) (fun a e=>execLtW (p:=l) (q:=4) rfl (e _) rfl) (rf_ [(241,.bool (decide (l < 4)))] (h11_ t1 t7 t8 t9 t11 t13 t15 t17 t19 t22 t23) ?_))
   rintro a A ⟨t241,-⟩ ⟨t1,t7,t8,t9,t11,t13,t15,t17,t19,t22,t23,-⟩
   by_cases ltl:l < 4
   ·rw [decide_eq_true ltl] at t241
    refine wp_cond_true t241 (wp_skip ?_)
    clear t241
    refine wp_seq (wp_block ?_)
    refine wp_seq ?_
    refine wi_ A (h11_ t1 t7 t8 t9 t11 t13 t15 t17 t19 t22 t23) (rf_ [(24,.int .i64 ((0:Nat):Int))] (h11_ t1 t7 t8 t9 t11 t13 t15 t17 t19 t22 t23) ?_)
    rintro a A ⟨t24,-⟩ ⟨t1,t7,t8,t9,t11,t13,t15,t17,t19,t22,t23,-⟩
    refine wp_block ?_
    refine wp_loop (fun a W=>∃ (j:Nat),j<=m/\(a.tmps.size=429/\a.defers=[])/\a.eval (.tmp 1)=.pointer (some ⟨gq,0,none⟩)/\a.eval (.tmp 7)=.slice (some ⟨gp,0,none⟩) L cp/\a.eval (.tmp 8)=.slice (some ⟨gw,0,none⟩) m cw/\a.eval (.tmp 9)=xb 1/\a.eval (.tmp 11)=xb 2/\a.eval (.tmp 13)=xi 1/\a.eval (.tmp 15)=xi 2/\a.eval (.tmp 17)=xi 3/\a.eval (.tmp 19)=xi 4/\a.eval (.tmp 22)=.slice (some ⟨g239,0,none⟩) 4 4/\a.eval (.tmp 23)=.int .i64 ((l:Nat):Int)/\a.eval (.tmp 24)=.int .i64 ((j:Nat):Int)/\Below X3.heap.size X3 W/\(Fam X3.heap.size 3 (xb) (nB L) (zB p L) W)/\(FmI X3.heap.size 5 (xi) (nI m) (mI (fI wf (orF L ((m:Nat):Int) ch p) (fun i=>wf (orF L ((m:Nat):Int) ch p i).toNat) m) l j) W)/\(W.ownsRow X3.heap.size 24 1 (.slice (some ⟨g239,0,none⟩) 4 4) 4 (lL (fun q=>xi (q+1)) 4))) (fun a _=>m - (intOf (a.eval (.tmp 24))).toNat) ⟨0,Nat.zero_le _,A,t1,t7,t8,t9,t11,t13,t15,t17,t19,t22,t23,t24,BB,FB,FI,FT⟩ ?_
    rintro a XL28 ⟨j,hj,A,t1,t7,t8,t9,t11,t13,t15,t17,t19,t22,t23,t24,BB,FB,FI,FT⟩
    have esj:=t24
    refine wp_seq (wp_seq ?_)
    refine wi_ A (h12_ t1 t7 t8 t9 t11 t13 t15 t17 t19 t22 t23 t24) (rv_ 3 (.pointer (some ⟨g239,0+l,none⟩)) (fun a e=>execIdxLI (k:=l) rfl (e _) (e _) ltl) (rv_ 4 (xi (l+1)) (fun a e=>execLdLI (v:=xi (l+1)) rfl (e _) (ownL_cellI (y:=fun q=>xi (q+1)) FT ltl)) (rv_ 5 (.int .i64 ((m:Nat):Int)) (fun a e=>execLenI (len:=m) rfl (e _) (shpO (FI.rows (l+1) (by omega)))) (rv_ 6 (.bool (decide (j < m))) (fun a e=>execLtW (p:=j) (q:=m) rfl (e _) (e _)) (rf_ [(250,.bool (decide (j < m)))] (h12_ t1 t7 t8 t9 t11 t13 t15 t17 t19 t22 t23 t24) ?_)))))
    rintro a A ⟨t250,-⟩ ⟨t1,t7,t8,t9,t11,t13,t15,t17,t19,t22,t23,t24,-⟩
    by_cases ltj:j < m
    ·rw [decide_eq_true ltj] at t250
     refine wp_cond_true t250 (wp_skip ?_)
     clear t250
     refine wp_seq (wp_block ?_)
     obtain ⟨g0,c0,ex0,hg0,-⟩:=ownL_some9 (FI.rows (l+1) (by omega)) (show 0 < m by omega)
     refine wi_ A (h12_ t1 t7 t8 t9 t11 t13 t15 t17 t19 t22 t23 t24) (rv_ 2 (.pointer (some ⟨g239,0+l,none⟩)) (fun a e=>execIdxLI (k:=l) rfl (e _) (e _) ltl) (rv_ 3 (xi (l+1)) (fun a e=>execLdLI (v:=xi (l+1)) rfl (e _) (ownL_cellI (y:=fun q=>xi (q+1)) FT ltl)) (rv_ 6 (.int .i64 (-1 - (l:Int))) (fun a e=>execSubIg (p:=-1) (q:=(l:Int)) (z:=-1 - (l:Int)) rfl rfl (e _) rfl (by omega) (by omega)) (rv_ 7 (.pointer (some ⟨g0,0+j,none⟩)) (fun a e=>execIdxN (k:=j) rfl ((e _).trans ex0) (e _) ltj) (rs_ 8 (fun a e=>?_))))))
     obtain ⟨hc_,hf_⟩:=FI.cell (by omega) ex0 (show j < m from ltj)
     refine stepS rfl rfl (execStI9 rfl (e _) (e _) hc_ hf_) ⟨_,⟨_,rfl,rfl⟩,fun X30 hX=>?_⟩
     obtain ⟨BB,FB,FT,FI1⟩:Below X3.heap.size X3 X30/\(Fam X3.heap.size 3 (xb) (nB L) (zB p L) X30)/\(X30.ownsRow X3.heap.size 24 1 (.slice (some ⟨g239,0,none⟩) 4 4) 4 (lL (fun q=>xi (q+1)) 4))/\(FmI X3.heap.size 5 (xi) (nI m) (updF (mI (fI wf (orF L ((m:Nat):Int) ch p) (fun i=>wf (orF L ((m:Nat):Int) ch p i).toNat) m) l j) (l+1) j (-1 - (l:Int))) X30):=by subst hX; exact ⟨(BB).setCell hg0 _,(fam_offT FB (own_cur (ex0 ▸ FI.rows (l+1) (by omega))).choose_spec.1 (by decide)),(own_offT FT (own_cur (ex0 ▸ FI.rows (l+1) (by omega))).choose_spec.1 (by decide)),FI.set (by omega) ex0 _⟩
     clear FI hX e a
     refine rf_ [] (h12_ t1 t7 t8 t9 t11 t13 t15 t17 t19 t22 t23 t24) ?_
     rintro a A - ⟨t1,t7,t8,t9,t11,t13,t15,t17,t19,t22,t23,t24,-⟩
     have FI2:(FmI X3.heap.size 5 (xi) (nI m) (mI (fI wf (orF L ((m:Nat):Int) ch p) (fun i=>wf (orF L ((m:Nat):Int) ch p i).toNat) m) l (j+1)) X30):=FmI.cgF FI1 (mI_one l j)
     clear FI1
     refine wi_ A (h12_ t1 t7 t8 t9 t11 t13 t15 t17 t19 t22 t23 t24) (rv_ 1 (.int .i64 ((j+1:Nat):Int)) (fun a e=>execAd8 (p:=j) (q:=1) rfl (e _) rfl (by omega)) (rf_ [(24,.int .i64 ((j+1:Nat):Int))] (h11_ t1 t7 t8 t9 t11 t13 t15 t17 t19 t22 t23) ?_))
     rintro a A ⟨t24,-⟩ ⟨t1,t7,t8,t9,t11,t13,t15,t17,t19,t22,t23,-⟩
     exact ⟨⟨j+1,ltj,A,t1,t7,t8,t9,t11,t13,t15,t17,t19,t22,t23,t24,BB,FB,FI2,FT⟩,by show m - (intOf (a.eval (.tmp 24))).toNat < m - (intOf (Act.eval _ (.tmp 24))).toNat; rw [t24,esj]; show m - (j+1) < m - j; omega⟩
    ·rw [decide_eq_false ltj] at t250
     refine wp_cond_false t250 ?_
     refine wp_exit ?_
     first | with_reducible refine exit_in ?_ | with_reducible refine exit_then (exit_in ?_) | with_reducible refine exit_then (exit_then (exit_in ?_)) | refine exit_in ?_ | refine exit_then (exit_in ?_) | refine exit_then (exit_then (exit_in ?_))
     clear t250 esj
     have FI3:(FmI X3.heap.size 5 (xi) (nI m) (mI (fI wf (orF L ((m:Nat):Int) ch p) (fun i=>wf (orF L ((m:Nat):Int) ch p i).toNat) m) (l+1) 0) XL28):=FmI.cgF FI (mI_row (show m<=j by omega))
     clear FI t24
     refine wi_ A (h11_ t1 t7 t8 t9 t11 t13 t15 t17 t19 t22 t23) (rv_ 1 (.int .i64 ((l+1:Nat):Int)) (fun a e=>execAd8 (p:=l) (q:=1) rfl (e _) rfl (by omega)) (rf_ [(23,.int .i64 ((l+1:Nat):Int))] (h10_ t1 t7 t8 t9 t11 t13 t15 t17 t19 t22) ?_))
     rintro a A ⟨t23,-⟩ ⟨t1,t7,t8,t9,t11,t13,t15,t17,t19,t22,-⟩
     exact ⟨⟨l+1,ltl,A,t1,t7,t8,t9,t11,t13,t15,t17,t19,t22,t23,BB,FB,FI3,FT⟩,by show 4 - (intOf (a.eval (.tmp 23))).toNat < 4 - (intOf (Act.eval _ (.tmp 23))).toNat; rw [t23,esl]; show 4 - (l+1) < 4 - l; omega⟩
   ·rw [decide_eq_false ltl] at t241
    refine wp_cond_false t241 ?_
    refine wp_exit ?_
    first | with_reducible refine exit_in ?_ | with_reducible refine exit_then (exit_in ?_) | with_reducible refine exit_then (exit_then (exit_in ?_)) | refine exit_in ?_ | refine exit_then (exit_in ?_) | refine exit_then (exit_then (exit_in ?_))
    clear t241 esl
    clear t23
    refine wp_seq ?_
    refine wi_ A (h10_ t1 t7 t8 t9 t11 t13 t15 t17 t19 t22) (rf_ [(25,xb 1),(26,xb 2)] (h10_ t1 t7 t8 t9 t11 t13 t15 t17 t19 t22) ?_)
    rintro a A ⟨t25,t26,-⟩ ⟨t1,t7,t8,t9,t11,t13,t15,t17,t19,t22,-⟩
    refine wp_seq (wp_seq ?_)
    refine wi_ A (h12_ t1 t7 t8 t9 t11 t13 t15 t17 t19 t22 t25 t26) (rf_ [(27,.int .i64 ((0:Nat):Int))] (h12_ t1 t7 t8 t9 t11 t13 t15 t17 t19 t22 t25 t26) ?_)
    rintro a A ⟨t27,-⟩ ⟨t1,t7,t8,t9,t11,t13,t15,t17,t19,t22,t25,t26,-⟩
    have FA:(ApN X3.heap.size 3 (nB L) xb (zB p L) (fun t=>t+2) (xb) (gK L 0) XL25):=apN_cgl (ApN.begin FB) (gK_0 L)
    have FG:(Gp X3.heap.size 5 xi (xi) (nI m) (dU 0 0) (zI wf m) (yI wf m) XL25):=gp_cg (Gp.begin (FmI.cgF FI (mI_all (by omega)))) (dU_0 m) (yI_0 m)
    clear FB FI
    have hg239:X3.heap.size<=g239:=(FT.lt g239 rfl).1
    refine wp_block ?_
    refine wp_loop (fun a W=>∃ (r:Nat) (gv:Nat->Value) (yi:Nat->Value),r<=20/\(a.tmps.size=429/\a.defers=[])/\a.eval (.tmp 1)=.pointer (some ⟨gq,0,none⟩)/\a.eval (.tmp 7)=.slice (some ⟨gp,0,none⟩) L cp/\a.eval (.tmp 8)=.slice (some ⟨gw,0,none⟩) m cw/\a.eval (.tmp 9)=xb 1/\a.eval (.tmp 11)=xb 2/\a.eval (.tmp 13)=xi 1/\a.eval (.tmp 15)=xi 2/\a.eval (.tmp 17)=xi 3/\a.eval (.tmp 19)=xi 4/\a.eval (.tmp 22)=.slice (some ⟨g239,0,none⟩) 4 4/\a.eval (.tmp 25)=gv 1/\a.eval (.tmp 26)=gv 2/\a.eval (.tmp 27)=.int .i64 ((r:Nat):Int)/\Below X3.heap.size X3 W/\(ApN X3.heap.size 3 (nB L) xb (zB p L) (fun t=>t+2) (gv) (gK L r) W)/\(Gp X3.heap.size 5 xi (yi) (nI m) (dU r 0) (zI wf m) (yI wf m) W)/\(W.ownsRow X3.heap.size 24 1 (.slice (some ⟨g239,0,none⟩) 4 4) 4 (lL (fun q=>yi (q+1)) 4))) (fun a _=>20 - (intOf (a.eval (.tmp 27))).toNat) ⟨0,xb,xi,Nat.zero_le _,A,t1,t7,t8,t9,t11,t13,t15,t17,t19,t22,t25,t26,t27,BB,FA,FG,FT⟩ ?_
    rintro a XL33 ⟨r,gv,yi,hr,A,t1,t7,t8,t9,t11,t13,t15,t17,t19,t22,t25,t26,t27,BB,FA,FG,FT⟩
    have esr:=t27
    refine wp_seq (wp_seq ?_)
    refine wi_ A (h13_ t1 t7 t8 t9 t11 t13 t15 t17 t19 t22 t25 t26 t27) (rv_ 1 (.bool (decide (r < 20))) (fun a e=>execLtW (p:=r) (q:=20) rfl (e _) rfl) (rf_ [(264,.bool (decide (r < 20)))] (h13_ t1 t7 t8 t9 t11 t13 t15 t17 t19 t22 t25 t26 t27) ?_))
    rintro a A ⟨t264,-⟩ ⟨t1,t7,t8,t9,t11,t13,t15,t17,t19,t22,t25,t26,t27,-⟩
    by_cases ltr:r < 20
    ·rw [decide_eq_true ltr] at t264
     refine wp_cond_true t264 (wp_skip ?_)
     clear t264
     refine wp_seq (wp_block ?_)
     refine wp_seq ?_
     obtain ⟨g268,egg268⟩:∃ z_:Nat,XL33.heap.size=z_:=⟨_,rfl⟩
     refine wi_ A (h13_ t1 t7 t8 t9 t11 t13 t15 t17 t19 t22 t25 t26 t27) (rs_ 1 (fun a e=>?_))
     refine stepV rfl rfl (execBsU rfl) ⟨.slice (some ⟨g268,0,none⟩) 1 1,⟨_,rfl,by subst egg268; rfl⟩,fun X35_1 hX=>?_⟩
     have bQ:Below XL33.heap.size XL33 X35_1:=by subst hX egg268; exact (belNew XL33 _)
     have Fg268:(X35_1.heap[g268]?=some (.cells #[.int .u8 3] 5)):=by subst hX egg268; exact heapNew XL33 _
     replace FA:=(FA.on bQ)
     replace FG:=(FG.on bQ)
     replace FT:=(ownD_below FT bQ)
     replace BB:=BB.trans (bQ.mono BB.size)
     clear bQ hX egg268 e a
     refine rs_ 2 (fun a e=>?_)
     refine stepGrB (gv:=gv) (i:=1) rfl rfl rfl (e _) (e _) FA (by omega) Fg268 (by show L+_+1<=_; omega) (BB).size fun v269 X35_2 ap' gr=>⟨_,⟨_,rfl,rfl⟩,eqw ?_⟩
     obtain ⟨BB,FG,FT,FA1⟩:Below X3.heap.size X3 X35_2/\(Gp X3.heap.size 5 xi (yi) (nI m) (dU r 0) (zI wf m) (yI wf m) X35_2)/\(X35_2.ownsRow X3.heap.size 24 1 (.slice (some ⟨g239,0,none⟩) 4 4) 4 (lL (fun q=>yi (q+1)) 4))/\(ApN X3.heap.size 3 (nB L) xb (zB p L) (fun t=>t+2) (updX gv 1 v269) (fun t=>if t=1 then gK L r 1+1 else gK L r t) X35_2):=⟨(BB).grown gr (BB).size (fun k hk=>((FA.grown 1 (by omega)).lt k hk).1),(Gp.overT FG (FA.grown 1 (by omega)) (by decide) gr),(own_overT FT (FA.grown 1 (by omega)) gr (by decide)),ap'⟩
     clear FA Fg268 e a
     obtain ⟨g271,egg271⟩:∃ z_:Nat,X35_2.heap.size=z_:=⟨_,rfl⟩
     refine rs_ 4 (fun a e=>?_)
     refine stepV rfl rfl (execBsU rfl) ⟨.slice (some ⟨g271,0,none⟩) 1 1,⟨_,rfl,by subst egg271; rfl⟩,fun X35_3 hX=>?_⟩
     have bQ:Below X35_2.heap.size X35_2 X35_3:=by subst hX egg271; exact (belNew X35_2 _)
     have Fg271:(X35_3.heap[g271]?=some (.cells #[.int .u8 4] 5)):=by subst hX egg271; exact heapNew X35_2 _
     replace FG:=(FG.on bQ)
     replace FT:=(ownD_below FT bQ)
     replace FA1:=(FA1.on bQ)
     replace BB:=BB.trans (bQ.mono BB.size)
     clear bQ hX egg271 e a
     refine rs_ 5 (fun a e=>?_)
     refine stepGrB (gv:=updX gv 1 v269) (i:=2) rfl rfl rfl (e _) (e _) FA1 (by omega) Fg271 (by show L+_+1<=_; omega) (BB).size fun v272 X35 ap' gr=>⟨_,⟨_,rfl,rfl⟩,eqw ?_⟩
     obtain ⟨BB,FG,FT,FA2⟩:Below X3.heap.size X3 X35/\(Gp X3.heap.size 5 xi (yi) (nI m) (dU r 0) (zI wf m) (yI wf m) X35)/\(X35.ownsRow X3.heap.size 24 1 (.slice (some ⟨g239,0,none⟩) 4 4) 4 (lL (fun q=>yi (q+1)) 4))/\(ApN X3.heap.size 3 (nB L) xb (zB p L) (fun t=>t+2) (updX (updX gv 1 v269) 2 v272) (fun t=>if t=2 then (fun t=>if t=1 then gK L r 1+1 else gK L r t) 2+1 else (fun t=>if t=1 then gK L r 1+1 else gK L r t) t) X35):=⟨(BB).grown gr (BB).size (fun k hk=>((FA1.grown 2 (by omega)).lt k hk).1),(Gp.overT FG (FA1.grown 2 (by omega)) (by decide) gr),(own_overT FT (FA1.grown 2 (by omega)) gr (by decide)),ap'⟩
     clear FA1 Fg271 e a
     refine rf_ [(25,v269),(26,v272)] (h11_ t1 t7 t8 t9 t11 t13 t15 t17 t19 t22 t27) ?_
     rintro a A ⟨t25,t26,-⟩ ⟨t1,t7,t8,t9,t11,t13,t15,t17,t19,t22,t27,-⟩
     have FA3:(ApN X3.heap.size 3 (nB L) xb (zB p L) (fun t=>t+2) (updX (updX gv 1 v269) 2 v272) (gK L (r+1)) X35):=apN_cgl FA2 (gK_two L r)
     clear FA2
     obtain ⟨gu,egu⟩:∃ z_,updX (updX gv 1 v269) 2 v272=z_:=⟨_,rfl⟩
     replace t25:a.eval (.tmp 25)=gu 1:=t25.trans (by rw [← egu]; rfl)
     replace t26:a.eval (.tmp 26)=gu 2:=t26.trans (by rw [← egu]; rfl)
     rw [egu] at FA3
     have FA:=FA3
     clear FA3
     refine wp_seq ?_
     refine wi_ A (h13_ t1 t7 t8 t9 t11 t13 t15 t17 t19 t22 t25 t26 t27) (rf_ [(28,.int .i64 ((0:Nat):Int))] (h13_ t1 t7 t8 t9 t11 t13 t15 t17 t19 t22 t25 t26 t27) ?_)
     rintro a A ⟨t28,-⟩ ⟨t1,t7,t8,t9,t11,t13,t15,t17,t19,t22,t25,t26,t27,-⟩
     refine wp_block ?_
     refine wp_loop (fun a W=>∃ (l:Nat) (zi:Nat->Value),l<=4/\(a.tmps.size=429/\a.defers=[])/\a.eval (.tmp 1)=.pointer (some ⟨gq,0,none⟩)/\a.eval (.tmp 7)=.slice (some ⟨gp,0,none⟩) L cp/\a.eval (.tmp 8)=.slice (some ⟨gw,0,none⟩) m cw/\a.eval (.tmp 9)=xb 1/\a.eval (.tmp 11)=xb 2/\a.eval (.tmp 13)=xi 1/\a.eval (.tmp 15)=xi 2/\a.eval (.tmp 17)=xi 3/\a.eval (.tmp 19)=xi 4/\a.eval (.tmp 22)=.slice (some ⟨g239,0,none⟩) 4 4/\a.eval (.tmp 25)=gu 1/\a.eval (.tmp 26)=gu 2/\a.eval (.tmp 27)=.int .i64 ((r:Nat):Int)/\a.eval (.tmp 28)=.int .i64 ((l:Nat):Int)/\Below X3.heap.size X3 W/\(ApN X3.heap.size 3 (nB L) xb (zB p L) (fun t=>t+2) (gu) (gK L (r+1)) W)/\(Gp X3.heap.size 5 xi (zi) (nI m) (dU r l) (zI wf m) (yI wf m) W)/\(W.ownsRow X3.heap.size 24 1 (.slice (some ⟨g239,0,none⟩) 4 4) 4 (lL (fun q=>zi (q+1)) 4))) (fun a _=>4 - (intOf (a.eval (.tmp 28))).toNat) ⟨0,yi,Nat.zero_le _,A,t1,t7,t8,t9,t11,t13,t15,t17,t19,t22,t25,t26,t27,t28,BB,FA,FG,FT⟩ ?_
     rintro a XL37 ⟨l,zi,hl,A,t1,t7,t8,t9,t11,t13,t15,t17,t19,t22,t25,t26,t27,t28,BB,FA,FG,FT⟩
     have esl:=t28
     refine wp_seq (wp_seq ?_)
     refine wi_ A (h14_ t1 t7 t8 t9 t11 t13 t15 t17 t19 t22 t25 t26 t27 t28) (rv_ 1 (.bool (decide (l < 4))) (fun a e=>execLtW (p:=l) (q:=4) rfl (e _) rfl) (rf_ [(274,.bool (decide (l < 4)))] (h14_ t1 t7 t8 t9 t11 t13 t15 t17 t19 t22 t25 t26 t27 t28) ?_))
     rintro a A ⟨t274,-⟩ ⟨t1,t7,t8,t9,t11,t13,t15,t17,t19,t22,t25,t26,t27,t28,-⟩
     by_cases ltl:l < 4
     ·rw [decide_eq_true ltl] at t274
      refine wp_cond_true t274 (wp_skip ?_)
      clear t274
      refine wp_seq (wp_block ?_)
      obtain ⟨g285,egg285⟩:∃ z_:Nat,XL37.heap.size=z_:=⟨_,rfl⟩
      refine wi_ A (h14_ t1 t7 t8 t9 t11 t13 t15 t17 t19 t22 t25 t26 t27 t28) (rv_ 4 (.pointer (some ⟨g239,0+l,none⟩)) (fun a e=>execIdxLI (k:=l) rfl (e _) (e _) ltl) (rv_ 5 (zi (l+1)) (fun a e=>execLdLI (v:=zi (l+1)) rfl (e _) (ownL_cellI (y:=fun q=>zi (q+1)) FT ltl)) (rv_ 7 (.int .i64 ((900+l:Nat):Int)) (fun a e=>execAd8 (p:=900) (q:=l) rfl rfl (e _) (by omega)) (rs_ 8 (fun a e=>?_)))))
      refine stepV rfl rfl (execBsI (z:=((900+l:Nat):Int)) rfl (e _)) ⟨.slice (some ⟨g285,0,none⟩) 1 1,⟨_,rfl,by subst egg285; rfl⟩,fun X39_1 hX=>?_⟩
      have bQ:Below XL37.heap.size XL37 X39_1:=by subst hX egg285; exact (belNew XL37 _)
      have Fg285:(SliceI X39_1 (.slice (some ⟨g285,0,none⟩) 1 1) (1) (fun _=>((900+l:Nat):Int))):=by subst hX egg285; exact oneI XL37 (by omega)
      replace FA:=(FA.on bQ)
      replace FG:=(FG.on bQ)
      replace FT:=(ownD_below FT bQ)
      replace BB:=BB.trans (bQ.mono BB.size)
      clear bQ hX egg285 e a
      refine rs_ 9 (fun a e=>?_)
      refine stepGp (y:=zi) (t:=l+1) (z:=((900+l:Nat):Int)) rfl rfl rfl (e _) (e _) FG (by omega) Fg285 (by have h_:=dU_le (r:=r) (l:=l) l; show m+_+1<=_; omega) (BB).size fun v286 X39_2 gp' gr=>⟨_,⟨_,rfl,rfl⟩,eqw ?_⟩
      obtain ⟨BB,FA,FT,FG1⟩:Below X3.heap.size X3 X39_2/\(ApN X3.heap.size 3 (nB L) xb (zB p L) (fun t=>t+2) (gu) (gK L (r+1)) X39_2)/\(X39_2.ownsRow X3.heap.size 24 1 (.slice (some ⟨g239,0,none⟩) 4 4) 4 (lL (fun q=>zi (q+1)) 4))/\(Gp X3.heap.size 5 xi (updX zi (l+1) v286) (nI m) (updD (dU r l) (l+1) 1) (zI wf m) (updG (yI wf m) (l+1) (catI (nI m (l+1)+dU r l (l+1)) (yI wf m (l+1)) (fun _=>((900+l:Nat):Int)))) X39_2):=⟨(BB).grown gr (BB).size (fun k hk=>((FG.ry (l+1) (by omega)).lt k hk).1),(apN_overT FA (FG.ry (l+1) (by omega)) gr (by decide)),(own_overT FT (FG.ry (l+1) (by omega)) gr (by decide)),gp'⟩
      clear FG Fg285 e a
      refine rv_ 10 (.pointer (some ⟨g239,0+l,none⟩)) (fun a e=>execIdxLI (k:=l) rfl (e _) (e _) ltl) (rs_ 11 (fun a e=>?_))
      obtain ⟨hc_,hf_⟩:=ownL_cell2 FT ltl
      refine stepS rfl rfl (execStLI rfl (e _) (e _) (by have h_:=Brd.shp3 (FG1.ry (l+1) (by omega)); rw [updX_at] at h_; exact h_) hc_ hf_) ⟨_,⟨_,rfl,rfl⟩,fun X39 hX=>?_⟩
      obtain ⟨BB,FA,FG1,FT2⟩:Below X3.heap.size X3 X39/\(ApN X3.heap.size 3 (nB L) xb (zB p L) (fun t=>t+2) (gu) (gK L (r+1)) X39)/\(Gp X3.heap.size 5 xi (updX zi (l+1) v286) (nI m) (updD (dU r l) (l+1) 1) (zI wf m) (updG (yI wf m) (l+1) (catI (nI m (l+1)+dU r l (l+1)) (yI wf m (l+1)) (fun _=>((900+l:Nat):Int)))) X39)/\(X39.ownsRow X3.heap.size 24 1 (.slice (some ⟨g239,0,none⟩) 4 4) 4 (lL (fun q=>(updX zi (l+1) v286) (q+1)) 4)):=by subst hX; exact ⟨(BB).setCell hg239 _,(apN_offT FA (own_cur FT).choose_spec.1 (by decide)),(Gp.setT FG1 (own_cur FT).choose_spec.1 (by decide)),(by rw [← lL_s]; exact ownL_setI FT)⟩
      clear FT hX e a
      refine rf_ [] (h14_ t1 t7 t8 t9 t11 t13 t15 t17 t19 t22 t25 t26 t27 t28) ?_
      rintro a A - ⟨t1,t7,t8,t9,t11,t13,t15,t17,t19,t22,t25,t26,t27,t28,-⟩
      have FG2:(Gp X3.heap.size 5 xi (updX zi (l+1) v286) (nI m) (dU r (l+1)) (zI wf m) (yI wf m) X39):=gp_cg FG1 (dU_one r l) (yI_one r l)
      clear FG1
      refine wi_ A (h14_ t1 t7 t8 t9 t11 t13 t15 t17 t19 t22 t25 t26 t27 t28) (rv_ 1 (.int .i64 ((l+1:Nat):Int)) (fun a e=>execAd8 (p:=l) (q:=1) rfl (e _) rfl (by omega)) (rf_ [(28,.int .i64 ((l+1:Nat):Int))] (h13_ t1 t7 t8 t9 t11 t13 t15 t17 t19 t22 t25 t26 t27) ?_))
      rintro a A ⟨t28,-⟩ ⟨t1,t7,t8,t9,t11,t13,t15,t17,t19,t22,t25,t26,t27,-⟩
      exact ⟨⟨l+1,updX zi (l+1) v286,ltl,A,t1,t7,t8,t9,t11,t13,t15,t17,t19,t22,t25,t26,t27,t28,BB,FA,FG2,FT2⟩,by show 4 - (intOf (a.eval (.tmp 28))).toNat < 4 - (intOf (Act.eval _ (.tmp 28))).toNat; rw [t28,esl]; show 4 - (l+1) < 4 - l; omega⟩
     ·rw [decide_eq_false ltl] at t274
      refine wp_cond_false t274 ?_
      refine wp_exit ?_
      first | with_reducible refine exit_in ?_ | with_reducible refine exit_then (exit_in ?_) | with_reducible refine exit_then (exit_then (exit_in ?_)) | refine exit_in ?_ | refine exit_then (exit_in ?_) | refine exit_then (exit_then (exit_in ?_))
      clear t274 esl
      have FG3:(Gp X3.heap.size 5 xi (zi) (nI m) (dU (r+1) 0) (zI wf m) (yI wf m) XL37):=gp_cg FG (dU_row (show 4<=l by omega)) (fun _ _ _ _=>rfl)
      clear FG t28
      refine wi_ A (h13_ t1 t7 t8 t9 t11 t13 t15 t17 t19 t22 t25 t26 t27) (rv_ 1 (.int .i64 ((r+1:Nat):Int)) (fun a e=>execAd8 (p:=r) (q:=1) rfl (e _) rfl (by omega)) (rf_ [(27,.int .i64 ((r+1:Nat):Int))] (h12_ t1 t7 t8 t9 t11 t13 t15 t17 t19 t22 t25 t26) ?_))
      rintro a A ⟨t27,-⟩ ⟨t1,t7,t8,t9,t11,t13,t15,t17,t19,t22,t25,t26,-⟩
      exact ⟨⟨r+1,gu,zi,ltr,A,t1,t7,t8,t9,t11,t13,t15,t17,t19,t22,t25,t26,t27,BB,FA,FG3,FT⟩,by show 20 - (intOf (a.eval (.tmp 27))).toNat < 20 - (intOf (Act.eval _ (.tmp 27))).toNat; rw [t27,esr]; show 20 - (r+1) < 20 - r; omega⟩
    ·rw [decide_eq_false ltr] at t264
     refine wp_cond_false t264 ?_
     refine wp_exit ?_
     first | with_reducible refine exit_in ?_ | with_reducible refine exit_then (exit_in ?_) | with_reducible refine exit_then (exit_then (exit_in ?_)) | refine exit_in ?_ | refine exit_then (exit_in ?_) | refine exit_then (exit_then (exit_in ?_))
     clear t264 esr
     obtain rfl:r=20:=by omega
     clear t27
     obtain ⟨gc,cc,ec,-,-⟩:=ownL_some9 (FA.grown 1 (by omega)) (show 0 < L+20 by omega)
     obtain ⟨gd,cd,ed,-,-⟩:=ownL_some9 (FA.grown 2 (by omega)) (show 0 < L+20 by omega)
     refine wp_seq (wp_seq ?_)
     refine wi_ A (h12_ t1 t7 t8 t9 t11 t13 t15 t17 t19 t22 t25 t26) (rf_ [(29,.int .i64 ((0:Nat):Int))] (h12_ t1 t7 t8 t9 t11 t13 t15 t17 t19 t22 t25 t26) ?_)
     rintro a A ⟨t29,-⟩ ⟨t1,t7,t8,t9,t11,t13,t15,t17,t19,t22,t25,t26,-⟩
     refine wp_block ?_
     refine wp_loop (fun a W=>∃ (i:Nat),i<=L/\(a.tmps.size=429/\a.defers=[])/\a.eval (.tmp 1)=.pointer (some ⟨gq,0,none⟩)/\a.eval (.tmp 7)=.slice (some ⟨gp,0,none⟩) L cp/\a.eval (.tmp 8)=.slice (some ⟨gw,0,none⟩) m cw/\a.eval (.tmp 9)=xb 1/\a.eval (.tmp 11)=xb 2/\a.eval (.tmp 13)=xi 1/\a.eval (.tmp 15)=xi 2/\a.eval (.tmp 17)=xi 3/\a.eval (.tmp 19)=xi 4/\a.eval (.tmp 22)=.slice (some ⟨g239,0,none⟩) 4 4/\a.eval (.tmp 25)=gv 1/\a.eval (.tmp 26)=gv 2/\a.eval (.tmp 29)=.int .i64 ((i:Nat):Int)/\Below X3.heap.size X3 W/\(ApN X3.heap.size 3 (nB L) xb (zB p L) (fun t=>t+2) (gv) (gK L 20) W)/\(Gp X3.heap.size 5 xi (yi) (nI m) (dU 20 0) (zI wf m) (yI wf m) W)/\(W.ownsRow X3.heap.size 24 1 (.slice (some ⟨g239,0,none⟩) 4 4) 4 (lL (fun q=>yi (q+1)) 4))) (fun a _=>L - (intOf (a.eval (.tmp 29))).toNat) ⟨0,Nat.zero_le _,A,t1,t7,t8,t9,t11,t13,t15,t17,t19,t22,t25,t26,t29,BB,FA,FG,FT⟩ ?_
     rintro a XL41 ⟨i,hi,A,t1,t7,t8,t9,t11,t13,t15,t17,t19,t22,t25,t26,t29,BB,FA,FG,FT⟩
     have esi:=t29
     refine wp_seq (wp_seq ?_)
     refine wi_ A (h13_ t1 t7 t8 t9 t11 t13 t15 t17 t19 t22 t25 t26 t29) (rv_ 1 (.pointer (some ⟨gq,0,none⟩)) (fun a e=>execFldJb0 rfl (e _)) (rv_ 2 (pv) (fun a e=>execLdL rfl (e _) (ak_at0 (on9 FQ BB))) (rv_ 3 (.int .i64 ((L:Nat):Int)) (fun a e=>execLenV (len:=L) rfl (e _) (shp9 (FP.on BB))) (rv_ 4 (.bool (decide (i < L))) (fun a e=>execLtW (p:=i) (q:=L) rfl (e _) (e _)) (rf_ [(292,.bool (decide (i < L)))] (h13_ t1 t7 t8 t9 t11 t13 t15 t17 t19 t22 t25 t26 t29) ?_)))))
     rintro a A ⟨t292,-⟩ ⟨t1,t7,t8,t9,t11,t13,t15,t17,t19,t22,t25,t26,t29,-⟩
     by_cases lti:i < L
     ·rw [decide_eq_true lti] at t292
      refine wp_cond_true t292 (wp_skip ?_)
      clear t292
      refine wp_seq (wp_block ?_)
      refine wp_seq ?_
      refine wi_ A (h13_ t1 t7 t8 t9 t11 t13 t15 t17 t19 t22 t25 t26 t29) (rv_ 2 (.pointer (some ⟨ga,0+i,none⟩)) (fun a e=>execIdxB9 (k:=i) rfl ((e _).trans ea) (e _) lti) (rv_ 3 (.int .u8 1) (fun a e=>execLdB rfl (e _) (own_cell9 (show _ from ea ▸ FA.fam.rows 1 (by omega)) lti).1) (rv_ 4 (.bool false) (fun a e=>execNeUc rfl (e _)) (rv_ 8 (.pointer (some ⟨gb,0+i,none⟩)) (fun a e=>execIdxB9 (k:=i) rfl ((e _).trans eb) (e _) lti) (rv_ 9 (.int .u8 2) (fun a e=>execLdB rfl (e _) (own_cell9 (show _ from eb ▸ FA.fam.rows 2 (by omega)) lti).1) (rv_ 10 (.bool false) (fun a e=>execNeUc rfl (e _)) (rv_ 15 (.pointer (some ⟨gc,0+i,none⟩)) (fun a e=>execIdxB9 (k:=i) rfl ((e _).trans ec) (e _) (show i < L+20 by omega)) (rv_ 16 (.int .u8 1) (fun a e=>execLdB rfl (e _) (grown_1 ec (FA.grown 1 (by omega)) lti)) (rv_ 17 (.bool false) (fun a e=>execNeUc rfl (e _)) (rv_ 22 (.pointer (some ⟨gd,0+i,none⟩)) (fun a e=>execIdxB9 (k:=i) rfl ((e _).trans ed) (e _) (show i < L+20 by omega)) (rv_ 23 (.int .u8 2) (fun a e=>execLdB rfl (e _) (grown_2 ed (FA.grown 2 (by omega)) lti)) (rv_ 24 (.bool false) (fun a e=>execNeUc rfl (e _)) (rf_ [(320,.bool false)] (h13_ t1 t7 t8 t9 t11 t13 t15 t17 t19 t22 t25 t26 t29) ?_)))))))))))))
      rintro a A ⟨t320,-⟩ ⟨t1,t7,t8,t9,t11,t13,t15,t17,t19,t22,t25,t26,t29,-⟩
      refine wp_cond_false t320 (wp_skip ?_)
      clear t320
      refine wi_ A (h13_ t1 t7 t8 t9 t11 t13 t15 t17 t19 t22 t25 t26 t29) (rv_ 1 (.int .i64 ((i+1:Nat):Int)) (fun a e=>execAd8 (p:=i) (q:=1) rfl (e _) rfl (by omega)) (rf_ [(29,.int .i64 ((i+1:Nat):Int))] (h12_ t1 t7 t8 t9 t11 t13 t15 t17 t19 t22 t25 t26) ?_))
      rintro a A ⟨t29,-⟩ ⟨t1,t7,t8,t9,t11,t13,t15,t17,t19,t22,t25,t26,-⟩
      exact ⟨⟨i+1,lti,A,t1,t7,t8,t9,t11,t13,t15,t17,t19,t22,t25,t26,t29,BB,FA,FG,FT⟩,by show L - (intOf (a.eval (.tmp 29))).toNat < L - (intOf (Act.eval _ (.tmp 29))).toNat; rw [t29,esi]; show L - (i+1) < L - i; omega⟩
     ·rw [decide_eq_false lti] at t292
      refine wp_cond_false t292 ?_
      refine wp_exit ?_
      first | with_reducible refine exit_in ?_ | with_reducible refine exit_then (exit_in ?_) | with_reducible refine exit_then (exit_then (exit_in ?_)) | refine exit_in ?_ | refine exit_then (exit_in ?_) | refine exit_then (exit_then (exit_in ?_))
      clear t292 esi
      clear t29
      refine wp_seq (wp_seq ?_)
      refine wi_ A (h12_ t1 t7 t8 t9 t11 t13 t15 t17 t19 t22 t25 t26) (rf_ [(30,.int .i64 ((0:Nat):Int))] (h12_ t1 t7 t8 t9 t11 t13 t15 t17 t19 t22 t25 t26) ?_)
      rintro a A ⟨t30,-⟩ ⟨t1,t7,t8,t9,t11,t13,t15,t17,t19,t22,t25,t26,-⟩
      refine wp_block ?_
      refine wp_loop (fun a W=>∃ (l:Nat),l<=4/\(a.tmps.size=429/\a.defers=[])/\a.eval (.tmp 1)=.pointer (some ⟨gq,0,none⟩)/\a.eval (.tmp 7)=.slice (some ⟨gp,0,none⟩) L cp/\a.eval (.tmp 8)=.slice (some ⟨gw,0,none⟩) m cw/\a.eval (.tmp 9)=xb 1/\a.eval (.tmp 11)=xb 2/\a.eval (.tmp 13)=xi 1/\a.eval (.tmp 15)=xi 2/\a.eval (.tmp 17)=xi 3/\a.eval (.tmp 19)=xi 4/\a.eval (.tmp 22)=.slice (some ⟨g239,0,none⟩) 4 4/\a.eval (.tmp 25)=gv 1/\a.eval (.tmp 26)=gv 2/\a.eval (.tmp 30)=.int .i64 ((l:Nat):Int)/\Below X3.heap.size X3 W/\(ApN X3.heap.size 3 (nB L) xb (zB p L) (fun t=>t+2) (gv) (gK L 20) W)/\(Gp X3.heap.size 5 xi (yi) (nI m) (dU 20 0) (zI wf m) (yI wf m) W)/\(W.ownsRow X3.heap.size 24 1 (.slice (some ⟨g239,0,none⟩) 4 4) 4 (lL (fun q=>yi (q+1)) 4))) (fun a _=>4 - (intOf (a.eval (.tmp 30))).toNat) ⟨0,Nat.zero_le _,A,t1,t7,t8,t9,t11,t13,t15,t17,t19,t22,t25,t26,t30,BB,FA,FG,FT⟩ ?_
      rintro a XL46 ⟨l,hl,A,t1,t7,t8,t9,t11,t13,t15,t17,t19,t22,t25,t26,t30,BB,FA,FG,FT⟩
      have esl:=t30
      refine wp_seq (wp_seq ?_)
      refine wi_ A (h13_ t1 t7 t8 t9 t11 t13 t15 t17 t19 t22 t25 t26 t30) (rv_ 1 (.bool (decide (l < 4))) (fun a e=>execLtW (p:=l) (q:=4) rfl (e _) rfl) (rf_ [(322,.bool (decide (l < 4)))] (h13_ t1 t7 t8 t9 t11 t13 t15 t17 t19 t22 t25 t26 t30) ?_))
      rintro a A ⟨t322,-⟩ ⟨t1,t7,t8,t9,t11,t13,t15,t17,t19,t22,t25,t26,t30,-⟩
      by_cases ltl:l < 4
      ·rw [decide_eq_true ltl] at t322
       refine wp_cond_true t322 (wp_skip ?_)
       clear t322
       refine wp_seq (wp_block ?_)
       refine wp_seq (wp_seq ?_)
       refine wi_ A (h13_ t1 t7 t8 t9 t11 t13 t15 t17 t19 t22 t25 t26 t30) (rf_ [(31,.int .i64 ((0:Nat):Int))] (h13_ t1 t7 t8 t9 t11 t13 t15 t17 t19 t22 t25 t26 t30) ?_)
       rintro a A ⟨t31,-⟩ ⟨t1,t7,t8,t9,t11,t13,t15,t17,t19,t22,t25,t26,t30,-⟩
       refine wp_block ?_
       refine wp_loop (fun a W=>∃ (j:Nat),j<=m/\(a.tmps.size=429/\a.defers=[])/\a.eval (.tmp 1)=.pointer (some ⟨gq,0,none⟩)/\a.eval (.tmp 7)=.slice (some ⟨gp,0,none⟩) L cp/\a.eval (.tmp 8)=.slice (some ⟨gw,0,none⟩) m cw/\a.eval (.tmp 9)=xb 1/\a.eval (.tmp 11)=xb 2/\a.eval (.tmp 13)=xi 1/\a.eval (.tmp 15)=xi 2/\a.eval (.tmp 17)=xi 3/\a.eval (.tmp 19)=xi 4/\a.eval (.tmp 22)=.slice (some ⟨g239,0,none⟩) 4 4/\a.eval (.tmp 25)=gv 1/\a.eval (.tmp 26)=gv 2/\a.eval (.tmp 30)=.int .i64 ((l:Nat):Int)/\a.eval (.tmp 31)=.int .i64 ((j:Nat):Int)/\Below X3.heap.size X3 W/\(ApN X3.heap.size 3 (nB L) xb (zB p L) (fun t=>t+2) (gv) (gK L 20) W)/\(Gp X3.heap.size 5 xi (yi) (nI m) (dU 20 0) (zI wf m) (yI wf m) W)/\(W.ownsRow X3.heap.size 24 1 (.slice (some ⟨g239,0,none⟩) 4 4) 4 (lL (fun q=>yi (q+1)) 4))) (fun a _=>m - (intOf (a.eval (.tmp 31))).toNat) ⟨0,Nat.zero_le _,A,t1,t7,t8,t9,t11,t13,t15,t17,t19,t22,t25,t26,t30,t31,BB,FA,FG,FT⟩ ?_
       rintro a XL49 ⟨j,hj,A,t1,t7,t8,t9,t11,t13,t15,t17,t19,t22,t25,t26,t30,t31,BB,FA,FG,FT⟩
       have esj:=t31
       refine wp_seq (wp_seq ?_)
       refine wi_ A (h14_ t1 t7 t8 t9 t11 t13 t15 t17 t19 t22 t25 t26 t30 t31) (rv_ 1 (.pointer (some ⟨gq,1,none⟩)) (fun a e=>execFldJb1 rfl (e _)) (rv_ 2 (.int .i64 ((m:Nat):Int)) (fun a e=>execLd3 rfl (e _) (ak_at1 (on9 FQ BB))) (rv_ 3 (.bool (decide (j < m))) (fun a e=>execLtW (p:=j) (q:=m) rfl (e _) (e _)) (rf_ [(328,.bool (decide (j < m)))] (h14_ t1 t7 t8 t9 t11 t13 t15 t17 t19 t22 t25 t26 t30 t31) ?_))))
       rintro a A ⟨t328,-⟩ ⟨t1,t7,t8,t9,t11,t13,t15,t17,t19,t22,t25,t26,t30,t31,-⟩
       by_cases ltj:j < m
       ·rw [decide_eq_true ltj] at t328
        refine wp_cond_true t328 (wp_skip ?_)
        clear t328
        refine wp_seq (wp_block ?_)
        obtain ⟨g0,c0,ex0,-,-⟩:=ownL_some9 (FG.rx (l+1) (by omega)) (show 0 < m by omega)
        obtain ⟨g1,c1,ex1,-,-⟩:=ownL_some9 (FG.ry (l+1) (by omega)) (show 0 < m+20 by omega)
        refine wp_seq ?_
        obtain ⟨g335,egg335⟩:∃ z_:Nat,XL49.heap.size=z_:=⟨_,rfl⟩
        refine wi_ A (h14_ t1 t7 t8 t9 t11 t13 t15 t17 t19 t22 t25 t26 t30 t31) (rs_ 4 (fun a e=>?_))
        refine stepV rfl rfl (execBsLI4 rfl (e _) (e _) (e _) (e _) (Brd.shp3 (FG.rx 1 (by omega))) (Brd.shp3 (FG.rx 2 (by omega))) (Brd.shp3 (FG.rx 3 (by omega))) (Brd.shp3 (FG.rx 4 (by omega)))) ⟨.slice (some ⟨g335,0,none⟩) 4 4,⟨_,rfl,by subst egg335; rfl⟩,fun X51 hX=>?_⟩
        have bQ:Below XL49.heap.size XL49 X51:=by subst hX egg335; exact (belNew XL49 _)
        have F335:(X51.ownsRow X3.heap.size 24 1 (.slice (some ⟨g335,0,none⟩) 4 4) 4 (lL (fun q=>xi (q+1)) 4)):=by subst hX egg335; exact ownD_base (own_four XL49 (fun q=>xi (q+1))) (BB).size
        replace FA:=(FA.on bQ)
        replace FG:=(FG.on bQ)
        replace FT:=(ownD_below FT bQ)
        replace BB:=BB.trans (bQ.mono BB.size)
        clear bQ hX egg335 e a
        refine rv_ 6 (.pointer (some ⟨g335,0+l,none⟩)) (fun a e=>execIdxLI (k:=l) rfl (e _) (e _) ltl) (rv_ 7 (xi (l+1)) (fun a e=>execLdLI (v:=xi (l+1)) rfl (e _) (ownL_cellI (y:=fun q=>xi (q+1)) F335 ltl)) (rv_ 9 (.pointer (some ⟨g0,0+j,none⟩)) (fun a e=>execIdxN (k:=j) rfl ((e _).trans ex0) (e _) ltj) (rv_ 10 (.int .i64 (-1 - (l:Int))) (fun a e=>execLd3 rfl (e _) (own_cellI (show _ from ex0 ▸ FG.rx (l+1) (by omega)) ltj).1) (rv_ 12 (.int .i64 (-1 - (l:Int))) (fun a e=>execSubIg (p:=-1) (q:=(l:Int)) (z:=-1 - (l:Int)) rfl rfl (e _) rfl (by omega) (by omega)) (rv_ 13 (.bool false) (fun a e=>execNeI rfl (e _) (e _)) (rv_ 17 (.pointer (some ⟨g239,0+l,none⟩)) (fun a e=>execIdxLI (k:=l) rfl (e _) (e _) ltl) (rv_ 18 (yi (l+1)) (fun a e=>execLdLI (v:=yi (l+1)) rfl (e _) (ownL_cellI (y:=fun q=>yi (q+1)) FT ltl)) (rv_ 20 (.pointer (some ⟨g1,0+j,none⟩)) (fun a e=>execIdxN (k:=j) rfl ((e _).trans ex1) (e _) (show j < m+20 by omega)) (rv_ 21 (.int .i64 (-1 - (l:Int))) (fun a e=>execLd3 rfl (e _) (ry_lo ex1 (FG.ry (l+1) (by omega)) ltj)) (rv_ 23 (.int .i64 (-1 - (l:Int))) (fun a e=>execSubIg (p:=-1) (q:=(l:Int)) (z:=-1 - (l:Int)) rfl rfl (e _) rfl (by omega) (by omega)) (rv_ 24 (.bool false) (fun a e=>execNeI rfl (e _) (e _)) (rf_ [(356,.bool false)] (h14_ t1 t7 t8 t9 t11 t13 t15 t17 t19 t22 t25 t26 t30 t31) ?_))))))))))))
        rintro a A ⟨t356,-⟩ ⟨t1,t7,t8,t9,t11,t13,t15,t17,t19,t22,t25,t26,t30,t31,-⟩
        refine wp_cond_false t356 (wp_skip ?_)
        clear t356
        clear F335
        refine wi_ A (h14_ t1 t7 t8 t9 t11 t13 t15 t17 t19 t22 t25 t26 t30 t31) (rv_ 1 (.int .i64 ((j+1:Nat):Int)) (fun a e=>execAd8 (p:=j) (q:=1) rfl (e _) rfl (by omega)) (rf_ [(31,.int .i64 ((j+1:Nat):Int))] (h13_ t1 t7 t8 t9 t11 t13 t15 t17 t19 t22 t25 t26 t30) ?_))
        rintro a A ⟨t31,-⟩ ⟨t1,t7,t8,t9,t11,t13,t15,t17,t19,t22,t25,t26,t30,-⟩
        exact ⟨⟨j+1,ltj,A,t1,t7,t8,t9,t11,t13,t15,t17,t19,t22,t25,t26,t30,t31,BB,FA,FG,FT⟩,by show m - (intOf (a.eval (.tmp 31))).toNat < m - (intOf (Act.eval _ (.tmp 31))).toNat; rw [t31,esj]; show m - (j+1) < m - j; omega⟩
       ·rw [decide_eq_false ltj] at t328
        refine wp_cond_false t328 ?_
        refine wp_exit ?_
        first | with_reducible refine exit_in ?_ | with_reducible refine exit_then (exit_in ?_) | with_reducible refine exit_then (exit_then (exit_in ?_)) | refine exit_in ?_ | refine exit_then (exit_in ?_) | refine exit_then (exit_then (exit_in ?_))
        clear t328 esj
        clear t31
        refine wp_seq ?_
        refine wi_ A (h13_ t1 t7 t8 t9 t11 t13 t15 t17 t19 t22 t25 t26 t30) (rv_ 0 (.pointer (some ⟨gq,1,none⟩)) (fun a e=>execFldJb1 rfl (e _)) (rv_ 1 (.int .i64 ((m:Nat):Int)) (fun a e=>execLd3 rfl (e _) (ak_at1 (on9 FQ BB))) (rf_ [(32,.int .i64 ((m:Nat):Int))] (h13_ t1 t7 t8 t9 t11 t13 t15 t17 t19 t22 t25 t26 t30) ?_)))
        rintro a A ⟨t32,-⟩ ⟨t1,t7,t8,t9,t11,t13,t15,t17,t19,t22,t25,t26,t30,-⟩
        refine wp_block ?_
        refine wp_loop (fun a W=>∃ (k:Nat),k<=m+20/\(m<=k)/\(a.tmps.size=429/\a.defers=[])/\a.eval (.tmp 1)=.pointer (some ⟨gq,0,none⟩)/\a.eval (.tmp 7)=.slice (some ⟨gp,0,none⟩) L cp/\a.eval (.tmp 8)=.slice (some ⟨gw,0,none⟩) m cw/\a.eval (.tmp 9)=xb 1/\a.eval (.tmp 11)=xb 2/\a.eval (.tmp 13)=xi 1/\a.eval (.tmp 15)=xi 2/\a.eval (.tmp 17)=xi 3/\a.eval (.tmp 19)=xi 4/\a.eval (.tmp 22)=.slice (some ⟨g239,0,none⟩) 4 4/\a.eval (.tmp 25)=gv 1/\a.eval (.tmp 26)=gv 2/\a.eval (.tmp 30)=.int .i64 ((l:Nat):Int)/\a.eval (.tmp 32)=.int .i64 ((k:Nat):Int)/\Below X3.heap.size X3 W/\(ApN X3.heap.size 3 (nB L) xb (zB p L) (fun t=>t+2) (gv) (gK L 20) W)/\(Gp X3.heap.size 5 xi (yi) (nI m) (dU 20 0) (zI wf m) (yI wf m) W)/\(W.ownsRow X3.heap.size 24 1 (.slice (some ⟨g239,0,none⟩) 4 4) 4 (lL (fun q=>yi (q+1)) 4))) (fun a _=>m+20 - (intOf (a.eval (.tmp 32))).toNat) ⟨m,Nat.le_add_right _ _,Nat.le_refl _,A,t1,t7,t8,t9,t11,t13,t15,t17,t19,t22,t25,t26,t30,t32,BB,FA,FG,FT⟩ ?_
        rintro a XL54 ⟨k,hk,hk0,A,t1,t7,t8,t9,t11,t13,t15,t17,t19,t22,t25,t26,t30,t32,BB,FA,FG,FT⟩
        have esk:=t32
        refine wp_seq (wp_seq ?_)
        refine wi_ A (h14_ t1 t7 t8 t9 t11 t13 t15 t17 t19 t22 t25 t26 t30 t32) (rv_ 3 (.pointer (some ⟨g239,0+l,none⟩)) (fun a e=>execIdxLI (k:=l) rfl (e _) (e _) ltl) (rv_ 4 (yi (l+1)) (fun a e=>execLdLI (v:=yi (l+1)) rfl (e _) (ownL_cellI (y:=fun q=>yi (q+1)) FT ltl)) (rv_ 5 (.int .i64 ((m+20:Nat):Int)) (fun a e=>execLenI (len:=m+20) rfl (e _) (shpO (n:=m+20) (FG.ry (l+1) (by omega)))) (rv_ 6 (.bool (decide (k < m+20))) (fun a e=>execLtW (p:=k) (q:=m+20) rfl (e _) (e _)) (rf_ [(365,.bool (decide (k < m+20)))] (h14_ t1 t7 t8 t9 t11 t13 t15 t17 t19 t22 t25 t26 t30 t32) ?_)))))
        rintro a A ⟨t365,-⟩ ⟨t1,t7,t8,t9,t11,t13,t15,t17,t19,t22,t25,t26,t30,t32,-⟩
        by_cases ltk:k < m+20
        ·rw [decide_eq_true ltk] at t365
         refine wp_cond_true t365 (wp_skip ?_)
         clear t365
         refine wp_seq (wp_block ?_)
         obtain ⟨g1,c1,ex1,-,-⟩:=ownL_some9 (FG.ry (l+1) (by omega)) (show 0 < m+20 by omega)
         refine wp_seq ?_
         refine wi_ A (h14_ t1 t7 t8 t9 t11 t13 t15 t17 t19 t22 t25 t26 t30 t32) (rv_ 2 (.pointer (some ⟨g239,0+l,none⟩)) (fun a e=>execIdxLI (k:=l) rfl (e _) (e _) ltl) (rv_ 3 (yi (l+1)) (fun a e=>execLdLI (v:=yi (l+1)) rfl (e _) (ownL_cellI (y:=fun q=>yi (q+1)) FT ltl)) (rv_ 5 (.pointer (some ⟨g1,0+k,none⟩)) (fun a e=>execIdxN (k:=k) rfl ((e _).trans ex1) (e _) ltk) (rv_ 6 (.int .i64 ((900+l:Nat):Int)) (fun a e=>execLd3 rfl (e _) (ry_hi ex1 (FG.ry (l+1) (by omega)) hk0 ltk)) (rv_ 8 (.int .i64 ((900+l:Nat):Int)) (fun a e=>execAd8 (p:=900) (q:=l) rfl rfl (e _) (by omega)) (rv_ 9 (.bool false) (fun a e=>execDec (execNeN (p:=900+l) (q:=900+l) rfl (e _) (e _)) (decide_eq_false (by omega))) (rf_ [(377,.bool false)] (h14_ t1 t7 t8 t9 t11 t13 t15 t17 t19 t22 t25 t26 t30 t32) ?_)))))))
         rintro a A ⟨t377,-⟩ ⟨t1,t7,t8,t9,t11,t13,t15,t17,t19,t22,t25,t26,t30,t32,-⟩
         refine wp_cond_false t377 (wp_skip ?_)
         clear t377
         refine wi_ A (h14_ t1 t7 t8 t9 t11 t13 t15 t17 t19 t22 t25 t26 t30 t32) (rv_ 1 (.int .i64 ((k+1:Nat):Int)) (fun a e=>execAd8 (p:=k) (q:=1) rfl (e _) rfl (by omega)) (rf_ [(32,.int .i64 ((k+1:Nat):Int))] (h13_ t1 t7 t8 t9 t11 t13 t15 t17 t19 t22 t25 t26 t30) ?_))
         rintro a A ⟨t32,-⟩ ⟨t1,t7,t8,t9,t11,t13,t15,t17,t19,t22,t25,t26,t30,-⟩
         exact ⟨⟨k+1,ltk,Nat.le_succ_of_le hk0,A,t1,t7,t8,t9,t11,t13,t15,t17,t19,t22,t25,t26,t30,t32,BB,FA,FG,FT⟩,by show m+20 - (intOf (a.eval (.tmp 32))).toNat < m+20 - (intOf (Act.eval _ (.tmp 32))).toNat; rw [t32,esk]; show m+20 - (k+1) < m+20 - k; omega⟩
        ·rw [decide_eq_false ltk] at t365
         refine wp_cond_false t365 ?_
         refine wp_exit ?_
         first | with_reducible refine exit_in ?_ | with_reducible refine exit_then (exit_in ?_) | with_reducible refine exit_then (exit_then (exit_in ?_)) | refine exit_in ?_ | refine exit_then (exit_in ?_) | refine exit_then (exit_then (exit_in ?_))
         clear t365 esk
         clear t32
         refine wi_ A (h13_ t1 t7 t8 t9 t11 t13 t15 t17 t19 t22 t25 t26 t30) (rv_ 1 (.int .i64 ((l+1:Nat):Int)) (fun a e=>execAd8 (p:=l) (q:=1) rfl (e _) rfl (by omega)) (rf_ [(30,.int .i64 ((l+1:Nat):Int))] (h12_ t1 t7 t8 t9 t11 t13 t15 t17 t19 t22 t25 t26) ?_))
         rintro a A ⟨t30,-⟩ ⟨t1,t7,t8,t9,t11,t13,t15,t17,t19,t22,t25,t26,-⟩
         exact ⟨⟨l+1,ltl,A,t1,t7,t8,t9,t11,t13,t15,t17,t19,t22,t25,t26,t30,BB,FA,FG,FT⟩,by show 4 - (intOf (a.eval (.tmp 30))).toNat < 4 - (intOf (Act.eval _ (.tmp 30))).toNat; rw [t30,esl]; show 4 - (l+1) < 4 - l; omega⟩
      ·rw [decide_eq_false ltl] at t322
       refine wp_cond_false t322 ?_
       refine wp_exit ?_
       first | with_reducible refine exit_in ?_ | with_reducible refine exit_then (exit_in ?_) | with_reducible refine exit_then (exit_then (exit_in ?_)) | refine exit_in ?_ | refine exit_then (exit_in ?_) | refine exit_then (exit_then (exit_in ?_))
       clear t322 esl
       clear t30
       refine wp_seq (wp_seq ?_)
       refine wi_ A (h12_ t1 t7 t8 t9 t11 t13 t15 t17 t19 t22 t25 t26) (rv_ 1 (.string (strN p L)) (fun a e=>By8.execStr rfl (e _) (ip_slice epp (FA.fam.rows 0 (by omega)) hpb)) (rv_ 2 (.pointer (some ⟨gq,0,none⟩)) (fun a e=>execFldJb0 rfl (e _)) (rv_ 3 (pv) (fun a e=>execLdL rfl (e _) (ak_at0 (on9 FQ BB))) (rv_ 4 (.string (strN p L)) (fun a e=>By8.execStr rfl (e _) (FP.on BB)) (rv_ 5 (.bool false) (fun a e=>By8.execNeqS rfl (e _) (e _)) (rv_ 8 (.pointer (some ⟨gq,3,none⟩)) (fun a e=>execFldJb3 rfl (e _)) (rv_ 9 (wv) (fun a e=>execLdLI (v:=wv) rfl (e _) (ak_at3 (on9 FQ BB))) (rc_ 10 (sm_t _ _ (m) _ _ XL46 (iw_slice eww (FG.rx 0 (by omega)) FW.fits) (FW.on BB) (fun _ _=>rfl) (by omega)) (cb_ fun X58 bQ=>?_)))))))))
       replace FA:=(FA.on bQ)
       replace FG:=(FG.on bQ)
       replace FT:=(ownD_below FT bQ)
       replace BB:=BB.trans (bQ.mono BB.size)
       clear bQ
       refine rv_ 11 (.bool false) (fun a e=>execNot8 (b:=true) rfl (e _)) (rf_ [(390,.bool false)] (h2_ t1 t7) ?_)
       rintro a A ⟨t390,-⟩ ⟨t1,t7,-⟩
       refine wp_cond_false t390 (wp_skip ?_)
       clear t390
       refine wp_seq (wp_seq ?_)
       refine wi_ A (h2_ t1 t7) (rf_ [(33,.int .i64 ((0:Nat):Int))] (h2_ t1 t7) ?_)
       rintro a A ⟨t33,-⟩ ⟨t1,t7,-⟩
       have FX:(X58.ownsRow X3.heap.size 5 1 (.slice (some ⟨gp,0,none⟩) (L+2) cp) (L+2) (bytesL (L+2) (x5 (pX p L) 0))):=by rw [bytesL_congr (f:=x5 (pX p L) 0) (g:=pX p L) (fun _ _=>if_neg (by omega))]; exact epp ▸ FA.fam.rows 0 (by omega)
       clear FA FG FT
       refine wp_block ?_
       refine wp_loop (fun a W=>∃ (i:Nat),i<=L/\(a.tmps.size=429/\a.defers=[])/\a.eval (.tmp 1)=.pointer (some ⟨gq,0,none⟩)/\a.eval (.tmp 7)=.slice (some ⟨gp,0,none⟩) L cp/\a.eval (.tmp 33)=.int .i64 ((i:Nat):Int)/\Below X3.heap.size X3 W/\(W.ownsRow X3.heap.size 5 1 (.slice (some ⟨gp,0,none⟩) (L+2) cp) (L+2) (bytesL (L+2) (x5 (pX p L) i)))) (fun a _=>L - (intOf (a.eval (.tmp 33))).toNat) ⟨0,Nat.zero_le _,A,t1,t7,t33,BB,FX⟩ ?_
       rintro a XL61 ⟨i,hi,A,t1,t7,t33,BB,FX⟩
       have esi:=t33
       refine wp_seq (wp_seq ?_)
       refine wi_ A (h3_ t1 t7 t33) (rv_ 2 (.int .i64 ((L:Nat):Int)) (fun a e=>execLenV (len:=L) rfl (e _) ⟨_,_,rfl⟩) (rv_ 3 (.bool (decide (i < L))) (fun a e=>execLtW (p:=i) (q:=L) rfl (e _) (e _)) (rf_ [(394,.bool (decide (i < L)))] (h3_ t1 t7 t33) ?_)))
       rintro a A ⟨t394,-⟩ ⟨t1,t7,t33,-⟩
       by_cases lti:i < L
       ·rw [decide_eq_true lti] at t394
        refine wp_cond_true t394 (wp_skip ?_)
        clear t394
        refine wp_seq (wp_block ?_)
        refine wi_ A (h3_ t1 t7 t33) (rv_ 2 (.pointer (some ⟨gp,0+i,none⟩)) (fun a e=>execIdxB9 (k:=i) rfl ((e _).trans rfl) (e _) lti) (rv_ 3 (.int .u8 ((pX p L i:Nat):Int)) (fun a e=>execLdB rfl (e _) ((own_cell9 FX (show i < L+2 by omega)).1.trans (by rw [x5_at]))) (rv_ 4 (.int .u8 ((pX p L i ^^^ 5:Nat):Int)) (fun a e=>execXor5 rfl (e _) rfl (pX_byte hpb i) (by decide)) (rv_ 5 (.pointer (some ⟨gp,0+i,none⟩)) (fun a e=>execIdxB9 (k:=i) rfl ((e _).trans rfl) (e _) lti) (rs_ 6 (fun a e=>?_))))))
        obtain ⟨hc_,hf_⟩:=own_cell9 FX (show i < L+2 by omega)
        refine stepS rfl rfl (execStB9d rfl (e _) (e _) hc_ hf_) ⟨_,⟨_,rfl,rfl⟩,fun X63 hX=>?_⟩
        obtain ⟨BB,FX2⟩:Below X3.heap.size X3 X63/\(X63.ownsRow X3.heap.size 5 1 (.slice (some ⟨gp,0,none⟩) (L+2) cp) (L+2) (bytesL (L+2) (x5 (pX p L) (i+1)))):=by subst hX; exact ⟨(BB).setCell hgp _,(by rw [Nat.zero_add,← bytesL_congr (fun l _=>x5_set l)]; exact own_set8 _ FX)⟩
        clear FX hX e a
        refine rf_ [] (h3_ t1 t7 t33) ?_
        rintro a A - ⟨t1,t7,t33,-⟩
        refine wi_ A (h3_ t1 t7 t33) (rv_ 1 (.int .i64 ((i+1:Nat):Int)) (fun a e=>execAd8 (p:=i) (q:=1) rfl (e _) rfl (by omega)) (rf_ [(33,.int .i64 ((i+1:Nat):Int))] (h2_ t1 t7) ?_))
        rintro a A ⟨t33,-⟩ ⟨t1,t7,-⟩
        exact ⟨⟨i+1,lti,A,t1,t7,t33,BB,FX2⟩,by show L - (intOf (a.eval (.tmp 33))).toNat < L - (intOf (Act.eval _ (.tmp 33))).toNat; rw [t33,esi]; show L - (i+1) < L - i; omega⟩
       ·rw [decide_eq_false lti] at t394
        refine wp_cond_false t394 ?_
        refine wp_exit ?_
        first | with_reducible refine exit_in ?_ | with_reducible refine exit_then (exit_in ?_) | with_reducible refine exit_then (exit_then (exit_in ?_)) | refine exit_in ?_ | refine exit_then (exit_in ?_) | refine exit_then (exit_then (exit_in ?_))
        clear t394 esi
        have FL:SliceN XL61 (.slice (some ⟨gp,0,none⟩) L cp) L (fun i=>p i ^^^ 5):=x5_slice FX (by omega) hpb
        clear FX t33
        replace FP:=(FP.on BB)
        replace FW:=(FW.on BB)
        replace FQ:=(on9 FQ BB)
        replace BW:=BW.trans (BB.mono BW.size)
        clear BB
        refine wp_seq ?_
        refine wi_ A (h2_ t1 t7) (rv_ 1 (.pointer (some ⟨gq,1,none⟩)) (fun a e=>execFldJb1 rfl (e _)) (rv_ 2 (.int .i64 ((m:Nat):Int)) (fun a e=>execLd3 rfl (e _) (ak_at1 FQ)) (rv_ 3 (.pointer (some ⟨gq,2,none⟩)) (fun a e=>execFldJb2 rfl (e _)) (rv_ 4 (.int .i64 ch) (fun a e=>execLd3 rfl (e _) (ak_at2 FQ)) (rc_ 5 (porder (fun i=>p i ^^^ 5) L ((m:Nat):Int) ch _ XL61 FL (by omega)) fun e X64 hh=>?_)))))
        obtain ⟨v409,he,hk,hb⟩:=hh
        refine ⟨_,he,?_⟩
        have bQ:Below XL61.heap.size XL61 X64:=hb
        have Fv409:(SliceI X64 v409 (zl (riE L ((m:Nat):Int) ch (fun i=>p i ^^^ 5)) (((m:Nat):Int)).toNat) (orF L ((m:Nat):Int) ch (fun i=>p i ^^^ 5))):=own_ints hk or_fits
        have bX:=bQ
        clear bQ
        refine rf_ [(10,.int .i64 ((riE L ((m:Nat):Int) ch (fun i=>p i ^^^ 5):Nat):Int)),(34,v409)] (h2_ t1 t7) ?_
        rintro a A ⟨t10,t34,-⟩ ⟨t1,t7,-⟩
        replace FP:=(FP.on bX)
        replace FW:=(FW.on bX)
        replace FQ:=(on9 FQ bX)
        replace FL:=(FL.on bX)
        have ZX64:=bX.size
        replace BW:=BW.trans (bX.mono BW.size)
        clear bX
        refine wp_seq ?_
        refine wi_ A (h4_ t1 t7 t10 t34) (rv_ 1 (.pointer (some ⟨gq,1,none⟩)) (fun a e=>execFldJb1 rfl (e _)) (rv_ 2 (.int .i64 ((m:Nat):Int)) (fun a e=>execLd3 rfl (e _) (ak_at1 FQ)) (rv_ 3 (.pointer (some ⟨gq,2,none⟩)) (fun a e=>execFldJb2 rfl (e _)) (rv_ 4 (.int .i64 ch) (fun a e=>execLd3 rfl (e _) (ak_at2 FQ)) (rc_ 5 (rorder (fun i=>p i ^^^ 5) L ((m:Nat):Int) ch _ X64 FL (by omega)) fun e X65 hh=>?_)))))
        obtain ⟨v418,he,hk,hb⟩:=hh
        refine ⟨_,he,?_⟩
        have bQ:Below X64.heap.size X64 X65:=hb
        have Fv418:(SliceI X65 v418 (zl (riE L ((m:Nat):Int) ch (fun i=>p i ^^^ 5)) (((m:Nat):Int)).toNat) (orF L ((m:Nat):Int) ch (fun i=>p i ^^^ 5))):=own_ints hk or_fits
        have bX:=bQ
        clear bQ
        refine rf_ [(35,v418),(36,.int .i64 ((riE L ((m:Nat):Int) ch (fun i=>p i ^^^ 5):Nat):Int))] (h2_ t10 t34) ?_
        rintro a A ⟨t35,t36,-⟩ ⟨t10,t34,-⟩
        replace FP:=(FP.on bX)
        replace FW:=(FW.on bX)
        replace FQ:=(on9 FQ bX)
        replace FL:=(FL.on bX)
        replace Fv409:=(Fv409.on bX)
        have ZX65:=bX.size
        replace BW:=BW.trans (bX.mono BW.size)
        clear bX
        have hz9:zl (riE L ((m:Nat):Int) ch (fun i=>p i ^^^ 5)) ((m:Nat):Int).toNat<=256:=zl_256
        refine wp_seq ?_
        refine wi_ A (h4_ t10 t34 t35 t36) (rv_ 2 (.bool true) (fun a e=>execDec (execEqN (p:=riE L ((m:Nat):Int) ch (fun i=>p i ^^^ 5)) (q:=riE L ((m:Nat):Int) ch (fun i=>p i ^^^ 5)) rfl (e _) (e _)) (decide_eq_true (by rfl))) (rc_ 6 (sm_t _ _ (zl (riE L ((m:Nat):Int) ch (fun i=>p i ^^^ 5)) (((m:Nat):Int)).toNat) _ _ X65 Fv409 Fv418 (fun _ _=>rfl) (by omega)) (cb_ fun X66 bQ=>?_)))
        have bX:=bQ
        clear bQ
        refine rg_ [(2,.bool true)] ?_
        rintro a A ⟨t2,-⟩
        replace FP:=(FP.on bX)
        replace FW:=(FW.on bX)
        replace FQ:=(on9 FQ bX)
        replace FL:=(FL.on bX)
        replace Fv409:=(Fv409.on bX)
        replace Fv418:=(Fv418.on bX)
        have ZX66:=bX.size
        replace BW:=BW.trans (bX.mono BW.size)
        clear bX
        refine wp_ret ?_
        repeat (first | with_reducible refine ret_in ?_ | with_reducible refine ret_then ?_)
        refine bodyPost_ret (results_tmp rfl _ _ _) A.2 ⟨?_,BW⟩
        show Ending.returned (a.eval (.tmp 2))=_
        rw [t2]
 ·refine wi_ A (h3_ t1 t3 t4) (rv_ 1 (.bool true) (fun a e=>execDec (execNeN (p:=tnE L n ch wf m p) (q:=0) rfl (e _) rfl) (decide_eq_true (by omega))) (rg_ [(52,.bool true)] ?_))
  rintro a A ⟨t52,-⟩
  refine wp_cond_true t52 ?_
  clear t52
  refine wp_seq ?_
  refine wi_ A h0_ (rg_ [(2,.bool true)] ?_)
  rintro a A ⟨t2,-⟩
  refine wp_ret ?_
  repeat (first | with_reducible refine ret_in ?_ | with_reducible refine ret_then ?_)
  refine bodyPost_ret (results_tmp rfl _ _ _) A.2 ⟨?_,BW⟩
  show Ending.returned (a.eval (.tmp 2))=_
  rw [t2]
end Go.Proofs.Ytmjpneaccjlpkaa.Rif
