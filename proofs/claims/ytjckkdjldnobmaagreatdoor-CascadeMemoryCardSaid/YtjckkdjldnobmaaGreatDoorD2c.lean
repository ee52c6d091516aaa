import Derived.Test.YtjckkdjldnobmaaGreatDoorD8
import Derived.Test.YtjckkdjldnobmaaGreatDoorX7b
import Derived.Test.YtjckkdjldnobmaaGreatDoorY3
import Derived.Deep.QuietTactic
namespace Go.Proofs.YtjckkdjldnobmaaGreatDoor.Frm
open Go.RowKit Gf8 Aes By8
/- The places of the fields, over Nat. -/
def fsz:Nat->Nat
 | 0=>4 | 1=>1 | 2=>1 | 3=>2 | 4=>8 | 5=>8 | 6=>2 | 7=>320 | 8=>4 | _=>1
theorem fsz_pos (f:Nat):1<=fsz f:=by unfold fsz; split <;> omega
theorem fsz_le (f:Nat):fsz f<=320:=by unfold fsz; split <;> omega
def nb (p:Nat->Nat):Nat->Nat
 | 0=>0
 | k+1=>nb p k * 256+p k
theorem nb_congr {p q:Nat->Nat}:∀ {k:Nat},(∀ j,j < k->p j=q j)->nb p k=nb q k
 | 0,_=>rfl
 | k+1,h=>by rw [nb,nb,nb_congr (k:=k) fun j hj=>h j (by omega),h k (by omega)]
theorem nb_lt {p:Nat->Nat}:∀ {k:Nat},(∀ j,j < k->p j < 256)->nb p k < 256 ^ k
 | 0,_=>by rw [nb]; decide
 | k+1,h=>by
  have:=nb_lt (k:=k) fun j hj=>h j (by omega)
  have:=h k (by omega)
  rw [nb,Nat.pow_succ]
  omega
theorem rd_nb (p:Nat->Nat) (a:Nat):∀ k,k<=8->(∀ j,j < k->p (a+j) < 256)->rdN p a k=if nb (fun j=>p (a+j)) k < 9223372036854775808 then (nb (fun j=>p (a+j)) k:Int) else -1
 | 0,_,_=>by rw [rdN,nb]; rfl
 | k+1,hk,hb=>by
  have ih:=rd_nb p a k (by omega) fun j hj=>hb j (by omega)
  have h0:=nb_lt (p:=fun j=>p (a+j)) (k:=k) fun j hj=>hb j (by omega)
  have h1:256 ^ k<=256 ^ 7:=Nat.pow_le_pow_right (by decide) (by omega)
  have h2:=hb k (by omega)
  have e7:(256:Nat) ^ 7=72057594037927936:=by decide
  rw [e7] at h1
  rw [if_pos (by omega)] at ih
  rw [rdN,ih,nb]
  by_cases h:nb (fun j=>p (a+j)) k < 36028797018963968
  ·rw [if_neg (by omega),if_pos (by omega)]
   omega
  ·rw [if_pos (by omega),if_neg (by omega)]
def low:Nat->Nat
 | 0=>1128813134 | 1=>1 | 6=>320 | 9=>1 | _=>0
def high:Nat->Nat
 | 0=>1128813134 | 1=>1 | 2=>8 | 3=>256 | 4=>4611686018427387903 | 5=>4611686018427387904 | 6=>320 | _=>0
def flt:Nat->Nat
 | 0=>60 | 1=>61 | 2=>62 | 3=>63 | 4=>62 | 5=>62 | 6=>64 | 7=>0 | 8=>65 | _=>66
def fnum (p:Nat->Nat) (f at':Nat):Nat:=nb (fun j=>p (at'+j)) (fsz f)
def bad (p:Nat->Nat) (f at':Nat):Nat:=
 if f=7 then 0
 else if f=8 then (if fnum p f at'=(adl p at').2 * 65536+(adl p at').1 then 0 else 65)
 else if fnum p f at' < low f\/high f < fnum p f at' then flt f else 0
theorem nb4 (p:Nat->Nat):nb p 4=((p 0 * 256+p 1) * 256+p 2) * 256+p 3:=by simp only [nb]; omega
theorem bad_head {p:Nat->Nat} {f:Nat} (hf:f < 6) (hb:∀ j,j < fsz f->p (startN f+j) < 256):bad p f (startN f)=wrongN p f:=by
 match f,hf,hb with
 | 0,_,hb=>
  have h0:=hb 0 (by decide)
  have h1:=hb 1 (by decide)
  have h2:=hb 2 (by decide)
  have h3:=hb 3 (by decide)
  simp only [startN,Nat.zero_add] at h0 h1 h2 h3
  unfold bad wrongN fnum
  rw [if_neg (by omega),if_neg (by omega)]
  show (if nb (fun j=>p (0+j)) 4 < 1128813134\/1128813134 < nb (fun j=>p (0+j)) 4 then 60 else 0)=_
  rw [nb4]
  simp only [Nat.zero_add]
  by_cases e:p 0=67/\p 1=72/\p 2=82/\p 3=78
  ·obtain ⟨a,b,c,d⟩:=e
   rw [if_neg (by rw [a,b,c,d]; omega),if_pos ⟨a,b,c,d⟩]
  ·rw [if_pos (by omega),if_neg e]
 | 1,_,hb=>
  unfold bad fnum
  rw [if_neg (by omega),if_neg (by omega),show wrongN p 1=if p 4=1 then 0 else 61 from rfl]
  show (if (0 * 256+p (4+0)) < 1\/1 < (0 * 256+p (4+0)) then 61 else 0)=_
  rw [Nat.add_zero]
  by_cases e:p 4=1
  ·rw [if_neg (by omega),if_pos e]
  ·rw [if_pos (by omega),if_neg e]
 | 2,_,hb=>
  unfold bad fnum
  rw [if_neg (by omega),if_neg (by omega),show wrongN p 2=if p 5<=8 then 0 else 62 from rfl]
  show (if (0 * 256+p (5+0)) < 0\/8 < (0 * 256+p (5+0)) then 62 else 0)=_
  rw [Nat.add_zero]
  by_cases e:p 5<=8
  ·rw [if_neg (by omega),if_pos e]
  ·rw [if_pos (by omega),if_neg e]
 | 3,_,hb=>
  have lt:=nb_lt (p:=fun j=>p (6+j)) (k:=2) fun j hj=>hb j hj
  have e:=rd_nb p 6 2 (by omega) hb
  have e2:(256:Nat) ^ 2=65536:=by decide
  rw [e2] at lt
  rw [if_pos (by omega)] at e
  unfold bad fnum
  rw [if_neg (by omega),if_neg (by omega),show wrongN p 3=if rdN p 6 2<=256 then 0 else 63 from rfl,e]
  show (if nb (fun j=>p (6+j)) 2 < 0\/256 < nb (fun j=>p (6+j)) 2 then 63 else 0)=_
  by_cases e:nb (fun j=>p (6+j)) 2<=256
  ·rw [if_neg (by omega),if_pos (by omega)]
  ·rw [if_pos (by omega),if_neg (by omega)]
 | 4,_,hb=>
  have e:=rd_nb p 8 8 (by omega) hb
  unfold bad fnum
  rw [if_neg (by omega),if_neg (by omega),show wrongN p 4=e60 (rdN p 8 8) from rfl,e]
  unfold e60
  show (if nb (fun j=>p (8+j)) 8 < 0\/4611686018427387903 < nb (fun j=>p (8+j)) 8 then 62 else 0)=_
  by_cases e:nb (fun j=>p (8+j)) 8 < 9223372036854775808
  ·rw [if_pos e]
   by_cases e:nb (fun j=>p (8+j)) 8<=4611686018427387903
   ·rw [if_neg (by omega),if_neg (by omega)]
   ·rw [if_pos (by omega),if_pos (by omega)]
  ·rw [if_neg e,if_pos (by omega),if_pos (by omega)]
 | 5,_,hb=>
  have e:=rd_nb p 16 8 (by omega) hb
  unfold bad fnum
  rw [if_neg (by omega),if_neg (by omega),show wrongN p 5=e61 (rdN p 16 8) from rfl,e]
  unfold e61
  show (if nb (fun j=>p (16+j)) 8 < 0\/4611686018427387904 < nb (fun j=>p (16+j)) 8 then 62 else 0)=_
  by_cases e:nb (fun j=>p (16+j)) 8 < 9223372036854775808
  ·rw [if_pos e]
   by_cases e:nb (fun j=>p (16+j)) 8<=4611686018427387904
   ·rw [if_neg (by omega),if_neg (by omega)]
   ·rw [if_pos (by omega),if_pos (by omega)]
  ·rw [if_neg e,if_pos (by omega),if_pos (by omega)]
theorem bad_len {p:Nat->Nat} {k:Nat} (hb:∀ j,j < 2->p (cellAt k+j) < 256):bad p 6 (cellAt k)=if cellLen p k=320 then 0 else 64:=by
 have lt:=nb_lt (p:=fun j=>p (cellAt k+j)) (k:=2) fun j hj=>hb j hj
 have e:=rd_nb p (cellAt k) 2 (by omega) hb
 have e2:(256:Nat) ^ 2=65536:=by decide
 rw [e2] at lt
 rw [if_pos (by omega)] at e
 unfold bad fnum cellLen
 rw [if_neg (by omega),if_neg (by omega),e]
 show (if nb (fun j=>p (cellAt k+j)) 2 < 320\/320 < nb (fun j=>p (cellAt k+j)) 2 then 64 else 0)=_
 by_cases e:nb (fun j=>p (cellAt k+j)) 2=320
 ·rw [if_neg (by omega),if_pos (by omega)]
 ·rw [if_pos (by omega),if_neg (by omega)]
theorem num_nb (p:Nat->Nat):∀ k,(∀ j,j < k->p j < 256)->∀ j,j < k->numF (nb p k) k j=p j
 | 0,_,j,h=>by omega
 | k+1,hb,j,h=>by
  have h0:=hb k (by omega)
  unfold numF
  by_cases e:j=k
  ·rw [e,show k+1 - 1 - k=0 by omega,Nat.pow_zero,Nat.div_one,nb]
   omega
  ·have ih:=num_nb p k (fun j hj=>hb j (by omega)) j (by omega)
   unfold numF at ih
   rw [show k+1 - 1 - j=(k - 1 - j)+1 by omega,Nat.pow_succ,Nat.mul_comm,← Nat.div_div_eq_div_mul,nb,show (nb p k * 256+p k) / 256=nb p k by omega]
   exact ih
theorem bad_foot {p:Nat->Nat} {t:Nat} (hb:∀ j,j < 4->p (t+j) < 256):((∀ j,j < 4->p (t+j)=footF p t j)->bad p 8 t=0)/\((¬ ∀ j,j < 4->p (t+j)=footF p t j)->bad p 8 t=65):=by
 have lt:=nb_lt (p:=fun j=>p (t+j)) (k:=4) fun j hj=>hb j hj
 have e2:(256:Nat) ^ 4=4294967296:=by decide
 rw [e2] at lt
 obtain ⟨la,lb⟩:=adl_lt p t
 have nn:=num_nb (fun j=>p (t+j)) 4 hb
 have u:bad p 8 t=if nb (fun j=>p (t+j)) 4=(adl p t).2 * 65536+(adl p t).1 then 0 else 65:=rfl
 rw [u]
 constructor
 ·intro h
  refine if_pos (numF4_inj lt (by omega) fun j hj=>?_)
  rw [nn j hj]
  exact h j hj
 ·intro h
  refine if_neg fun e=>h fun j hj=>?_
  unfold footF
  rw [← e]
  exact (nn j hj).symm
structure Pos (p:Nat->Nat) (f at' k:Nat):Prop where
 lt:f<=9
 head:∀ g,g < f->g < 6->wrongN p g=0
 cells:∀ i,i < k->cellLen p i=320
 le:k<=nCells p
 zero:f < 6->k=0
 place:at'=if f < 6 then startN f else if f=6 then cellAt k else if f=7 then cellAt k+2 else if f=8 then cellAt k else cellAt k+4
 more:6<=f->f<=7->k < nCells p
 len:f=7->cellLen p k=320
 all:8<=f->k=nCells p
 foot:f=9->∀ j,j < 4->p (cellAt k+j)=footF p (cellAt k) j
theorem Pos.begin (p:Nat->Nat):Pos p 0 0 0:=
 ⟨by omega,fun g h=>by omega,fun i h=>by omega,Nat.zero_le _,fun _=>rfl,rfl,fun h=>by omega,fun h=>by omega,fun h=>by omega,fun h=>by omega⟩
theorem startN_step {f:Nat} (h:f < 6):startN (f+1)=startN f+fsz f:=by
 match f,h with
 | 0,_=>rfl
 | 1,_=>rfl
 | 2,_=>rfl
 | 3,_=>rfl
 | 4,_=>rfl
 | 5,_=>rfl
theorem startN_mono {f g:Nat} (h:f<=g) (hg:g<=6):startN f<=startN g:=by
 induction g with
 | zero=>rw [show f=0 by omega]; exact Nat.le_refl _
 | succ g ih=>
  by_cases e:f=g+1
  ·rw [e]; exact Nat.le_refl _
  ·have:=ih (by omega) (by omega)
   rw [startN_step (by omega)]
   omega
theorem Pos.low {p:Nat->Nat} {f at' k:Nat} (h:Pos p f at' k) (h6:6<=f):cellAt k<=at':=by
 have e:=h.place
 rw [if_neg (by omega)] at e
 split at e
 ·omega
 ·split at e
  ·omega
  ·split at e <;> omega
theorem Pos.ok {p:Nat->Nat} {f at' k n:Nat} (h:Pos p f at' k) (h6:6<=f) (hn:at'<=n):headOk p n=true:=by
 refine (headOk_iff p n).2 ⟨?_,fun g hg=>h.head g (by omega) hg⟩
 have:=h.low h6
 have:=cellAt_ge k
 omega
theorem Pos.okC {p:Nat->Nat} {f at' k n:Nat} (h:Pos p f at' k) (h6:6<=f) (hn:at'<=n) {i:Nat} (hi:i < k):okC p n i=true:=by
 unfold Frm.okC
 have:=h.low h6
 have:=cellAt_mono hi
 have:=cellAt_succ i
 rw [decide_eq_true (by omega),decide_eq_true (h.cells i hi)]
 rfl
theorem Pos.past {p:Nat->Nat} {f at' k n:Nat} (h:Pos p f at' k) (h6:f < 6) (hn:at'<=n):∀ g,g < f->startN (g+1)<=n/\wrongN p g=0:=fun g hg=>⟨by
 have e:=h.place
 rw [if_pos h6] at e
 have:=startN_mono (f:=g+1) (g:=f) (by omega) (by omega)
 omega,h.head g hg (by omega)⟩
theorem Pos.short {p:Nat->Nat} {f at' k n:Nat} (h:Pos p f at' k) (h1:at'<=n) (h2:n < at'+fsz f):jK p n=k/\jE p n=(if f=9 then (0,0) else (n,67))/\headOk p n=decide (6<=f):=by
 by_cases h6:f < 6
 ·have e:=h.place
  rw [if_pos h6] at e
  have hs:n < startN (f+1):=by rw [startN_step h6]; omega
  have no:=headOk_no p n f h6 (Or.inl hs)
  unfold jK jE
  rw [no,if_neg (by simp),if_neg (by simp),headE_short p n f h6 (h.past h6 h1) hs,if_neg (by omega),decide_eq_false (by omega)]
  exact ⟨(h.zero h6).symm,rfl,rfl⟩
 ·have ok:=h.ok (by omega) h1
  have e:=h.place
  rw [if_neg h6] at e
  have stop:k < nCells p->Frm.okC p n k=false:=by
   intro hk
   have h8:f < 8:=by
    apply Classical.byContradiction
    intro q
    have:=h.all (by omega)
    omega
   unfold Frm.okC
   rw [decide_eq_false]
   ·rfl
   ·rw [cellAt_succ]
    split at e
    ·rename_i e6
     rw [e6] at h2
     simp only [fsz] at h2
     omega
    ·rw [if_pos (by omega)] at e
     rw [show f=7 by omega] at h2
     simp only [fsz] at h2
     omega
  have wk:=wholeK_eq p n (nCells p) k h.le (fun i hi=>h.okC (by omega) h1 hi) stop
  unfold jK jE
  rw [ok,if_pos rfl,if_pos rfl,wk,decide_eq_true (by omega)]
  refine ⟨rfl,?_,rfl⟩
  unfold tailE
  by_cases h8:f < 8
  ·have hk:=h.more (by omega) (by omega)
   rw [if_pos hk,if_neg (show ¬ f=9 by omega),if_neg]
   intro ⟨a,b⟩
   by_cases e6:f=6
   ·rw [if_pos e6] at e
    rw [e6] at h2
    simp only [fsz] at h2
    omega
   ·exact b (h.len (by omega))
  ·have hk:=h.all (by omega)
   rw [if_neg (by omega),← hk]
   rw [if_neg (by omega),if_neg (by omega)] at e
   by_cases e8:f=8
   ·rw [if_pos e8] at e
    rw [e8] at h2
    simp only [fsz] at h2
    rw [if_pos (by omega),if_neg (by omega)]
   ·rw [if_neg e8] at e
    have e9:f=9:=by have:=h.lt; omega
    rw [e9] at h2
    simp only [fsz] at h2
    rw [if_neg (by omega),if_pos (h.foot e9),if_neg (by omega),if_pos e9]
theorem Pos.fault {p:Nat->Nat} {f at' k n:Nat} (h:Pos p f at' k) (hb:∀ j,j < n->p j < 256) (h1:at'+fsz f<=n) (h2:bad p f at' ≠ 0):jK p n=k/\jE p n=(at',bad p f at')/\headOk p n=decide (6<=f):=by
 by_cases h6:f < 6
 ·have e:=h.place
  rw [if_pos h6] at e
  subst e
  have eb:=bad_head (p:=p) h6 fun j hj=>hb _ (by omega)
  rw [eb] at h2 ⊢
  have no:=headOk_no p n f h6 (Or.inr h2)
  unfold jK jE
  rw [no,if_neg (by simp),if_neg (by simp),headE_wrong p n f h6 (h.past h6 (by omega)) (by rw [startN_step h6]; exact h1) h2,decide_eq_false (by omega)]
  exact ⟨(h.zero h6).symm,rfl,rfl⟩
 ·have ok:=h.ok (n:=n) (by omega) (by omega)
  have e:=h.place
  rw [if_neg h6] at e
  have ne7:f ≠ 7:=by
   intro e7
   apply h2
   unfold bad
   rw [if_pos e7]
  rw [if_neg ne7] at e
  by_cases e6:f=6
  ·rw [if_pos e6] at e
   subst e6
   subst e
   have eb:=bad_len (p:=p) (k:=k) fun j hj=>hb _ (by simp only [fsz] at h1; omega)
   rw [eb] at h2 ⊢
   have hl:¬ cellLen p k=320:=fun q=>h2 (if_pos q)
   rw [if_neg hl]
   simp only [fsz] at h1
   have stop:k < nCells p->Frm.okC p n k=false:=by
    intro _
    unfold Frm.okC
    rw [decide_eq_false hl,Bool.and_false]
   have wk:=wholeK_eq p n (nCells p) k h.le (fun i hi=>h.okC (by omega) (by omega) hi) stop
   unfold jK jE
   rw [ok,if_pos rfl,if_pos rfl,wk]
   refine ⟨rfl,?_,rfl⟩
   unfold tailE
   rw [if_pos (h.more (by omega) (by omega)),if_pos ⟨h1,hl⟩]
  ·rw [if_neg e6] at e
   have hk:=h.all (by omega)
   have wk:=wholeK_eq p n (nCells p) k h.le (fun i hi=>h.okC (by omega) (by omega) hi) (fun q=>by omega)
   unfold jK jE
   rw [ok,if_pos rfl,if_pos rfl,wk,decide_eq_true (by omega)]
   refine ⟨rfl,?_,rfl⟩
   unfold tailE
   rw [if_neg (by omega),← hk]
   by_cases e8:f=8
   ·rw [if_pos e8] at e
    subst e8
    subst e
    simp only [fsz] at h1
    have eb:=bad_foot (p:=p) (t:=cellAt k) fun j hj=>hb _ (by omega)
    have hf:¬ ∀ j,j < 4->p (cellAt k+j)=footF p (cellAt k) j:=fun q=>h2 (eb.1 q)
    rw [if_neg (by omega),if_neg hf,eb.2 hf]
   ·rw [if_neg e8] at e
    have e9:f=9:=by have:=h.lt; omega
    subst e9
    simp only [fsz] at h1
    rw [if_neg (by omega),if_pos (h.foot rfl),if_pos (by omega),e]
    congr 1
    unfold bad
    rw [if_neg (by omega),if_neg (by omega),if_pos (by show _ < 1\/0 < _; omega)]
    rfl
def nextF (f left:Nat):Nat:=if f ≠ 5/\f ≠ 7 then f+1 else if 0 < left then 6 else 8
def nextK (f k:Nat):Nat:=if f=7 then k+1 else k
theorem Pos.step {p:Nat->Nat} {f at' k:Nat} (h:Pos p f at' k) (hb:∀ j,j < at'+fsz f->p j < 256) (h2:bad p f at'=0):Pos p (nextF f (nCells p - nextK f k)) (at'+fsz f) (nextK f k):=by
 have e:=h.place
 by_cases h5:f < 5
 ·rw [if_pos (by omega)] at e
  have eb:=bad_head (p:=p) (f:=f) (by omega) fun j hj=>hb _ (by omega)
  rw [e,eb] at h2
  unfold nextF nextK
  rw [if_pos (by omega),if_neg (by omega)]
  refine ⟨by omega,fun g hg h6=>?_,h.cells,h.le,fun _=>h.zero (by omega),?_,fun q=>by omega,fun q=>by omega,fun q=>by omega,fun q=>by omega⟩
  ·by_cases q:g=f
   ·rw [q]; exact h2
   ·exact h.head g (by omega) h6
  ·rw [if_pos (by omega),startN_step (by omega),e]
 ·by_cases e5:f=5
  ·rw [if_pos (by omega)] at e
   have eb:=bad_head (p:=p) (f:=f) (by omega) fun j hj=>hb _ (by omega)
   rw [e,eb] at h2
   have k0:=h.zero (by omega)
   have c24:at'+fsz f=cellAt 0:=by rw [e,e5]; rfl
   rw [c24]
   have hd:∀ g,g < 6->wrongN p g=0:=fun g hg=>by
    by_cases q:g=f
    ·rw [q]; exact h2
    ·exact h.head g (by omega) hg
   unfold nextF
   rw [if_neg (by omega),show nextK f k=0 by unfold nextK; rw [if_neg (by omega),k0]]
   by_cases hc:0 < nCells p - 0
   ·rw [if_pos hc]
    exact ⟨by omega,fun g _ h6=>hd g h6,fun i hi=>by omega,by omega,fun q=>by omega,rfl,fun _ _=>by omega,fun q=>by omega,fun q=>by omega,fun q=>by omega⟩
   ·rw [if_neg hc]
    exact ⟨by omega,fun g _ h6=>hd g h6,fun i hi=>by omega,by omega,fun q=>by omega,rfl,fun _ _=>by omega,fun q=>by omega,fun _=>by omega,fun q=>by omega⟩
  ·rw [if_neg (by omega)] at e
   by_cases e6:f=6
   ·rw [if_pos e6] at e
    subst e6
    subst e
    have eb:=bad_len (p:=p) (k:=k) fun j hj=>hb _ (by simp only [fsz]; omega)
    rw [eb] at h2
    have hl:cellLen p k=320:=Classical.byContradiction fun q=>by rw [if_neg q] at h2; omega
    unfold nextF nextK
    rw [if_pos (by omega),if_neg (by omega)]
    exact ⟨by omega,fun g hg h6=>h.head g (by omega) h6,h.cells,h.le,fun q=>by omega,rfl,fun _ _=>h.more (by omega) (by omega),fun _=>hl,fun q=>by omega,fun q=>by omega⟩
   ·rw [if_neg e6] at e
    by_cases e7:f=7
    ·rw [if_pos e7] at e
     have hm:=h.more (by omega) (by omega)
     have ec:at'+fsz f=cellAt (k+1):=by rw [e,e7,cellAt_succ]; simp only [fsz]
     rw [ec]
     have hc:∀ i,i < k+1->cellLen p i=320:=fun i hi=>by
      by_cases q:i=k
      ·rw [q]; exact h.len e7
      ·exact h.cells i (by omega)
     unfold nextF
     rw [if_neg (by omega),show nextK f k=k+1 from if_pos e7]
     by_cases hl:0 < nCells p - (k+1)
     ·rw [if_pos hl]
      exact ⟨by omega,fun g hg h6=>h.head g (by omega) h6,hc,by omega,fun q=>by omega,rfl,fun _ _=>by omega,fun q=>by omega,fun q=>by omega,fun q=>by omega⟩
     ·rw [if_neg hl]
      exact ⟨by omega,fun g hg h6=>h.head g (by omega) h6,hc,by omega,fun q=>by omega,rfl,fun _ _=>by omega,fun q=>by omega,fun _=>by omega,fun q=>by omega⟩
    ·rw [if_neg e7] at e
     have hk:=h.all (by omega)
     by_cases e8:f=8
     ·rw [if_pos e8] at e
      subst e8
      subst e
      have eb:=bad_foot (p:=p) (t:=cellAt k) fun j hj=>hb _ (by simp only [fsz]; omega)
      have hf:∀ j,j < 4->p (cellAt k+j)=footF p (cellAt k) j:=Classical.byContradiction fun q=>by rw [eb.2 q] at h2; omega
      unfold nextF nextK
      rw [if_pos (by omega),if_neg (by omega)]
      exact ⟨by omega,fun g hg h6=>h.head g (by omega) h6,h.cells,h.le,fun q=>by omega,rfl,fun _ q=>by omega,fun q=>by omega,fun _=>hk,fun _=>hf⟩
     ·have e9:f=9:=by have:=h.lt; omega
      subst e9
      exfalso
      unfold bad at h2
      rw [if_neg (by omega),if_neg (by omega),if_pos (by show _ < 1\/0 < _; omega)] at h2
      exact absurd h2 (by decide)
end Go.Proofs.YtjckkdjldnobmaaGreatDoor.Frm

namespace Go.Proofs.YtjckkdjldnobmaaGreatDoor.Frm
open Go.RowKit Gf8 Aes By8 Cel
/- A Judged's cells; the reference's ended. -/

/-- A Judged. -/
def jC (hd : Bool) (rd ep lf : Int) (cv : Value) (pl er : Int) : Array Value := #[.bool hd, .int .i64 rd, .int .i64 ep, .int .i64 lf, cv, .int .i64 pl, .int .i64 er]
theorem sizeJ (hd : Bool) (rd ep lf : Int) (cv : Value) (pl er : Int) : (Tryz.prog.info? 105).map (·.size) = some (jC hd rd ep lf cv pl er).size := by
  show _ = some 7
  kernel_rfl
theorem jC_one (hd : Bool) (rd ep lf : Int) {cv : Value} (pl er : Int) (h : cv.oneCell' = true) : (jC hd rd ep lf cv pl er).all (·.oneCell') = true := by
  have e : (jC hd rd ep lf cv pl er).all (·.oneCell') = (true && (true && (true && (true && (cv.oneCell' && (true && (true && true))))))) := by
    simp only [jC, ← Array.all_toList, List.all_cons, List.all_nil]
    rfl
  rw [e, h]
  rfl
section
variable {P : Program} {o : Oper} {a : Act} {w : World}
/-- One cell stored into a row. -/
theorem execStV {ty : TypeId} {x y : Operand} {g k : Nat} {v : Value} {c c' : Array Value} {t : TypeId} (ho : o.op = .store ty x y) (hx : a.eval x = .pointer (some ⟨g, k, none⟩)) (hy : a.eval y = v) (hg : w.heap[g]? = some (.cells c t)) (hk : k < c.size) (hi : (P.info? ty).map (·.size) = some 1) (h1 : v.oneCell' = true) (hc : c.setIfInBounds k v = c') :
    (execOp a.eval o).run P w = .ok .skip (w.setRow g c') := by
  have hcs : v.cells = #[v] := by cases v <;> first | rfl | cases h1
  have this := run_storeCells_at P g k t [v] 0 c w hg (by simp; omega) (fun u hu => by rw [List.mem_singleton.1 hu]; exact h1)
  have e : (c.toList.take k ++ [v] ++ c.toList.drop (k + 1)).toArray = c' := by
    rw [← hc]
    apply Array.ext_getElem?
    intro i
    rw [Array.getElem?_setIfInBounds]
    have lk : (c.toList.take k).length = k := by simp; omega
    simp only [List.getElem?_toArray, List.append_assoc]
    rcases Nat.lt_trichotomy i k with h | h | h
    · rw [List.getElem?_append_left (by omega), List.getElem?_take, if_pos h, if_neg (by omega), Array.getElem?_toList]
    · subst h
      rw [List.getElem?_append_right (by omega), lk, Nat.sub_self, if_pos rfl, if_pos hk]
      rfl
    · rw [List.getElem?_append_right (by omega), lk, List.getElem?_append_right (by simp; omega), List.getElem?_drop, if_neg (by omega), Array.getElem?_toList]
      congr 1
      simp
      omega
  simp only [Nat.add_zero, List.length_singleton] at this
  rw [e] at this
  unfold execOp
  cases hq : P.info? ty with
  | none => simp [hq] at hi
  | some i =>
    have hs : i.size = 1 := by simp [hq] at hi; omega
    simp only [ho, hx, hy, Instr.storeAt, Instr.sureAddr, Sem.run_bind, Sem.run_pure, Result.andThen_ok]
    simp [storeVar, sizeOf, typeInfo, hq, hcs, hs, this]
end
/-- Are n bytes the same? -/
def eqN (p q : Nat → Nat) (n : Nat) : Bool := (List.range n).all fun j => p j == q j
theorem eqN_iff (p q : Nat → Nat) (n : Nat) : eqN p q n = true ↔ ∀ j, j < n → p j = q j := by
  unfold eqN
  simp [List.all_eq_true]
theorem strN_toList_inj {p q : Nat → Nat} {n m : Nat} (e : (strN p n).toList = (strN q m).toList) : strN p n = strN q m := by
  unfold strN at e ⊢
  rw [Go.Lib.strOfNums_toList, Go.Lib.strOfNums_toList, ← strOfNums_toBytes', ← strOfNums_toBytes'] at e
  rw [str_of_list e]
theorem strN_beq {p q : Nat → Nat} {n : Nat} (hp : ∀ j, j < n → p j < 256) (hq : ∀ j, j < n → q j < 256) : ((strN p n).toList == (strN q n).toList) = eqN p q n := by
  rw [Bool.eq_iff_iff, beq_iff_eq, eqN_iff]
  exact ⟨fun e => strN_inj hp hq (strN_toList_inj e), fun e => by rw [strN_congr e]⟩
/-- Texts compared. -/
theorem execNeqN {o : Oper} {a : Act} {w : World} {x y : Operand} {p q : Nat → Nat} {n : Nat} (ho : o.op = .binOp .neq 9 x y 9) (hx : a.eval x = .string (strN p n)) (hy : a.eval y = .string (strN q n)) (hp : ∀ j, j < n → p j < 256) (hq : ∀ j, j < n → q j < 256) : (execOp a.eval o).run Tryz.prog w = .ok (.value (.bool (!eqN p q n))) w := by
  unfold execOp
  simp only [ho, hx, hy]
  rw [← strN_beq hp hq]
  simp [go_sem]
/-- What stands: the Judged in block J, the answer in block R. -/
structure JS (A R J : Nat) (hd : Bool) (rd ep lf : Int) (cv : Value) (pl er : Int) (V W : World) : Prop where
  r : ∃ c, c.size = 7 ∧ W.heap[R]? = some (.cells c 105)
  j : W.heap[J]? = some (.cells (jC hd rd ep lf cv pl er) 105)
  bel : Below A V W
  ne : R ≠ J
  ar : A ≤ R
  aj : A ≤ J
  one : cv.oneCell' = true
theorem JS.set {A R J : Nat} {hd : Bool} {rd ep lf : Int} {cv : Value} {pl er : Int} {V W : World} (h : JS A R J hd rd ep lf cv pl er V W) (hd' : Bool) (rd' ep' lf' : Int) {cv' : Value} (pl' er' : Int) (h1 : cv'.oneCell' = true) : JS A R J hd' rd' ep' lf' cv' pl' er' V (W.setRow J (jC hd' rd' ep' lf' cv' pl' er')) := by
  obtain ⟨c, hc, hr⟩ := h.r
  exact ⟨⟨c, hc, by rw [setRow_other _ _ _ _ h.ne]; exact hr⟩, setRow_heap _ _ _ _ _ _ h.j, below4 h.bel h.aj _, h.ne, h.ar, h.aj, h1⟩
theorem JS.end {A R J : Nat} {hd : Bool} {rd ep lf : Int} {cv : Value} {pl er : Int} {V W : World} (h : JS A R J hd rd ep lf cv pl er V W) : (W.setRow R (jC hd rd ep lf cv pl er)).heap[R]? = some (.cells (jC hd rd ep lf cv pl er) 105) ∧ Below A V (W.setRow R (jC hd rd ep lf cv pl er)) := by
  obtain ⟨c, hc, hr⟩ := h.r
  exact ⟨setRow_heap _ _ _ _ _ _ hr, below4 h.bel h.ar _⟩
theorem zeroJ : ∀ w, (zeroValue 105).run Tryz.prog w = .ok (.agg (jC false 0 0 0 (.slice none 0 0) 0 0)) w := by
  intro w
  simp [go_sem, jC]

/-- What each operation of the foot's test yields. -/
def enV (v : Value) (t : Nat) (vf r : Value) (p : Nat → Nat) (j : Nat) : Value :=
  match j with
  | 0 => v | 1 => .int .i64 t | 2 => .int .i64 t | 3 => .int .i64 (t + 4 : Nat) | 4 => vf | 5 => .string (strN (fun j => p (t + j)) 4) | 6 => r | 7 => .string (strN (footF p t) 4)
  | _ => .bool (!eqN (fun j => p (t + j)) (footF p t) 4)
theorem JS.on {A R J : Nat} {hd : Bool} {rd ep lf : Int} {cv : Value} {pl er : Int} {V W W' : World} (h : JS A R J hd rd ep lf cv pl er V W) (hb : Below W.heap.size W W') : JS A R J hd rd ep lf cv pl er V W' := by
  obtain ⟨c, hc, hr⟩ := h.r
  have lr := (Array.getElem?_eq_some_iff.1 hr).1
  have lj := (Array.getElem?_eq_some_iff.1 h.j).1
  exact ⟨⟨c, hc, by rw [hb.block _ lr]; exact hr⟩, by rw [hb.block _ lj]; exact h.j, h.bel.trans (hb.mono (by have := h.aj; omega)), h.ne, h.ar, h.aj, h.one⟩
set_option maxRecDepth 20000 in
set_option maxHeartbeats 1000000 in
theorem ended_any (p : Nat → Nat) (len n : Nat) (v : Value) (hd : Bool) (rd ep lf : Int) (cv : Value) (V : World) (hv : SliceN V v len p) (hl : len ≤ 140737488351232) (hn : n ≤ 256) (hat : cellAt n ≤ len) (h1 : cv.oneCell' = true) :
    Calls Tryz.prog 69 #[v, .int .i64 (cellAt n : Nat), .agg (jC hd rd ep lf cv 0 0)] V fun e w' => e = .returned (.agg (jC hd rd ep lf cv (tailE p len n n).1 (tailE p len n n).2)) ∧ Below V.heap.size V w' := by
  have HV : Hid (SliceN V v len p) := hv
  obtain ⟨ao, cap, rfl, hc1, hc2, hc3⟩ := id hv.shape
  obtain ⟨t, ht⟩ : ∃ t, cellAt n = t := ⟨_, rfl⟩
  rw [ht]
  have lt : (t : Int) ≤ 82456 := by unfold cellAt at ht; omega
  have ll : (len : Int) ≤ 140737488351232 := by omega
  obtain ⟨E, hE⟩ : ∃ E, tailE p len n n = E := ⟨_, rfl⟩
  rw [hE]
  unfold tailE at hE
  rw [if_neg (by omega), ht] at hE
  have z := zeroJ
  have js : JS V.heap.size (V.heap.size + 1) V.heap.size hd rd ep lf cv 0 0 V ((V.alloc (.cells (jC hd rd ep lf cv 0 0) 105)).alloc (.cells (jC false 0 0 0 (.slice none 0 0) 0 0) 105)) :=
    ⟨⟨_, rfl, (heap2c V _ _).2⟩, (heap2c V _ _).1, below2c V _ _, by omega, by omega, Nat.le_refl _, h1⟩
  have HJ : Hid (_) := js
  have ONE : Hid (cv.oneCell' = true) := h1
  clear hv js h1 hc3
  by_cases hs : len < t + 4
  · rw [if_pos hs] at hE
    subst hE
    have i1 : (len : Int) < t + 4 := by omega
    clear hs ht
    go_enter Tryz.func69, Tryz.ntmps69
    have j1 := HJ.out.set hd rd ep lf len 0 ONE.out
    have j2 := j1.set hd rd ep lf len 67 ONE.out
    have J1 : Hid (_) := j1
    have J2 : Hid (_) := j2
    obtain ⟨c0, s0, r0⟩ := j2.r
    have R0 : Hid (c0.size = 7 ∧ _) := ⟨s0, r0⟩
    clear j1 j2 s0 r0
    go_wp2_with (first
      | (refine atStore 3 (.tmp 15) (.tmp 14) rfl ?_; go_must (refine wpList_exS rfl (execStV (c' := jC hd rd ep lf cv len 0) rfl rfl rfl HJ.out.j (by show 5 < 7; decide) (by kernel_rfl) rfl rfl) ?_))
      | (refine atStore 3 (.tmp 16) (.const (.int .i64 67)) rfl ?_; go_must (refine wpList_exS rfl (execStV (c' := jC hd rd ep lf cv len 67) rfl rfl rfl J1.out.j (by show 6 < 7; decide) (by kernel_rfl) rfl rfl) ?_))
      | (refine atLoad 105 (.tmp 5) rfl ?_; go_must (refine wpList_load_row rfl 105 (.tmp 5) rfl V.heap.size rfl 105 _ (0, 0) _ J2.out.j Tryz.underlying105 rfl (sizeJ _ _ _ _ _ _ _) ?_; simp only [Act.put, List.setIfInBounds_toArray, List.set_cons_succ, List.set_cons_zero]))
      | (refine atStore 105 (.tmp 6) (.tmp 17) rfl ?_; go_must (refine wpList_store_row rfl 105 (.tmp 6) (.tmp 17) rfl (V.heap.size + 1) _ rfl rfl 105 _ R0.out.2 (sizeJ _ _ _ _ _ _ _) R0.out.1 (jC_one _ _ _ _ _ _ ONE.out) ?_)))
    refine bodyPost_ret (v := .agg (jC hd rd ep lf cv len 67)) (results_cell_row Tryz.results69 _ _ (V.heap.size + 1) 105 _ (0, 0) _ rfl J2.out.end.1 Tryz.underlying105 rfl (sizeJ _ _ _ _ _ _ _)) rfl ⟨rfl, J2.out.end.2⟩
  · rw [if_neg hs] at hE
    have i1 : ¬ (len : Int) < t + 4 := by omega
    have p1 := HV.out.sub 0 t (Nat.zero_le _) (by omega)
    have p2 := HV.out.sub t (t + 4) (by omega) (by omega)
    have e1 : sliced ao 0 t cap 1 = .slice ao t cap := by
      unfold sliced
      by_cases c0 : cap = 0
      · rw [if_pos c0, Nat.sub_zero, Nat.sub_zero]
      · rw [if_neg c0, Nat.sub_zero, Nat.sub_zero]
        cases ao <;> simp [Addr.add]
    have s1 := fun W => slice_h ao len cap t (by omega) W
    have s2 := fun W => slice_lh ao len cap t (t + 4) (by omega) (by omega) W
    rw [e1] at p1 s1
    obtain ⟨vf, hvf⟩ : ∃ vf, sliced ao t (t + 4) cap 1 = vf := ⟨_, rfl⟩
    rw [hvf] at p2 s2
    rw [show t + 4 - t = 4 by omega] at p2
    rw [Nat.sub_zero] at p1
    have P1 : Hid (SliceN V (.slice ao t cap) t p) := sliceN_cg p1 fun j _ => by rw [Nat.zero_add]
    have P2 : Hid (SliceN V vf 4 fun j => p (t + j)) := p2
    have s2' : ∀ W, (Instr.sliceAt 24 (.slice ao len cap) (some (.int .i64 (t : Int))) (some (.int .i64 ((t : Int) + 4))) none).run Tryz.prog W = .ok vf W := fun W => s2 W
    have HT : Hid (t ≤ 140737488351232) := by show t ≤ _; omega
    clear hs ht p1 p2 e1 s2 hvf hat
    go_enter Tryz.func69, Tryz.ntmps69
    go_wp2_with (first
      | (go_at_call 89; refine (foot_any p t _ _ (P1.out.on HJ.out.bel) HT.out).mono ?_; rintro e w1 ⟨r, rfl, own, hb1⟩))
    have j0 : JS V.heap.size (V.heap.size + 1) V.heap.size hd rd ep lf cv 0 0 V w1 := HJ.out.on hb1
    have HW : Hid (_ ∧ SliceN w1 vf 4 (fun j => p (t + j)) ∧ SliceN w1 r 4 (footF p t)) := ⟨j0, (P2.out.on HJ.out.bel).on hb1, own_slice own fun j _ => footF_lt _ _ _⟩
    clear j0 own hb1 HJ
    have HB : Hid (∀ j, j < 4 → p (t + j) < 256) := fun j hj => HV.out.bytes _ (by have := HT.out; omega)
    refine wp_region_det 45 [(0, 22), (1, 23), (2, 24), (3, 25), (4, 26), (5, 27), (6, 28), (7, 29), (8, 30)] (enV (.slice ao len cap) t vf r p) (fun _ W => Below w1.heap.size w1 W) (by kernel_rfl) (by kernel_rfl) rfl (by kernel_rfl) (by decide) (by decide) ?_ ?_ ?_
    · exact (Below.refl _ _).drew
    · intro j hj l a W hl hf hdep hl2 hcl _ hT
      have lt' := HT.out
      match j, hj with
      | 0, _ => exact stepV rfl rfl (execMvB rfl (hf 0 (by decide))) ⟨⟨_, rfl, rfl⟩, hT⟩
      | 1, _ => exact stepV rfl rfl (execMvB rfl (hf 1 (by decide))) ⟨⟨_, rfl, rfl⟩, hT⟩
      | 2, _ => exact stepV rfl rfl (execMvB rfl (hf 1 (by decide))) ⟨⟨_, rfl, rfl⟩, hT⟩
      | 3, _ => exact stepV rfl rfl (execAddI (q := 4) rfl (hdep _ rfl 2 rfl _ rfl _ rfl) rfl (by omega)) ⟨⟨_, rfl, rfl⟩, hT⟩
      | 4, _ => exact stepV rfl rfl (execSlLH rfl (hdep _ rfl 0 rfl _ rfl _ rfl) (hdep _ rfl 1 rfl _ rfl _ rfl) (hdep _ rfl 3 rfl _ rfl _ rfl) (s2' W)) ⟨⟨_, rfl, rfl⟩, hT⟩
      | 5, _ => exact stepV rfl rfl (execStr rfl (hdep _ rfl 4 rfl _ rfl _ rfl) (HW.out.2.1.on hT)) ⟨⟨_, rfl, rfl⟩, hT⟩
      | 6, _ => exact stepV rfl rfl (execMvB rfl (hf 7 (by decide))) ⟨⟨_, rfl, rfl⟩, hT⟩
      | 7, _ => exact stepV rfl rfl (execStr rfl (hdep _ rfl 6 rfl _ rfl _ rfl) (HW.out.2.2.on hT)) ⟨⟨_, rfl, rfl⟩, hT⟩
      | 8, _ => exact stepV rfl rfl (execNeqN rfl (hdep _ rfl 5 rfl _ rfl _ rfl) (hdep _ rfl 7 rfl _ rfl _ rfl) HB.out (fun j _ => footF_lt _ _ _)) ⟨⟨_, rfl, rfl⟩, hT⟩
      | n + 9, h => exact absurd h (by simp)
    · intro l W hall hT
      have j0 := HW.out.1.on hT
      clear hall hT HW s1 s2' HB
      simp only [putP, enV, Act.put, List.setIfInBounds_toArray, List.set_cons_succ, List.set_cons_zero]
      have e4 := eqN_iff (fun j => p (t + j)) (footF p t) 4
      cases hq : eqN (fun j => p (t + j)) (footF p t) 4 with
      | false =>
        rw [if_neg (fun g => by rw [hq] at e4; exact absurd (e4.2 g) (by simp))] at hE
        subst hE
        have j1 := j0.set hd rd ep lf t 0 ONE.out
        have j2 := j1.set hd rd ep lf t 65 ONE.out
        have J0 : Hid (_) := j0
        have J1 : Hid (_) := j1
        have J2 : Hid (_) := j2
        obtain ⟨c0, s0, r0⟩ := j2.r
        have R0 : Hid (c0.size = 7 ∧ _) := ⟨s0, r0⟩
        clear j0 j1 j2 s0 r0 e4 hq
        go_wp2_with (first
          | (refine atStore 3 (.tmp 32) (.tmp 31) rfl ?_; go_must (refine wpList_exS rfl (execStV (c' := jC hd rd ep lf cv t 0) rfl rfl rfl J0.out.j (by show 5 < 7; decide) (by kernel_rfl) rfl rfl) ?_))
          | (refine atStore 3 (.tmp 33) (.const (.int .i64 65)) rfl ?_; go_must (refine wpList_exS rfl (execStV (c' := jC hd rd ep lf cv t 65) rfl rfl rfl J1.out.j (by show 6 < 7; decide) (by kernel_rfl) rfl rfl) ?_))
          | (refine atLoad 105 (.tmp 5) rfl ?_; go_must (refine wpList_load_row rfl 105 (.tmp 5) rfl V.heap.size rfl 105 _ (0, 0) _ J2.out.j Tryz.underlying105 rfl (sizeJ _ _ _ _ _ _ _) ?_; simp only [Act.put, List.setIfInBounds_toArray, List.set_cons_succ, List.set_cons_zero]))
          | (refine atStore 105 (.tmp 6) (.tmp 34) rfl ?_; go_must (refine wpList_store_row rfl 105 (.tmp 6) (.tmp 34) rfl (V.heap.size + 1) _ rfl rfl 105 _ R0.out.2 (sizeJ _ _ _ _ _ _ _) R0.out.1 (jC_one _ _ _ _ _ _ ONE.out) ?_)))
        refine bodyPost_ret (v := .agg (jC hd rd ep lf cv t 65)) (results_cell_row Tryz.results69 _ _ (V.heap.size + 1) 105 _ (0, 0) _ rfl J2.out.end.1 Tryz.underlying105 rfl (sizeJ _ _ _ _ _ _ _)) rfl ⟨rfl, J2.out.end.2⟩
      | true =>
        rw [if_pos (e4.1 hq)] at hE
        clear e4 hq
        by_cases hm : t + 4 < len
        · rw [if_pos hm] at hE
          subst hE
          have i2 : (len : Int) > t + 4 := by omega
          have j1 := j0.set hd rd ep lf (t + 4 : Nat) 0 ONE.out
          have j2 := j1.set hd rd ep lf (t + 4 : Nat) 66 ONE.out
          have J0 : Hid (_) := j0
          have J1 : Hid (_) := j1
          have J2 : Hid (_) := j2
          obtain ⟨c0, s0, r0⟩ := j2.r
          have R0 : Hid (c0.size = 7 ∧ _) := ⟨s0, r0⟩
          clear j0 j1 j2 s0 r0 hm
          go_wp2_with (first
            | (refine atStore 3 (.tmp 42) (.tmp 41) rfl ?_; go_must (refine wpList_exS rfl (execStV (c' := jC hd rd ep lf cv (t + 4 : Nat) 0) rfl rfl rfl J0.out.j (by show 5 < 7; decide) (by kernel_rfl) rfl rfl) ?_))
            | (refine atStore 3 (.tmp 43) (.const (.int .i64 66)) rfl ?_; go_must (refine wpList_exS rfl (execStV (c' := jC hd rd ep lf cv (t + 4 : Nat) 66) rfl rfl rfl J1.out.j (by show 6 < 7; decide) (by kernel_rfl) rfl rfl) ?_))
            | (refine atLoad 105 (.tmp 5) rfl ?_; go_must (refine wpList_load_row rfl 105 (.tmp 5) rfl V.heap.size rfl 105 _ (0, 0) _ J2.out.j Tryz.underlying105 rfl (sizeJ _ _ _ _ _ _ _) ?_; simp only [Act.put, List.setIfInBounds_toArray, List.set_cons_succ, List.set_cons_zero]))
            | (refine atStore 105 (.tmp 6) (.tmp 44) rfl ?_; go_must (refine wpList_store_row rfl 105 (.tmp 6) (.tmp 44) rfl (V.heap.size + 1) _ rfl rfl 105 _ R0.out.2 (sizeJ _ _ _ _ _ _ _) R0.out.1 (jC_one _ _ _ _ _ _ ONE.out) ?_)))
          refine bodyPost_ret (v := .agg (jC hd rd ep lf cv (t + 4 : Nat) 66)) (results_cell_row Tryz.results69 _ _ (V.heap.size + 1) 105 _ (0, 0) _ rfl J2.out.end.1 Tryz.underlying105 rfl (sizeJ _ _ _ _ _ _ _)) rfl ⟨rfl, J2.out.end.2⟩
        · rw [if_neg hm] at hE
          subst hE
          have i2 : ¬ (len : Int) > t + 4 := by omega
          have J2 : Hid (_) := j0
          obtain ⟨c0, s0, r0⟩ := j0.r
          have R0 : Hid (c0.size = 7 ∧ _) := ⟨s0, r0⟩
          clear j0 s0 r0 hm
          go_wp2_with (first
            | (refine atLoad 105 (.tmp 5) rfl ?_; go_must (refine wpList_load_row rfl 105 (.tmp 5) rfl V.heap.size rfl 105 _ (0, 0) _ J2.out.j Tryz.underlying105 rfl (sizeJ _ _ _ _ _ _ _) ?_; simp only [Act.put, List.setIfInBounds_toArray, List.set_cons_succ, List.set_cons_zero]))
            | (refine atStore 105 (.tmp 6) (.tmp 44) rfl ?_; go_must (refine wpList_store_row rfl 105 (.tmp 6) (.tmp 44) rfl (V.heap.size + 1) _ rfl rfl 105 _ R0.out.2 (sizeJ _ _ _ _ _ _ _) R0.out.1 (jC_one _ _ _ _ _ _ ONE.out) ?_)))
          refine bodyPost_ret (v := .agg (jC hd rd ep lf cv 0 0)) (results_cell_row Tryz.results69 _ _ (V.heap.size + 1) 105 _ (0, 0) _ rfl J2.out.end.1 Tryz.underlying105 rfl (sizeJ _ _ _ _ _ _ _)) rfl ⟨rfl, J2.out.end.2⟩
end Go.Proofs.YtjckkdjldnobmaaGreatDoor.Frm

namespace Go.Proofs.YtjckkdjldnobmaaGreatDoor.Frm
open Go.RowKit Gf8 Aes By8 Cel
/- The program's frame: numbers and sums. -/
theorem ofInt_u64 {a:Nat} (ha:a < 18446744073709551616):(BitVec.ofInt 64 (a:Int)).toNat=a:=by
 rw [BitVec.ofInt_natCast,BitVec.toNat_ofNat]; exact Nat.mod_eq_of_lt (by omega)
theorem wrap_u64_nat {n:Nat} (h:n < 18446744073709551616):IntKind.u64.wrap (n:Int)=n:=by simp [IntKind.wrap,IntKind.bits,IntKind.signed]; omega
theorem or_u64 {a b:Nat} (ha:a < 18446744073709551616) (hb:b < 18446744073709551616):bits .or .u64 (a:Int) (b:Int)=((a ||| b:Nat):Int):=by
 show IntKind.u64.wrap ((BitVec.ofInt 64 (a:Int) ||| BitVec.ofInt 64 (b:Int)).toNat:Int)=_
 rw [BitVec.toNat_or,ofInt_u64 ha,ofInt_u64 hb,wrap_u64_nat (Nat.or_lt_two_pow (n:=64) ha hb)]
theorem or_add8 (a b:Nat) (hb:b < 256):a * 256 ||| b=a * 256+b:=by
 have:=Nat.shiftLeft_add_eq_or_of_lt (i:=8) hb a
 rw [Nat.shiftLeft_eq] at this
 exact this.symm
theorem or_add16 (a b:Nat) (hb:b < 65536):a * 65536 ||| b=a * 65536+b:=by
 have:=Nat.shiftLeft_add_eq_or_of_lt (i:=16) hb a
 rw [Nat.shiftLeft_eq] at this
 exact this.symm
set_option maxRecDepth 20000 in
theorem pnumber_any (p:Nat->Nat) (len:Nat) (v:Value) (V:World) (hv:SliceN V v len p) (hl:len<=8) :
  Calls Tryz.prog 103 #[v] V fun e w'=>e=.returned (.int .u64 (nb p len:Nat))/\w'=V:=by
 obtain ⟨⟨ad,cap,rfl,hc1,hc2,hc3⟩,hp⟩:=hv
 have HC:Hid (0 < len->∃ b off,ad=some ⟨b,off,none⟩/\b < V.heap.size/\∀ j,j < len->V.cell? ⟨b,off+j,none⟩=some (.int .u8 (p j))):=hc3
 have HP:Hid (∀ j,j < len->p j < 256):=hp
 have HL:Hid (len<=8):=hl
 have lb:(len:Int)<=8:=by omega
 clear hc1 hc2 hc3 hl hp
 go_enter Tryz.func103,Tryz.ntmps103
 go_wp2_with fail
 go_loopw [3,8] (fun x z W=>∃ i:Nat,i<=len/\x=.int .u64 (nb p i:Nat)/\z=.int .i64 i/\W=V) (fun _ z _=>len - (intOf z).toNat)
 case atStart=>exact ⟨0,Nat.zero_le _,rfl,rfl,rfl⟩
 case round=>
  obtain ⟨i,hi,rfl,rfl,rfl⟩:=hrel
  by_cases hlt:i < len
  ·have i1:(i:Int) < len:=by omega
   obtain ⟨b,off,rfl,_,hc⟩:=HC.out (by omega)
   have l3:=HP.out i hlt
   have l4:nb p i < 256 ^ 7:=Nat.lt_of_lt_of_le (nb_lt fun j hj=>HP.out j (by omega)) (Nat.pow_le_pow_right (by decide) (by have:=HL.out; omega))
   have e7:(256:Nat) ^ 7=72057594037927936:=by decide
   rw [e7] at l4
   obtain ⟨c,hc0⟩:∃ c,p i=c:=⟨_,rfl⟩
   obtain ⟨A,hA⟩:∃ A,nb p i=A:=⟨_,rfl⟩
   have c1:wr.cell? ⟨b,off+i,none⟩=some (.int .u8 c):=by rw [hc i hlt,hc0]
   rw [hA] at l4
   rw [hc0] at l3
   rw [hA]
   have j1:(A:Int) < 72057594037927936:=by omega
   have j3:(c:Int) < 256:=by omega
   have HA:Hid (nb p (i+1)=A * 256+c):=by
    show nb p (i+1)=_
    rw [nb,hA,hc0]
   have HK:Hid (i < len):=hlt
   have OR:bits .or .u64 ((A:Int) * 256) (c:Int)=((A * 256+c:Nat):Int):=by
    have:=or_u64 (a:=A * 256) (b:=c) (by omega) (by omega)
    rw [or_add8 _ _ l3] at this
    rw [← this]
    simp
   clear hc l3 l4 hc0 hA hlt hi e7
   go_wp2
   go_roundw
   case rel=>
    refine ⟨i+1,HK.out,?_,by go_num,by first | rfl | trivial⟩
    rw [HA.out]
    first | rw [OR] | go_num
   case measure=>have:=HK.out; simp [intOf]; omega
  ·have ei:i=len:=by omega
   subst ei
   have i1:¬ (i:Int) < i:=by omega
   go_wp2
   go_ret
   exact ⟨rfl,rfl⟩
def smV (a b:Nat):Value:=.agg #[.int .u32 a,.int .u32 b]
set_option maxRecDepth 20000 in
theorem snumber_any (a b:Nat) (V:World) (ha:a < 65521) (hb:b < 65521) :
  Calls Tryz.prog 57 #[smV a b] V fun e w'=>e=.returned (.int .u64 (b * 65536+a:Nat))/\Below V.heap.size V w':=by
 have j1:(a:Int) < 65521:=by omega
 have j2:(b:Int) < 65521:=by omega
 have OR:bits .or .u64 ((b:Int) * 65536) (a:Int)=((b * 65536+a:Nat):Int):=by
  have:=or_u64 (a:=b * 65536) (b:=a) (by omega) (by omega)
  rw [or_add16 _ _ (by omega)] at this
  rw [← this]
  simp
 unfold smV
 have HB:Hid (Below V.heap.size V (V.alloc (.cells #[.int .u32 a,.int .u32 b] 101))):=belNew _ _
 clear ha hb
 go_enter Tryz.func57,Tryz.ntmps57
 go_wp2
 go_ret
 refine ⟨?_,HB.out⟩
 first | rw [OR] | go_num
def sm2 (a b:Int):Array Value:=#[.int .u32 a,.int .u32 b]
theorem cell2 {W:World} {R:Nat} {a b:Int} {t:TypeId} (h:W.heap[R]?=some (.cells (sm2 a b) t)):W.cell? ⟨R,0,none⟩=some (.int .u32 a)/\W.cell? ⟨R,1,none⟩=some (.int .u32 b):=by
 constructor
 ·rw [cell_of_row _ _ _ _ _ _ h]; rfl
 ·rw [cell_of_row _ _ _ _ _ _ h]; rfl
theorem zeroS:∀ w,(zeroValue 101).run Tryz.prog w=.ok (.agg (sm2 0 0)) w:=by
 intro w
 simp [go_sem,sm2]
theorem sizeS (a b:Int):(Tryz.prog.info? 101).map (·.size)=some (sm2 a b).size:=by
 show _=some 2
 kernel_rfl
theorem sm2_one (a b:Int):(sm2 a b).all (·.oneCell')=true:=by simp [sm2,Value.oneCell']
set_option maxRecDepth 20000 in
set_option maxHeartbeats 400000 in
theorem nobytes_any (V:World):Calls Tryz.prog 55 #[] V fun e w'=>e=.returned (smV 1 0)/\Below V.heap.size V w':=by
 have z:=zeroS
 go_enter Tryz.func55,Tryz.ntmps55
 go_wp2_with (first
  | (refine atStore 101 (.tmp 0) (.tmp 1) rfl ?_; go_must (refine wpList_store_row rfl 101 (.tmp 0) (.tmp 1) rfl V.heap.size (sm2 1 0) rfl rfl 101 _ (heapNew V _) (sizeS _ _) rfl (sm2_one _ _) ?_)))
 refine bodyPost_ret (v:=smV 1 0) (results_cell_row Tryz.results55 _ _ V.heap.size 101 _ (0,0) _ rfl (setRow_heap _ _ _ _ _ _ (heapNew V _)) Tryz.underlying101 rfl (sizeS _ _)) rfl ⟨rfl,below4 (belNew V _) (Nat.le_refl _) _⟩
structure OvR (R:Nat) (a b:Int) (V W:World):Prop where
 s:W.heap[R]?=some (.cells (sm2 a b) 101)
 r:∃ c d,W.heap[R+1]?=some (.cells (sm2 c d) 101)
 bel:Below R V W
theorem OvR.set {R:Nat} {a b:Int} {V W:World} (h:OvR R a b V W) (c d:Int):OvR R c d V (W.setRow R (sm2 c d)):=by
 obtain ⟨x,y,hr⟩:=h.r
 exact ⟨setRow_heap _ _ _ _ _ _ h.s,⟨x,y,by rw [setRow_other _ _ _ _ (by omega)]; exact hr⟩,below4 h.bel (Nat.le_refl _) _⟩
set_option maxRecDepth 20000 in
set_option maxHeartbeats 400000 in
theorem over_any (q:Nat->Nat) (t len:Nat) (v:Value) (V:World) (hv:SliceN V v len fun j=>q (t+j)) (hl:len<=140737488351232) :
  Calls Tryz.prog 56 #[smV (adl q t).1 (adl q t).2,v] V fun e w'=>e=.returned (smV (adl q (t+len)).1 (adl q (t+len)).2)/\Below V.heap.size V w':=by
 obtain ⟨⟨ad,cap,rfl,hc1,hc2,hc3⟩,hp⟩:=hv
 have HC:Hid (0 < len->∃ b off,ad=some ⟨b,off,none⟩/\b < V.heap.size/\∀ j,j < len->V.cell? ⟨b,off+j,none⟩=some (.int .u8 (q (t+j)))):=hc3
 have HP:Hid (∀ j,j < len->q (t+j) < 256):=hp
 have HL:Hid (len<=140737488351232):=hl
 have lb:(len:Int)<=140737488351232:=by omega
 have z:=zeroS
 obtain ⟨R,hR⟩:∃ R,V.heap.size=R:=⟨_,rfl⟩
 obtain ⟨W0,hW⟩:∃ W0,(V.alloc (.cells (sm2 (adl q t).1 (adl q t).2) 101)).alloc (.cells (sm2 0 0) 101)=W0:=⟨_,rfl⟩
 have O0:Hid (OvR R (adl q t).1 (adl q t).2 V W0):=by
  have h:=heap2c V (.cells (sm2 (adl q t).1 (adl q t).2) 101) (.cells (sm2 0 0) 101)
  rw [hW,hR] at h
  refine ⟨h.1,⟨_,_,h.2⟩,?_⟩
  rw [← hW,← hR]
  exact below2c _ _ _
 have HW:Hid ((V.alloc (.cells #[.int .u32 (adl q t).1,.int .u32 (adl q t).2] 101)).alloc (.cells (sm2 0 0) 101)=W0):=hW
 clear hc1 hc2 hc3 hl hp hW
 unfold smV
 go_enter Tryz.func56,Tryz.ntmps56
 go_wp2_with fail
 rw [HW.out]
 try simp only [hR]
 have HR:Hid (V.heap.size=R):=hR
 clear hR z HW
 go_loopw [9] (fun z W=>∃ i:Nat,i<=len/\z=.int .i64 i/\OvR R (adl q (t+i)).1 (adl q (t+i)).2 V W) (fun z _=>len - (intOf z).toNat)
 case atStart=>exact ⟨0,Nat.zero_le _,rfl,O0.out⟩
 case round=>
  obtain ⟨i,hi,rfl,ov⟩:=hrel
  clear O0
  by_cases hlt:i < len
  ·have i1:(i:Int) < len:=by omega
   obtain ⟨b,off,rfl,hbs,hc⟩:=HC.out (by omega)
   obtain ⟨l1,l2⟩:=adl_lt q (t+i)
   have l3:=HP.out i hlt
   obtain ⟨c,hc0⟩:∃ c,q (t+i)=c:=⟨_,rfl⟩
   obtain ⟨A,hA⟩:∃ A,(adl q (t+i)).1=A:=⟨_,rfl⟩
   obtain ⟨B,hB⟩:∃ B,(adl q (t+i)).2=B:=⟨_,rfl⟩
   have c1:wr.cell? ⟨b,off+i,none⟩=some (.int .u8 c):=by
    rw [cell_below ov.bel (by have:=HR.out; omega),hc i hlt,hc0]
   rw [hA] at l1 ov
   rw [hB] at l2 ov
   rw [hc0] at l3
   have j1:(A:Int) < 65521:=by omega
   have j2:(B:Int) < 65521:=by omega
   have j3:(c:Int) < 256:=by omega
   have HA:Hid (adl q (t+(i+1))=((A+c) % 65521,(B+(A+c) % 65521) % 65521)):=by
    show adl q (t+(i+1))=_
    rw [← Nat.add_assoc,adl,hA,hB,hc0]
   have HK:Hid (i < len):=hlt
   have OV:Hid (OvR R A B V wr):=ov
   obtain ⟨k0,k1⟩:=cell2 ov.s
   have k2:∀ x:Int,(wr.setRow R (sm2 x B)).cell? ⟨R,0,none⟩=some (.int .u32 x):=fun x=>(cell2 (ov.set x B).s).1
   have k3:∀ x:Int,(wr.setRow R (sm2 x B)).cell? ⟨R,1,none⟩=some (.int .u32 B):=fun x=>(cell2 (ov.set x B).s).2
   clear hc l1 l2 l3 hc0 hA hB hlt hi ov hbs
   go_wp2_with (first
    | (refine atStore 99 (.tmp 19) (.tmp 18) rfl ?_; go_must (refine wpList_exS rfl (execStV (c':=sm2 _ _) rfl rfl rfl OV.out.s (by show 0 < 2; decide) (by kernel_rfl) rfl rfl) ?_))
    | (refine atStore 99 (.tmp 26) (.tmp 25) rfl ?_; go_must (refine wpList_exS rfl (execStV (c':=sm2 _ _) rfl rfl rfl (OV.out.set _ _).s (by show 1 < 2; decide) (by kernel_rfl) rfl rfl) ?_)))
   go_roundw
   case rel=>
    refine ⟨i+1,HK.out,by go_num,?_⟩
    rw [HA.out]
    have:=(OV.out.set (((A:Int)+c) % 65521) B).set (((A:Int)+c) % 65521) (((B:Int)+((A:Int)+c)) % 65521)
    have e1:(((A+c) % 65521:Nat):Int)=((A:Int)+c) % 65521:=by omega
    have e2:(((B+(A+c) % 65521) % 65521:Nat):Int)=((B:Int)+((A:Int)+c)) % 65521:=by omega
    show OvR R (((A+c) % 65521:Nat):Int) (((B+(A+c) % 65521) % 65521:Nat):Int) V _
    rw [e1,e2]
    exact this
   case measure=>have:=HK.out; simp [intOf]; omega
  ·have ei:i=len:=by omega
   subst ei
   have i1:¬ (i:Int) < i:=by omega
   have OV:Hid (OvR R (adl q (t+i)).1 (adl q (t+i)).2 V wr):=ov
   obtain ⟨x,y,hr⟩:=ov.r
   have RR:Hid (wr.heap[R+1]?=some (.cells (sm2 x y) 101)):=hr
   clear hr ov
   go_wp2_with (first
    | (refine atLoad 101 (.tmp 2) rfl ?_; go_must (refine wpList_load_row rfl 101 (.tmp 2) rfl R rfl 101 _ (0,0) _ OV.out.s Tryz.underlying101 rfl (sizeS _ _) ?_; simp only [Act.put,List.setIfInBounds_toArray,List.set_cons_succ,List.set_cons_zero]))
    | (refine atStore 101 (.tmp 4) (.tmp 28) rfl ?_; go_must (refine wpList_store_row rfl 101 (.tmp 4) (.tmp 28) rfl (R+1) _ rfl rfl 101 _ RR.out (sizeS _ _) rfl (sm2_one _ _) ?_)))
   refine bodyPost_ret (v:=smV (adl q (t+i)).1 (adl q (t+i)).2) (results_cell_row Tryz.results56 _ _ (R+1) 101 _ (0,0) _ rfl (setRow_heap _ _ _ _ _ _ RR.out) Tryz.underlying101 rfl (sizeS _ _)) rfl ⟨rfl,?_⟩
   rw [HR.out]
   exact below4 OV.out.bel (by omega) _
end Go.Proofs.YtjckkdjldnobmaaGreatDoor.Frm

namespace Go.Proofs.YtjckkdjldnobmaaGreatDoor.Frm
open Go.RowKit Gf8 Aes By8 Cel
/- A Feed's cells; its small functions. -/
structure FSt where
 f:Nat
 part:Nat->Nat
 hv:Nat
 pl:Nat
 sa:Nat
 sb:Nat
 rd:Int
 ep:Int
 lf:Int
 cl:Int
 ft:Nat
def fT (s:FSt):List Value:=[.int .i64 (s.hv:Int),.int .i64 (s.pl:Int),.int .u32 (s.sa:Int),.int .u32 (s.sb:Int),.int .i64 s.rd,.int .i64 s.ep,.int .i64 s.lf,.int .i64 s.cl,.int .i64 (s.ft:Int)]
def fC (s:FSt):Array Value:=(.int .i64 (s.f:Int) :: (bytesL 320 s.part ++ fT s)).toArray
theorem consN_size (x:Value) (l:List Value) (N:Nat) (p:Nat->Nat):(x :: (bytesL N p ++ l)).toArray.size=N+l.length+1:=by
 rw [List.size_toArray,List.length_cons,List.length_append,bytesL_len]
theorem fT_len (s:FSt):(fT s).length=9:=rfl
theorem fC_size (s:FSt):(fC s).size=330:=(consN_size (.int .i64 (s.f:Int)) (fT s) 320 s.part).trans (by rw [fT_len])
theorem fC_0 (s:FSt):(fC s)[0]?=some (.int .i64 (s.f:Int)):=by rw [fC,List.getElem?_toArray,List.getElem?_cons_zero]
theorem fC_p (s:FSt) {i:Nat} (h:i < 320):(fC s)[1+i]?=some (.int .u8 (s.part i)):=by
 rw [fC,List.getElem?_toArray,Nat.add_comm,List.getElem?_cons_succ,List.getElem?_append_left (by rw [bytesL_len]; exact h)]
 exact bytesL_at 320 _ h
theorem fC_t (s:FSt) (j:Nat):(fC s)[321+j]?=(fT s)[j]?:=by
 rw [fC,List.getElem?_toArray,show 321+j=(320+j)+1 by omega,List.getElem?_cons_succ,List.getElem?_append_right (by rw [bytesL_len]; omega),bytesL_len,show 320+j - 320=j by omega]
theorem fC_ext {c:Array Value} {s:FSt} (hs:c.size=330) (h0:c[0]?=some (.int .i64 (s.f:Int))) (hp:∀ i,i < 320->c[1+i]?=some (.int .u8 (s.part i))) (ht:∀ j,j < 9->c[321+j]?=(fT s)[j]?):c=fC s:=by
 apply Array.ext_getElem?
 intro i
 by_cases e:i=0
 ·rw [e,h0,fC_0]
 ·by_cases h1:i < 321
  ·obtain ⟨j,rfl⟩:∃ j,i=1+j:=⟨i - 1,by omega⟩
   rw [hp j (by omega),fC_p s (by omega)]
  ·by_cases h2:i < 330
   ·obtain ⟨j,rfl⟩:∃ j,i=321+j:=⟨i - 321,by omega⟩
    rw [ht j (by omega),fC_t]
   ·rw [Array.getElem?_eq_none (by omega),Array.getElem?_eq_none (by rw [fC_size]; omega)]
theorem fC_set {s s':FSt} {j:Nat} {v:Value} (hj:j < 9) (hf:s'.f=s.f) (hp:s'.part=s.part) (ht:(fT s).set j v=fT s'):(fC s).setIfInBounds (321+j) v=fC s':=by
 refine fC_ext (by simp [fC_size]) ?_ ?_ ?_
 ·rw [Array.getElem?_setIfInBounds,if_neg (by omega),fC_0,hf]
 ·intro i hi
  rw [Array.getElem?_setIfInBounds,if_neg (by omega),fC_p s hi,hp]
 ·intro i hi
  rw [Array.getElem?_setIfInBounds,← ht,List.getElem?_set]
  by_cases e:j=i
  ·subst e
   rw [if_pos rfl,if_pos rfl,if_pos (by rw [fC_size]; omega),if_pos (by simp [fT]; omega)]
  ·rw [if_neg (by omega),if_neg e,fC_t]
theorem fC_setF (s:FSt) (v:Nat):(fC s).setIfInBounds 0 (.int .i64 (v:Int))=fC { s with f:=v }:=by
 refine fC_ext (by simp [fC_size]) ?_ ?_ ?_
 ·rw [Array.getElem?_setIfInBounds,if_pos rfl,if_pos (by rw [fC_size]; omega)]
 ·intro i hi
  rw [Array.getElem?_setIfInBounds,if_neg (by omega),fC_p s hi]
 ·intro i hi
  rw [Array.getElem?_setIfInBounds,if_neg (by omega),fC_t]
  rfl
theorem fC_splice (s:FSt) (n m:Nat) (h:Nat->Nat) (hn:n+m<=320):((fC s).toList.take (1+n) ++ bytesL m h ++ (fC s).toList.drop (1+n+m)).toArray=fC { s with part:=spl s.part n m h }:=by
 have l1:(List.take (1+n) (fC s).toList).length=1+n:=by simp [fC_size]; omega
 refine fC_ext ?_ ?_ ?_ ?_
 ·simp only [List.size_toArray,List.length_append,l1,bytesL_len,List.length_drop,Array.length_toList,fC_size]
  omega
 ·rw [List.getElem?_toArray,List.append_assoc,List.getElem?_append_left (by omega),List.getElem?_take,if_pos (by omega),Array.getElem?_toList,fC_0]
 ·intro i hi
  rw [List.getElem?_toArray,List.append_assoc]
  show _=some (Value.int .u8 ((spl s.part n m h i:Nat):Int))
  unfold spl
  by_cases a:i < n
  ·rw [List.getElem?_append_left (by omega),List.getElem?_take,if_pos (by omega),Array.getElem?_toList,fC_p s hi,if_neg (by omega)]
  ·rw [List.getElem?_append_right (by omega),l1]
   by_cases b:i < n+m
   ·rw [List.getElem?_append_left (by rw [bytesL_len]; omega),bytesL_at m h (by omega),if_pos (by omega)]
    rw [show 1+i - (1+n)=i - n by omega]
   ·rw [List.getElem?_append_right (by rw [bytesL_len]; omega),bytesL_len,List.getElem?_drop,Array.getElem?_toList,if_neg (by omega),show 1+n+m+(1+i - (1+n) - m)=1+i by omega,fC_p s hi]
 ·intro i hi
  rw [List.getElem?_toArray,List.append_assoc,List.getElem?_append_right (by omega),l1,List.getElem?_append_right (by rw [bytesL_len]; omega),bytesL_len,List.getElem?_drop,Array.getElem?_toList,show 1+n+m+(321+i - (1+n) - m)=321+i by omega,fC_t]
  rfl
structure FAt (F:Nat) (s:FSt) (W:World):Prop where
 row:W.heap[F]?=some (.cells (fC s) 103)
structure Rules (w:World):Prop where
 sz:0 < w.heap.size
 z:∀ f,f < 10->w.cell? ⟨0,f * 4,none⟩=some (.int .i64 (fsz f:Nat))
 lo:∀ f,f < 10->w.cell? ⟨0,f * 4+1,none⟩=some (.int .u64 (low f:Nat))
 hi:∀ f,f < 10->w.cell? ⟨0,f * 4+2,none⟩=some (.int .u64 (high f:Nat))
 ft:∀ f,f < 10->w.cell? ⟨0,f * 4+3,none⟩=some (.int .i64 (flt f:Nat))
theorem Rules.on {w w':World} {B:Nat} (g:Rules w) (h:Below B w w') (hB:1<=B):Rules w':=
 ⟨by have:=h.size; have:=g.sz; omega,fun f hf=>by rw [cell_below h (by omega)]; exact g.z f hf,fun f hf=>by rw [cell_below h (by omega)]; exact g.lo f hf,fun f hf=>by rw [cell_below h (by omega)]; exact g.hi f hf,fun f hf=>by rw [cell_below h (by omega)]; exact g.ft f hf⟩
theorem Rules.row {w:World} (g:Rules w) {F:Nat} (hF:0 < F) (c:Array Value):Rules (w.setRow F c):=by
 have e:∀ k,(w.setRow F c).cell? ⟨0,k,none⟩=w.cell? ⟨0,k,none⟩:=fun k=>by
  simp only [World.cell?]
  rw [setRow_other _ _ _ _ (by omega)]
 exact ⟨by have:=g.sz; simpa using this,fun f hf=>by rw [e]; exact g.z f hf,fun f hf=>by rw [e]; exact g.lo f hf,fun f hf=>by rw [e]; exact g.hi f hf,fun f hf=>by rw [e]; exact g.ft f hf⟩
section
variable {F:Nat} {s:FSt} {W:World}
theorem FAt.c0 (h:FAt F s W):W.cell? ⟨F,0,none⟩=some (.int .i64 (s.f:Int)):=by rw [cell_of_row _ _ _ _ _ _ h.row]; exact fC_0 s
theorem FAt.cp (h:FAt F s W) {i:Nat} (hi:i < 320):W.cell? ⟨F,1+i,none⟩=some (.int .u8 (s.part i)):=by rw [cell_of_row _ _ _ _ _ _ h.row]; exact fC_p s hi
theorem FAt.hv (h:FAt F s W):W.cell? ⟨F,321,none⟩=some (.int .i64 (s.hv:Int)):=by rw [cell_of_row _ _ _ _ _ _ h.row]; exact fC_t s 0
theorem FAt.pl (h:FAt F s W):W.cell? ⟨F,322,none⟩=some (.int .i64 (s.pl:Int)):=by rw [cell_of_row _ _ _ _ _ _ h.row]; exact fC_t s 1
theorem FAt.sa (h:FAt F s W):W.cell? ⟨F,323,none⟩=some (.int .u32 (s.sa:Int)):=by rw [cell_of_row _ _ _ _ _ _ h.row]; exact fC_t s 2
theorem FAt.sb (h:FAt F s W):W.cell? ⟨F,324,none⟩=some (.int .u32 (s.sb:Int)):=by rw [cell_of_row _ _ _ _ _ _ h.row]; exact fC_t s 3
theorem FAt.rd (h:FAt F s W):W.cell? ⟨F,325,none⟩=some (.int .i64 s.rd):=by rw [cell_of_row _ _ _ _ _ _ h.row]; exact fC_t s 4
theorem FAt.ep (h:FAt F s W):W.cell? ⟨F,326,none⟩=some (.int .i64 s.ep):=by rw [cell_of_row _ _ _ _ _ _ h.row]; exact fC_t s 5
theorem FAt.lf (h:FAt F s W):W.cell? ⟨F,327,none⟩=some (.int .i64 s.lf):=by rw [cell_of_row _ _ _ _ _ _ h.row]; exact fC_t s 6
theorem FAt.cl (h:FAt F s W):W.cell? ⟨F,328,none⟩=some (.int .i64 s.cl):=by rw [cell_of_row _ _ _ _ _ _ h.row]; exact fC_t s 7
theorem FAt.ft (h:FAt F s W):W.cell? ⟨F,329,none⟩=some (.int .i64 (s.ft:Int)):=by rw [cell_of_row _ _ _ _ _ _ h.row]; exact fC_t s 8
theorem FAt.set (h:FAt F s W) (s':FSt):FAt F s' (W.setRow F (fC s')):=⟨setRow_heap _ _ _ _ _ _ h.row⟩
theorem FAt.lt (h:FAt F s W):F < W.heap.size:=(Array.getElem?_eq_some_iff.1 h.row).1
theorem FAt.on {W':World} (h:FAt F s W) (hb:Below W.heap.size W W'):FAt F s W':=⟨by rw [hb.block _ h.lt]; exact h.row⟩
theorem FAt.slice (h:FAt F s W) {n:Nat} (hn:n<=320) (hb:∀ j,j < n->s.part j < 256):SliceN W (.slice (some ⟨F,1,none⟩) n 320) n s.part:=
 ⟨⟨_,_,rfl,hn,by omega,fun _=>⟨F,1,rfl,h.lt,fun j hj=>h.cp (by omega)⟩⟩,hb⟩
end
structure FTo (F:Nat) (s':FSt) (V W:World):Prop where
 at':FAt F s' W
 sv:Saved (fun k=>k=F) V W
theorem FTo.refl {F:Nat} {s:FSt} {V:World} (h:FAt F s V):FTo F s V V:=⟨h,Saved.refl _ _⟩
theorem FTo.on {F:Nat} {s:FSt} {V W W':World} (h:FTo F s V W) (hb:Below W.heap.size W W'):FTo F s V W':=⟨h.at'.on hb,h.sv.below hb h.sv.size⟩
theorem saved_row {G:Nat->Prop} {w w':World} (h:Saved G w w') {b:Nat} (c:Array Value) (hG:w.heap.size<=b\/G b):Saved G w (w'.setRow b c):=by
 refine ⟨h.os,h.tape,h.output,by simpa using h.size,fun k hk hk2=>?_⟩
 rw [setRow_other _ _ _ _ (fun e=>by subst e; rcases hG with h | h; omega; exact hk2 h),h.block k hk hk2]
theorem saved_trans {G:Nat->Prop} {w w' w'':World} (h:Saved G w w') (h':Saved G w' w''):Saved G w w'':=
 ⟨h'.os.trans h.os,h'.tape.trans h.tape,h'.output.trans h.output,Nat.le_trans h.size h'.size,fun k hk hG=>by rw [h'.block k (Nat.lt_of_lt_of_le hk h.size) hG,h.block k hk hG]⟩
theorem FTo.set {F:Nat} {s:FSt} {V W:World} (h:FTo F s V W) (s':FSt):FTo F s' V (W.setRow F (fC s')):=⟨h.at'.set s',saved_row h.sv _ (Or.inr rfl)⟩
theorem FTo.trans {F:Nat} {s s':FSt} {V W W':World} (h:FTo F s V W) (h':FTo F s' W W'):FTo F s' V W':=⟨h'.at',saved_trans h.sv h'.sv⟩
theorem FTo.rules {F:Nat} {s:FSt} {V W:World} (h:FTo F s V W) (g:Rules V) (hF:0 < F):Rules W:=by
 have e:∀ k,W.cell? ⟨0,k,none⟩=V.cell? ⟨0,k,none⟩:=fun k=>by
  simp only [World.cell?]
  rw [h.sv.block 0 g.sz (by omega)]
 exact ⟨Nat.lt_of_lt_of_le g.sz h.sv.size,fun f hf=>by rw [e]; exact g.z f hf,fun f hf=>by rw [e]; exact g.lo f hf,fun f hf=>by rw [e]; exact g.hi f hf,fun f hf=>by rw [e]; exact g.ft f hf⟩
def Off (F:Nat) (v:Value):Prop:=∀ ad n c,v=.slice (some ad) n c->0 < n->ad.block ≠ F
theorem Off.slice {F:Nat} {V W:World} {v:Value} {n:Nat} {p:Nat->Nat} (ho:Off F v) (h:SliceN V v n p) (sv:Saved (fun k=>k=F) V W):SliceN W v n p:=by
 obtain ⟨⟨a,cap,rfl,h1,h2,h3⟩,hp⟩:=h
 refine ⟨⟨a,cap,rfl,h1,h2,fun h0=>?_⟩,hp⟩
 obtain ⟨b,off,rfl,hb,hc⟩:=h3 h0
 refine ⟨b,off,rfl,Nat.lt_of_lt_of_le hb sv.size,fun j hj=>?_⟩
 rw [← hc j hj]
 simp only [World.cell?]
 rw [sv.block b hb (ho _ n cap rfl h0)]
theorem Off.sub {F:Nat} {a:Option Addr} {len cap:Nat} (ho:Off F (.slice a len cap)) (l h:Nat) (hh:h<=len):Off F (sliced a l h cap 1):=by
 intro ad n c e hn
 cases a with
 | none=>unfold sliced at e; simp at e
 | some ad'=>
  unfold sliced at e
  injection e with e1 e2 e3
  have h0:=ho ad' len cap rfl (by omega)
  by_cases q:cap=l
  ·rw [if_pos q] at e1
   injection e1 with e1
   rw [← e1]
   exact h0
  ·rw [if_neg q] at e1
   injection e1 with e1
   rw [← e1]
   have:(ad'.add (l * 1)).block=ad'.block:=by
    obtain ⟨b,o,m⟩:=ad'
    cases m <;> simp only [Addr.add] <;> split <;> rfl
   rw [this]
   exact h0
theorem off_of {F:Nat} {V:World} {v:Value} {n:Nat} {p:Nat->Nat} (h:SliceN V v n p) (hF:V.heap.size<=F):Off F v:=by
 intro ad m c e hm
 obtain ⟨⟨a,cap,rfl,_,_,h3⟩,_⟩:=h
 injection e with e1 e2 e3
 obtain ⟨b,off,rfl,hb,_⟩:=h3 (by omega)
 injection e1 with e1
 rw [← e1]
 show b ≠ F
 omega
section
variable {o:Oper} {a:Act} {w:World}
theorem execNil {P:Program} {x:Operand} {ad:Addr} (ho:o.op=.nilCheck x) (hx:a.eval x=.pointer (some ad)):(execOp a.eval o).run P w=.ok (.value (.pointer (some ad))) w:=by
 unfold execOp
 simp only [ho,hx]
 simp [go_sem]
theorem execAsg {P:Program} {x:Operand} {v:Value} (ho:o.op=.assign x) (hx:a.eval x=v):(execOp a.eval o).run P w=.ok (.value v) w:=by
 unfold execOp
 simp only [ho,hx]
 rfl
def foff:Nat->Nat
 | 0=>0 | 1=>1 | 2=>321 | 3=>322 | 4=>323 | 5=>325 | 6=>328 | _=>329
theorem execFld {x:Operand} {F k:Nat} (hk:k < 8) (ho:o.op=.fieldAddr 103 x k) (hx:a.eval x=.pointer (some ⟨F,0,none⟩)):(execOp a.eval o).run Tryz.prog w=.ok (.value (.pointer (some ⟨F,foff k,none⟩))) w:=by
 unfold execOp
 simp only [ho,hx]
 match k,hk with
 | 0,_=>simp [go_sem,foff]
 | 1,_=>simp [go_sem,foff]
 | 2,_=>simp [go_sem,foff]
 | 3,_=>simp [go_sem,foff]
 | 4,_=>simp [go_sem,foff]
 | 5,_=>simp [go_sem,foff]
 | 6,_=>simp [go_sem,foff]
 | 7,_=>simp [go_sem,foff]
theorem execLdI {y:Operand} {b f:Nat} {v:Value} (ho:o.op=.load 3 y) (hx:a.eval y=.pointer (some ⟨b,f,none⟩)) (hc:w.cell? ⟨b,f,none⟩=some v):(execOp a.eval o).run Tryz.prog w=.ok (.value v) w:=by
 unfold execOp
 simp only [ho,hx]
 simp [go_sem,hc]
theorem execLdF {y:Operand} {b f:Nat} {v:Value} (ho:o.op=.load 97 y) (hx:a.eval y=.pointer (some ⟨b,f,none⟩)) (hc:w.cell? ⟨b,f,none⟩=some v):(execOp a.eval o).run Tryz.prog w=.ok (.value v) w:=by
 unfold execOp
 simp only [ho,hx]
 simp [go_sem,hc]
theorem execIdxR {i:Operand} {k:Nat} (ho:o.op=.indexAddr 131 (.global 0) i) (hi:a.eval i=.int .i64 (k:Int)) (hk:k < 10):(execOp a.eval o).run Tryz.prog w=.ok (.value (.pointer (some ⟨0,k * 4,none⟩))) w:=by
 have hk':(k:Int) < 10:=by omega
 unfold execOp
 simp only [ho,hi]
 simp [go_sem,hk']
theorem execFldR {x:Operand} {b f:Nat} (ho:o.op=.fieldAddr 130 x 0) (hx:a.eval x=.pointer (some ⟨b,f,none⟩)):(execOp a.eval o).run Tryz.prog w=.ok (.value (.pointer (some ⟨b,f,none⟩))) w:=by
 unfold execOp
 simp only [ho,hx]
 simp [go_sem]
theorem slicePart (F l h:Nat) (h1:l < h) (h2:h<=320) (W:World):(Instr.sliceAt 98 (.pointer (some ⟨F,1,none⟩)) (some (.int .i64 (l:Int))) (some (.int .i64 (h:Int))) none).run Tryz.prog W=.ok (.slice (some ⟨F,1+l,none⟩) (h - l) (320 - l)) W:=by
 have a1:(l:Int)<=h:=by omega
 have a2:(h:Int)<=320:=by omega
 have a3:¬ 320=l:=by omega
 simp [go_sem,a1,a2,a3]
theorem execCopyP {x y:Operand} {F l m m' c:Nat} {s:FSt} {v:Value} {p:Nat->Nat} (ho:o.op=.call { callee:=.builtin .copy,args:=#[x,y],argTypes:=#[24,24] })
  (hx:a.eval x=.slice (some ⟨F,1+l,none⟩) m c) (hy:a.eval y=v) (hF:FAt F s w) (hv:SliceN w v m' p) (hm:l+m<=320) :
  (execOp a.eval o).run Tryz.prog w=.ok (.value (.int .i64 ((min m' m:Nat):Int))) (w.setRow F (fC { s with part:=spl s.part l (min m' m) p })):=by
 obtain ⟨⟨ao,cap,rfl,h1,h2,h3⟩,hp⟩:=hv
 by_cases h0:0 < m'
 ·obtain ⟨b,off,rfl,hb,hc⟩:=h3 h0
  have h:=execCopyB (cs:=bytesL (min m' m) p) ho hx hy hF.row (bytesL_len _ _) ?_ (by rw [bytesL_len,fC_size]; omega) (bytesL_one _ _)
  ·rw [bytesL_len,fC_splice s l (min m' m) p (by omega)] at h
   exact h
  ·intro j v hj
   have hjc:j < min m' m:=by have:=(List.getElem?_eq_some_iff.1 hj).1; rwa [bytesL_len] at this
   rw [bytesL_at _ _ hjc] at hj
   rw [Addr.add_mid,← hj]
   exact hc j (by omega)
 ·have e0:m'=0:=by omega
  subst e0
  have h:=run_copy_none (P:=Tryz.prog) w 24 24 o.type 5 (some ⟨F,1+l,none⟩) ao m c 0 cap Tryz.underlying24 (by kernel_rfl) (by simp)
  have e1:w.setRow F (fC { s with part:=spl s.part l (min 0 m) p })=w:=by
   have:({ s with part:=spl s.part l (min 0 m) p }:FSt)=s:=by
    have:spl s.part l (min 0 m) p=s.part:=by
     funext i
     unfold spl
     rw [if_neg (by omega)]
    rw [this]
   rw [this]
   exact setRow_self _ _ _ _ _ hF.row
  rw [e1]
  unfold execOp
  simp only [ho,resolve,invoke,builtin,Sem.run_bind,Sem.run_pure,Result.andThen_ok,List.map_toArray,List.map_cons,List.map_nil,hx,hy,h]
  simp
  rfl
theorem execClearP {x:Operand} {F n c:Nat} {s:FSt} (ho:o.op=.call { callee:=.builtin .clear,args:=#[x],argTypes:=#[24] })
  (hx:a.eval x=.slice (some ⟨F,1,none⟩) n c) (hF:FAt F s w) (h0:0 < n) (hn:n<=320) :
  (execOp a.eval o).run Tryz.prog w=.ok (.value (.tuple #[])) (w.setRow F (fC { s with part:=spl s.part 0 n fun _=>0 })):=by
 have hz:∀ w,(zeroValue 5).run Tryz.prog w=.ok (.int .u8 0) w:=by intro w; simp [go_sem]
 have hzc:(Builtin.zeroCells (Value.int .u8 0).cells n).toList=bytesL n fun _=>0:=by
  have e:(bytesL n fun _=>0)=List.replicate n (Value.int .u8 0):=by
   apply List.ext_getElem?
   intro i
   by_cases h:i < n
   ·rw [bytesL_at n _ h,List.getElem?_replicate,if_pos h]
    rfl
   ·rw [List.getElem?_eq_none (by rw [bytesL_len]; omega),List.getElem?_eq_none (by rw [List.length_replicate]; omega)]
  rw [e]
  simp [Builtin.zeroCells,Value.cells]
  apply List.ext_getElem
  ·simp
  ·intro i h1 h2
   simp [Nat.mod_one]
 have hst:=run_storeCells_at Tryz.prog F 1 103 (bytesL n fun _=>0) 0 (fC s) w hF.row (by rw [bytesL_len,fC_size]; omega) (bytesL_one _ _)
 rw [bytesL_len] at hst
 have sp:=fC_splice s 0 n (fun _=>0) (by omega)
 rw [Nat.add_zero] at sp
 rw [sp] at hst
 obtain ⟨m,rfl⟩:∃ m,n=m+1:=⟨n - 1,by omega⟩
 unfold execOp
 simp only [ho,resolve,invoke,builtin,Sem.run_bind,Sem.run_pure,Result.andThen_ok,List.map_toArray,List.map_cons,List.map_nil,hx]
 simp [Builtin.clear_,run_underlying Tryz.underlying24,hz,hzc,hst]
end
set_option maxRecDepth 20000 in
theorem whole_any (F:Nat) (s:FSt) (V:World) (h:FAt F s V) (g:Rules V) (hf:s.f < 10) :
  Calls Tryz.prog 59 #[.pointer (some ⟨F,0,none⟩)] V fun e w'=>e=.returned (.bool (decide (s.hv=fsz s.f)))/\Below V.heap.size V w':=by
 have c0:=h.c0
 have c1:=h.hv
 have c2:=g.z _ hf
 obtain ⟨f,hf0⟩:∃ f,s.f=f:=⟨_,rfl⟩
 obtain ⟨hv,hv0⟩:∃ n,s.hv=n:=⟨_,rfl⟩
 rw [hf0] at c0 c2 hf ⊢
 rw [hv0] at c1 ⊢
 have i1:(f:Int) < 10:=by omega
 clear hf0 hv0 h g
 go_enter Tryz.func59,Tryz.ntmps59
 go_wp2_with fail
 go_quiet (fail)
 go_wp2
 go_ret
 have e:((hv:Int) == (fsz f:Int))=decide (hv=fsz f):=by
  rw [Bool.eq_iff_iff]
  simp
  omega
 refine ⟨?_,belowD (Below.refl _ _) _⟩
 rw [← e]
 rfl
set_option maxRecDepth 20000 in
theorem fnumber_any (F:Nat) (s:FSt) (V:World) (h:FAt F s V) (hn:s.hv<=8) (hb:∀ j,j < s.hv->s.part j < 256) :
  Calls Tryz.prog 86 #[.pointer (some ⟨F,0,none⟩)] V fun e w'=>e=.returned (.int .u64 (nb s.part s.hv:Nat))/\Below V.heap.size V w':=by
 have c1:=h.hv
 have SL:Hid (SliceN V (.slice (some ⟨F,1,none⟩) s.hv 320) s.hv s.part):=h.slice (by omega) hb
 have HN:Hid (s.hv<=8):=hn
 obtain ⟨hv,hv0⟩:∃ n,s.hv=n:=⟨_,rfl⟩
 rw [hv0] at c1 SL HN ⊢
 have i1:(hv:Int)<=320:=by omega
 clear hv0 h hb
 go_enter Tryz.func86,Tryz.ntmps86
 go_wp2_with fail
 go_quiet ((go_at_call 103; exact Calls.quiet_of_same (pnumber_any s.part hv _ _ (SL.out.on (belowD (Below.refl _ _) _)) HN.out)))
 go_wp2
 go_ret
 exact ⟨rfl,belowD (Below.refl _ _) _⟩
def flV (F:Nat) (s:FSt) (v:Value) (m:Nat) (j:Nat):Value:=
 match j with
 | 0=>.pointer (some ⟨F,0,none⟩) | 1=>.pointer (some ⟨F,0,none⟩) | 2=>.pointer (some ⟨F,1,none⟩)
 | 3=>.pointer (some ⟨F,0,none⟩) | 4=>.pointer (some ⟨F,0,none⟩) | 5=>.pointer (some ⟨F,321,none⟩) | 6=>.int .i64 (s.hv:Int)
 | 7=>.pointer (some ⟨F,0,none⟩) | 8=>.pointer (some ⟨F,0,none⟩) | 9=>.pointer (some ⟨F,0,none⟩) | 10=>.int .i64 (s.f:Int)
 | 11=>.pointer (some ⟨0,s.f * 4,none⟩) | 12=>.pointer (some ⟨0,s.f * 4,none⟩) | 13=>.int .i64 (fsz s.f:Nat)
 | 14=>.slice (some ⟨F,1+s.hv,none⟩) (fsz s.f - s.hv) (320 - s.hv) | 15=>v | _=>.int .i64 ((min m (fsz s.f - s.hv):Nat):Int)
def fillS (s:FSt) (p:Nat->Nat) (m:Nat):FSt:={ s with part:=spl s.part s.hv (min m (fsz s.f - s.hv)) p,hv:=s.hv+min m (fsz s.f - s.hv) }
def subV (v:Value) (c:Nat):Value:=match v with | .slice ao m cap=>sliced ao c m cap 1 | u=>u
theorem subV_slice {W:World} {v:Value} {m c:Nat} {p:Nat->Nat} (h:SliceN W v m p) (hc:c<=m):SliceN W (subV v c) (m - c) fun j=>p (c+j):=by
 obtain ⟨ao,cap,rfl,_⟩:=id h.shape
 exact h.sub c m hc (Nat.le_refl _)
theorem subV_off {F:Nat} {v:Value} {c:Nat} (h:Off F v):Off F (subV v c):=by
 unfold subV
 split
 ·exact h.sub _ _ (Nat.le_refl _)
 ·exact h
set_option maxRecDepth 20000 in
set_option maxHeartbeats 1000000 in
theorem filled_any (F:Nat) (s:FSt) (p:Nat->Nat) (m:Nat) (v:Value) (V:World) (h:FAt F s V) (g:Rules V) (h0:0 < F) (hf:s.f < 10) (hh:s.hv < fsz s.f) (hv:SliceN V v m p) (ho:Off F v) :
  Calls Tryz.prog 58 #[.pointer (some ⟨F,0,none⟩),v] V fun e w'=>e=.returned (subV v (min m (fsz s.f - s.hv)))/\FTo F (fillS s p m) V w':=by
 obtain ⟨ao,cap,rfl,hc1,hc2,hc3⟩:=id hv.shape
 obtain ⟨n,hn⟩:∃ n,min m (fsz s.f - s.hv)=n:=⟨_,rfl⟩
 have nm:n<=m:=by omega
 have n1:(n:Int)<=m:=by omega
 have sl:=slice_l ao m cap n nm
 obtain ⟨r,hr⟩:∃ r,sliced ao n m cap 1=r:=⟨_,rfl⟩
 rw [hr] at sl
 have SUB:Hid (subV (.slice ao m cap) n=r):=hr
 have HB:Hid (FAt F s V/\Rules V/\0 < F/\s.f < 10/\s.hv < fsz s.f/\SliceN V (.slice ao m cap) m p/\Off F (.slice ao m cap)):=⟨h,g,h0,hf,hh,hv,ho⟩
 have HN:Hid (min m (fsz s.f - s.hv)=n):=hn
 have f1:=fsz_le s.f
 have l1:(s.hv:Int)+n<=320:=by omega
 clear hc1 hc2 hc3 hn h g h0 hf hh hv ho hr f1
 go_enter Tryz.func58,Tryz.ntmps58
 go_wp2_with fail
 refine wp_region_det 34 [(0,6),(1,7),(2,8),(3,9),(4,10),(5,11),(6,12),(7,13),(8,14),(9,15),(10,16),(11,17),(12,18),(13,19),(14,20),(15,21),(16,22),(17,5)] (flV F s (.slice ao m cap) m) (fun l W=>∃ q,FTo F { s with part:=q } V W/\(l 16=false->q=s.part)/\(l 16=true->q=spl s.part s.hv n p)) (by kernel_rfl) (by kernel_rfl) rfl (by kernel_rfl) (by decide) (by decide) ?_ ?_ ?_
 ·exact ⟨s.part,(FTo.refl HB.out.1).on ((Below.refl _ _).drew),fun _=>rfl,fun q=>by cases q⟩
 ·intro j hj l a W hl hf hdep hl2 hcl _ hT
  obtain ⟨_,g,h0,hf10,hh,hv,ho⟩:=HB.out
  have f1:=fsz_le s.f
  have hT':=hT
  obtain ⟨q,ft,q1,q2⟩:=hT'
  match j,hj with
  | 0,_=>exact stepV rfl rfl (execMvB rfl (hf 0 (by decide))) ⟨⟨_,rfl,rfl⟩,hT⟩
  | 1,_=>exact stepV rfl rfl (execNil rfl (hdep _ rfl 0 rfl _ rfl _ rfl)) ⟨⟨_,rfl,rfl⟩,hT⟩
  | 2,_=>exact stepV rfl rfl (execFld (k:=1) (by decide) rfl (hdep _ rfl 1 rfl _ rfl _ rfl)) ⟨⟨_,rfl,rfl⟩,hT⟩
  | 3,_=>exact stepV rfl rfl (execMvB rfl (hf 0 (by decide))) ⟨⟨_,rfl,rfl⟩,hT⟩
  | 4,_=>exact stepV rfl rfl (execNil rfl (hdep _ rfl 3 rfl _ rfl _ rfl)) ⟨⟨_,rfl,rfl⟩,hT⟩
  | 5,_=>exact stepV rfl rfl (execFld (k:=2) (by decide) rfl (hdep _ rfl 4 rfl _ rfl _ rfl)) ⟨⟨_,rfl,rfl⟩,hT⟩
  | 6,_=>exact stepV rfl rfl (execLdI rfl (hdep _ rfl 5 rfl _ rfl _ rfl) ft.at'.hv) ⟨⟨_,rfl,rfl⟩,hT⟩
  | 7,_=>exact stepV rfl rfl (execMvB rfl (hf 0 (by decide))) ⟨⟨_,rfl,rfl⟩,hT⟩
  | 8,_=>exact stepV rfl rfl (execNil rfl (hdep _ rfl 7 rfl _ rfl _ rfl)) ⟨⟨_,rfl,rfl⟩,hT⟩
  | 9,_=>exact stepV rfl rfl (execFld (k:=0) (by decide) rfl (hdep _ rfl 8 rfl _ rfl _ rfl)) ⟨⟨_,rfl,rfl⟩,hT⟩
  | 10,_=>exact stepV rfl rfl (execLdF rfl (hdep _ rfl 9 rfl _ rfl _ rfl) ft.at'.c0) ⟨⟨_,rfl,rfl⟩,hT⟩
  | 11,_=>exact stepV rfl rfl (execIdxR rfl (hdep _ rfl 10 rfl _ rfl _ rfl) hf10) ⟨⟨_,rfl,rfl⟩,hT⟩
  | 12,_=>exact stepV rfl rfl (execFldR rfl (hdep _ rfl 11 rfl _ rfl _ rfl)) ⟨⟨_,rfl,rfl⟩,hT⟩
  | 13,_=>exact stepV rfl rfl (execLdI rfl (hdep _ rfl 12 rfl _ rfl _ rfl) ((ft.rules g h0).z _ hf10)) ⟨⟨_,rfl,rfl⟩,hT⟩
  | 14,_=>exact stepV rfl rfl (execCutLH rfl (hdep _ rfl 2 rfl _ rfl _ rfl) (hdep _ rfl 6 rfl _ rfl _ rfl) (hdep _ rfl 13 rfl _ rfl _ rfl) (slicePart F s.hv (fsz s.f) hh f1 W)) ⟨⟨_,rfl,rfl⟩,hT⟩
  | 15,_=>exact stepV rfl rfl (execMvB rfl (hf 1 (by decide))) ⟨⟨_,rfl,rfl⟩,hT⟩
  | 16,_=>
   have e:=q1 hl
   subst e
   refine stepV rfl rfl (execCopyP rfl (hdep _ rfl 14 rfl _ rfl _ rfl) (hdep _ rfl 15 rfl _ rfl _ rfl) ft.at' (ho.slice hv ft.sv) (by omega)) ⟨⟨_,rfl,rfl⟩,⟨_,ft.set _,(fun q=>by cases q),fun _=>?_⟩⟩
   rw [HN.out]
  | 17,_=>exact stepV rfl rfl (execAsg rfl (hdep _ rfl 16 rfl _ rfl _ rfl)) ⟨⟨_,rfl,rfl⟩,hT⟩
  | n+18,h=>exact absurd h (by simp)
 ·intro l W hall hT
  obtain ⟨q,ft,_,q2⟩:=hT
  have e:=q2 (hall 16 (by simp))
  subst e
  have FT:Hid (FTo F { s with part:=spl s.part s.hv n p } V W):=ft
  have c1:=ft.at'.hv
  have i1:min (m:Int) ((fsz s.f - s.hv:Nat):Int)=n:=by have:=HN.out; omega
  clear hall ft q2 HB
  simp only [putP,flV,HN.out,Act.put,List.setIfInBounds_toArray,List.set_cons_succ,List.set_cons_zero]
  go_wp2_with (first
   | (refine atStore 3 (.tmp 30) (.tmp 28) rfl ?_; go_must (refine wpList_exS rfl (execStV (c':=fC { s with part:=spl s.part s.hv n p,hv:=s.hv+n }) rfl rfl rfl FT.out.at'.row (by rw [fC_size]; decide) (by kernel_rfl) rfl (fC_set (j:=0) (by decide) rfl rfl rfl)) ?_)))
  go_ret
  refine ⟨?_,?_⟩
  ·rw [HN.out,SUB.out]
   rfl
  ·unfold fillS
   rw [HN.out]
   exact FT.out.set _
end Go.Proofs.YtjckkdjldnobmaaGreatDoor.Frm
