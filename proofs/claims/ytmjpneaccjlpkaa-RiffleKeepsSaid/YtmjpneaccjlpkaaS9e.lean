import Derived.Test.YtmjpneaccjlpkaaS9a
namespace Go.Proofs.Ytmjpneaccjlpkaa.Rif
/- Draws of tapes that are alike as far as they go; a tape's order and its turn, over Nat (stage 13): names nothing of a program. -/
open Go.Proofs.Ytmjpneaccjlpkaa.Prm
open Go.Proofs.Ytmjpneaccjlpkaa.Brd
open Go.Proofs.Ytmjpneaccjlpkaa.Drw
section
variable {p q:Nat->Nat} {l:Nat} {bs:Nat->Int}
theorem dS_eq (h:∀ j,j < l->p j=q j) {x:Nat} (hx:x<=l) (b:Int):dS p l x b=dS q l x b:=scan_eq fun j hj=>h j (by omega)
theorem dE_eq (h:∀ j,j < l->p j=q j) {x:Nat} (hx:x<=l) (b:Int):dE p l x b=dE q l x b:=by
 unfold dE; rw [dS_eq h hx]
theorem dV_eq (h:∀ j,j < l->p j=q j) {x:Nat} (hx:x<=l) (b:Int):dV p l x b=dV q l x b:=by
 unfold dV
 rw [dE_eq h hx]
 by_cases c:dE q l x b=0/\b ≠ 1
 ·rw [if_pos c,if_pos c,dS_eq h hx]
  rcases (dE_ok c.1).2 with g | g
  ·exact absurd g c.2
  ·rw [h _ g]
 ·rw [if_neg c,if_neg c]
theorem dN_eq (h:∀ j,j < l->p j=q j) {x:Nat} (hx:x<=l) (b:Int):dN p l x b=dN q l x b:=by
 unfold dN; rw [dE_eq h hx,dS_eq h hx]
theorem plA_eq (h:∀ j,j < l->p j=q j):∀ i,plA p l bs i=plA q l bs i
 | 0=>rfl
 | i+1=>by
  show dN p l (plA p l bs i) (bs i)=dN q l (plA q l bs i) (bs i)
  rw [plA_eq h i,dN_eq h (plA_le _ _ _ _)]
theorem dA_eq (h:∀ j,j < l->p j=q j) (i:Nat):dA p l bs i=dA q l bs i:=by
 unfold dA; rw [plA_eq h,dV_eq h (plA_le _ _ _ _)]
theorem okA_eq (h:∀ j,j < l->p j=q j) {n:Nat} (o:okA p l bs n):okA q l bs n:=fun i hi=>by
 rw [← plA_eq h,← dE_eq h (plA_le _ _ _ _)]; exact o i hi
theorem trF_eq (h:∀ j,j < l->p j=q j) {ws us:Nat->Int}:∀ {m},(∀ i,i < m->ws i=us i)->∀ {j},j < l->trF p l bs ws m j=trF q l bs us m j
 | 0,_,j,hj=>h j hj
 | m+1,hw,j,hj=>by
  show (if bs m ≠ 1/\j=plA p l bs (m+1) - 1 then p j - dA p l bs m+(ws m).toNat else trF p l bs ws m j)=(if bs m ≠ 1/\j=plA q l bs (m+1) - 1 then q j - dA q l bs m+(us m).toNat else trF q l bs us m j)
  rw [plA_eq h,dA_eq h,h j hj,hw m (by omega),trF_eq h (m:=m) (fun i hi=>hw i (by omega)) hj]
end
theorem drA_cg {n:Nat} {f g:Nat->Nat} (h:∀ i,i < n->f i=g i):∀ {k},k<=n->drA n f k=drA n g k
 | 0,_=>rfl
 | k+1,hk=>by
  show swp (drA n f k) (n - 1 - k) (posN (drA n f k) (f (n - 1 - k)) (n - k))=swp (drA n g k) (n - 1 - k) (posN (drA n g k) (g (n - 1 - k)) (n - k))
  rw [drA_cg h (k:=k) (by omega),h _ (by omega)]
theorem drD_cg {n:Nat} {f g:Nat->Nat} (h:∀ i,i < n->f i=g i) {k:Nat} (hk:k < n):drD n f k=drD n g k:=by
 unfold drD
 rw [drA_cg h (by omega),h _ (by omega)]
section
variable {s C o W:Nat->Nat} {J n:Nat}
def cyO (s:Nat->Nat) (J n:Nat) (C o W:Nat->Nat) (k:Nat):Nat:=ovF s J C o n (poC s W k)
theorem cyO_lt (hn:sumN s J=n) (hC:IsPat s J n C) (ho:∀ k,k < n->o k < lefC s C k (C k)) (hW:IsPat s J n W) {k:Nat} (hk:k < n):cyO s J n C o W k < lefC s W k (W k):=by
 obtain ⟨i,hi,e⟩:=poC_onto hn hC (poC_lt hn hW hk)
 have ec:C i=W k:=by rw [← poC_pj hC hi,e,poC_pj hW hk]
 have e':sumN s (C i)+cntC C (C i) i=sumN s (W k)+cntC W (W k) k:=e
 have h1:=ho i hi
 show ovF s J C o n (poC s W k) < s (W k) - cntC W (W k) k
 have h2:o i < s (C i) - cntC C (C i) i:=h1
 rw [← e,ovF_at hC o hi]
 rw [ec] at e' h2
 omega
theorem cyO_own (hC:IsPat s J n C) {k:Nat} (hk:k < n):cyO s J n C o C k=o k:=ovF_at hC o hk
theorem cyO_ov (hn:sumN s J=n) (hW:IsPat s J n W) {x:Nat} (hx:x < n):ovF s J W (cyO s J n C o W) n x=ovF s J C o n x:=by
 obtain ⟨i,hi,e⟩:=poC_onto hn hW hx
 rw [← e,ovF_at hW _ hi]
 rfl
end
def lb (L:Nat):Nat:=(L - 18) / 2
def lq (L J:Nat):Nat:=(L - 18 - (L - 18) / 2) / J
def brP (p:Nat->Nat) (j:Nat):Nat:=p (18+j)
def ckP (L J:Nat) (p:Nat->Nat) (t j:Nat):Nat:=p (18+lb L+t * lq L J+j)
def bI (k:Nat) (j:Nat):Int:=(k:Int) - (j:Int)
structure OkT (L J n:Nat) (s p:Nat->Nat):Prop where
 br:okA (brP p) (lb L) (bI n) n
 ck:∀ t,t < J->okA (ckP L J p t) (lq L J) (bI (s t)) (s t - 1)
def dB (L n:Nat) (p:Nat->Nat) (i:Nat):Nat:=dA (brP p) (lb L) (bI n) i
def dK (L J:Nat) (s p:Nat->Nat) (t i:Nat):Nat:=dA (ckP L J p t) (lq L J) (bI (s t)) i
def ptT (L J n:Nat) (s p:Nat->Nat) (i:Nat):Nat:=chD s J (dB L n p) i
def ofT (L J n:Nat) (s p:Nat->Nat) (i:Nat):Nat:=ofD s J (dB L n p) i
def owT (L J:Nat) (s p:Nat->Nat) (t i:Nat):Nat:=frA (s t) (dK L J s p t) (s t - 1) i
def orT (L J n:Nat) (s p:Nat->Nat) (i:Nat):Nat:=orC s (ptT L J n s p) (owT L J s p) i
def bW (L J n:Nat) (s p w:Nat->Nat) (i:Nat):Int:=(drC s (wC s J w) (cyO s J n (ptT L J n s p) (ofT L J n s p) (wC s J w)) i:Int)
def kW (J n:Nat) (s w:Nat->Nat) (t i:Nat):Int:=(drD (s t) (wO s J n w t) i:Int)
def tuB (L J n:Nat) (s p w:Nat->Nat) (x:Nat):Nat:=trF (brP p) (lb L) (bI n) (bW L J n s p w) n x
def tuK (L J n:Nat) (s p w:Nat->Nat) (t x:Nat):Nat:=trF (ckP L J p t) (lq L J) (bI (s t)) (kW J n s w t) (s t - 1) x
def tuT (L J n:Nat) (s p w:Nat->Nat) (x:Nat):Nat:=
 if x < 18 then p x else if x < 18+lb L then tuB L J n s p w (x - 18)
 else if x < 18+lb L+J * lq L J then tuK L J n s p w ((x - 18 - lb L) / lq L J) ((x - 18 - lb L) % lq L J) else p x
section
variable {L J n:Nat} {s p w u:Nat->Nat}
theorem dA_lt' {q:Nat->Nat} {l m:Nat} {bs:Nat->Int} (h:okA q l bs m) {i:Nat} (hi:i < m):(dA q l bs i:Int) < bs i:=dV_lt (h i hi)
theorem dB_lt (h:OkT L J n s p) {i:Nat} (hi:i < n):dB L n p i < n - i:=by
 have:(dB L n p i:Int) < (n:Int) - (i:Int):=dA_lt' h.br hi
 omega
theorem dK_lt (h:OkT L J n s p) {t:Nat} (ht:t < J) {i:Nat} (hi:i < s t - 1):dK L J s p t i < s t - i:=by
 have:(dK L J s p t i:Int) < (s t:Int) - (i:Int):=dA_lt' (h.ck t ht) hi
 omega
theorem ptT_pat (hn:sumN s J=n) (h:OkT L J n s p):IsPat s J n (ptT L J n s p):=chD_pat hn fun _ hi=>dB_lt h hi
theorem ofT_lt (hn:sumN s J=n) (h:OkT L J n s p) {k:Nat} (hk:k < n):ofT L J n s p k < lefC s (ptT L J n s p) k (ptT L J n s p k):=ofD_lt hn (fun _ hi=>dB_lt h hi) hk
theorem owT_isP (h:OkT L J n s p) {t:Nat} (ht:t < J):IsP (owT L J s p t) (s t):=frA_isP (by omega) fun _ hj=>dK_lt h ht hj
theorem orT_isP (hn:sumN s J=n) (h:OkT L J n s p):IsP (orT L J n s p) n:=orC_isP hn (ptT_pat hn h) fun _ ht=>owT_isP h ht
theorem bW_ok (hn:sumN s J=n) (h:OkT L J n s p) (hw:IsP w n):wOk (bI n) (bW L J n s p w) n:=fun i hi=>by
 have g:=drC_lt (o:=cyO s J n (ptT L J n s p) (ofT L J n s p) (wC s J w)) hn (wC_pat hn hw).lt (fun _ q=>cyO_lt hn (ptT_pat hn h) (fun _ q=>ofT_lt hn h q) (wC_pat hn hw) q) hi
 constructor
 ·show (0:Int)<=((_:Nat):Int)
  omega
 ·show ((drC s (wC s J w) (cyO s J n (ptT L J n s p) (ofT L J n s p) (wC s J w)) i:Nat):Int) < (n:Int) - (i:Int)
  omega
theorem kW_ok (t:Nat):wOk (bI (s t)) (kW J n s w t) (s t - 1):=fun i hi=>by
 have g:=drD_lt (n:=s t) (f:=wO s J n w t) (k:=i) (by omega)
 constructor
 ·show (0:Int)<=((_:Nat):Int)
  omega
 ·show ((drD (s t) (wO s J n w t) i:Nat):Int) < (s t:Int) - (i:Int)
  omega
theorem tuT_br {j:Nat} (hj:j < lb L):brP (tuT L J n s p w) j=tuB L J n s p w j:=by
 show tuT L J n s p w (18+j)=_
 unfold tuT
 rw [if_neg (by omega),if_pos (by omega),Nat.add_sub_cancel_left]
theorem tuT_ck {t j:Nat} (ht:t < J) (hj:j < lq L J):ckP L J (tuT L J n s p w) t j=tuK L J n s p w t j:=by
 show tuT L J n s p w (18+lb L+t * lq L J+j)=_
 have h1:(t+1) * lq L J<=J * lq L J:=Nat.mul_le_mul_right _ ht
 rw [Nat.add_mul,Nat.one_mul] at h1
 unfold tuT
 rw [if_neg (by omega),if_neg (by omega),if_pos (by omega),show 18+lb L+t * lq L J+j - 18 - lb L=j+lq L J * t by rw [Nat.mul_comm (lq L J)]; omega,Nat.add_mul_div_left _ _ (by omega),Nat.add_mul_mod_self_left,Nat.div_eq_of_lt hj,Nat.mod_eq_of_lt hj,Nat.zero_add]
theorem tuT_dB (hn:sumN s J=n) (h:OkT L J n s p) (hw:IsP w n) {i:Nat} (hi:i < n):dB L n (tuT L J n s p w) i=drC s (wC s J w) (cyO s J n (ptT L J n s p) (ofT L J n s p) (wC s J w)) i:=by
 have e:=turn_dA h.br (bW_ok hn h hw) hi
 have e2:dB L n (tuT L J n s p w) i=dA (trF (brP p) (lb L) (bI n) (bW L J n s p w) n) (lb L) (bI n) i:=dA_eq (fun _ hj=>tuT_br hj) i
 rw [e2]
 exact Int.ofNat.inj e
theorem tuT_pt (hn:sumN s J=n) (h:OkT L J n s p) (hw:IsP w n) {i:Nat} (hi:i < n):ptT L J n s (tuT L J n s p w) i=wC s J w i:=by
 have hp:=wC_pat hn hw
 show chD s J (dB L n (tuT L J n s p w)) i=_
 rw [chD_cg (fun _ hi=>tuT_dB hn h hw hi) hi]
 exact ch_dr hn hp.lt (fun _ q=>cyO_lt hn (ptT_pat hn h) (fun _ q=>ofT_lt hn h q) hp q) hi
theorem tuT_of (hn:sumN s J=n) (h:OkT L J n s p) (hw:IsP w n) {i:Nat} (hi:i < n):ofT L J n s (tuT L J n s p w) i=cyO s J n (ptT L J n s p) (ofT L J n s p) (wC s J w) i:=by
 have hp:=wC_pat hn hw
 show ofD s J (dB L n (tuT L J n s p w)) i=_
 rw [ofD_cg (fun _ hi=>tuT_dB hn h hw hi) hi]
 exact of_dr hn hp.lt (fun _ q=>cyO_lt hn (ptT_pat hn h) (fun _ q=>ofT_lt hn h q) hp q) hi
theorem bW_tu (hn:sumN s J=n) (h:OkT L J n s p) (hu:IsP u n) (hw:IsP w n) {i:Nat} (hi:i < n):bW L J n s (tuT L J n s p u) w i=bW L J n s p w i:=by
 have e:cyO s J n (ptT L J n s (tuT L J n s p u)) (ofT L J n s (tuT L J n s p u)) (wC s J w) i=cyO s J n (ptT L J n s p) (ofT L J n s p) (wC s J w) i:=by
  show ovF s J _ _ n (poC s (wC s J w) i)=ovF s J _ _ n (poC s (wC s J w) i)
  have hx:=poC_lt hn (wC_pat hn hw) hi
  rw [ovF_cg (fun _ hi=>tuT_pt hn h hu hi) (fun _ hi=>tuT_of hn h hu hi) hx,cyO_ov hn (wC_pat hn hu) hx]
 show ((drC s (wC s J w) _ i:Nat):Int)=((drC s (wC s J w) _ i:Nat):Int)
 rw [drC_cg (n:=n) (fun _ _=>rfl) hi e]
theorem tu_tu (hn:sumN s J=n) (h:OkT L J n s p) (hu:IsP u n) (hw:IsP w n) (x:Nat):tuT L J n s (tuT L J n s p u) w x=tuT L J n s p w x:=by
 by_cases c1:x < 18
 ·unfold tuT; rw [if_pos c1,if_pos c1,if_pos c1]
 by_cases c2:x < 18+lb L
 ·have e1:x - 18 < lb L:=by omega
  have e:tuT L J n s (tuT L J n s p u) w x=tuB L J n s (tuT L J n s p u) w (x - 18):=by
   show (if x < 18 then _ else _)=_
   rw [if_neg c1,if_pos c2]
  have e':tuT L J n s p w x=tuB L J n s p w (x - 18):=by
   unfold tuT; rw [if_neg c1,if_pos c2]
  rw [e,e']
  show trF (brP (tuT L J n s p u)) (lb L) (bI n) (bW L J n s (tuT L J n s p u) w) n (x - 18)=trF (brP p) (lb L) (bI n) (bW L J n s p w) n (x - 18)
  rw [trF_eq (q:=trF (brP p) (lb L) (bI n) (bW L J n s p u) n) (us:=bW L J n s p w) (fun _ hj=>tuT_br hj) (fun _ hi=>bW_tu hn h hu hw hi) e1]
  exact turn_turn h.br (bW_ok hn h hu) _
 by_cases c3:x < 18+lb L+J * lq L J
 ·have hq:0 < lq L J:=by
   by_cases z:lq L J=0
   ·rw [z] at c3; omega
   ·omega
  have ht:(x - 18 - lb L) / lq L J < J:=Nat.div_lt_of_lt_mul (by rw [Nat.mul_comm]; omega)
  have hm:=Nat.mod_lt (x - 18 - lb L) hq
  have e:tuT L J n s (tuT L J n s p u) w x=tuK L J n s (tuT L J n s p u) w ((x - 18 - lb L) / lq L J) ((x - 18 - lb L) % lq L J):=by
   show (if x < 18 then _ else _)=_
   rw [if_neg c1,if_neg c2,if_pos c3]
  have e':tuT L J n s p w x=tuK L J n s p w ((x - 18 - lb L) / lq L J) ((x - 18 - lb L) % lq L J):=by
   unfold tuT; rw [if_neg c1,if_neg c2,if_pos c3]
  rw [e,e']
  generalize (x - 18 - lb L) / lq L J=t at ht ⊢
  generalize (x - 18 - lb L) % lq L J=y at hm ⊢
  show trF (ckP L J (tuT L J n s p u) t) (lq L J) (bI (s t)) (kW J n s w t) (s t - 1) y=trF (ckP L J p t) (lq L J) (bI (s t)) (kW J n s w t) (s t - 1) y
  rw [trF_eq (q:=trF (ckP L J p t) (lq L J) (bI (s t)) (kW J n s u t) (s t - 1)) (us:=kW J n s w t) (fun _ hj=>tuT_ck ht hj) (fun _ _=>rfl) hm]
  exact turn_turn (h.ck t ht) (kW_ok t) _
 ·unfold tuT; rw [if_neg c1,if_neg c2,if_neg c3,if_neg c1,if_neg c2,if_neg c3,if_neg c1,if_neg c2,if_neg c3]
theorem tu_own (hn:sumN s J=n) (h:OkT L J n s p) (x:Nat):tuT L J n s p (orT L J n s p) x=p x:=by
 have hp:=ptT_pat hn h
 have hP:∀ t,t < J->IsP (owT L J s p t) (s t):=fun _ ht=>owT_isP h ht
 have hC:∀ i,i < n->wC s J (orT L J n s p) i=ptT L J n s p i:=fun _ hi=>orC_pj hp hP hi
 have hB:∀ i,i < n->bW L J n s p (orT L J n s p) i=dB L n p i:=fun i hi=>by
  have e:cyO s J n (ptT L J n s p) (ofT L J n s p) (wC s J (orT L J n s p)) i=ofT L J n s p i:=by
   show ovF s J _ _ n (poC s (wC s J (orT L J n s p)) i)=_
   rw [poC_cg hC hi]
   exact cyO_own hp hi
  show ((drC s (wC s J (orT L J n s p)) _ i:Nat):Int)=(dB L n p i:Int)
  rw [drC_cg hC hi e,show drC s (ptT L J n s p) (ofT L J n s p) i=dB L n p i from dr_of hn (fun _ q=>dB_lt h q) hi]
 have hK:∀ t,t < J->∀ i,i < s t - 1->kW J n s (orT L J n s p) t i=dK L J s p t i:=fun t ht i hi=>by
  show ((drD (s t) (wO s J n (orT L J n s p) t) i:Nat):Int)=(dK L J s p t i:Int)
  have e:drD (s t) (wO s J n (orT L J n s p) t) i=drD (s t) (owT L J s p t) i:=drD_cg (fun _ hk=>wO_or hp hP ht hk) (by omega)
  rw [e]
  exact congrArg Int.ofNat (draws_from (fun _ hj=>dK_lt h ht hj) hi).2
 unfold tuT
 by_cases c1:x < 18
 ·rw [if_pos c1]
 rw [if_neg c1]
 by_cases c2:x < 18+lb L
 ·rw [if_pos c2]
  show trF (brP p) (lb L) (bI n) (bW L J n s p (orT L J n s p)) n (x - 18)=p x
  rw [turn_own h.br hB]
  show p (18+(x - 18))=p x
  rw [show 18+(x - 18)=x by omega]
 rw [if_neg c2]
 by_cases c3:x < 18+lb L+J * lq L J
 ·rw [if_pos c3]
  have hq:0 < lq L J:=by
   by_cases z:lq L J=0
   ·rw [z] at c3; omega
   ·omega
  have ht:(x - 18 - lb L) / lq L J < J:=Nat.div_lt_of_lt_mul (by rw [Nat.mul_comm]; omega)
  have hd:=Nat.div_add_mod (x - 18 - lb L) (lq L J)
  rw [Nat.mul_comm] at hd
  show trF (ckP L J p _) (lq L J) (bI (s _)) (kW J n s (orT L J n s p) _) (s _ - 1) _=p x
  rw [turn_own (h.ck _ ht) (hK _ ht)]
  show p (18+lb L+_ * lq L J+_)=p x
  rw [show 18+lb L+(x - 18 - lb L) / lq L J * lq L J+(x - 18 - lb L) % lq L J=x by omega]
 ·rw [if_neg c3]
theorem tu_back (hn:sumN s J=n) (h:OkT L J n s p) (hw:IsP w n) (x:Nat):tuT L J n s (tuT L J n s p w) (orT L J n s p) x=p x:=by
 rw [tu_tu hn h hw (orT_isP hn h),tu_own hn h]
end
end Go.Proofs.Ytmjpneaccjlpkaa.Rif

namespace Go.Proofs.Ytmjpneaccjlpkaa.Rif
/- What the packages below answer on a tape's way to its order, and what the order and the turn answer (stage 13): names nothing of a program. -/
open Go.Proofs.Ytmjpneaccjlpkaa.Prm
open Go.Proofs.Ytmjpneaccjlpkaa.Brd
open Go.Proofs.Ytmjpneaccjlpkaa.Drw
theorem szF_pre (N D:Nat):∀ k,sumN (szF N D) k=k * (N / D)+min k (N % D)
 | 0=>by rw [Nat.zero_mul,Nat.zero_min]; rfl
 | k+1=>by
  show sumN (szF N D) k+(N / D+if k < N % D then 1 else 0)=_
  rw [szF_pre N D k,Nat.add_mul,Nat.one_mul]
  by_cases h:k < N % D
  ·rw [if_pos h]; omega
  ·rw [if_neg h]; omega
theorem szF_sum (N:Nat) {D:Nat} (h:0 < D):sumN (szF N D) D=N:=by
 rw [szF_pre]
 have h1:=Nat.div_add_mod N D
 have h2:=Nat.mod_lt N h
 omega
theorem szF_le (N:Nat) {D t:Nat} (h:t < D):szF N D t<=N:=by
 have h1:=sumN_at (r:=szF N D) h
 rw [szF_sum N (by omega)] at h1
 omega
def sI (N D:Nat) (j:Nat):Int:=(szF N D j:Int)
theorem sI_g (N D:Nat):gN (sI N D)=szF N D:=rfl
theorem sI_ok {N D:Nat} (hN:N<=256) (hD:0 < D):okS (sI N D) D=true:=okS_iff.2 fun j hj=>by
 have h1:=sumN_at (r:=szF N D) hj
 rw [szF_sum N hD] at h1
 rw [sI_g]
 show 0<=((szF N D j:Nat):Int)/\((szF N D j:Nat):Int)<=_
 omega
theorem sI_szQ {N D:Nat} (hN:N<=256) (h1:1<=D) (h2:D<=64):szQ (sI N D) D=true:=szQ_iff.2 ⟨⟨h1,h2⟩,sI_ok hN h1⟩
theorem anyB_of {bs:Nat->Int}:∀ {n},(∀ i,i < n->¬ bad (bs i))->anyB bs n=false
 | 0,_=>rfl
 | n+1,h=>by
  show (anyB bs n || decide (bad (bs n)))=false
  rw [anyB_of fun i hi=>h i (by omega),decide_eq_false (h n (by omega))]
  rfl
theorem bI_any {n m:Nat} (hn:n<=256) (hm:m<=n):anyB (bI n) m=false:=anyB_of fun i hi=>by
 show ¬ ((n:Int) - (i:Int) < 1\/256 < (n:Int) - (i:Int))
 omega
theorem allE_bI {p:Nat->Nat} {l n m:Nat} (hn:n<=256) (hm:m<=n):allE p l (bI n) m=if okB p l (bI n) m then 0 else 3:=by
 unfold allE
 rw [bI_any hn hm]
 rfl
theorem trE_bI {p:Nat->Nat} {l n m:Nat} {ws:Nat->Int} (hn:n<=256) (hm:m<=n) (ho:okA p l (bI n) m) (hw:wOk (bI n) ws m):trE p l (bI n) m ws m=0:=by
 unfold trE
 rw [if_neg (by rw [bI_any hn hm,anyW_no.2 hw]; simp),if_pos (okB_iff.2 ho)]
theorem dA_fa {p:Nat->Nat} {l n:Nat} (h:okA p l (bI n) n):faQ (fun i=>(dA p l (bI n) i:Int)) n=true:=faQ_iff.2 fun i hi=>by
 have:(dA p l (bI n) i:Int) < (n:Int) - (i:Int):=dA_lt' h hi
 show 0<=((dA p l (bI n) i:Nat):Int)/\((dA p l (bI n) i:Nat):Int) < _
 omega
theorem fitQ_of {d:Nat->Int} {N:Nat}:∀ {k},(∀ i,i < k->0<=d i/\d i < (N:Int) - i)->fitQ d N k=true
 | 0,_=>rfl
 | k+1,h=>by
  show (fitQ d N k && decide (0<=d k/\d k < (N:Int) - k))=true
  rw [fitQ_of fun i hi=>h i (by omega),decide_eq_true (h k (by omega))]
  rfl
theorem dA_from {p:Nat->Nat} {l m:Nat} (h:okA p l (bI m) (m - 1)):frE (m:Int) (fun i=>(dA p l (bI m) i:Int)) (m - 1)=0:=frE_ok rfl (fitQ_of fun i hi=>by
 have:(dA p l (bI m) i:Int) < (m:Int) - (i:Int):=dA_lt' h hi
 show 0<=((dA p l (bI m) i:Nat):Int)/\((dA p l (bI m) i:Nat):Int) < _
 omega)
def okT (L J n:Nat) (s p:Nat->Nat):Bool:=okB (brP p) (lb L) (bI n) n && allB (fun t=>okB (ckP L J p t) (lq L J) (bI (s t)) (s t - 1)) J
theorem okT_iff {L J n:Nat} {s p:Nat->Nat}:okT L J n s p=true ↔ OkT L J n s p:=by
 unfold okT
 rw [Bool.and_eq_true,allB_iff,okB_iff]
 exact ⟨fun ⟨a,b⟩=>⟨a,fun t ht=>okB_iff.1 (b t ht)⟩,fun h=>⟨h.br,fun t ht=>okB_iff.2 (h.ck t ht)⟩⟩
section
variable {L J n:Nat} {p q w:Nat->Nat}
def wCI (J n:Nat) (w:Nat->Nat) (i:Nat):Int:=(wC (szF n J) J w i:Int)
def wOI (J n:Nat) (w:Nat->Nat) (t k:Nat):Int:=(wO (szF n J) J n w t k:Int)
theorem wOI_ok (h1:1<=J) (hw:IsP w n) {t:Nat} (ht:t < J):pE (wOI J n w t) (szF n J t)=0:=if_pos (ok_of (wO_isP (szF_sum n h1) hw ht))
theorem lq_le (L:Nat) {J:Nat} (hL:18<=L):18+lb L+J * lq L J<=L:=by
 have:=Nat.mul_div_le (L - 18 - (L - 18) / 2) J
 unfold lb lq
 omega
theorem ck_in (hL:18<=L) {t j:Nat} (ht:t < J) (hj:j < lq L J):18+lb L+t * lq L J+j < L:=by
 have h1:(t+1) * lq L J<=J * lq L J:=Nat.mul_le_mul_right _ ht
 rw [Nat.add_mul,Nat.one_mul] at h1
 have:=lq_le L (J:=J) hL
 omega
theorem br_in (hL:18<=L) {j:Nat} (hj:j < lb L):18+j < L:=by
 unfold lb at hj
 omega
end
section
variable {L J n:Nat} {s p q w v:Nat->Nat}
theorem br_eq (hL:18<=L) (h:∀ x,18<=x->x < L->p x=q x):∀ j,j < lb L->brP p j=brP q j:=fun j hj=>h _ (by omega) (br_in hL hj)
theorem ck_eq (hL:18<=L) (h:∀ x,18<=x->x < L->p x=q x) {t:Nat} (ht:t < J):∀ j,j < lq L J->ckP L J p t j=ckP L J q t j:=fun j hj=>h _ (by omega) (ck_in hL ht hj)
theorem OkT.eq (hL:18<=L) (h:∀ x,18<=x->x < L->p x=q x) (o:OkT L J n s p):OkT L J n s q:=⟨okA_eq (br_eq hL h) o.br,fun t ht=>okA_eq (ck_eq hL h ht) (o.ck t ht)⟩
theorem tuT_byte (hL:18<=L) (hn:sumN s J=n) (o:OkT L J n s p) (hw:IsP w n) (hp:∀ x,x < L->p x < 256) {x:Nat} (hx:x < L):tuT L J n s p w x < 256:=by
 unfold tuT
 by_cases c1:x < 18
 ·rw [if_pos c1]; exact hp x hx
 rw [if_neg c1]
 by_cases c2:x < 18+lb L
 ·rw [if_pos c2]
  exact turn_byte o.br (bW_ok hn o hw) (fun j hj=>hp _ (br_in hL hj)) (by omega)
 rw [if_neg c2]
 by_cases c3:x < 18+lb L+J * lq L J
 ·rw [if_pos c3]
  have hq:0 < lq L J:=by
   by_cases z:lq L J=0
   ·rw [z] at c3; omega
   ·omega
  have ht:(x - 18 - lb L) / lq L J < J:=Nat.div_lt_of_lt_mul (by rw [Nat.mul_comm]; omega)
  exact turn_byte (o.ck _ ht) (kW_ok _) (fun j hj=>hp _ (ck_in hL ht hj)) (Nat.mod_lt _ hq)
 ·rw [if_neg c3]; exact hp x hx
end
end Go.Proofs.Ytmjpneaccjlpkaa.Rif

namespace Go.Proofs.Ytmjpneaccjlpkaa.Rif
/- What Order and Turn answer, for any arguments; the turn is one to one (stage 13): names nothing of a program. -/
open Go.Proofs.Ytmjpneaccjlpkaa.Prm
open Go.Proofs.Ytmjpneaccjlpkaa.Brd
open Go.Proofs.Ytmjpneaccjlpkaa.Drw
abbrev inL (n ch:Int):Prop:=0<=n/\n<=256/\1<=ch/\ch<=64
def riE (L:Nat) (n ch:Int) (p:Nat->Nat):Nat:=if inL n ch then (if 18<=L/\okT L ch.toNat n.toNat (szF n.toNat ch.toNat) p=true then 0 else 3) else 2
def orF (L:Nat) (n ch:Int) (p:Nat->Nat) (i:Nat):Int:=(orT L ch.toNat n.toNat (szF n.toNat ch.toNat) p i:Int)
def tnE (L:Nat) (n ch:Int) (wf:Nat->Int) (m:Nat) (p:Nat->Nat):Nat:=if inL n ch/\(m:Int)=n then (if pE wf m=0 then riE L n ch p else 110) else 2
def tnF (L:Nat) (n ch:Int) (wf:Nat->Int) (p:Nat->Nat) (x:Nat):Nat:=tuT L ch.toNat n.toNat (szF n.toNat ch.toNat) p (gN wf) x
structure Fit (L N J:Nat) (n ch:Int) (p:Nat->Nat):Prop where
 n:n=(N:Int)
 c:ch=(J:Int)
 le:N<=256
 one:1<=J
 most:J<=64
 len:18<=L
 ok:OkT L J N (szF N J) p
theorem pE_zero {f:Nat->Int} {n:Nat}:pE f n=0 ↔ okQ f n n=true:=by
 unfold pE
 by_cases h:okQ f n n=true
 ·rw [if_pos h]; exact ⟨fun _=>h,fun _=>rfl⟩
 ·rw [if_neg h]; exact ⟨fun q=>absurd q (by decide),fun q=>absurd q h⟩
section
variable {L N J m:Nat} {n ch:Int} {p q:Nat->Nat} {wf tf:Nat->Int}
theorem ri_ok (h:riE L n ch p=0):Fit L n.toNat ch.toNat n ch p:=by
 unfold riE at h
 by_cases h1:inL n ch
 ·rw [if_pos h1] at h
  by_cases h2:18<=L/\okT L ch.toNat n.toNat (szF n.toNat ch.toNat) p=true
  ·obtain ⟨a,b,c,d⟩:=h1
   exact ⟨by omega,by omega,by omega,by omega,by omega,h2.1,okT_iff.1 h2.2⟩
  ·rw [if_neg h2] at h; exact absurd h (by decide)
 ·rw [if_neg h1] at h; exact absurd h (by decide)
theorem Fit.ri (h:Fit L N J n ch p):riE L n ch p=0:=by
 obtain ⟨rfl,rfl,h1,h2,h3,h4,h5⟩:=h
 unfold riE
 rw [if_pos ⟨by omega,by omega,by omega,by omega⟩,if_pos ⟨h4,okT_iff.2 h5⟩]
theorem Fit.sum (h:Fit L N J n ch p):sumN (szF N J) J=N:=szF_sum N h.one
theorem tn_ok (h:tnE L n ch wf m p=0):Fit L m ch.toNat n ch p/\IsP (gN wf) m/\∀ i,i < m->wf i=(gN wf i:Int):=by
 unfold tnE at h
 by_cases h1:inL n ch/\(m:Int)=n
 ·rw [if_pos h1] at h
  by_cases h2:pE wf m=0
  ·rw [if_pos h2] at h
   have f:=ri_ok h
   have e:n.toNat=m:=by omega
   rw [e] at f
   refine ⟨f,isP_of (pE_zero.1 h2),fun i hi=>?_⟩
   have:=(okQ_iff.1 (pE_zero.1 h2)).1 i hi
   show wf i=(((wf i).toNat:Nat):Int)
   omega
  ·rw [if_neg h2] at h; exact absurd h (by decide)
 ·rw [if_neg h1] at h; exact absurd h (by decide)
theorem Fit.or_pE (h:Fit L N J n ch p):pE (orF L n ch p) N=0:=by
 have e:=orT_isP h.sum h.ok
 obtain ⟨rfl,rfl,h1,h2,h3,h4,h5⟩:=h
 exact pE_zero.2 (ok_of e)
theorem Fit.or_lt (h:Fit L N J n ch p) {i:Nat} (hi:i < N):0<=orF L n ch p i/\orF L n ch p i < (N:Int):=(okQ_iff.1 (pE_zero.1 h.or_pE)).1 i hi
theorem Fit.tu_back (h:Fit L N J n ch p) (hw:IsP (gN wf) N) (x:Nat):tnF L n ch (orF L n ch p) (tnF L n ch wf p) x=p x:=by
 have e:=Rif.tu_back h.sum h.ok hw x
 obtain ⟨rfl,rfl,h1,h2,h3,h4,h5⟩:=h
 exact e
theorem Fit.tu_tu (h:Fit L N J n ch p) (ht:IsP (gN tf) N) (hw:IsP (gN wf) N) (x:Nat):tnF L n ch wf (tnF L n ch tf p) x=tnF L n ch wf p x:=by
 have e:=Rif.tu_tu h.sum h.ok ht hw x
 obtain ⟨rfl,rfl,h1,h2,h3,h4,h5⟩:=h
 exact e
theorem Fit.tu_byte (h:Fit L N J n ch p) (hw:IsP (gN wf) N) (hp:∀ x,x < L->p x < 256) {x:Nat} (hx:x < L):tnF L n ch wf p x < 256:=by
 have e:=tuT_byte h.len h.sum h.ok hw hp hx
 obtain ⟨rfl,rfl,h1,h2,h3,h4,h5⟩:=h
 exact e
theorem tn_byte (hp:∀ x,x < L->p x < 256) {x:Nat} (hx:x < zl (tnE L n ch wf m p) L):tnF L n ch wf p x < 256:=by
 by_cases h:tnE L n ch wf m p=0
 ·rw [h] at hx
  obtain ⟨f,hw,_⟩:=tn_ok h
  exact f.tu_byte hw hp hx
 ·rw [zl_no h] at hx; exact absurd hx (Nat.not_lt_zero _)
end
end Go.Proofs.Ytmjpneaccjlpkaa.Rif

namespace Go.Proofs.Ytmjpneaccjlpkaa.Rif
/- Orders of fixed tapes: the laws' fixed facts, tapes of noughts, tapes of two bytes (stage 13): names nothing of a program. -/
open Go.Proofs.Ytmjpneaccjlpkaa.Prm
open Go.Proofs.Ytmjpneaccjlpkaa.Brd
open Go.Proofs.Ytmjpneaccjlpkaa.Drw
def cntd (x:Nat):Nat:=if x < 18 then 0 else x - 17
set_option maxRecDepth 100000 in
theorem cntd_1:riE 42 3 1 cntd=0/\orF 42 3 1 cntd 0=2/\orF 42 3 1 cntd 1=0/\orF 42 3 1 cntd 2=1:=by decide
set_option maxRecDepth 100000 in
theorem cntd_2:riE 42 4 2 cntd=0/\orF 42 4 2 cntd 0=0/\orF 42 4 2 cntd 1=2/\orF 42 4 2 cntd 2=3/\orF 42 4 2 cntd 3=1:=by decide
set_option maxRecDepth 100000 in
theorem cntd_3:tnE 42 2 1 (fun j=>if j=0 then 1 else 0) 2 cntd=0:=by decide
end Go.Proofs.Ytmjpneaccjlpkaa.Rif
