import Derived.Test.YtmjpneaccjlpkaaP9b
namespace Go.Proofs.Ytmjpneaccjlpkaa.Brd
/- Patterns and draws over Nat (stage 12): names nothing of a program. -/
def sumN (r:Nat->Nat):Nat->Nat
 | 0=>0
 | j+1=>sumN r j+r j
theorem sumN_mono {r:Nat->Nat} {i:Nat}:∀ {j},i<=j->sumN r i<=sumN r j
 | 0,h=>by rw [show i=0 by omega]; exact Nat.le_refl _
 | j+1,h=>by
  by_cases e:i=j+1
  ·rw [e]; exact Nat.le_refl _
  ·have:=sumN_mono (r:=r) (i:=i) (j:=j) (by omega)
   show sumN r i<=sumN r j+r j
   omega
theorem sumN_cg {r q:Nat->Nat}:∀ {J},(∀ j,j < J->r j=q j)->sumN r J=sumN q J
 | 0,_=>rfl
 | J+1,h=>by
  show sumN r J+r J=sumN q J+q J
  rw [sumN_cg (J:=J) fun j hj=>h j (by omega),h J (by omega)]
theorem sumN_at {r:Nat->Nat} {j J:Nat} (h:j < J):sumN r j+r j<=sumN r J:=sumN_mono (r:=r) (i:=j+1) h
theorem sumN_le {r q:Nat->Nat}:∀ {J},(∀ j,j < J->r j<=q j)->sumN r J<=sumN q J
 | 0,_=>Nat.le_refl _
 | J+1,h=>by
  show sumN r J+r J<=sumN q J+q J
  have:=sumN_le (J:=J) fun j hj=>h j (by omega)
  have:=h J (by omega)
  omega
theorem sumN_zero {r:Nat->Nat} {J:Nat} (h:sumN r J=0) {j:Nat} (hj:j < J):r j=0:=by
 have:=sumN_at (r:=r) hj
 omega
def dec1 (r:Nat->Nat) (c:Nat):Nat->Nat:=fun j=>if j=c then r j - 1 else r j
theorem dec1_at {r:Nat->Nat} {c:Nat}:dec1 r c c=r c - 1:=if_pos rfl
theorem dec1_o {r:Nat->Nat} {c j:Nat} (h:j ≠ c):dec1 r c j=r j:=if_neg h
theorem sumN_dec_lo {r:Nat->Nat} {c J:Nat} (h:J<=c):sumN (dec1 r c) J=sumN r J:=sumN_cg fun j hj=>dec1_o (by omega)
theorem sumN_dec {r:Nat->Nat} {c:Nat} (h:0 < r c):∀ {J},c < J->sumN (dec1 r c) J+1=sumN r J
 | 0,hc=>by omega
 | J+1,hc=>by
  show sumN (dec1 r c) J+dec1 r c J+1=sumN r J+r J
  by_cases e:c=J
  ·subst e
   rw [sumN_dec_lo (Nat.le_refl _),dec1_at]
   omega
  ·have:=sumN_dec h (J:=J) (by omega)
   rw [dec1_o (fun q=>e q.symm)]
   omega
def pj (r:Nat->Nat) (d:Nat):Nat->Nat
 | 0=>0
 | J+1=>if d < sumN r J then pj r d J else J
theorem pj_lt {r:Nat->Nat} {d:Nat}:∀ {J},d < sumN r J->pj r d J < J/\sumN r (pj r d J)<=d/\d < sumN r (pj r d J)+r (pj r d J)
 | 0,h=>absurd h (Nat.not_lt_zero _)
 | J+1,h=>by
  unfold pj
  by_cases q:d < sumN r J
  ·rw [if_pos q]
   obtain ⟨a,b,c⟩:=pj_lt q
   exact ⟨by omega,b,c⟩
  ·rw [if_neg q]
   exact ⟨by omega,by omega,h⟩
theorem pj_is {r:Nat->Nat} {d j J:Nat} (hj:j < J) (h1:sumN r j<=d) (h2:d < sumN r j+r j):pj r d J=j:=by
 have h3:=sumN_at (r:=r) hj
 obtain ⟨a,b,c⟩:=pj_lt (r:=r) (d:=d) (J:=J) (by omega)
 rcases Nat.lt_trichotomy (pj r d J) j with q | q | q
 ·have:=sumN_at (r:=r) q
  omega
 ·exact q
 ·have:=sumN_at (r:=r) q
  omega
def cntC (C:Nat->Nat) (j:Nat):Nat->Nat
 | 0=>0
 | k+1=>cntC C j k+(if C k=j then 1 else 0)
theorem cntC_cg {C D:Nat->Nat} {j:Nat}:∀ {k},(∀ i,i < k->C i=D i)->cntC C j k=cntC D j k
 | 0,_=>rfl
 | k+1,h=>by
  show cntC C j k+_=cntC D j k+_
  rw [cntC_cg (k:=k) fun i hi=>h i (by omega),h k (by omega)]
theorem cntC_mono {C:Nat->Nat} {j i:Nat}:∀ {k},i<=k->cntC C j i<=cntC C j k
 | 0,h=>by rw [show i=0 by omega]; exact Nat.le_refl _
 | k+1,h=>by
  by_cases e:i=k+1
  ·rw [e]; exact Nat.le_refl _
  ·have:=cntC_mono (C:=C) (j:=j) (i:=i) (k:=k) (by omega)
   show cntC C j i<=cntC C j k+_
   omega
theorem cntC_at {C:Nat->Nat} {j i k:Nat} (h:i < k) (e:C i=j):cntC C j i < cntC C j k:=by
 have h1:=cntC_mono (C:=C) (j:=j) (i:=i+1) (k:=k) h
 have h2:cntC C j (i+1)=cntC C j i+1:=by
  show cntC C j i+_=_
  rw [if_pos e]
 omega
theorem cntC_inj {C:Nat->Nat} {i k:Nat} (e:C i=C k) (h:cntC C (C i) i=cntC C (C k) k):i=k:=by
 rcases Nat.lt_trichotomy i k with q | q | q
 ·have:=cntC_at (C:=C) q rfl
  rw [e] at this
  rw [e] at h
  omega
 ·exact q
 ·have:=cntC_at (C:=C) q rfl
  rw [← e] at this
  rw [← e] at h
  omega
def lefC (s C:Nat->Nat) (k:Nat):Nat->Nat:=fun j=>s j - cntC C j k
theorem lefC_succ (s C:Nat->Nat) (k:Nat):lefC s C (k+1)=dec1 (lefC s C k) (C k):=by
 funext j
 show s j - (cntC C j k+if C k=j then 1 else 0)=if j=C k then s j - cntC C j k - 1 else s j - cntC C j k
 by_cases e:j=C k
 ·rw [if_pos e.symm,if_pos e]; omega
 ·rw [if_neg (fun q=>e q.symm),if_neg e]; omega
theorem lefC_cg {s C D:Nat->Nat} {k:Nat} (h:∀ i,i < k->C i=D i):lefC s C k=lefC s D k:=by
 funext j
 show s j - cntC C j k=s j - cntC D j k
 rw [cntC_cg h]
def lfD (s:Nat->Nat) (J:Nat) (D:Nat->Nat):Nat->Nat->Nat
 | 0=>s
 | k+1=>dec1 (lfD s J D k) (pj (lfD s J D k) (D k) J)
def chD (s:Nat->Nat) (J:Nat) (D:Nat->Nat) (k:Nat):Nat:=pj (lfD s J D k) (D k) J
def ofD (s:Nat->Nat) (J:Nat) (D:Nat->Nat) (k:Nat):Nat:=D k - sumN (lfD s J D k) (chD s J D k)
theorem lfD_is (s:Nat->Nat) (J:Nat) (D:Nat->Nat):∀ k,lfD s J D k=lefC s (chD s J D) k
 | 0=>by funext j; exact (Nat.sub_zero _).symm
 | k+1=>by
  rw [lefC_succ,← lfD_is s J D k]
  rfl
theorem lfD_sum {s:Nat->Nat} {J:Nat} {D:Nat->Nat} {n:Nat} (hn:sumN s J=n):∀ {k},k<=n->(∀ i,i < k->D i < n - i)->sumN (lfD s J D k) J=n - k
 | 0,_,_=>by rw [show lfD s J D 0=s from rfl,hn]; omega
 | k+1,hk,hD=>by
  have ih:=lfD_sum hn (k:=k) (by omega) fun i hi=>hD i (by omega)
  have hd:=hD k (by omega)
  obtain ⟨a,b,c⟩:=pj_lt (r:=lfD s J D k) (d:=D k) (J:=J) (by omega)
  have h1:=sumN_dec (r:=lfD s J D k) (c:=pj (lfD s J D k) (D k) J) (by omega) a
  show sumN (dec1 (lfD s J D k) (pj (lfD s J D k) (D k) J)) J=n - (k+1)
  omega
structure IsPat (s:Nat->Nat) (J n:Nat) (C:Nat->Nat):Prop where
 lt:∀ k,k < n->C k < J
 cnt:∀ j,j < J->cntC C j n=s j
theorem IsPat.cg {s C D:Nat->Nat} {J n:Nat} (h:IsPat s J n C) (e:∀ k,k < n->C k=D k):IsPat s J n D:=⟨fun k hk=>by rw [← e k hk]; exact h.lt k hk,fun j hj=>by rw [← cntC_cg e]; exact h.cnt j hj⟩
section
variable {s D:Nat->Nat} {J n:Nat}
theorem chD_tells (hn:sumN s J=n) (hD:∀ i,i < n->D i < n - i) {k:Nat} (hk:k < n):chD s J D k < J/\sumN (lfD s J D k) (chD s J D k)<=D k/\D k < sumN (lfD s J D k) (chD s J D k)+lfD s J D k (chD s J D k):=by
 have h1:=lfD_sum hn (k:=k) (by omega) fun i hi=>hD i (by omega)
 have h2:=hD k hk
 exact pj_lt (by omega)
theorem ofD_lt (hn:sumN s J=n) (hD:∀ i,i < n->D i < n - i) {k:Nat} (hk:k < n):ofD s J D k < lefC s (chD s J D) k (chD s J D k):=by
 obtain ⟨_,b,c⟩:=chD_tells hn hD hk
 rw [← lfD_is]
 unfold ofD
 omega
theorem cnt_le_of (hn:sumN s J=n) (hD:∀ i,i < n->D i < n - i):∀ {k},k<=n->∀ j,j < J->cntC (chD s J D) j k<=s j
 | 0,_,j,_=>Nat.zero_le _
 | k+1,hk,j,hj=>by
  have ih:=cnt_le_of hn hD (k:=k) (by omega) j hj
  show cntC (chD s J D) j k+_<=s j
  by_cases e:chD s J D k=j
  ·rw [if_pos e]
   have h1:=ofD_lt hn hD (k:=k) (by omega)
   rw [e] at h1
   have h2:lefC s (chD s J D) k j=s j - cntC (chD s J D) j k:=rfl
   omega
  ·rw [if_neg e]
   omega
theorem chD_pat (hn:sumN s J=n) (hD:∀ i,i < n->D i < n - i):IsPat s J n (chD s J D):=by
 refine ⟨fun k hk=>(chD_tells hn hD hk).1,fun j hj=>?_⟩
 have h1:=lfD_sum hn (k:=n) (Nat.le_refl _) hD
 rw [lfD_is,Nat.sub_self] at h1
 have h2:s j - cntC (chD s J D) j n=0:=sumN_zero h1 hj
 have h3:=cnt_le_of hn hD (Nat.le_refl n) j hj
 omega
end
def drC (s C o:Nat->Nat) (k:Nat):Nat:=o k+sumN (lefC s C k) (C k)
section
variable {s C o:Nat->Nat} {J n:Nat}
theorem lefC_sum (hn:sumN s J=n) (hlt:∀ k,k < n->C k < J) (ho:∀ k,k < n->o k < lefC s C k (C k)):∀ {k},k<=n->sumN (lefC s C k) J=n - k
 | 0,_=>by rw [show sumN (lefC s C 0) J=sumN s J from sumN_cg fun j _=>Nat.sub_zero _,hn]; omega
 | k+1,hk=>by
  have ih:=lefC_sum hn hlt ho (k:=k) (by omega)
  have h0:=ho k (by omega)
  have h1:=sumN_dec (r:=lefC s C k) (c:=C k) (by omega) (hlt k (by omega))
  rw [lefC_succ]
  omega
theorem drC_lt (hn:sumN s J=n) (hlt:∀ k,k < n->C k < J) (ho:∀ k,k < n->o k < lefC s C k (C k)) {k:Nat} (hk:k < n):drC s C o k < n - k:=by
 have h1:=lefC_sum hn hlt ho (k:=k) (by omega)
 have h2:=sumN_at (r:=lefC s C k) (hlt k hk)
 have h3:=ho k hk
 unfold drC
 omega
theorem ch_dr (hn:sumN s J=n) (hlt:∀ k,k < n->C k < J) (ho:∀ k,k < n->o k < lefC s C k (C k)):∀ {k},k < n->chD s J (drC s C o) k=C k
 | k,hk=>by
  have ih:∀ i,i < k->chD s J (drC s C o) i=C i:=fun i hi=>ch_dr hn hlt ho (k:=i) (by omega)
  show pj (lfD s J (drC s C o) k) (drC s C o k) J=C k
  rw [lfD_is,lefC_cg ih]
  refine pj_is (hlt k hk) ?_ ?_
  ·unfold drC; omega
  ·have:=ho k hk
   unfold drC
   omega
theorem of_dr (hn:sumN s J=n) (hlt:∀ k,k < n->C k < J) (ho:∀ k,k < n->o k < lefC s C k (C k)) {k:Nat} (hk:k < n):ofD s J (drC s C o) k=o k:=by
 unfold ofD
 rw [ch_dr hn hlt ho hk,lfD_is,lefC_cg (fun i hi=>ch_dr hn hlt ho (k:=i) (by omega))]
 unfold drC
 omega
end
theorem dr_of {s D:Nat->Nat} {J n:Nat} (hn:sumN s J=n) (hD:∀ i,i < n->D i < n - i) {k:Nat} (hk:k < n):drC s (chD s J D) (ofD s J D) k=D k:=by
 obtain ⟨_,b,_⟩:=chD_tells hn hD hk
 unfold drC ofD
 rw [← lfD_is]
 omega
def poC (s C:Nat->Nat) (k:Nat):Nat:=sumN s (C k)+cntC C (C k) k
def plC (C:Nat->Nat) (j v:Nat):Nat->Nat
 | 0=>0
 | k+1=>if C k=j/\cntC C j k=v then k else plC C j v k
theorem plC_is {C:Nat->Nat} {k:Nat}:∀ {n},k < n->plC C (C k) (cntC C (C k) k) n=k
 | 0,h=>by omega
 | n+1,h=>by
  unfold plC
  by_cases q:C n=C k/\cntC C (C k) n=cntC C (C k) k
  ·rw [if_pos q]
   exact cntC_inj q.1 (by rw [q.1]; exact q.2)
  ·rw [if_neg q]
   exact plC_is (by
    by_cases e:k=n
    ·subst e
     exact absurd ⟨rfl,rfl⟩ q
    ·omega)
theorem plC_has {C:Nat->Nat} {j v:Nat}:∀ {n},v < cntC C j n->plC C j v n < n/\C (plC C j v n)=j/\cntC C j (plC C j v n)=v
 | 0,h=>absurd h (Nat.not_lt_zero _)
 | n+1,h=>by
  have h':v < cntC C j n+(if C n=j then 1 else 0):=h
  unfold plC
  by_cases q:C n=j/\cntC C j n=v
  ·rw [if_pos q]
   exact ⟨by omega,q.1,q.2⟩
  ·rw [if_neg q]
   have h2:v < cntC C j n:=by
    by_cases e:C n=j
    ·rw [if_pos e] at h'
     have:¬ cntC C j n=v:=fun z=>q ⟨e,z⟩
     omega
    ·rw [if_neg e] at h'
     omega
   obtain ⟨a,b,c⟩:=plC_has h2
   exact ⟨by omega,b,c⟩
def ovF (s:Nat->Nat) (J:Nat) (C o:Nat->Nat) (n x:Nat):Nat:=o (plC C (pj s x J) (x - sumN s (pj s x J)) n)
section
variable {s C:Nat->Nat} {J n:Nat}
theorem IsPat.vis (h:IsPat s J n C) {k:Nat} (hk:k < n):cntC C (C k) k < s (C k):=by
 have h1:=cntC_at (C:=C) hk rfl
 rw [h.cnt _ (h.lt k hk)] at h1
 exact h1
theorem poC_lt (hn:sumN s J=n) (h:IsPat s J n C) {k:Nat} (hk:k < n):poC s C k < n:=by
 have h1:=h.vis hk
 have h2:=sumN_at (r:=s) (h.lt k hk)
 unfold poC
 omega
theorem poC_pj (h:IsPat s J n C) {k:Nat} (hk:k < n):pj s (poC s C k) J=C k:=by
 have h1:=h.vis hk
 exact pj_is (h.lt k hk) (by unfold poC; omega) (by unfold poC; omega)
theorem poC_inj (h:IsPat s J n C) {i k:Nat} (hi:i < n) (hk:k < n) (e:poC s C i=poC s C k):i=k:=by
 have e1:C i=C k:=by rw [← poC_pj h hi,← poC_pj h hk,e]
 refine cntC_inj e1 ?_
 unfold poC at e
 rw [e1] at e ⊢
 omega
theorem ovF_at (h:IsPat s J n C) (o:Nat->Nat) {k:Nat} (hk:k < n):ovF s J C o n (poC s C k)=o k:=by
 unfold ovF
 rw [poC_pj h hk,show poC s C k - sumN s (C k)=cntC C (C k) k by unfold poC; omega,plC_is hk]
theorem poC_onto (hn:sumN s J=n) (h:IsPat s J n C) {x:Nat} (hx:x < n):∃ k,k < n/\poC s C k=x:=by
 obtain ⟨a,b,c⟩:=pj_lt (r:=s) (d:=x) (J:=J) (by omega)
 obtain ⟨p1,p2,p3⟩:=plC_has (C:=C) (j:=pj s x J) (v:=x - sumN s (pj s x J)) (n:=n) (by rw [h.cnt _ a]; omega)
 refine ⟨_,p1,?_⟩
 unfold poC
 rw [p2,p3]
 omega
end
end Go.Proofs.Ytmjpneaccjlpkaa.Brd
