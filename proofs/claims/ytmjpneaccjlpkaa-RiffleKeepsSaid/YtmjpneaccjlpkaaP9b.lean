import Derived.ProofKit
namespace Go.Proofs.Ytmjpneaccjlpkaa.Prm
/- Permutations over Nat: one to one, inverses, exchanges (From, Draws), digits (Rank, Unrank). It names nothing of a program. -/
def inI (f:Nat->Int) (x:Int):Nat->Bool
 | 0=>false
 | k+1=>inI f x k || decide (f k=x)
theorem inI_iff {f:Nat->Int} {x:Int}:∀ {k},inI f x k=true ↔ ∃ j,j < k/\f j=x
 | 0=>⟨(fun h=>Bool.noConfusion h),(fun ⟨_,h,_⟩=>absurd h (Nat.not_lt_zero _))⟩
 | k+1=>by
  simp only [inI,Bool.or_eq_true,decide_eq_true_eq,inI_iff (k:=k)]
  constructor
  ·rintro (⟨j,h,e⟩ | e)
   ·exact ⟨j,by omega,e⟩
   ·exact ⟨k,by omega,e⟩
  ·rintro ⟨j,h,e⟩
   by_cases q:j=k
   ·subst q; exact Or.inr e
   ·exact Or.inl ⟨j,by omega,e⟩
def okQ (f:Nat->Int) (n:Nat):Nat->Bool
 | 0=>true
 | k+1=>okQ f n k && (decide (0<=f k/\f k < n) && !inI f (f k) k)
theorem okQ_iff {f:Nat->Int} {n:Nat}:∀ {k},okQ f n k=true ↔ (∀ i,i < k->0<=f i/\f i < n)/\∀ i j,i < k->j < k->f i=f j->i=j
 | 0=>⟨fun _=>⟨fun i h=>absurd h (Nat.not_lt_zero _),fun i _ h=>absurd h (Nat.not_lt_zero _)⟩,fun _=>rfl⟩
 | k+1=>by
  simp only [okQ,Bool.and_eq_true,decide_eq_true_eq,okQ_iff (k:=k),Bool.not_eq_true']
  constructor
  ·rintro ⟨⟨h1,h2⟩,h3,h4⟩
   have h5:∀ j,j < k->f j ≠ f k:=fun j hj e=>by
    have:=(inI_iff (f:=f) (x:=f k) (k:=k)).2 ⟨j,hj,e⟩
    rw [h4] at this
    cases this
   refine ⟨fun i hi=>?_,fun i j hi hj e=>?_⟩
   ·by_cases q:i=k
    ·subst q; exact h3
    ·exact h1 i (by omega)
   ·by_cases q:i=k
    ·by_cases q2:j=k
     ·omega
     ·subst q; exact absurd e.symm (h5 j (by omega))
    ·by_cases q2:j=k
     ·subst q2; exact absurd e (h5 i (by omega))
     ·exact h2 i j (by omega) (by omega) e
  ·rintro ⟨h1,h2⟩
   refine ⟨⟨fun i hi=>h1 i (by omega),fun i j hi hj e=>h2 i j (by omega) (by omega) e⟩,h1 k (by omega),?_⟩
   cases q:inI f (f k) k with
   | false=>rfl
   | true=>
    obtain ⟨j,hj,e⟩:=inI_iff.1 q
    have:=h2 j k (by omega) (by omega) e
    omega
structure IsP (g:Nat->Nat) (n:Nat):Prop where
 lt:∀ i,i < n->g i < n
 inj:∀ i j,i < n->j < n->g i=g j->i=j
theorem isP_of {f:Nat->Int} {n:Nat} (h:okQ f n n=true):IsP (fun i=>(f i).toNat) n:=by
 obtain ⟨h1,h2⟩:=okQ_iff.1 h
 refine ⟨fun i hi=>?_,fun i j hi hj e=>h2 i j hi hj ?_⟩
 ·have:=h1 i hi
  show (f i).toNat < n
  omega
 ·have a:=h1 i hi
  have b:=h1 j hj
  have e2:(f i).toNat=(f j).toNat:=e
  omega
theorem ok_of {g:Nat->Nat} {n:Nat} (h:IsP g n):okQ (fun i=>(g i:Int)) n n=true:=
 okQ_iff.2 ⟨fun i hi=>⟨by show (0:Int)<=(g i:Int); omega,by have:=h.lt i hi; show (g i:Int) < n; omega⟩,fun i j hi hj e=>h.inj i j hi hj (by have e2:(g i:Int)=g j:=e; omega)⟩
theorem IsP.cg {f g:Nat->Nat} {n:Nat} (h:IsP f n) (e:∀ i,i < n->f i=g i):IsP g n:=
 ⟨fun i hi=>by rw [← e i hi]; exact h.lt i hi,fun i j hi hj q=>h.inj i j hi hj (by rw [e i hi,e j hj]; exact q)⟩
theorem isP_id (n:Nat):IsP id n:=⟨fun _ h=>h,fun _ _ _ _ h=>h⟩
theorem surj:∀ {n:Nat} {g:Nat->Nat},IsP g n->∀ x,x < n->∃ i,i < n/\g i=x
 | 0,_,_,x,hx=>absurd hx (Nat.not_lt_zero _)
 | n+1,g,h,x,hx=>by
  have hm:=h.lt n (by omega)
  have h2:IsP (fun i=>if g i=n then g n else g i) n:=by
   refine ⟨fun i hi=>?_,fun i j hi hj e=>?_⟩
   ·show (if g i=n then g n else g i) < n
    have hl:=h.lt i (by omega)
    by_cases q:g i=n
    ·rw [if_pos q]
     have:g n ≠ n:=fun e=>by have:=h.inj i n (by omega) (by omega) (by omega); omega
     omega
    ·rw [if_neg q]; omega
   ·have e2:(if g i=n then g n else g i)=(if g j=n then g n else g j):=e
    by_cases q:g i=n
    ·by_cases q2:g j=n
     ·exact h.inj i j (by omega) (by omega) (by omega)
     ·rw [if_pos q,if_neg q2] at e2
      have:=h.inj n j (by omega) (by omega) e2
      omega
    ·by_cases q2:g j=n
     ·rw [if_neg q,if_pos q2] at e2
      have:=h.inj i n (by omega) (by omega) e2
      omega
     ·rw [if_neg q,if_neg q2] at e2
      exact h.inj i j (by omega) (by omega) e2
  by_cases qm:x=g n
  ·exact ⟨n,by omega,qm.symm⟩
  ·by_cases qn:x=n
   ·obtain ⟨i,hi,e⟩:=surj h2 (g n) (by omega)
    have e2:(if g i=n then g n else g i)=g n:=e
    by_cases q:g i=n
    ·exact ⟨i,by omega,by omega⟩
    ·rw [if_neg q] at e2
     have:=h.inj i n (by omega) (by omega) e2
     omega
   ·obtain ⟨i,hi,e⟩:=surj h2 x (by omega)
    have e2:(if g i=n then g n else g i)=x:=e
    by_cases q:g i=n
    ·rw [if_pos q] at e2; omega
    ·rw [if_neg q] at e2
     exact ⟨i,by omega,e2⟩
def posN (g:Nat->Nat) (x:Nat):Nat->Nat
 | 0=>0
 | k+1=>if g k=x then k else posN g x k
theorem posN_lt {g:Nat->Nat} {x:Nat}:∀ {k},0 < k->posN g x k < k
 | k+1,_=>by
  unfold posN
  by_cases q:g k=x
  ·rw [if_pos q]; omega
  ·rw [if_neg q]
   by_cases z:k=0
   ·subst z; exact Nat.lt_succ_self _
   ·have:=posN_lt (g:=g) (x:=x) (k:=k) (by omega)
    omega
theorem posN_at {g:Nat->Nat} {x:Nat}:∀ {k j},j < k->g j=x->g (posN g x k)=x
 | k+1,j,hj,e=>by
  unfold posN
  by_cases q:g k=x
  ·rw [if_pos q]; exact q
  ·rw [if_neg q]
   exact posN_at (k:=k) (by have:j ≠ k:=fun z=>q (z ▸ e); omega) e
theorem posN_is {g:Nat->Nat} {x k j:Nat} (hj:j < k) (e:g j=x) (hu:∀ i,i < k->g i=x->i=j):posN g x k=j:=
 hu _ (posN_lt (by omega)) (posN_at hj e)
def invN (g:Nat->Nat) (n x:Nat):Nat:=posN g x n
theorem inv_at {g:Nat->Nat} {n:Nat} (h:IsP g n) {x:Nat} (hx:x < n):invN g n x < n/\g (invN g n x)=x:=by
 obtain ⟨i,hi,e⟩:=surj h x hx
 exact ⟨posN_lt (by omega),posN_at hi e⟩
theorem inv_of {g:Nat->Nat} {n:Nat} (h:IsP g n) {i:Nat} (hi:i < n):invN g n (g i)=i:=
 posN_is hi rfl fun j hj e=>h.inj j i hj hi e
theorem isP_comp {p q:Nat->Nat} {n:Nat} (hp:IsP p n) (hq:IsP q n):IsP (fun i=>q (p i)) n:=
 ⟨fun i hi=>hq.lt _ (hp.lt i hi),fun i j hi hj e=>hp.inj i j hi hj (hq.inj _ _ (hp.lt i hi) (hp.lt j hj) e)⟩
def swp (a:Nat->Nat) (i j:Nat):Nat->Nat:=fun x=>if x=i then a j else if x=j then a i else a x
theorem swp_i (a:Nat->Nat) (i j:Nat):swp a i j i=a j:=if_pos rfl
theorem swp_j (a:Nat->Nat) (i j:Nat):swp a i j j=a i:=by
 unfold swp
 by_cases q:j=i
 ·rw [if_pos q,q]
 ·rw [if_neg q,if_pos rfl]
theorem swp_o {a:Nat->Nat} {i j x:Nat} (h1:x ≠ i) (h2:x ≠ j):swp a i j x=a x:=by
 unfold swp; rw [if_neg h1,if_neg h2]
theorem swp_is (a:Nat->Nat) (i j x:Nat):swp a i j x=a (if x=i then j else if x=j then i else x):=by
 unfold swp
 by_cases q:x=i
 ·rw [if_pos q,if_pos q]
 ·rw [if_neg q,if_neg q]
  by_cases q2:x=j
  ·rw [if_pos q2,if_pos q2]
  ·rw [if_neg q2,if_neg q2]
theorem isP_swp {a:Nat->Nat} {n i j:Nat} (h:IsP a n) (hi:i < n) (hj:j < n):IsP (swp a i j) n:=by
 have hs:IsP (fun x=>if x=i then j else if x=j then i else x) n:=by
  refine ⟨fun x hx=>?_,fun x y _ _ e=>?_⟩
  ·show (if x=i then j else if x=j then i else x) < n
   by_cases q:x=i
   ·rw [if_pos q]; exact hj
   ·rw [if_neg q]
    by_cases q2:x=j
    ·rw [if_pos q2]; exact hi
    ·rw [if_neg q2]; exact hx
  ·have e2:(if x=i then j else if x=j then i else x)=(if y=i then j else if y=j then i else y):=e
   by_cases q:x=i
   ·rw [if_pos q] at e2
    by_cases q2:y=i
    ·omega
    ·rw [if_neg q2] at e2
     by_cases q3:y=j
     ·rw [if_pos q3] at e2; omega
     ·rw [if_neg q3] at e2; omega
   ·rw [if_neg q] at e2
    by_cases q2:x=j
    ·rw [if_pos q2] at e2
     by_cases q3:y=i
     ·rw [if_pos q3] at e2; omega
     ·rw [if_neg q3] at e2
      by_cases q4:y=j
      ·omega
      ·rw [if_neg q4] at e2; omega
    ·rw [if_neg q2] at e2
     by_cases q3:y=i
     ·rw [if_pos q3] at e2; omega
     ·rw [if_neg q3] at e2
      by_cases q4:y=j
      ·rw [if_pos q4] at e2; omega
      ·rw [if_neg q4] at e2; exact e2
 exact (isP_comp hs h).cg fun x _=>(swp_is a i j x).symm
def frA (n:Nat) (d:Nat->Nat):Nat->Nat->Nat
 | 0=>id
 | k+1=>swp (frA n d k) (n - 1 - k) (d k)
def drA (n:Nat) (f:Nat->Nat):Nat->Nat->Nat
 | 0=>id
 | k+1=>swp (drA n f k) (n - 1 - k) (posN (drA n f k) (f (n - 1 - k)) (n - k))
def drD (n:Nat) (f:Nat->Nat) (k:Nat):Nat:=posN (drA n f k) (f (n - 1 - k)) (n - k)
theorem frA_isP {n:Nat} {d:Nat->Nat}:∀ {k},k<=n->(∀ j,j < k->d j < n - j)->IsP (frA n d k) n
 | 0,_,_=>isP_id n
 | k+1,hk,hd=>isP_swp (frA_isP (by omega) fun j hj=>hd j (by omega)) (by omega) (by have:=hd k (by omega); omega)
theorem drD_lt {n:Nat} {f:Nat->Nat} {k:Nat} (hk:k < n):drD n f k < n - k:=posN_lt (by omega)
theorem drA_done {n:Nat} {f:Nat->Nat} (h:IsP f n):∀ {k},k<=n->IsP (drA n f k) n/\∀ x,n - k<=x->x < n->drA n f k x=f x
 | 0,_=>⟨isP_id n,fun x h1 h2=>by omega⟩
 | k+1,hk=>by
  obtain ⟨h1,h2⟩:=drA_done h (k:=k) (by omega)
  have hl:posN (drA n f k) (f (n - 1 - k)) (n - k) < n - k:=posN_lt (by omega)
  have hat:drA n f k (posN (drA n f k) (f (n - 1 - k)) (n - k))=f (n - 1 - k):=by
   obtain ⟨j,hj,e⟩:=surj h1 (f (n - 1 - k)) (h.lt _ (by omega))
   have:j < n - k:=by
    rcases Nat.lt_or_ge j (n - k) with q | q
    ·exact q
    ·rw [h2 j q hj] at e
     have:=h.inj j (n - 1 - k) hj (by omega) e
     omega
   exact posN_at this e
  refine ⟨isP_swp h1 (by omega) (by omega),fun x hx1 hx2=>?_⟩
  unfold drA
  by_cases q:x=n - 1 - k
  ·subst q
   rw [swp_i,hat]
  ·rw [swp_o q (by omega)]
   exact h2 x (by omega) hx2
theorem frA_stays {n:Nat} {d:Nat->Nat} {k:Nat}:∀ {m},k < m->m < n->(∀ j,j < m->d j < n - j)->frA n d m (n - 1 - k)=frA n d k (d k)
 | m+1,hk,hm,hd=>by
  show swp (frA n d m) (n - 1 - m) (d m) (n - 1 - k)=frA n d k (d k)
  by_cases q:k=m
  ·subst q; exact swp_i _ _ _
  ·have hdm:=hd m (by omega)
   rw [swp_o (by omega) (by omega)]
   exact frA_stays (m:=m) (by omega) (by omega) fun j hj=>hd j (by omega)
theorem draws_from {n:Nat} {d:Nat->Nat} (hd:∀ j,j < n - 1->d j < n - j):∀ {k},k < n - 1->drA n (frA n d (n - 1)) k=frA n d k/\drD n (frA n d (n - 1)) k=d k
 | 0,hk=>by
  refine ⟨rfl,?_⟩
  have e:=frA_stays (k:=0) (m:=n - 1) hk (by omega) hd
  exact posN_is (hd 0 hk) e.symm fun i _ q=>by rw [e] at q; exact q
 | k+1,hk=>by
  obtain ⟨h1,h2⟩:=draws_from hd (k:=k) (by omega)
  have e1:drA n (frA n d (n - 1)) (k+1)=frA n d (k+1):=by
   unfold drA
   show swp (drA n (frA n d (n - 1)) k) (n - 1 - k) (drD n (frA n d (n - 1)) k)=swp (frA n d k) (n - 1 - k) (d k)
   rw [h1,h2]
  refine ⟨e1,?_⟩
  have e:=frA_stays (k:=k+1) (m:=n - 1) hk (by omega) hd
  have hP:=frA_isP (n:=n) (d:=d) (k:=k+1) (by omega) fun j hj=>hd j (by omega)
  unfold drD
  rw [e1]
  exact posN_is (hd (k+1) hk) e.symm fun i hi q=>hP.inj i (d (k+1)) (by omega) (by have:=hd (k+1) hk; omega) (by rw [q,e])
end Go.Proofs.Ytmjpneaccjlpkaa.Prm

namespace Go.Proofs.Ytmjpneaccjlpkaa.Prm
/- Digits of permutations over Nat (Rank, Unrank), as places in what is left and as counts; the order of permutations. It names nothing of a program. -/
def rem (a:Nat->Nat) (k:Nat):Nat->Nat:=fun j=>if j < k then a j else a (j+1)
def Inc (a:Nat->Nat) (m:Nat):Prop:=∀ i j,i < j->j < m->a i < a j
theorem Inc.inj {a:Nat->Nat} {m i j:Nat} (h:Inc a m) (hi:i < m) (hj:j < m) (e:a i=a j):i=j:=by
 rcases Nat.lt_trichotomy i j with q | q | q
 ·have:=h i j q hj; omega
 ·exact q
 ·have:=h j i q hi; omega
def cnt (a:Nat->Nat) (x:Nat):Nat->Nat
 | 0=>0
 | m+1=>cnt a x m+(if a m < x then 1 else 0)
theorem cnt_le (a:Nat->Nat) (x:Nat):∀ m,cnt a x m<=m
 | 0=>Nat.le_refl _
 | m+1=>by
  have:=cnt_le a x m
  show cnt a x m+_<=m+1
  by_cases q:a m < x
  ·rw [if_pos q]; omega
  ·rw [if_neg q]; omega
theorem cnt_all {a:Nat->Nat} {x:Nat}:∀ {m},(∀ j,j < m->a j < x)->cnt a x m=m
 | 0,_=>rfl
 | m+1,h=>by
  show cnt a x m+_=m+1
  rw [cnt_all (m:=m) (fun j hj=>h j (by omega)),if_pos (h m (by omega))]
end Go.Proofs.Ytmjpneaccjlpkaa.Prm
