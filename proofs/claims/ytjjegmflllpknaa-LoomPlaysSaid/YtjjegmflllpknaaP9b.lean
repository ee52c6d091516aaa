import Derived.ProofKit
namespace Go.Proofs.Ytjjegmflllpknaa.Prm
/- Permutations over Nat: one to one, inverses, exchanges (From, Draws), digits (Rank, Unrank). It names nothing of a program. -/
structure IsP (g:Nat->Nat) (n:Nat):Prop where
 lt:∀ i,i < n->g i < n
 inj:∀ i j,i < n->j < n->g i=g j->i=j
theorem IsP.cg {f g:Nat->Nat} {n:Nat} (h:IsP f n) (e:∀ i,i < n->f i=g i):IsP g n:=
 ⟨fun i hi=>by rw [← e i hi]; exact h.lt i hi,fun i j hi hj q=>h.inj i j hi hj (by rw [e i hi,e j hj]; exact q)⟩
def posN (g:Nat->Nat) (x:Nat):Nat->Nat
 | 0=>0
 | k+1=>if g k=x then k else posN g x k
def swp (a:Nat->Nat) (i j:Nat):Nat->Nat:=fun x=>if x=i then a j else if x=j then a i else a x
def drA (n:Nat) (f:Nat->Nat):Nat->Nat->Nat
 | 0=>id
 | k+1=>swp (drA n f k) (n - 1 - k) (posN (drA n f k) (f (n - 1 - k)) (n - k))
def drD (n:Nat) (f:Nat->Nat) (k:Nat):Nat:=posN (drA n f k) (f (n - 1 - k)) (n - k)
end Go.Proofs.Ytjjegmflllpknaa.Prm

namespace Go.Proofs.Ytjjegmflllpknaa.Prm
/- Digits of permutations over Nat (Rank, Unrank), as places in what is left and as counts; the order of permutations. It names nothing of a program. -/
def rem (a:Nat->Nat) (k:Nat):Nat->Nat:=fun j=>if j < k then a j else a (j+1)
def Inc (a:Nat->Nat) (m:Nat):Prop:=∀ i j,i < j->j < m->a i < a j
theorem Inc.inj {a:Nat->Nat} {m i j:Nat} (h:Inc a m) (hi:i < m) (hj:j < m) (e:a i=a j):i=j:=by
 rcases Nat.lt_trichotomy i j with q | q | q
 ·have:=h i j q hj; omega
 ·exact q
 ·have:=h j i q hi; omega
def cnt (a:Nat->Nat) (x:Nat):Nat->Nat
 | 0=>0
 | m+1=>cnt a x m+(if a m < x then 1 else 0)
theorem cnt_le (a:Nat->Nat) (x:Nat):∀ m,cnt a x m<=m
 | 0=>Nat.le_refl _
 | m+1=>by
  have:=cnt_le a x m
  show cnt a x m+_<=m+1
  by_cases q:a m < x
  ·rw [if_pos q]; omega
  ·rw [if_neg q]; omega
end Go.Proofs.Ytjjegmflllpknaa.Prm
