import Derived.WalkKit
namespace Go.Proofs.Ytjjegmflllpknaa.Loo
/- Stage 19 (loom): plans and their runs, over lists and functions. Names nothing of a program. -/
def upf {α:Type} (f:Nat->α) (k:Nat) (z:α) (j:Nat):α:=if j=k then z else f j
theorem upf_at {α:Type} (f:Nat->α) (k:Nat) (z:α):upf f k z k=z:=if_pos rfl
theorem upf_ne {α:Type} (f:Nat->α) {k j:Nat} (z:α) (h:j ≠ k):upf f k z j=f j:=if_neg h
structure Op3 where
 k:Int
 a:Int
 b:Int
structure Pl where
 d:Nat
 n:Nat
 cap:Nat->Int
 ln:Nat->Nat
 op:Nat->Nat->Op3
def inB (x lo hi:Int):Bool:=decide (lo<=x/\x<=hi)
def rgt (o:Op3) (ops d n:Nat):Bool:=
 if o.k=1\/o.k=3 then inB o.a 0 ((d:Int) - 1)
 else if o.k=2 then inB o.a 0 ((d:Int) - 1) && inB o.b 0 ops
 else if o.k=8 then inB o.a 0 ((d:Int) - 1) && inB o.b 0 ((d:Int) - 1)
 else if o.k=4\/o.k=5 then inB o.a (-1024) 1024
 else if o.k=6 then inB o.a 0 ops
 else if o.k=7 then inB o.a 0 ops && inB o.b (-1024) 1024
 else if o.k=9 then inB o.a 0 ((n:Int) - 1)
 else decide (o.k=10)
def lnB (p:Pl):Bool:=(List.range p.n).any fun t=>decide (256 < p.ln t)
def cpB (p:Pl):Bool:=(List.range p.d).any fun i=>!inB (p.cap i) 0 1024
def opB (p:Pl):Bool:=(List.range p.n).any fun t=>(List.range (p.ln t)).any fun j=>!rgt (p.op t j) (p.ln t) p.d p.n
def chk (p:Pl):Nat:=if 128 < p.n\/64 < p.d then 1 else if lnB p=true then 1 else if cpB p=true then 190 else if opB p=true then 190 else 0
structure Rm where
 pl:Nat->Nat
 rg:Nat->Int
 en:Nat->Bool
 tk:Nat->List Int
 hd:Nat->List Int
 cl:Nat->Bool
 lt:Nat
def r0:Rm:=⟨fun _=>0,fun _=>0,fun _=>false,fun _=>[],fun _=>[],fun _=>false,0⟩
section
variable (p:Pl) (r:Rm)
def gone (t:Nat):Bool:=r.en t || decide (p.ln t<=r.pl t)
def at_ (t:Nat):Op3:=if gone p r t=true then ⟨0,0,0⟩ else p.op t (r.pl t)
def isG (d:Nat) (t:Nat):Bool:=decide ((at_ p r t).k=1/\(at_ p r t).a=d)
def isT (d:Nat) (t:Nat):Bool:=decide (((at_ p r t).k=2\/(at_ p r t).k=8)/\(at_ p r t).a=d\/(at_ p r t).k=8/\(at_ p r t).b=d)
def giv (d:Nat):Option Nat:=(List.range p.n).find? (isG p r d)
def tak (d:Nat):Option Nat:=(List.range p.n).find? (isT p r d)
def mts (d:Nat) (o:Option Nat):Bool:=decide (p.cap d=0) && !r.cl d && o.isSome
def rdy (d:Nat):Bool:=decide (0 < (r.hd d).length) || mts p r d (giv p r d)
def spt (d:Nat):Bool:=r.cl d && decide ((r.hd d).length=0)
def may (t:Nat):Bool:=
 let o:=at_ p r t
 if o.k=0 then false
 else if o.k=1 then r.cl o.a.toNat || decide (((r.hd o.a.toNat).length:Int) < p.cap o.a.toNat) || mts p r o.a.toNat (tak p r o.a.toNat)
 else if o.k=2 then rdy p r o.a.toNat || r.cl o.a.toNat
 else if o.k=8 then rdy p r o.a.toNat || rdy p r o.b.toNat || spt r o.a.toNat && spt r o.b.toNat
 else if o.k=9 then gone p r o.a.toNat
 else true
def on_ (t:Nat):Rm:={ r with pl:=upf r.pl t (r.pl t+1) }
def got (t:Nat) (x:Int):Rm:={ r with rg:=upf r.rg t x,tk:=upf r.tk t (r.tk t ++ [x]),pl:=upf r.pl t (r.pl t+1) }
def frm (t d:Nat):Rm:=match r.hd d with
 | x :: l=>got { r with hd:=upf r.hd d l } t x
 | []=>got (on_ r ((giv p r d).getD 0)) t (r.rg ((giv p r d).getD 0))
def pt_ (t d:Nat):Rm:=
 if r.cl d=true then { on_ r t with lt:=r.lt+1 }
 else if ((r.hd d).length:Int) < p.cap d then { on_ r t with hd:=upf r.hd d (r.hd d ++ [r.rg t]) }
 else got (on_ r t) ((tak p r d).getD 0) (r.rg t)
def stp (t:Nat):Rm:=
 let o:=at_ p r t
 if o.k=1 then pt_ p r t o.a.toNat
 else if o.k=2 then if rdy p r o.a.toNat=true then frm p r t o.a.toNat else { r with pl:=upf r.pl t o.b.toNat }
 else if o.k=8 then
  if rdy p r o.a.toNat=true then frm p r t o.a.toNat
  else if rdy p r o.b.toNat=true then frm p r t o.b.toNat
  else if 0<=r.rg t/\r.rg t<=p.ln t then { r with pl:=upf r.pl t (r.rg t).toNat }
  else { r with en:=upf r.en t true }
 else if o.k=6 then { r with pl:=upf r.pl t o.a.toNat }
 else if o.k=7 then if r.rg t ≠ o.b then { r with pl:=upf r.pl t o.a.toNat } else on_ r t
 else if o.k=3 then { on_ r t with cl:=upf r.cl o.a.toNat true,lt:=if r.cl o.a.toNat=true then r.lt+1 else r.lt }
 else if o.k=4 then { on_ r t with rg:=upf r.rg t o.a }
 else if o.k=5 then { on_ r t with rg:=upf r.rg t (r.rg t+o.a) }
 else if o.k=10 then { on_ r t with en:=upf r.en t true }
 else on_ r t
def mayL:List Nat:=(List.range p.n).filter (may p r)
def live:Bool:=(List.range p.n).any fun t=>decide ((at_ p r t).k ≠ 0)
def lyg:Nat:=((List.range p.d).map fun i=>(r.hd i).length).sum
end
def chn (s:Int) (m:Nat):Nat:=(s % (m:Int)).toNat
def rk (p:Pl) (s:Nat->Int):Nat->Rm
 | 0=>r0
 | k+1=>stp p (rk p s k) ((mayL p (rk p s k)).getD (chn (s k) (mayL p (rk p s k)).length) 0)
def pk (p:Pl) (s:Nat->Int) (k:Nat):Nat:=(mayL p (rk p s k)).getD (chn (s k) (mayL p (rk p s k)).length) 0
def mx (p:Pl) (s:Nat->Int):Nat->Nat
 | 0=>0
 | k+1=>max (mx p s k) (lyg p (rk p s (k+1)))
structure Run (p:Pl) (s:Nat->Int) (N:Nat):Prop where
 le:N<=65536
 go:∀ j,j < N->mayL p (rk p s j) ≠ []
 stop:mayL p (rk p s N)=[]\/N=65536
theorem Run.uniq {p:Pl} {s:Nat->Int} {N M:Nat} (h:Run p s N) (g:Run p s M):N=M:=by
 rcases Nat.lt_trichotomy N M with q | q | q
 ·rcases h.stop with z | z
  ·exact absurd z (g.go N q)
  ·have:=g.le; omega
 ·exact q
 ·rcases g.stop with z | z
  ·exact absurd z (h.go M q)
  ·have:=h.le; omega
theorem run_ex (p:Pl) (s:Nat->Int):∃ N,Run p s N:=by
 have key:∀ k,k<=65536->(∃ N,Run p s N)\/∀ j,j < k->mayL p (rk p s j) ≠ []:=by
  intro k
  induction k with
  | zero=>exact fun _=>Or.inr fun j hj=>absurd hj (Nat.not_lt_zero j)
  | succ k ih=>
   intro hk
   rcases ih (by omega) with h | h
   ·exact Or.inl h
   ·by_cases e:mayL p (rk p s k)=[]
    ·exact Or.inl ⟨k,by omega,h,Or.inl e⟩
    ·refine Or.inr fun j hj=>?_
     by_cases q:j=k
     ·rw [q]; exact e
     ·exact h j (by omega)
 rcases key 65536 (Nat.le_refl _) with h | h
 ·exact h
 ·exact ⟨65536,Nat.le_refl _,h,Or.inr rfl⟩
section
variable {p:Pl} {s u:Nat->Int} {r:Rm} {N k m t:Nat}
theorem chn_lt {x:Int} (h:0 < m):chn x m < m:=by
 have h1:=Int.emod_nonneg x (show (m:Int) ≠ 0 by omega)
 have h2:=Int.emod_lt_of_pos x (show (0:Int) < m by omega)
 unfold chn
 omega
theorem chn_zero (m:Nat):chn 0 m=0:=by unfold chn; simp
theorem len_pos {l:List Nat} (h:l ≠ []):0 < l.length:=List.length_pos_iff.2 h
theorem pk_mem (h:mayL p (rk p s k) ≠ []):pk p s k ∈ mayL p (rk p s k):=by
 unfold pk
 have h1:=chn_lt (x:=s k) (len_pos h)
 rw [List.getD_eq_getElem?_getD,List.getElem?_eq_getElem h1]
 exact List.getElem_mem h1
theorem pk_is (h:mayL p (rk p s k) ≠ []):pk p s k < p.n/\may p (rk p s k) (pk p s k)=true:=by
 have h1:=List.mem_filter.1 (pk_mem h)
 exact ⟨List.mem_range.1 h1.1,h1.2⟩
theorem rk_succ:rk p s (k+1)=stp p (rk p s k) (pk p s k):=rfl
theorem rk_cg (e:∀ j,j < k->s j=u j):rk p s k=rk p u k:=by
 induction k with
 | zero=>rfl
 | succ k ih=>
  have h1:=ih fun j hj=>e j (by omega)
  rw [rk_succ,rk_succ]
  unfold pk
  rw [h1,e k (by omega)]
theorem Run.cg (e:∀ j,j < N->s j=u j) (h:Run p s N):Run p u N:=by
 refine ⟨h.le,fun j hj=>?_,?_⟩
 ·rw [← rk_cg fun i hi=>e i (by omega)]; exact h.go j hj
 ·rw [← rk_cg e]; exact h.stop
theorem mayL_nil:mayL p r=[] ↔ ∀ t,t < p.n->may p r t=false:=by
 unfold mayL
 rw [List.filter_eq_nil_iff]
 exact ⟨fun h t ht=>by simpa using h t (List.mem_range.2 ht),fun h t ht=>by simp [h t (List.mem_range.1 ht)]⟩
end
end Go.Proofs.Ytjjegmflllpknaa.Loo

namespace Go.Proofs.Ytjjegmflllpknaa.Loo
/- One task that puts, one that takes: whatever the script (LoomOne). Names nothing of a program. -/
def oneP (m:Nat) (v:Nat->Int) (c:Nat):Pl where
 d:=1
 n:=2
 cap:=fun _=>c
 ln:=fun t=>if t=0 then 2 * m+1 else 2
 op:=fun t j=>if t=0 then (if j=2 * m then ⟨3,0,0⟩ else if j % 2=0 then ⟨4,v (j / 2),0⟩ else ⟨1,0,0⟩) else if j=0 then ⟨2,0,2⟩ else ⟨6,0,0⟩
structure OneJ (m:Nat) (v:Nat->Int) (c q T w:Nat) (r:Rm):Prop where
 p0:r.pl 0=q
 p1:r.pl 1=w
 en:r.en 0=false/\r.en 1=false
 q1:q<=2 * m+1
 w1:w<=2
 T1:T<=q / 2
 rg:q % 2=1->q < 2 * m->r.rg 0=v (q / 2)
 hd:r.hd 0=(List.range' T (q / 2 - T)).map v
 tk:r.tk 1=(List.range T).map v
 t0:r.tk 0=[]
 cl:r.cl 0=decide (q=2 * m+1)
 lt:r.lt=0
 hc:q / 2 - T<=c
 w2:w=2->q=2 * m+1/\T=m
def oneG (w:Nat):Nat:=if w=0 then 1 else if w=1 then 2 else 0
section
variable {m c q T w:Nat} {v:Nat->Int} {r:Rm}
theorem OneJ.gone0 (h:OneJ m v c q T w r):gone (oneP m v c) r 0=decide (q=2 * m+1):=by
 have:=h.q1
 unfold gone
 rw [h.en.1,h.p0]
 show (false || decide (2 * m+1<=q))=_
 rw [Bool.false_or]
 exact decide_eq_decide.2 (by omega)
theorem OneJ.gone1 (h:OneJ m v c q T w r):gone (oneP m v c) r 1=decide (w=2):=by
 have:=h.w1
 unfold gone
 rw [h.en.2,h.p1]
 show (false || decide (2<=w))=_
 rw [Bool.false_or]
 exact decide_eq_decide.2 (by omega)
theorem OneJ.at0 (h:OneJ m v c q T w r):at_ (oneP m v c) r 0=if q=2 * m+1 then ⟨0,0,0⟩ else if q=2 * m then ⟨3,0,0⟩ else if q % 2=0 then ⟨4,v (q / 2),0⟩ else ⟨1,0,0⟩:=by
 unfold at_
 rw [h.gone0,h.p0]
 by_cases e:q=2 * m+1
 ·rw [if_pos e,if_pos (decide_eq_true e)]
 ·rw [if_neg e,if_neg (by simpa using e)]
  rfl
theorem OneJ.at1 (h:OneJ m v c q T w r):at_ (oneP m v c) r 1=if w=2 then ⟨0,0,0⟩ else if w=0 then ⟨2,0,2⟩ else ⟨6,0,0⟩:=by
 unfold at_
 rw [h.gone1,h.p1]
 by_cases e:w=2
 ·rw [if_pos e,if_pos (decide_eq_true e)]
 ·rw [if_neg e,if_neg (by simpa using e)]
  rfl
theorem OneJ.tak (h:OneJ m v c q T w r):tak (oneP m v c) r 0=if w=0 then some 1 else none:=by
 unfold Loo.tak
 show List.find? _ [0,1]=_
 have h0:isT (oneP m v c) r 0 0=false:=by
  unfold isT
  rw [h.at0]
  split
  ·rfl
  ·split
   ·rfl
   ·split <;> rfl
 have h1:isT (oneP m v c) r 0 1=decide (w=0):=by
  unfold isT
  rw [h.at1]
  by_cases e:w=2
  ·subst e; rfl
  ·rw [if_neg e]
   by_cases e2:w=0
   ·subst e2; rfl
   ·rw [if_neg e2]; simp [e2]
 rw [List.find?_cons,h0,List.find?_cons,h1]
 by_cases e:w=0
 ·simp [e]
 ·simp [e]
theorem OneJ.giv (h:OneJ m v c q T w r):giv (oneP m v c) r 0=if q % 2=1/\q < 2 * m then some 0 else none:=by
 have hq:=h.q1
 unfold Loo.giv
 show List.find? _ [0,1]=_
 have h0:isG (oneP m v c) r 0 0=decide (q % 2=1/\q < 2 * m):=by
  unfold isG
  rw [h.at0]
  by_cases e:q=2 * m+1
  ·rw [if_pos e]; symm; simp; omega
  ·rw [if_neg e]
   by_cases e2:q=2 * m
   ·rw [if_pos e2]; symm; simp; omega
   ·rw [if_neg e2]
    by_cases e3:q % 2=0
    ·rw [if_pos e3]; symm; simp; omega
    ·rw [if_neg e3]; symm; simp; omega
 have h1:isG (oneP m v c) r 0 1=false:=by
  unfold isG
  rw [h.at1]
  split
  ·rfl
  ·split <;> rfl
 rw [List.find?_cons,h0,List.find?_cons,h1]
 by_cases e:q % 2=1/\q < 2 * m
 ·simp [e]
 ·rw [if_neg e,decide_eq_false e]; rfl
theorem OneJ.lenH (h:OneJ m v c q T w r):(r.hd 0).length=q / 2 - T:=by rw [h.hd]; simp
theorem OneJ.rdy (h:OneJ m v c q T w r):rdy (oneP m v c) r 0=true ↔ T < q / 2\/(c=0/\q % 2=1/\q < 2 * m):=by
 unfold Loo.rdy mts
 rw [h.lenH,h.giv,h.cl]
 show (decide (0 < q / 2 - T) || decide ((c:Int)=0) && !decide (q=2 * m+1) && _)=true ↔ _
 simp only [Bool.or_eq_true,Bool.and_eq_true,decide_eq_true_eq,Bool.not_eq_true',decide_eq_false_iff_not]
 constructor
 ·rintro (a | ⟨⟨a,b⟩,d⟩)
  ·left; omega
  ·right
   by_cases e:q % 2=1/\q < 2 * m
   ·exact ⟨by omega,e⟩
   ·rw [if_neg e] at d; cases d
 ·rintro (a | ⟨a,b⟩)
  ·left; omega
  ·right; exact ⟨⟨by omega,by omega⟩,by rw [if_pos b]; rfl⟩
theorem map_next {T n:Nat} {v:Nat->Int}:(List.range' T n).map v ++ [v (T+n)]=(List.range' T (n+1)).map v:=by
 rw [List.range'_concat,List.map_append,Nat.one_mul]; rfl
theorem map_head {T n:Nat} {v:Nat->Int} (h:0 < n):(List.range' T n).map v=v T :: (List.range' (T+1) (n - 1)).map v:=by
 obtain ⟨n,rfl⟩:∃ k,n=k+1:=⟨n - 1,by omega⟩
 rfl
theorem map_range {T:Nat} {v:Nat->Int}:(List.range T).map v ++ [v T]=(List.range (T+1)).map v:=by
 rw [List.range_succ,List.map_append]; rfl
theorem OneJ.step (h:OneJ m v c q T w r) (t:Nat) (ht:t < 2) (hm:may (oneP m v c) r t=true):∃ q' T' w',OneJ m v c q' T' w' (stp (oneP m v c) r t)/\(2 * m+1 - q')+2 * (m - T')+oneG w' < (2 * m+1 - q)+2 * (m - T)+oneG w:=by
 have hq:=h.q1
 have hw:=h.w1
 have hT:=h.T1
 have hc:=h.hc
 have hl:=h.lenH
 rcases (show t=0\/t=1 by omega) with rfl | rfl
 · -- the putter
  have ha:=h.at0
  by_cases e:q=2 * m+1
  ·rw [if_pos e] at ha
   unfold may at hm
   rw [ha] at hm
   cases hm
  rw [if_neg e] at ha
  by_cases e2:q=2 * m
  · -- it closes
   rw [if_pos e2] at ha
   have hs:stp (oneP m v c) r 0={ on_ r 0 with cl:=upf r.cl 0 true,lt:=if r.cl 0=true then r.lt+1 else r.lt }:=by
    unfold stp
    rw [ha]
    rfl
   have hcf:r.cl 0=false:=by rw [h.cl]; exact decide_eq_false (by omega)
   refine ⟨2 * m+1,T,w,?_,by omega⟩
   rw [hs]
   refine ⟨by show upf r.pl 0 (r.pl 0+1) 0=_; rw [upf_at,h.p0]; omega,by show upf r.pl 0 (r.pl 0+1) 1=_; rw [upf_ne _ _ (by omega)]; exact h.p1,h.en,by omega,hw,by omega,fun _=>by omega,?_,h.tk,h.t0,?_,?_,by omega,fun e3=>absurd (h.w2 e3).1 e⟩
   ·show r.hd 0=_
    rw [h.hd,show q / 2 - T=(2 * m+1) / 2 - T by omega]
   ·show upf r.cl 0 true 0=_
    rw [upf_at]; simp
   ·show (if r.cl 0=true then r.lt+1 else r.lt)=0
    rw [hcf]; exact h.lt
  ·rw [if_neg e2] at ha
   by_cases e3:q % 2=0
   · -- it sets
    rw [if_pos e3] at ha
    have hs:stp (oneP m v c) r 0={ on_ r 0 with rg:=upf r.rg 0 (v (q / 2)) }:=by
     unfold stp
     rw [ha]
     rfl
    refine ⟨q+1,T,w,?_,by omega⟩
    rw [hs]
    refine ⟨by show upf r.pl 0 (r.pl 0+1) 0=_; rw [upf_at,h.p0],by show upf r.pl 0 (r.pl 0+1) 1=_; rw [upf_ne _ _ (by omega)]; exact h.p1,h.en,by omega,hw,by omega,fun _ _=>?_,?_,h.tk,h.t0,?_,h.lt,by omega,fun e3=>absurd (h.w2 e3).1 e⟩
    ·show upf r.rg 0 (v (q / 2)) 0=_
     rw [upf_at,show (q+1) / 2=q / 2 by omega]
    ·show r.hd 0=_
     rw [h.hd,show (q+1) / 2=q / 2 by omega]
    ·show r.cl 0=_
     rw [h.cl]; exact decide_eq_decide.2 (by omega)
   · -- it puts
    rw [if_neg e3] at ha
    have hcf:r.cl 0=false:=by rw [h.cl]; exact decide_eq_false (by omega)
    have hr:=h.rg (by omega) (by omega)
    by_cases e4:q / 2 - T < c
    ·have hs:stp (oneP m v c) r 0={ on_ r 0 with hd:=upf r.hd 0 (r.hd 0 ++ [r.rg 0]) }:=by
      unfold stp
      rw [ha]
      show pt_ (oneP m v c) r 0 0=_
      unfold pt_
      rw [hcf,if_neg (by simp),hl]
      exact if_pos (by show ((q / 2 - T:Nat):Int) < (c:Int); omega)
     refine ⟨q+1,T,w,?_,by omega⟩
     rw [hs]
     refine ⟨by show upf r.pl 0 (r.pl 0+1) 0=_; rw [upf_at,h.p0],by show upf r.pl 0 (r.pl 0+1) 1=_; rw [upf_ne _ _ (by omega)]; exact h.p1,h.en,by omega,hw,by omega,fun _=>by omega,?_,h.tk,h.t0,?_,h.lt,by omega,fun e3=>absurd (h.w2 e3).1 e⟩
     ·show upf r.hd 0 (r.hd 0 ++ [r.rg 0]) 0=_
      rw [upf_at,h.hd,hr,show (q+1) / 2 - T=q / 2 - T+1 by omega,← map_next,show T+(q / 2 - T)=q / 2 by omega]
     ·show r.cl 0=_
      rw [h.cl]; exact decide_eq_decide.2 (by omega)
    · -- a meeting
     have hmay:w=0/\c=0:=by
      unfold may at hm
      rw [ha] at hm
      have hm':(r.cl 0 || decide (((r.hd 0).length:Int) < (c:Int)) || mts (oneP m v c) r 0 (Loo.tak (oneP m v c) r 0))=true:=hm
      rw [hcf,hl,decide_eq_false (by omega),h.tak] at hm'
      unfold mts at hm'
      by_cases e5:w=0
      ·refine ⟨e5,?_⟩
       simp only [Bool.false_or,Bool.and_eq_true,decide_eq_true_eq] at hm'
       have:=hm'.1.1
       have:(c:Int)=0:=this
       omega
      ·rw [if_neg e5] at hm'
       simp at hm'
     obtain ⟨rfl,rfl⟩:=hmay
     have hTq:T=q / 2:=by omega
     have hs:stp (oneP m v 0) r 0=got (on_ r 0) 1 (r.rg 0):=by
      unfold stp
      rw [ha]
      show pt_ (oneP m v 0) r 0 0=_
      unfold pt_
      rw [hcf,if_neg (by simp),hl,if_neg (by show ¬ ((q / 2 - T:Nat):Int) < ((0:Nat):Int); omega),h.tak]
      rfl
     refine ⟨q+1,T+1,1,?_,by unfold oneG; simp; omega⟩
     rw [hs]
     refine ⟨?_,?_,h.en,by omega,by omega,by omega,fun _=>by omega,?_,?_,?_,?_,h.lt,by omega,fun e3=>by omega⟩
     ·show upf (upf r.pl 0 (r.pl 0+1)) 1 (upf r.pl 0 (r.pl 0+1) 1+1) 0=_
      rw [upf_ne _ _ (by omega),upf_at,h.p0]
     ·show upf (upf r.pl 0 (r.pl 0+1)) 1 (upf r.pl 0 (r.pl 0+1) 1+1) 1=_
      rw [upf_at,upf_ne _ _ (by omega),h.p1]
     ·show r.hd 0=_
      rw [h.hd,hTq,show (q+1) / 2 - (q / 2+1)=0 by omega,Nat.sub_self]
      rfl
     ·show upf r.tk 1 (r.tk 1 ++ [r.rg 0]) 1=_
      rw [upf_at,h.tk,hr,← hTq,map_range]
     ·show upf r.tk 1 (r.tk 1 ++ [r.rg 0]) 0=_
      rw [upf_ne _ _ (by omega)]; exact h.t0
     ·show r.cl 0=_
      rw [h.cl]; exact decide_eq_decide.2 (by omega)
 · -- the taker
  have ha:=h.at1
  by_cases e:w=2
  ·rw [if_pos e] at ha
   unfold may at hm
   rw [ha] at hm
   cases hm
  rw [if_neg e] at ha
  by_cases e2:w=0
  ·rw [if_pos e2] at ha
   have hmay:Loo.rdy (oneP m v c) r 0=true\/r.cl 0=true:=by
    unfold may at hm
    rw [ha] at hm
    have hm':(Loo.rdy (oneP m v c) r 0 || r.cl 0)=true:=hm
    simpa using hm'
   by_cases e3:Loo.rdy (oneP m v c) r 0=true
   ·have hs:stp (oneP m v c) r 1=frm (oneP m v c) r 1 0:=by
     unfold stp
     rw [ha]
     show (if Loo.rdy (oneP m v c) r 0=true then frm (oneP m v c) r 1 0 else _)=_
     exact if_pos e3
    rcases (h.rdy).1 e3 with e4 | ⟨e4,e5,e6⟩
    · -- out of the duct
     have hh:=h.hd
     rw [map_head (by omega)] at hh
     have hf:frm (oneP m v c) r 1 0=got { r with hd:=upf r.hd 0 ((List.range' (T+1) (q / 2 - T - 1)).map v) } 1 (v T):=by
      unfold frm
      rw [hh]
     refine ⟨q,T+1,1,?_,by subst e2; unfold oneG; simp; omega⟩
     rw [hs,hf]
     refine ⟨?_,?_,h.en,hq,by omega,by omega,h.rg,?_,?_,?_,h.cl,h.lt,by omega,fun e3=>by omega⟩
     ·show upf r.pl 1 (r.pl 1+1) 0=_
      rw [upf_ne _ _ (by omega)]; exact h.p0
     ·show upf r.pl 1 (r.pl 1+1) 1=_
      rw [upf_at,h.p1,e2]
     ·show upf r.hd 0 ((List.range' (T+1) (q / 2 - T - 1)).map v) 0=_
      rw [upf_at,show q / 2 - T - 1=q / 2 - (T+1) by omega]
     ·show upf r.tk 1 (r.tk 1 ++ [v T]) 1=_
      rw [upf_at,h.tk,map_range]
     ·show upf r.tk 1 (r.tk 1 ++ [v T]) 0=_
      rw [upf_ne _ _ (by omega)]; exact h.t0
    · -- a meeting
     by_cases e7:T < q / 2
     ·omega
     have hTq:T=q / 2:=by omega
     have hr:=h.rg e5 e6
     have hh:r.hd 0=[]:=by rw [h.hd,hTq,Nat.sub_self]; rfl
     have hf:frm (oneP m v c) r 1 0=got (on_ r 0) 1 (r.rg 0):=by
      unfold frm
      rw [hh,h.giv,if_pos ⟨e5,e6⟩]
      rfl
     refine ⟨q+1,T+1,1,?_,by subst e2; unfold oneG; simp; omega⟩
     rw [hs,hf]
     refine ⟨?_,?_,h.en,by omega,by omega,by omega,fun _=>by omega,?_,?_,?_,?_,h.lt,by omega,fun e3=>by omega⟩
     ·show upf (upf r.pl 0 (r.pl 0+1)) 1 (upf r.pl 0 (r.pl 0+1) 1+1) 0=_
      rw [upf_ne _ _ (by omega),upf_at,h.p0]
     ·show upf (upf r.pl 0 (r.pl 0+1)) 1 (upf r.pl 0 (r.pl 0+1) 1+1) 1=_
      rw [upf_at,upf_ne _ _ (by omega),h.p1,e2]
     ·show r.hd 0=_
      rw [hh,show (q+1) / 2 - (T+1)=0 by omega]
      rfl
     ·show upf r.tk 1 (r.tk 1 ++ [r.rg 0]) 1=_
      rw [upf_at,h.tk,hr,← hTq,map_range]
     ·show upf r.tk 1 (r.tk 1 ++ [r.rg 0]) 0=_
      rw [upf_ne _ _ (by omega)]; exact h.t0
     ·show r.cl 0=_
      rw [h.cl]; exact decide_eq_decide.2 (by omega)
   · -- closed and empty
    have hcl:q=2 * m+1:=by
     have:=hmay.resolve_left e3
     rw [h.cl] at this
     exact of_decide_eq_true this
    have hTm:¬ T < q / 2:=fun z=>e3 ((h.rdy).2 (Or.inl z))
    have hs:stp (oneP m v c) r 1={ r with pl:=upf r.pl 1 2 }:=by
     unfold stp
     rw [ha]
     show (if Loo.rdy (oneP m v c) r 0=true then _ else ({ r with pl:=upf r.pl 1 2 }:Rm))=_
     exact if_neg e3
    refine ⟨q,T,2,?_,by subst e2; unfold oneG; simp⟩
    rw [hs]
    refine ⟨?_,?_,h.en,hq,by omega,hT,h.rg,h.hd,h.tk,h.t0,h.cl,h.lt,hc,fun _=>⟨hcl,by omega⟩⟩
    ·show upf r.pl 1 2 0=_
     rw [upf_ne _ _ (by omega)]; exact h.p0
    ·show upf r.pl 1 2 1=_
     rw [upf_at]
  ·rw [if_neg e2] at ha
   have hs:stp (oneP m v c) r 1={ r with pl:=upf r.pl 1 0 }:=by
    unfold stp
    rw [ha]
    rfl
   refine ⟨q,T,0,?_,by
    have:w=1:=by omega
    subst this; unfold oneG; simp⟩
   rw [hs]
   refine ⟨?_,?_,h.en,hq,by omega,hT,h.rg,h.hd,h.tk,h.t0,h.cl,h.lt,hc,fun e3=>by omega⟩
   ·show upf r.pl 1 0 0=_
    rw [upf_ne _ _ (by omega)]; exact h.p0
   ·show upf r.pl 1 0 1=_
    rw [upf_at]
theorem OneJ.none (h:OneJ m v c q T w r) (hn:mayL (oneP m v c) r=[]):q=2 * m+1/\w=2:=by
 have hq:=h.q1
 have hw:=h.w1
 have hT:=h.T1
 have hc:=h.hc
 have h0:=mayL_nil.1 hn 0 (show 0 < 2 by omega)
 have h1:=mayL_nil.1 hn 1 (show 1 < 2 by omega)
 unfold may at h0 h1
 rw [h.at0] at h0
 rw [h.at1] at h1
 have hw2:w=2\/(w=0/\Loo.rdy (oneP m v c) r 0=false/\r.cl 0=false):=by
  by_cases e:w=2
  ·exact Or.inl e
  ·rw [if_neg e] at h1
   by_cases e2:w=0
   ·rw [if_pos e2] at h1
    have h1':(Loo.rdy (oneP m v c) r 0 || r.cl 0)=false:=h1
    simp only [Bool.or_eq_false_iff] at h1'
    exact Or.inr ⟨e2,h1'⟩
   ·rw [if_neg e2] at h1
    cases h1
 by_cases e:q=2 * m+1
 ·refine ⟨e,?_⟩
  rcases hw2 with z | ⟨_,_,z⟩
  ·exact z
  ·rw [h.cl,decide_eq_true e] at z
   cases z
 ·exfalso
  rw [if_neg e] at h0
  by_cases e2:q=2 * m
  ·rw [if_pos e2] at h0; cases h0
  ·rw [if_neg e2] at h0
   by_cases e3:q % 2=0
   ·rw [if_pos e3] at h0; cases h0
   ·rw [if_neg e3] at h0
    have h0':(r.cl 0 || decide (((r.hd 0).length:Int) < (c:Int)) || mts (oneP m v c) r 0 (Loo.tak (oneP m v c) r 0))=false:=h0
    simp only [Bool.or_eq_false_iff,decide_eq_false_iff_not,h.lenH] at h0'
    rcases hw2 with z | ⟨z,z2,_⟩
    ·exact e (h.w2 z).1
    ·have z3:¬ (T < q / 2\/(c=0/\q % 2=1/\q < 2 * m)):=fun y=>by rw [(h.rdy).2 y] at z2; cases z2
     omega
theorem OneJ.begin (m:Nat) (v:Nat->Int) (c:Nat):OneJ m v c 0 0 0 r0:=
 ⟨rfl,rfl,⟨rfl,rfl⟩,by omega,by omega,by omega,fun h=>by omega,rfl,rfl,rfl,by show false=_; simp,rfl,by omega,fun h=>by omega⟩
end
end Go.Proofs.Ytjjegmflllpknaa.Loo

namespace Go.Proofs.Ytjjegmflllpknaa.Loo
/- A pipe of many hands, its steps over numbers and lists (LoomPipes). Names nothing of a program. -/
def sm:Nat->(Nat->Nat)->Nat
 | 0,_=>0
 | n+1,f=>sm n f+f n
def fP (x:Nat):Nat:=if x=0 then 1 else if x=1 then 3 else if x=2 then 2 else 0
def ind (b:Bool):Nat:=if b=true then 1 else 0
structure Ab where
 q:Nat
 T:Nat
 w:Nat
 P:Nat->Nat
 G:Nat->Int
 Z:Nat->List Int
 Q:Nat->Nat
 Y:Nat->List Int
 h0:List Int
 h1:List Int
def Ab.M (I C K:Nat) (s:Ab):Nat:=(2 * I+1 - s.q)+3 * (I - s.T)+sm C (fun c=>fP (s.P c))+(C+1 - s.w)+2 * (I - sm K fun k=>(s.Y k).length)+sm K (fun k=>oneG (s.Q k))
def itm (a n:Nat):List Int:=(List.range' a n).map Int.ofNat
def box (x:Int) (T:Nat):Nat:=ind (decide (1<=x/\x<=T))
structure PJ (I C K:Nat) (s:Ab):Prop where
 q1:s.q<=2 * I+1
 w1:s.w<=C+1
 T1:s.T<=s.q / 2
 h0:s.h0=itm (s.T+1) (s.q / 2 - s.T)
 P1:∀ c,c < C->s.P c<=3
 P3:∀ c,c < C->s.P c=3->s.q=2 * I+1/\s.T=I
 Pw:∀ c,c < C->c < s.w->s.P c=3
 Q1:∀ k,k < K->s.Q k<=2
 Q2:∀ k,k < K->s.Q k=2->s.w=C+1/\s.h1=[]
 Zs:sm C (fun c=>(s.Z c).length)=s.T
 Zx:∀ x:Int,sm C (fun c=>(s.Z c).count x)=box x s.T
 Zr:∀ c,c < C->(s.Z c).Pairwise (· < ·)/\∀ x ∈ s.Z c,x<=s.T
 Ys:sm K (fun k=>(s.Y k).length)+s.h1.length+sm C (fun c=>ind (decide (s.P c=1)))=s.T
 Yx:∀ x:Int,sm K (fun k=>(s.Y k).count x)+s.h1.count x+sm C (fun c=>ind (decide (s.P c=1/\s.G c=x)))=box x s.T
section
variable {I C K:Nat} {s:Ab}
theorem PJ.feed (h:PJ I C K s) (hq:s.q<=2 * I) (hp:¬ (s.q % 2=1)):PJ I C K { s with q:=s.q+1 }/\Ab.M I C K { s with q:=s.q+1 } < Ab.M I C K s:=by
 have hT:=h.T1
 refine ⟨⟨by show s.q+1<=_; omega,h.w1,by show s.T<=(s.q+1) / 2; omega,?_,h.P1,fun c hc e=>?_,h.Pw,h.Q1,h.Q2,h.Zs,h.Zx,h.Zr,h.Ys,h.Yx⟩,?_⟩
 ·show s.h0=itm (s.T+1) ((s.q+1) / 2 - s.T)
  rw [h.h0,show (s.q+1) / 2=s.q / 2 by omega]
 ·have:=(h.P3 c hc e).1
  omega
 ·simp only [Ab.M]
  omega
theorem PJ.wait (h:PJ I C K s) (hw:s.w<=C) (hP:∀ c,c < C->c=s.w->s.P c=3):PJ I C K { s with w:=s.w+1 }/\Ab.M I C K { s with w:=s.w+1 } < Ab.M I C K s:=by
 refine ⟨⟨h.q1,by show s.w+1<=_; omega,h.T1,h.h0,h.P1,h.P3,fun c hc e=>?_,h.Q1,fun k hk e=>?_,h.Zs,h.Zx,h.Zr,h.Ys,h.Yx⟩,?_⟩
 ·have e':c < s.w+1:=e
  by_cases z:c=s.w
  ·exact hP c hc z
  ·exact h.Pw c hc (by omega)
 ·have:=(h.Q2 k hk e).1
  omega
 ·simp only [Ab.M]
  omega
end
end Go.Proofs.Ytjjegmflllpknaa.Loo

namespace Go.Proofs.Ytjjegmflllpknaa.Loo
/- A pipe of many hands: the room is the pipe's state (LoomPipes). Names nothing of a program. -/
def pipP (I C K c0 c1:Nat):Pl where
 d:=2
 n:=C+2+K
 cap:=fun i=>if i=0 then c0 else c1
 ln:=fun t=>if t=0 then 2 * I+1 else if t < C+1 then 3 else if t=C+1 then C+1 else 2
 op:=fun t j=>
  if t=0 then (if j=2 * I then ⟨3,0,0⟩ else if j % 2=0 then ⟨5,1,0⟩ else ⟨1,0,0⟩)
  else if t < C+1 then (if j=0 then ⟨2,0,3⟩ else if j=1 then ⟨1,1,0⟩ else ⟨6,0,0⟩)
  else if t=C+1 then (if j=C then ⟨3,1,0⟩ else ⟨9,((1+j:Nat):Int),0⟩)
  else if j=0 then ⟨2,1,2⟩ else ⟨6,0,0⟩
structure Rel (I C K:Nat) (r:Rm) (s:Ab):Prop where
 p0:r.pl 0=s.q
 g0:s.q<=2 * I->r.rg 0=(((s.q+1) / 2:Nat):Int)
 pc:∀ c,c < C->r.pl (1+c)=s.P c
 gc:∀ c,c < C->r.rg (1+c)=s.G c
 zc:∀ c,c < C->r.tk (1+c)=s.Z c
 pw:r.pl (C+1)=s.w
 pk:∀ k,k < K->r.pl (C+2+k)=s.Q k
 yk:∀ k,k < K->r.tk (C+2+k)=s.Y k
 h0:r.hd 0=s.h0
 h1:r.hd 1=s.h1
 c0:r.cl 0=decide (s.q=2 * I+1)
 c1:r.cl 1=decide (s.w=C+1)
 lt:r.lt=0
 en:∀ t,r.en t=false
 t0:r.tk 0=[]
 tw:r.tk (C+1)=[]
section
variable {α:Type} {f g:Nat->α} {v:α} {c k C K a:Nat}
theorem upf_self:upf f k (f k)=f:=funext fun j=>by
 unfold upf
 split
 ·rename_i h; rw [h]
 ·rfl
end
section
variable {I C K c0 c1:Nat} {r:Rm} {s:Ab}
theorem Rel.feed (h:Rel I C K r s) {z:Int} {b:Bool} (hz:s.q+1<=2 * I->z=(((s.q+1+1) / 2:Nat):Int)) (hb:b=decide (s.q+1=2 * I+1)):Rel I C K { r with pl:=upf r.pl 0 (r.pl 0+1),rg:=upf r.rg 0 z,cl:=upf r.cl 0 b } { s with q:=s.q+1 }:=
 ⟨(by show upf r.pl 0 (r.pl 0+1) 0=s.q+1; rw [upf_at,h.p0]),(fun q=>by show upf r.rg 0 z 0=_; rw [upf_at]; exact hz q),(fun i hi=>by show upf r.pl 0 (r.pl 0+1) _=_; rw [upf_ne _ _ (by omega)]; exact h.pc i hi),(fun i hi=>by show upf r.rg 0 z _=_; rw [upf_ne _ _ (by omega)]; exact h.gc i hi),h.zc,(by show upf r.pl 0 (r.pl 0+1) (C+1)=_; rw [upf_ne _ _ (by omega)]; exact h.pw),(fun i hi=>by show upf r.pl 0 (r.pl 0+1) _=_; rw [upf_ne _ _ (by omega)]; exact h.pk i hi),h.yk,h.h0,h.h1,(by show upf r.cl 0 b 0=_; rw [upf_at]; exact hb),(by show upf r.cl 0 b 1=_; rw [upf_ne _ _ (by omega)]; exact h.c1),h.lt,h.en,h.t0,h.tw⟩
theorem Rel.wait (h:Rel I C K r s) {b:Bool} (hb:b=decide (s.w+1=C+1)):Rel I C K { r with pl:=upf r.pl (C+1) (r.pl (C+1)+1),cl:=upf r.cl 1 b } { s with w:=s.w+1 }:=
 ⟨(by show upf r.pl (C+1) (r.pl (C+1)+1) 0=_; rw [upf_ne _ _ (by omega)]; exact h.p0),h.g0,(fun i hi=>by show upf r.pl (C+1) (r.pl (C+1)+1) _=_; rw [upf_ne _ _ (by omega)]; exact h.pc i hi),h.gc,h.zc,(by show upf r.pl (C+1) (r.pl (C+1)+1) (C+1)=s.w+1; rw [upf_at,h.pw]),(fun i hi=>by show upf r.pl (C+1) (r.pl (C+1)+1) _=_; rw [upf_ne _ _ (by omega)]; exact h.pk i hi),h.yk,h.h0,h.h1,(by show upf r.cl 1 b 0=_; rw [upf_ne _ _ (by omega)]; exact h.c0),(by show upf r.cl 1 b 1=_; rw [upf_at]; exact hb),h.lt,h.en,h.t0,h.tw⟩
-- the operations at which the tasks stand
theorem Rel.gone0 (h:Rel I C K r s) (j:PJ I C K s):gone (pipP I C K c0 c1) r 0=decide (s.q=2 * I+1):=by
 have:=j.q1
 unfold gone
 rw [h.en,h.p0]
 show (false || decide (2 * I+1<=s.q))=_
 rw [Bool.false_or]
 exact decide_eq_decide.2 (by omega)
theorem Rel.at0 (h:Rel I C K r s) (j:PJ I C K s):at_ (pipP I C K c0 c1) r 0=if s.q=2 * I+1 then ⟨0,0,0⟩ else if s.q=2 * I then ⟨3,0,0⟩ else if s.q % 2=0 then ⟨5,1,0⟩ else ⟨1,0,0⟩:=by
 unfold at_
 rw [h.gone0 j,h.p0]
 by_cases e:s.q=2 * I+1
 ·rw [if_pos e,if_pos (decide_eq_true e)]
 ·rw [if_neg e,if_neg (by simpa using e)]
  rfl
theorem who {t:Nat} (ht:t < C+2+K):t=0\/(∃ c,c < C/\t=1+c)\/t=C+1\/∃ k,k < K/\t=C+2+k:=by
 by_cases e:t=0
 ·exact Or.inl e
 ·by_cases e2:t < C+1
  ·exact Or.inr (Or.inl ⟨t - 1,by omega,by omega⟩)
  ·by_cases e3:t=C+1
   ·exact Or.inr (Or.inr (Or.inl e3))
   ·exact Or.inr (Or.inr (Or.inr ⟨t - (C+2),by omega,by omega⟩))
end
end Go.Proofs.Ytjjegmflllpknaa.Loo

namespace Go.Proofs.Ytjjegmflllpknaa.Loo
/- A pipe of many hands: every pick, and the end (LoomPipes). Names nothing of a program. -/
section
variable {I C K c0 c1:Nat} {r:Rm} {s:Ab}
theorem Rel.setT (h:Rel I C K r s) (T:Nat):Rel I C K r { s with T:=T }:=⟨h.p0,h.g0,h.pc,h.gc,h.zc,h.pw,h.pk,h.yk,h.h0,h.h1,h.c0,h.c1,h.lt,h.en,h.t0,h.tw⟩
end
end Go.Proofs.Ytjjegmflllpknaa.Loo

namespace Go.Proofs.Ytjjegmflllpknaa.Loo
/- A pipe of many hands, whatever the script: what comes of it (LoomPipes). Names nothing of a program. -/
section
variable {I C K c0 c1:Nat} {r:Rm} {s:Ab}
def ab0:Ab:=⟨0,0,0,fun _=>0,fun _=>0,fun _=>[],fun _=>0,fun _=>[],[],[]⟩
theorem sm_const (n v:Nat):sm n (fun _=>v)=n * v:=by
 induction n with
 | zero=>simp [sm]
 | succ n ih=>rw [sm,ih,Nat.succ_mul]
theorem m0 (I C K:Nat):Ab.M I C K ab0=7 * I+2 * C+K+2:=by
 show (2 * I+1 - 0)+3 * (I - 0)+sm C (fun _=>fP 0)+(C+1 - 0)+2 * (I - sm K fun _=>0)+sm K (fun _=>oneG 0)=_
 rw [sm_const,sm_const,sm_const]
 show _+_+C * 1+_+_+K * 1=_
 omega
end
end Go.Proofs.Ytjjegmflllpknaa.Loo
