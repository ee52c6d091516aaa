import Derived.Test.YtjjegmflllpknaaN8h
namespace Go.Proofs.Ytjjegmflllpknaa.Loo
open Go.RowKit Gf8 Aes By8 Cel Cf Win Drw Prm
/- The landed run is the document's: may and pick over a room. -/
section
variable {α:Type} {f:Nat->α} {s t:Nat} {x y:α}
theorem upf_upf:upf (upf f t x) t y=upf f t y:=by
 funext j
 by_cases q:j=t
 ·rw [q,upf_at,upf_at]
 ·rw [upf_ne _ _ q,upf_ne _ _ q,upf_ne _ _ q]
theorem upf_comm (h:s ≠ t):upf (upf f t x) s y=upf (upf f s y) t x:=by
 funext j
 by_cases q:j=s
 ·rw [q,upf_at,upf_ne _ _ h,upf_at]
 ·rw [upf_ne _ _ q]
  by_cases w:j=t
  ·rw [w,upf_at,upf_at]
  ·rw [upf_ne _ _ w,upf_ne _ _ w,upf_ne _ _ q]
end
def plE (p:Pl) (pl:Nat->Nat) (en:Nat->Bool) (t:Nat):Nat:=if (en t || decide (p.ln t<=pl t))=true then p.ln t else pl t
section
variable {p:Pl} {r:Rm} {pl:Nat->Nat} {en:Nat->Bool} {s t z ms k:Nat}
theorem plE_set (he:en t=false) (hz:z<=p.ln t):plE p (upf pl t z) en=upf (plE p pl en) t z:=by
 funext j
 by_cases q:j=t
 ·subst q
  unfold plE
  rw [upf_at,upf_at,he,Bool.false_or]
  by_cases w:p.ln j<=z
  ·rw [if_pos (decide_eq_true w)]; omega
  ·rw [if_neg (by simpa using w)]
 ·rw [upf_ne _ _ q]
  unfold plE
  rw [upf_ne _ _ q]
theorem plE_end:plE p pl (upf en t true)=upf (plE p pl en) t (p.ln t):=by
 funext j
 by_cases q:j=t
 ·subst q
  unfold plE
  rw [upf_at,upf_at,Bool.true_or,if_pos rfl]
 ·rw [upf_ne _ _ q]
  unfold plE
  rw [upf_ne _ _ q]
theorem plE_is (hk:(at_ p r t).k ≠ 0):plE p r.pl r.en t=r.pl t/\r.en t=false/\r.pl t < p.ln t:=by
 obtain ⟨h1,h2,_⟩:=at_k hk
 refine ⟨?_,h1,h2⟩
 unfold plE
 rw [h1,Bool.false_or,if_neg (by simpa using h2)]
theorem plE_lt:plE p r.pl r.en t < p.ln t ↔ gone p r t=false:=by
 unfold plE
 show (if gone p r t=true then _ else _) < _ ↔ _
 cases h:gone p r t with
 | true=>simp
 | false=>
  unfold gone at h
  simp at h ⊢
  exact h.2
theorem plE_le:plE p r.pl r.en t<=p.ln t:=by
 unfold plE
 split
 ·exact Nat.le_refl _
 ·rename_i h
  simp at h
  exact Nat.le_of_lt h.2
def Mof (p:Pl) (r:Rm) (ms:Nat):Mm where
 pl:=plE p r.pl r.en
 rg:=r.rg
 tk:=r.tk
 hd:=r.hd
 cl:=r.cl
 gv:=giv p r
 tv:=tak p r
 ms:=ms
 lt:=r.lt
structure Agr (p:Pl) (r:Rm) (ms:Nat) (N:Mm):Prop where
 pl:N.pl=plE p r.pl r.en
 rg:N.rg=r.rg
 tk:N.tk=r.tk
 hd:N.hd=r.hd
 cl:N.cl=r.cl
 lt:N.lt=r.lt
 ms:N.ms=ms
theorem at_op (hk:gone p r t=false):at_ p r t=p.op t (plE p r.pl r.en t):=by
 unfold at_ plE
 show (if gone p r t=true then _ else _)=p.op t (if gone p r t=true then _ else _)
 rw [hk]
 rfl
theorem gM_is {N:Mm} (h:N.pl=plE p r.pl r.en) {i:Nat}:gM p N t i=isG p r i t:=by
 unfold gM isG
 rw [h]
 cases q:gone p r t with
 | true=>
  rw [decide_eq_false (fun w=>by rw [plE_lt,q] at w; cases w.1),decide_eq_false]
  unfold at_
  rw [if_pos q]
  intro w
  exact absurd w.1 (by decide)
 | false=>
  rw [at_op q]
  exact decide_eq_decide.2 ⟨fun w=>w.2,fun w=>⟨plE_lt.2 q,w⟩⟩
theorem tM_is {N:Mm} (h:N.pl=plE p r.pl r.en) {i:Nat}:tM p N t i=isT p r i t:=by
 unfold tM isT
 rw [h]
 cases q:gone p r t with
 | true=>
  rw [decide_eq_false (fun w=>by rw [plE_lt,q] at w; cases w.1),decide_eq_false]
  unfold at_
  rw [if_pos q]
  intro w
  rcases w with w | w
  ·rcases w.1 with z | z
   ·exact absurd z (by decide)
   ·exact absurd z (by decide)
  ·exact absurd w.1 (by decide)
 | false=>
  rw [at_op q]
  exact decide_eq_decide.2 ⟨fun w=>w.2,fun w=>⟨plE_lt.2 q,w⟩⟩
theorem fF_zero {q:Nat->Nat->Bool} {i:Nat}:fF p q 0 i=(List.range p.n).find? (fun t=>q t i):=by
 unfold fF
 congr 1
theorem meetF_is {N:Mm} (h:Agr p r ms N):meetF p N 0=Mof p r ms:=by
 obtain ⟨h1,h2,h3,h4,h5,h6,h7⟩:=h
 have e1:fF p (gM p N) 0=giv p r:=funext fun i=>by
  rw [fF_zero]
  unfold giv
  congr 1
  funext t
  exact gM_is h1
 have e2:fF p (tM p N) 0=tak p r:=funext fun i=>by
  rw [fF_zero]
  unfold tak
  congr 1
  funext t
  exact tM_is h1
 unfold meetF Mof
 rw [e1,e2,h1,h2,h3,h4,h5,h6,h7]
theorem lyS_is {N:Mm} (h:N.hd=r.hd):∀ k,lyS N k=((List.range k).map fun i=>(r.hd i).length).sum
 | 0=>rfl
 | k+1=>by
  rw [List.range_succ,List.map_append,List.sum_append,← lyS_is h k,← h]
  show lyS N k+(N.hd k).length=lyS N k+((N.hd k).length+0)
  rfl
theorem pick_is {N:Mm} (h:Agr p r ms N):{ meetF p N 0 with ms:=max N.ms (lyS N p.d) }=Mof p r (max ms (lyg p r)):=by
 rw [meetF_is h,lyS_is h.hd,h.ms]
 rfl
end
section
variable {p:Pl} {G:Ad} {U V:World} {ow:Nat->Nat} {r:Rm} {u ms k:Nat}
theorem gone_of (hu:(at_ p r u).k ≠ 0):gone p r u=false:=by
 cases h:gone p r u with
 | false=>rfl
 | true=>exact absurd (by unfold at_; rw [if_pos h]) hu
theorem k_ne (hu:u < p.n) (hp:Okp p) (hg:gone p r u=false):(at_ p r u).k ≠ 0:=by
 intro e
 have h1:=plE_lt.2 hg
 have h2:=hp.op u hu _ h1
 rw [at_op hg] at e
 unfold rgt at h2
 rw [if_neg (by omega),if_neg (by omega),if_neg (by omega),if_neg (by omega),if_neg (by omega),if_neg (by omega),if_neg (by omega)] at h2
 have:=of_decide_eq_true h2
 omega
theorem nat_of {z:Int} (h:0<=z):∃ i:Nat,z=((i:Nat):Int)/\z.toNat=i:=⟨z.toNat,by omega,rfl⟩
set_option maxHeartbeats 1000000 in
theorem pmay (hR:RN p G U ow (Mof p r ms) V) (hu:u < p.n) (hg:gone p r u=false):Calls Try.prog 44 #[.pointer (some ⟨G.rb,0,none⟩),.pointer (some ⟨G.hn u,0,none⟩)] V fun e w'=>e=.returned (.bool (may p r u))/\Below V.heap.size V w':=by
 have hl:(Mof p r ms).pl u < p.ln u:=plE_lt.2 hg
 have hat:at_ p r u=p.op u ((Mof p r ms).pl u):=at_op hg
 have hrt:=hR.ok.op u hu _ hl
 have h0:=k_ne hu hR.ok hg
 obtain ⟨k,ka,kb,hop⟩:∃ k ka kb,p.op u ((Mof p r ms).pl u)=⟨k,ka,kb⟩:=⟨_,_,_,rfl⟩
 rw [hop] at hat hrt
 have hm:may p r u=if k=1 then r.cl ka.toNat || decide (((r.hd ka.toNat).length:Int) < p.cap ka.toNat) || mts p r ka.toNat (tak p r ka.toNat) else if k=2 then rdy p r ka.toNat || r.cl ka.toNat else if k=8 then rdy p r ka.toNat || rdy p r kb.toNat || spt r ka.toNat && spt r kb.toNat else if k=9 then gone p r ka.toNat else true:=by
  rw [hat] at h0
  unfold may
  rw [hat]
  simp only
  rw [if_neg h0]
 rw [hm]
 by_cases k1:k=1
 ·subst k1
  obtain ⟨q1,q2⟩:=rgt_put hrt (Or.inl rfl)
  obtain ⟨i,rfl,e2⟩:=nat_of q1
  rw [if_pos rfl,e2]
  have hi:i < p.d:=by rw [← e2]; exact q2
  have hc:=hR.ok.cap i hi
  cases hcl:r.cl i with
  | true=>rw [Bool.true_or,Bool.true_or]; exact pmay_1c hR hu hl hop hi hcl
  | false=>
   by_cases w:((r.hd i).length:Int) < p.cap i
   ·rw [decide_eq_true w,Bool.false_or,Bool.true_or]
    exact pmay_1r hR hu hl hop hi hcl (by show (r.hd i).length < (p.cap i).toNat; omega)
   ·rw [decide_eq_false w,Bool.false_or,Bool.false_or]
    exact pmay_1m hR hu hl hop hi hcl (by show ¬ (r.hd i).length < (p.cap i).toNat; omega)
 rw [if_neg k1]
 by_cases k2:k=2
 ·subst k2
  obtain ⟨⟨q1,q2⟩,-⟩:=rgt_take hrt rfl
  obtain ⟨i,rfl,e2⟩:=nat_of q1
  rw [if_pos rfl,e2]
  have hi:i < p.d:=by rw [← e2]; exact q2
  cases hy:rdy p r i with
  | true=>rw [Bool.true_or]; exact pmay_2r hR hu hl hop hi hy
  | false=>
   rw [Bool.false_or]
   have e3:sptM (Mof p r ms) i=r.cl i:=by
    unfold rdy at hy
    rw [Bool.or_eq_false_iff] at hy
    have:=of_decide_eq_false hy.1
    show (r.cl i && decide ((r.hd i).length=0))=_
    rw [decide_eq_true (by omega),Bool.and_true]
   rw [← e3]
   exact pmay_2s hR hu hl hop hi hy
 rw [if_neg k2]
 by_cases k8:k=8
 ·subst k8
  obtain ⟨⟨q1,q2⟩,q3,q4⟩:=rgt_choose hrt rfl
  obtain ⟨i,rfl,e2⟩:=nat_of q1
  obtain ⟨j,rfl,e4⟩:=nat_of q3
  rw [if_pos rfl,e2,e4]
  have hi:i < p.d:=by rw [← e2]; exact q2
  have hj:j < p.d:=by rw [← e4]; exact q4
  cases hy:rdy p r i with
  | true=>rw [Bool.true_or,Bool.true_or]; exact pmay_8a hR hu hl hop hi hj hy
  | false=>
   cases hz:rdy p r j with
   | true=>rw [Bool.false_or,Bool.true_or]; exact pmay_8b hR hu hl hop hi hj hy hz
   | false=>
    rw [Bool.false_or,Bool.false_or]
    cases hq:spt r i with
    | true=>rw [Bool.true_and]; exact pmay_8s hR hu hl hop hi hj hy hz hq
    | false=>rw [Bool.false_and]; exact pmay_8n hR hu hl hop hi hj hy hz hq
 rw [if_neg k8]
 by_cases k9:k=9
 ·subst k9
  obtain ⟨q1,q2⟩:=rgt_wait hrt rfl
  obtain ⟨i,rfl,e2⟩:=nat_of q1
  rw [if_pos rfl,e2]
  have hi:i < p.n:=by rw [← e2]; exact q2
  have e3:gone p r i=decide ((Mof p r ms).pl i=p.ln i):=by
   have h1:=@plE_lt p r i
   have h2:=@plE_le p r i
   cases h:gone p r i with
   | true=>
    rw [h] at h1
    exact (decide_eq_true (show plE p r.pl r.en i=p.ln i by
     have:¬ plE p r.pl r.en i < p.ln i:=fun w=>by have:=h1.1 w; cases this
     omega)).symm
   | false=>
    exact (decide_eq_false (show ¬ plE p r.pl r.en i=p.ln i by have:=h1.2 h; omega)).symm
  rw [e3]
  exact pmay_9 hR hu hl hop hi
 rw [if_neg k9]
 exact pmay_0 hR hu hl hop ⟨k1,k2,k8,k9⟩
theorem ptake (hR:Bnd p k r) (hk:k < 65536) (hu:u < p.n) {i:Nat} (hi:i < p.d) (hkd:(at_ p r u).k=2\/(at_ p r u).k=8) (hy:rdy p r i=true):∃ N,Agr p (frm p r u i) ms N/\Does p G U { Mof p r ms with pl:=upf (plE p r.pl r.en) u (plE p r.pl r.en u+1) } N 66 #[.pointer (some ⟨G.rb,0,none⟩),.pointer (some ⟨G.hn u,0,none⟩),.int .i64 ((i:Nat):Int)]:=by
 obtain ⟨e1,e2,e3⟩:=plE_is (p:=p) (r:=r) (t:=u) (by omega)
 have hlu:=hR.ln u
 unfold frm
 match e:r.hd i with
 | x :: l=>
  refine ⟨_,?_,fun ow V hV=>ptake_h hV hu hi e (by show (r.tk u).length < 1000000; omega)⟩
  refine ⟨?_,rfl,rfl,rfl,rfl,rfl,rfl⟩
  show upf (plE p r.pl r.en) u (plE p r.pl r.en u+1)=plE p (upf r.pl u (r.pl u+1)) r.en
  rw [plE_set e2 (by omega),e1]
 | []=>
  have hm:mts p r i (giv p r i)=true:=by
   unfold rdy at hy
   rw [e] at hy
   simpa using hy
  obtain ⟨g,hg⟩:=mts_some hm
  obtain ⟨g1,g2,_⟩:=giv_is hg
  have hcl:r.cl i=false:=by
   unfold mts at hm
   simp at hm
   exact hm.1.2
  have hne:g ≠ u:=fun q=>by rw [q] at g2; omega
  obtain ⟨f1,f2,f3⟩:=plE_is (p:=p) (r:=r) (t:=g) (by omega)
  refine ⟨_,?_,fun ow V hV=>ptake_m hV hu hi hcl e g1 hg (by show upf (plE p r.pl r.en) u _ g < p.ln g; rw [upf_ne _ _ hne,f1]; exact f3) (by show (r.tk u).length < 1000000; omega)⟩
  rw [hg]
  refine ⟨?_,rfl,rfl,rfl,rfl,rfl,rfl⟩
  show upf (upf (plE p r.pl r.en) u (plE p r.pl r.en u+1)) g (upf (plE p r.pl r.en) u (plE p r.pl r.en u+1) g+1)=plE p (upf (upf r.pl g (r.pl g+1)) u (upf r.pl g (r.pl g+1) u+1)) r.en
  rw [upf_ne r.pl _ (Ne.symm hne),plE_set e2 (by omega),plE_set f2 (by omega),upf_ne _ _ hne,e1,f1,upf_comm hne]
set_option maxHeartbeats 1000000 in
theorem pdo (hB:Bnd p k r) (hk:k < 65536) (hp:Okp p) (hu:u < p.n) (hm:may p r u=true):∃ N,Agr p (stp p r u) ms N/\Does p G U (Mof p r ms) N 60 #[.pointer (some ⟨G.rb,0,none⟩),.pointer (some ⟨G.hn u,0,none⟩)]:=by
 have h0:(at_ p r u).k ≠ 0:=fun e=>by
  unfold may at hm
  simp only [e,if_true] at hm
  cases hm
 have hg:=gone_of h0
 obtain ⟨e1,e2,e3⟩:=plE_is h0
 have hl:(Mof p r ms).pl u < p.ln u:=plE_lt.2 hg
 have hat:at_ p r u=p.op u ((Mof p r ms).pl u):=at_op hg
 have hrt:=hp.op u hu _ hl
 have hln:=hp.ln u hu
 have hlt:=hB.lt
 have hrg:=hB.rg u
 obtain ⟨kk,ka,kb,hop⟩:∃ k ka kb,p.op u ((Mof p r ms).pl u)=⟨k,ka,kb⟩:=⟨_,_,_,rfl⟩
 rw [hop] at hat hrt
 have ep:upf (plE p r.pl r.en) u (plE p r.pl r.en u+1)=plE p (upf r.pl u (r.pl u+1)) r.en:=by rw [plE_set e2 (by omega),e1]
 have ez:∀ z,z<=p.ln u->upf (upf (plE p r.pl r.en) u (plE p r.pl r.en u+1)) u z=plE p (upf r.pl u z) r.en:=fun z hz=>by rw [plE_set e2 hz,upf_upf]
 have E:upf (upf (plE p r.pl r.en) u (plE p r.pl r.en u+1)) u (p.ln u)=plE p r.pl (upf r.en u true):=by rw [plE_end,upf_upf]
 rw [hat] at h0
 unfold stp
 rw [hat]
 simp only
 by_cases k1:kk=1
 ·subst k1
  obtain ⟨q1,q2⟩:=rgt_put hrt (Or.inl rfl)
  obtain ⟨i,rfl,e4⟩:=nat_of q1
  rw [if_pos rfl,e4]
  have hi:i < p.d:=by rw [← e4]; exact q2
  have hc:=hp.cap i hi
  unfold pt_
  cases hcl:r.cl i with
  | true=>
   rw [if_pos rfl]
   exact ⟨_,⟨ep,rfl,rfl,rfl,rfl,rfl,rfl⟩,fun ow V hV=>pdo_1 hV hu hl hop (fun ow V hV=>pput_c hV hu hi hcl (by show r.lt < 1000000; omega))⟩
  | false=>
   rw [if_neg (by decide)]
   by_cases w:((r.hd i).length:Int) < p.cap i
   ·rw [if_pos w]
    exact ⟨_,⟨ep,rfl,rfl,rfl,rfl,rfl,rfl⟩,fun ow V hV=>pdo_1 hV hu hl hop (fun ow V hV=>pput_r hV hu hi hcl (by show (r.hd i).length < (p.cap i).toNat; omega))⟩
   ·rw [if_neg w]
    have hm2:mts p r i (tak p r i)=true:=by
     unfold may at hm
     rw [hat] at hm
     simp only [if_neg (show ¬ (1:Int)=0 by decide),if_true,e4,hcl,decide_eq_false w,Bool.false_or] at hm
     exact hm
    obtain ⟨g,hgt⟩:=mts_some hm2
    obtain ⟨g1,g2⟩:=tak_is hgt
    have hne:g ≠ u:=fun q=>by
     rw [q,hat] at g2
     rcases g2 with z | z
     ·exact absurd (show (1:Int)=2 from z) (by decide)
     ·exact absurd (show (1:Int)=8 from z) (by decide)
    obtain ⟨f1,f2,f3⟩:=plE_is (p:=p) (r:=r) (t:=g) (by omega)
    have hlg:=hB.ln g
    refine ⟨_,?_,fun ow V hV=>pdo_1 hV hu hl hop (fun ow V hV=>pput_m hV hu hi hcl (by show ¬ (r.hd i).length < (p.cap i).toNat; omega) g1 hgt (by show upf (plE p r.pl r.en) u _ g < p.ln g; rw [upf_ne _ _ hne,f1]; exact f3) (by show (r.tk g).length < 1000000; omega))⟩
    rw [hgt]
    refine ⟨?_,rfl,rfl,rfl,rfl,rfl,rfl⟩
    show upf (upf (plE p r.pl r.en) u (plE p r.pl r.en u+1)) g (upf (plE p r.pl r.en) u (plE p r.pl r.en u+1) g+1)=plE p (upf (upf r.pl u (r.pl u+1)) g (upf r.pl u (r.pl u+1) g+1)) r.en
    rw [upf_ne r.pl _ hne,plE_set f2 (by omega),plE_set e2 (by omega),upf_ne _ _ hne,e1,f1]
 rw [if_neg k1]
 by_cases k2:kk=2
 ·subst k2
  obtain ⟨⟨q1,q2⟩,q3,q4⟩:=rgt_take hrt rfl
  obtain ⟨i,rfl,e4⟩:=nat_of q1
  obtain ⟨j,rfl,e5⟩:=nat_of q3
  rw [if_pos rfl,e4,e5]
  have hi:i < p.d:=by rw [← e4]; exact q2
  cases hy:rdy p r i with
  | true=>
   rw [if_pos rfl]
   obtain ⟨N,hN,hD⟩:=ptake (G:=G) (U:=U) (ms:=ms) hB hk hu hi (Or.inl (by rw [hat])) hy
   exact ⟨N,hN,fun ow V hV=>pdo_2r hV hu hl hop hi hy hD⟩
  | false=>
   rw [if_neg (by decide)]
   have hj:j<=p.ln u:=by omega
   exact ⟨_,⟨ez j hj,rfl,rfl,rfl,rfl,rfl,rfl⟩,fun ow V hV=>pdo_2s hV hu hl hop hi hy hj⟩
 rw [if_neg k2]
 by_cases k8:kk=8
 ·subst k8
  obtain ⟨⟨q1,q2⟩,q3,q4⟩:=rgt_choose hrt rfl
  obtain ⟨i,rfl,e4⟩:=nat_of q1
  obtain ⟨j,rfl,e5⟩:=nat_of q3
  rw [if_pos rfl,e4,e5]
  have hi:i < p.d:=by rw [← e4]; exact q2
  have hj:j < p.d:=by rw [← e5]; exact q4
  cases hy:rdy p r i with
  | true=>
   rw [if_pos rfl]
   obtain ⟨N,hN,hD⟩:=ptake (G:=G) (U:=U) (ms:=ms) hB hk hu hi (Or.inr (by rw [hat])) hy
   exact ⟨N,hN,fun ow V hV=>pdo_8 hV hu hl hop (fun ow V hV=>pchoose_a hV hu hi hy hD)⟩
  | false=>
   rw [if_neg (by decide)]
   cases hz:rdy p r j with
   | true=>
    rw [if_pos rfl]
    obtain ⟨N,hN,hD⟩:=ptake (G:=G) (U:=U) (ms:=ms) hB hk hu hj (Or.inr (by rw [hat])) hz
    exact ⟨N,hN,fun ow V hV=>pdo_8 hV hu hl hop (fun ow V hV=>pchoose_b hV hu hi hj hy hz hD)⟩
   | false=>
    rw [if_neg (by decide)]
    by_cases w:0<=r.rg u/\r.rg u<=p.ln u
    ·rw [if_pos w]
     obtain ⟨z,hz0,e6⟩:=nat_of w.1
     rw [e6]
     by_cases w2:z < p.ln u
     ·exact ⟨_,⟨ez z (by omega),rfl,rfl,rfl,rfl,rfl,rfl⟩,fun ow V hV=>pdo_8 hV hu hl hop (fun ow V hV=>pchoose_w hV hu hi hj hy hz hz0 w2)⟩
     ·have e7:z=p.ln u:=by omega
      rw [e7]
      exact ⟨_,⟨ez _ (Nat.le_refl _),rfl,rfl,rfl,rfl,rfl,rfl⟩,fun ow V hV=>pdo_8 hV hu hl hop (fun ow V hV=>pchoose_e hV hu hi hj hy hz (by show ¬ (0<=r.rg u/\r.rg u < ((p.ln u:Nat):Int)); omega))⟩
    ·rw [if_neg w]
     exact ⟨_,⟨E,rfl,rfl,rfl,rfl,rfl,rfl⟩,fun ow V hV=>pdo_8 hV hu hl hop (fun ow V hV=>pchoose_e hV hu hi hj hy hz (by show ¬ (0<=r.rg u/\r.rg u < ((p.ln u:Nat):Int)); omega))⟩
 rw [if_neg k8]
 by_cases k6:kk=6
 ·subst k6
  obtain ⟨q1,q2⟩:=rgt_jump hrt rfl
  obtain ⟨i,rfl,e4⟩:=nat_of q1
  rw [if_pos rfl,e4]
  have hi:i<=p.ln u:=by omega
  exact ⟨_,⟨ez i hi,rfl,rfl,rfl,rfl,rfl,rfl⟩,fun ow V hV=>pdo_6 hV hu hl hop hi⟩
 rw [if_neg k6]
 by_cases k7:kk=7
 ·subst k7
  obtain ⟨⟨q1,q2⟩,_,_⟩:=rgt_unless hrt rfl
  obtain ⟨i,rfl,e4⟩:=nat_of q1
  rw [if_pos rfl,e4]
  have hi:i<=p.ln u:=by omega
  by_cases w:r.rg u=kb
  ·rw [if_neg (fun z=>z w)]
   exact ⟨_,⟨ep,rfl,rfl,rfl,rfl,rfl,rfl⟩,fun ow V hV=>pdo_7e hV hu hl hop w⟩
  ·rw [if_pos w]
   exact ⟨_,⟨ez i hi,rfl,rfl,rfl,rfl,rfl,rfl⟩,fun ow V hV=>pdo_7n hV hu hl hop w hi⟩
 rw [if_neg k7]
 by_cases k3:kk=3
 ·subst k3
  obtain ⟨q1,q2⟩:=rgt_put hrt (Or.inr rfl)
  obtain ⟨i,rfl,e4⟩:=nat_of q1
  rw [if_pos rfl,e4]
  have hi:i < p.d:=by rw [← e4]; exact q2
  cases hcl:r.cl i with
  | true=>
   rw [if_pos rfl]
   exact ⟨_,⟨ep,rfl,rfl,rfl,rfl,rfl,rfl⟩,fun ow V hV=>pdo_3t hV hu hl hop hi hcl (by show r.lt < 1000000; omega)⟩
  | false=>
   rw [if_neg (by decide)]
   exact ⟨_,⟨ep,rfl,rfl,rfl,rfl,rfl,rfl⟩,fun ow V hV=>pdo_3f hV hu hl hop hi hcl⟩
 rw [if_neg k3]
 by_cases k4:kk=4
 ·subst k4
  have hn:=rgt_num hrt (Or.inl rfl)
  have hn:-1024<=ka/\ka<=1024:=hn
  rw [if_pos rfl]
  refine ⟨_,⟨ep,?_,rfl,rfl,rfl,rfl,rfl⟩,fun ow V hV=>pdo_4 hV hu hl hop (by unfold I64; omega)⟩
  show upf (upf r.rg u 0) u (0+ka)=upf r.rg u ka
  rw [upf_upf,Int.zero_add]
 rw [if_neg k4]
 by_cases k5:kk=5
 ·subst k5
  have hn:=rgt_num hrt (Or.inr rfl)
  have hn:-1024<=ka/\ka<=1024:=hn
  rw [if_pos rfl]
  have h1:=hrg.1
  have h2:=hrg.2
  exact ⟨_,⟨ep,rfl,rfl,rfl,rfl,rfl,rfl⟩,fun ow V hV=>pdo_5 hV hu hl hop (by show I64 (r.rg u+ka); unfold I64; omega)⟩
 rw [if_neg k5]
 by_cases k10:kk=10
 ·subst k10
  rw [if_pos rfl]
  refine ⟨_,⟨?_,rfl,rfl,rfl,rfl,rfl,rfl⟩,fun ow V hV=>pdo_10 hV hu hl hop⟩
  show upf (upf (plE p r.pl r.en) u (plE p r.pl r.en u+1)) u (p.ln u)=plE p (upf r.pl u (r.pl u+1)) (upf r.en u true)
  rw [plE_end,plE_set e2 (by omega),upf_upf,upf_upf]
 rw [if_neg k10]
 exact ⟨_,⟨ep,rfl,rfl,rfl,rfl,rfl,rfl⟩,fun ow V hV=>pdo_0 hV hu hl hop ⟨k1,k2,k3,k4,k5,k6,k7,k8,k10⟩⟩
theorem ppicked (hB:Bnd p k r) (hk:k < 65536) (hp:Okp p) (hu:u < p.n) (hm:may p r u=true):Does p G U (Mof p r ms) (Mof p (stp p r u) (max ms (lyg p (stp p r u)))) 46 #[.pointer (some ⟨G.rb,0,none⟩),.pointer (some ⟨G.hn u,0,none⟩)]:=by
 obtain ⟨N,hN,hD⟩:=pdo (G:=G) (U:=U) (ms:=ms) hB hk hp hu hm
 intro ow V hV
 have h:=ppick hV hD
 rw [pick_is hN] at h
 exact h
end
end Go.Proofs.Ytjjegmflllpknaa.Loo
