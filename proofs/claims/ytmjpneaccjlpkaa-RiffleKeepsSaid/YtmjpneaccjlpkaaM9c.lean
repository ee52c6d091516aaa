import Derived.Test.YtmjpneaccjlpkaaF9b
import Derived.Test.YtmjpneaccjlpkaaM9a
import Derived.Test.YtmjpneaccjlpkaaF9c
namespace Go.Proofs.Ytmjpneaccjlpkaa.Prm
open Go.RowKit Gf8 Aes By8 Cel Cf Tap Drw
/- Package perm as it landed: Inverse, Apply of ints, Compose, Rank. Written by tools/mkM9b.py. -/
set_option maxRecDepth 100000 in
set_option maxHeartbeats 4000000 in
theorem papply (f g:Nat->Int) (n m:Nat) (v u0:Value) (V:World) (hv:SliceI V v n f) (hn17:n<=17592186044416) (hu:SliceI V u0 m g) :
  Calls Try.prog 24 #[v,u0] V fun e w'=>∃ r,e=.returned (.tuple #[r,.int .i64 ((apE f n m:Nat):Int)])/\w'.ownsRow V.heap.size 3 1 r (zl (apE f n m) n) (intsL (zl (apE f n m) n) (fun j=>g (f j).toNat))/\Below V.heap.size V w':=by
 have FI:=hv
 have FJ:=hu
 go_enter Try.func24,Try.ntmps24
 refine wp_seq ?_
 refine wo_ 20 [(0,v),(1,u0)] ?_
 rintro a A ⟨t0,t1,-⟩
 refine wi_ A (h2_ t0 t1) (rf_ [] (h2_ t0 t1) ?_)
 rintro a A - ⟨t0,t1,-⟩
 have BW:Below V.heap.size V V:=Below.refl _ _
 have BB:=BW
 refine wp_seq (wp_seq ?_)
 by_cases h3:n=m
 ·refine wi_ A (h2_ t0 t1) (rv_ 1 (.int .i64 ((n:Nat):Int)) (fun a e=>execLenI (len:=n) rfl (e _) ((FI.on BB)).shp) (rv_ 3 (.int .i64 ((m:Nat):Int)) (fun a e=>execLenI (len:=m) rfl (e _) ((FJ.on BB)).shp) (rv_ 4 (.bool false) (fun a e=>execDec (execNeN (p:=n) (q:=m) rfl (e _) (e _)) (decide_eq_false (by omega))) (rf_ [(11,.bool false)] (h2_ t0 t1) ?_))))
  rintro a A ⟨t11,-⟩ ⟨t0,t1,-⟩
  refine wp_cond_false t11 (wp_skip ?_)
  clear t11
  refine wp_seq (wp_seq ?_)
  refine wi_ A (h2_ t0 t1) (rc_ 1 (pcheck f n _ V (FI.on BB) hn17) (cb_ fun X3 bQ=>?_))
  replace BB:=BB.trans (bQ.mono BB.size)
  clear bQ
  refine rf_ [(6,.int .i64 ((pE f n:Nat):Int))] (h2_ t0 t1) ?_
  rintro a A ⟨t6,-⟩ ⟨t0,t1,-⟩
  refine wp_seq ?_
  by_cases h1:okQ f n n=true
  ·refine wi_ A (h3_ t0 t1 t6) (rv_ 1 (.bool false) (fun a e=>execDec (execNeE (p:=pE f n) (q:=0) rfl (e _) rfl) (decide_eq_false (by have:=pE_ok h1; omega))) (rf_ [(15,.bool false)] (h2_ t0 t1) ?_))
   rintro a A ⟨t15,-⟩ ⟨t0,t1,-⟩
   refine wp_cond_false t15 (wp_skip ?_)
   clear t15
   have hfl:∀ i,i < n->0<=f i/\f i < m:=fun i hi=>by have:=(okQ_iff.1 h1).1 i hi; omega
   refine wp_seq ?_
   refine wi_ A (h2_ t0 t1) (rc_ 2 (ptaken f g n m _ _ X3 (FI.on BB) hn17 (FJ.on BB) hfl) fun e X6 hh=>?_)
   obtain ⟨r9,he,hk,hb⟩:=hh
   refine ⟨_,he,?_⟩
   have bQ:Below X3.heap.size X3 X6:=hb
   have FO:(X6.ownsRow V.heap.size 3 1 r9 (n) (intsL (n) (fun j=>g (f j).toNat))):=ownD_base hk (BB).size
   replace BB:=BB.trans (bQ.mono BB.size)
   clear bQ
   refine rg_ [(4,r9),(5,.int .i64 ((0:Nat):Int))] ?_
   rintro a A ⟨t4,t5,-⟩
   have hE:apE f n m=0:=if_pos ⟨pE_ok h1,h3⟩
   rw [hE,zl_ok]
   refine wp_ret ?_
   refine bodyPost_ret (results_tmp2 rfl _ _ _) A.2 ⟨_,?_,FO,BB⟩
   show Ending.returned (.tuple #[a.eval (.tmp 4),a.eval (.tmp 5)])=_
   rw [t4,t5]
  ·refine wi_ A (h3_ t0 t1 t6) (rv_ 1 (.bool true) (fun a e=>execDec (execNeE (p:=pE f n) (q:=0) rfl (e _) rfl) (decide_eq_true (by have:=pE_no h1; omega))) (rf_ [(15,.bool true)] (h1_ t6) ?_))
   rintro a A ⟨t15,-⟩ ⟨t6,-⟩
   refine wp_cond_true t15 ?_
   refine wp_seq ?_
   refine wi_ A (h1_ t6) (rg_ [(4,.slice none 0 0),(5,.int .i64 ((pE f n:Nat):Int))] ?_)
   rintro a A ⟨t4,t5,-⟩
   have hE:apE f n m=110:=if_neg (fun q=>by have:=pE_no h1; omega)
   rw [pE_no h1] at t5
   rw [hE,zl_no (by decide)]
   refine wp_ret ?_
   repeat (first | with_reducible refine ret_in ?_ | with_reducible refine ret_then ?_)
   refine bodyPost_ret (results_tmp2 rfl _ _ _) A.2 ⟨_,?_,World.ownsRow_nil _ _ _ _,BB⟩
   show Ending.returned (.tuple #[a.eval (.tmp 4),a.eval (.tmp 5)])=_
   rw [t4,t5]
 ·refine wi_ A (h2_ t0 t1) (rv_ 1 (.int .i64 ((n:Nat):Int)) (fun a e=>execLenI (len:=n) rfl (e _) ((FI.on BB)).shp) (rv_ 3 (.int .i64 ((m:Nat):Int)) (fun a e=>execLenI (len:=m) rfl (e _) ((FJ.on BB)).shp) (rv_ 4 (.bool true) (fun a e=>execDec (execNeN (p:=n) (q:=m) rfl (e _) (e _)) (decide_eq_true (by omega))) (rf_ [(11,.bool true)] (h2_ t0 t1) ?_))))
  rintro a A ⟨t11,-⟩ ⟨t0,t1,-⟩
  refine wp_cond_true t11 ?_
  refine wp_seq ?_
  refine wi_ A (h2_ t0 t1) (rg_ [(4,.slice none 0 0),(5,.int .i64 ((110:Nat):Int))] ?_)
  rintro a A ⟨t4,t5,-⟩
  have hE:apE f n m=110:=if_neg (fun q=>by omega)
  rw [hE,zl_no (by decide)]
  refine wp_ret ?_
  repeat (first | with_reducible refine ret_in ?_ | with_reducible refine ret_then ?_)
  refine bodyPost_ret (results_tmp2 rfl _ _ _) A.2 ⟨_,?_,World.ownsRow_nil _ _ _ _,BB⟩
  show Ending.returned (.tuple #[a.eval (.tmp 4),a.eval (.tmp 5)])=_
  rw [t4,t5]
end Go.Proofs.Ytmjpneaccjlpkaa.Prm

namespace Go.Proofs.Ytmjpneaccjlpkaa.Prm
open Go.RowKit Gf8 Aes By8 Cel Cf Tap Drw
/- Package perm as it landed: swap, From, Draws. Written by tools/mkM9c.py. -/
theorem wp_open {P:Program} {c:Code} {Q:Exit->Act->World->Prop} {a:Act} {V:World} (R:Act->Prop) (h:R a) (k:∀ a,R a->c.wp P Q a V):c.wp P Q a V:=k a h
theorem grown_bel {a w w':World} {row:Option Nat} (h:a.grownBy w row) (hb:Below w.heap.size w w'):a.grownBy w' row:=
 ⟨hb.os.trans h.os,hb.tape.trans h.tape,hb.output.trans h.output,Nat.le_trans h.size hb.size,fun k hk hne=>(hb.block k (Nat.lt_of_lt_of_le hk h.size)).trans (h.block k hk hne)⟩
theorem grown_put {a w:World} {b k:Nat} {z:Value} (h:a.grownBy w (some b)):a.grownBy (w.setCell ⟨b,k,none⟩ z) (some b):=
 ⟨h.os,h.tape,h.output,Nat.le_trans h.size (by simp [World.setCell]),fun j hj hne=>(Below.heap_setCell _ _ _ _ (fun e=>hne (by simp [e]))).trans (h.block j hj hne)⟩
theorem fr_swp {d:Nat->Int} {N i I w:Nat} (eI:N - 1 - i=I) (hg:gN d i=w) (j:Nat):(fun x=>if x=w then (fun j=>(frA N (gN d) i j:Int)) I else (fun x=>if x=I then (fun j=>(frA N (gN d) i j:Int)) w else (fun j=>(frA N (gN d) i j:Int)) x) x) j=(fun j=>(frA N (gN d) (i+1) j:Int)) j:=by
 show (if j=w then ((frA N (gN d) i I:Nat):Int) else if j=I then ((frA N (gN d) i w:Nat):Int) else ((frA N (gN d) i j:Nat):Int))=((swp (frA N (gN d) i) (N - 1 - i) (gN d i) j:Nat):Int)
 rw [eI,hg]
 by_cases q:j=w
 ·subst q
  rw [if_pos rfl,swp_j]
 ·rw [if_neg q]
  by_cases q2:j=I
  ·subst q2
   rw [if_pos rfl,swp_i]
  ·rw [if_neg q2,swp_o q2 q]
theorem dr_swp {n k I J:Nat} {g:Nat->Nat} (hnext:drA n g (k+1)=swp (drA n g k) I J) (j:Nat):(fun x=>if x=J then (fun j=>(drA n g k j:Int)) I else (fun x=>if x=I then (fun j=>(drA n g k j:Int)) J else (fun j=>(drA n g k j:Int)) x) x) j=(fun j=>(drA n g (k+1) j:Int)) j:=by
 show (if j=J then ((drA n g k I:Nat):Int) else if j=I then ((drA n g k J:Nat):Int) else ((drA n g k j:Nat):Int))=((drA n g (k+1) j:Nat):Int)
 rw [hnext]
 by_cases q:j=J
 ·subst q
  rw [if_pos rfl,swp_j]
 ·rw [if_neg q]
  by_cases q2:j=I
  ·subst q2
   rw [if_pos rfl,swp_i]
  ·rw [if_neg q2,swp_o q2 q]
def atA (n:Nat) (g:Nat->Nat):Nat->Nat->Nat
 | 0,x=>x
 | k+1,x=>if x=drA n g k (n - 1 - k) then drD n g k else atA n g k x
theorem dr_at {n:Nat} {g:Nat->Nat} (h:IsP g n) {k:Nat} (hk:k < n):drA n g k (drD n g k)=g (n - 1 - k):=by
 obtain ⟨hPA,hdone⟩:=drA_done h (k:=k) (by omega)
 obtain ⟨j,hj,e⟩:=surj hPA (g (n - 1 - k)) (h.lt _ (by omega))
 refine posN_at (j:=j) ?_ e
 rcases Nat.lt_or_ge j (n - k) with q | q
 ·exact q
 ·have h3:=hdone j q hj
  rw [e] at h3
  have:=h.inj _ _ (by omega) hj h3
  omega
theorem atA_is {n:Nat} {g:Nat->Nat} (h:IsP g n):∀ {k},k<=n->∀ x,x < n->posN (drA n g k) x n < n - k->atA n g k x=posN (drA n g k) x n
 | 0,_,x,hx,_=>(inv_of (isP_id n) hx).symm
 | k+1,hk,x,hx,hp=>by
  obtain ⟨hPA,_⟩:=drA_done h (k:=k) (by omega)
  have hJk:=drD_lt (f:=g) (n:=n) (k:=k) (by omega)
  have hI:n - 1 - k < n:=by omega
  have hPB:=isP_swp hPA hI (show drD n g k < n by omega)
  show (if x=drA n g k (n - 1 - k) then drD n g k else atA n g k x)=posN (swp (drA n g k) (n - 1 - k) (drD n g k)) x n
  by_cases q:x=drA n g k (n - 1 - k)
  ·rw [if_pos q]
   have h1:posN (swp (drA n g k) (n - 1 - k) (drD n g k)) (swp (drA n g k) (n - 1 - k) (drD n g k) (drD n g k)) n=drD n g k:=inv_of hPB (by omega)
   rw [swp_j,← q] at h1
   exact h1.symm
  ·rw [if_neg q]
   obtain ⟨p,ep⟩:∃ p,posN (swp (drA n g k) (n - 1 - k) (drD n g k)) x n=p:=⟨_,rfl⟩
   have hp2:p < n - (k+1):=by rw [← ep]; exact hp
   have h2:swp (drA n g k) (n - 1 - k) (drD n g k) p=x:=by rw [← ep]; exact (inv_at hPB hx).2
   have n1:p ≠ n - 1 - k:=by omega
   have n2:p ≠ drD n g k:=fun z=>q (by rw [← h2,z,swp_j])
   rw [swp_o n1 n2] at h2
   have h3:posN (drA n g k) x n=p:=by rw [← h2]; exact inv_of hPA (by omega)
   rw [ep,atA_is h (by omega) x hx (by rw [h3]; omega),h3]
theorem at_next {n k I J Y:Nat} {g:Nat->Nat} (eI:n - 1 - k=I) (eY:drA n g k I=Y) (eJ:drD n g k=J) (j:Nat):(fun i=>if i=Y then ((J:Nat):Int) else (fun j=>(atA n g k j:Int)) i) j=(fun j=>(atA n g (k+1) j:Int)) j:=by
 show (if j=Y then ((J:Nat):Int) else ((atA n g k j:Nat):Int))=((if j=drA n g k (n - 1 - k) then drD n g k else atA n g k j:Nat):Int)
 rw [eI,eY,eJ]
 by_cases q:j=Y
 ·rw [if_pos q,if_pos q]
 ·rw [if_neg q,if_neg q]
theorem fill_next {i:Nat} {F:Nat->Int} {z:Int} (e:z=F i) (j:Nat):(fun j=>if j=i then z else (fun j=>if j < i then F j else 0) j) j=(fun j=>if j < (i+1) then F j else 0) j:=by
 show (if j=i then z else if j < i then F j else 0)=if j < i+1 then F j else 0
 by_cases q:j=i
 ·subst q
  rw [if_pos rfl,if_pos (by omega),e]
 ·rw [if_neg q]
  by_cases q2:j < i
  ·rw [if_pos q2,if_pos (by omega)]
  ·rw [if_neg q2,if_neg (by omega)]
section
variable {V W W':World} {va vt u:Value} {n nu g c:Nat} {fa ft fu:Nat->Int}
theorem Thr.atU {j:Nat} (h:Thr V W va vt n fa ft u nu fu) (e:u=.slice (some ⟨g,0,none⟩) nu c) (hj:j < nu):W.cell? ⟨g,0+j,none⟩=some (.int .i64 (fu j))/\W.frozen? ⟨g,0+j,none⟩=false:=by
 have h1:=h.ru
 rw [e] at h1
 exact own_cellI h1 hj
theorem Thr.setU {j:Nat} (h:Thr V W va vt n fa ft u nu fu) (e:u=.slice (some ⟨g,0,none⟩) nu c) (z:Int):Thr V (W.setCell ⟨g,0+j,none⟩ (.int .i64 z)) va vt n fa ft u nu (fun i=>if i=j then z else fu i):=by
 have hb:u.ownBlock=some g:=by rw [e]; rfl
 refine ⟨own_offB h.ra (h.nau g hb).1,own_offB h.rt (h.nau g hb).2,?_,h.nat,h.nau⟩
 have h1:=h.ru
 rw [e] at h1 ⊢
 exact own_setF z h1
theorem Thr.cgU {fu':Nat->Int} (h:Thr V W va vt n fa ft u nu fu) (e:∀ j,j < nu->fu j=fu' j):Thr V W va vt n fa ft u nu fu':=⟨h.ra,h.rt,by rw [← intsL_congr e]; exact h.ru,h.nat,h.nau⟩
theorem Thr.swapA {fa':Nat->Int} (h:Thr V W va vt n fa ft u nu fu) (own:W'.ownsRow V.heap.size 3 1 va n (intsL n fa')) (gr:W.grownBy W' (some g)) (e:va.ownBlock=some g):Thr V W' va vt n fa' ft u nu fu:=
 ⟨own,ownW_grown h.rt gr (fun _ q z=>h.nat g e (q.trans z.symm)),ownW_grown h.ru gr (fun k q z=>(h.nau k q).1 (e.trans z)),h.nat,h.nau⟩
end
set_option maxRecDepth 100000 in
set_option maxHeartbeats 4000000 in
theorem pswap (f:Nat->Int) (n I J g c:Nat) (v:Value) (U V:World) (ev:v=.slice (some ⟨g,0,none⟩) n c) (BB:Below U.heap.size U V) (FO:V.ownsRow U.heap.size 3 1 v n (intsL n f)) (hI:I < n) (hJ:J < n) :
  Calls Try.prog 78 #[v,.int .i64 ((I:Nat):Int),.int .i64 ((J:Nat):Int)] V fun e w'=>e=.returned (.tuple #[])/\w'.ownsRow U.heap.size 3 1 v n (intsL n (fun x=>if x=J then f I else (fun x=>if x=I then f J else f x) x))/\V.grownBy w' (some g)/\Below U.heap.size U w':=by
 subst ev
 have hgB:U.heap.size<=g:=(FO.lt g rfl).1
 have FG:V.grownBy V (some g):=World.grownBy.refl _ _
 go_enter Try.func78,Try.ntmps78
 refine wp_open (fun a=>(a.tmps.size=20/\a.defers=[])/\a.eval (.tmp 0)=.slice (some ⟨g,0,none⟩) n c/\a.eval (.tmp 1)=.int .i64 ((I:Nat):Int)/\a.eval (.tmp 2)=.int .i64 ((J:Nat):Int)) ⟨⟨rfl,rfl⟩,rfl,rfl,rfl⟩ ?_
 rintro a ⟨A,t0,t1,t2⟩
 refine wj_ [0,1,2,3,4,5,6,7,8,9,10,11,12,13,14,15] [13,15] [7,11] [13,15] A (h3_ t0 t1 t2) (fun X0_0 bD=>?_)
 refine dw_ 6 (.pointer (some ⟨g,0+J,none⟩)) (fun a X e=>execIdxN (k:=J) rfl (e _) (e _) hJ) (dv_ 7 (.int .i64 (f J)) (fun a X e hb=>execLd3 rfl (e _) (own_cellI (ownD_below FO hb) hJ).1) (dw_ 10 (.pointer (some ⟨g,0+I,none⟩)) (fun a X e=>execIdxN (k:=I) rfl (e _) (e _) hI) (dv_ 11 (.int .i64 (f I)) (fun a X e hb=>execLd3 rfl (e _) (own_cellI (ownD_below FO hb) hI).1) (dw_ 12 (.pointer (some ⟨g,0+I,none⟩)) (fun a X e=>execIdxN (k:=I) rfl (e _) (e _) hI) (ds_ 13 (fun a e=>?_))))))
 obtain ⟨hc_,hf_⟩:=own_cellI (ownD_below FO bD) hI
 refine stepS rfl rfl (execStI9 rfl (e _) (e _) hc_ hf_) ⟨_,⟨_,rfl,rfl⟩,fun X0_1 hX=>?_⟩
 obtain ⟨BB,FG,FO1⟩:Below U.heap.size U X0_1/\(V.grownBy X0_1 (some g))/\(X0_1.ownsRow U.heap.size 3 1 (.slice (some ⟨g,0,none⟩) n c) n (intsL n (fun x=>if x=I then f J else f x))):=by subst hX; exact ⟨((BB.trans (bD.mono BB.size))).setCell hgB _,(grown_put (grown_bel FG bD)),own_setF _ (ownD_below FO bD)⟩
 clear bD FO hX e a
 refine ⟨Or.inl rfl,?_⟩
 refine dw_ 14 (.pointer (some ⟨g,0+J,none⟩)) (fun a X e=>execIdxN (k:=J) rfl (e _) (e _) hJ) (ds_ 15 (fun a e=>?_))
 obtain ⟨hc_,hf_⟩:=own_cellI FO1 hJ
 refine stepS rfl rfl (execStI9 rfl (e _) (e _) hc_ hf_) ⟨_,⟨_,rfl,rfl⟩,fun X0 hX=>?_⟩
 obtain ⟨BB,FG,FO2⟩:Below U.heap.size U X0/\(V.grownBy X0 (some g))/\(X0.ownsRow U.heap.size 3 1 (.slice (some ⟨g,0,none⟩) n c) n (intsL n (fun x=>if x=J then f I else (fun x=>if x=I then f J else f x) x))):=by subst hX; exact ⟨(BB).setCell hgB _,(grown_put FG),own_setF _ FO1⟩
 clear FO1 hX e a
 refine ⟨Or.inl rfl,?_⟩
 refine dy_ [] ?_
 rintro a A -
 exact bodyPost_end (results_none rfl _ _ _) A.2 ⟨rfl,FO2,FG,BB⟩
set_option maxRecDepth 100000 in
set_option maxHeartbeats 4000000 in
theorem pfrom (k:Int) (d:Nat->Int) (m:Nat) (v:Value) (V:World) (hv:SliceI V v m d) (hm17:m<=17592186043904) (hk63:k < 9223372036854775808) :
  Calls Try.prog 45 #[.int .i64 k,v] V fun e w'=>∃ r,e=.returned (.tuple #[r,.int .i64 ((frE k d m:Nat):Int)])/\w'.ownsRow V.heap.size 3 1 r (zl (frE k d m) k.toNat) (intsL (zl (frE k d m) k.toNat) (fun j=>(frA k.toNat (gN d) m j:Int)))/\Below V.heap.size V w':=by
 obtain ⟨ia,ic,rfl,-,-,hsh⟩:=id hv.shape
 have FI:=hv
 go_enter Try.func45,Try.ntmps45
 refine wp_seq ?_
 refine wo_ 40 [(0,.int .i64 k),(1,.slice ia m ic)] ?_
 rintro a A ⟨t0,t1,-⟩
 refine wi_ A (h2_ t0 t1) (rf_ [] (h2_ t0 t1) ?_)
 rintro a A - ⟨t0,t1,-⟩
 have BW:Below V.heap.size V V:=Below.refl _ _
 have BB:=BW
 refine wp_seq (wp_seq ?_)
 by_cases hk0:k < 0
 ·refine wi_ A (h2_ t0 t1) (rv_ 1 (.bool true) (fun a e=>execLtCt (p:=k) (q:=0) rfl (e _) (by exact hk0)) (rf_ [(10,.bool true)] (h2_ t0 t1) ?_))
  rintro a A ⟨t10,-⟩ ⟨t0,t1,-⟩
  refine wp_cond_true t10 ?_
  refine wp_seq ?_
  refine wi_ A (h2_ t0 t1) (rg_ [(4,.slice none 0 0),(5,.int .i64 ((2:Nat):Int))] ?_)
  rintro a A ⟨t4,t5,-⟩
  have hE:frE k d m=2:=if_pos hk0
  rw [hE,zl_no (by decide)]
  refine wp_ret ?_
  repeat (first | with_reducible refine ret_in ?_ | with_reducible refine ret_then ?_)
  refine bodyPost_ret (results_tmp2 rfl _ _ _) A.2 ⟨_,?_,World.ownsRow_nil _ _ _ _,BB⟩
  show Ending.returned (.tuple #[a.eval (.tmp 4),a.eval (.tmp 5)])=_
  rw [t4,t5]
 ·refine wi_ A (h2_ t0 t1) (rv_ 1 (.bool false) (fun a e=>execLtCf (p:=k) (q:=0) rfl (e _) (by exact hk0)) (rf_ [(10,.bool false)] (h2_ t0 t1) ?_))
  rintro a A ⟨t10,-⟩ ⟨t0,t1,-⟩
  refine wp_cond_false t10 (wp_skip ?_)
  clear t10
  obtain ⟨N,rfl⟩:∃ N:Nat,k=N:=⟨k.toNat,by omega⟩
  have hdf:∀ X,Calls Try.prog 75 #[.int .i64 ((N:Nat):Int)] X fun e w'=>e=.returned (.int .i64 ((N - 1:Nat):Int))/\Below X.heap.size X w':=fun X=>by have h_:=pdrawsFor (N:Int) X hk63; rw [show ((N:Int) - 1).toNat=N - 1 by omega] at h_; exact h_
  refine wp_seq (wp_seq ?_)
  by_cases h1:m=N - 1
  ·by_cases hf:fitQ d N m=true
   ·have hwf:∀ X,Below V.heap.size V X->Calls Try.prog 76 #[.slice ia m ic,.int .i64 ((N:Nat):Int)] X fun e w'=>e=.returned (.bool true)/\Below X.heap.size X w':=fun X hX=>by have h_:=pareBelow N d m _ X (FI.on hX) (by omega) (by omega) (by omega); rw [hf] at h_; exact h_
    refine wi_ A (h2_ t0 t1) (rv_ 1 (.int .i64 ((m:Nat):Int)) (fun a e=>execLenI (len:=m) rfl (e _) ((FI.on BB)).shp) (rc_ 3 (hdf V) (cb_ fun X3_1 bQ=>?_)))
    replace BB:=BB.trans (bQ.mono BB.size)
    clear bQ
    refine rv_ 4 (.bool false) (fun a e=>execDec (execNeN (p:=m) (q:=N - 1) rfl (e _) (e _)) (decide_eq_false (by omega))) (rc_ 8 (hwf X3_1 BB) (cb_ fun X3 bQ=>?_))
    replace BB:=BB.trans (bQ.mono BB.size)
    clear bQ
    refine rv_ 9 (.bool false) (fun a e=>execNot8 (b:=true) rfl (e _)) (rf_ [(21,.bool false)] (h2_ t0 t1) ?_)
    rintro a A ⟨t21,-⟩ ⟨t0,t1,-⟩
    refine wp_cond_false t21 (wp_skip ?_)
    clear t21
    have hE:frE (N:Int) d m=0:=frE_ok h1 hf
    have hd:=fitQ_iff.1 hf
    refine wp_seq ?_
    refine wi_ A (h2_ t0 t1) (rc_ 1 (pident (N:Int) X3 (by omega)) fun e X5 hh=>?_)
    obtain ⟨v23,he,hk,hb⟩:=hh
    rw [Int.toNat_natCast] at hk
    refine ⟨_,he,?_⟩
    have bQ:Below X3.heap.size X3 X5:=hb
    have FO:(X5.ownsRow V.heap.size 3 1 v23 (N) (intsL (N) (fun j=>(frA N (gN d) 0 j:Int)))):=ownD_base hk (BB).size
    replace BB:=BB.trans (bQ.mono BB.size)
    clear bQ
    refine rf_ [(6,v23)] (h2_ t0 t1) ?_
    rintro a A ⟨t6,-⟩ ⟨t0,t1,-⟩
    refine wp_seq (wp_seq ?_)
    refine wi_ A (h3_ t0 t1 t6) (rv_ 1 (.int .i64 ((m:Nat):Int)) (fun a e=>execLenI (len:=m) rfl (e _) ((FI.on BB)).shp) (rf_ [(24,.slice ia m ic),(25,.int .i64 ((m:Nat):Int)),(26,.int .i64 ((0:Nat):Int))] (h2_ t0 t6) ?_))
    rintro a A ⟨t24,t25,t26,-⟩ ⟨t0,t6,-⟩
    refine wp_block ?_
    refine wp_loop (fun a W=>∃ (i:Nat),i<=m/\(a.tmps.size=40/\a.defers=[])/\a.eval (.tmp 0)=.int .i64 ((N:Nat):Int)/\a.eval (.tmp 6)=v23/\a.eval (.tmp 24)=.slice ia m ic/\a.eval (.tmp 25)=.int .i64 ((m:Nat):Int)/\a.eval (.tmp 26)=.int .i64 ((i:Nat):Int)/\Below V.heap.size V W/\(W.ownsRow V.heap.size 3 1 v23 (N) (intsL (N) (fun j=>(frA N (gN d) i j:Int))))) (fun a _=>m - (intOf (a.eval (.tmp 26))).toNat) ⟨0,Nat.zero_le _,A,t0,t6,t24,t25,t26,BB,FO⟩ ?_
    rintro a XL7 ⟨i,hi,A,t0,t6,t24,t25,t26,BB,FO⟩
    have es:=t26
    refine wp_seq ?_
    refine wi_ A (h5_ t0 t6 t24 t25 t26) (rv_ 0 (.bool (decide (i < m))) (fun a e=>execLtW (p:=i) (q:=m) rfl (e _) (e _)) (rf_ [(27,.bool (decide (i < m)))] (h5_ t0 t6 t24 t25 t26) ?_))
    rintro a A ⟨t27,-⟩ ⟨t0,t6,t24,t25,t26,-⟩
    refine wp_seq ?_
    by_cases hlt:i < m
    ·rw [decide_eq_true hlt] at t27
     refine wp_cond_true t27 (wp_skip ?_)
     clear t27
     refine wp_seq (wp_block ?_)
     have hdi:=hd i hlt
     obtain ⟨w,ew⟩:∃ w:Nat,d i=w:=⟨(d i).toNat,by omega⟩
     have hw:w < N:=by omega
     have hg:gN d i=w:=by show (d i).toNat=w; omega
     obtain ⟨ib,io,rfl,hib,hcell⟩:=hsh (by omega)
     have cI:∀ k,k < m->∀ X,Below V.heap.size V X->X.cell? ⟨ib,io+k,none⟩=some (.int .i64 (d k)):=fun k hk X hX=>by rw [cell_below hX hib]; exact hcell k hk
     have cW:∀ X,Below V.heap.size V X->X.cell? ⟨ib,io+i,none⟩=some (.int .i64 ((w:Nat):Int)):=fun X hX=>by rw [cI i hlt X hX,ew]
     obtain ⟨ga,ca,rfl,hga,_⟩:=ownL_some9 FO (by omega)
     obtain ⟨I,eI⟩:∃ I,N - 1 - i=I:=⟨_,rfl⟩
     have hI:I < N:=by omega
     refine wp_seq ?_
     refine wi_ A (h5_ t0 t6 t24 t25 t26) (rv_ 1 (.pointer (some ⟨ib,io+i,none⟩)) (fun a e=>execIdxN (k:=i) rfl (e _) (e _) hlt) (rv_ 2 (.int .i64 ((w:Nat):Int)) (fun a e=>execLd3 rfl (e _) (cW XL7 BB)) (rf_ [(7,.int .i64 ((i:Nat):Int)),(8,.int .i64 ((w:Nat):Int))] (h5_ t0 t6 t24 t25 t26) ?_)))
     rintro a A ⟨t7,t8,-⟩ ⟨t0,t6,t24,t25,t26,-⟩
     refine wi_ A (h7_ t0 t6 t24 t25 t26 t7 t8) (rv_ 2 (.int .i64 ((N - 1:Nat):Int)) (fun a e=>By8.execSubI (p:=N) (q:=1) rfl (e _) rfl (by omega) (by omega)) (rv_ 4 (.int .i64 ((I:Nat):Int)) (fun a e=>(eI ▸ By8.execSubI (p:=N - 1) (q:=i) rfl (e _) (e _) (by omega) (by omega))) (rc_ 6 (pswap (fun j=>(frA N (gN d) i j:Int)) N I w ga _ _ V XL7 rfl BB FO hI hw) fun e X9 hh=>?_)))
     obtain ⟨he,ho,hgr,hb⟩:=hh
     refine ⟨_,he,?_⟩
     obtain ⟨BB,FO2⟩:Below V.heap.size V X9/\(X9.ownsRow V.heap.size 3 1 (.slice (some ⟨ga,0,none⟩) N ca) (N) (intsL (N) (fun j=>(frA N (gN d) (i+1) j:Int)))):=⟨hb,by rw [← intsL_congr (fun j _=>fr_swp eI hg j)]; exact ho⟩
     clear FO
     refine rf_ [] (h5_ t0 t6 t24 t25 t26) ?_
     rintro a A - ⟨t0,t6,t24,t25,t26,-⟩
     refine wi_ A (h5_ t0 t6 t24 t25 t26) (rv_ 0 (.int .i64 ((i+1:Nat):Int)) (fun a e=>execAd8 (p:=i) (q:=1) rfl (e _) rfl (by omega)) (rf_ [(26,.int .i64 ((i+1:Nat):Int))] (h4_ t0 t6 t24 t25) ?_))
     rintro a A ⟨t26,-⟩ ⟨t0,t6,t24,t25,-⟩
     exact ⟨⟨i+1,hlt,A,t0,t6,t24,t25,t26,BB,FO2⟩,by show m - (intOf (a.eval (.tmp 26))).toNat < m - (intOf (Act.eval _ (.tmp 26))).toNat; rw [t26,es]; show m - (i+1) < m - i; omega⟩
    ·rw [decide_eq_false hlt] at t27
     refine wp_cond_false t27 ?_
     refine wp_exit ?_
     first | with_reducible refine exit_in ?_ | with_reducible refine exit_then (exit_in ?_) | with_reducible refine exit_then (exit_then (exit_in ?_)) | refine exit_in ?_ | refine exit_then (exit_in ?_) | refine exit_then (exit_then (exit_in ?_))
     clear t27 es
     have hin:i=m:=by omega
     rw [hin] at FO
     refine wp_seq ?_
     refine wi_ A (h5_ t0 t6 t24 t25 t26) (rg_ [(4,v23),(5,.int .i64 ((0:Nat):Int))] ?_)
     rintro a A ⟨t4,t5,-⟩
     rw [hE,zl_ok,Int.toNat_natCast]
     refine wp_ret ?_
     refine bodyPost_ret (results_tmp2 rfl _ _ _) A.2 ⟨_,?_,FO,BB⟩
     show Ending.returned (.tuple #[a.eval (.tmp 4),a.eval (.tmp 5)])=_
     rw [t4,t5]
   ·have hff:=Bool.eq_false_iff.2 hf
    have hwf:∀ X,Below V.heap.size V X->Calls Try.prog 76 #[.slice ia m ic,.int .i64 ((N:Nat):Int)] X fun e w'=>e=.returned (.bool false)/\Below X.heap.size X w':=fun X hX=>by have h_:=pareBelow N d m _ X (FI.on hX) (by omega) (by omega) (by omega); rw [hff] at h_; exact h_
    refine wi_ A (h2_ t0 t1) (rv_ 1 (.int .i64 ((m:Nat):Int)) (fun a e=>execLenI (len:=m) rfl (e _) ((FI.on BB)).shp) (rc_ 3 (hdf V) (cb_ fun X3_1 bQ=>?_)))
    replace BB:=BB.trans (bQ.mono BB.size)
    clear bQ
    refine rv_ 4 (.bool false) (fun a e=>execDec (execNeN (p:=m) (q:=N - 1) rfl (e _) (e _)) (decide_eq_false (by omega))) (rc_ 8 (hwf X3_1 BB) (cb_ fun X3 bQ=>?_))
    replace BB:=BB.trans (bQ.mono BB.size)
    clear bQ
    refine rv_ 9 (.bool true) (fun a e=>execNot8 (b:=false) rfl (e _)) (rf_ [(21,.bool true)] (h2_ t0 t1) ?_)
    rintro a A ⟨t21,-⟩ ⟨t0,t1,-⟩
    refine wp_cond_true t21 ?_
    refine wp_seq ?_
    refine wi_ A (h2_ t0 t1) (rg_ [(4,.slice none 0 0),(5,.int .i64 ((110:Nat):Int))] ?_)
    rintro a A ⟨t4,t5,-⟩
    have hE:frE (N:Int) d m=110:=frE_no (fun q=>hf q.2)
    rw [hE,zl_no (by decide)]
    refine wp_ret ?_
    repeat (first | with_reducible refine ret_in ?_ | with_reducible refine ret_then ?_)
    refine bodyPost_ret (results_tmp2 rfl _ _ _) A.2 ⟨_,?_,World.ownsRow_nil _ _ _ _,BB⟩
    show Ending.returned (.tuple #[a.eval (.tmp 4),a.eval (.tmp 5)])=_
    rw [t4,t5]
  ·refine wi_ A (h2_ t0 t1) (rv_ 1 (.int .i64 ((m:Nat):Int)) (fun a e=>execLenI (len:=m) rfl (e _) ((FI.on BB)).shp) (rc_ 3 (hdf V) (cb_ fun X3 bQ=>?_)))
   replace BB:=BB.trans (bQ.mono BB.size)
   clear bQ
   refine rv_ 4 (.bool true) (fun a e=>execDec (execNeN (p:=m) (q:=N - 1) rfl (e _) (e _)) (decide_eq_true (by omega))) (rf_ [(21,.bool true)] (h2_ t0 t1) ?_)
   rintro a A ⟨t21,-⟩ ⟨t0,t1,-⟩
   refine wp_cond_true t21 ?_
   refine wp_seq ?_
   refine wi_ A (h2_ t0 t1) (rg_ [(4,.slice none 0 0),(5,.int .i64 ((110:Nat):Int))] ?_)
   rintro a A ⟨t4,t5,-⟩
   have hE:frE (N:Int) d m=110:=frE_no (fun q=>h1 q.1)
   rw [hE,zl_no (by decide)]
   refine wp_ret ?_
   repeat (first | with_reducible refine ret_in ?_ | with_reducible refine ret_then ?_)
   refine bodyPost_ret (results_tmp2 rfl _ _ _) A.2 ⟨_,?_,World.ownsRow_nil _ _ _ _,BB⟩
   show Ending.returned (.tuple #[a.eval (.tmp 4),a.eval (.tmp 5)])=_
   rw [t4,t5]
set_option maxRecDepth 100000 in
set_option maxHeartbeats 4000000 in
theorem pdraws (f:Nat->Int) (n:Nat) (v:Value) (V:World) (hv:SliceI V v n f) (hn17:n<=17592186044416) :
  Calls Try.prog 63 #[v] V fun e w'=>∃ r,e=.returned (.tuple #[r,.int .i64 ((pE f n:Nat):Int)])/\w'.ownsRow V.heap.size 3 1 r (zl (pE f n) (n - 1)) (intsL (zl (pE f n) (n - 1)) (fun j=>(drD n (gN f) j:Int)))/\Below V.heap.size V w':=by
 obtain ⟨ia,ic,rfl,-,-,hsh⟩:=id hv.shape
 have FI:=hv
 obtain ⟨M,hM⟩:∃ M,n - 1=M:=⟨_,rfl⟩
 rw [hM]
 go_enter Try.func63,Try.ntmps63
 refine wp_seq ?_
 refine wo_ 60 [(0,.slice ia n ic)] ?_
 rintro a A ⟨t0,-⟩
 refine wi_ A (h1_ t0) (rf_ [] (h1_ t0) ?_)
 rintro a A - ⟨t0,-⟩
 have BW:Below V.heap.size V V:=Below.refl _ _
 have BB:=BW
 refine wp_seq (wp_seq ?_)
 refine wi_ A (h1_ t0) (rc_ 1 (pcheck f n _ V (FI.on BB) hn17) (cb_ fun X1 bQ=>?_))
 replace BB:=BB.trans (bQ.mono BB.size)
 clear bQ
 refine rf_ [(4,.int .i64 ((pE f n:Nat):Int))] (h1_ t0) ?_
 rintro a A ⟨t4,-⟩ ⟨t0,-⟩
 refine wp_seq ?_
 by_cases hok:okQ f n n=true
 ·refine wi_ A (h2_ t0 t4) (rv_ 1 (.bool false) (fun a e=>execDec (execNeE (p:=pE f n) (q:=0) rfl (e _) rfl) (decide_eq_false (by have:=pE_ok hok; omega))) (rf_ [(14,.bool false)] (h1_ t0) ?_))
  rintro a A ⟨t14,-⟩ ⟨t0,-⟩
  refine wp_cond_false t14 (wp_skip ?_)
  clear t14
  obtain ⟨hrange,_⟩:=okQ_iff.1 hok
  have hP:IsP (gN f) n:=isP_of hok
  have hdf:∀ X,Calls Try.prog 75 #[.int .i64 ((n:Nat):Int)] X fun e w'=>e=.returned (.int .i64 ((M:Nat):Int))/\Below X.heap.size X w':=fun X=>by have h_:=pdrawsFor (n:Int) X (by omega); rw [show ((n:Int) - 1).toNat=M by omega] at h_; exact h_
  refine wp_seq ?_
  refine wi_ A (h1_ t0) (rv_ 1 (.int .i64 ((n:Nat):Int)) (fun a e=>execLenI (len:=n) rfl (e _) ((FI.on BB)).shp) (rc_ 2 (pident (n:Int) X1 (by omega)) fun e X4 hh=>?_))
  obtain ⟨v18,he,hk,hb⟩:=hh
  rw [Int.toNat_natCast] at hk
  refine ⟨_,he,?_⟩
  have bQ:Below X1.heap.size X1 X4:=hb
  have Fv18:(X4.ownsRow V.heap.size 3 1 v18 (n) (intsL (n) (fun j=>(j:Int)))):=ownD_base hk (BB).size
  replace BB:=BB.trans (bQ.mono BB.size)
  clear bQ
  refine rf_ [(5,v18)] (h1_ t0) ?_
  rintro a A ⟨t5,-⟩ ⟨t0,-⟩
  refine wp_seq ?_
  refine wi_ A (h2_ t0 t5) (rv_ 1 (.int .i64 ((n:Nat):Int)) (fun a e=>execLenI (len:=n) rfl (e _) ((FI.on BB)).shp) (rc_ 2 (pident (n:Int) X4 (by omega)) fun e X5 hh=>?_))
  obtain ⟨v21,he,hk,hb⟩:=hh
  rw [Int.toNat_natCast] at hk
  refine ⟨_,he,?_⟩
  have bQ:Below X4.heap.size X4 X5:=hb
  have Fv21:(X5.ownsRow V.heap.size 3 1 v21 (n) (intsL (n) (fun j=>(j:Int)))):=ownD_base hk (BB).size
  have Fnat:(∀ k,v18.ownBlock=some k->v21.ownBlock ≠ some k):=fun k e q=>by have a1:=(Fv18.lt k e).2; have a2:=(hk.lt k q).1; omega
  replace Fv18:=(ownD_below Fv18 bQ)
  replace BB:=BB.trans (bQ.mono BB.size)
  clear bQ
  refine rf_ [(6,v21)] (h2_ t0 t5) ?_
  rintro a A ⟨t6,-⟩ ⟨t0,t5,-⟩
  refine wp_seq ?_
  refine wi_ A (h3_ t0 t5 t6) (rv_ 1 (.int .i64 ((n:Nat):Int)) (fun a e=>execLenI (len:=n) rfl (e _) ((FI.on BB)).shp) (rc_ 2 (hdf X5) (cb_ fun X6_1 bQ=>?_)))
  replace Fv18:=(ownD_below Fv18 bQ)
  replace Fv21:=(ownD_below Fv21 bQ)
  replace BB:=BB.trans (bQ.mono BB.size)
  clear bQ
  obtain ⟨g25,egg25⟩:∃ z_:Nat,X6_1.heap.size=z_:=⟨_,rfl⟩
  refine rs_ 3 (fun a e=>?_)
  refine stepV rfl rfl (execMkN rfl (e _) (e _) (by omega)) ⟨.slice (some ⟨g25,0,none⟩) M M,⟨_,rfl,by subst egg25; rfl⟩,fun X6 hX=>?_⟩
  have bQ:Below X6_1.heap.size X6_1 X6:=by subst hX egg25; exact (belNew X6_1 _)
  have FO:(X6.ownsRow V.heap.size 3 1 (.slice (some ⟨g25,0,none⟩) M M) (M) (intsL (M) (fun j=>if j < 0 then (drD n (gN f) j:Int) else 0))):=by subst hX egg25; exact ownD_base (own_mkZ X6_1 M _ (by omega) (fun j_ _=>if_neg (Nat.not_lt_zero _))) (BB).size
  have Fg:(V.heap.size<=g25):=by subst hX egg25; exact (BB).size
  have Fnau:(∀ k,(Value.slice (some ⟨g25,0,none⟩) M M).ownBlock=some k->v18.ownBlock ≠ some k/\v21.ownBlock ≠ some k):=by subst hX egg25; exact fun k e=>by have e2:X6_1.heap.size=k:=Option.some.inj e; exact ⟨fun q=>by have:=(Fv18.lt k q).2; omega,fun q=>by have:=(Fv21.lt k q).2; omega⟩
  replace Fv18:=(ownD_below Fv18 bQ)
  replace Fv21:=(ownD_below Fv21 bQ)
  replace BB:=BB.trans (bQ.mono BB.size)
  clear bQ hX egg25 e a
  refine rf_ [(7,.slice (some ⟨g25,0,none⟩) M M)] (h3_ t0 t5 t6) ?_
  rintro a A ⟨t7,-⟩ ⟨t0,t5,t6,-⟩
  have FT:Thr V X6 v18 v21 n (fun j=>(drA n (gN f) 0 j:Int)) (fun j=>(atA n (gN f) 0 j:Int)) (.slice (some ⟨g25,0,none⟩) M M) M (fun j=>if j < 0 then (drD n (gN f) j:Int) else 0):=⟨Fv18,Fv21,FO,Fnat,Fnau⟩
  clear Fv18 Fv21 Fnat Fnau FO
  refine wp_seq (wp_seq ?_)
  refine wi_ A (h4_ t0 t5 t6 t7) (rv_ 1 (.int .i64 ((M:Nat):Int)) (fun a e=>execLenI (len:=M) rfl (e _) ⟨_,_,rfl⟩) (rf_ [(27,.int .i64 ((M:Nat):Int)),(28,.int .i64 ((0:Nat):Int))] (h4_ t0 t5 t6 t7) ?_))
  rintro a A ⟨t27,t28,-⟩ ⟨t0,t5,t6,t7,-⟩
  refine wp_block ?_
  refine wp_loop (fun a W=>∃ (i:Nat),i<=M/\(a.tmps.size=60/\a.defers=[])/\a.eval (.tmp 0)=.slice ia n ic/\a.eval (.tmp 5)=v18/\a.eval (.tmp 6)=v21/\a.eval (.tmp 7)=.slice (some ⟨g25,0,none⟩) M M/\a.eval (.tmp 27)=.int .i64 ((M:Nat):Int)/\a.eval (.tmp 28)=.int .i64 ((i:Nat):Int)/\Below V.heap.size V W/\(Thr V W v18 v21 n (fun j=>(drA n (gN f) i j:Int)) (fun j=>(atA n (gN f) i j:Int)) (.slice (some ⟨g25,0,none⟩) M M) M (fun j=>if j < i then (drD n (gN f) j:Int) else 0))) (fun a _=>M - (intOf (a.eval (.tmp 28))).toNat) ⟨0,Nat.zero_le _,A,t0,t5,t6,t7,t27,t28,BB,FT⟩ ?_
  rintro a XL8 ⟨i,hi,A,t0,t5,t6,t7,t27,t28,BB,FT⟩
  have es:=t28
  refine wp_seq ?_
  refine wi_ A (h6_ t0 t5 t6 t7 t27 t28) (rv_ 0 (.bool (decide (i < M))) (fun a e=>execLtW (p:=i) (q:=M) rfl (e _) (e _)) (rf_ [(29,.bool (decide (i < M)))] (h6_ t0 t5 t6 t7 t27 t28) ?_))
  rintro a A ⟨t29,-⟩ ⟨t0,t5,t6,t7,t27,t28,-⟩
  refine wp_seq ?_
  by_cases hlt:i < M
  ·rw [decide_eq_true hlt] at t29
   refine wp_cond_true t29 (wp_skip ?_)
   clear t29
   refine wp_seq (wp_block ?_)
   have hk:=hlt
   obtain ⟨I,eI⟩:∃ I:Nat,n - 1 - i=I:=⟨_,rfl⟩
   have hI:I < n:=by omega
   obtain ⟨w,ew⟩:∃ w:Nat,f I=w:=⟨(f I).toNat,by have:=hrange I hI; omega⟩
   have hw:w < n:=by have:=hrange I hI; omega
   have hg:gN f I=w:=by show (f I).toNat=w; omega
   obtain ⟨hPA,hdone⟩:=drA_done hP (k:=i) (by omega)
   obtain ⟨J,eJ⟩:∃ J,drD n (gN f) i=J:=⟨_,rfl⟩
   have hJk:J < n - i:=by rw [← eJ]; exact drD_lt (by omega)
   have hJn:J < n:=by omega
   have hAJ:drA n (gN f) i J=w:=by rw [← eJ,dr_at hP (by omega),eI,hg]
   have hatJ:atA n (gN f) i w=J:=by
    have h1:posN (drA n (gN f) i) w n=J:=by rw [← hAJ]; exact inv_of hPA hJn
    rw [atA_is hP (by omega) w hw (by rw [h1]; exact hJk),h1]
   have hnext:drA n (gN f) (i+1)=swp (drA n (gN f) i) I J:=by
    show swp (drA n (gN f) i) (n - 1 - i) (drD n (gN f) i)=_
    rw [eI,eJ]
   obtain ⟨Y,eY⟩:∃ Y,drA n (gN f) i I=Y:=⟨_,rfl⟩
   have hY:Y < n:=by rw [← eY]; exact hPA.lt I hI
   obtain ⟨ib,io,rfl,hib,hcell⟩:=hsh (by omega)
   have cW:∀ X,Below V.heap.size V X->X.cell? ⟨ib,io+I,none⟩=some (.int .i64 ((w:Nat):Int)):=fun X hX=>by rw [cell_below hX hib,hcell I hI,ew]
   obtain ⟨ga,ca,ea,hga,_⟩:=ownL_some9 FT.ra (by omega)
   obtain ⟨gt,ct,et,hgt,_⟩:=ownL_some9 FT.rt (by omega)
   refine wp_seq ?_
   refine wi_ A (h6_ t0 t5 t6 t7 t27 t28) (rf_ [(8,.int .i64 ((i:Nat):Int))] (h6_ t0 t5 t6 t7 t27 t28) ?_)
   rintro a A ⟨t8,-⟩ ⟨t0,t5,t6,t7,t27,t28,-⟩
   refine wp_seq ?_
   refine wi_ A (h7_ t0 t5 t6 t7 t27 t28 t8) (rv_ 1 (.int .i64 ((n:Nat):Int)) (fun a e=>execLenI (len:=n) rfl (e _) ((FI.on BB)).shp) (rv_ 2 (.int .i64 ((n - 1:Nat):Int)) (fun a e=>By8.execSubI (p:=n) (q:=1) rfl (e _) rfl (by omega) (by omega)) (rv_ 4 (.int .i64 ((I:Nat):Int)) (fun a e=>(eI ▸ By8.execSubI (p:=n - 1) (q:=i) rfl (e _) (e _) (by omega) (by omega))) (rf_ [(9,.int .i64 ((I:Nat):Int))] (h7_ t0 t5 t6 t7 t27 t28 t8) ?_))))
   rintro a A ⟨t9,-⟩ ⟨t0,t5,t6,t7,t27,t28,t8,-⟩
   refine wp_seq ?_
   refine wi_ A (h8_ t0 t5 t6 t7 t27 t28 t8 t9) (rv_ 3 (.pointer (some ⟨ib,io+I,none⟩)) (fun a e=>execIdxN (k:=I) rfl (e _) (e _) hI) (rv_ 4 (.int .i64 ((w:Nat):Int)) (fun a e=>execLd3 rfl (e _) (cW XL8 BB)) (rv_ 5 (.pointer (some ⟨gt,0+w,none⟩)) (fun a e=>execIdxN (k:=w) rfl ((e _).trans et) (e _) hw) (rv_ 6 (.int .i64 ((J:Nat):Int)) (fun a e=>execLd3 rfl (e _) (by rw [(FT.atT et hw).1,hatJ])) (rf_ [(10,.int .i64 ((J:Nat):Int))] (h8_ t0 t5 t6 t7 t27 t28 t8 t9) ?_)))))
   rintro a A ⟨t10,-⟩ ⟨t0,t5,t6,t7,t27,t28,t8,t9,-⟩
   refine wp_seq ?_
   refine wi_ A (h9_ t0 t5 t6 t7 t27 t28 t8 t9 t10) (rv_ 3 (.pointer (some ⟨ga,0+I,none⟩)) (fun a e=>execIdxN (k:=I) rfl ((e _).trans ea) (e _) hI) (rv_ 4 (.int .i64 ((Y:Nat):Int)) (fun a e=>execLd3 rfl (e _) (by rw [(FT.atA ea hI).1,eY])) (rv_ 6 (.pointer (some ⟨gt,0+Y,none⟩)) (fun a e=>execIdxN (k:=Y) rfl ((e _).trans et) (e _) hY) (rs_ 7 (fun a e=>?_)))))
   obtain ⟨hc_,hf_⟩:=FT.atT et hY
   refine stepS rfl rfl (execStI9 rfl (e _) (e _) hc_ hf_) ⟨_,⟨_,rfl,rfl⟩,fun X12 hX=>?_⟩
   obtain ⟨BB,FT2⟩:Below V.heap.size V X12/\(Thr V X12 v18 v21 n (fun j=>(drA n (gN f) i j:Int)) (fun j=>(atA n (gN f) (i+1) j:Int)) (.slice (some ⟨g25,0,none⟩) M M) M (fun j=>if j < i then (drD n (gN f) j:Int) else 0)):=by subst hX; exact ⟨(BB).setCell hgt _,(FT.setT et ((J:Nat):Int)).cgT (fun j _=>at_next eI eY eJ j)⟩
   clear FT hX e a
   refine rf_ [] (h9_ t0 t5 t6 t7 t27 t28 t8 t9 t10) ?_
   rintro a A - ⟨t0,t5,t6,t7,t27,t28,t8,t9,t10,-⟩
   refine wp_seq ?_
   refine wi_ A (h9_ t0 t5 t6 t7 t27 t28 t8 t9 t10) (rc_ 3 (pswap (fun j=>(drA n (gN f) i j:Int)) n I J ga _ _ V X12 ea BB FT2.ra hI hJn) fun e X13 hh=>?_)
   obtain ⟨he,ho,hgr,hb⟩:=hh
   refine ⟨_,he,?_⟩
   obtain ⟨BB,FT3⟩:Below V.heap.size V X13/\(Thr V X13 v18 v21 n (fun j=>(drA n (gN f) (i+1) j:Int)) (fun j=>(atA n (gN f) (i+1) j:Int)) (.slice (some ⟨g25,0,none⟩) M M) M (fun j=>if j < i then (drD n (gN f) j:Int) else 0)):=⟨hb,FT2.swapA (by rw [← intsL_congr (fun j _=>dr_swp hnext j)]; exact ho) hgr (by rw [ea]; rfl)⟩
   clear FT2
   refine rf_ [] (h8_ t0 t5 t6 t7 t27 t28 t8 t10) ?_
   rintro a A - ⟨t0,t5,t6,t7,t27,t28,t8,t10,-⟩
   refine wi_ A (h8_ t0 t5 t6 t7 t27 t28 t8 t10) (rv_ 3 (.pointer (some ⟨g25,0+i,none⟩)) (fun a e=>execIdxN (k:=i) rfl (e _) (e _) hlt) (rs_ 4 (fun a e=>?_)))
   obtain ⟨hc_,hf_⟩:=FT3.atU rfl hlt
   refine stepS rfl rfl (execStI9 rfl (e _) (e _) hc_ hf_) ⟨_,⟨_,rfl,rfl⟩,fun X14 hX=>?_⟩
   obtain ⟨BB,FT4⟩:Below V.heap.size V X14/\(Thr V X14 v18 v21 n (fun j=>(drA n (gN f) (i+1) j:Int)) (fun j=>(atA n (gN f) (i+1) j:Int)) (.slice (some ⟨g25,0,none⟩) M M) M (fun j=>if j < (i+1) then (drD n (gN f) j:Int) else 0)):=by subst hX; exact ⟨(BB).setCell Fg _,(FT3.setU rfl ((J:Nat):Int)).cgU (fun j _=>fill_next (F:=fun j=>(drD n (gN f) j:Int)) (by rw [← eJ]) j)⟩
   clear FT3 hX e a
   refine rf_ [] (h6_ t0 t5 t6 t7 t27 t28) ?_
   rintro a A - ⟨t0,t5,t6,t7,t27,t28,-⟩
   refine wi_ A (h6_ t0 t5 t6 t7 t27 t28) (rv_ 0 (.int .i64 ((i+1:Nat):Int)) (fun a e=>execAd8 (p:=i) (q:=1) rfl (e _) rfl (by omega)) (rf_ [(28,.int .i64 ((i+1:Nat):Int))] (h5_ t0 t5 t6 t7 t27) ?_))
   rintro a A ⟨t28,-⟩ ⟨t0,t5,t6,t7,t27,-⟩
   exact ⟨⟨i+1,hlt,A,t0,t5,t6,t7,t27,t28,BB,FT4⟩,by show M - (intOf (a.eval (.tmp 28))).toNat < M - (intOf (Act.eval _ (.tmp 28))).toNat; rw [t28,es]; show M - (i+1) < M - i; omega⟩
  ·rw [decide_eq_false hlt] at t29
   refine wp_cond_false t29 ?_
   refine wp_exit ?_
   first | with_reducible refine exit_in ?_ | with_reducible refine exit_then (exit_in ?_) | with_reducible refine exit_then (exit_then (exit_in ?_)) | refine exit_in ?_ | refine exit_then (exit_in ?_) | refine exit_then (exit_then (exit_in ?_))
   clear t29 es
   have hin:i=M:=by omega
   rw [hin] at FT
   have FO:=FT.ru
   clear FT
   rw [intsL_congr (g:=fun j=>(drD n (gN f) j:Int)) (fun j hj=>if_pos hj)] at FO
   refine wp_seq ?_
   refine wi_ A (h6_ t0 t5 t6 t7 t27 t28) (rg_ [(2,.slice (some ⟨g25,0,none⟩) M M),(3,.int .i64 ((0:Nat):Int))] ?_)
   rintro a A ⟨t2,t3,-⟩
   have hE:pE f n=0:=pE_ok hok
   rw [hE,zl_ok]
   refine wp_ret ?_
   refine bodyPost_ret (results_tmp2 rfl _ _ _) A.2 ⟨_,?_,FO,BB⟩
   show Ending.returned (.tuple #[a.eval (.tmp 2),a.eval (.tmp 3)])=_
   rw [t2,t3]
 ·refine wi_ A (h2_ t0 t4) (rv_ 1 (.bool true) (fun a e=>execDec (execNeE (p:=pE f n) (q:=0) rfl (e _) rfl) (decide_eq_true (by have:=pE_no hok; omega))) (rf_ [(14,.bool true)] (h1_ t4) ?_))
  rintro a A ⟨t14,-⟩ ⟨t4,-⟩
  refine wp_cond_true t14 ?_
  refine wp_seq ?_
  refine wi_ A (h1_ t4) (rg_ [(2,.slice none 0 0),(3,.int .i64 ((pE f n:Nat):Int))] ?_)
  rintro a A ⟨t2,t3,-⟩
  have hE:pE f n=110:=pE_no hok
  rw [hE] at t3
  rw [hE,zl_no (by decide)]
  refine wp_ret ?_
  repeat (first | with_reducible refine ret_in ?_ | with_reducible refine ret_then ?_)
  refine bodyPost_ret (results_tmp2 rfl _ _ _) A.2 ⟨_,?_,World.ownsRow_nil _ _ _ _,BB⟩
  show Ending.returned (.tuple #[a.eval (.tmp 2),a.eval (.tmp 3)])=_
  rw [t2,t3]
end Go.Proofs.Ytmjpneaccjlpkaa.Prm
