import Derived.Test.YtmjpneaccjlpkaaF9c
import Derived.Test.YtmjpneaccjlpkaaF9b
import Derived.Test.YtmjpneaccjlpkaaP9c
namespace Go.Proofs.Ytmjpneaccjlpkaa.Prm
open Go.RowKit Gf8 Aes By8 Cel Cf Tap Drw
/- Stage 11's reference: Inverse, Compose, Apply, Fit, From. Written by tools/mkP9d.py. -/
def zl (E L:Nat):Nat:=if E=0 then L else 0
theorem zl_ok {L:Nat}:zl 0 L=L:=rfl
theorem zl_no {E L:Nat} (h:E ≠ 0):zl E L=0:=if_neg h
theorem pE_ok {f:Nat->Int} {n:Nat} (h:okQ f n n=true):pE f n=0:=if_pos h
theorem pE_no {f:Nat->Int} {n:Nat} (h:¬ okQ f n n=true):pE f n=110:=if_neg h
def apE (f:Nat->Int) (n m:Nat):Nat:=if pE f n=0/\n=m then 0 else 110
def fitQ (d:Nat->Int) (N:Nat):Nat->Bool
 | 0=>true
 | k+1=>fitQ d N k && decide (0<=d k/\d k < (N:Int) - k)
theorem fitQ_iff {d:Nat->Int} {N:Nat}:∀ {k},fitQ d N k=true ↔ ∀ i,i < k->0<=d i/\d i < (N:Int) - i
 | 0=>⟨(fun _ i h=>absurd h (Nat.not_lt_zero _)),(fun _=>rfl)⟩
 | k+1=>by
  simp only [fitQ,Bool.and_eq_true,decide_eq_true_eq,fitQ_iff (k:=k)]
  constructor
  ·rintro ⟨h1,h2⟩ i hi
   by_cases q:i=k
   ·subst q; exact h2
   ·exact h1 i (by omega)
  ·exact fun h=>⟨fun i hi=>h i (by omega),h k (by omega)⟩
theorem fitQ_succ {d:Nat->Int} {N i:Nat} (h:fitQ d N i=true) (h1:0<=d i/\d i < (N:Int) - i):fitQ d N (i+1)=true:=by
 simp only [fitQ,h,Bool.true_and,decide_eq_true_eq]
 exact h1
theorem fitQ_bad {d:Nat->Int} {N m i:Nat} (hi:i < m) (h:¬ (0<=d i/\d i < (N:Int) - i)):fitQ d N m=false:=Bool.eq_false_iff.2 fun q=>h (fitQ_iff.1 q i hi)
def frE (n:Int) (d:Nat->Int) (m:Nat):Nat:=if n < 0 then 2 else if m=n.toNat - 1/\fitQ d n.toNat m=true then 0 else 110
theorem frE_ok {N:Nat} {d:Nat->Int} {m:Nat} (h1:m=N - 1) (h2:fitQ d N m=true):frE (N:Int) d m=0:=by
 unfold frE
 rw [if_neg (by omega),Int.toNat_natCast,if_pos ⟨h1,h2⟩]
theorem frE_no {N:Nat} {d:Nat->Int} {m:Nat} (h:¬ (m=N - 1/\fitQ d N m=true)):frE (N:Int) d m=110:=by
 unfold frE
 rw [if_neg (by omega),Int.toNat_natCast,if_neg h]
theorem shpO {W:World} {B n:Nat} {t:TypeId} {v:Value} {xs:List Value} (h:W.ownsRow B t 1 v n xs):∃ g c,v=.slice g n c:=by
 rcases h.2 with ⟨rfl,rfl⟩ | ⟨g,cap,cur,rfl,_⟩
 ·exact ⟨_,_,rfl⟩
 ·exact ⟨_,_,rfl⟩
theorem fr_set {W:World} {B N g cap i w I:Nat} {d:Nat->Int} (h:W.ownsRow B 3 1 (.slice (some ⟨g,0,none⟩) N cap) N (intsL N (fun j=>if j=I then ((frA N (gN d) i w:Nat):Int) else (fun j=>(frA N (gN d) i j:Int)) j))) (eI:N - 1 - i=I) (hg:gN d i=w):(W.setCell ⟨g,0+w,none⟩ (.int .i64 ((frA N (gN d) i I:Nat):Int))).ownsRow B 3 1 (.slice (some ⟨g,0,none⟩) N cap) N (intsL N (fun j=>(frA N (gN d) (i+1) j:Int))):=by
 have h2:=own_setF (k:=w) ((frA N (gN d) i I:Nat):Int) h
 rw [intsL_congr (g:=fun j=>(frA N (gN d) (i+1) j:Int)) (fun j _=>?_)] at h2
 ·exact h2
 ·show _=((swp (frA N (gN d) i) (N - 1 - i) (gN d i) j:Nat):Int)
  rw [eI,hg]
  by_cases q:j=w
  ·subst q
   rw [if_pos rfl,swp_j]
  ·rw [if_neg q]
   by_cases q2:j=I
   ·subst q2
    rw [if_pos rfl,swp_i]
   ·rw [if_neg q2,swp_o q2 q]
set_option maxRecDepth 100000 in
set_option maxHeartbeats 4000000 in
theorem rfit (N:Nat) (d:Nat->Int) (m:Nat) (v:Value) (V:World) (hv:SliceI V v m d) (hm17:m<=17592186044416) (hN:N<=17592186044416) :
  Calls Try.prog 80 #[.int .i64 ((N:Nat):Int),v] V fun e w'=>e=.returned (.bool (decide (m=N - 1) && fitQ d N m))/\Below V.heap.size V w':=by
 obtain ⟨ia,ic,rfl,-,-,hsh⟩:=id hv.shape
 have FI:=hv
 go_enter Try.func80,Try.ntmps80
 refine wp_seq ?_
 refine wo_ 33 [(0,.int .i64 ((N:Nat):Int)),(1,.slice ia m ic)] ?_
 rintro a A ⟨t0,t1,-⟩
 refine wi_ A (h2_ t0 t1) (rf_ [] (h2_ t0 t1) ?_)
 rintro a A - ⟨t0,t1,-⟩
 have BW:Below V.heap.size V V:=Below.refl _ _
 have BB:=BW
 refine wp_seq (wp_seq ?_)
 refine wi_ A (h2_ t0 t1) (rv_ 1 (.int .i64 ((m:Nat):Int)) (fun a e=>execLenI (len:=m) rfl (e _) ((FI.on BB)).shp) (rc_ 3 (rbounds (N:Int) V (by omega)) fun e X1 hh=>?_))
 obtain ⟨v9,he,hk,hb⟩:=hh
 rw [show ((N:Int) - 1).toNat=N - 1 by omega] at hk
 refine ⟨_,he,?_⟩
 have bQ:Below V.heap.size V X1:=hb
 have FB:(X1.ownsRow V.heap.size 3 1 v9 (N - 1) (intsL (N - 1) (fun j=>(N:Int) - (j:Int)))):=ownD_base hk (BB).size
 replace BB:=BB.trans (bQ.mono BB.size)
 clear bQ
 refine rv_ 4 (.int .i64 ((N - 1:Nat):Int)) (fun a e=>execLenI (len:=N - 1) rfl (e _) (shpO FB)) (rv_ 5 (.bool (decide (m ≠ N - 1))) (fun a e=>execNeN (p:=m) (q:=N - 1) rfl (e _) (e _)) (rf_ [(11,.bool (decide (m ≠ N - 1)))] (h2_ t0 t1) ?_))
 rintro a A ⟨t11,-⟩ ⟨t0,t1,-⟩
 clear FB
 by_cases hm:m=N - 1
 ·rw [decide_eq_false (fun q=>q hm)] at t11
  refine wp_cond_false t11 (wp_skip ?_)
  clear t11
  rw [decide_eq_true hm,Bool.true_and]
  refine wp_seq (wp_seq ?_)
  refine wi_ A (h2_ t0 t1) (rf_ [(5,.int .i64 ((0:Nat):Int))] (h2_ t0 t1) ?_)
  rintro a A ⟨t5,-⟩ ⟨t0,t1,-⟩
  refine wp_block ?_
  refine wp_loop (fun a W=>∃ (i:Nat),i<=m/\(fitQ d N i=true)/\(a.tmps.size=33/\a.defers=[])/\a.eval (.tmp 0)=.int .i64 ((N:Nat):Int)/\a.eval (.tmp 1)=.slice ia m ic/\a.eval (.tmp 5)=.int .i64 ((i:Nat):Int)/\Below V.heap.size V W) (fun a _=>m - (intOf (a.eval (.tmp 5))).toNat) ⟨0,Nat.zero_le _,rfl,A,t0,t1,t5,BB⟩ ?_
  rintro a XL4 ⟨i,hi,hok,A,t0,t1,t5,BB⟩
  have es:=t5
  refine wp_seq (wp_seq ?_)
  refine wi_ A (h3_ t0 t1 t5) (rv_ 2 (.int .i64 ((m:Nat):Int)) (fun a e=>execLenI (len:=m) rfl (e _) ((FI.on BB)).shp) (rv_ 3 (.bool (decide (i < m))) (fun a e=>execLtW (p:=i) (q:=m) rfl (e _) (e _)) (rf_ [(15,.bool (decide (i < m)))] (h3_ t0 t1 t5) ?_)))
  rintro a A ⟨t15,-⟩ ⟨t0,t1,t5,-⟩
  by_cases hlt:i < m
  ·rw [decide_eq_true hlt] at t15
   refine wp_cond_true t15 (wp_skip ?_)
   clear t15
   refine wp_seq (wp_block ?_)
   obtain ⟨ib,io,rfl,hib,hcell⟩:=hsh (by omega)
   have cI:∀ k,k < m->∀ X,Below V.heap.size V X->X.cell? ⟨ib,io+k,none⟩=some (.int .i64 (d k)):=fun k hk X hX=>by rw [cell_below hX hib]; exact hcell k hk
   by_cases h1:d i < 0
   ·refine wp_seq ?_
    refine wi_ A (h3_ t0 t1 t5) (rv_ 2 (.pointer (some ⟨ib,io+i,none⟩)) (fun a e=>execIdxN (k:=i) rfl (e _) (e _) hlt) (rv_ 3 (.int .i64 (d i)) (fun a e=>execLd3 rfl (e _) (cI i hlt XL4 BB)) (rv_ 4 (.bool true) (fun a e=>execLtCt (p:=(d i)) (q:=0) rfl (e _) (by exact h1)) (rf_ [(32,.bool true)] (h3_ t0 t1 t5) ?_))))
    rintro a A ⟨t32,-⟩ ⟨t0,t1,t5,-⟩
    refine wp_cond_true t32 ?_
    refine wp_seq ?_
    refine wi_ A (h4_ t0 t1 t5 t32) (rg_ [(4,.bool false)] ?_)
    rintro a A ⟨t4,-⟩
    have hy:fitQ d N m=false:=fitQ_bad hlt (by omega)
    rw [hy]
    refine wp_ret ?_
    repeat (first | with_reducible refine ret_in ?_ | with_reducible refine ret_then ?_)
    refine bodyPost_ret (results_tmp rfl _ _ _) A.2 ⟨?_,BB⟩
    show Ending.returned (a.eval (.tmp 4))=_
    rw [t4]
   ·by_cases h2:(N:Int) - i<=d i
    ·obtain ⟨w,ew⟩:∃ w:Nat,d i=w:=⟨(d i).toNat,by omega⟩
     have cW:∀ X,Below V.heap.size V X->X.cell? ⟨ib,io+i,none⟩=some (.int .i64 ((w:Nat):Int)):=fun X hX=>by rw [cI i hlt X hX,ew]
     refine wp_seq ?_
     refine wi_ A (h3_ t0 t1 t5) (rv_ 2 (.pointer (some ⟨ib,io+i,none⟩)) (fun a e=>execIdxN (k:=i) rfl (e _) (e _) hlt) (rv_ 3 (.int .i64 ((w:Nat):Int)) (fun a e=>execLd3 rfl (e _) (cW XL4 BB)) (rv_ 4 (.bool false) (fun a e=>execDec (execLtW (p:=w) (q:=0) rfl (e _) rfl) (decide_eq_false (by omega))) (rv_ 8 (.pointer (some ⟨ib,io+i,none⟩)) (fun a e=>execIdxN (k:=i) rfl (e _) (e _) hlt) (rv_ 9 (.int .i64 ((w:Nat):Int)) (fun a e=>execLd3 rfl (e _) (cW XL4 BB)) (rv_ 12 (.int .i64 ((N - i:Nat):Int)) (fun a e=>By8.execSubI (p:=N) (q:=i) rfl (e _) (e _) (by omega) (by omega)) (rv_ 13 (.bool true) (fun a e=>execDec (execGe8 (p:=w) (q:=N - i) rfl (e _) (e _)) (decide_eq_true (by omega))) (rf_ [(32,.bool true)] (h3_ t0 t1 t5) ?_))))))))
     rintro a A ⟨t32,-⟩ ⟨t0,t1,t5,-⟩
     refine wp_cond_true t32 ?_
     refine wp_seq ?_
     refine wi_ A (h4_ t0 t1 t5 t32) (rg_ [(4,.bool false)] ?_)
     rintro a A ⟨t4,-⟩
     have hy:fitQ d N m=false:=fitQ_bad hlt (by omega)
     rw [hy]
     refine wp_ret ?_
     repeat (first | with_reducible refine ret_in ?_ | with_reducible refine ret_then ?_)
     refine bodyPost_ret (results_tmp rfl _ _ _) A.2 ⟨?_,BB⟩
     show Ending.returned (a.eval (.tmp 4))=_
     rw [t4]
    ·obtain ⟨w,ew⟩:∃ w:Nat,d i=w:=⟨(d i).toNat,by omega⟩
     have cW:∀ X,Below V.heap.size V X->X.cell? ⟨ib,io+i,none⟩=some (.int .i64 ((w:Nat):Int)):=fun X hX=>by rw [cI i hlt X hX,ew]
     refine wp_seq ?_
     refine wi_ A (h3_ t0 t1 t5) (rv_ 2 (.pointer (some ⟨ib,io+i,none⟩)) (fun a e=>execIdxN (k:=i) rfl (e _) (e _) hlt) (rv_ 3 (.int .i64 ((w:Nat):Int)) (fun a e=>execLd3 rfl (e _) (cW XL4 BB)) (rv_ 4 (.bool false) (fun a e=>execDec (execLtW (p:=w) (q:=0) rfl (e _) rfl) (decide_eq_false (by omega))) (rv_ 8 (.pointer (some ⟨ib,io+i,none⟩)) (fun a e=>execIdxN (k:=i) rfl (e _) (e _) hlt) (rv_ 9 (.int .i64 ((w:Nat):Int)) (fun a e=>execLd3 rfl (e _) (cW XL4 BB)) (rv_ 12 (.int .i64 ((N - i:Nat):Int)) (fun a e=>By8.execSubI (p:=N) (q:=i) rfl (e _) (e _) (by omega) (by omega)) (rv_ 13 (.bool false) (fun a e=>execDec (execGe8 (p:=w) (q:=N - i) rfl (e _) (e _)) (decide_eq_false (by omega))) (rf_ [(32,.bool false)] (h3_ t0 t1 t5) ?_))))))))
     rintro a A ⟨t32,-⟩ ⟨t0,t1,t5,-⟩
     refine wp_cond_false t32 (wp_skip ?_)
     clear t32
     refine wi_ A (h3_ t0 t1 t5) (rv_ 1 (.int .i64 ((i+1:Nat):Int)) (fun a e=>execAd8 (p:=i) (q:=1) rfl (e _) rfl (by omega)) (rf_ [(5,.int .i64 ((i+1:Nat):Int))] (h2_ t0 t1) ?_))
     rintro a A ⟨t5,-⟩ ⟨t0,t1,-⟩
     exact ⟨⟨i+1,hlt,fitQ_succ hok (by omega),A,t0,t1,t5,BB⟩,by show m - (intOf (a.eval (.tmp 5))).toNat < m - (intOf (Act.eval _ (.tmp 5))).toNat; rw [t5,es]; show m - (i+1) < m - i; omega⟩
  ·rw [decide_eq_false hlt] at t15
   refine wp_cond_false t15 ?_
   refine wp_exit ?_
   first | with_reducible refine exit_in ?_ | with_reducible refine exit_then (exit_in ?_) | with_reducible refine exit_then (exit_then (exit_in ?_)) | refine exit_in ?_ | refine exit_then (exit_in ?_) | refine exit_then (exit_then (exit_in ?_))
   clear t15 es
   have hin:i=m:=by omega
   rw [hin] at hok
   rw [hok]
   refine wp_seq ?_
   refine wi_ A (h3_ t0 t1 t5) (rg_ [(4,.bool true)] ?_)
   rintro a A ⟨t4,-⟩
   refine wp_ret ?_
   repeat (first | with_reducible refine ret_in ?_ | with_reducible refine ret_then ?_)
   refine bodyPost_ret (results_tmp rfl _ _ _) A.2 ⟨?_,BB⟩
   show Ending.returned (a.eval (.tmp 4))=_
   rw [t4]
 ·rw [decide_eq_true hm] at t11
  refine wp_cond_true t11 ?_
  refine wp_seq ?_
  rw [decide_eq_false hm,Bool.false_and]
  refine wi_ A (h2_ t0 t1) (rg_ [(4,.bool false)] ?_)
  rintro a A ⟨t4,-⟩
  refine wp_ret ?_
  repeat (first | with_reducible refine ret_in ?_ | with_reducible refine ret_then ?_)
  refine bodyPost_ret (results_tmp rfl _ _ _) A.2 ⟨?_,BB⟩
  show Ending.returned (a.eval (.tmp 4))=_
  rw [t4]
set_option maxRecDepth 100000 in
set_option maxHeartbeats 4000000 in
theorem rfrom_nat (N:Nat) (d:Nat->Int) (m:Nat) (v:Value) (V:World) (hv:SliceI V v m d) (hm17:m<=17592186043904) :
  Calls Try.prog 53 #[.int .i64 ((N:Nat):Int),v] V fun e w'=>∃ r,e=.returned (.tuple #[r,.int .i64 ((frE (N:Int) d m:Nat):Int)])/\w'.ownsRow V.heap.size 3 1 r (zl (frE (N:Int) d m) ((N:Int)).toNat) (intsL (zl (frE (N:Int) d m) ((N:Int)).toNat) (fun j=>(frA N (gN d) m j:Int)))/\Below V.heap.size V w':=by
 obtain ⟨ia,ic,rfl,-,-,hsh⟩:=id hv.shape
 have FI:=hv
 go_enter Try.func53,Try.ntmps53
 refine wp_seq ?_
 refine wo_ 66 [(0,.int .i64 ((N:Nat):Int)),(1,.slice ia m ic)] ?_
 rintro a A ⟨t0,t1,-⟩
 refine wi_ A (h2_ t0 t1) (rf_ [] (h2_ t0 t1) ?_)
 rintro a A - ⟨t0,t1,-⟩
 have BW:Below V.heap.size V V:=Below.refl _ _
 have BB:=BW
 refine wp_seq (wp_seq ?_)
 refine wi_ A (h2_ t0 t1) (rv_ 1 (.bool false) (fun a e=>execDec (execLtW (p:=N) (q:=0) rfl (e _) rfl) (decide_eq_false (by omega))) (rf_ [(12,.bool false)] (h2_ t0 t1) ?_))
 rintro a A ⟨t12,-⟩ ⟨t0,t1,-⟩
 refine wp_cond_false t12 (wp_skip ?_)
 clear t12
 refine wp_seq (wp_seq ?_)
 by_cases h1:m=N - 1
 ·by_cases hf:fitQ d N m=true
  ·by_cases hN1:N=m+1
   ·have hwf:∀ X,Below V.heap.size V X->Calls Try.prog 80 #[.int .i64 ((N:Nat):Int),.slice ia m ic] X fun e w'=>e=.returned (.bool true)/\Below X.heap.size X w':=fun X hX=>by have h_:=rfit N d m _ X (FI.on hX) (by omega) (by omega); rw [decide_eq_true h1,Bool.true_and,hf] at h_; exact h_
    refine wi_ A (h2_ t0 t1) (rv_ 2 (.int .i64 ((m:Nat):Int)) (fun a e=>execLenI (len:=m) rfl (e _) ((FI.on BB)).shp) (rv_ 3 (.int .i64 ((m+1:Nat):Int)) (fun a e=>execAd8 (p:=m) (q:=1) rfl (e _) rfl (by omega)) (rv_ 4 (.bool false) (fun a e=>execDec (execNeN (p:=N) (q:=m+1) rfl (e _) (e _)) (decide_eq_false (by omega))) (rc_ 18 (hwf V BB) (cb_ fun X3 bQ=>?_)))))
    replace BB:=BB.trans (bQ.mono BB.size)
    clear bQ
    refine rv_ 19 (.bool false) (fun a e=>execNot8 (b:=true) rfl (e _)) (rf_ [(33,.bool false)] (h2_ t0 t1) ?_)
    rintro a A ⟨t33,-⟩ ⟨t0,t1,-⟩
    refine wp_cond_false t33 (wp_skip ?_)
    clear t33
    have hE:frE (N:Int) d m=0:=frE_ok h1 hf
    have hd:=fitQ_iff.1 hf
    refine wp_seq ?_
    refine wi_ A (h2_ t0 t1) (rc_ 1 (rident (N:Int) X3 (by omega)) fun e X5 hh=>?_)
    obtain ⟨v35,he,hk,hb⟩:=hh
    rw [Int.toNat_natCast] at hk
    refine ⟨_,he,?_⟩
    have bQ:Below X3.heap.size X3 X5:=hb
    have FO:(X5.ownsRow V.heap.size 3 1 v35 (N) (intsL (N) (fun j=>(frA N (gN d) 0 j:Int)))):=ownD_base hk (BB).size
    replace BB:=BB.trans (bQ.mono BB.size)
    clear bQ
    refine rf_ [(6,v35)] (h2_ t0 t1) ?_
    rintro a A ⟨t6,-⟩ ⟨t0,t1,-⟩
    refine wp_seq (wp_seq ?_)
    refine wi_ A (h3_ t0 t1 t6) (rf_ [(7,.int .i64 ((0:Nat):Int))] (h3_ t0 t1 t6) ?_)
    rintro a A ⟨t7,-⟩ ⟨t0,t1,t6,-⟩
    refine wp_block ?_
    refine wp_loop (fun a W=>∃ (i:Nat),i<=m/\(a.tmps.size=66/\a.defers=[])/\a.eval (.tmp 0)=.int .i64 ((N:Nat):Int)/\a.eval (.tmp 1)=.slice ia m ic/\a.eval (.tmp 6)=v35/\a.eval (.tmp 7)=.int .i64 ((i:Nat):Int)/\Below V.heap.size V W/\(W.ownsRow V.heap.size 3 1 v35 (N) (intsL (N) (fun j=>(frA N (gN d) i j:Int))))) (fun a _=>m - (intOf (a.eval (.tmp 7))).toNat) ⟨0,Nat.zero_le _,A,t0,t1,t6,t7,BB,FO⟩ ?_
    rintro a XL7 ⟨i,hi,A,t0,t1,t6,t7,BB,FO⟩
    have es:=t7
    refine wp_seq (wp_seq ?_)
    refine wi_ A (h4_ t0 t1 t6 t7) (rv_ 2 (.int .i64 ((m:Nat):Int)) (fun a e=>execLenI (len:=m) rfl (e _) ((FI.on BB)).shp) (rv_ 3 (.bool (decide (i < m))) (fun a e=>execLtW (p:=i) (q:=m) rfl (e _) (e _)) (rf_ [(39,.bool (decide (i < m)))] (h4_ t0 t1 t6 t7) ?_)))
    rintro a A ⟨t39,-⟩ ⟨t0,t1,t6,t7,-⟩
    by_cases hlt:i < m
    ·rw [decide_eq_true hlt] at t39
     refine wp_cond_true t39 (wp_skip ?_)
     clear t39
     refine wp_seq (wp_block ?_)
     have hdi:=hd i hlt
     obtain ⟨w,ew⟩:∃ w:Nat,d i=w:=⟨(d i).toNat,by omega⟩
     have hw:w < N:=by omega
     have hg:gN d i=w:=by show (d i).toNat=w; omega
     obtain ⟨ib,io,rfl,hib,hcell⟩:=hsh (by omega)
     have cI:∀ k,k < m->∀ X,Below V.heap.size V X->X.cell? ⟨ib,io+k,none⟩=some (.int .i64 (d k)):=fun k hk X hX=>by rw [cell_below hX hib]; exact hcell k hk
     have cW:∀ X,Below V.heap.size V X->X.cell? ⟨ib,io+i,none⟩=some (.int .i64 ((w:Nat):Int)):=fun X hX=>by rw [cI i hlt X hX,ew]
     obtain ⟨ga,ca,rfl,hga,_⟩:=ownL_some9 FO (by omega)
     obtain ⟨I,eI⟩:∃ I,N - 1 - i=I:=⟨_,rfl⟩
     have hI:I < N:=by omega
     refine wp_seq ?_
     refine wj_ [0,1,2,3,4,5,6,7,8,9] [] [7] [] A (h4_ t0 t1 t6 t7) (fun X9 bD=>?_)
     refine dw_ 1 (.int .i64 ((N - 1:Nat):Int)) (fun a X e=>By8.execSubI (p:=N) (q:=1) rfl (e _) rfl (by omega) (by omega)) (dw_ 3 (.int .i64 ((N - 1 - i:Nat):Int)) (fun a X e=>By8.execSubI (p:=N - 1) (q:=i) rfl (e _) (e _) (by omega) (by omega)) (dw_ 6 (.pointer (some ⟨ib,io+i,none⟩)) (fun a X e=>execIdxN (k:=i) rfl (e _) (e _) hlt) (dv_ 7 (.int .i64 ((w:Nat):Int)) (fun a X e hb=>execLd3 rfl (e _) (cW X (BB.trans (hb.mono BB.size)))) (dz_ [(8,.int .i64 ((N - 1 - i:Nat):Int)),(9,.int .i64 ((w:Nat):Int))] (h4_ t0 t1 t6 t7) ?_))))
     rintro a A ⟨t8,t9,-⟩ ⟨t0,t1,t6,t7,-⟩
     replace FO:=(ownD_below FO bD)
     replace BB:=BB.trans (bD.mono BB.size)
     clear bD
     rw [eI] at t8
     refine wp_seq ?_
     refine wi_ A (h6_ t0 t1 t6 t7 t8 t9) (rv_ 2 (.pointer (some ⟨ga,0+I,none⟩)) (fun a e=>execIdxN (k:=I) rfl (e _) (e _) hI) (rv_ 3 (.int .i64 ((frA N (gN d) i I:Nat):Int)) (fun a e=>execLd3 rfl (e _) (own_cellI FO hI).1) (rf_ [(10,.int .i64 ((frA N (gN d) i I:Nat):Int))] (h6_ t0 t1 t6 t7 t8 t9) ?_)))
     rintro a A ⟨t10,-⟩ ⟨t0,t1,t6,t7,t8,t9,-⟩
     refine wp_seq ?_
     refine wi_ A (h7_ t0 t1 t6 t7 t8 t9 t10) (rv_ 4 (.pointer (some ⟨ga,0+w,none⟩)) (fun a e=>execIdxN (k:=w) rfl (e _) (e _) hw) (rv_ 5 (.int .i64 ((frA N (gN d) i w:Nat):Int)) (fun a e=>execLd3 rfl (e _) (own_cellI FO hw).1) (rv_ 6 (.pointer (some ⟨ga,0+I,none⟩)) (fun a e=>execIdxN (k:=I) rfl (e _) (e _) hI) (rs_ 7 (fun a e=>?_)))))
     obtain ⟨hc_,hf_⟩:=own_cellI FO hI
     refine stepS rfl rfl (execStI9 rfl (e _) (e _) hc_ hf_) ⟨_,⟨_,rfl,rfl⟩,fun X11 hX=>?_⟩
     obtain ⟨BB,FO1⟩:Below V.heap.size V X11/\(X11.ownsRow V.heap.size 3 1 (.slice (some ⟨ga,0,none⟩) N ca) (N) (intsL (N) (fun j=>if j=I then ((frA N (gN d) i w:Nat):Int) else (fun j=>(frA N (gN d) i j:Int)) j))):=by subst hX; exact ⟨(BB).setCell hga _,own_setF _ FO⟩
     clear FO hX e a
     refine rf_ [] (h7_ t0 t1 t6 t7 t8 t9 t10) ?_
     rintro a A - ⟨t0,t1,t6,t7,t8,t9,t10,-⟩
     refine wi_ A (h7_ t0 t1 t6 t7 t8 t9 t10) (rv_ 3 (.pointer (some ⟨ga,0+w,none⟩)) (fun a e=>execIdxN (k:=w) rfl (e _) (e _) hw) (rs_ 4 (fun a e=>?_)))
     obtain ⟨hc_,hf_⟩:=own_cellI FO1 hw
     refine stepS rfl rfl (execStI9 rfl (e _) (e _) hc_ hf_) ⟨_,⟨_,rfl,rfl⟩,fun X12 hX=>?_⟩
     obtain ⟨BB,FO2⟩:Below V.heap.size V X12/\(X12.ownsRow V.heap.size 3 1 (.slice (some ⟨ga,0,none⟩) N ca) (N) (intsL (N) (fun j=>(frA N (gN d) (i+1) j:Int)))):=by subst hX; exact ⟨(BB).setCell hga _,fr_set FO1 eI hg⟩
     clear FO1 hX e a
     refine rf_ [] (h4_ t0 t1 t6 t7) ?_
     rintro a A - ⟨t0,t1,t6,t7,-⟩
     refine wi_ A (h4_ t0 t1 t6 t7) (rv_ 1 (.int .i64 ((i+1:Nat):Int)) (fun a e=>execAd8 (p:=i) (q:=1) rfl (e _) rfl (by omega)) (rf_ [(7,.int .i64 ((i+1:Nat):Int))] (h3_ t0 t1 t6) ?_))
     rintro a A ⟨t7,-⟩ ⟨t0,t1,t6,-⟩
     exact ⟨⟨i+1,hlt,A,t0,t1,t6,t7,BB,FO2⟩,by show m - (intOf (a.eval (.tmp 7))).toNat < m - (intOf (Act.eval _ (.tmp 7))).toNat; rw [t7,es]; show m - (i+1) < m - i; omega⟩
    ·rw [decide_eq_false hlt] at t39
     refine wp_cond_false t39 ?_
     refine wp_exit ?_
     first | with_reducible refine exit_in ?_ | with_reducible refine exit_then (exit_in ?_) | with_reducible refine exit_then (exit_then (exit_in ?_)) | refine exit_in ?_ | refine exit_then (exit_in ?_) | refine exit_then (exit_then (exit_in ?_))
     clear t39 es
     have hin:i=m:=by omega
     rw [hin] at FO
     refine wp_seq ?_
     refine wi_ A (h4_ t0 t1 t6 t7) (rg_ [(4,v35),(5,.int .i64 ((0:Nat):Int))] ?_)
     rintro a A ⟨t4,t5,-⟩
     rw [hE,zl_ok,Int.toNat_natCast]
     refine wp_ret ?_
     refine bodyPost_ret (results_tmp2 rfl _ _ _) A.2 ⟨_,?_,FO,BB⟩
     show Ending.returned (.tuple #[a.eval (.tmp 4),a.eval (.tmp 5)])=_
     rw [t4,t5]
   ·have hwf:∀ X,Below V.heap.size V X->Calls Try.prog 80 #[.int .i64 ((N:Nat):Int),.slice ia m ic] X fun e w'=>e=.returned (.bool true)/\Below X.heap.size X w':=fun X hX=>by have h_:=rfit N d m _ X (FI.on hX) (by omega) (by omega); rw [decide_eq_true h1,Bool.true_and,hf] at h_; exact h_
    refine wi_ A (h2_ t0 t1) (rv_ 2 (.int .i64 ((m:Nat):Int)) (fun a e=>execLenI (len:=m) rfl (e _) ((FI.on BB)).shp) (rv_ 3 (.int .i64 ((m+1:Nat):Int)) (fun a e=>execAd8 (p:=m) (q:=1) rfl (e _) rfl (by omega)) (rv_ 4 (.bool true) (fun a e=>execDec (execNeN (p:=N) (q:=m+1) rfl (e _) (e _)) (decide_eq_true (by omega))) (rv_ 7 (.bool true) (fun a e=>execDec (execEqN (p:=N) (q:=0) rfl (e _) rfl) (decide_eq_true (by omega))) (rv_ 10 (.int .i64 ((m:Nat):Int)) (fun a e=>execLenI (len:=m) rfl (e _) ((FI.on BB)).shp) (rv_ 11 (.bool true) (fun a e=>execDec (execEqN (p:=m) (q:=0) rfl (e _) rfl) (decide_eq_true (by omega))) (rv_ 13 (.bool false) (fun a e=>execNot8 (b:=true) rfl (e _)) (rc_ 18 (hwf V BB) (cb_ fun X3 bQ=>?_)))))))))
    replace BB:=BB.trans (bQ.mono BB.size)
    clear bQ
    refine rv_ 19 (.bool false) (fun a e=>execNot8 (b:=true) rfl (e _)) (rf_ [(33,.bool false)] (h2_ t0 t1) ?_)
    rintro a A ⟨t33,-⟩ ⟨t0,t1,-⟩
    refine wp_cond_false t33 (wp_skip ?_)
    clear t33
    have hE:frE (N:Int) d m=0:=frE_ok h1 hf
    have hd:=fitQ_iff.1 hf
    refine wp_seq ?_
    refine wi_ A (h2_ t0 t1) (rc_ 1 (rident (N:Int) X3 (by omega)) fun e X5 hh=>?_)
    obtain ⟨v35,he,hk,hb⟩:=hh
    rw [Int.toNat_natCast] at hk
    refine ⟨_,he,?_⟩
    have bQ:Below X3.heap.size X3 X5:=hb
    have FO:(X5.ownsRow V.heap.size 3 1 v35 (N) (intsL (N) (fun j=>(frA N (gN d) 0 j:Int)))):=ownD_base hk (BB).size
    replace BB:=BB.trans (bQ.mono BB.size)
    clear bQ
    refine rf_ [(6,v35)] (h2_ t0 t1) ?_
    rintro a A ⟨t6,-⟩ ⟨t0,t1,-⟩
    refine wp_seq (wp_seq ?_)
    refine wi_ A (h3_ t0 t1 t6) (rf_ [(7,.int .i64 ((0:Nat):Int))] (h3_ t0 t1 t6) ?_)
    rintro a A ⟨t7,-⟩ ⟨t0,t1,t6,-⟩
    refine wp_block ?_
    refine wp_loop (fun a W=>∃ (i:Nat),i<=m/\(a.tmps.size=66/\a.defers=[])/\a.eval (.tmp 0)=.int .i64 ((N:Nat):Int)/\a.eval (.tmp 1)=.slice ia m ic/\a.eval (.tmp 6)=v35/\a.eval (.tmp 7)=.int .i64 ((i:Nat):Int)/\Below V.heap.size V W/\(W.ownsRow V.heap.size 3 1 v35 (N) (intsL (N) (fun j=>(frA N (gN d) i j:Int))))) (fun a _=>m - (intOf (a.eval (.tmp 7))).toNat) ⟨0,Nat.zero_le _,A,t0,t1,t6,t7,BB,FO⟩ ?_
    rintro a XL7 ⟨i,hi,A,t0,t1,t6,t7,BB,FO⟩
    have es:=t7
    refine wp_seq (wp_seq ?_)
    refine wi_ A (h4_ t0 t1 t6 t7) (rv_ 2 (.int .i64 ((m:Nat):Int)) (fun a e=>execLenI (len:=m) rfl (e _) ((FI.on BB)).shp) (rv_ 3 (.bool (decide (i < m))) (fun a e=>execLtW (p:=i) (q:=m) rfl (e _) (e _)) (rf_ [(39,.bool (decide (i < m)))] (h4_ t0 t1 t6 t7) ?_)))
    rintro a A ⟨t39,-⟩ ⟨t0,t1,t6,t7,-⟩
    by_cases hlt:i < m
    ·rw [decide_eq_true hlt] at t39
     refine wp_cond_true t39 (wp_skip ?_)
     clear t39
     refine wp_seq (wp_block ?_)
     have hdi:=hd i hlt
     obtain ⟨w,ew⟩:∃ w:Nat,d i=w:=⟨(d i).toNat,by omega⟩
     have hw:w < N:=by omega
     have hg:gN d i=w:=by show (d i).toNat=w; omega
     obtain ⟨ib,io,rfl,hib,hcell⟩:=hsh (by omega)
     have cI:∀ k,k < m->∀ X,Below V.heap.size V X->X.cell? ⟨ib,io+k,none⟩=some (.int .i64 (d k)):=fun k hk X hX=>by rw [cell_below hX hib]; exact hcell k hk
     have cW:∀ X,Below V.heap.size V X->X.cell? ⟨ib,io+i,none⟩=some (.int .i64 ((w:Nat):Int)):=fun X hX=>by rw [cI i hlt X hX,ew]
     obtain ⟨ga,ca,rfl,hga,_⟩:=ownL_some9 FO (by omega)
     obtain ⟨I,eI⟩:∃ I,N - 1 - i=I:=⟨_,rfl⟩
     have hI:I < N:=by omega
     refine wp_seq ?_
     refine wj_ [0,1,2,3,4,5,6,7,8,9] [] [7] [] A (h4_ t0 t1 t6 t7) (fun X9 bD=>?_)
     refine dw_ 1 (.int .i64 ((N - 1:Nat):Int)) (fun a X e=>By8.execSubI (p:=N) (q:=1) rfl (e _) rfl (by omega) (by omega)) (dw_ 3 (.int .i64 ((N - 1 - i:Nat):Int)) (fun a X e=>By8.execSubI (p:=N - 1) (q:=i) rfl (e _) (e _) (by omega) (by omega)) (dw_ 6 (.pointer (some ⟨ib,io+i,none⟩)) (fun a X e=>execIdxN (k:=i) rfl (e _) (e _) hlt) (dv_ 7 (.int .i64 ((w:Nat):Int)) (fun a X e hb=>execLd3 rfl (e _) (cW X (BB.trans (hb.mono BB.size)))) (dz_ [(8,.int .i64 ((N - 1 - i:Nat):Int)),(9,.int .i64 ((w:Nat):Int))] (h4_ t0 t1 t6 t7) ?_))))
     rintro a A ⟨t8,t9,-⟩ ⟨t0,t1,t6,t7,-⟩
     replace FO:=(ownD_below FO bD)
     replace BB:=BB.trans (bD.mono BB.size)
     clear bD
     rw [eI] at t8
     refine wp_seq ?_
     refine wi_ A (h6_ t0 t1 t6 t7 t8 t9) (rv_ 2 (.pointer (some ⟨ga,0+I,none⟩)) (fun a e=>execIdxN (k:=I) rfl (e _) (e _) hI) (rv_ 3 (.int .i64 ((frA N (gN d) i I:Nat):Int)) (fun a e=>execLd3 rfl (e _) (own_cellI FO hI).1) (rf_ [(10,.int .i64 ((frA N (gN d) i I:Nat):Int))] (h6_ t0 t1 t6 t7 t8 t9) ?_)))
     rintro a A ⟨t10,-⟩ ⟨t0,t1,t6,t7,t8,t9,-⟩
     refine wp_seq ?_
     refine wi_ A (h7_ t0 t1 t6 t7 t8 t9 t10) (rv_ 4 (.pointer (some ⟨ga,0+w,none⟩)) (fun a e=>execIdxN (k:=w) rfl (e _) (e _) hw) (rv_ 5 (.int .i64 ((frA N (gN d) i w:Nat):Int)) (fun a e=>execLd3 rfl (e _) (own_cellI FO hw).1) (rv_ 6 (.pointer (some ⟨ga,0+I,none⟩)) (fun a e=>execIdxN (k:=I) rfl (e _) (e _) hI) (rs_ 7 (fun a e=>?_)))))
     obtain ⟨hc_,hf_⟩:=own_cellI FO hI
     refine stepS rfl rfl (execStI9 rfl (e _) (e _) hc_ hf_) ⟨_,⟨_,rfl,rfl⟩,fun X11 hX=>?_⟩
     obtain ⟨BB,FO1⟩:Below V.heap.size V X11/\(X11.ownsRow V.heap.size 3 1 (.slice (some ⟨ga,0,none⟩) N ca) (N) (intsL (N) (fun j=>if j=I then ((frA N (gN d) i w:Nat):Int) else (fun j=>(frA N (gN d) i j:Int)) j))):=by subst hX; exact ⟨(BB).setCell hga _,own_setF _ FO⟩
     clear FO hX e a
     refine rf_ [] (h7_ t0 t1 t6 t7 t8 t9 t10) ?_
     rintro a A - ⟨t0,t1,t6,t7,t8,t9,t10,-⟩
     refine wi_ A (h7_ t0 t1 t6 t7 t8 t9 t10) (rv_ 3 (.pointer (some ⟨ga,0+w,none⟩)) (fun a e=>execIdxN (k:=w) rfl (e _) (e _) hw) (rs_ 4 (fun a e=>?_)))
     obtain ⟨hc_,hf_⟩:=own_cellI FO1 hw
     refine stepS rfl rfl (execStI9 rfl (e _) (e _) hc_ hf_) ⟨_,⟨_,rfl,rfl⟩,fun X12 hX=>?_⟩
     obtain ⟨BB,FO2⟩:Below V.heap.size V X12/\(X12.ownsRow V.heap.size 3 1 (.slice (some ⟨ga,0,none⟩) N ca) (N) (intsL (N) (fun j=>(frA N (gN d) (i+1) j:Int)))):=by subst hX; exact ⟨(BB).setCell hga _,fr_set FO1 eI hg⟩
     clear FO1 hX e a
     refine rf_ [] (h4_ t0 t1 t6 t7) ?_
     rintro a A - ⟨t0,t1,t6,t7,-⟩
     refine wi_ A (h4_ t0 t1 t6 t7) (rv_ 1 (.int .i64 ((i+1:Nat):Int)) (fun a e=>execAd8 (p:=i) (q:=1) rfl (e _) rfl (by omega)) (rf_ [(7,.int .i64 ((i+1:Nat):Int))] (h3_ t0 t1 t6) ?_))
     rintro a A ⟨t7,-⟩ ⟨t0,t1,t6,-⟩
     exact ⟨⟨i+1,hlt,A,t0,t1,t6,t7,BB,FO2⟩,by show m - (intOf (a.eval (.tmp 7))).toNat < m - (intOf (Act.eval _ (.tmp 7))).toNat; rw [t7,es]; show m - (i+1) < m - i; omega⟩
    ·rw [decide_eq_false hlt] at t39
     refine wp_cond_false t39 ?_
     refine wp_exit ?_
     first | with_reducible refine exit_in ?_ | with_reducible refine exit_then (exit_in ?_) | with_reducible refine exit_then (exit_then (exit_in ?_)) | refine exit_in ?_ | refine exit_then (exit_in ?_) | refine exit_then (exit_then (exit_in ?_))
     clear t39 es
     have hin:i=m:=by omega
     rw [hin] at FO
     refine wp_seq ?_
     refine wi_ A (h4_ t0 t1 t6 t7) (rg_ [(4,v35),(5,.int .i64 ((0:Nat):Int))] ?_)
     rintro a A ⟨t4,t5,-⟩
     rw [hE,zl_ok,Int.toNat_natCast]
     refine wp_ret ?_
     refine bodyPost_ret (results_tmp2 rfl _ _ _) A.2 ⟨_,?_,FO,BB⟩
     show Ending.returned (.tuple #[a.eval (.tmp 4),a.eval (.tmp 5)])=_
     rw [t4,t5]
  ·have hff:=Bool.eq_false_iff.2 hf
   by_cases hN1:N=m+1
   ·have hwf:∀ X,Below V.heap.size V X->Calls Try.prog 80 #[.int .i64 ((N:Nat):Int),.slice ia m ic] X fun e w'=>e=.returned (.bool false)/\Below X.heap.size X w':=fun X hX=>by have h_:=rfit N d m _ X (FI.on hX) (by omega) (by omega); rw [decide_eq_true h1,Bool.true_and,hff] at h_; exact h_
    refine wi_ A (h2_ t0 t1) (rv_ 2 (.int .i64 ((m:Nat):Int)) (fun a e=>execLenI (len:=m) rfl (e _) ((FI.on BB)).shp) (rv_ 3 (.int .i64 ((m+1:Nat):Int)) (fun a e=>execAd8 (p:=m) (q:=1) rfl (e _) rfl (by omega)) (rv_ 4 (.bool false) (fun a e=>execDec (execNeN (p:=N) (q:=m+1) rfl (e _) (e _)) (decide_eq_false (by omega))) (rc_ 18 (hwf V BB) (cb_ fun X3 bQ=>?_)))))
    replace BB:=BB.trans (bQ.mono BB.size)
    clear bQ
    refine rv_ 19 (.bool true) (fun a e=>execNot8 (b:=false) rfl (e _)) (rf_ [(33,.bool true)] (h2_ t0 t1) ?_)
    rintro a A ⟨t33,-⟩ ⟨t0,t1,-⟩
    refine wp_cond_true t33 ?_
    refine wp_seq ?_
    refine wi_ A (h2_ t0 t1) (rg_ [(4,.slice none 0 0),(5,.int .i64 ((110:Nat):Int))] ?_)
    rintro a A ⟨t4,t5,-⟩
    have hE:frE (N:Int) d m=110:=frE_no (fun q=>hf q.2)
    rw [hE,zl_no (by decide)]
    refine wp_ret ?_
    repeat (first | with_reducible refine ret_in ?_ | with_reducible refine ret_then ?_)
    refine bodyPost_ret (results_tmp2 rfl _ _ _) A.2 ⟨_,?_,World.ownsRow_nil _ _ _ _,BB⟩
    show Ending.returned (.tuple #[a.eval (.tmp 4),a.eval (.tmp 5)])=_
    rw [t4,t5]
   ·have hwf:∀ X,Below V.heap.size V X->Calls Try.prog 80 #[.int .i64 ((N:Nat):Int),.slice ia m ic] X fun e w'=>e=.returned (.bool false)/\Below X.heap.size X w':=fun X hX=>by have h_:=rfit N d m _ X (FI.on hX) (by omega) (by omega); rw [decide_eq_true h1,Bool.true_and,hff] at h_; exact h_
    refine wi_ A (h2_ t0 t1) (rv_ 2 (.int .i64 ((m:Nat):Int)) (fun a e=>execLenI (len:=m) rfl (e _) ((FI.on BB)).shp) (rv_ 3 (.int .i64 ((m+1:Nat):Int)) (fun a e=>execAd8 (p:=m) (q:=1) rfl (e _) rfl (by omega)) (rv_ 4 (.bool true) (fun a e=>execDec (execNeN (p:=N) (q:=m+1) rfl (e _) (e _)) (decide_eq_true (by omega))) (rv_ 7 (.bool true) (fun a e=>execDec (execEqN (p:=N) (q:=0) rfl (e _) rfl) (decide_eq_true (by omega))) (rv_ 10 (.int .i64 ((m:Nat):Int)) (fun a e=>execLenI (len:=m) rfl (e _) ((FI.on BB)).shp) (rv_ 11 (.bool true) (fun a e=>execDec (execEqN (p:=m) (q:=0) rfl (e _) rfl) (decide_eq_true (by omega))) (rv_ 13 (.bool false) (fun a e=>execNot8 (b:=true) rfl (e _)) (rc_ 18 (hwf V BB) (cb_ fun X3 bQ=>?_)))))))))
    replace BB:=BB.trans (bQ.mono BB.size)
    clear bQ
    refine rv_ 19 (.bool true) (fun a e=>execNot8 (b:=false) rfl (e _)) (rf_ [(33,.bool true)] (h2_ t0 t1) ?_)
    rintro a A ⟨t33,-⟩ ⟨t0,t1,-⟩
    refine wp_cond_true t33 ?_
    refine wp_seq ?_
    refine wi_ A (h2_ t0 t1) (rg_ [(4,.slice none 0 0),(5,.int .i64 ((110:Nat):Int))] ?_)
    rintro a A ⟨t4,t5,-⟩
    have hE:frE (N:Int) d m=110:=frE_no (fun q=>hf q.2)
    rw [hE,zl_no (by decide)]
    refine wp_ret ?_
    repeat (first | with_reducible refine ret_in ?_ | with_reducible refine ret_then ?_)
    refine bodyPost_ret (results_tmp2 rfl _ _ _) A.2 ⟨_,?_,World.ownsRow_nil _ _ _ _,BB⟩
    show Ending.returned (.tuple #[a.eval (.tmp 4),a.eval (.tmp 5)])=_
    rw [t4,t5]
 ·by_cases hN0:N=0
  ·refine wi_ A (h2_ t0 t1) (rv_ 2 (.int .i64 ((m:Nat):Int)) (fun a e=>execLenI (len:=m) rfl (e _) ((FI.on BB)).shp) (rv_ 3 (.int .i64 ((m+1:Nat):Int)) (fun a e=>execAd8 (p:=m) (q:=1) rfl (e _) rfl (by omega)) (rv_ 4 (.bool true) (fun a e=>execDec (execNeN (p:=N) (q:=m+1) rfl (e _) (e _)) (decide_eq_true (by omega))) (rv_ 7 (.bool true) (fun a e=>execDec (execEqN (p:=N) (q:=0) rfl (e _) rfl) (decide_eq_true (by omega))) (rv_ 10 (.int .i64 ((m:Nat):Int)) (fun a e=>execLenI (len:=m) rfl (e _) ((FI.on BB)).shp) (rv_ 11 (.bool false) (fun a e=>execDec (execEqN (p:=m) (q:=0) rfl (e _) rfl) (decide_eq_false (by omega))) (rv_ 13 (.bool true) (fun a e=>execNot8 (b:=false) rfl (e _)) (rf_ [(33,.bool true)] (h2_ t0 t1) ?_))))))))
   rintro a A ⟨t33,-⟩ ⟨t0,t1,-⟩
   refine wp_cond_true t33 ?_
   refine wp_seq ?_
   refine wi_ A (h2_ t0 t1) (rg_ [(4,.slice none 0 0),(5,.int .i64 ((110:Nat):Int))] ?_)
   rintro a A ⟨t4,t5,-⟩
   have hE:frE (N:Int) d m=110:=frE_no (fun q=>h1 q.1)
   rw [hE,zl_no (by decide)]
   refine wp_ret ?_
   repeat (first | with_reducible refine ret_in ?_ | with_reducible refine ret_then ?_)
   refine bodyPost_ret (results_tmp2 rfl _ _ _) A.2 ⟨_,?_,World.ownsRow_nil _ _ _ _,BB⟩
   show Ending.returned (.tuple #[a.eval (.tmp 4),a.eval (.tmp 5)])=_
   rw [t4,t5]
  ·refine wi_ A (h2_ t0 t1) (rv_ 2 (.int .i64 ((m:Nat):Int)) (fun a e=>execLenI (len:=m) rfl (e _) ((FI.on BB)).shp) (rv_ 3 (.int .i64 ((m+1:Nat):Int)) (fun a e=>execAd8 (p:=m) (q:=1) rfl (e _) rfl (by omega)) (rv_ 4 (.bool true) (fun a e=>execDec (execNeN (p:=N) (q:=m+1) rfl (e _) (e _)) (decide_eq_true (by omega))) (rv_ 7 (.bool false) (fun a e=>execDec (execEqN (p:=N) (q:=0) rfl (e _) rfl) (decide_eq_false (by omega))) (rv_ 13 (.bool true) (fun a e=>execNot8 (b:=false) rfl (e _)) (rf_ [(33,.bool true)] (h2_ t0 t1) ?_))))))
   rintro a A ⟨t33,-⟩ ⟨t0,t1,-⟩
   refine wp_cond_true t33 ?_
   refine wp_seq ?_
   refine wi_ A (h2_ t0 t1) (rg_ [(4,.slice none 0 0),(5,.int .i64 ((110:Nat):Int))] ?_)
   rintro a A ⟨t4,t5,-⟩
   have hE:frE (N:Int) d m=110:=frE_no (fun q=>h1 q.1)
   rw [hE,zl_no (by decide)]
   refine wp_ret ?_
   repeat (first | with_reducible refine ret_in ?_ | with_reducible refine ret_then ?_)
   refine bodyPost_ret (results_tmp2 rfl _ _ _) A.2 ⟨_,?_,World.ownsRow_nil _ _ _ _,BB⟩
   show Ending.returned (.tuple #[a.eval (.tmp 4),a.eval (.tmp 5)])=_
   rw [t4,t5]
end Go.Proofs.Ytmjpneaccjlpkaa.Prm
