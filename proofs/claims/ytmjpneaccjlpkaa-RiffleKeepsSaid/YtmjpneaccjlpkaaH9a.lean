import Derived.Test.YtmjpneaccjlpkaaG9h
import Derived.Test.YtmjpneaccjlpkaaF9b
namespace Go.Proofs.Ytmjpneaccjlpkaa.Drw
open Go.RowKit Gf8 Aes By8 Cel Cf Tap
/- What the program's draw answers (Impl); the laws' alive, DrawAlls, DrawTurns over any Impl. Written by tools/mkG9i.py. -/
structure Impl:Prop where
 below:∀ (p:Nat->Nat) (l at':Nat) (b:Int) (V:World),at'<=l->l<=140737488351232->(∀ j,j < l->p j < 256)->
  Calls Try.prog 67 #[.agg (tpC p l at'),.int .i64 b] V fun e w'=>e=.returned (.tuple #[.int .i64 ((dV p l at' b:Nat):Int),.agg (tpC p (if dE p l at' b=0 then l else 0) (dN p l at' b)),.int .i64 ((dE p l at' b:Nat):Int)])/\Below V.heap.size V w'
 all:∀ (p:Nat->Nat) (l:Nat) (bs:Nat->Int) (n:Nat) (pv bv:Value) (V:World),SliceN V pv l p->l<=140737488351232->SliceI V bv n bs->n<=17592186044416->
  Calls Try.prog 41 #[pv,bv] V fun e w'=>∃ r,e=.returned (.tuple #[r,.int .i64 ((allK p l bs n:Nat):Int),.int .i64 ((allE p l bs n:Nat):Int)])/\w'.ownsRow V.heap.size 3 1 r (allN p l bs n) (intsL (allN p l bs n) (fun i=>(dA p l bs i:Int)))/\Below V.heap.size V w'
 turn:∀ (p:Nat->Nat) (l:Nat) (bs ws:Nat->Int) (n m:Nat) (pv bv wv:Value) (V:World),SliceN V pv l p->l<=140737488351232->(∀ l c,pv=.slice none l c->c=0)->SliceI V bv n bs->n<=17592186044416->SliceI V wv m ws->m<=17592186044416->
  Calls Try.prog 62 #[pv,bv,wv] V fun e w'=>∃ r,e=.returned (.tuple #[r,.int .i64 ((trE p l bs n ws m:Nat):Int)])/\TkA w' V.heap.size r (trN p l bs n ws m) (trF p l bs ws n)/\Below V.heap.size V w'
theorem dV_le (p:Nat->Nat) (l at':Nat) (b:Int):dV p l at' b<=256:=by
 unfold dV
 by_cases h:dE p l at' b=0/\b ≠ 1
 ·rw [if_pos h]
  have hb:=(dE_ok h.1).1
  unfold bad at hb
  have:p (dS p l at' b) % b.toNat < b.toNat:=Nat.mod_lt _ (by omega)
  omega
 ·rw [if_neg h]; omega
theorem dA_fits (p:Nat->Nat) (l:Nat) (bs:Nat->Int) (n:Nat):∀ j,j < n->-9223372036854775808<=((dA p l bs j:Nat):Int)/\((dA p l bs j:Nat):Int) < 9223372036854775808:=fun j _=>by
 have:=dV_le p l (plA p l bs j) (bs j)
 unfold dA
 omega
def b1:Nat->Int:=fun j=>if j=0 then 3 else if j=1 then 1 else 256
end Go.Proofs.Ytmjpneaccjlpkaa.Drw

namespace Go.Proofs.Ytmjpneaccjlpkaa.Drw
open Go.RowKit Gf8 Aes By8 Cel Cf Tap
/- DrawEven over any Impl. Written by tools/mkG9k.py. -/
theorem tk_nil {W:World} {B n:Nat} {v:Value} {q:Nat->Nat} (h:TkA W B v n q):∀ l c,v=.slice none l c->c=0:=by
 intro l c e
 rcases h with ⟨rfl,_⟩ | h
 ·injection e with _ _ e
  exact e.symm
 ·exact absurd e (h.some l c)
end Go.Proofs.Ytmjpneaccjlpkaa.Drw

namespace Go.Proofs.Ytmjpneaccjlpkaa.Drw
open Go.RowKit Gf8 Aes By8 Cel Cf Tap
/- The program's isBound, areBounds, areDraws, Below. Written by tools/mkH9a.py. -/
theorem top_iff (x b:Nat) (hb:0 < b):x < 256 - 256 % b ↔ x / b < 256 / b:=by
 have h:=Nat.div_add_mod 256 b
 rw [Nat.div_lt_iff_lt_mul hb,Nat.mul_comm (256 / b) b]
 omega
def plOf (W:World) (g:Nat):Nat:=match W.heap[g]? with | some (.cells c _ _)=>(intOf (c.getD 1 undef)).toNat | _=>0
theorem plOf_tp {W:World} {g:Nat} {p:Nat->Nat} {l at':Nat} {t:TypeId} (h:W.heap[g]?=some (.cells (tpC p l at') t)):plOf W g=at':=by
 unfold plOf
 rw [h]
 rfl
def bV (p:Nat->Nat) (l i:Nat):Nat:=if i < l then p i else 0
def bL (l i:Nat):Nat:=if i < l then l else 0
def bN (l i:Nat):Nat:=if i < l then i+1 else 0
def bE (l i:Nat):Nat:=if i < l then 0 else 3
set_option maxRecDepth 20000 in
theorem isBound_yes (b:Int) (V:World) (h:¬ bad b) :
  Calls Try.prog 84 #[.int .i64 b] V fun e w'=>e=.returned (.bool true)/\Below V.heap.size V w':=by
 have h1:1<=b:=by unfold bad at h; omega
 have h2:b<=256:=by unfold bad at h; omega
 clear h
 go_enter Try.func84,Try.ntmps84
 go_wp2
 refine bodyPost_ret (results_tmp rfl _ _ _) rfl ⟨rfl,Below.refl _ _⟩
set_option maxRecDepth 20000 in
theorem isBound_no (b:Int) (V:World) (h:bad b) :
  Calls Try.prog 84 #[.int .i64 b] V fun e w'=>e=.returned (.bool false)/\Below V.heap.size V w':=by
 by_cases h1:1<=b
 ·have h2:¬ b<=256:=by unfold bad at h; omega
  clear h
  go_enter Try.func84,Try.ntmps84
  go_wp2
  refine bodyPost_ret (results_tmp rfl _ _ _) rfl ⟨rfl,Below.refl _ _⟩
 ·clear h
  go_enter Try.func84,Try.ntmps84
  go_wp2
  refine bodyPost_ret (results_tmp rfl _ _ _) rfl ⟨rfl,Below.refl _ _⟩
set_option maxRecDepth 100000 in
set_option maxHeartbeats 4000000 in
theorem areBounds_any (f:Nat->Int) (n:Nat) (v:Value) (V:World) (hv:SliceI V v n f) (hn:n<=17592186044416) :
  Calls Try.prog 65 #[v] V fun e w'=>e=.returned (.bool (!anyB f n))/\Below V.heap.size V w':=by
 obtain ⟨ia,ic,rfl,-,-,hsh⟩:=id hv.shape
 have FI:=hv
 go_enter Try.func65,Try.ntmps65
 refine wp_seq ?_
 refine wo_ 15 [(0,.slice ia n ic)] ?_
 rintro a A ⟨t0,-⟩
 refine wi_ A (h1_ t0) (rf_ [] (h1_ t0) ?_)
 rintro a A - ⟨t0,-⟩
 have BW:Below V.heap.size V V:=Below.refl _ _
 have BB:=BW
 refine wp_seq (wp_seq ?_)
 refine wi_ A (h1_ t0) (rv_ 1 (.int .i64 ((n:Nat):Int)) (fun a e=>execLenI (len:=n) rfl (e _) ((FI.on BB)).shp) (rg_ [(5,.slice ia n ic),(6,.int .i64 ((n:Nat):Int)),(7,.int .i64 ((0:Nat):Int))] ?_))
 rintro a A ⟨t5,t6,t7,-⟩
 refine wp_block ?_
 refine wp_loop (fun a W=>∃ i:Nat,i<=n/\anyB f i=false/\(a.tmps.size=15/\a.defers=[])/\a.eval (.tmp 5)=.slice ia n ic/\a.eval (.tmp 6)=.int .i64 ((n:Nat):Int)/\a.eval (.tmp 7)=.int .i64 ((i:Nat):Int)/\Below V.heap.size V W) (fun a _=>n - (intOf (a.eval (.tmp 7))).toNat) ⟨0,Nat.zero_le _,rfl,A,t5,t6,t7,BB⟩ ?_
 rintro a XL ⟨i,hi,hno,A,t5,t6,t7,BB⟩
 have e7:=t7
 refine wp_seq ?_
 refine wi_ A (h3_ t5 t6 t7) (rv_ 0 (.bool (decide (i < n))) (fun a e=>execLtW (p:=i) (q:=n) rfl (e _) (e _)) (rf_ [(8,.bool (decide (i < n)))] (h3_ t5 t6 t7) ?_))
 rintro a A ⟨t8,-⟩ ⟨t5,t6,t7,-⟩
 refine wp_seq ?_
 by_cases hlt:i < n
 ·rw [decide_eq_true hlt] at t8
  refine wp_cond_true t8 (wp_skip ?_)
  clear t8
  obtain ⟨ib,io,rfl,hib,hcell⟩:=hsh (by omega)
  have cI:∀ X,Below V.heap.size V X->X.cell? ⟨ib,io+i,none⟩=some (.int .i64 (f i)):=fun X hX=>by rw [cell_below hX hib]; exact hcell i hlt
  refine wp_seq (wp_block ?_)
  refine wp_seq ?_
  refine wi_ A (h3_ t5 t6 t7) (rv_ 0 (.pointer (some ⟨ib,io+i,none⟩)) (fun a e=>execIdxN (k:=i) rfl (e _) (e _) hlt) (rv_ 1 (.int .i64 (f i)) (fun a e=>execLd3 rfl (e _) (cI XL BB)) (rf_ [(4,.int .i64 (f i))] (h3_ t5 t6 t7) ?_)))
  rintro a A ⟨t4,-⟩ ⟨t5,t6,t7,-⟩
  by_cases hbd:bad (f i)
  ·refine wp_seq ?_
   refine wi_ A (h4_ t5 t6 t7 t4) (rc_ 1 (isBound_no (f i) XL hbd) (cb_ fun X4 bQ=>?_))
   replace BB:=BB.trans (bQ.mono BB.size)
   clear bQ
   refine rv_ 2 (.bool true) (fun a e=>execNot8 (b:=false) rfl (e _)) (rf_ [(13,.bool true)] (h3_ t5 t6 t7) ?_)
   rintro a A ⟨t13,-⟩ ⟨t5,t6,t7,-⟩
   refine wp_cond_true t13 ?_
   refine wp_seq ?_
   refine wi_ A (h4_ t5 t6 t7 t13) (rg_ [(2,.bool false)] ?_)
   rintro a A ⟨t2,-⟩
   have hy:anyB f n=true:=anyB_yes hlt hbd
   rw [hy]
   refine wp_ret ?_
   repeat (first | with_reducible refine ret_in ?_ | with_reducible refine ret_then ?_)
   refine bodyPost_ret (results_tmp rfl _ _ _) A.2 ⟨?_,BB⟩
   show Ending.returned (a.eval (.tmp 2))=_
   rw [t2]
   rfl
  ·refine wp_seq ?_
   refine wi_ A (h4_ t5 t6 t7 t4) (rc_ 1 (isBound_yes (f i) XL hbd) (cb_ fun X4 bQ=>?_))
   replace BB:=BB.trans (bQ.mono BB.size)
   clear bQ
   refine rv_ 2 (.bool false) (fun a e=>execNot8 (b:=true) rfl (e _)) (rf_ [(13,.bool false)] (h3_ t5 t6 t7) ?_)
   rintro a A ⟨t13,-⟩ ⟨t5,t6,t7,-⟩
   refine wp_cond_false t13 (wp_skip ?_)
   clear t13
   refine wi_ A (h3_ t5 t6 t7) (rv_ 0 (.int .i64 ((i+1:Nat):Int)) (fun a e=>execAd8 (p:=i) (q:=1) rfl (e _) rfl (by omega)) (rf_ [(7,.int .i64 ((i+1:Nat):Int))] (h2_ t5 t6) ?_))
   rintro a A ⟨t7,-⟩ ⟨t5,t6,-⟩
   exact ⟨⟨i+1,hlt,by simp only [anyB,hno,Bool.false_or,decide_eq_false_iff_not]; exact hbd,A,t5,t6,t7,BB⟩,by show n - (intOf (a.eval (.tmp 7))).toNat < n - (intOf (Act.eval _ (.tmp 7))).toNat; rw [t7,e7]; show n - (i+1) < n - i; omega⟩
 ·rw [decide_eq_false hlt] at t8
  refine wp_cond_false t8 ?_
  refine wp_exit ?_
  first | with_reducible refine exit_in ?_ | with_reducible refine exit_then (exit_in ?_) | with_reducible refine exit_then (exit_then (exit_in ?_)) | refine exit_in ?_ | refine exit_then (exit_in ?_) | refine exit_then (exit_then (exit_in ?_))
  clear t8
  have hin:i=n:=by omega
  rw [hin] at hno
  rw [hno]
  refine wp_seq ?_
  refine wi_ A (h3_ t5 t6 t7) (rg_ [(2,.bool true)] ?_)
  rintro a A ⟨t2,-⟩
  refine wp_ret ?_
  repeat (first | with_reducible refine ret_in ?_ | with_reducible refine ret_then ?_)
  refine bodyPost_ret (results_tmp rfl _ _ _) A.2 ⟨?_,BB⟩
  show Ending.returned (a.eval (.tmp 2))=_
  rw [t2]
  rfl
set_option maxRecDepth 100000 in
set_option maxHeartbeats 4000000 in
theorem areDraws_any (ws bs:Nat->Int) (m n:Nat) (wv bv:Value) (V:World) (hwv:SliceI V wv m ws) (hm17:m<=17592186044416) (hb:SliceI V bv n bs) (hn17:n<=17592186044416) :
  Calls Try.prog 83 #[wv,bv] V fun e w'=>e=.returned (.bool (decide (m=n) && !anyW bs ws m))/\Below V.heap.size V w':=by
 obtain ⟨ia,ic,rfl,-,-,hsh⟩:=id hb.shape
 obtain ⟨ja,jc,rfl,-,-,hsj⟩:=id hwv.shape
 have FI:=hb
 have FJ:=hwv
 go_enter Try.func83,Try.ntmps83
 refine wp_seq ?_
 refine wo_ 30 [(0,.slice ja m jc),(1,.slice ia n ic)] ?_
 rintro a A ⟨t0,t1,-⟩
 refine wi_ A (h2_ t0 t1) (rf_ [] (h2_ t0 t1) ?_)
 rintro a A - ⟨t0,t1,-⟩
 have BW:Below V.heap.size V V:=Below.refl _ _
 have BB:=BW
 refine wp_seq (wp_seq ?_)
 refine wi_ A (h2_ t0 t1) (rv_ 1 (.int .i64 ((m:Nat):Int)) (fun a e=>execLenI (len:=m) rfl (e _) ((FJ.on BB)).shp) (rv_ 3 (.int .i64 ((n:Nat):Int)) (fun a e=>execLenI (len:=n) rfl (e _) ((FI.on BB)).shp) (rv_ 4 (.bool (decide (m ≠ n))) (fun a e=>execNeN (p:=m) (q:=n) rfl (e _) (e _)) (rf_ [(11,.bool (decide (m ≠ n)))] (h2_ t0 t1) ?_))))
 rintro a A ⟨t11,-⟩ ⟨t0,t1,-⟩
 by_cases hmn:m=n
 ·rw [decide_eq_false (fun q=>q hmn)] at t11
  refine wp_cond_false t11 (wp_skip ?_)
  clear t11
  rw [decide_eq_true hmn,Bool.true_and]
  subst hmn
  refine wp_seq (wp_seq ?_)
  refine wi_ A (h2_ t0 t1) (rv_ 1 (.int .i64 ((m:Nat):Int)) (fun a e=>execLenI (len:=m) rfl (e _) ((FJ.on BB)).shp) (rf_ [(12,.slice ja m jc),(13,.int .i64 ((m:Nat):Int)),(14,.int .i64 ((0:Nat):Int))] (h1_ t1) ?_))
  rintro a A ⟨t12,t13,t14,-⟩ ⟨t1,-⟩
  refine wp_block ?_
  refine wp_loop (fun a W=>∃ i:Nat,i<=m/\anyW bs ws i=false/\(a.tmps.size=30/\a.defers=[])/\a.eval (.tmp 1)=.slice ia m ic/\a.eval (.tmp 12)=.slice ja m jc/\a.eval (.tmp 13)=.int .i64 ((m:Nat):Int)/\a.eval (.tmp 14)=.int .i64 ((i:Nat):Int)/\Below V.heap.size V W) (fun a _=>m - (intOf (a.eval (.tmp 14))).toNat) ⟨0,Nat.zero_le _,rfl,A,t1,t12,t13,t14,BB⟩ ?_
  rintro a XL ⟨i,hi,hnw,A,t1,t12,t13,t14,BB⟩
  have e14:=t14
  refine wp_seq ?_
  refine wi_ A (h4_ t1 t12 t13 t14) (rv_ 0 (.bool (decide (i < m))) (fun a e=>execLtW (p:=i) (q:=m) rfl (e _) (e _)) (rf_ [(15,.bool (decide (i < m)))] (h4_ t1 t12 t13 t14) ?_))
  rintro a A ⟨t15,-⟩ ⟨t1,t12,t13,t14,-⟩
  refine wp_seq ?_
  by_cases hlt:i < m
  ·rw [decide_eq_true hlt] at t15
   refine wp_cond_true t15 (wp_skip ?_)
   clear t15
   obtain ⟨ib,io,rfl,hib,hcell⟩:=hsh (by omega)
   obtain ⟨jb,jo,rfl,hjb,hcelj⟩:=hsj (by omega)
   have cI:∀ X,Below V.heap.size V X->X.cell? ⟨ib,io+i,none⟩=some (.int .i64 (bs i)):=fun X hX=>by rw [cell_below hX hib]; exact hcell i hlt
   have cJ:∀ X,Below V.heap.size V X->X.cell? ⟨jb,jo+i,none⟩=some (.int .i64 (ws i)):=fun X hX=>by rw [cell_below hX hjb]; exact hcelj i hlt
   refine wp_seq (wp_block ?_)
   refine wp_seq ?_
   refine wi_ A (h4_ t1 t12 t13 t14) (rv_ 1 (.pointer (some ⟨jb,jo+i,none⟩)) (fun a e=>execIdxN (k:=i) rfl (e _) (e _) hlt) (rv_ 2 (.int .i64 (ws i)) (fun a e=>execLd3 rfl (e _) (cJ XL BB)) (rf_ [(5,.int .i64 ((i:Nat):Int)),(6,.int .i64 (ws i))] (h4_ t1 t12 t13 t14) ?_)))
   rintro a A ⟨t5,t6,-⟩ ⟨t1,t12,t13,t14,-⟩
   by_cases h1:ws i < 0
   ·refine wp_seq ?_
    refine wi_ A (h6_ t1 t12 t13 t14 t5 t6) (rv_ 1 (.bool true) (fun a e=>execLtCt (p:=(ws i)) (q:=0) rfl (e _) (by exact h1)) (rf_ [(28,.bool true)] (h4_ t1 t12 t13 t14) ?_))
    rintro a A ⟨t28,-⟩ ⟨t1,t12,t13,t14,-⟩
    refine wp_cond_true t28 ?_
    refine wp_seq ?_
    refine wi_ A (h5_ t1 t12 t13 t14 t28) (rg_ [(4,.bool false)] ?_)
    rintro a A ⟨t4,-⟩
    have hyw:anyW bs ws m=true:=anyW_yes hlt (Or.inl h1)
    rw [hyw]
    refine wp_ret ?_
    repeat (first | with_reducible refine ret_in ?_ | with_reducible refine ret_then ?_)
    refine bodyPost_ret (results_tmp rfl _ _ _) A.2 ⟨?_,BB⟩
    show Ending.returned (a.eval (.tmp 4))=_
    rw [t4]
    rfl
   ·by_cases h2:bs i<=ws i
    ·refine wp_seq ?_
     refine wi_ A (h6_ t1 t12 t13 t14 t5 t6) (rv_ 1 (.bool false) (fun a e=>execLtCf (p:=(ws i)) (q:=0) rfl (e _) (by exact h1)) (rv_ 6 (.pointer (some ⟨ib,io+i,none⟩)) (fun a e=>execIdxN (k:=i) rfl (e _) (e _) hlt) (rv_ 7 (.int .i64 (bs i)) (fun a e=>execLd3 rfl (e _) (cI XL BB)) (rv_ 8 (.bool true) (fun a e=>execGeIt rfl (e _) (e _) h2) (rf_ [(28,.bool true)] (h4_ t1 t12 t13 t14) ?_)))))
     rintro a A ⟨t28,-⟩ ⟨t1,t12,t13,t14,-⟩
     refine wp_cond_true t28 ?_
     refine wp_seq ?_
     refine wi_ A (h5_ t1 t12 t13 t14 t28) (rg_ [(4,.bool false)] ?_)
     rintro a A ⟨t4,-⟩
     have hyw:anyW bs ws m=true:=anyW_yes hlt (Or.inr h2)
     rw [hyw]
     refine wp_ret ?_
     repeat (first | with_reducible refine ret_in ?_ | with_reducible refine ret_then ?_)
     refine bodyPost_ret (results_tmp rfl _ _ _) A.2 ⟨?_,BB⟩
     show Ending.returned (a.eval (.tmp 4))=_
     rw [t4]
     rfl
    ·refine wp_seq ?_
     refine wi_ A (h6_ t1 t12 t13 t14 t5 t6) (rv_ 1 (.bool false) (fun a e=>execLtCf (p:=(ws i)) (q:=0) rfl (e _) (by exact h1)) (rv_ 6 (.pointer (some ⟨ib,io+i,none⟩)) (fun a e=>execIdxN (k:=i) rfl (e _) (e _) hlt) (rv_ 7 (.int .i64 (bs i)) (fun a e=>execLd3 rfl (e _) (cI XL BB)) (rv_ 8 (.bool false) (fun a e=>execGeIf rfl (e _) (e _) h2) (rf_ [(28,.bool false)] (h4_ t1 t12 t13 t14) ?_)))))
     rintro a A ⟨t28,-⟩ ⟨t1,t12,t13,t14,-⟩
     refine wp_cond_false t28 (wp_skip ?_)
     clear t28
     refine wi_ A (h4_ t1 t12 t13 t14) (rv_ 0 (.int .i64 ((i+1:Nat):Int)) (fun a e=>execAd8 (p:=i) (q:=1) rfl (e _) rfl (by omega)) (rf_ [(14,.int .i64 ((i+1:Nat):Int))] (h3_ t1 t12 t13) ?_))
     rintro a A ⟨t14,-⟩ ⟨t1,t12,t13,-⟩
     exact ⟨⟨i+1,hlt,by simp only [anyW,hnw,Bool.false_or,decide_eq_false_iff_not]; omega,A,t1,t12,t13,t14,BB⟩,by show m - (intOf (a.eval (.tmp 14))).toNat < m - (intOf (Act.eval _ (.tmp 14))).toNat; rw [t14,e14]; show m - (i+1) < m - i; omega⟩
  ·rw [decide_eq_false hlt] at t15
   refine wp_cond_false t15 ?_
   refine wp_exit ?_
   first | with_reducible refine exit_in ?_ | with_reducible refine exit_then (exit_in ?_) | with_reducible refine exit_then (exit_then (exit_in ?_)) | refine exit_in ?_ | refine exit_then (exit_in ?_) | refine exit_then (exit_then (exit_in ?_))
   clear t15
   have hin:i=m:=by omega
   rw [hin] at hnw
   rw [hnw]
   refine wp_seq ?_
   refine wi_ A (h4_ t1 t12 t13 t14) (rg_ [(4,.bool true)] ?_)
   rintro a A ⟨t4,-⟩
   refine wp_ret ?_
   repeat (first | with_reducible refine ret_in ?_ | with_reducible refine ret_then ?_)
   refine bodyPost_ret (results_tmp rfl _ _ _) A.2 ⟨?_,BB⟩
   show Ending.returned (a.eval (.tmp 4))=_
   rw [t4]
   rfl
 ·rw [decide_eq_true hmn] at t11
  refine wp_cond_true t11 ?_
  refine wp_seq ?_
  refine wi_ A (h2_ t0 t1) (rg_ [(4,.bool false)] ?_)
  rintro a A ⟨t4,-⟩
  rw [decide_eq_false hmn]
  refine wp_ret ?_
  repeat (first | with_reducible refine ret_in ?_ | with_reducible refine ret_then ?_)
  refine bodyPost_ret (results_tmp rfl _ _ _) A.2 ⟨?_,BB⟩
  show Ending.returned (a.eval (.tmp 4))=_
  rw [t4]
  rfl
end Go.Proofs.Ytmjpneaccjlpkaa.Drw
