import Derived.Test.YtmjpneaccjlpkaaF9c
import Derived.Test.YtmjpneaccjlpkaaF9b
import Derived.Test.YtmjpneaccjlpkaaZ9a
import Derived.Test.YtmjpneaccjlpkaaP9c
namespace Go.Proofs.Ytmjpneaccjlpkaa.Drw
open Go.RowKit Gf8 Aes By8 Cel Cf Tap
/- The reference's wrong and Below. Written by tools/mkG9e.py. -/
set_option maxRecDepth 100000 in
set_option maxHeartbeats 4000000 in
theorem wrong_any (f:Nat->Int) (n:Nat) (v:Value) (V:World) (hv:SliceI V v n f) (hn:n<=17592186044416) :
  Calls Try.prog 57 #[v] V fun e w'=>e=.returned (.bool (anyB f n))/\Below V.heap.size V w':=by
 obtain ⟨ia,ic,rfl,-,-,hsh⟩:=id hv.shape
 have FI:=hv
 go_enter Try.func57,Try.ntmps57
 refine wp_seq ?_
 refine wo_ 22 [(0,.slice ia n ic)] ?_
 rintro a A ⟨t0,-⟩
 refine wi_ A (h1_ t0) (rf_ [] (h1_ t0) ?_)
 rintro a A - ⟨t0,-⟩
 have BW:Below V.heap.size V V:=Below.refl _ _
 have BB:=BW
 refine wp_seq (wp_seq ?_)
 refine wi_ A (h1_ t0) (rf_ [(3,.int .i64 ((0:Nat):Int))] (h1_ t0) ?_)
 rintro a A ⟨t3,-⟩ ⟨t0,-⟩
 refine wp_block ?_
 refine wp_loop (fun a W=>∃ i:Nat,i<=n/\anyB f i=false/\(a.tmps.size=22/\a.defers=[])/\a.eval (.tmp 0)=.slice ia n ic/\a.eval (.tmp 3)=.int .i64 ((i:Nat):Int)/\Below V.heap.size V W) (fun a _=>n - (intOf (a.eval (.tmp 3))).toNat) ⟨0,Nat.zero_le _,rfl,A,t0,t3,BB⟩ ?_
 rintro a XL ⟨i,hi,hno,A,t0,t3,BB⟩
 have e3:=t3
 refine wp_seq (wp_seq ?_)
 refine wi_ A (h2_ t0 t3) (rv_ 2 (.int .i64 ((n:Nat):Int)) (fun a e=>execLenI (len:=n) rfl (e _) ((FI.on BB)).shp) (rv_ 3 (.bool (decide (i < n))) (fun a e=>execLtW (p:=i) (q:=n) rfl (e _) (e _)) (rf_ [(7,.bool (decide (i < n)))] (h2_ t0 t3) ?_)))
 rintro a A ⟨t7,-⟩ ⟨t0,t3,-⟩
 by_cases hlt:i < n
 ·rw [decide_eq_true hlt] at t7
  refine wp_cond_true t7 (wp_skip ?_)
  clear t7
  obtain ⟨ib,io,rfl,hib,hcell⟩:=hsh (by omega)
  have cI:∀ X,Below V.heap.size V X->X.cell? ⟨ib,io+i,none⟩=some (.int .i64 (f i)):=fun X hX=>by rw [cell_below hX hib]; exact hcell i hlt
  refine wp_seq (wp_block ?_)
  by_cases h1:f i < 1
  ·refine wp_seq ?_
   refine wi_ A (h2_ t0 t3) (rv_ 2 (.pointer (some ⟨ib,io+i,none⟩)) (fun a e=>execIdxN (k:=i) rfl (e _) (e _) hlt) (rv_ 3 (.int .i64 (f i)) (fun a e=>execLd3 rfl (e _) (cI XL BB)) (rv_ 4 (.bool true) (fun a e=>execLtCt (p:=(f i)) (q:=1) rfl (e _) (by exact h1)) (rf_ [(21,.bool true)] (h2_ t0 t3) ?_))))
   rintro a A ⟨t21,-⟩ ⟨t0,t3,-⟩
   refine wp_cond_true t21 ?_
   refine wp_seq ?_
   refine wi_ A (h3_ t0 t3 t21) (rg_ [(2,.bool true)] ?_)
   rintro a A ⟨t2,-⟩
   have hy:anyB f n=true:=anyB_yes hlt (Or.inl h1)
   rw [hy]
   refine wp_ret ?_
   repeat (first | with_reducible refine ret_in ?_ | with_reducible refine ret_then ?_)
   refine bodyPost_ret (results_tmp rfl _ _ _) A.2 ⟨?_,BB⟩
   show Ending.returned (a.eval (.tmp 2))=_
   rw [t2]
  ·by_cases h2:256 < f i
   ·refine wp_seq ?_
    refine wi_ A (h2_ t0 t3) (rv_ 2 (.pointer (some ⟨ib,io+i,none⟩)) (fun a e=>execIdxN (k:=i) rfl (e _) (e _) hlt) (rv_ 3 (.int .i64 (f i)) (fun a e=>execLd3 rfl (e _) (cI XL BB)) (rv_ 4 (.bool false) (fun a e=>execLtCf (p:=(f i)) (q:=1) rfl (e _) (by exact h1)) (rv_ 8 (.pointer (some ⟨ib,io+i,none⟩)) (fun a e=>execIdxN (k:=i) rfl (e _) (e _) hlt) (rv_ 9 (.int .i64 (f i)) (fun a e=>execLd3 rfl (e _) (cI XL BB)) (rv_ 10 (.bool true) (fun a e=>execGtCt (p:=(f i)) (q:=256) rfl (e _) (by exact h2)) (rf_ [(21,.bool true)] (h2_ t0 t3) ?_)))))))
    rintro a A ⟨t21,-⟩ ⟨t0,t3,-⟩
    refine wp_cond_true t21 ?_
    refine wp_seq ?_
    refine wi_ A (h3_ t0 t3 t21) (rg_ [(2,.bool true)] ?_)
    rintro a A ⟨t2,-⟩
    have hy:anyB f n=true:=anyB_yes hlt (Or.inr h2)
    rw [hy]
    refine wp_ret ?_
    repeat (first | with_reducible refine ret_in ?_ | with_reducible refine ret_then ?_)
    refine bodyPost_ret (results_tmp rfl _ _ _) A.2 ⟨?_,BB⟩
    show Ending.returned (a.eval (.tmp 2))=_
    rw [t2]
   ·refine wp_seq ?_
    refine wi_ A (h2_ t0 t3) (rv_ 2 (.pointer (some ⟨ib,io+i,none⟩)) (fun a e=>execIdxN (k:=i) rfl (e _) (e _) hlt) (rv_ 3 (.int .i64 (f i)) (fun a e=>execLd3 rfl (e _) (cI XL BB)) (rv_ 4 (.bool false) (fun a e=>execLtCf (p:=(f i)) (q:=1) rfl (e _) (by exact h1)) (rv_ 8 (.pointer (some ⟨ib,io+i,none⟩)) (fun a e=>execIdxN (k:=i) rfl (e _) (e _) hlt) (rv_ 9 (.int .i64 (f i)) (fun a e=>execLd3 rfl (e _) (cI XL BB)) (rv_ 10 (.bool false) (fun a e=>execGtCf (p:=(f i)) (q:=256) rfl (e _) (by exact h2)) (rf_ [(21,.bool false)] (h2_ t0 t3) ?_)))))))
    rintro a A ⟨t21,-⟩ ⟨t0,t3,-⟩
    refine wp_cond_false t21 (wp_skip ?_)
    clear t21
    refine wi_ A (h2_ t0 t3) (rv_ 1 (.int .i64 ((i+1:Nat):Int)) (fun a e=>execAd8 (p:=i) (q:=1) rfl (e _) rfl (by omega)) (rf_ [(3,.int .i64 ((i+1:Nat):Int))] (h1_ t0) ?_))
    rintro a A ⟨t3,-⟩ ⟨t0,-⟩
    exact ⟨⟨i+1,hlt,by simp only [anyB,hno,Bool.false_or,decide_eq_false_iff_not]; unfold bad; omega,A,t0,t3,BB⟩,by show n - (intOf (a.eval (.tmp 3))).toNat < n - (intOf (Act.eval _ (.tmp 3))).toNat; rw [t3,e3]; show n - (i+1) < n - i; omega⟩
 ·rw [decide_eq_false hlt] at t7
  refine wp_cond_false t7 ?_
  refine wp_exit ?_
  first | with_reducible refine exit_in ?_ | with_reducible refine exit_then (exit_in ?_) | with_reducible refine exit_then (exit_then (exit_in ?_)) | refine exit_in ?_ | refine exit_then (exit_in ?_) | refine exit_then (exit_then (exit_in ?_))
  clear t7
  have hin:i=n:=by omega
  rw [hin] at hno
  rw [hno]
  refine wp_seq ?_
  refine wi_ A (h2_ t0 t3) (rg_ [(2,.bool false)] ?_)
  rintro a A ⟨t2,-⟩
  refine wp_ret ?_
  repeat (first | with_reducible refine ret_in ?_ | with_reducible refine ret_then ?_)
  refine bodyPost_ret (results_tmp rfl _ _ _) A.2 ⟨?_,BB⟩
  show Ending.returned (a.eval (.tmp 2))=_
  rw [t2]
set_option maxRecDepth 100000 in
set_option maxHeartbeats 4000000 in
theorem rbelow_ok (p:Nat->Nat) (l at' b:Nat) (v:Value) (V:World) (hv:SliceN V v l p) (hl:l<=140737488351232) (hat:at'<=l) (hb2:2<=b) (hb:b<=256) :
  Calls Try.prog 58 #[v,.int .i64 ((at':Nat):Int),.int .i64 ((b:Nat):Int)] V fun e w'=>e=.returned (.tuple #[.int .i64 ((dV p l at' (b:Int):Nat):Int),.int .i64 ((dN p l at' (b:Int):Nat):Int),.int .i64 ((dE p l at' (b:Int):Nat):Int)])/\Below V.heap.size V w':=by
 obtain ⟨pa,pc,rfl,-,-,hsh⟩:=id hv.shape
 have hp:=hv.bytes
 go_enter Try.func58,Try.ntmps58
 refine wp_seq ?_
 refine wo_ 41 [(0,.slice pa l pc),(1,.int .i64 ((at':Nat):Int)),(2,.int .i64 ((b:Nat):Int))] ?_
 rintro a A ⟨t0,t1,t2,-⟩
 refine wi_ A (h3_ t0 t1 t2) (rf_ [] (h3_ t0 t1 t2) ?_)
 rintro a A - ⟨t0,t1,t2,-⟩
 have BW:Below V.heap.size V V:=Below.refl _ _
 have BB:=BW
 refine wp_seq (wp_seq ?_)
 refine wi_ A (h3_ t0 t1 t2) (rv_ 1 (.bool false) (fun a e=>execDec (execLtW (p:=b) (q:=1) rfl (e _) rfl) (decide_eq_false (by omega))) (rv_ 4 (.bool false) (fun a e=>execDec (execGtN (p:=b) (q:=256) rfl (e _) rfl) (decide_eq_false (by omega))) (rf_ [(15,.bool false)] (h3_ t0 t1 t2) ?_)))
 rintro a A ⟨t15,-⟩ ⟨t0,t1,t2,-⟩
 refine wp_cond_false t15 (wp_skip ?_)
 clear t15
 refine wp_seq (wp_seq ?_)
 refine wi_ A (h3_ t0 t1 t2) (rv_ 1 (.bool false) (fun a e=>execDec (execEqN (p:=b) (q:=1) rfl (e _) rfl) (decide_eq_false (by omega))) (rf_ [(17,.bool false)] (h3_ t0 t1 t2) ?_))
 rintro a A ⟨t17,-⟩ ⟨t0,t1,t2,-⟩
 refine wp_cond_false t17 (wp_skip ?_)
 clear t17
 refine wp_seq (wp_block ?_)
 refine wp_loop (fun a W=>∃ i:Nat,at'<=i/\i<=l/\scan p b (l - i) i=scan p b (l - at') at'/\(a.tmps.size=41/\a.defers=[])/\a.eval (.tmp 0)=.slice pa l pc/\a.eval (.tmp 1)=.int .i64 ((i:Nat):Int)/\a.eval (.tmp 2)=.int .i64 ((b:Nat):Int)/\Below V.heap.size V W) (fun a _=>l - (intOf (a.eval (.tmp 1))).toNat) ⟨at',Nat.le_refl _,hat,rfl,A,t0,t1,t2,BB⟩ ?_
 rintro a XL ⟨i,hai,hil,hsc,A,t0,t1,t2,BB⟩
 have e1:=t1
 refine wp_seq (wp_seq ?_)
 refine wi_ A (h3_ t0 t1 t2) (rv_ 2 (.int .i64 ((l:Nat):Int)) (fun a e=>execLenV (len:=l) rfl (e _) ⟨_,_,rfl⟩) (rv_ 3 (.bool (decide (i < l))) (fun a e=>execLtW (p:=i) (q:=l) rfl (e _) (e _)) (rf_ [(22,.bool (decide (i < l)))] (h3_ t0 t1 t2) ?_)))
 rintro a A ⟨t22,-⟩ ⟨t0,t1,t2,-⟩
 by_cases hlt:i < l
 ·rw [decide_eq_true hlt] at t22
  refine wp_cond_true t22 (wp_skip ?_)
  clear t22
  obtain ⟨pb,po,rfl,hpb,hcell⟩:=hsh (by omega)
  have cI:∀ X,Below V.heap.size V X->X.cell? ⟨pb,po+i,none⟩=some (.int .u8 ((p i:Nat):Int)):=fun X hX=>by rw [cell_below hX hpb]; exact hcell i hlt
  have hpi:=hp i hlt
  have hstep:scan p b (l - i) i=if p i / b < 256 / b then i else scan p b (l - (i+1)) (i+1):=by rw [show l - i=(l - (i+1))+1 by omega]; rfl
  refine wp_seq (wp_block ?_)
  refine wp_seq ?_
  refine wi_ A (h3_ t0 t1 t2) (rv_ 2 (.pointer (some ⟨pb,po+i,none⟩)) (fun a e=>execIdxB9 (k:=i) rfl (e _) (e _) hlt) (rv_ 3 (.int .u8 ((p i:Nat):Int)) (fun a e=>execLdB rfl (e _) (cI XL BB)) (rv_ 4 (.int .i64 ((p i:Nat):Int)) (fun a e=>execCv53 rfl (e _) hpi) (rf_ [(9,.int .i64 ((p i:Nat):Int))] (h3_ t0 t1 t2) ?_))))
  rintro a A ⟨t9,-⟩ ⟨t0,t1,t2,-⟩
  refine wp_seq ?_
  refine wj_ [0,1,2,3,4,5] [] [] [] A (h4_ t0 t1 t2 t9) (fun X8 bD=>?_)
  refine dw_ 2 (.int .i64 (((p i) / b:Nat):Int)) (fun a X e=>execQuoD (p:=p i) (q:=b) rfl (e _) (e _) (by omega) (by omega)) (dw_ 4 (.int .i64 ((256 / b:Nat):Int)) (fun a X e=>execQuoD (p:=256) (q:=b) rfl rfl (e _) (by omega) (by omega)) (dw_ 5 (.bool (decide ((p i) / b < 256 / b))) (fun a X e=>execLtW (p:=(p i) / b) (q:=256 / b) rfl (e _) (e _)) (dz_ [(35,.bool (decide ((p i) / b < 256 / b)))] (h4_ t0 t1 t2 t9) ?_)))
  rintro a A ⟨t35,-⟩ ⟨t0,t1,t2,t9,-⟩
  replace BB:=BB.trans (bD.mono BB.size)
  clear bD
  by_cases hq:p i / b < 256 / b
  ·rw [decide_eq_true hq] at t35
   refine wp_cond_true t35 ?_
   clear t35
   rw [if_pos hq] at hstep
   refine wp_seq ?_
   refine wi_ A (h4_ t0 t1 t2 t9) (rv_ 2 (.int .i64 (((p i) % b:Nat):Int)) (fun a e=>Aes.execRemI (p:=p i) (q:=b) rfl (e _) (e _) (by omega)) (rv_ 4 (.int .i64 ((i+1:Nat):Int)) (fun a e=>execAd8 (p:=i) (q:=1) rfl (e _) rfl (by omega)) (rg_ [(6,.int .i64 (((p i) % b:Nat):Int)),(7,.int .i64 ((i+1:Nat):Int)),(8,.int .i64 ((0:Nat):Int))] ?_)))
   rintro a A ⟨t6,t7,t8,-⟩
   have hS:dS p l at' (b:Int)=i:=by show scan p (b:Int).toNat (l - at') at'=i; rw [Int.toNat_natCast,← hsc,hstep]
   have hE:dE p l at' (b:Int)=0:=by unfold dE; rw [if_neg (by omega),if_neg (by omega),hS,if_pos hlt]
   have hV:dV p l at' (b:Int)=p i % b:=by unfold dV; rw [if_pos ⟨hE,by omega⟩,hS,Int.toNat_natCast]
   have hN:dN p l at' (b:Int)=i+1:=by unfold dN; rw [if_pos hE,if_neg (by omega),hS]
   rw [hE,hV,hN]
   refine wp_ret ?_
   repeat (first | with_reducible refine ret_in ?_ | with_reducible refine ret_then ?_)
   refine bodyPost_ret (results_tmp3 rfl _ _ _) A.2 ⟨?_,BB⟩
   show Ending.returned (.tuple #[a.eval (.tmp 6),a.eval (.tmp 7),a.eval (.tmp 8)])=_
   rw [t6,t7,t8]
  ·rw [decide_eq_false hq] at t35
   refine wp_cond_false t35 (wp_skip ?_)
   clear t35
   rw [if_neg hq] at hstep
   refine wi_ A (h4_ t0 t1 t2 t9) (rv_ 1 (.int .i64 ((i+1:Nat):Int)) (fun a e=>execAd8 (p:=i) (q:=1) rfl (e _) rfl (by omega)) (rf_ [(1,.int .i64 ((i+1:Nat):Int))] (h2_ t0 t2) ?_))
   rintro a A ⟨t1,-⟩ ⟨t0,t2,-⟩
   exact ⟨⟨i+1,by omega,hlt,by rw [← hstep,hsc],A,t0,t1,t2,BB⟩,by show l - (intOf (a.eval (.tmp 1))).toNat < l - (intOf (Act.eval _ (.tmp 1))).toNat; rw [t1,e1]; show l - (i+1) < l - i; omega⟩
 ·rw [decide_eq_false hlt] at t22
  refine wp_cond_false t22 ?_
  refine wp_exit ?_
  first | with_reducible refine exit_in ?_ | with_reducible refine exit_then (exit_in ?_) | with_reducible refine exit_then (exit_then (exit_in ?_)) | refine exit_in ?_ | refine exit_then (exit_in ?_) | refine exit_then (exit_then (exit_in ?_))
  clear t22
  have hS:dS p l at' (b:Int)=l:=by
   show scan p (b:Int).toNat (l - at') at'=l
   rw [Int.toNat_natCast,← hsc,show l - i=0 by omega]
   show i=l
   omega
  have hE:dE p l at' (b:Int)=3:=by unfold dE; rw [if_neg (by omega),if_neg (by omega),hS,if_neg (Nat.lt_irrefl _)]
  have hV:dV p l at' (b:Int)=0:=by unfold dV; rw [if_neg (fun q=>by rw [hE] at q; omega)]
  have hN:dN p l at' (b:Int)=0:=by unfold dN; rw [if_neg (by rw [hE]; decide)]
  rw [hE,hV,hN]
  refine wp_seq ?_
  refine wi_ A (h3_ t0 t1 t2) (rg_ [(6,.int .i64 ((0:Nat):Int)),(7,.int .i64 ((0:Nat):Int)),(8,.int .i64 ((3:Nat):Int))] ?_)
  rintro a A ⟨t6,t7,t8,-⟩
  refine wp_ret ?_
  refine bodyPost_ret (results_tmp3 rfl _ _ _) A.2 ⟨?_,BB⟩
  show Ending.returned (.tuple #[a.eval (.tmp 6),a.eval (.tmp 7),a.eval (.tmp 8)])=_
  rw [t6,t7,t8]
set_option maxRecDepth 20000 in
theorem rbelow_any (p:Nat->Nat) (l at':Nat) (b:Int) (v:Value) (V:World) (hv:SliceN V v l p) (hl:l<=140737488351232) (hat:at'<=l) :
  Calls Try.prog 58 #[v,.int .i64 ((at':Nat):Int),.int .i64 b] V fun e w'=>e=.returned (.tuple #[.int .i64 ((dV p l at' b:Nat):Int),.int .i64 ((dN p l at' b:Nat):Int),.int .i64 ((dE p l at' b:Nat):Int)])/\Below V.heap.size V w':=by
 by_cases h1:b < 1
 ·have hE:dE p l at' b=2:=if_pos (Or.inl h1)
  have hV:dV p l at' b=0:=by unfold dV; rw [if_neg (fun q=>by rw [hE] at q; omega)]
  have hN:dN p l at' b=0:=by unfold dN; rw [if_neg (by rw [hE]; decide)]
  rw [hE,hV,hN]
  clear hE hV hN hv hl hat
  go_enter Try.func58,Try.ntmps58
  go_wp2
  refine bodyPost_ret (results_tmp3 rfl _ _ _) rfl ⟨rfl,Below.refl _ _⟩
 ·by_cases h2:256 < b
  ·have hE:dE p l at' b=2:=if_pos (Or.inr h2)
   have hV:dV p l at' b=0:=by unfold dV; rw [if_neg (fun q=>by rw [hE] at q; omega)]
   have hN:dN p l at' b=0:=by unfold dN; rw [if_neg (by rw [hE]; decide)]
   rw [hE,hV,hN]
   have i2:b > 256:=h2
   clear hE hV hN hv hl hat h2
   go_enter Try.func58,Try.ntmps58
   go_wp2
   refine bodyPost_ret (results_tmp3 rfl _ _ _) rfl ⟨rfl,Below.refl _ _⟩
  ·by_cases h3:b=1
   ·subst h3
    have hE:dE p l at' 1=0:=by unfold dE; rw [if_neg (by omega),if_pos rfl]
    have hV:dV p l at' 1=0:=by unfold dV; rw [if_neg (fun q=>q.2 rfl)]
    have hN:dN p l at' 1=at':=by unfold dN; rw [if_pos hE,if_pos rfl]
    rw [hE,hV,hN]
    clear hE hV hN hv hl hat h1 h2
    go_enter Try.func58,Try.ntmps58
    go_wp2
    refine bodyPost_ret (results_tmp3 rfl _ _ _) rfl ⟨rfl,Below.refl _ _⟩
   ·obtain ⟨c,rfl⟩:∃ c:Nat,b=c:=⟨b.toNat,by omega⟩
    exact rbelow_ok p l at' c v V hv hl hat (by omega) (by omega)
end Go.Proofs.Ytmjpneaccjlpkaa.Drw

namespace Go.Proofs.Ytmjpneaccjlpkaa.Drw
open Go.RowKit Gf8 Aes By8 Cel Cf Tap
/- The reference's All. Written by tools/mkG9f.py. -/
theorem okA_succ {p:Nat->Nat} {l:Nat} {bs:Nat->Int} {n:Nat} (h:okA p l bs n) (e:dE p l (plA p l bs n) (bs n)=0):okA p l bs (n+1):=fun i hi=>by
 by_cases q:i=n
 ·subst q; exact e
 ·exact h i (by omega)
set_option maxRecDepth 100000 in
set_option maxHeartbeats 4000000 in
theorem rall_any (p:Nat->Nat) (l:Nat) (bs:Nat->Int) (n:Nat) (pv bv:Value) (V:World) (hp:SliceN V pv l p) (hl:l<=140737488351232) (hb:SliceI V bv n bs) (hn17:n<=17592186044416) :
  Calls Try.prog 51 #[pv,bv] V fun e w'=>∃ r,e=.returned (.tuple #[r,.int .i64 ((allK p l bs n:Nat):Int),.int .i64 ((allE p l bs n:Nat):Int)])/\w'.ownsRow V.heap.size 3 1 r (allN p l bs n) (intsL (allN p l bs n) (fun i=>(dA p l bs i:Int)))/\Below V.heap.size V w':=by
 obtain ⟨ia,ic,rfl,-,-,hsh⟩:=id hb.shape
 have FI:=hb
 go_enter Try.func51,Try.ntmps51
 refine wp_seq ?_
 refine wo_ 45 [(0,pv),(1,.slice ia n ic)] ?_
 rintro a A ⟨t0,t1,-⟩
 refine wi_ A (h2_ t0 t1) (rf_ [] (h2_ t0 t1) ?_)
 rintro a A - ⟨t0,t1,-⟩
 have BW:Below V.heap.size V V:=Below.refl _ _
 have BB:=BW
 refine wp_seq (wp_seq ?_)
 refine wi_ A (h2_ t0 t1) (rc_ 1 (wrong_any bs n _ V (FI.on BB) hn17) (cb_ fun X1 bQ=>?_))
 replace BB:=BB.trans (bQ.mono BB.size)
 clear bQ
 refine rf_ [(14,.bool (anyB bs n))] (h2_ t0 t1) ?_
 rintro a A ⟨t14,-⟩ ⟨t0,t1,-⟩
 by_cases hw:anyB bs n=true
 ·rw [hw] at t14
  refine wp_cond_true t14 ?_
  refine wp_seq ?_
  refine wi_ A (h2_ t0 t1) (rg_ [(4,.slice none 0 0),(5,.int .i64 ((0:Nat):Int)),(6,.int .i64 ((2:Nat):Int))] ?_)
  rintro a A ⟨t4,t5,t6,-⟩
  have hE:allE p l bs n=2:=by unfold allE; rw [if_pos hw]
  have hN:allN p l bs n=0:=by unfold allN; rw [if_neg (by rw [hE]; decide)]
  have hK:allK p l bs n=0:=by unfold allK; rw [if_neg (by rw [hE]; decide)]
  rw [hE,hN,hK]
  refine wp_ret ?_
  repeat (first | with_reducible refine ret_in ?_ | with_reducible refine ret_then ?_)
  refine bodyPost_ret (results_tmp3 rfl _ _ _) A.2 ⟨_,?_,World.ownsRow_nil _ _ _ _,BB⟩
  show Ending.returned (.tuple #[a.eval (.tmp 4),a.eval (.tmp 5),a.eval (.tmp 6)])=_
  rw [t4,t5,t6]
 ·rw [Bool.eq_false_iff.2 hw] at t14
  refine wp_cond_false t14 (wp_skip ?_)
  clear t14
  have hno:=anyB_no (Bool.eq_false_iff.2 hw)
  refine wp_seq ?_
  obtain ⟨g7,egg7⟩:∃ z_:Nat,X1.heap.size=z_:=⟨_,rfl⟩
  refine wi_ A (h2_ t0 t1) (rv_ 1 (.int .i64 ((n:Nat):Int)) (fun a e=>execLenI (len:=n) rfl (e _) ((FI.on BB)).shp) (rs_ 2 (fun a e=>?_)))
  refine stepV rfl rfl (execMkI rfl (e _) hn17) ⟨.slice (some ⟨g7,0,none⟩) 0 n,⟨_,rfl,by subst egg7; rfl⟩,fun X3 hX=>?_⟩
  have bQ:Below X1.heap.size X1 X3:=by subst hX egg7; exact (belNew X1 _)
  have FO:(X3.ownsRow V.heap.size 3 1 (.slice (some ⟨g7,0,none⟩) 0 n) 0 (intsL 0 (fun i=>(dA p l bs i:Int)))):=by subst hX egg7; exact ownD_base (own_mkI X1 n _ hn17) (BB).size
  replace BB:=BB.trans (bQ.mono BB.size)
  clear bQ hX egg7 e a
  refine rf_ [(7,.slice (some ⟨g7,0,none⟩) 0 n)] (h2_ t0 t1) ?_
  rintro a A ⟨t7,-⟩ ⟨t0,t1,-⟩
  refine wp_seq ?_
  refine wi_ A (h3_ t0 t1 t7) (rf_ [(8,.int .i64 ((0:Nat):Int))] (h3_ t0 t1 t7) ?_)
  rintro a A ⟨t8,-⟩ ⟨t0,t1,t7,-⟩
  refine wp_seq (wp_seq ?_)
  refine wi_ A (h4_ t0 t1 t7 t8) (rf_ [(9,.int .i64 ((0:Nat):Int))] (h4_ t0 t1 t7 t8) ?_)
  rintro a A ⟨t9,-⟩ ⟨t0,t1,t7,t8,-⟩
  refine wp_block ?_
  refine wp_loop (fun a W=>∃ (i:Nat) (u:Value),i<=n/\okA p l bs i/\(a.tmps.size=45/\a.defers=[])/\a.eval (.tmp 0)=pv/\a.eval (.tmp 1)=.slice ia n ic/\a.eval (.tmp 7)=u/\a.eval (.tmp 8)=.int .i64 ((plA p l bs i:Nat):Int)/\a.eval (.tmp 9)=.int .i64 ((i:Nat):Int)/\Below V.heap.size V W/\W.ownsRow V.heap.size 3 1 u i (intsL i (fun i=>(dA p l bs i:Int)))) (fun a _=>n - (intOf (a.eval (.tmp 9))).toNat) ⟨0,_,Nat.zero_le _,(fun i hi=>absurd hi (Nat.not_lt_zero _)),A,t0,t1,t7,t8,t9,BB,FO⟩ ?_
  rintro a XL ⟨i,u,hi,hok,A,t0,t1,t7,t8,t9,BB,FO⟩
  have e9:=t9
  refine wp_seq (wp_seq ?_)
  refine wi_ A (h5_ t0 t1 t7 t8 t9) (rv_ 2 (.int .i64 ((n:Nat):Int)) (fun a e=>execLenI (len:=n) rfl (e _) ((FI.on BB)).shp) (rv_ 3 (.bool (decide (i < n))) (fun a e=>execLtW (p:=i) (q:=n) rfl (e _) (e _)) (rf_ [(21,.bool (decide (i < n)))] (h5_ t0 t1 t7 t8 t9) ?_)))
  rintro a A ⟨t21,-⟩ ⟨t0,t1,t7,t8,t9,-⟩
  by_cases hlt:i < n
  ·rw [decide_eq_true hlt] at t21
   refine wp_cond_true t21 (wp_skip ?_)
   clear t21
   obtain ⟨ib,io,rfl,hib,hcell⟩:=hsh (by omega)
   have cI:∀ X,Below V.heap.size V X->X.cell? ⟨ib,io+i,none⟩=some (.int .i64 (bs i)):=fun X hX=>by rw [cell_below hX hib]; exact hcell i hlt
   refine wp_seq (wp_block ?_)
   refine wp_seq ?_
   refine wi_ A (h5_ t0 t1 t7 t8 t9) (rv_ 4 (.pointer (some ⟨ib,io+i,none⟩)) (fun a e=>execIdxN (k:=i) rfl (e _) (e _) hlt) (rv_ 5 (.int .i64 (bs i)) (fun a e=>execLd3 rfl (e _) (cI XL BB)) (rc_ 6 (rbelow_any p l (plA p l bs i) (bs i) _ XL (hp.on BB) hl (plA_le p l bs i)) (cb_ fun X8 bQ=>?_))))
   replace FO:=(ownD_below FO bQ)
   replace BB:=BB.trans (bQ.mono BB.size)
   clear bQ
   refine rf_ [(10,.int .i64 ((dV p l (plA p l bs i) (bs i):Nat):Int)),(11,.int .i64 ((dN p l (plA p l bs i) (bs i):Nat):Int)),(12,.int .i64 ((dE p l (plA p l bs i) (bs i):Nat):Int))] (h5_ t0 t1 t7 t8 t9) ?_
   rintro a A ⟨t10,t11,t12,-⟩ ⟨t0,t1,t7,t8,t9,-⟩
   refine wp_seq (wp_seq ?_)
   refine wi_ A (h8_ t0 t1 t7 t8 t9 t10 t11 t12) (rv_ 1 (.bool (decide (dE p l (plA p l bs i) (bs i) ≠ 0))) (fun a e=>execNeN (p:=dE p l (plA p l bs i) (bs i)) (q:=0) rfl (e _) rfl) (rf_ [(36,.bool (decide (dE p l (plA p l bs i) (bs i) ≠ 0)))] (h8_ t0 t1 t7 t8 t9 t10 t11 t12) ?_))
   rintro a A ⟨t36,-⟩ ⟨t0,t1,t7,t8,t9,t10,t11,t12,-⟩
   by_cases hE0:dE p l (plA p l bs i) (bs i)=0
   ·rw [decide_eq_false (by omega)] at t36
    refine wp_cond_false t36 (wp_skip ?_)
    clear t36
    refine wp_seq ?_
    obtain ⟨g40,egg40⟩:∃ z_:Nat,X8.heap.size=z_:=⟨_,rfl⟩
    refine wi_ A (h8_ t0 t1 t7 t8 t9 t10 t11 t12) (rs_ 2 (fun a e=>?_))
    refine stepV rfl rfl (execBsI (z:=((dA p l bs i:Nat):Int)) rfl (e _)) ⟨.slice (some ⟨g40,0,none⟩) 1 1,⟨_,rfl,by subst egg40; rfl⟩,fun X11_1 hX=>?_⟩
    have bQ:Below X8.heap.size X8 X11_1:=by subst hX egg40; exact (belNew X8 _)
    have F40:(X11_1.heap[g40]?=some (.cells #[.int .i64 ((dA p l bs i:Nat):Int)] 3)):=by subst hX egg40; exact heapNew X8 _
    replace FO:=(ownD_below FO bQ)
    replace BB:=BB.trans (bQ.mono BB.size)
    clear bQ hX egg40 e a
    refine rs_ 3 (fun a e=>?_)
    refine stepAppI (f:=fun i=>(dA p l bs i:Int)) rfl rfl rfl (e _) (e _) FO F40 (by omega) (BB).size fun v41 X11 own' gr=>⟨_,⟨_,rfl,rfl⟩,eqw ?_⟩
    obtain ⟨BB,FO2⟩:Below V.heap.size V X11/\(X11.ownsRow V.heap.size 3 1 v41 (i+1) (intsL (i+1) (fun i=>(dA p l bs i:Int)))):=⟨(BB).grown gr (BB).size (fun k hk=>(FO.lt k hk).1),own'⟩
    clear FO F40 e a
    refine rf_ [(7,v41)] (h5_ t0 t1 t8 t9 t11) ?_
    rintro a A ⟨t7,-⟩ ⟨t0,t1,t8,t9,t11,-⟩
    refine wi_ A (h6_ t0 t1 t7 t8 t9 t11) (rf_ [(8,.int .i64 ((dN p l (plA p l bs i) (bs i):Nat):Int))] (h4_ t0 t1 t7 t9) ?_)
    rintro a A ⟨t8,-⟩ ⟨t0,t1,t7,t9,-⟩
    refine wi_ A (h5_ t0 t1 t7 t8 t9) (rv_ 1 (.int .i64 ((i+1:Nat):Int)) (fun a e=>execAd8 (p:=i) (q:=1) rfl (e _) rfl (by omega)) (rf_ [(9,.int .i64 ((i+1:Nat):Int))] (h4_ t0 t1 t7 t8) ?_))
    rintro a A ⟨t9,-⟩ ⟨t0,t1,t7,t8,-⟩
    exact ⟨⟨i+1,_,hlt,okA_succ hok hE0,A,t0,t1,t7,t8,t9,BB,FO2⟩,by show n - (intOf (a.eval (.tmp 9))).toNat < n - (intOf (Act.eval _ (.tmp 9))).toNat; rw [t9,e9]; show n - (i+1) < n - i; omega⟩
   ·rw [decide_eq_true hE0] at t36
    refine wp_cond_true t36 ?_
    refine wp_seq ?_
    refine wi_ A (h8_ t0 t1 t7 t8 t9 t10 t11 t12) (rg_ [(4,.slice none 0 0),(5,.int .i64 ((0:Nat):Int)),(6,.int .i64 ((dE p l (plA p l bs i) (bs i):Nat):Int))] ?_)
    rintro a A ⟨t4,t5,t6,-⟩
    have hE3:dE p l (plA p l bs i) (bs i)=3:=(dE_good (hno i hlt)).resolve_left hE0
    rw [hE3] at t6
    have hE:allE p l bs n=3:=by unfold allE; rw [if_neg hw,if_neg (fun q=>hE0 (okB_iff.1 q i hlt))]
    have hN:allN p l bs n=0:=by unfold allN; rw [if_neg (by rw [hE]; decide)]
    have hK:allK p l bs n=0:=by unfold allK; rw [if_neg (by rw [hE]; decide)]
    rw [hE,hN,hK]
    refine wp_ret ?_
    repeat (first | with_reducible refine ret_in ?_ | with_reducible refine ret_then ?_)
    refine bodyPost_ret (results_tmp3 rfl _ _ _) A.2 ⟨_,?_,World.ownsRow_nil _ _ _ _,BB⟩
    show Ending.returned (.tuple #[a.eval (.tmp 4),a.eval (.tmp 5),a.eval (.tmp 6)])=_
    rw [t4,t5,t6]
  ·rw [decide_eq_false hlt] at t21
   refine wp_cond_false t21 ?_
   refine wp_exit ?_
   first | with_reducible refine exit_in ?_ | with_reducible refine exit_then (exit_in ?_) | with_reducible refine exit_then (exit_then (exit_in ?_)) | refine exit_in ?_ | refine exit_then (exit_in ?_) | refine exit_then (exit_then (exit_in ?_))
   clear t21
   have hin:i=n:=by omega
   rw [hin] at hok FO t8
   refine wp_seq ?_
   refine wi_ A (h5_ t0 t1 t7 t8 t9) (rg_ [(4,u),(5,.int .i64 ((plA p l bs n:Nat):Int)),(6,.int .i64 ((0:Nat):Int))] ?_)
   rintro a A ⟨t4,t5,t6,-⟩
   have hE:allE p l bs n=0:=by unfold allE; rw [if_neg hw,if_pos (okB_iff.2 hok)]
   have hN:allN p l bs n=n:=by unfold allN; rw [if_pos hE]
   have hK:allK p l bs n=plA p l bs n:=by unfold allK; rw [if_pos hE]
   rw [hE,hN,hK]
   refine wp_ret ?_
   refine bodyPost_ret (results_tmp3 rfl _ _ _) A.2 ⟨u,?_,FO,BB⟩
   show Ending.returned (.tuple #[a.eval (.tmp 4),a.eval (.tmp 5),a.eval (.tmp 6)])=_
   rw [t4,t5,t6]
end Go.Proofs.Ytmjpneaccjlpkaa.Drw
