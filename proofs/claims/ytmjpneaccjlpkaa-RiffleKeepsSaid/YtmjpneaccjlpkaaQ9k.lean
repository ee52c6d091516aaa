import Derived.Test.YtmjpneaccjlpkaaF9b
import Derived.Test.YtmjpneaccjlpkaaQ9j
namespace Go.Proofs.Ytmjpneaccjlpkaa.Brd
open Go.RowKit Gf8 Aes By8 Cel Cf Tap Drw Prm
/- Package braid as it landed: sum, areSizes, areFalling, slices.Clone, standsSoOften, areOffsets. Written by tools/mkQ9k.py. -/
section
variable {o:Oper} {a:Act} {w:World}
theorem execNilIt {x:Operand} {n c:Nat} (ho:o.op=.binOp .eql 24 x (.const (.slice none 0 0)) 24) (hx:a.eval x=.slice none n c):(execOp a.eval o).run Try.prog w=.ok (.value (.bool true)) w:=by
 have en:=Go.Lib.run_eql_slice_nil (P:=Try.prog) w 24 3 none n c 0 0 Try.underlying24
 have ec:a.eval (.const (.slice none 0 0))=.slice none 0 0:=rfl
 unfold execOp
 simp only [ho,hx,ec]
 simp [go_sem,en]
theorem execNilIf {x:Operand} {ad:Addr} {n c:Nat} (ho:o.op=.binOp .eql 24 x (.const (.slice none 0 0)) 24) (hx:a.eval x=.slice (some ad) n c):(execOp a.eval o).run Try.prog w=.ok (.value (.bool false)) w:=by
 have en:=Go.Lib.run_eql_slice_nil (P:=Try.prog) w 24 3 (some ad) n c 0 0 Try.underlying24
 have ec:a.eval (.const (.slice none 0 0))=.slice none 0 0:=rfl
 unfold execOp
 simp only [ho,hx,ec]
 simp [go_sem,en]
end
theorem sl_lhA (ad:Option Addr) (len cap l h:Nat) (h1:l<=h) (h2:h<=cap) (W:World):(Instr.sliceAt 24 (.slice ad len cap) (some (.int .i64 (l:Int))) (some (.int .i64 (h:Int))) none).run Try.prog W=.ok (sliced ad l h cap 1) W:=by
 have e1:(l:Int)<=h:=by omega
 have e2:(h:Int)<=cap:=by omega
 obtain ⟨i,i1,_,i3,_⟩:=infoI
 simp [Instr.sliceAt,Instr.slice,run_underlying Try.underlying24,Instr.sliceBounds,run_sliceBound,sliced,h1,h2,sizeOf,typeInfo,i1,i3]
theorem sl_hA (ad:Option Addr) (len cap h:Nat) (h2:h<=cap) (W:World):(Instr.sliceAt 24 (.slice ad len cap) none (some (.int .i64 (h:Int))) none).run Try.prog W=.ok (sliced ad 0 h cap 1) W:=by
 have e2:(h:Int)<=cap:=by omega
 obtain ⟨i,i1,_,_,_⟩:=infoI
 simp [Instr.sliceAt,Instr.slice,run_underlying Try.underlying24,Instr.sliceBounds,run_sliceBound,sliced,h2,sizeOf,typeInfo,i1]
theorem cnt_le (C:Nat->Nat) (j:Nat):∀ k,cntC C j k<=k
 | 0=>Nat.le_refl _
 | k+1=>by
  have:=cnt_le C j k
  show cntC C j k+_<=k+1
  by_cases h:C k=j
  ·rw [if_pos h]; omega
  ·rw [if_neg h]; omega
theorem st_set {W:World} {B J i w gl cl:Nat} {v:Value} {f tm:Nat->Int} (h:W.ownsRow B 3 1 v J (intsL J (fun j=>tm j - (cntC (gN f) j i:Int)))) (el:v=.slice (some ⟨gl,0,none⟩) J cl) (hg:gN f i=w) :
  (W.setCell ⟨gl,0+w,none⟩ (.int .i64 (tm w - (cntC (gN f) w i:Int) - 1))).ownsRow B 3 1 v J (intsL J (fun j=>tm j - (cntC (gN f) j (i+1):Int))):=by
 subst el
 have h1:=own_setF (k:=w) (tm w - (cntC (gN f) w i:Int) - 1) h
 rw [intsL_congr (g:=fun j=>tm j - (cntC (gN f) j (i+1):Int)) (fun j hj=>?_)] at h1
 ·exact h1
 ·show (if j=w then tm w - (cntC (gN f) w i:Int) - 1 else tm j - (cntC (gN f) j i:Int))=tm j - ((cntC (gN f) j i+(if gN f i=j then 1 else 0):Nat):Int)
  rw [hg]
  by_cases e:j=w
  ·subst e
   rw [if_pos rfl,if_pos rfl]
   omega
  ·rw [if_neg e,if_neg (fun q=>e q.symm)]
   omega
set_option maxRecDepth 100000 in
set_option maxHeartbeats 4000000 in
theorem psum (f:Nat->Int) (n:Nat) (v:Value) (V:World) (hv:SliceI V v n f) (hn17:n<=17592186044416) (hf:∀ j,j < n->0<=f j) (hs:sumN (gN f) n<=1000000) :
  Calls Try.prog 70 #[v] V fun e w'=>e=.returned (.int .i64 ((sumN (gN f) n:Nat):Int))/\Below V.heap.size V w':=by
 obtain ⟨ia,ic,rfl,-,-,hsh⟩:=id hv.shape
 have FI:=hv
 go_enter Try.func70,Try.ntmps70
 refine wp_seq ?_
 refine wo_ 17 [(0,.slice ia n ic)] ?_
 rintro a A ⟨t0,-⟩
 refine wi_ A (h1_ t0) (rf_ [] (h1_ t0) ?_)
 rintro a A - ⟨t0,-⟩
 have BW:Below V.heap.size V V:=Below.refl _ _
 have BB:=BW
 refine wp_seq ?_
 refine wi_ A (h1_ t0) (rf_ [(3,.int .i64 ((0:Nat):Int))] (h1_ t0) ?_)
 rintro a A ⟨t3,-⟩ ⟨t0,-⟩
 refine wp_seq (wp_seq ?_)
 refine wi_ A (h2_ t0 t3) (rv_ 1 (.int .i64 ((n:Nat):Int)) (fun a e=>execLenI (len:=n) rfl (e _) ((FI.on BB)).shp) (rf_ [(6,.slice ia n ic),(7,.int .i64 ((n:Nat):Int)),(8,.int .i64 ((0:Nat):Int))] (h1_ t3) ?_))
 rintro a A ⟨t6,t7,t8,-⟩ ⟨t3,-⟩
 refine wp_block ?_
 refine wp_loop (fun a W=>∃ (i:Nat),i<=n/\(a.tmps.size=17/\a.defers=[])/\a.eval (.tmp 3)=.int .i64 ((sumN (gN f) i:Nat):Int)/\a.eval (.tmp 6)=.slice ia n ic/\a.eval (.tmp 7)=.int .i64 ((n:Nat):Int)/\a.eval (.tmp 8)=.int .i64 ((i:Nat):Int)/\Below V.heap.size V W) (fun a _=>n - (intOf (a.eval (.tmp 8))).toNat) ⟨0,Nat.zero_le _,A,t3,t6,t7,t8,BB⟩ ?_
 rintro a XL3 ⟨i,hi,A,t3,t6,t7,t8,BB⟩
 have esi:=t8
 refine wp_seq ?_
 refine wi_ A (h4_ t3 t6 t7 t8) (rv_ 0 (.bool (decide (i < n))) (fun a e=>execLtW (p:=i) (q:=n) rfl (e _) (e _)) (rf_ [(9,.bool (decide (i < n)))] (h4_ t3 t6 t7 t8) ?_))
 rintro a A ⟨t9,-⟩ ⟨t3,t6,t7,t8,-⟩
 refine wp_seq ?_
 by_cases lti:i < n
 ·rw [decide_eq_true lti] at t9
  refine wp_cond_true t9 (wp_skip ?_)
  clear t9
  refine wp_seq (wp_block ?_)
  obtain ⟨ib,io,rfl,hib,hcell⟩:=hsh (by omega)
  have cI:∀ k,k < n->∀ X,Below V.heap.size V X->X.cell? ⟨ib,io+k,none⟩=some (.int .i64 (f k)):=fun k hk X hX=>by rw [cell_below hX hib]; exact hcell k hk
  obtain ⟨w,ew⟩:∃ w:Nat,f i=w:=⟨(f i).toNat,by have:=hf i lti; omega⟩
  have cW:∀ X,Below V.heap.size V X->X.cell? ⟨ib,io+i,none⟩=some (.int .i64 ((w:Nat):Int)):=fun X hX=>by rw [cI i lti X hX,ew]
  have e3:sumN (gN f) i+w=sumN (gN f) (i+1):=by show _=sumN (gN f) i+(f i).toNat; omega
  have hb3:=sumN_mono (r:=gN f) (show i+1<=n by omega)
  refine wp_seq ?_
  refine wi_ A (h4_ t3 t6 t7 t8) (rv_ 0 (.pointer (some ⟨ib,io+i,none⟩)) (fun a e=>execIdxN (k:=i) rfl (e _) (e _) lti) (rv_ 1 (.int .i64 ((w:Nat):Int)) (fun a e=>execLd3 rfl (e _) (cW XL3 BB)) (rf_ [(5,.int .i64 ((w:Nat):Int))] (h4_ t3 t6 t7 t8) ?_)))
  rintro a A ⟨t5,-⟩ ⟨t3,t6,t7,t8,-⟩
  refine wi_ A (h5_ t3 t6 t7 t8 t5) (rv_ 2 (.int .i64 ((sumN (gN f) i+w:Nat):Int)) (fun a e=>execAd8 (p:=sumN (gN f) i) (q:=w) rfl (e _) (e _) (by omega)) (rf_ [(3,.int .i64 ((sumN (gN f) i+w:Nat):Int))] (h3_ t6 t7 t8) ?_))
  rintro a A ⟨t3,-⟩ ⟨t6,t7,t8,-⟩
  rw [e3] at t3
  refine wi_ A (h4_ t3 t6 t7 t8) (rv_ 0 (.int .i64 ((i+1:Nat):Int)) (fun a e=>execAd8 (p:=i) (q:=1) rfl (e _) rfl (by omega)) (rf_ [(8,.int .i64 ((i+1:Nat):Int))] (h3_ t3 t6 t7) ?_))
  rintro a A ⟨t8,-⟩ ⟨t3,t6,t7,-⟩
  exact ⟨⟨i+1,lti,A,t3,t6,t7,t8,BB⟩,by show n - (intOf (a.eval (.tmp 8))).toNat < n - (intOf (Act.eval _ (.tmp 8))).toNat; rw [t8,esi]; show n - (i+1) < n - i; omega⟩
 ·rw [decide_eq_false lti] at t9
  refine wp_cond_false t9 ?_
  refine wp_exit ?_
  first | with_reducible refine exit_in ?_ | with_reducible refine exit_then (exit_in ?_) | with_reducible refine exit_then (exit_then (exit_in ?_)) | refine exit_in ?_ | refine exit_then (exit_in ?_) | refine exit_then (exit_then (exit_in ?_))
  clear t9 esi
  obtain rfl:i=n:=by omega
  clear t6 t7 t8
  refine wp_seq ?_
  refine wi_ A (h1_ t3) (rg_ [(2,.int .i64 ((sumN (gN f) i:Nat):Int))] ?_)
  rintro a A ⟨t2,-⟩
  refine wp_ret ?_
  repeat (first | with_reducible refine ret_in ?_ | with_reducible refine ret_then ?_)
  refine bodyPost_ret (results_tmp rfl _ _ _) A.2 ⟨?_,BB⟩
  show Ending.returned (a.eval (.tmp 2))=_
  rw [t2]
set_option maxRecDepth 100000 in
set_option maxHeartbeats 4000000 in
theorem pareSizes (sf:Nat->Int) (J:Nat) (v:Value) (V:World) (hv:SliceI V v J sf) (hJ17:J<=17592186044416) :
  Calls Try.prog 69 #[v] V fun e w'=>e=.returned (.bool (szQ sf J))/\Below V.heap.size V w':=by
 obtain ⟨ia,ic,rfl,-,-,hsh⟩:=id hv.shape
 have FI:=hv
 go_enter Try.func69,Try.ntmps69
 refine wp_seq ?_
 refine wo_ 31 [(0,.slice ia J ic)] ?_
 rintro a A ⟨t0,-⟩
 refine wi_ A (h1_ t0) (rf_ [] (h1_ t0) ?_)
 rintro a A - ⟨t0,-⟩
 have BW:Below V.heap.size V V:=Below.refl _ _
 have BB:=BW
 refine wp_seq (wp_seq ?_)
 by_cases ha:J < 1
 ·refine wi_ A (h1_ t0) (rv_ 1 (.int .i64 ((J:Nat):Int)) (fun a e=>execLenI (len:=J) rfl (e _) ((FI.on BB)).shp) (rv_ 2 (.bool true) (fun a e=>execDec (execLtW (p:=J) (q:=1) rfl (e _) rfl) (decide_eq_true (by omega))) (rf_ [(13,.bool true)] (h1_ t0) ?_)))
  rintro a A ⟨t13,-⟩ ⟨t0,-⟩
  refine wp_cond_true t13 ?_
  refine wp_seq ?_
  refine wi_ A (h1_ t0) (rg_ [(2,.bool false)] ?_)
  rintro a A ⟨t2,-⟩
  have hE:szQ sf J=false:=Bool.eq_false_iff.2 fun q=>by have:=(szQ_iff.1 q).1; omega
  rw [hE]
  refine wp_ret ?_
  repeat (first | with_reducible refine ret_in ?_ | with_reducible refine ret_then ?_)
  refine bodyPost_ret (results_tmp rfl _ _ _) A.2 ⟨?_,BB⟩
  show Ending.returned (a.eval (.tmp 2))=_
  rw [t2]
 ·by_cases hb:64 < J
  ·refine wi_ A (h1_ t0) (rv_ 1 (.int .i64 ((J:Nat):Int)) (fun a e=>execLenI (len:=J) rfl (e _) ((FI.on BB)).shp) (rv_ 2 (.bool false) (fun a e=>execDec (execLtW (p:=J) (q:=1) rfl (e _) rfl) (decide_eq_false (by omega))) (rv_ 5 (.int .i64 ((J:Nat):Int)) (fun a e=>execLenI (len:=J) rfl (e _) ((FI.on BB)).shp) (rv_ 6 (.bool true) (fun a e=>execDec (execGtN (p:=J) (q:=64) rfl (e _) rfl) (decide_eq_true (by omega))) (rf_ [(13,.bool true)] (h1_ t0) ?_)))))
   rintro a A ⟨t13,-⟩ ⟨t0,-⟩
   refine wp_cond_true t13 ?_
   refine wp_seq ?_
   refine wi_ A (h1_ t0) (rg_ [(2,.bool false)] ?_)
   rintro a A ⟨t2,-⟩
   have hE:szQ sf J=false:=Bool.eq_false_iff.2 fun q=>by have:=(szQ_iff.1 q).1; omega
   rw [hE]
   refine wp_ret ?_
   repeat (first | with_reducible refine ret_in ?_ | with_reducible refine ret_then ?_)
   refine bodyPost_ret (results_tmp rfl _ _ _) A.2 ⟨?_,BB⟩
   show Ending.returned (a.eval (.tmp 2))=_
   rw [t2]
  ·refine wi_ A (h1_ t0) (rv_ 1 (.int .i64 ((J:Nat):Int)) (fun a e=>execLenI (len:=J) rfl (e _) ((FI.on BB)).shp) (rv_ 2 (.bool false) (fun a e=>execDec (execLtW (p:=J) (q:=1) rfl (e _) rfl) (decide_eq_false (by omega))) (rv_ 5 (.int .i64 ((J:Nat):Int)) (fun a e=>execLenI (len:=J) rfl (e _) ((FI.on BB)).shp) (rv_ 6 (.bool false) (fun a e=>execDec (execGtN (p:=J) (q:=64) rfl (e _) rfl) (decide_eq_false (by omega))) (rf_ [(13,.bool false)] (h1_ t0) ?_)))))
   rintro a A ⟨t13,-⟩ ⟨t0,-⟩
   refine wp_cond_false t13 (wp_skip ?_)
   clear t13
   refine wp_seq ?_
   refine wi_ A (h1_ t0) (rf_ [(3,.int .i64 ((256:Nat):Int))] (h1_ t0) ?_)
   rintro a A ⟨t3,-⟩ ⟨t0,-⟩
   refine wp_seq (wp_seq ?_)
   refine wi_ A (h2_ t0 t3) (rv_ 1 (.int .i64 ((J:Nat):Int)) (fun a e=>execLenI (len:=J) rfl (e _) ((FI.on BB)).shp) (rf_ [(14,.slice ia J ic),(15,.int .i64 ((J:Nat):Int)),(16,.int .i64 ((0:Nat):Int))] (h1_ t3) ?_))
   rintro a A ⟨t14,t15,t16,-⟩ ⟨t3,-⟩
   refine wp_block ?_
   refine wp_loop (fun a W=>∃ (i:Nat),i<=J/\(okS sf i=true)/\(sumN (gN sf) i<=256)/\(a.tmps.size=31/\a.defers=[])/\a.eval (.tmp 3)=.int .i64 ((256 - sumN (gN sf) i:Nat):Int)/\a.eval (.tmp 14)=.slice ia J ic/\a.eval (.tmp 15)=.int .i64 ((J:Nat):Int)/\a.eval (.tmp 16)=.int .i64 ((i:Nat):Int)/\Below V.heap.size V W) (fun a _=>J - (intOf (a.eval (.tmp 16))).toNat) ⟨0,Nat.zero_le _,rfl,Nat.zero_le _,A,t3,t14,t15,t16,BB⟩ ?_
   rintro a XL5 ⟨i,hi,hok,h256,A,t3,t14,t15,t16,BB⟩
   have esi:=t16
   refine wp_seq ?_
   refine wi_ A (h4_ t3 t14 t15 t16) (rv_ 0 (.bool (decide (i < J))) (fun a e=>execLtW (p:=i) (q:=J) rfl (e _) (e _)) (rf_ [(17,.bool (decide (i < J)))] (h4_ t3 t14 t15 t16) ?_))
   rintro a A ⟨t17,-⟩ ⟨t3,t14,t15,t16,-⟩
   refine wp_seq ?_
   by_cases lti:i < J
   ·rw [decide_eq_true lti] at t17
    refine wp_cond_true t17 (wp_skip ?_)
    clear t17
    refine wp_seq (wp_block ?_)
    obtain ⟨ib,io,rfl,hib,hcell⟩:=hsh (by omega)
    have cI:∀ k,k < J->∀ X,Below V.heap.size V X->X.cell? ⟨ib,io+k,none⟩=some (.int .i64 (sf k)):=fun k hk X hX=>by rw [cell_below hX hib]; exact hcell k hk
    by_cases h1:sf i < 0
    ·refine wp_seq ?_
     refine wi_ A (h4_ t3 t14 t15 t16) (rv_ 0 (.pointer (some ⟨ib,io+i,none⟩)) (fun a e=>execIdxN (k:=i) rfl (e _) (e _) lti) (rv_ 1 (.int .i64 (sf i)) (fun a e=>execLd3 rfl (e _) (cI i lti XL5 BB)) (rf_ [(5,.int .i64 (sf i))] (h4_ t3 t14 t15 t16) ?_)))
     rintro a A ⟨t5,-⟩ ⟨t3,t14,t15,t16,-⟩
     refine wp_seq (wp_seq ?_)
     refine wi_ A (h5_ t3 t14 t15 t16 t5) (rv_ 1 (.bool true) (fun a e=>execLtCt (p:=(sf i)) (q:=0) rfl (e _) (by exact h1)) (rf_ [(26,.bool true)] (h5_ t3 t14 t15 t16 t5) ?_))
     rintro a A ⟨t26,-⟩ ⟨t3,t14,t15,t16,t5,-⟩
     refine wp_cond_true t26 ?_
     refine wp_seq ?_
     refine wi_ A (h5_ t3 t14 t15 t16 t5) (rg_ [(2,.bool false)] ?_)
     rintro a A ⟨t2,-⟩
     have hE:szQ sf J=false:=Bool.eq_false_iff.2 fun q=>okS_bad lti (by omega) (szQ_iff.1 q).2
     rw [hE]
     refine wp_ret ?_
     repeat (first | with_reducible refine ret_in ?_ | with_reducible refine ret_then ?_)
     refine bodyPost_ret (results_tmp rfl _ _ _) A.2 ⟨?_,BB⟩
     show Ending.returned (a.eval (.tmp 2))=_
     rw [t2]
    ·by_cases h2:256 - (sumN (gN sf) i:Int) < sf i
     ·obtain ⟨w,ew⟩:∃ w:Nat,sf i=w:=⟨(sf i).toNat,by omega⟩
      have cW:∀ X,Below V.heap.size V X->X.cell? ⟨ib,io+i,none⟩=some (.int .i64 ((w:Nat):Int)):=fun X hX=>by rw [cI i lti X hX,ew]
      refine wp_seq ?_
      refine wi_ A (h4_ t3 t14 t15 t16) (rv_ 0 (.pointer (some ⟨ib,io+i,none⟩)) (fun a e=>execIdxN (k:=i) rfl (e _) (e _) lti) (rv_ 1 (.int .i64 ((w:Nat):Int)) (fun a e=>execLd3 rfl (e _) (cW XL5 BB)) (rf_ [(5,.int .i64 ((w:Nat):Int))] (h4_ t3 t14 t15 t16) ?_)))
      rintro a A ⟨t5,-⟩ ⟨t3,t14,t15,t16,-⟩
      refine wp_seq (wp_seq ?_)
      refine wi_ A (h5_ t3 t14 t15 t16 t5) (rv_ 1 (.bool false) (fun a e=>execDec (execLtW (p:=w) (q:=0) rfl (e _) rfl) (decide_eq_false (by omega))) (rv_ 5 (.bool true) (fun a e=>execDec (execGtN (p:=w) (q:=256 - sumN (gN sf) i) rfl (e _) (e _)) (decide_eq_true (by omega))) (rf_ [(26,.bool true)] (h5_ t3 t14 t15 t16 t5) ?_)))
      rintro a A ⟨t26,-⟩ ⟨t3,t14,t15,t16,t5,-⟩
      refine wp_cond_true t26 ?_
      refine wp_seq ?_
      refine wi_ A (h5_ t3 t14 t15 t16 t5) (rg_ [(2,.bool false)] ?_)
      rintro a A ⟨t2,-⟩
      have hE:szQ sf J=false:=Bool.eq_false_iff.2 fun q=>okS_bad lti (by omega) (szQ_iff.1 q).2
      rw [hE]
      refine wp_ret ?_
      repeat (first | with_reducible refine ret_in ?_ | with_reducible refine ret_then ?_)
      refine bodyPost_ret (results_tmp rfl _ _ _) A.2 ⟨?_,BB⟩
      show Ending.returned (a.eval (.tmp 2))=_
      rw [t2]
     ·obtain ⟨w,ew⟩:∃ w:Nat,sf i=w:=⟨(sf i).toNat,by omega⟩
      have cW:∀ X,Below V.heap.size V X->X.cell? ⟨ib,io+i,none⟩=some (.int .i64 ((w:Nat):Int)):=fun X hX=>by rw [cI i lti X hX,ew]
      refine wp_seq ?_
      refine wi_ A (h4_ t3 t14 t15 t16) (rv_ 0 (.pointer (some ⟨ib,io+i,none⟩)) (fun a e=>execIdxN (k:=i) rfl (e _) (e _) lti) (rv_ 1 (.int .i64 ((w:Nat):Int)) (fun a e=>execLd3 rfl (e _) (cW XL5 BB)) (rf_ [(5,.int .i64 ((w:Nat):Int))] (h4_ t3 t14 t15 t16) ?_)))
      rintro a A ⟨t5,-⟩ ⟨t3,t14,t15,t16,-⟩
      refine wp_seq (wp_seq ?_)
      refine wi_ A (h5_ t3 t14 t15 t16 t5) (rv_ 1 (.bool false) (fun a e=>execDec (execLtW (p:=w) (q:=0) rfl (e _) rfl) (decide_eq_false (by omega))) (rv_ 5 (.bool false) (fun a e=>execDec (execGtN (p:=w) (q:=256 - sumN (gN sf) i) rfl (e _) (e _)) (decide_eq_false (by omega))) (rf_ [(26,.bool false)] (h5_ t3 t14 t15 t16 t5) ?_)))
      rintro a A ⟨t26,-⟩ ⟨t3,t14,t15,t16,t5,-⟩
      refine wp_cond_false t26 (wp_skip ?_)
      clear t26
      refine wi_ A (h5_ t3 t14 t15 t16 t5) (rv_ 2 (.int .i64 ((256 - sumN (gN sf) i - w:Nat):Int)) (fun a e=>By8.execSubI (p:=256 - sumN (gN sf) i) (q:=w) rfl (e _) (e _) (by omega) (by omega)) (rf_ [(3,.int .i64 ((256 - sumN (gN sf) i - w:Nat):Int))] (h3_ t14 t15 t16) ?_))
      rintro a A ⟨t3,-⟩ ⟨t14,t15,t16,-⟩
      have e3:256 - sumN (gN sf) i - w=256 - sumN (gN sf) (i+1):=by show _=256 - (sumN (gN sf) i+(sf i).toNat); omega
      have e4:sumN (gN sf) (i+1)=sumN (gN sf) i+w:=by show sumN (gN sf) i+(sf i).toNat=_; omega
      rw [e3] at t3
      refine wi_ A (h4_ t3 t14 t15 t16) (rv_ 0 (.int .i64 ((i+1:Nat):Int)) (fun a e=>execAd8 (p:=i) (q:=1) rfl (e _) rfl (by omega)) (rf_ [(16,.int .i64 ((i+1:Nat):Int))] (h3_ t3 t14 t15) ?_))
      rintro a A ⟨t16,-⟩ ⟨t3,t14,t15,-⟩
      exact ⟨⟨i+1,lti,okS_succ hok (by omega),by rw [e4]; omega,A,t3,t14,t15,t16,BB⟩,by show J - (intOf (a.eval (.tmp 16))).toNat < J - (intOf (Act.eval _ (.tmp 16))).toNat; rw [t16,esi]; show J - (i+1) < J - i; omega⟩
   ·rw [decide_eq_false lti] at t17
    refine wp_cond_false t17 ?_
    refine wp_exit ?_
    first | with_reducible refine exit_in ?_ | with_reducible refine exit_then (exit_in ?_) | with_reducible refine exit_then (exit_then (exit_in ?_)) | refine exit_in ?_ | refine exit_then (exit_in ?_) | refine exit_then (exit_then (exit_in ?_))
    clear t17 esi
    obtain rfl:i=J:=by omega
    have hE:szQ sf i=true:=szQ_iff.2 ⟨⟨by omega,by omega⟩,hok⟩
    rw [hE]
    clear t3 t14 t15 t16
    refine wp_seq ?_
    refine wi_ A h0_ (rg_ [(2,.bool true)] ?_)
    rintro a A ⟨t2,-⟩
    refine wp_ret ?_
    repeat (first | with_reducible refine ret_in ?_ | with_reducible refine ret_then ?_)
    refine bodyPost_ret (results_tmp rfl _ _ _) A.2 ⟨?_,BB⟩
    show Ending.returned (a.eval (.tmp 2))=_
    rw [t2]
set_option maxRecDepth 100000 in
set_option maxHeartbeats 4000000 in
theorem pareFalling (f:Nat->Int) (n:Nat) (v:Value) (V:World) (hv:SliceI V v n f) (hn17:n<=17592186044416) :
  Calls Try.prog 71 #[v] V fun e w'=>e=.returned (.bool (faQ f n))/\Below V.heap.size V w':=by
 obtain ⟨ia,ic,rfl,-,-,hsh⟩:=id hv.shape
 have FI:=hv
 go_enter Try.func71,Try.ntmps71
 refine wp_seq ?_
 refine wo_ 23 [(0,.slice ia n ic)] ?_
 rintro a A ⟨t0,-⟩
 refine wi_ A (h1_ t0) (rf_ [] (h1_ t0) ?_)
 rintro a A - ⟨t0,-⟩
 have BW:Below V.heap.size V V:=Below.refl _ _
 have BB:=BW
 refine wp_seq (wp_seq ?_)
 refine wi_ A (h1_ t0) (rv_ 1 (.int .i64 ((n:Nat):Int)) (fun a e=>execLenI (len:=n) rfl (e _) ((FI.on BB)).shp) (rf_ [(5,.slice ia n ic),(6,.int .i64 ((n:Nat):Int)),(7,.int .i64 ((0:Nat):Int))] (h1_ t0) ?_))
 rintro a A ⟨t5,t6,t7,-⟩ ⟨t0,-⟩
 refine wp_block ?_
 refine wp_loop (fun a W=>∃ (i:Nat),i<=n/\(allB (faB f n) i=true)/\(a.tmps.size=23/\a.defers=[])/\a.eval (.tmp 0)=.slice ia n ic/\a.eval (.tmp 5)=.slice ia n ic/\a.eval (.tmp 6)=.int .i64 ((n:Nat):Int)/\a.eval (.tmp 7)=.int .i64 ((i:Nat):Int)/\Below V.heap.size V W) (fun a _=>n - (intOf (a.eval (.tmp 7))).toNat) ⟨0,Nat.zero_le _,rfl,A,t0,t5,t6,t7,BB⟩ ?_
 rintro a XL2 ⟨i,hi,hok,A,t0,t5,t6,t7,BB⟩
 have esi:=t7
 refine wp_seq ?_
 refine wi_ A (h4_ t0 t5 t6 t7) (rv_ 0 (.bool (decide (i < n))) (fun a e=>execLtW (p:=i) (q:=n) rfl (e _) (e _)) (rf_ [(8,.bool (decide (i < n)))] (h4_ t0 t5 t6 t7) ?_))
 rintro a A ⟨t8,-⟩ ⟨t0,t5,t6,t7,-⟩
 refine wp_seq ?_
 by_cases lti:i < n
 ·rw [decide_eq_true lti] at t8
  refine wp_cond_true t8 (wp_skip ?_)
  clear t8
  refine wp_seq (wp_block ?_)
  obtain ⟨ib,io,rfl,hib,hcell⟩:=hsh (by omega)
  have cI:∀ k,k < n->∀ X,Below V.heap.size V X->X.cell? ⟨ib,io+k,none⟩=some (.int .i64 (f k)):=fun k hk X hX=>by rw [cell_below hX hib]; exact hcell k hk
  by_cases h1:f i < 0
  ·refine wp_seq ?_
   refine wi_ A (h4_ t0 t5 t6 t7) (rv_ 1 (.pointer (some ⟨ib,io+i,none⟩)) (fun a e=>execIdxN (k:=i) rfl (e _) (e _) lti) (rv_ 2 (.int .i64 (f i)) (fun a e=>execLd3 rfl (e _) (cI i lti XL2 BB)) (rf_ [(3,.int .i64 ((i:Nat):Int)),(4,.int .i64 (f i))] (h4_ t0 t5 t6 t7) ?_)))
   rintro a A ⟨t3,t4,-⟩ ⟨t0,t5,t6,t7,-⟩
   refine wp_seq ?_
   refine wi_ A (h6_ t0 t5 t6 t7 t3 t4) (rv_ 1 (.bool true) (fun a e=>execLtCt (p:=(f i)) (q:=0) rfl (e _) (by exact h1)) (rf_ [(21,.bool true)] (h4_ t0 t5 t6 t7) ?_))
   rintro a A ⟨t21,-⟩ ⟨t0,t5,t6,t7,-⟩
   refine wp_cond_true t21 ?_
   refine wp_seq ?_
   refine wi_ A (h4_ t0 t5 t6 t7) (rg_ [(2,.bool false)] ?_)
   rintro a A ⟨t2,-⟩
   have hE:faQ f n=false:=allB_bad lti (fun q=>by have:=of_decide_eq_true q; omega)
   rw [hE]
   refine wp_ret ?_
   repeat (first | with_reducible refine ret_in ?_ | with_reducible refine ret_then ?_)
   refine bodyPost_ret (results_tmp rfl _ _ _) A.2 ⟨?_,BB⟩
   show Ending.returned (a.eval (.tmp 2))=_
   rw [t2]
  ·by_cases h2:(n:Int) - (i:Int)<=f i
   ·obtain ⟨w,ew⟩:∃ w:Nat,f i=w:=⟨(f i).toNat,by omega⟩
    have cW:∀ X,Below V.heap.size V X->X.cell? ⟨ib,io+i,none⟩=some (.int .i64 ((w:Nat):Int)):=fun X hX=>by rw [cI i lti X hX,ew]
    refine wp_seq ?_
    refine wi_ A (h4_ t0 t5 t6 t7) (rv_ 1 (.pointer (some ⟨ib,io+i,none⟩)) (fun a e=>execIdxN (k:=i) rfl (e _) (e _) lti) (rv_ 2 (.int .i64 ((w:Nat):Int)) (fun a e=>execLd3 rfl (e _) (cW XL2 BB)) (rf_ [(3,.int .i64 ((i:Nat):Int)),(4,.int .i64 ((w:Nat):Int))] (h4_ t0 t5 t6 t7) ?_)))
    rintro a A ⟨t3,t4,-⟩ ⟨t0,t5,t6,t7,-⟩
    refine wp_seq ?_
    refine wi_ A (h6_ t0 t5 t6 t7 t3 t4) (rv_ 1 (.bool false) (fun a e=>execDec (execLtW (p:=w) (q:=0) rfl (e _) rfl) (decide_eq_false (by omega))) (rv_ 5 (.int .i64 ((n:Nat):Int)) (fun a e=>execLenI (len:=n) rfl (e _) ((FI.on BB)).shp) (rv_ 7 (.int .i64 ((n - i:Nat):Int)) (fun a e=>By8.execSubI (p:=n) (q:=i) rfl (e _) (e _) (by omega) (by omega)) (rv_ 8 (.bool true) (fun a e=>execDec (execGe8 (p:=w) (q:=n - i) rfl (e _) (e _)) (decide_eq_true (by omega))) (rf_ [(21,.bool true)] (h4_ t0 t5 t6 t7) ?_)))))
    rintro a A ⟨t21,-⟩ ⟨t0,t5,t6,t7,-⟩
    refine wp_cond_true t21 ?_
    refine wp_seq ?_
    refine wi_ A (h4_ t0 t5 t6 t7) (rg_ [(2,.bool false)] ?_)
    rintro a A ⟨t2,-⟩
    have hE:faQ f n=false:=allB_bad lti (fun q=>by have:=of_decide_eq_true q; omega)
    rw [hE]
    refine wp_ret ?_
    repeat (first | with_reducible refine ret_in ?_ | with_reducible refine ret_then ?_)
    refine bodyPost_ret (results_tmp rfl _ _ _) A.2 ⟨?_,BB⟩
    show Ending.returned (a.eval (.tmp 2))=_
    rw [t2]
   ·obtain ⟨w,ew⟩:∃ w:Nat,f i=w:=⟨(f i).toNat,by omega⟩
    have cW:∀ X,Below V.heap.size V X->X.cell? ⟨ib,io+i,none⟩=some (.int .i64 ((w:Nat):Int)):=fun X hX=>by rw [cI i lti X hX,ew]
    refine wp_seq ?_
    refine wi_ A (h4_ t0 t5 t6 t7) (rv_ 1 (.pointer (some ⟨ib,io+i,none⟩)) (fun a e=>execIdxN (k:=i) rfl (e _) (e _) lti) (rv_ 2 (.int .i64 ((w:Nat):Int)) (fun a e=>execLd3 rfl (e _) (cW XL2 BB)) (rf_ [(3,.int .i64 ((i:Nat):Int)),(4,.int .i64 ((w:Nat):Int))] (h4_ t0 t5 t6 t7) ?_)))
    rintro a A ⟨t3,t4,-⟩ ⟨t0,t5,t6,t7,-⟩
    refine wp_seq ?_
    refine wi_ A (h6_ t0 t5 t6 t7 t3 t4) (rv_ 1 (.bool false) (fun a e=>execDec (execLtW (p:=w) (q:=0) rfl (e _) rfl) (decide_eq_false (by omega))) (rv_ 5 (.int .i64 ((n:Nat):Int)) (fun a e=>execLenI (len:=n) rfl (e _) ((FI.on BB)).shp) (rv_ 7 (.int .i64 ((n - i:Nat):Int)) (fun a e=>By8.execSubI (p:=n) (q:=i) rfl (e _) (e _) (by omega) (by omega)) (rv_ 8 (.bool false) (fun a e=>execDec (execGe8 (p:=w) (q:=n - i) rfl (e _) (e _)) (decide_eq_false (by omega))) (rf_ [(21,.bool false)] (h4_ t0 t5 t6 t7) ?_)))))
    rintro a A ⟨t21,-⟩ ⟨t0,t5,t6,t7,-⟩
    refine wp_cond_false t21 (wp_skip ?_)
    clear t21
    refine wi_ A (h4_ t0 t5 t6 t7) (rv_ 0 (.int .i64 ((i+1:Nat):Int)) (fun a e=>execAd8 (p:=i) (q:=1) rfl (e _) rfl (by omega)) (rf_ [(7,.int .i64 ((i+1:Nat):Int))] (h3_ t0 t5 t6) ?_))
    rintro a A ⟨t7,-⟩ ⟨t0,t5,t6,-⟩
    exact ⟨⟨i+1,lti,allB_succ hok (decide_eq_true (by omega)),A,t0,t5,t6,t7,BB⟩,by show n - (intOf (a.eval (.tmp 7))).toNat < n - (intOf (Act.eval _ (.tmp 7))).toNat; rw [t7,esi]; show n - (i+1) < n - i; omega⟩
 ·rw [decide_eq_false lti] at t8
  refine wp_cond_false t8 ?_
  refine wp_exit ?_
  first | with_reducible refine exit_in ?_ | with_reducible refine exit_then (exit_in ?_) | with_reducible refine exit_then (exit_then (exit_in ?_)) | refine exit_in ?_ | refine exit_then (exit_in ?_) | refine exit_then (exit_then (exit_in ?_))
  clear t8 esi
  obtain rfl:i=n:=by omega
  have hE:faQ f i=true:=hok
  rw [hE]
  clear t0 t5 t6 t7
  refine wp_seq ?_
  refine wi_ A h0_ (rg_ [(2,.bool true)] ?_)
  rintro a A ⟨t2,-⟩
  refine wp_ret ?_
  repeat (first | with_reducible refine ret_in ?_ | with_reducible refine ret_then ?_)
  refine bodyPost_ret (results_tmp rfl _ _ _) A.2 ⟨?_,BB⟩
  show Ending.returned (a.eval (.tmp 2))=_
  rw [t2]
set_option maxRecDepth 100000 in
set_option maxHeartbeats 4000000 in
theorem pclone (f:Nat->Int) (n:Nat) (v:Value) (V:World) (hv:SliceI V v n f) (hn17:n<=17592186044416) :
  Calls Try.prog 79 #[v] V fun e w'=>∃ r,e=.returned r/\w'.ownsRow V.heap.size 3 1 r n (intsL n f)/\Below V.heap.size V w':=by
 obtain ⟨ia,ic,rfl,-,-,hsh⟩:=id hv.shape
 have FI:=hv
 cases ia with
 | none=>
  obtain rfl:n=0:=by
   by_cases h:0 < n
   ·obtain ⟨b,off,e,_⟩:=hsh h
    cases e
   ·omega
  go_enter Try.func79,Try.ntmps79
  refine wp_seq ?_
  refine wo_ 8 [(0,.slice none 0 ic)] ?_
  rintro a A ⟨t0,-⟩
  refine wi_ A (h1_ t0) (rf_ [] (h1_ t0) ?_)
  rintro a A - ⟨t0,-⟩
  have BW:Below V.heap.size V V:=Below.refl _ _
  have BB:=BW
  refine wp_seq (wp_seq ?_)
  refine wi_ A (h1_ t0) (rv_ 1 (.bool true) (fun a e=>execNilIt rfl (e _)) (rf_ [(4,.bool true)] (h1_ t0) ?_))
  rintro a A ⟨t4,-⟩ ⟨t0,-⟩
  refine wp_cond_true t4 ?_
  refine wp_seq ?_
  refine wi_ A (h1_ t0) (rg_ [(2,.slice none 0 0)] ?_)
  rintro a A ⟨t2,-⟩
  refine wp_ret ?_
  repeat (first | with_reducible refine ret_in ?_ | with_reducible refine ret_then ?_)
  refine bodyPost_ret (results_tmp rfl _ _ _) A.2 ⟨_,?_,World.ownsRow_nil _ _ _ _,BB⟩
  show Ending.returned (a.eval (.tmp 2))=_
  rw [t2]
 | some ad=>
  go_enter Try.func79,Try.ntmps79
  refine wp_seq ?_
  refine wo_ 8 [(0,.slice (some ad) n ic)] ?_
  rintro a A ⟨t0,-⟩
  refine wi_ A (h1_ t0) (rf_ [] (h1_ t0) ?_)
  rintro a A - ⟨t0,-⟩
  have BW:Below V.heap.size V V:=Below.refl _ _
  have BB:=BW
  refine wp_seq (wp_seq ?_)
  refine wi_ A (h1_ t0) (rv_ 1 (.bool false) (fun a e=>execNilIf rfl (e _)) (rf_ [(4,.bool false)] (h1_ t0) ?_))
  rintro a A ⟨t4,-⟩ ⟨t0,-⟩
  refine wp_cond_false t4 (wp_skip ?_)
  clear t4
  refine wp_seq ?_
  obtain ⟨g5,egg5⟩:∃ z_:Nat,V.heap.size=z_:=⟨_,rfl⟩
  refine wi_ A (h1_ t0) (rs_ 0 (fun a e=>?_))
  refine stepV rfl rfl (execBs0I rfl) ⟨.slice (some ⟨g5,0,none⟩) 0 0,⟨_,rfl,by subst egg5; rfl⟩,fun X3_1 hX=>?_⟩
  have bQ:Below V.heap.size V X3_1:=by subst hX egg5; exact (belNew V _)
  have Fg5:(X3_1.ownsRow V.heap.size 3 1 (.slice (some ⟨g5,0,none⟩) 0 0) (0) (intsL (0) (f))):=by subst hX egg5; exact ownD_base (own_noneI V _) (BB).size
  replace BB:=BB.trans (bQ.mono BB.size)
  clear bQ hX egg5 e a
  refine rs_ 2 (fun a e=>?_)
  refine stepAppIs (f:=f) (g:=f) rfl rfl rfl (e _) (e _) Fg5 (FI.on BB) (fun l c e=>by cases e) (by omega) (BB).size fun v7 X3 own' gr=>⟨_,⟨_,rfl,rfl⟩,eqw ?_⟩
  obtain ⟨BB,Fv7⟩:Below V.heap.size V X3/\(X3.ownsRow V.heap.size 3 1 v7 (n) (intsL (n) (f))):=⟨(BB).grown gr (BB).size (fun k hk=>(Fg5.lt k hk).1),own_cat0 own'⟩
  clear Fg5 e a
  refine rg_ [(2,v7)] ?_
  rintro a A ⟨t2,-⟩
  refine wp_ret ?_
  refine bodyPost_ret (results_tmp rfl _ _ _) A.2 ⟨v7,?_,Fv7,BB⟩
  show Ending.returned (a.eval (.tmp 2))=_
  rw [t2]
set_option maxRecDepth 100000 in
set_option maxHeartbeats 4000000 in
theorem pstands (f tm:Nat->Int) (n J:Nat) (v u0:Value) (V:World) (hv:SliceI V v n f) (hn17:n<=17592186044416) (hv2:SliceI V u0 J tm) (hJ17:J<=17592186044416) (htm:∀ j,j < J->0<=tm j) :
  Calls Try.prog 47 #[v,u0] V fun e w'=>e=.returned (.bool (stQ f n tm J))/\Below V.heap.size V w':=by
 obtain ⟨ia,ic,rfl,-,-,hsh⟩:=id hv.shape
 have FI:=hv
 have FJ:=hv2
 go_enter Try.func47,Try.ntmps47
 refine wp_seq ?_
 refine wo_ 42 [(0,.slice ia n ic),(1,u0)] ?_
 rintro a A ⟨t0,t1,-⟩
 refine wi_ A (h2_ t0 t1) (rf_ [] (h2_ t0 t1) ?_)
 rintro a A - ⟨t0,t1,-⟩
 have BW:Below V.heap.size V V:=Below.refl _ _
 have BB:=BW
 refine wp_seq ?_
 refine wi_ A (h2_ t0 t1) (rc_ 1 (pclone tm J _ V (FJ.on BB) hJ17) fun e X1 hh=>?_)
 obtain ⟨v11,he,hk,hb⟩:=hh
 refine ⟨_,he,?_⟩
 have bQ:Below V.heap.size V X1:=hb
 have FO:(X1.ownsRow V.heap.size 3 1 v11 (J) (intsL (J) (tm))):=ownD_base hk (BB).size
 replace BB:=BB.trans (bQ.mono BB.size)
 clear bQ
 refine rf_ [(5,v11)] (h1_ t0) ?_
 rintro a A ⟨t5,-⟩ ⟨t0,-⟩
 rw [intsL_congr (g:=fun j=>tm j - (cntC (gN f) j 0:Int)) (fun j hj=>(Int.sub_zero _).symm)] at FO
 refine wp_seq (wp_seq ?_)
 refine wi_ A (h2_ t0 t5) (rv_ 1 (.int .i64 ((n:Nat):Int)) (fun a e=>execLenI (len:=n) rfl (e _) ((FI.on BB)).shp) (rf_ [(12,.slice ia n ic),(13,.int .i64 ((n:Nat):Int)),(14,.int .i64 ((0:Nat):Int))] (h1_ t5) ?_))
 rintro a A ⟨t12,t13,t14,-⟩ ⟨t5,-⟩
 refine wp_block ?_
 refine wp_loop (fun a W=>∃ (i:Nat),i<=n/\(allB (inB f J) i=true)/\(a.tmps.size=42/\a.defers=[])/\a.eval (.tmp 5)=v11/\a.eval (.tmp 12)=.slice ia n ic/\a.eval (.tmp 13)=.int .i64 ((n:Nat):Int)/\a.eval (.tmp 14)=.int .i64 ((i:Nat):Int)/\Below V.heap.size V W/\(W.ownsRow V.heap.size 3 1 v11 (J) (intsL (J) (fun j=>tm j - (cntC (gN f) j i:Int))))) (fun a _=>n - (intOf (a.eval (.tmp 14))).toNat) ⟨0,Nat.zero_le _,rfl,A,t5,t12,t13,t14,BB,FO⟩ ?_
 rintro a XL3 ⟨i,hi,hok,A,t5,t12,t13,t14,BB,FO⟩
 have esi:=t14
 refine wp_seq ?_
 refine wi_ A (h4_ t5 t12 t13 t14) (rv_ 0 (.bool (decide (i < n))) (fun a e=>execLtW (p:=i) (q:=n) rfl (e _) (e _)) (rf_ [(15,.bool (decide (i < n)))] (h4_ t5 t12 t13 t14) ?_))
 rintro a A ⟨t15,-⟩ ⟨t5,t12,t13,t14,-⟩
 refine wp_seq ?_
 by_cases lti:i < n
 ·rw [decide_eq_true lti] at t15
  refine wp_cond_true t15 (wp_skip ?_)
  clear t15
  refine wp_seq (wp_block ?_)
  obtain ⟨ib,io,rfl,hib,hcell⟩:=hsh (by omega)
  have cI:∀ k,k < n->∀ X,Below V.heap.size V X->X.cell? ⟨ib,io+k,none⟩=some (.int .i64 (f k)):=fun k hk X hX=>by rw [cell_below hX hib]; exact hcell k hk
  by_cases h1:f i < 0
  ·refine wp_seq ?_
   refine wi_ A (h4_ t5 t12 t13 t14) (rv_ 0 (.pointer (some ⟨ib,io+i,none⟩)) (fun a e=>execIdxN (k:=i) rfl (e _) (e _) lti) (rv_ 1 (.int .i64 (f i)) (fun a e=>execLd3 rfl (e _) (cI i lti XL3 BB)) (rf_ [(7,.int .i64 (f i))] (h4_ t5 t12 t13 t14) ?_)))
   rintro a A ⟨t7,-⟩ ⟨t5,t12,t13,t14,-⟩
   refine wp_seq (wp_seq ?_)
   refine wi_ A (h5_ t5 t12 t13 t14 t7) (rv_ 1 (.bool true) (fun a e=>execLtCt (p:=(f i)) (q:=0) rfl (e _) (by exact h1)) (rf_ [(25,.bool true)] (h5_ t5 t12 t13 t14 t7) ?_))
   rintro a A ⟨t25,-⟩ ⟨t5,t12,t13,t14,t7,-⟩
   refine wp_cond_true t25 ?_
   refine wp_seq ?_
   clear FO
   refine wi_ A (h5_ t5 t12 t13 t14 t7) (rg_ [(4,.bool false)] ?_)
   rintro a A ⟨t4,-⟩
   have hE:stQ f n tm J=false:=Bool.eq_false_iff.2 fun q=>by have:=(stQ_iff.1 q).1 i lti; omega
   rw [hE]
   refine wp_ret ?_
   repeat (first | with_reducible refine ret_in ?_ | with_reducible refine ret_then ?_)
   refine bodyPost_ret (results_tmp rfl _ _ _) A.2 ⟨?_,BB⟩
   show Ending.returned (a.eval (.tmp 4))=_
   rw [t4]
  ·by_cases h2:(J:Int)<=f i
   ·obtain ⟨w,ew⟩:∃ w:Nat,f i=w:=⟨(f i).toNat,by omega⟩
    have cW:∀ X,Below V.heap.size V X->X.cell? ⟨ib,io+i,none⟩=some (.int .i64 ((w:Nat):Int)):=fun X hX=>by rw [cI i lti X hX,ew]
    refine wp_seq ?_
    refine wi_ A (h4_ t5 t12 t13 t14) (rv_ 0 (.pointer (some ⟨ib,io+i,none⟩)) (fun a e=>execIdxN (k:=i) rfl (e _) (e _) lti) (rv_ 1 (.int .i64 ((w:Nat):Int)) (fun a e=>execLd3 rfl (e _) (cW XL3 BB)) (rf_ [(7,.int .i64 ((w:Nat):Int))] (h4_ t5 t12 t13 t14) ?_)))
    rintro a A ⟨t7,-⟩ ⟨t5,t12,t13,t14,-⟩
    refine wp_seq (wp_seq ?_)
    refine wi_ A (h5_ t5 t12 t13 t14 t7) (rv_ 1 (.bool false) (fun a e=>execDec (execLtW (p:=w) (q:=0) rfl (e _) rfl) (decide_eq_false (by omega))) (rv_ 5 (.int .i64 ((J:Nat):Int)) (fun a e=>execLenI (len:=J) rfl (e _) (shpO FO)) (rv_ 6 (.bool true) (fun a e=>execDec (execGe8 (p:=w) (q:=J) rfl (e _) (e _)) (decide_eq_true (by omega))) (rf_ [(25,.bool true)] (h5_ t5 t12 t13 t14 t7) ?_))))
    rintro a A ⟨t25,-⟩ ⟨t5,t12,t13,t14,t7,-⟩
    refine wp_cond_true t25 ?_
    refine wp_seq ?_
    clear FO
    refine wi_ A (h5_ t5 t12 t13 t14 t7) (rg_ [(4,.bool false)] ?_)
    rintro a A ⟨t4,-⟩
    have hE:stQ f n tm J=false:=Bool.eq_false_iff.2 fun q=>by have:=(stQ_iff.1 q).1 i lti; omega
    rw [hE]
    refine wp_ret ?_
    repeat (first | with_reducible refine ret_in ?_ | with_reducible refine ret_then ?_)
    refine bodyPost_ret (results_tmp rfl _ _ _) A.2 ⟨?_,BB⟩
    show Ending.returned (a.eval (.tmp 4))=_
    rw [t4]
   ·obtain ⟨w,ew⟩:∃ w:Nat,f i=w:=⟨(f i).toNat,by omega⟩
    have cW:∀ X,Below V.heap.size V X->X.cell? ⟨ib,io+i,none⟩=some (.int .i64 ((w:Nat):Int)):=fun X hX=>by rw [cI i lti X hX,ew]
    refine wp_seq ?_
    refine wi_ A (h4_ t5 t12 t13 t14) (rv_ 0 (.pointer (some ⟨ib,io+i,none⟩)) (fun a e=>execIdxN (k:=i) rfl (e _) (e _) lti) (rv_ 1 (.int .i64 ((w:Nat):Int)) (fun a e=>execLd3 rfl (e _) (cW XL3 BB)) (rf_ [(7,.int .i64 ((w:Nat):Int))] (h4_ t5 t12 t13 t14) ?_)))
    rintro a A ⟨t7,-⟩ ⟨t5,t12,t13,t14,-⟩
    refine wp_seq (wp_seq ?_)
    refine wi_ A (h5_ t5 t12 t13 t14 t7) (rv_ 1 (.bool false) (fun a e=>execDec (execLtW (p:=w) (q:=0) rfl (e _) rfl) (decide_eq_false (by omega))) (rv_ 5 (.int .i64 ((J:Nat):Int)) (fun a e=>execLenI (len:=J) rfl (e _) (shpO FO)) (rv_ 6 (.bool false) (fun a e=>execDec (execGe8 (p:=w) (q:=J) rfl (e _) (e _)) (decide_eq_false (by omega))) (rf_ [(25,.bool false)] (h5_ t5 t12 t13 t14 t7) ?_))))
    rintro a A ⟨t25,-⟩ ⟨t5,t12,t13,t14,t7,-⟩
    refine wp_cond_false t25 (wp_skip ?_)
    clear t25
    have hw:w < J:=by omega
    have hg:gN f i=w:=by show (f i).toNat=w; omega
    obtain ⟨gl,cl,el,hgl,_⟩:=ownL_some9 FO (by omega)
    have hfw:=hv2.fits w hw
    have hpw:=htm w hw
    have hcw:=cnt_le (gN f) w i
    refine wi_ A (h5_ t5 t12 t13 t14 t7) (rv_ 2 (.pointer (some ⟨gl,0+w,none⟩)) (fun a e=>execIdxN (k:=w) rfl ((e _).trans el) (e _) hw) (rv_ 3 (.int .i64 (tm w - (cntC (gN f) w i:Int))) (fun a e=>execLd3 rfl (e _) (own_cellI (by have h_:=FO; rw [el] at h_; exact h_) hw).1) (rv_ 4 (.int .i64 (tm w - (cntC (gN f) w i:Int) - 1)) (fun a e=>execSubIg (p:=tm w - (cntC (gN f) w i:Int)) (q:=1) (z:=tm w - (cntC (gN f) w i:Int) - 1) rfl (e _) rfl rfl (by omega) (by omega)) (rv_ 5 (.pointer (some ⟨gl,0+w,none⟩)) (fun a e=>execIdxN (k:=w) rfl ((e _).trans el) (e _) hw) (rs_ 6 (fun a e=>?_))))))
    obtain ⟨hc_,hf_⟩:=own_cellI (by have h_:=FO; rw [el] at h_; exact h_) hw
    refine stepS rfl rfl (execStI9 rfl (e _) (e _) hc_ hf_) ⟨_,⟨_,rfl,rfl⟩,fun X7 hX=>?_⟩
    obtain ⟨BB,FO2⟩:Below V.heap.size V X7/\(X7.ownsRow V.heap.size 3 1 v11 (J) (intsL (J) (fun j=>tm j - (cntC (gN f) j (i+1):Int)))):=by subst hX; exact ⟨(BB).setCell hgl _,st_set FO el hg⟩
    clear FO hX e a
    refine rf_ [] (h4_ t5 t12 t13 t14) ?_
    rintro a A - ⟨t5,t12,t13,t14,-⟩
    refine wi_ A (h4_ t5 t12 t13 t14) (rv_ 0 (.int .i64 ((i+1:Nat):Int)) (fun a e=>execAd8 (p:=i) (q:=1) rfl (e _) rfl (by omega)) (rf_ [(14,.int .i64 ((i+1:Nat):Int))] (h3_ t5 t12 t13) ?_))
    rintro a A ⟨t14,-⟩ ⟨t5,t12,t13,-⟩
    exact ⟨⟨i+1,lti,allB_succ hok (decide_eq_true (by omega)),A,t5,t12,t13,t14,BB,FO2⟩,by show n - (intOf (a.eval (.tmp 14))).toNat < n - (intOf (Act.eval _ (.tmp 14))).toNat; rw [t14,esi]; show n - (i+1) < n - i; omega⟩
 ·rw [decide_eq_false lti] at t15
  refine wp_cond_false t15 ?_
  refine wp_exit ?_
  first | with_reducible refine exit_in ?_ | with_reducible refine exit_then (exit_in ?_) | with_reducible refine exit_then (exit_then (exit_in ?_)) | refine exit_in ?_ | refine exit_then (exit_in ?_) | refine exit_then (exit_then (exit_in ?_))
  clear t15 esi
  obtain rfl:i=n:=by omega
  clear t12 t13 t14 lti hi
  refine wp_seq (wp_seq ?_)
  refine wi_ A (h1_ t5) (rv_ 1 (.int .i64 ((J:Nat):Int)) (fun a e=>execLenI (len:=J) rfl (e _) (shpO FO)) (rg_ [(33,v11),(34,.int .i64 ((J:Nat):Int)),(35,.int .i64 ((0:Nat):Int))] ?_))
  rintro a A ⟨t33,t34,t35,-⟩
  refine wp_block ?_
  refine wp_loop (fun a W=>∃ (j:Nat),j<=J/\(allB (cnB f i tm) j=true)/\(a.tmps.size=42/\a.defers=[])/\a.eval (.tmp 33)=v11/\a.eval (.tmp 34)=.int .i64 ((J:Nat):Int)/\a.eval (.tmp 35)=.int .i64 ((j:Nat):Int)/\Below V.heap.size V W/\(W.ownsRow V.heap.size 3 1 v11 (J) (intsL (J) (fun j=>tm j - (cntC (gN f) j i:Int))))) (fun a _=>J - (intOf (a.eval (.tmp 35))).toNat) ⟨0,Nat.zero_le _,rfl,A,t33,t34,t35,BB,FO⟩ ?_
  rintro a XL10 ⟨j,hj,hok2,A,t33,t34,t35,BB,FO⟩
  have esj:=t35
  refine wp_seq ?_
  refine wi_ A (h3_ t33 t34 t35) (rv_ 0 (.bool (decide (j < J))) (fun a e=>execLtW (p:=j) (q:=J) rfl (e _) (e _)) (rf_ [(36,.bool (decide (j < J)))] (h3_ t33 t34 t35) ?_))
  rintro a A ⟨t36,-⟩ ⟨t33,t34,t35,-⟩
  refine wp_seq ?_
  by_cases ltj:j < J
  ·rw [decide_eq_true ltj] at t36
   refine wp_cond_true t36 (wp_skip ?_)
   clear t36
   refine wp_seq (wp_block ?_)
   obtain ⟨gl,cl,el,hgl,_⟩:=ownL_some9 FO (by omega)
   have hpw:=htm j ltj
   refine wp_seq ?_
   refine wi_ A (h3_ t33 t34 t35) (rv_ 0 (.pointer (some ⟨gl,0+j,none⟩)) (fun a e=>execIdxN (k:=j) rfl ((e _).trans el) (e _) ltj) (rv_ 1 (.int .i64 (tm j - (cntC (gN f) j i:Int))) (fun a e=>execLd3 rfl (e _) (own_cellI (by have h_:=FO; rw [el] at h_; exact h_) ltj).1) (rf_ [(9,.int .i64 (tm j - (cntC (gN f) j i:Int)))] (h3_ t33 t34 t35) ?_)))
   rintro a A ⟨t9,-⟩ ⟨t33,t34,t35,-⟩
   refine wp_seq ?_
   by_cases hc:tm j=(cntC (gN f) j i:Int)
   ·refine wi_ A (h4_ t33 t34 t35 t9) (rv_ 1 (.bool false) (fun a e=>execNeIf (p:=tm j - (cntC (gN f) j i:Int)) (q:=0) rfl (e _) rfl (by omega)) (rf_ [(40,.bool false)] (h3_ t33 t34 t35) ?_))
    rintro a A ⟨t40,-⟩ ⟨t33,t34,t35,-⟩
    refine wp_cond_false t40 (wp_skip ?_)
    clear t40
    refine wi_ A (h3_ t33 t34 t35) (rv_ 0 (.int .i64 ((j+1:Nat):Int)) (fun a e=>execAd8 (p:=j) (q:=1) rfl (e _) rfl (by omega)) (rf_ [(35,.int .i64 ((j+1:Nat):Int))] (h2_ t33 t34) ?_))
    rintro a A ⟨t35,-⟩ ⟨t33,t34,-⟩
    exact ⟨⟨j+1,ltj,allB_succ hok2 (decide_eq_true hc),A,t33,t34,t35,BB,FO⟩,by show J - (intOf (a.eval (.tmp 35))).toNat < J - (intOf (Act.eval _ (.tmp 35))).toNat; rw [t35,esj]; show J - (j+1) < J - j; omega⟩
   ·refine wi_ A (h4_ t33 t34 t35 t9) (rv_ 1 (.bool true) (fun a e=>execNeIt (p:=tm j - (cntC (gN f) j i:Int)) (q:=0) rfl (e _) rfl (by omega)) (rf_ [(40,.bool true)] (h3_ t33 t34 t35) ?_))
    rintro a A ⟨t40,-⟩ ⟨t33,t34,t35,-⟩
    refine wp_cond_true t40 ?_
    refine wp_seq ?_
    clear FO
    refine wi_ A (h3_ t33 t34 t35) (rg_ [(4,.bool false)] ?_)
    rintro a A ⟨t4,-⟩
    have hE:stQ f i tm J=false:=Bool.eq_false_iff.2 fun q=>hc ((stQ_iff.1 q).2 j ltj)
    rw [hE]
    refine wp_ret ?_
    repeat (first | with_reducible refine ret_in ?_ | with_reducible refine ret_then ?_)
    refine bodyPost_ret (results_tmp rfl _ _ _) A.2 ⟨?_,BB⟩
    show Ending.returned (a.eval (.tmp 4))=_
    rw [t4]
  ·rw [decide_eq_false ltj] at t36
   refine wp_cond_false t36 ?_
   refine wp_exit ?_
   first | with_reducible refine exit_in ?_ | with_reducible refine exit_then (exit_in ?_) | with_reducible refine exit_then (exit_then (exit_in ?_)) | refine exit_in ?_ | refine exit_then (exit_in ?_) | refine exit_then (exit_then (exit_in ?_))
   clear t36 esj
   obtain rfl:j=J:=by omega
   have hE:stQ f i tm j=true:=by unfold stQ; rw [hok,hok2]; rfl
   rw [hE]
   clear t33 t34 t35 FO
   refine wp_seq ?_
   refine wi_ A h0_ (rg_ [(4,.bool true)] ?_)
   rintro a A ⟨t4,-⟩
   refine wp_ret ?_
   repeat (first | with_reducible refine ret_in ?_ | with_reducible refine ret_then ?_)
   refine bodyPost_ret (results_tmp rfl _ _ _) A.2 ⟨?_,BB⟩
   show Ending.returned (a.eval (.tmp 4))=_
   rw [t4]
set_option maxRecDepth 100000 in
set_option maxHeartbeats 4000000 in
theorem pareOffsets (sf vf:Nat->Int) (J m:Nat) (v u0:Value) (V:World) (hv:SliceI V v J sf) (hJ:J<=64) (hok:okS sf J=true) (hv2:SliceI V u0 m vf) :
  Calls Try.prog 82 #[v,u0] V fun e w'=>e=.returned (.bool (decide (m=sumN (gN sf) J) && ofQ sf J vf))/\Below V.heap.size V w':=by
 obtain ⟨ia,ic,rfl,-,-,hsh⟩:=id hv.shape
 have FI:=hv
 obtain ⟨ja,jc,rfl,hjm,-,hsj⟩:=id hv2.shape
 have FJ:=hv2
 go_enter Try.func82,Try.ntmps82
 refine wp_seq ?_
 refine wo_ 31 [(0,.slice ia J ic),(1,.slice ja m jc)] ?_
 rintro a A ⟨t0,t1,-⟩
 refine wi_ A (h2_ t0 t1) (rf_ [] (h2_ t0 t1) ?_)
 rintro a A - ⟨t0,t1,-⟩
 have BW:Below V.heap.size V V:=Below.refl _ _
 have BB:=BW
 have hsum:=okS_sum hok
 refine wp_seq (wp_seq ?_)
 by_cases hm:m=sumN (gN sf) J
 ·refine wi_ A (h2_ t0 t1) (rv_ 1 (.int .i64 ((m:Nat):Int)) (fun a e=>execLenI (len:=m) rfl (e _) ((FJ.on BB)).shp) (rc_ 3 (psum sf J _ V (FI.on BB) (by omega) (fun j hj=>(okS_iff.1 hok j hj).1) (by omega)) (cb_ fun X1 bQ=>?_)))
  replace BB:=BB.trans (bQ.mono BB.size)
  clear bQ
  refine rv_ 4 (.bool false) (fun a e=>execDec (execNeN (p:=m) (q:=sumN (gN sf) J) rfl (e _) (e _)) (decide_eq_false (by omega))) (rf_ [(12,.bool false)] (h2_ t0 t1) ?_)
  rintro a A ⟨t12,-⟩ ⟨t0,t1,-⟩
  refine wp_cond_false t12 (wp_skip ?_)
  clear t12
  rw [decide_eq_true hm,Bool.true_and]
  refine wp_seq ?_
  refine wi_ A (h2_ t0 t1) (rf_ [(5,.int .i64 ((0:Nat):Int))] (h2_ t0 t1) ?_)
  rintro a A ⟨t5,-⟩ ⟨t0,t1,-⟩
  refine wp_seq (wp_seq ?_)
  refine wi_ A (h3_ t0 t1 t5) (rv_ 1 (.int .i64 ((J:Nat):Int)) (fun a e=>execLenI (len:=J) rfl (e _) ((FI.on BB)).shp) (rf_ [(13,.slice ia J ic),(14,.int .i64 ((J:Nat):Int)),(15,.int .i64 ((0:Nat):Int))] (h2_ t1 t5) ?_))
  rintro a A ⟨t13,t14,t15,-⟩ ⟨t1,t5,-⟩
  refine wp_block ?_
  refine wp_loop (fun a W=>∃ (i:Nat),i<=J/\(allB (ofB sf vf) i=true)/\(a.tmps.size=31/\a.defers=[])/\a.eval (.tmp 1)=.slice ja m jc/\a.eval (.tmp 5)=.int .i64 ((sumN (gN sf) i:Nat):Int)/\a.eval (.tmp 13)=.slice ia J ic/\a.eval (.tmp 14)=.int .i64 ((J:Nat):Int)/\a.eval (.tmp 15)=.int .i64 ((i:Nat):Int)/\Below V.heap.size V W) (fun a _=>J - (intOf (a.eval (.tmp 15))).toNat) ⟨0,Nat.zero_le _,rfl,A,t1,t5,t13,t14,t15,BB⟩ ?_
  rintro a XL5 ⟨i,hi,hall,A,t1,t5,t13,t14,t15,BB⟩
  have esi:=t15
  refine wp_seq ?_
  refine wi_ A (h5_ t1 t5 t13 t14 t15) (rv_ 0 (.bool (decide (i < J))) (fun a e=>execLtW (p:=i) (q:=J) rfl (e _) (e _)) (rf_ [(16,.bool (decide (i < J)))] (h5_ t1 t5 t13 t14 t15) ?_))
  rintro a A ⟨t16,-⟩ ⟨t1,t5,t13,t14,t15,-⟩
  refine wp_seq ?_
  by_cases lti:i < J
  ·rw [decide_eq_true lti] at t16
   refine wp_cond_true t16 (wp_skip ?_)
   clear t16
   refine wp_seq (wp_block ?_)
   obtain ⟨ib,io,rfl,hib,hcell⟩:=hsh (by omega)
   have cI:∀ k,k < J->∀ X,Below V.heap.size V X->X.cell? ⟨ib,io+k,none⟩=some (.int .i64 (sf k)):=fun k hk X hX=>by rw [cell_below hX hib]; exact hcell k hk
   obtain ⟨w,ew⟩:∃ w:Nat,sf i=w:=⟨(sf i).toNat,by have:=(okS_iff.1 hok i lti).1; omega⟩
   have cW:∀ X,Below V.heap.size V X->X.cell? ⟨ib,io+i,none⟩=some (.int .i64 ((w:Nat):Int)):=fun X hX=>by rw [cI i lti X hX,ew]
   have hg:gN sf i=w:=by show (sf i).toNat=w; omega
   have e3:sumN (gN sf) i+w=sumN (gN sf) (i+1):=by show _=sumN (gN sf) i+(sf i).toNat; omega
   have hb3:=sumN_mono (r:=gN sf) (show i+1<=J by omega)
   have hjc:m<=jc:=hjm
   have cF:∀ X,Below V.heap.size V X->Calls Try.prog 71 #[sliced ja (sumN (gN sf) i) (sumN (gN sf) i+w) jc 1] X fun e w'=>e=.returned (.bool (ofB sf vf i))/\Below X.heap.size X w':=fun X hX=>by
    have h_:=pareFalling (fun k=>vf (sumN (gN sf) i+k)) (sumN (gN sf) i+w - sumN (gN sf) i) _ X (SliceI.sub (FJ.on hX) (sumN (gN sf) i) (sumN (gN sf) i+w) (by omega) (by omega)) (by omega)
    rw [show sumN (gN sf) i+w - sumN (gN sf) i=gN sf i by omega] at h_
    exact h_
   refine wp_seq ?_
   refine wi_ A (h5_ t1 t5 t13 t14 t15) (rv_ 0 (.pointer (some ⟨ib,io+i,none⟩)) (fun a e=>execIdxN (k:=i) rfl (e _) (e _) lti) (rv_ 1 (.int .i64 ((w:Nat):Int)) (fun a e=>execLd3 rfl (e _) (cW XL5 BB)) (rf_ [(7,.int .i64 ((w:Nat):Int))] (h5_ t1 t5 t13 t14 t15) ?_)))
   rintro a A ⟨t7,-⟩ ⟨t1,t5,t13,t14,t15,-⟩
   refine wp_seq (wp_seq ?_)
   cases hq:ofB sf vf i with
   | true=>
    refine wi_ A (h6_ t1 t5 t13 t14 t15 t7) (rv_ 4 (.int .i64 ((sumN (gN sf) i+w:Nat):Int)) (fun a e=>execAd8 (p:=sumN (gN sf) i) (q:=w) rfl (e _) (e _) (by omega)) (rv_ 5 (sliced ja (sumN (gN sf) i) (sumN (gN sf) i+w) jc 1) (fun a e=>execSlLH9 rfl (e _) (e _) (e _) (sl_lhA ja m jc (sumN (gN sf) i) (sumN (gN sf) i+w) (by omega) (by omega) XL5)) (rc_ 6 (hq ▸ cF XL5 BB) (cb_ fun X7 bQ=>?_))))
    replace BB:=BB.trans (bQ.mono BB.size)
    clear bQ
    refine rv_ 7 (.bool false) (fun a e=>execNot8 (b:=true) rfl (e _)) (rf_ [(26,.bool false)] (h6_ t1 t5 t13 t14 t15 t7) ?_)
    rintro a A ⟨t26,-⟩ ⟨t1,t5,t13,t14,t15,t7,-⟩
    refine wp_cond_false t26 (wp_skip ?_)
    clear t26
    refine wi_ A (h6_ t1 t5 t13 t14 t15 t7) (rv_ 2 (.int .i64 ((sumN (gN sf) i+w:Nat):Int)) (fun a e=>execAd8 (p:=sumN (gN sf) i) (q:=w) rfl (e _) (e _) (by omega)) (rf_ [(5,.int .i64 ((sumN (gN sf) i+w:Nat):Int))] (h4_ t1 t13 t14 t15) ?_))
    rintro a A ⟨t5,-⟩ ⟨t1,t13,t14,t15,-⟩
    rw [e3] at t5
    refine wi_ A (h5_ t1 t5 t13 t14 t15) (rv_ 0 (.int .i64 ((i+1:Nat):Int)) (fun a e=>execAd8 (p:=i) (q:=1) rfl (e _) rfl (by omega)) (rf_ [(15,.int .i64 ((i+1:Nat):Int))] (h4_ t1 t5 t13 t14) ?_))
    rintro a A ⟨t15,-⟩ ⟨t1,t5,t13,t14,-⟩
    exact ⟨⟨i+1,lti,allB_succ hall hq,A,t1,t5,t13,t14,t15,BB⟩,by show J - (intOf (a.eval (.tmp 15))).toNat < J - (intOf (Act.eval _ (.tmp 15))).toNat; rw [t15,esi]; show J - (i+1) < J - i; omega⟩
   | false=>
    refine wi_ A (h6_ t1 t5 t13 t14 t15 t7) (rv_ 4 (.int .i64 ((sumN (gN sf) i+w:Nat):Int)) (fun a e=>execAd8 (p:=sumN (gN sf) i) (q:=w) rfl (e _) (e _) (by omega)) (rv_ 5 (sliced ja (sumN (gN sf) i) (sumN (gN sf) i+w) jc 1) (fun a e=>execSlLH9 rfl (e _) (e _) (e _) (sl_lhA ja m jc (sumN (gN sf) i) (sumN (gN sf) i+w) (by omega) (by omega) XL5)) (rc_ 6 (hq ▸ cF XL5 BB) (cb_ fun X7 bQ=>?_))))
    replace BB:=BB.trans (bQ.mono BB.size)
    clear bQ
    refine rv_ 7 (.bool true) (fun a e=>execNot8 (b:=false) rfl (e _)) (rf_ [(26,.bool true)] (h6_ t1 t5 t13 t14 t15 t7) ?_)
    rintro a A ⟨t26,-⟩ ⟨t1,t5,t13,t14,t15,t7,-⟩
    refine wp_cond_true t26 ?_
    refine wp_seq ?_
    refine wi_ A (h6_ t1 t5 t13 t14 t15 t7) (rg_ [(4,.bool false)] ?_)
    rintro a A ⟨t4,-⟩
    have hE:ofQ sf J vf=false:=allB_bad lti (by rw [hq]; decide)
    rw [hE]
    refine wp_ret ?_
    repeat (first | with_reducible refine ret_in ?_ | with_reducible refine ret_then ?_)
    refine bodyPost_ret (results_tmp rfl _ _ _) A.2 ⟨?_,BB⟩
    show Ending.returned (a.eval (.tmp 4))=_
    rw [t4]
  ·rw [decide_eq_false lti] at t16
   refine wp_cond_false t16 ?_
   refine wp_exit ?_
   first | with_reducible refine exit_in ?_ | with_reducible refine exit_then (exit_in ?_) | with_reducible refine exit_then (exit_then (exit_in ?_)) | refine exit_in ?_ | refine exit_then (exit_in ?_) | refine exit_then (exit_then (exit_in ?_))
   clear t16 esi
   obtain rfl:i=J:=by omega
   have hE:ofQ sf i vf=true:=hall
   rw [hE]
   clear t1 t5 t13 t14 t15
   refine wp_seq ?_
   refine wi_ A h0_ (rg_ [(4,.bool true)] ?_)
   rintro a A ⟨t4,-⟩
   refine wp_ret ?_
   repeat (first | with_reducible refine ret_in ?_ | with_reducible refine ret_then ?_)
   refine bodyPost_ret (results_tmp rfl _ _ _) A.2 ⟨?_,BB⟩
   show Ending.returned (a.eval (.tmp 4))=_
   rw [t4]
 ·refine wi_ A (h2_ t0 t1) (rv_ 1 (.int .i64 ((m:Nat):Int)) (fun a e=>execLenI (len:=m) rfl (e _) ((FJ.on BB)).shp) (rc_ 3 (psum sf J _ V (FI.on BB) (by omega) (fun j hj=>(okS_iff.1 hok j hj).1) (by omega)) (cb_ fun X1 bQ=>?_)))
  replace BB:=BB.trans (bQ.mono BB.size)
  clear bQ
  refine rv_ 4 (.bool true) (fun a e=>execDec (execNeN (p:=m) (q:=sumN (gN sf) J) rfl (e _) (e _)) (decide_eq_true (by omega))) (rg_ [(12,.bool true)] ?_)
  rintro a A ⟨t12,-⟩
  refine wp_cond_true t12 ?_
  refine wp_seq ?_
  refine wi_ A h0_ (rg_ [(4,.bool false)] ?_)
  rintro a A ⟨t4,-⟩
  rw [decide_eq_false hm,Bool.false_and]
  refine wp_ret ?_
  repeat (first | with_reducible refine ret_in ?_ | with_reducible refine ret_then ?_)
  refine bodyPost_ret (results_tmp rfl _ _ _) A.2 ⟨?_,BB⟩
  show Ending.returned (a.eval (.tmp 4))=_
  rw [t4]
end Go.Proofs.Ytmjpneaccjlpkaa.Brd
