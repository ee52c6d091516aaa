import Derived.Test.YtmjpneaccjlpkaaF9b
import Derived.Test.YtmjpneaccjlpkaaQ9f
namespace Go.Proofs.Ytmjpneaccjlpkaa.Brd
open Go.RowKit Gf8 Aes By8 Cel Cf Tap Drw Prm
/- Stage 12's reference: Sizes, total. Written by tools/mkQ9g.py. -/
def szE (k c:Int):Nat:=if 0<=k/\k<=256/\1<=c/\c<=64 then 0 else 2
def szF (N D j:Nat):Nat:=N / D+if j < N % D then 1 else 0
def okS (s:Nat->Int):Nat->Bool
 | 0=>true
 | k+1=>okS s k && decide (0<=s k/\s k<=256 - (sumN (gN s) k:Int))
theorem okS_iff {s:Nat->Int}:∀ {k},okS s k=true ↔ ∀ j,j < k->0<=s j/\s j<=256 - (sumN (gN s) j:Int)
 | 0=>⟨fun _ j hj=>absurd hj (Nat.not_lt_zero _),fun _=>rfl⟩
 | k+1=>by
  unfold okS
  rw [Bool.and_eq_true,decide_eq_true_eq,okS_iff]
  refine ⟨fun h j hj=>?_,fun h=>⟨fun j hj=>h j (by omega),h k (by omega)⟩⟩
  by_cases e:j=k
  ·subst e; exact h.2
  ·exact h.1 j (by omega)
theorem okS_succ {s:Nat->Int} {i:Nat} (h:okS s i=true) (e:0<=s i/\s i<=256 - (sumN (gN s) i:Int)):okS s (i+1)=true:=by
 show (okS s i && decide (0<=s i/\s i<=256 - (sumN (gN s) i:Int)))=true
 rw [h,decide_eq_true e]
 rfl
theorem okS_bad {s:Nat->Int} {i n:Nat} (hi:i < n) (e:¬ (0<=s i/\s i<=256 - (sumN (gN s) i:Int))):¬ okS s n=true:=fun q=>e (okS_iff.1 q i hi)
def toT (s:Nat->Int) (J:Nat):Int:=if (1<=J/\J<=64)/\okS s J=true then (sumN (gN s) J:Int) else -1
set_option maxRecDepth 100000 in
set_option maxHeartbeats 4000000 in
theorem rsizes (k c:Int) (V:World) :
  Calls Try.prog 50 #[.int .i64 k,.int .i64 c] V fun e w'=>∃ r,e=.returned (.tuple #[r,.int .i64 ((szE k c:Nat):Int)])/\w'.ownsRow V.heap.size 3 1 r (zl (szE k c) c.toNat) (intsL (zl (szE k c) c.toNat) (fun j=>(szF k.toNat c.toNat j:Int)))/\Below V.heap.size V w':=by
 go_enter Try.func50,Try.ntmps50
 refine wp_seq ?_
 refine wo_ 43 [(0,.int .i64 k),(1,.int .i64 c)] ?_
 rintro a A ⟨t0,t1,-⟩
 refine wi_ A (h2_ t0 t1) (rf_ [] (h2_ t0 t1) ?_)
 rintro a A - ⟨t0,t1,-⟩
 have BW:Below V.heap.size V V:=Below.refl _ _
 have BB:=BW
 refine wp_seq (wp_seq ?_)
 by_cases ha:k < 0
 ·refine wi_ A (h2_ t0 t1) (rv_ 1 (.bool true) (fun a e=>execLtCt (p:=k) (q:=0) rfl (e _) (by omega)) (rf_ [(22,.bool true)] (h2_ t0 t1) ?_))
  rintro a A ⟨t22,-⟩ ⟨t0,t1,-⟩
  refine wp_cond_true t22 ?_
  refine wp_seq ?_
  refine wi_ A (h2_ t0 t1) (rg_ [(4,.slice none 0 0),(5,.int .i64 ((2:Nat):Int))] ?_)
  rintro a A ⟨t4,t5,-⟩
  have hE:szE k c=2:=if_neg (fun q=>by omega)
  rw [hE,zl_no (by decide)]
  refine wp_ret ?_
  repeat (first | with_reducible refine ret_in ?_ | with_reducible refine ret_then ?_)
  refine bodyPost_ret (results_tmp2 rfl _ _ _) A.2 ⟨_,?_,World.ownsRow_nil _ _ _ _,BB⟩
  show Ending.returned (.tuple #[a.eval (.tmp 4),a.eval (.tmp 5)])=_
  rw [t4,t5]
 ·by_cases hb:256 < k
  ·refine wi_ A (h2_ t0 t1) (rv_ 1 (.bool false) (fun a e=>execLtCf (p:=k) (q:=0) rfl (e _) (by omega)) (rv_ 4 (.bool true) (fun a e=>execGtCt (p:=k) (q:=256) rfl (e _) (by omega)) (rf_ [(22,.bool true)] (h2_ t0 t1) ?_)))
   rintro a A ⟨t22,-⟩ ⟨t0,t1,-⟩
   refine wp_cond_true t22 ?_
   refine wp_seq ?_
   refine wi_ A (h2_ t0 t1) (rg_ [(4,.slice none 0 0),(5,.int .i64 ((2:Nat):Int))] ?_)
   rintro a A ⟨t4,t5,-⟩
   have hE:szE k c=2:=if_neg (fun q=>by omega)
   rw [hE,zl_no (by decide)]
   refine wp_ret ?_
   repeat (first | with_reducible refine ret_in ?_ | with_reducible refine ret_then ?_)
   refine bodyPost_ret (results_tmp2 rfl _ _ _) A.2 ⟨_,?_,World.ownsRow_nil _ _ _ _,BB⟩
   show Ending.returned (.tuple #[a.eval (.tmp 4),a.eval (.tmp 5)])=_
   rw [t4,t5]
  ·by_cases hc:c < 1
   ·refine wi_ A (h2_ t0 t1) (rv_ 1 (.bool false) (fun a e=>execLtCf (p:=k) (q:=0) rfl (e _) (by omega)) (rv_ 4 (.bool false) (fun a e=>execGtCf (p:=k) (q:=256) rfl (e _) (by omega)) (rv_ 8 (.bool true) (fun a e=>execLtCt (p:=c) (q:=1) rfl (e _) (by omega)) (rf_ [(22,.bool true)] (h2_ t0 t1) ?_))))
    rintro a A ⟨t22,-⟩ ⟨t0,t1,-⟩
    refine wp_cond_true t22 ?_
    refine wp_seq ?_
    refine wi_ A (h2_ t0 t1) (rg_ [(4,.slice none 0 0),(5,.int .i64 ((2:Nat):Int))] ?_)
    rintro a A ⟨t4,t5,-⟩
    have hE:szE k c=2:=if_neg (fun q=>by omega)
    rw [hE,zl_no (by decide)]
    refine wp_ret ?_
    repeat (first | with_reducible refine ret_in ?_ | with_reducible refine ret_then ?_)
    refine bodyPost_ret (results_tmp2 rfl _ _ _) A.2 ⟨_,?_,World.ownsRow_nil _ _ _ _,BB⟩
    show Ending.returned (.tuple #[a.eval (.tmp 4),a.eval (.tmp 5)])=_
    rw [t4,t5]
   ·by_cases hd:64 < c
    ·refine wi_ A (h2_ t0 t1) (rv_ 1 (.bool false) (fun a e=>execLtCf (p:=k) (q:=0) rfl (e _) (by omega)) (rv_ 4 (.bool false) (fun a e=>execGtCf (p:=k) (q:=256) rfl (e _) (by omega)) (rv_ 8 (.bool false) (fun a e=>execLtCf (p:=c) (q:=1) rfl (e _) (by omega)) (rv_ 12 (.bool true) (fun a e=>execGtCt (p:=c) (q:=64) rfl (e _) (by omega)) (rf_ [(22,.bool true)] (h2_ t0 t1) ?_)))))
     rintro a A ⟨t22,-⟩ ⟨t0,t1,-⟩
     refine wp_cond_true t22 ?_
     refine wp_seq ?_
     refine wi_ A (h2_ t0 t1) (rg_ [(4,.slice none 0 0),(5,.int .i64 ((2:Nat):Int))] ?_)
     rintro a A ⟨t4,t5,-⟩
     have hE:szE k c=2:=if_neg (fun q=>by omega)
     rw [hE,zl_no (by decide)]
     refine wp_ret ?_
     repeat (first | with_reducible refine ret_in ?_ | with_reducible refine ret_then ?_)
     refine bodyPost_ret (results_tmp2 rfl _ _ _) A.2 ⟨_,?_,World.ownsRow_nil _ _ _ _,BB⟩
     show Ending.returned (.tuple #[a.eval (.tmp 4),a.eval (.tmp 5)])=_
     rw [t4,t5]
    ·refine wi_ A (h2_ t0 t1) (rv_ 1 (.bool false) (fun a e=>execLtCf (p:=k) (q:=0) rfl (e _) (by omega)) (rv_ 4 (.bool false) (fun a e=>execGtCf (p:=k) (q:=256) rfl (e _) (by omega)) (rv_ 8 (.bool false) (fun a e=>execLtCf (p:=c) (q:=1) rfl (e _) (by omega)) (rv_ 12 (.bool false) (fun a e=>execGtCf (p:=c) (q:=64) rfl (e _) (by omega)) (rf_ [(22,.bool false)] (h2_ t0 t1) ?_)))))
     rintro a A ⟨t22,-⟩ ⟨t0,t1,-⟩
     refine wp_cond_false t22 (wp_skip ?_)
     clear t22
     obtain ⟨N,rfl⟩:∃ N:Nat,k=N:=⟨k.toNat,by omega⟩
     obtain ⟨D,rfl⟩:∃ D:Nat,c=D:=⟨c.toNat,by omega⟩
     refine wp_seq ?_
     refine wi_ A (h2_ t0 t1) (rf_ [(6,.slice none 0 0)] (h2_ t0 t1) ?_)
     rintro a A ⟨t6,-⟩ ⟨t0,t1,-⟩
     have FO:V.ownsRow V.heap.size 3 1 (.slice none 0 0) 0 (intsL 0 (fun j=>(szF N D j:Int))):=World.ownsRow_nil _ _ _ _
     refine wp_seq (wp_seq ?_)
     refine wi_ A (h3_ t0 t1 t6) (rf_ [(7,.int .i64 ((0:Nat):Int))] (h3_ t0 t1 t6) ?_)
     rintro a A ⟨t7,-⟩ ⟨t0,t1,t6,-⟩
     refine wp_block ?_
     refine wp_loop (fun a W=>∃ (i:Nat) (u:Value),i<=D/\(a.tmps.size=43/\a.defers=[])/\a.eval (.tmp 0)=.int .i64 ((N:Nat):Int)/\a.eval (.tmp 1)=.int .i64 ((D:Nat):Int)/\a.eval (.tmp 6)=u/\a.eval (.tmp 7)=.int .i64 ((i:Nat):Int)/\Below V.heap.size V W/\(W.ownsRow V.heap.size 3 1 u (i) (intsL (i) (fun j=>(szF N D j:Int))))) (fun a _=>D - (intOf (a.eval (.tmp 7))).toNat) ⟨0,_,Nat.zero_le _,A,t0,t1,t6,t7,BB,FO⟩ ?_
     rintro a XL5 ⟨i,u,hi,A,t0,t1,t6,t7,BB,FO⟩
     have esi:=t7
     refine wp_seq (wp_seq ?_)
     refine wi_ A (h4_ t0 t1 t6 t7) (rv_ 2 (.bool (decide (i < D))) (fun a e=>execLtW (p:=i) (q:=D) rfl (e _) (e _)) (rf_ [(25,.bool (decide (i < D)))] (h4_ t0 t1 t6 t7) ?_))
     rintro a A ⟨t25,-⟩ ⟨t0,t1,t6,t7,-⟩
     by_cases lti:i < D
     ·rw [decide_eq_true lti] at t25
      refine wp_cond_true t25 (wp_skip ?_)
      clear t25
      refine wp_seq (wp_block ?_)
      have hq1:N / D<=N:=Nat.div_le_self _ _
      refine wp_seq ?_
      refine wi_ A (h4_ t0 t1 t6 t7) (rv_ 2 (.int .i64 ((N / D:Nat):Int)) (fun a e=>execQuoD (p:=N) (q:=D) rfl (e _) (e _) (by omega) (by omega)) (rf_ [(8,.int .i64 ((N / D:Nat):Int))] (h4_ t0 t1 t6 t7) ?_))
      rintro a A ⟨t8,-⟩ ⟨t0,t1,t6,t7,-⟩
      refine wp_seq (wp_seq ?_)
      by_cases hlr:i < N % D
      ·refine wi_ A (h5_ t0 t1 t6 t7 t8) (rv_ 3 (.int .i64 ((N % D:Nat):Int)) (fun a e=>Aes.execRemI (p:=N) (q:=D) rfl (e _) (e _) (by omega)) (rv_ 4 (.bool true) (fun a e=>execDec (execLtW (p:=i) (q:=N % D) rfl (e _) (e _)) (decide_eq_true (by omega))) (rf_ [(35,.bool true)] (h5_ t0 t1 t6 t7 t8) ?_)))
       rintro a A ⟨t35,-⟩ ⟨t0,t1,t6,t7,t8,-⟩
       refine wp_cond_true t35 ?_
       clear t35
       refine wi_ A (h5_ t0 t1 t6 t7 t8) (rv_ 1 (.int .i64 ((N / D+1:Nat):Int)) (fun a e=>execAd8 (p:=N / D) (q:=1) rfl (e _) rfl (by omega)) (rf_ [(8,.int .i64 ((N / D+1:Nat):Int))] (h4_ t0 t1 t6 t7) ?_))
       rintro a A ⟨t8,-⟩ ⟨t0,t1,t6,t7,-⟩
       have e8:N / D+1=szF N D i:=by unfold szF; rw [if_pos hlr]
       rw [e8] at t8
       obtain ⟨g40,egg40⟩:∃ z_:Nat,XL5.heap.size=z_:=⟨_,rfl⟩
       refine wi_ A (h5_ t0 t1 t6 t7 t8) (rs_ 2 (fun a e=>?_))
       refine stepV rfl rfl (execBsI (z:=((szF N D i:Nat):Int)) rfl (e _)) ⟨.slice (some ⟨g40,0,none⟩) 1 1,⟨_,rfl,by subst egg40; rfl⟩,fun X10_1 hX=>?_⟩
       have bQ:Below XL5.heap.size XL5 X10_1:=by subst hX egg40; exact (belNew XL5 _)
       have Fg40:(X10_1.heap[g40]?=some (.cells #[.int .i64 (((szF N D i:Nat):Int))] 3)):=by subst hX egg40; exact heapNew XL5 _
       replace FO:=(ownD_below FO bQ)
       replace BB:=BB.trans (bQ.mono BB.size)
       clear bQ hX egg40 e a
       refine rs_ 3 (fun a e=>?_)
       refine stepAppI (f:=fun j=>(szF N D j:Int)) rfl rfl rfl (e _) (e _) FO Fg40 (by omega) (BB).size fun v41 X10 own' gr=>⟨_,⟨_,rfl,rfl⟩,eqw ?_⟩
       obtain ⟨BB,FO2⟩:Below V.heap.size V X10/\(X10.ownsRow V.heap.size 3 1 v41 (i+1) (intsL (i+1) (fun j=>(szF N D j:Int)))):=⟨(BB).grown gr (BB).size (fun k hk=>(FO.lt k hk).1),own'⟩
       clear FO Fg40 e a
       refine rf_ [(6,v41)] (h3_ t0 t1 t7) ?_
       rintro a A ⟨t6,-⟩ ⟨t0,t1,t7,-⟩
       refine wi_ A (h4_ t0 t1 t6 t7) (rv_ 1 (.int .i64 ((i+1:Nat):Int)) (fun a e=>execAd8 (p:=i) (q:=1) rfl (e _) rfl (by omega)) (rf_ [(7,.int .i64 ((i+1:Nat):Int))] (h3_ t0 t1 t6) ?_))
       rintro a A ⟨t7,-⟩ ⟨t0,t1,t6,-⟩
       exact ⟨⟨i+1,_,lti,A,t0,t1,t6,t7,BB,FO2⟩,by show D - (intOf (a.eval (.tmp 7))).toNat < D - (intOf (Act.eval _ (.tmp 7))).toNat; rw [t7,esi]; show D - (i+1) < D - i; omega⟩
      ·refine wi_ A (h5_ t0 t1 t6 t7 t8) (rv_ 3 (.int .i64 ((N % D:Nat):Int)) (fun a e=>Aes.execRemI (p:=N) (q:=D) rfl (e _) (e _) (by omega)) (rv_ 4 (.bool false) (fun a e=>execDec (execLtW (p:=i) (q:=N % D) rfl (e _) (e _)) (decide_eq_false (by omega))) (rf_ [(35,.bool false)] (h5_ t0 t1 t6 t7 t8) ?_)))
       rintro a A ⟨t35,-⟩ ⟨t0,t1,t6,t7,t8,-⟩
       refine wp_cond_false t35 (wp_skip ?_)
       clear t35
       have e8:N / D=szF N D i:=by unfold szF; rw [if_neg hlr]; rfl
       rw [e8] at t8
       obtain ⟨g40,egg40⟩:∃ z_:Nat,XL5.heap.size=z_:=⟨_,rfl⟩
       refine wi_ A (h5_ t0 t1 t6 t7 t8) (rs_ 2 (fun a e=>?_))
       refine stepV rfl rfl (execBsI (z:=((szF N D i:Nat):Int)) rfl (e _)) ⟨.slice (some ⟨g40,0,none⟩) 1 1,⟨_,rfl,by subst egg40; rfl⟩,fun X10_1 hX=>?_⟩
       have bQ:Below XL5.heap.size XL5 X10_1:=by subst hX egg40; exact (belNew XL5 _)
       have Fg40:(X10_1.heap[g40]?=some (.cells #[.int .i64 (((szF N D i:Nat):Int))] 3)):=by subst hX egg40; exact heapNew XL5 _
       replace FO:=(ownD_below FO bQ)
       replace BB:=BB.trans (bQ.mono BB.size)
       clear bQ hX egg40 e a
       refine rs_ 3 (fun a e=>?_)
       refine stepAppI (f:=fun j=>(szF N D j:Int)) rfl rfl rfl (e _) (e _) FO Fg40 (by omega) (BB).size fun v41 X10 own' gr=>⟨_,⟨_,rfl,rfl⟩,eqw ?_⟩
       obtain ⟨BB,FO2⟩:Below V.heap.size V X10/\(X10.ownsRow V.heap.size 3 1 v41 (i+1) (intsL (i+1) (fun j=>(szF N D j:Int)))):=⟨(BB).grown gr (BB).size (fun k hk=>(FO.lt k hk).1),own'⟩
       clear FO Fg40 e a
       refine rf_ [(6,v41)] (h3_ t0 t1 t7) ?_
       rintro a A ⟨t6,-⟩ ⟨t0,t1,t7,-⟩
       refine wi_ A (h4_ t0 t1 t6 t7) (rv_ 1 (.int .i64 ((i+1:Nat):Int)) (fun a e=>execAd8 (p:=i) (q:=1) rfl (e _) rfl (by omega)) (rf_ [(7,.int .i64 ((i+1:Nat):Int))] (h3_ t0 t1 t6) ?_))
       rintro a A ⟨t7,-⟩ ⟨t0,t1,t6,-⟩
       exact ⟨⟨i+1,_,lti,A,t0,t1,t6,t7,BB,FO2⟩,by show D - (intOf (a.eval (.tmp 7))).toNat < D - (intOf (Act.eval _ (.tmp 7))).toNat; rw [t7,esi]; show D - (i+1) < D - i; omega⟩
     ·rw [decide_eq_false lti] at t25
      refine wp_cond_false t25 ?_
      refine wp_exit ?_
      first | with_reducible refine exit_in ?_ | with_reducible refine exit_then (exit_in ?_) | with_reducible refine exit_then (exit_then (exit_in ?_)) | refine exit_in ?_ | refine exit_then (exit_in ?_) | refine exit_then (exit_then (exit_in ?_))
      clear t25 esi t7
      obtain rfl:i=D:=by omega
      refine wp_seq ?_
      refine wi_ A (h3_ t0 t1 t6) (rg_ [(4,u),(5,.int .i64 ((0:Nat):Int))] ?_)
      rintro a A ⟨t4,t5,-⟩
      have hE:szE ((N:Nat):Int) ((i:Nat):Int)=0:=if_pos (by omega)
      rw [hE,zl_ok,Int.toNat_natCast,Int.toNat_natCast]
      refine wp_ret ?_
      refine bodyPost_ret (results_tmp2 rfl _ _ _) A.2 ⟨_,?_,FO,BB⟩
      show Ending.returned (.tuple #[a.eval (.tmp 4),a.eval (.tmp 5)])=_
      rw [t4,t5]
set_option maxRecDepth 100000 in
set_option maxHeartbeats 4000000 in
theorem rtotal (sf:Nat->Int) (J:Nat) (v:Value) (V:World) (hv:SliceI V v J sf) (hJ17:J<=17592186044416) :
  Calls Try.prog 56 #[v] V fun e w'=>e=.returned (.int .i64 (toT sf J))/\Below V.heap.size V w':=by
 obtain ⟨ia,ic,rfl,-,-,hsh⟩:=id hv.shape
 have FI:=hv
 go_enter Try.func56,Try.ntmps56
 refine wp_seq ?_
 refine wo_ 40 [(0,.slice ia J ic)] ?_
 rintro a A ⟨t0,-⟩
 refine wi_ A (h1_ t0) (rf_ [] (h1_ t0) ?_)
 rintro a A - ⟨t0,-⟩
 have BW:Below V.heap.size V V:=Below.refl _ _
 have BB:=BW
 refine wp_seq (wp_seq ?_)
 by_cases ha:J < 1
 ·refine wi_ A (h1_ t0) (rv_ 1 (.int .i64 ((J:Nat):Int)) (fun a e=>execLenI (len:=J) rfl (e _) ((FI.on BB)).shp) (rv_ 2 (.bool true) (fun a e=>execDec (execLtW (p:=J) (q:=1) rfl (e _) rfl) (decide_eq_true (by omega))) (rf_ [(12,.bool true)] (h1_ t0) ?_)))
  rintro a A ⟨t12,-⟩ ⟨t0,-⟩
  refine wp_cond_true t12 ?_
  refine wp_seq ?_
  refine wi_ A (h1_ t0) (rg_ [(2,.int .i64 (-1))] ?_)
  rintro a A ⟨t2,-⟩
  have hE:toT sf J=-1:=if_neg (fun q=>by omega)
  rw [hE]
  refine wp_ret ?_
  repeat (first | with_reducible refine ret_in ?_ | with_reducible refine ret_then ?_)
  refine bodyPost_ret (results_tmp rfl _ _ _) A.2 ⟨?_,BB⟩
  show Ending.returned (a.eval (.tmp 2))=_
  rw [t2]
 ·by_cases hb:64 < J
  ·refine wi_ A (h1_ t0) (rv_ 1 (.int .i64 ((J:Nat):Int)) (fun a e=>execLenI (len:=J) rfl (e _) ((FI.on BB)).shp) (rv_ 2 (.bool false) (fun a e=>execDec (execLtW (p:=J) (q:=1) rfl (e _) rfl) (decide_eq_false (by omega))) (rv_ 5 (.int .i64 ((J:Nat):Int)) (fun a e=>execLenI (len:=J) rfl (e _) ((FI.on BB)).shp) (rv_ 6 (.bool true) (fun a e=>execDec (execGtN (p:=J) (q:=64) rfl (e _) rfl) (decide_eq_true (by omega))) (rf_ [(12,.bool true)] (h1_ t0) ?_)))))
   rintro a A ⟨t12,-⟩ ⟨t0,-⟩
   refine wp_cond_true t12 ?_
   refine wp_seq ?_
   refine wi_ A (h1_ t0) (rg_ [(2,.int .i64 (-1))] ?_)
   rintro a A ⟨t2,-⟩
   have hE:toT sf J=-1:=if_neg (fun q=>by omega)
   rw [hE]
   refine wp_ret ?_
   repeat (first | with_reducible refine ret_in ?_ | with_reducible refine ret_then ?_)
   refine bodyPost_ret (results_tmp rfl _ _ _) A.2 ⟨?_,BB⟩
   show Ending.returned (a.eval (.tmp 2))=_
   rw [t2]
  ·refine wi_ A (h1_ t0) (rv_ 1 (.int .i64 ((J:Nat):Int)) (fun a e=>execLenI (len:=J) rfl (e _) ((FI.on BB)).shp) (rv_ 2 (.bool false) (fun a e=>execDec (execLtW (p:=J) (q:=1) rfl (e _) rfl) (decide_eq_false (by omega))) (rv_ 5 (.int .i64 ((J:Nat):Int)) (fun a e=>execLenI (len:=J) rfl (e _) ((FI.on BB)).shp) (rv_ 6 (.bool false) (fun a e=>execDec (execGtN (p:=J) (q:=64) rfl (e _) rfl) (decide_eq_false (by omega))) (rf_ [(12,.bool false)] (h1_ t0) ?_)))))
   rintro a A ⟨t12,-⟩ ⟨t0,-⟩
   refine wp_cond_false t12 (wp_skip ?_)
   clear t12
   refine wp_seq ?_
   refine wi_ A (h1_ t0) (rf_ [(3,.int .i64 ((0:Nat):Int))] (h1_ t0) ?_)
   rintro a A ⟨t3,-⟩ ⟨t0,-⟩
   refine wp_seq (wp_seq ?_)
   refine wi_ A (h2_ t0 t3) (rf_ [(4,.int .i64 ((0:Nat):Int))] (h2_ t0 t3) ?_)
   rintro a A ⟨t4,-⟩ ⟨t0,t3,-⟩
   refine wp_block ?_
   refine wp_loop (fun a W=>∃ (i:Nat),i<=J/\(okS sf i=true)/\(sumN (gN sf) i<=256)/\(a.tmps.size=40/\a.defers=[])/\a.eval (.tmp 0)=.slice ia J ic/\a.eval (.tmp 3)=.int .i64 ((sumN (gN sf) i:Nat):Int)/\a.eval (.tmp 4)=.int .i64 ((i:Nat):Int)/\Below V.heap.size V W) (fun a _=>J - (intOf (a.eval (.tmp 4))).toNat) ⟨0,Nat.zero_le _,rfl,Nat.zero_le _,A,t0,t3,t4,BB⟩ ?_
   rintro a XL5 ⟨i,hi,hok,h256,A,t0,t3,t4,BB⟩
   have esi:=t4
   refine wp_seq (wp_seq ?_)
   refine wi_ A (h3_ t0 t3 t4) (rv_ 2 (.int .i64 ((J:Nat):Int)) (fun a e=>execLenI (len:=J) rfl (e _) ((FI.on BB)).shp) (rv_ 3 (.bool (decide (i < J))) (fun a e=>execLtW (p:=i) (q:=J) rfl (e _) (e _)) (rf_ [(16,.bool (decide (i < J)))] (h3_ t0 t3 t4) ?_)))
   rintro a A ⟨t16,-⟩ ⟨t0,t3,t4,-⟩
   by_cases lti:i < J
   ·rw [decide_eq_true lti] at t16
    refine wp_cond_true t16 (wp_skip ?_)
    clear t16
    refine wp_seq (wp_block ?_)
    obtain ⟨ib,io,rfl,hib,hcell⟩:=hsh (by omega)
    have cI:∀ k,k < J->∀ X,Below V.heap.size V X->X.cell? ⟨ib,io+k,none⟩=some (.int .i64 (sf k)):=fun k hk X hX=>by rw [cell_below hX hib]; exact hcell k hk
    by_cases h1:sf i < 0
    ·refine wp_seq (wp_seq ?_)
     refine wi_ A (h3_ t0 t3 t4) (rv_ 2 (.pointer (some ⟨ib,io+i,none⟩)) (fun a e=>execIdxN (k:=i) rfl (e _) (e _) lti) (rv_ 3 (.int .i64 (sf i)) (fun a e=>execLd3 rfl (e _) (cI i lti XL5 BB)) (rv_ 4 (.bool true) (fun a e=>execLtCt (p:=(sf i)) (q:=0) rfl (e _) (by exact h1)) (rf_ [(32,.bool true)] (h3_ t0 t3 t4) ?_))))
     rintro a A ⟨t32,-⟩ ⟨t0,t3,t4,-⟩
     refine wp_cond_true t32 ?_
     refine wp_seq ?_
     refine wi_ A (h3_ t0 t3 t4) (rg_ [(2,.int .i64 (-1))] ?_)
     rintro a A ⟨t2,-⟩
     have hE:toT sf J=-1:=if_neg (fun q=>okS_bad lti (by omega) q.2)
     rw [hE]
     refine wp_ret ?_
     repeat (first | with_reducible refine ret_in ?_ | with_reducible refine ret_then ?_)
     refine bodyPost_ret (results_tmp rfl _ _ _) A.2 ⟨?_,BB⟩
     show Ending.returned (a.eval (.tmp 2))=_
     rw [t2]
    ·by_cases h2:256 - (sumN (gN sf) i:Int) < sf i
     ·obtain ⟨w,ew⟩:∃ w:Nat,sf i=w:=⟨(sf i).toNat,by omega⟩
      have cW:∀ X,Below V.heap.size V X->X.cell? ⟨ib,io+i,none⟩=some (.int .i64 ((w:Nat):Int)):=fun X hX=>by rw [cI i lti X hX,ew]
      refine wp_seq (wp_seq ?_)
      refine wi_ A (h3_ t0 t3 t4) (rv_ 2 (.pointer (some ⟨ib,io+i,none⟩)) (fun a e=>execIdxN (k:=i) rfl (e _) (e _) lti) (rv_ 3 (.int .i64 ((w:Nat):Int)) (fun a e=>execLd3 rfl (e _) (cW XL5 BB)) (rv_ 4 (.bool false) (fun a e=>execDec (execLtW (p:=w) (q:=0) rfl (e _) rfl) (decide_eq_false (by omega))) (rv_ 8 (.pointer (some ⟨ib,io+i,none⟩)) (fun a e=>execIdxN (k:=i) rfl (e _) (e _) lti) (rv_ 9 (.int .i64 ((w:Nat):Int)) (fun a e=>execLd3 rfl (e _) (cW XL5 BB)) (rv_ 11 (.int .i64 ((256 - sumN (gN sf) i:Nat):Int)) (fun a e=>By8.execSubI (p:=256) (q:=sumN (gN sf) i) rfl rfl (e _) (by omega) (by omega)) (rv_ 12 (.bool true) (fun a e=>execDec (execGtN (p:=w) (q:=256 - sumN (gN sf) i) rfl (e _) (e _)) (decide_eq_true (by omega))) (rf_ [(32,.bool true)] (h3_ t0 t3 t4) ?_))))))))
      rintro a A ⟨t32,-⟩ ⟨t0,t3,t4,-⟩
      refine wp_cond_true t32 ?_
      refine wp_seq ?_
      refine wi_ A (h3_ t0 t3 t4) (rg_ [(2,.int .i64 (-1))] ?_)
      rintro a A ⟨t2,-⟩
      have hE:toT sf J=-1:=if_neg (fun q=>okS_bad lti (by omega) q.2)
      rw [hE]
      refine wp_ret ?_
      repeat (first | with_reducible refine ret_in ?_ | with_reducible refine ret_then ?_)
      refine bodyPost_ret (results_tmp rfl _ _ _) A.2 ⟨?_,BB⟩
      show Ending.returned (a.eval (.tmp 2))=_
      rw [t2]
     ·obtain ⟨w,ew⟩:∃ w:Nat,sf i=w:=⟨(sf i).toNat,by omega⟩
      have cW:∀ X,Below V.heap.size V X->X.cell? ⟨ib,io+i,none⟩=some (.int .i64 ((w:Nat):Int)):=fun X hX=>by rw [cI i lti X hX,ew]
      refine wp_seq (wp_seq ?_)
      refine wi_ A (h3_ t0 t3 t4) (rv_ 2 (.pointer (some ⟨ib,io+i,none⟩)) (fun a e=>execIdxN (k:=i) rfl (e _) (e _) lti) (rv_ 3 (.int .i64 ((w:Nat):Int)) (fun a e=>execLd3 rfl (e _) (cW XL5 BB)) (rv_ 4 (.bool false) (fun a e=>execDec (execLtW (p:=w) (q:=0) rfl (e _) rfl) (decide_eq_false (by omega))) (rv_ 8 (.pointer (some ⟨ib,io+i,none⟩)) (fun a e=>execIdxN (k:=i) rfl (e _) (e _) lti) (rv_ 9 (.int .i64 ((w:Nat):Int)) (fun a e=>execLd3 rfl (e _) (cW XL5 BB)) (rv_ 11 (.int .i64 ((256 - sumN (gN sf) i:Nat):Int)) (fun a e=>By8.execSubI (p:=256) (q:=sumN (gN sf) i) rfl rfl (e _) (by omega) (by omega)) (rv_ 12 (.bool false) (fun a e=>execDec (execGtN (p:=w) (q:=256 - sumN (gN sf) i) rfl (e _) (e _)) (decide_eq_false (by omega))) (rf_ [(32,.bool false)] (h3_ t0 t3 t4) ?_))))))))
      rintro a A ⟨t32,-⟩ ⟨t0,t3,t4,-⟩
      refine wp_cond_false t32 (wp_skip ?_)
      clear t32
      refine wi_ A (h3_ t0 t3 t4) (rv_ 3 (.pointer (some ⟨ib,io+i,none⟩)) (fun a e=>execIdxN (k:=i) rfl (e _) (e _) lti) (rv_ 4 (.int .i64 ((w:Nat):Int)) (fun a e=>execLd3 rfl (e _) (cW XL5 BB)) (rv_ 5 (.int .i64 ((sumN (gN sf) i+w:Nat):Int)) (fun a e=>execAd8 (p:=sumN (gN sf) i) (q:=w) rfl (e _) (e _) (by omega)) (rf_ [(3,.int .i64 ((sumN (gN sf) i+w:Nat):Int))] (h2_ t0 t4) ?_))))
      rintro a A ⟨t3,-⟩ ⟨t0,t4,-⟩
      have e3:sumN (gN sf) i+w=sumN (gN sf) (i+1):=by show _=sumN (gN sf) i+(sf i).toNat; omega
      rw [e3] at t3
      refine wi_ A (h3_ t0 t3 t4) (rv_ 1 (.int .i64 ((i+1:Nat):Int)) (fun a e=>execAd8 (p:=i) (q:=1) rfl (e _) rfl (by omega)) (rf_ [(4,.int .i64 ((i+1:Nat):Int))] (h2_ t0 t3) ?_))
      rintro a A ⟨t4,-⟩ ⟨t0,t3,-⟩
      exact ⟨⟨i+1,lti,okS_succ hok (by omega),by rw [← e3]; omega,A,t0,t3,t4,BB⟩,by show J - (intOf (a.eval (.tmp 4))).toNat < J - (intOf (Act.eval _ (.tmp 4))).toNat; rw [t4,esi]; show J - (i+1) < J - i; omega⟩
   ·rw [decide_eq_false lti] at t16
    refine wp_cond_false t16 ?_
    refine wp_exit ?_
    first | with_reducible refine exit_in ?_ | with_reducible refine exit_then (exit_in ?_) | with_reducible refine exit_then (exit_then (exit_in ?_)) | refine exit_in ?_ | refine exit_then (exit_in ?_) | refine exit_then (exit_then (exit_in ?_))
    clear t16 esi
    obtain rfl:i=J:=by omega
    have hE:toT sf i=(sumN (gN sf) i:Int):=if_pos ⟨⟨by omega,by omega⟩,hok⟩
    rw [hE]
    clear t0 t4
    refine wp_seq ?_
    refine wi_ A (h1_ t3) (rg_ [(2,.int .i64 ((sumN (gN sf) i:Nat):Int))] ?_)
    rintro a A ⟨t2,-⟩
    refine wp_ret ?_
    repeat (first | with_reducible refine ret_in ?_ | with_reducible refine ret_then ?_)
    refine bodyPost_ret (results_tmp rfl _ _ _) A.2 ⟨?_,BB⟩
    show Ending.returned (a.eval (.tmp 2))=_
    rw [t2]
end Go.Proofs.Ytmjpneaccjlpkaa.Brd
