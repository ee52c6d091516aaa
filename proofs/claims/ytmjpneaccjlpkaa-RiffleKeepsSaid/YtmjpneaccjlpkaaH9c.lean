import Derived.Test.YtmjpneaccjlpkaaF9b
import Derived.Test.YtmjpneaccjlpkaaH9b
namespace Go.Proofs.Ytmjpneaccjlpkaa.Drw
open Go.RowKit Gf8 Aes By8 Cel Cf Tap
/- The program's All. Written by tools/mkH9c.py. -/
theorem own_setI {W:World} {B n g cap i l:Nat} {p:Nat->Nat} {bs:Nat->Int} (h:W.ownsRow B 3 1 (.slice (some ⟨g,0,none⟩) n cap) n (intsL n (fun j=>if j < i then (dA p l bs j:Int) else 0))):(W.setCell ⟨g,0+i,none⟩ (.int .i64 ((dV p l (plA p l bs i) (bs i):Nat):Int))).ownsRow B 3 1 (.slice (some ⟨g,0,none⟩) n cap) n (intsL n (fun j=>if j < (i+1) then (dA p l bs j:Int) else 0)):=by
 have h2:=own_setF (k:=i) ((dV p l (plA p l bs i) (bs i):Nat):Int) h
 rw [intsL_congr (g:=fun j=>if j < (i+1) then (dA p l bs j:Int) else 0) (fun j _=>?_)] at h2
 ·exact h2
 ·by_cases q:j=i
  ·subst q
   rw [if_pos rfl,if_pos (by omega)]
   rfl
  ·rw [if_neg q]
   by_cases q2:j < i
   ·rw [if_pos q2,if_pos (by omega)]
   ·rw [if_neg q2,if_neg (by omega)]
set_option maxRecDepth 100000 in
set_option maxHeartbeats 4000000 in
theorem pall_any (p:Nat->Nat) (l:Nat) (bs:Nat->Int) (n:Nat) (pv bv:Value) (V:World) (hp:SliceN V pv l p) (hl:l<=140737488351232) (hb:SliceI V bv n bs) (hn17:n<=17592186044416) :
  Calls Try.prog 41 #[pv,bv] V fun e w'=>∃ r,e=.returned (.tuple #[r,.int .i64 ((allK p l bs n:Nat):Int),.int .i64 ((allE p l bs n:Nat):Int)])/\w'.ownsRow V.heap.size 3 1 r (allN p l bs n) (intsL (allN p l bs n) (fun i=>(dA p l bs i:Int)))/\Below V.heap.size V w':=by
 obtain ⟨ia,ic,rfl,-,-,hsh⟩:=id hb.shape
 have FI:=hb
 have hpb:=hp.bytes
 go_enter Try.func41,Try.ntmps41
 refine wp_seq ?_
 refine wo_ 48 [(0,pv),(1,.slice ia n ic)] ?_
 rintro a A ⟨t0,t1,-⟩
 refine wi_ A (h2_ t0 t1) (rf_ [] (h2_ t0 t1) ?_)
 rintro a A - ⟨t0,t1,-⟩
 have BW:Below V.heap.size V V:=Below.refl _ _
 have BB:=BW
 refine wp_seq (wp_seq ?_)
 by_cases hw:anyB bs n=true
 ·have hwr:∀ X,Below V.heap.size V X->Calls Try.prog 65 #[.slice ia n ic] X fun e w'=>e=.returned (.bool false)/\Below X.heap.size X w':=fun X hX=>by have h_:=areBounds_any bs n _ X (FI.on hX) hn17; rw [hw] at h_; exact h_
  refine wi_ A (h2_ t0 t1) (rc_ 1 (hwr V BB) (cb_ fun X1 bQ=>?_))
  replace BB:=BB.trans (bQ.mono BB.size)
  clear bQ
  refine rv_ 2 (.bool true) (fun a e=>execNot8 (b:=false) rfl (e _)) (rf_ [(16,.bool true)] (h2_ t0 t1) ?_)
  rintro a A ⟨t16,-⟩ ⟨t0,t1,-⟩
  refine wp_cond_true t16 ?_
  refine wp_seq ?_
  refine wi_ A (h2_ t0 t1) (rg_ [(4,.slice none 0 0),(5,.int .i64 ((0:Nat):Int)),(6,.int .i64 ((2:Nat):Int))] ?_)
  rintro a A ⟨t4,t5,t6,-⟩
  have hE:allE p l bs n=2:=by unfold allE; rw [if_pos hw]
  have hN:allN p l bs n=0:=by unfold allN; rw [if_neg (by rw [hE]; decide)]
  have hK:allK p l bs n=0:=by unfold allK; rw [if_neg (by rw [hE]; decide)]
  rw [hE,hN,hK]
  refine wp_ret ?_
  repeat (first | with_reducible refine ret_in ?_ | with_reducible refine ret_then ?_)
  refine bodyPost_ret (results_tmp3 rfl _ _ _) A.2 ⟨_,?_,World.ownsRow_nil _ _ _ _,BB⟩
  show Ending.returned (.tuple #[a.eval (.tmp 4),a.eval (.tmp 5),a.eval (.tmp 6)])=_
  rw [t4,t5,t6]
 ·have hwf:=Bool.eq_false_iff.2 hw
  have hwr:∀ X,Below V.heap.size V X->Calls Try.prog 65 #[.slice ia n ic] X fun e w'=>e=.returned (.bool true)/\Below X.heap.size X w':=fun X hX=>by have h_:=areBounds_any bs n _ X (FI.on hX) hn17; rw [hwf] at h_; exact h_
  refine wi_ A (h2_ t0 t1) (rc_ 1 (hwr V BB) (cb_ fun X1 bQ=>?_))
  replace BB:=BB.trans (bQ.mono BB.size)
  clear bQ
  refine rv_ 2 (.bool false) (fun a e=>execNot8 (b:=true) rfl (e _)) (rf_ [(16,.bool false)] (h2_ t0 t1) ?_)
  rintro a A ⟨t16,-⟩ ⟨t0,t1,-⟩
  refine wp_cond_false t16 (wp_skip ?_)
  clear t16
  have hno:=anyB_no hwf
  refine wp_seq ?_
  refine wi_ A (h2_ t0 t1) (rc_ 1 (new_any p l _ X1 (hp.on BB)) (cb_ fun X3_1 bQ=>?_))
  replace BB:=BB.trans (bQ.mono BB.size)
  clear bQ
  obtain ⟨g7,egg7⟩:∃ z_:Nat,X3_1.heap.size=z_:=⟨_,rfl⟩
  refine rs_ 2 (fun a e=>?_)
  refine stepV rfl rfl (execAllTp rfl (fun _=>0)) ⟨.pointer (some ⟨g7,0,none⟩),⟨_,rfl,by subst egg7; rfl⟩,fun X3_2 hX=>?_⟩
  have bQ:Below X3_1.heap.size X3_1 X3_2:=by subst hX egg7; exact (belNew X3_1 _)
  have F7:X3_2.heap[g7]?=some (.cells (tpC (fun _=>0) 0 0) 108):=by subst hX egg7; exact heapNew X3_1 _
  have Fge7:(V.heap.size<=g7):=by subst hX egg7; exact (BB).size
  replace BB:=BB.trans (bQ.mono BB.size)
  clear bQ hX egg7 e a
  refine rs_ 3 (fun a e=>?_)
  refine stepS rfl rfl (execStTp rfl (e _) (e _) F7 rfl) ⟨_,⟨_,rfl,rfl⟩,fun X3 hX=>?_⟩
  obtain ⟨BB,F7⟩:Below V.heap.size V X3/\X3.heap[g7]?=some (.cells (tpC p l 0) 108):=by rw [hX]; exact ⟨below4 BB Fge7 _,setRow_heap _ _ _ _ _ _ F7⟩
  clear hX e a
  refine rf_ [(7,.pointer (some ⟨g7,0,none⟩))] (h2_ t0 t1) ?_
  rintro a A ⟨t7,-⟩ ⟨t0,t1,-⟩
  refine wp_seq ?_
  obtain ⟨g8,egg8⟩:∃ z_:Nat,X3.heap.size=z_:=⟨_,rfl⟩
  refine wi_ A (h3_ t0 t1 t7) (rv_ 1 (.int .i64 ((n:Nat):Int)) (fun a e=>execLenI (len:=n) rfl (e _) ((FI.on BB)).shp) (rs_ 2 (fun a e=>?_)))
  refine stepV rfl rfl (execMkN rfl (e _) (e _) hn17) ⟨.slice (some ⟨g8,0,none⟩) n n,⟨_,rfl,by subst egg8; rfl⟩,fun X4 hX=>?_⟩
  have bQ:Below X3.heap.size X3 X4:=by subst hX egg8; exact (belNew X3 _)
  have FO:(X4.ownsRow V.heap.size 3 1 (.slice (some ⟨g8,0,none⟩) n n) n (intsL n (fun j=>if j < 0 then (dA p l bs j:Int) else 0))):=by subst hX egg8; exact ownD_base (own_mkZ X3 n _ hn17 (fun j_ _=>if_neg (Nat.not_lt_zero _))) (BB).size
  have Fg8:(V.heap.size<=g8):=by subst hX egg8; exact (BB).size
  replace F7:=(on9 F7 bQ)
  replace BB:=BB.trans (bQ.mono BB.size)
  clear bQ hX egg8 e a
  refine rf_ [(8,.slice (some ⟨g8,0,none⟩) n n)] (h2_ t1 t7) ?_
  rintro a A ⟨t8,-⟩ ⟨t1,t7,-⟩
  refine wp_seq (wp_seq ?_)
  refine wi_ A (h3_ t1 t7 t8) (rv_ 1 (.int .i64 ((n:Nat):Int)) (fun a e=>execLenI (len:=n) rfl (e _) ((FI.on BB)).shp) (rf_ [(22,.slice ia n ic),(23,.int .i64 ((n:Nat):Int)),(24,.int .i64 ((0:Nat):Int))] (h2_ t7 t8) ?_))
  rintro a A ⟨t22,t23,t24,-⟩ ⟨t7,t8,-⟩
  refine wp_block ?_
  refine wp_loop (fun a W=>∃ (i:Nat),i<=n/\okA p l bs i/\(a.tmps.size=48/\a.defers=[])/\a.eval (.tmp 7)=.pointer (some ⟨g7,0,none⟩)/\a.eval (.tmp 8)=.slice (some ⟨g8,0,none⟩) n n/\a.eval (.tmp 22)=.slice ia n ic/\a.eval (.tmp 23)=.int .i64 ((n:Nat):Int)/\a.eval (.tmp 24)=.int .i64 ((i:Nat):Int)/\Below V.heap.size V W/\W.heap[g7]?=some (.cells (tpC p l (plA p l bs i)) 108)/\W.ownsRow V.heap.size 3 1 (.slice (some ⟨g8,0,none⟩) n n) n (intsL n (fun j=>if j < i then (dA p l bs j:Int) else 0))) (fun a _=>n - (intOf (a.eval (.tmp 24))).toNat) ⟨0,Nat.zero_le _,(fun i hi=>absurd hi (Nat.not_lt_zero _)),A,t7,t8,t22,t23,t24,BB,F7,FO⟩ ?_
  rintro a XL ⟨i,hi,hok,A,t7,t8,t22,t23,t24,BB,F7,FO⟩
  have e24:=t24
  refine wp_seq ?_
  refine wi_ A (h5_ t7 t8 t22 t23 t24) (rv_ 0 (.bool (decide (i < n))) (fun a e=>execLtW (p:=i) (q:=n) rfl (e _) (e _)) (rf_ [(25,.bool (decide (i < n)))] (h5_ t7 t8 t22 t23 t24) ?_))
  rintro a A ⟨t25,-⟩ ⟨t7,t8,t22,t23,t24,-⟩
  refine wp_seq ?_
  by_cases hlt:i < n
  ·rw [decide_eq_true hlt] at t25
   refine wp_cond_true t25 (wp_skip ?_)
   clear t25
   obtain ⟨ib,io,rfl,hib,hcell⟩:=hsh (by omega)
   have cI:∀ X,Below V.heap.size V X->X.cell? ⟨ib,io+i,none⟩=some (.int .i64 (bs i)):=fun X hX=>by rw [cell_below hX hib]; exact hcell i hlt
   refine wp_seq (wp_block ?_)
   refine wp_seq ?_
   refine wi_ A (h5_ t7 t8 t22 t23 t24) (rv_ 1 (.pointer (some ⟨ib,io+i,none⟩)) (fun a e=>execIdxN (k:=i) rfl (e _) (e _) hlt) (rv_ 2 (.int .i64 (bs i)) (fun a e=>execLd3 rfl (e _) (cI XL BB)) (rf_ [(9,.int .i64 ((i:Nat):Int)),(10,.int .i64 (bs i))] (h5_ t7 t8 t22 t23 t24) ?_)))
   rintro a A ⟨t9,t10,-⟩ ⟨t7,t8,t22,t23,t24,-⟩
   refine wp_seq ?_
   refine wi_ A (h7_ t7 t8 t22 t23 t24 t9 t10) (rv_ 0 (.agg (tpC p l (plA p l bs i))) (fun a e=>execLdTp rfl (e _) F7) (rc_ 2 (pbelow_any p l (plA p l bs i) (bs i) XL (plA_le p l bs i) hl hpb) (cb_ fun X8_1 bQ=>?_)))
   replace F7:=(on9 F7 bQ)
   replace FO:=(ownD_below FO bQ)
   replace BB:=BB.trans (bQ.mono BB.size)
   clear bQ
   obtain ⟨g12,egg12⟩:∃ z_:Nat,X8_1.heap.size=z_:=⟨_,rfl⟩
   refine rs_ 7 (fun a e=>?_)
   refine stepV rfl rfl (execAllTp rfl (fun _=>0)) ⟨.pointer (some ⟨g12,0,none⟩),⟨_,rfl,by subst egg12; rfl⟩,fun X8_2 hX=>?_⟩
   have bQ:Below X8_1.heap.size X8_1 X8_2:=by subst hX egg12; exact (belNew X8_1 _)
   have F12:X8_2.heap[g12]?=some (.cells (tpC (fun _=>0) 0 0) 108):=by subst hX egg12; exact heapNew X8_1 _
   have Fge12:(V.heap.size<=g12):=by subst hX egg12; exact (BB).size
   have Fn12F7:(g7 ≠ g12):=by subst hX egg12; exact ne9 F7
   replace F7:=(on9 F7 bQ)
   replace FO:=(ownD_below FO bQ)
   replace BB:=BB.trans (bQ.mono BB.size)
   clear bQ hX egg12 e a
   refine rs_ 9 (fun a e=>?_)
   refine stepS rfl rfl (execStTp rfl (e _) (e _) F12 rfl) ⟨_,⟨_,rfl,rfl⟩,fun X8 hX=>?_⟩
   obtain ⟨BB,F7,FO,F12⟩:Below V.heap.size V X8/\X8.heap[g7]?=some (.cells (tpC p l (plA p l bs i)) 108)/\(X8.ownsRow V.heap.size 3 1 (.slice (some ⟨g8,0,none⟩) n n) n (intsL n (fun j=>if j < i then (dA p l bs j:Int) else 0)))/\X8.heap[g12]?=some (.cells (tpC p (if dE p l (plA p l bs i) (bs i)=0 then l else 0) (dN p l (plA p l bs i) (bs i))) 108):=by rw [hX]; exact ⟨below4 BB Fge12 _,(by rw [setRow_other _ _ _ _ (Fn12F7)]; exact F7),(own_setT FO F12 (by decide)),setRow_heap _ _ _ _ _ _ F12⟩
   clear hX e a
   refine rf_ [(11,.int .i64 ((dV p l (plA p l bs i) (bs i):Nat):Int)),(12,.pointer (some ⟨g12,0,none⟩)),(13,.int .i64 ((dE p l (plA p l bs i) (bs i):Nat):Int))] (h6_ t7 t8 t22 t23 t24 t9) ?_
   rintro a A ⟨t11,t12,t13,-⟩ ⟨t7,t8,t22,t23,t24,t9,-⟩
   refine wp_seq (wp_seq ?_)
   refine wi_ A (h9_ t7 t8 t22 t23 t24 t9 t11 t12 t13) (rv_ 1 (.bool (decide (dE p l (plA p l bs i) (bs i) ≠ 0))) (fun a e=>execNeE (p:=dE p l (plA p l bs i) (bs i)) (q:=0) rfl (e _) rfl) (rf_ [(37,.bool (decide (dE p l (plA p l bs i) (bs i) ≠ 0)))] (h9_ t7 t8 t22 t23 t24 t9 t11 t12 t13) ?_))
   rintro a A ⟨t37,-⟩ ⟨t7,t8,t22,t23,t24,t9,t11,t12,t13,-⟩
   by_cases hE0:dE p l (plA p l bs i) (bs i)=0
   ·rw [decide_eq_false (by omega)] at t37
    refine wp_cond_false t37 (wp_skip ?_)
    clear t37 t13
    rw [if_pos hE0] at F12
    have Fn7F12:=Fn12F7.symm
    refine wp_region_stB (σ:=Unit) 48 [(0,39),(1,40),(2,41),(3,42),(4,43)] (fun l_ s X=>Below V.heap.size V X/\(l_ 6=false->X.heap[g7]?=some (.cells (tpC p l (plA p l bs i)) 108))/\(l_ 5=false->(X.ownsRow V.heap.size 3 1 (.slice (some ⟨g8,0,none⟩) n n) n (intsL n (fun j=>if j < i then (dA p l bs j:Int) else 0))))/\((V.heap.size<=g7))/\((V.heap.size<=g12))/\((g7 ≠ g12))/\(X.heap[g12]?=some (.cells (tpC p l (dN p l (plA p l bs i) (bs i))) 108))/\((g12 ≠ g7))/\(l_ 5=true->(X.ownsRow V.heap.size 3 1 (.slice (some ⟨g8,0,none⟩) n n) n (intsL n (fun j=>if j < (i+1) then (dA p l bs j:Int) else 0))))/\(l_ 6=true->X.heap[g7]?=some (.cells (tpC p l (dN p l (plA p l bs i) (bs i))) 108))) (fun s=>fun i_=>match i_ with | 0=>.slice (some ⟨g8,0,none⟩) n n | 1=>.int .i64 ((i:Nat):Int) | 2=>.int .i64 ((dV p l (plA p l bs i) (bs i):Nat):Int) | 3=>.agg (tpC p l (dN p l (plA p l bs i) (bs i))) | 4=>.pointer (some ⟨g8,0+i,none⟩) | 5=>undef | 6=>undef | _=>undef) () (by kernel_rfl) (by kernel_rfl) A.1 (by kernel_rfl) (by decide) (by decide) ⟨(BB.drew),(fun _=>(on9 F7 (Below.refl _ _).drew)),(fun _=>(ownD_below FO (Below.refl _ _).drew)),(Fge7),(Fge12),(Fn12F7),((on9 F12 (Below.refl _ _).drew)),(Fn7F12),(fun q0_=>by cases q0_),(fun q0_=>by cases q0_)⟩ ?_ ?_
    ·intro i_ hi_ l_ s a X hl_ hf hdep hl2 hcl hno hT
     have up:∀ j x,x ≠ j->updB l_ j x=l_ x:=fun j x hj=>by unfold updB; simp [hj]
     match i_,hi_ with
     | 0,_=>exact stepV rfl rfl (execMvB rfl ((hf 8 (by decide)).trans t8)) ⟨s,⟨_,rfl,rfl⟩,⟨hT.1,(fun q0_=>(hT.2.1 (by rw [up 0 6 (by decide)] at q0_; exact q0_))),(fun q0_=>(hT.2.2.1 (by rw [up 0 5 (by decide)] at q0_; exact q0_))),(hT.2.2.2.1),(hT.2.2.2.2.1),(hT.2.2.2.2.2.1),(hT.2.2.2.2.2.2.1),(hT.2.2.2.2.2.2.2.1),(fun q0_=>absurd (hl_.symm.trans (hcl 5 _ rfl ((up 0 5 (by decide)).symm.trans q0_) 0 rfl)) (by decide)),(fun q0_=>absurd (hl_.symm.trans (hcl 6 _ rfl ((up 0 6 (by decide)).symm.trans q0_) 0 rfl)) (by decide))⟩,fun _ _ _=>rfl⟩
     | 1,_=>exact stepV rfl rfl (execMvB rfl ((hf 9 (by decide)).trans t9)) ⟨s,⟨_,rfl,rfl⟩,⟨hT.1,(fun q0_=>(hT.2.1 (by rw [up 1 6 (by decide)] at q0_; exact q0_))),(fun q0_=>(hT.2.2.1 (by rw [up 1 5 (by decide)] at q0_; exact q0_))),(hT.2.2.2.1),(hT.2.2.2.2.1),(hT.2.2.2.2.2.1),(hT.2.2.2.2.2.2.1),(hT.2.2.2.2.2.2.2.1),(fun q0_=>absurd (hl_.symm.trans (hcl 5 _ rfl ((up 1 5 (by decide)).symm.trans q0_) 1 rfl)) (by decide)),(fun q0_=>absurd (hl_.symm.trans (hcl 6 _ rfl ((up 1 6 (by decide)).symm.trans q0_) 1 rfl)) (by decide))⟩,fun _ _ _=>rfl⟩
     | 2,_=>exact stepV rfl rfl (execMvB rfl ((hf 11 (by decide)).trans t11)) ⟨s,⟨_,rfl,rfl⟩,⟨hT.1,(fun q0_=>(hT.2.1 (by rw [up 2 6 (by decide)] at q0_; exact q0_))),(fun q0_=>(hT.2.2.1 (by rw [up 2 5 (by decide)] at q0_; exact q0_))),(hT.2.2.2.1),(hT.2.2.2.2.1),(hT.2.2.2.2.2.1),(hT.2.2.2.2.2.2.1),(hT.2.2.2.2.2.2.2.1),(fun q0_=>absurd (hl_.symm.trans (hcl 5 _ rfl ((up 2 5 (by decide)).symm.trans q0_) 2 rfl)) (by decide)),(fun q0_=>absurd (hl_.symm.trans (hcl 6 _ rfl ((up 2 6 (by decide)).symm.trans q0_) 2 rfl)) (by decide))⟩,fun _ _ _=>rfl⟩
     | 3,_=>exact stepV rfl rfl (execLdTp rfl ((hf 12 (by decide)).trans t12) hT.2.2.2.2.2.2.1) ⟨s,⟨_,rfl,rfl⟩,⟨hT.1,(fun q0_=>(hT.2.1 (by rw [up 3 6 (by decide)] at q0_; exact q0_))),(fun q0_=>(hT.2.2.1 (by rw [up 3 5 (by decide)] at q0_; exact q0_))),(hT.2.2.2.1),(hT.2.2.2.2.1),(hT.2.2.2.2.2.1),(hT.2.2.2.2.2.2.1),(hT.2.2.2.2.2.2.2.1),(fun q0_=>(hT.2.2.2.2.2.2.2.2.1 (by rw [up 3 5 (by decide)] at q0_; exact q0_))),(fun q0_=>absurd (hl_.symm.trans (hcl 6 _ rfl ((up 3 6 (by decide)).symm.trans q0_) 3 rfl)) (by decide))⟩,fun _ _ _=>rfl⟩
     | 4,_=>exact stepV rfl rfl (execIdxN (k:=i) rfl (hdep _ rfl 0 rfl _ rfl _ rfl) (hdep _ rfl 1 rfl _ rfl _ rfl) hlt) ⟨s,⟨_,rfl,rfl⟩,⟨hT.1,(fun q0_=>(hT.2.1 (by rw [up 4 6 (by decide)] at q0_; exact q0_))),(fun q0_=>(hT.2.2.1 (by rw [up 4 5 (by decide)] at q0_; exact q0_))),(hT.2.2.2.1),(hT.2.2.2.2.1),(hT.2.2.2.2.2.1),(hT.2.2.2.2.2.2.1),(hT.2.2.2.2.2.2.2.1),(fun q0_=>absurd (hl_.symm.trans (hcl 5 _ rfl ((up 4 5 (by decide)).symm.trans q0_) 4 rfl)) (by decide)),(fun q0_=>absurd (hl_.symm.trans (hcl 6 _ rfl ((up 4 6 (by decide)).symm.trans q0_) 4 rfl)) (by decide))⟩,fun _ _ _=>rfl⟩
     | 5,_=>
      obtain ⟨hc_,hf_⟩:=own_cellI (hT.2.2.1 hl_) hlt
      refine stepS rfl rfl (execStI9 rfl (hdep _ rfl 4 rfl _ rfl _ rfl) (hdep _ rfl 2 rfl _ rfl _ rfl) hc_ hf_) ⟨s,⟨_,rfl,rfl⟩,⟨(hT.1).setCell Fg8 _,(fun q0_=>(off_own (hT.2.2.1 hl_) (hT.2.1 (by rw [up 5 6 (by decide)] at q0_; exact q0_)) (by decide))),(fun q0_=>absurd q0_ (by unfold updB; simp)),(hT.2.2.2.1),(hT.2.2.2.2.1),(hT.2.2.2.2.2.1),((off_own (hT.2.2.1 hl_) hT.2.2.2.2.2.2.1 (by decide))),(hT.2.2.2.2.2.2.2.1),(fun _q0_=>own_setI (hT.2.2.1 hl_)),(fun q0_=>absurd (hl_.symm.trans (hcl 6 _ rfl ((up 5 6 (by decide)).symm.trans q0_) 5 rfl)) (by decide))⟩,fun i hi hli=>?_⟩
      match i,hi with
      | 0,_=>rfl
      | 1,_=>rfl
      | 2,_=>rfl
      | 3,_=>rfl
      | 4,_=>rfl
      | 5,_=>exact absurd (hl_.symm.trans hli) (by decide)
      | 6,_=>rfl
      | k_+7,h_=>exact absurd h_ (by simp)
     | 6,_=>exact stepS rfl rfl (execStTp rfl ((hf 7 (by decide)).trans t7) (hdep _ rfl 3 rfl _ rfl _ rfl) (hT.2.1 hl_) rfl) ⟨s,⟨_,rfl,rfl⟩,⟨below4 hT.1 hT.2.2.2.1 _,(fun q0_=>absurd q0_ (by unfold updB; simp)),(fun q0_=>absurd (q0_.symm.trans ((up 6 5 (by decide)).trans (hl2 _ rfl 5 rfl))) (by decide)),(hT.2.2.2.1),(hT.2.2.2.2.1),(hT.2.2.2.2.2.1),((by rw [setRow_other _ _ _ _ (hT.2.2.2.2.2.2.2.1)]; exact hT.2.2.2.2.2.2.1)),(hT.2.2.2.2.2.2.2.1),(fun q0_=>(own_setT (hT.2.2.2.2.2.2.2.2.1 (by rw [up 6 5 (by decide)] at q0_; exact q0_)) (hT.2.1 hl_) (by decide))),(fun _q0_=>setRow_heap _ _ _ _ _ _ (hT.2.1 hl_))⟩,fun _ _ _=>rfl⟩
     | k_+7,h_=>exact absurd h_ (by simp)
    rintro l_ _ a X11 h1 h2 h3 h4 hall hT
    clear BB
    clear F7
    clear FO
    clear Fge7
    clear Fge12
    clear Fn12F7
    clear F12
    clear Fn7F12
    obtain ⟨BB,F7,FO,Fge7,Fge12,Fn12F7,F12,Fn7F12,FO2,F7s⟩:=hT
    clear F7
    clear FO
    replace Fge7:(V.heap.size<=g7):=Fge7
    replace Fge12:(V.heap.size<=g12):=Fge12
    replace Fn12F7:(g7 ≠ g12):=Fn12F7
    replace F12:X11.heap[g12]?=some (.cells (tpC p l (dN p l (plA p l bs i) (bs i))) 108):=F12
    replace Fn7F12:(g12 ≠ g7):=Fn7F12
    replace FO2:(X11.ownsRow V.heap.size 3 1 (.slice (some ⟨g8,0,none⟩) n n) n (intsL n (fun j=>if j < (i+1) then (dA p l bs j:Int) else 0))):=FO2 (hall 5 (by decide))
    replace F7s:X11.heap[g7]?=some (.cells (tpC p l (dN p l (plA p l bs i) (bs i))) 108):=F7s (hall 6 (by decide))
    clear hall
    replace t7:=(h3 7 (by decide)).trans t7
    replace t8:=(h3 8 (by decide)).trans t8
    replace t22:=(h3 22 (by decide)).trans t22
    replace t23:=(h3 23 (by decide)).trans t23
    replace t24:=(h3 24 (by decide)).trans t24
    replace A:=(⟨h1,h2.trans A.2⟩:a.tmps.size=48/\a.defers=[])
    clear h1 h2 h3 h4
    clear t9 t11 t12
    refine wi_ A (h5_ t7 t8 t22 t23 t24) (rv_ 0 (.int .i64 ((i+1:Nat):Int)) (fun a e=>execAd8 (p:=i) (q:=1) rfl (e _) rfl (by omega)) (rf_ [(24,.int .i64 ((i+1:Nat):Int))] (h4_ t7 t8 t22 t23) ?_))
    rintro a A ⟨t24,-⟩ ⟨t7,t8,t22,t23,-⟩
    exact ⟨⟨i+1,hlt,okA_succ hok hE0,A,t7,t8,t22,t23,t24,BB,F7s,FO2⟩,by show n - (intOf (a.eval (.tmp 24))).toNat < n - (intOf (Act.eval _ (.tmp 24))).toNat; rw [t24,e24]; show n - (i+1) < n - i; omega⟩
   ·rw [decide_eq_true hE0] at t37
    refine wp_cond_true t37 ?_
    refine wp_seq ?_
    refine wi_ A (h9_ t7 t8 t22 t23 t24 t9 t11 t12 t13) (rg_ [(4,.slice none 0 0),(5,.int .i64 ((0:Nat):Int)),(6,.int .i64 ((dE p l (plA p l bs i) (bs i):Nat):Int))] ?_)
    rintro a A ⟨t4,t5,t6,-⟩
    have hE3:dE p l (plA p l bs i) (bs i)=3:=(dE_good (hno i hlt)).resolve_left hE0
    rw [hE3] at t6
    have hE:allE p l bs n=3:=by unfold allE; rw [if_neg hw,if_neg (fun q=>hE0 (okB_iff.1 q i hlt))]
    have hN:allN p l bs n=0:=by unfold allN; rw [if_neg (by rw [hE]; decide)]
    have hK:allK p l bs n=0:=by unfold allK; rw [if_neg (by rw [hE]; decide)]
    rw [hE,hN,hK]
    refine wp_ret ?_
    repeat (first | with_reducible refine ret_in ?_ | with_reducible refine ret_then ?_)
    refine bodyPost_ret (results_tmp3 rfl _ _ _) A.2 ⟨_,?_,World.ownsRow_nil _ _ _ _,BB⟩
    show Ending.returned (.tuple #[a.eval (.tmp 4),a.eval (.tmp 5),a.eval (.tmp 6)])=_
    rw [t4,t5,t6]
  ·rw [decide_eq_false hlt] at t25
   refine wp_cond_false t25 ?_
   refine wp_exit ?_
   first | with_reducible refine exit_in ?_ | with_reducible refine exit_then (exit_in ?_) | with_reducible refine exit_then (exit_then (exit_in ?_)) | refine exit_in ?_ | refine exit_then (exit_in ?_) | refine exit_then (exit_then (exit_in ?_))
   clear t25
   have hin:i=n:=by omega
   rw [hin] at hok F7
   rw [intsL_congr (g:=fun i=>(dA p l bs i:Int)) (fun j hj=>if_pos (by omega))] at FO
   refine wp_seq ?_
   refine wi_ A (h5_ t7 t8 t22 t23 t24) (rv_ 1 (.agg (tpC p l (plA p l bs n))) (fun a e=>execLdTp rfl (e _) F7) (rc_ 2 (used_any p l (plA p l bs n) XL) (cb_ fun X13 bQ=>?_)))
   replace F7:=(on9 F7 bQ)
   replace FO:=(ownD_below FO bQ)
   replace BB:=BB.trans (bQ.mono BB.size)
   clear bQ
   refine rg_ [(4,.slice (some ⟨g8,0,none⟩) n n),(5,.int .i64 (((plA p l bs n):Nat):Int)),(6,.int .i64 ((0:Nat):Int))] ?_
   rintro a A ⟨t4,t5,t6,-⟩
   have hE:allE p l bs n=0:=by unfold allE; rw [if_neg hw,if_pos (okB_iff.2 hok)]
   have hN:allN p l bs n=n:=by unfold allN; rw [if_pos hE]
   have hK:allK p l bs n=plA p l bs n:=by unfold allK; rw [if_pos hE]
   rw [hE,hN,hK]
   refine wp_ret ?_
   refine bodyPost_ret (results_tmp3 rfl _ _ _) A.2 ⟨_,?_,FO,BB⟩
   show Ending.returned (.tuple #[a.eval (.tmp 4),a.eval (.tmp 5),a.eval (.tmp 6)])=_
   rw [t4,t5,t6]
end Go.Proofs.Ytmjpneaccjlpkaa.Drw
