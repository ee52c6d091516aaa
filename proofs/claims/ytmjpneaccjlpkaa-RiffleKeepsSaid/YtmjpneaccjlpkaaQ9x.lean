import Derived.Test.YtmjpneaccjlpkaaF9c
import Derived.Test.YtmjpneaccjlpkaaF9b
import Derived.Test.YtmjpneaccjlpkaaQ9s
namespace Go.Proofs.Ytmjpneaccjlpkaa.Brd
open Go.RowKit Gf8 Aes By8 Cel Cf Tap Drw Prm
/- Package braid as it landed: lengths[int], Weave[int]. Written by tools/mkQ9w.py. -/
structure LLI (W:World) (v:Value) (J:Nat) (x:Nat->Value) (ln:Nat->Nat) (gg:Nat->Nat->Int):Prop where
 shape:∃ a cap,v=.slice a J cap/\(0 < J->∃ b off,a=some ⟨b,off,none⟩/\b < W.heap.size/\∀ j,j < J->W.cell? ⟨b,off+j,none⟩=some (x j))
 lists:∀ j,j < J->SliceI W (x j) (ln j) (gg j)
section
variable {W W':World} {v:Value} {J:Nat} {x:Nat->Value} {ln:Nat->Nat} {gg:Nat->Nat->Int}
theorem LLI.on (h:LLI W v J x ln gg) (hb:Below W.heap.size W W'):LLI W' v J x ln gg:=by
 obtain ⟨a,cap,e,hs⟩:=h.shape
 refine ⟨⟨a,cap,e,fun h0=>?_⟩,fun j hj=>(h.lists j hj).on hb⟩
 obtain ⟨b,off,e1,e2,e3⟩:=hs h0
 exact ⟨b,off,e1,Nat.lt_of_lt_of_le e2 hb.size,fun j hj=>by rw [cell_below hb e2]; exact e3 j hj⟩
theorem LLI.at (h:LLI W v J x ln gg) (hJ:0 < J):∃ b o c,v=.slice (some ⟨b,o,none⟩) J c/\b < W.heap.size/\∀ j,j < J->W.cell? ⟨b,o+j,none⟩=some (x j):=by
 obtain ⟨a,c,rfl,hs⟩:=h.shape
 obtain ⟨b,o,rfl,h1,h2⟩:=hs hJ
 exact ⟨b,o,c,rfl,h1,h2⟩
theorem ln_fits (h:LLI W v J x ln gg):∀ j,j < J->-9223372036854775808<=(fun j=>(ln j:Int)) j/\(fun j=>(ln j:Int)) j < 9223372036854775808:=fun j hj=>by
 obtain ⟨a,c,e,h1,h2,_⟩:=(h.lists j hj).shape
 have h3:maxLen=9223372036854775807:=rfl
 show _<=(ln j:Int)/\(ln j:Int) < _
 omega
end
def weE (cf:Nat->Int) (n:Nat) (ln:Nat->Nat) (J:Nat):Nat:=if stQ cf n (fun j=>(ln j:Int)) J=true then 0 else 2
theorem nx_set {W:World} {B J i c q g cap:Nat} {cf:Nat->Int} (h:W.ownsRow B 3 1 (.slice (some ⟨g,0,none⟩) J cap) J (intsL J (fun j=>(cntC (gN cf) j i:Int)))) (ec:gN cf i=c) (eq:cntC (gN cf) c i=q) :
  (W.setCell ⟨g,0+c,none⟩ (.int .i64 ((q+1:Nat):Int))).ownsRow B 3 1 (.slice (some ⟨g,0,none⟩) J cap) J (intsL J (fun j=>(cntC (gN cf) j (i+1):Int))):=by
 have h1:=own_setF (k:=c) ((q+1:Nat):Int) h
 rw [← intsL_congr (fun j hj=>?_)]
 ·exact h1
 ·show (if j=c then ((q+1:Nat):Int) else ((cntC (gN cf) j i:Nat):Int))=((cntC (gN cf) j i+(if gN cf i=j then 1 else 0):Nat):Int)
  rw [ec]
  by_cases e:j=c
  ·subst e
   rw [if_pos rfl,if_pos rfl,eq]
  ·rw [if_neg e,if_neg (fun z=>e z.symm),Nat.add_zero]
set_option maxRecDepth 100000 in
set_option maxHeartbeats 4000000 in
theorem plengthsI (J:Nat) (x:Nat->Value) (ln:Nat->Nat) (gg:Nat->Nat->Int) (v:Value) (V:World) (hL:LLI V v J x ln gg) (hJ:J<=1000000) :
  Calls Try.prog 48 #[v] V fun e w'=>∃ r,e=.returned r/\w'.ownsRow V.heap.size 3 1 r J (intsL J (fun j=>(ln j:Int)))/\Below V.heap.size V w':=by
 have hsh:∃ ao c,v=.slice ao J c:=by obtain ⟨a_,c_,e_,_⟩:=hL.shape; exact ⟨a_,c_,e_⟩
 go_enter Try.func48,Try.ntmps48
 refine wp_seq ?_
 refine wo_ 23 [(0,v)] ?_
 rintro a A ⟨t0,-⟩
 refine wi_ A (h1_ t0) (rf_ [] (h1_ t0) ?_)
 rintro a A - ⟨t0,-⟩
 have BW:Below V.heap.size V V:=Below.refl _ _
 have BB:=BW
 refine wp_seq ?_
 obtain ⟨g8,egg8⟩:∃ z_:Nat,V.heap.size=z_:=⟨_,rfl⟩
 refine wi_ A (h1_ t0) (rv_ 1 (.int .i64 ((J:Nat):Int)) (fun a e=>execLenLI (len:=J) rfl (e _) hsh) (rs_ 2 (fun a e=>?_)))
 refine stepV rfl rfl (execMkN rfl (e _) (e _) (by omega)) ⟨.slice (some ⟨g8,0,none⟩) J J,⟨_,rfl,by subst egg8; rfl⟩,fun X1 hX=>?_⟩
 have bQ:Below V.heap.size V X1:=by subst hX egg8; exact (belNew V _)
 have FO:(X1.ownsRow V.heap.size 3 1 (.slice (some ⟨g8,0,none⟩) J J) (J) (intsL (J) (fun j=>if j < 0 then (ln j:Int) else 0))):=by subst hX egg8; exact ownD_base (own_mkZ V J _ (by omega) (fun j_ _=>if_neg (Nat.not_lt_zero _))) (BB).size
 have Fg:(V.heap.size<=g8):=by subst hX egg8; exact (BB).size
 replace BB:=BB.trans (bQ.mono BB.size)
 clear bQ hX egg8 e a
 refine rf_ [(3,.slice (some ⟨g8,0,none⟩) J J)] (h1_ t0) ?_
 rintro a A ⟨t3,-⟩ ⟨t0,-⟩
 refine wp_seq (wp_seq ?_)
 refine wi_ A (h2_ t0 t3) (rv_ 1 (.int .i64 ((J:Nat):Int)) (fun a e=>execLenLI (len:=J) rfl (e _) hsh) (rf_ [(9,v),(10,.int .i64 ((J:Nat):Int)),(11,.int .i64 ((0:Nat):Int))] (h1_ t3) ?_))
 rintro a A ⟨t9,t10,t11,-⟩ ⟨t3,-⟩
 refine wp_block ?_
 refine wp_loop (fun a W=>∃ (i:Nat),i<=J/\(a.tmps.size=23/\a.defers=[])/\a.eval (.tmp 3)=.slice (some ⟨g8,0,none⟩) J J/\a.eval (.tmp 9)=v/\a.eval (.tmp 10)=.int .i64 ((J:Nat):Int)/\a.eval (.tmp 11)=.int .i64 ((i:Nat):Int)/\Below V.heap.size V W/\(W.ownsRow V.heap.size 3 1 (.slice (some ⟨g8,0,none⟩) J J) (J) (intsL (J) (fun j=>if j < i then (ln j:Int) else 0)))) (fun a _=>J - (intOf (a.eval (.tmp 11))).toNat) ⟨0,Nat.zero_le _,A,t3,t9,t10,t11,BB,FO⟩ ?_
 rintro a XL3 ⟨i,hi,A,t3,t9,t10,t11,BB,FO⟩
 have esi:=t11
 refine wp_seq ?_
 refine wi_ A (h4_ t3 t9 t10 t11) (rv_ 0 (.bool (decide (i < J))) (fun a e=>execLtW (p:=i) (q:=J) rfl (e _) (e _)) (rf_ [(12,.bool (decide (i < J)))] (h4_ t3 t9 t10 t11) ?_))
 rintro a A ⟨t12,-⟩ ⟨t3,t9,t10,t11,-⟩
 refine wp_seq ?_
 by_cases lti:i < J
 ·rw [decide_eq_true lti] at t12
  refine wp_cond_true t12 (wp_skip ?_)
  clear t12
  refine wp_seq (wp_block ?_)
  obtain ⟨vb,vo,vc,ev,hvb,hvc⟩:=hL.at (show 0 < J by omega)
  have cV:∀ X,Below V.heap.size V X->X.cell? ⟨vb,vo+i,none⟩=some (x i):=fun X hX=>by rw [cell_below hX hvb]; exact hvc i lti
  have hxi:=(hL.lists i lti).shp
  refine wp_seq ?_
  refine wi_ A (h4_ t3 t9 t10 t11) (rv_ 1 (.pointer (some ⟨vb,vo+i,none⟩)) (fun a e=>execIdxLI (k:=i) rfl ((e _).trans ev) (e _) lti) (rv_ 2 (x i) (fun a e=>execLdLI (v:=x i) rfl (e _) (cV XL3 BB)) (rf_ [(4,.int .i64 ((i:Nat):Int)),(5,x i)] (h4_ t3 t9 t10 t11) ?_)))
  rintro a A ⟨t4,t5,-⟩ ⟨t3,t9,t10,t11,-⟩
  refine wi_ A (h6_ t3 t9 t10 t11 t4 t5) (rv_ 3 (.int .i64 ((ln i:Nat):Int)) (fun a e=>execLenI (len:=ln i) rfl (e _) hxi) (rv_ 4 (.pointer (some ⟨g8,0+i,none⟩)) (fun a e=>execIdxN (k:=i) rfl (e _) (e _) lti) (rs_ 5 (fun a e=>?_))))
  obtain ⟨hc_,hf_⟩:=own_cellI FO lti
  refine stepS rfl rfl (execStI9 rfl (e _) (e _) hc_ hf_) ⟨_,⟨_,rfl,rfl⟩,fun X5 hX=>?_⟩
  obtain ⟨BB,FO2⟩:Below V.heap.size V X5/\(X5.ownsRow V.heap.size 3 1 (.slice (some ⟨g8,0,none⟩) J J) (J) (intsL (J) (fun j=>if j < (i+1) then (ln j:Int) else 0))):=by subst hX; exact ⟨(BB).setCell Fg _,own_fill (F:=fun j=>(ln j:Int)) FO rfl⟩
  clear FO hX e a
  refine rf_ [] (h4_ t3 t9 t10 t11) ?_
  rintro a A - ⟨t3,t9,t10,t11,-⟩
  refine wi_ A (h4_ t3 t9 t10 t11) (rv_ 0 (.int .i64 ((i+1:Nat):Int)) (fun a e=>execAd8 (p:=i) (q:=1) rfl (e _) rfl (by omega)) (rf_ [(11,.int .i64 ((i+1:Nat):Int))] (h3_ t3 t9 t10) ?_))
  rintro a A ⟨t11,-⟩ ⟨t3,t9,t10,-⟩
  exact ⟨⟨i+1,lti,A,t3,t9,t10,t11,BB,FO2⟩,by show J - (intOf (a.eval (.tmp 11))).toNat < J - (intOf (Act.eval _ (.tmp 11))).toNat; rw [t11,esi]; show J - (i+1) < J - i; omega⟩
 ·rw [decide_eq_false lti] at t12
  refine wp_cond_false t12 ?_
  refine wp_exit ?_
  first | with_reducible refine exit_in ?_ | with_reducible refine exit_then (exit_in ?_) | with_reducible refine exit_then (exit_then (exit_in ?_)) | refine exit_in ?_ | refine exit_then (exit_in ?_) | refine exit_then (exit_then (exit_in ?_))
  clear t12 esi
  have hiJ:i=J:=by omega
  rw [hiJ,intsL_congr (g:=fun j=>(ln j:Int)) (fun j hj=>if_pos hj)] at FO
  clear t9 t10 t11
  refine wp_seq ?_
  refine wi_ A (h1_ t3) (rg_ [(2,.slice (some ⟨g8,0,none⟩) J J)] ?_)
  rintro a A ⟨t2,-⟩
  refine wp_ret ?_
  refine bodyPost_ret (results_tmp rfl _ _ _) A.2 ⟨_,?_,FO,BB⟩
  show Ending.returned (a.eval (.tmp 2))=_
  rw [t2]
set_option maxRecDepth 100000 in
set_option maxHeartbeats 4000000 in
theorem pweaveI (cf:Nat->Int) (n J:Nat) (x:Nat->Value) (ln:Nat->Nat) (gg:Nat->Nat->Int) (u0 v:Value) (V:World) (FJ:SliceI V u0 n cf) (hn17:n<=17592186044416) (hL:LLI V v J x ln gg) (hJ:J<=1000000) :
  Calls Try.prog 23 #[u0,v] V fun e w'=>∃ r,e=.returned (.tuple #[r,.int .i64 ((weE cf n ln J:Nat):Int)])/\w'.ownsRow V.heap.size 3 1 r (zl (weE cf n ln J) n) (intsL (zl (weE cf n ln J) n) (fun j=>gg (gN cf j) (cntC (gN cf) (gN cf j) j)))/\Below V.heap.size V w':=by
 have hsh:∃ ao c,v=.slice ao J c:=by obtain ⟨a_,c_,e_,_⟩:=hL.shape; exact ⟨a_,c_,e_⟩
 go_enter Try.func23,Try.ntmps23
 refine wp_seq ?_
 refine wo_ 49 [(0,u0),(1,v)] ?_
 rintro a A ⟨t0,t1,-⟩
 refine wi_ A (h2_ t0 t1) (rf_ [] (h2_ t0 t1) ?_)
 rintro a A - ⟨t0,t1,-⟩
 have BW:Below V.heap.size V V:=Below.refl _ _
 have BB:=BW
 refine wp_seq (wp_seq ?_)
 cases hst:stQ cf n (fun j=>(ln j:Int)) J with
 | false=>
  refine wi_ A (h2_ t0 t1) (rc_ 2 (plengthsI J x ln gg _ V (hL.on BB) hJ) fun e X1_1 hh=>?_)
  obtain ⟨v12,he,hk,hb⟩:=hh
  refine ⟨_,he,?_⟩
  have bQ:Below V.heap.size V X1_1:=hb
  have FT:(SliceI X1_1 v12 (J) (fun j=>(ln j:Int))):=own_ints hk (ln_fits hL)
  replace BB:=BB.trans (bQ.mono BB.size)
  clear bQ
  refine rc_ 3 (hst ▸ pstands cf (fun j=>(ln j:Int)) n J _ _ X1_1 (FJ.on BB) hn17 FT (by omega) (fun _ _=>Int.natCast_nonneg _)) (cb_ fun X1 bQ=>?_)
  replace FT:=(FT.on bQ)
  replace BB:=BB.trans (bQ.mono BB.size)
  clear bQ
  refine rv_ 4 (.bool true) (fun a e=>execNot8 (b:=false) rfl (e _)) (rf_ [(14,.bool true)] (h2_ t0 t1) ?_)
  rintro a A ⟨t14,-⟩ ⟨t0,t1,-⟩
  clear FT
  refine wp_cond_true t14 ?_
  refine wp_seq ?_
  refine wi_ A (h2_ t0 t1) (rg_ [(4,.slice none 0 0),(5,.int .i64 ((2:Nat):Int))] ?_)
  rintro a A ⟨t4,t5,-⟩
  have hE:weE cf n ln J=2:=if_neg (by rw [hst]; decide)
  rw [hE,zl_no (by decide)]
  refine wp_ret ?_
  repeat (first | with_reducible refine ret_in ?_ | with_reducible refine ret_then ?_)
  refine bodyPost_ret (results_tmp2 rfl _ _ _) A.2 ⟨_,?_,World.ownsRow_nil _ _ _ _,BB⟩
  show Ending.returned (.tuple #[a.eval (.tmp 4),a.eval (.tmp 5)])=_
  rw [t4,t5]
 | true=>
  refine wi_ A (h2_ t0 t1) (rc_ 2 (plengthsI J x ln gg _ V (hL.on BB) hJ) fun e X1_1 hh=>?_)
  obtain ⟨v12,he,hk,hb⟩:=hh
  refine ⟨_,he,?_⟩
  have bQ:Below V.heap.size V X1_1:=hb
  have FT:(SliceI X1_1 v12 (J) (fun j=>(ln j:Int))):=own_ints hk (ln_fits hL)
  replace BB:=BB.trans (bQ.mono BB.size)
  clear bQ
  refine rc_ 3 (hst ▸ pstands cf (fun j=>(ln j:Int)) n J _ _ X1_1 (FJ.on BB) hn17 FT (by omega) (fun _ _=>Int.natCast_nonneg _)) (cb_ fun X1 bQ=>?_)
  replace FT:=(FT.on bQ)
  replace BB:=BB.trans (bQ.mono BB.size)
  clear bQ
  refine rv_ 4 (.bool false) (fun a e=>execNot8 (b:=true) rfl (e _)) (rf_ [(14,.bool false)] (h2_ t0 t1) ?_)
  rintro a A ⟨t14,-⟩ ⟨t0,t1,-⟩
  clear FT
  refine wp_cond_false t14 (wp_skip ?_)
  clear t14
  have hE:weE cf n ln J=0:=if_pos hst
  rw [hE,zl_ok]
  have hpt:IsPat ln J n (gN cf):=stQ_pat hst
  refine wp_seq ?_
  obtain ⟨g17,egg17⟩:∃ z_:Nat,X1.heap.size=z_:=⟨_,rfl⟩
  refine wi_ A (h2_ t0 t1) (rv_ 1 (.int .i64 ((n:Nat):Int)) (fun a e=>execLenI (len:=n) rfl (e _) ((FJ.on BB)).shp) (rs_ 2 (fun a e=>?_)))
  refine stepV rfl rfl (execMkN rfl (e _) (e _) hn17) ⟨.slice (some ⟨g17,0,none⟩) n n,⟨_,rfl,by subst egg17; rfl⟩,fun X3 hX=>?_⟩
  have bQ:Below X1.heap.size X1 X3:=by subst hX egg17; exact (belNew X1 _)
  have FO:(X3.ownsRow V.heap.size 3 1 (.slice (some ⟨g17,0,none⟩) n n) (n) (intsL (n) (fun j=>if j < 0 then gg (gN cf j) (cntC (gN cf) (gN cf j) j) else 0))):=by subst hX egg17; exact ownD_base (own_mkZ X1 n _ hn17 (fun j_ _=>if_neg (Nat.not_lt_zero _))) (BB).size
  have Fg:(V.heap.size<=g17):=by subst hX egg17; exact (BB).size
  replace BB:=BB.trans (bQ.mono BB.size)
  clear bQ hX egg17 e a
  refine rf_ [(6,.slice (some ⟨g17,0,none⟩) n n)] (h2_ t0 t1) ?_
  rintro a A ⟨t6,-⟩ ⟨t0,t1,-⟩
  refine wp_seq ?_
  obtain ⟨g20,egg20⟩:∃ z_:Nat,X3.heap.size=z_:=⟨_,rfl⟩
  refine wi_ A (h3_ t0 t1 t6) (rv_ 1 (.int .i64 ((J:Nat):Int)) (fun a e=>execLenLI (len:=J) rfl (e _) hsh) (rs_ 2 (fun a e=>?_)))
  refine stepV rfl rfl (execMkN rfl (e _) (e _) (by omega)) ⟨.slice (some ⟨g20,0,none⟩) J J,⟨_,rfl,by subst egg20; rfl⟩,fun X4 hX=>?_⟩
  have bQ:Below X3.heap.size X3 X4:=by subst hX egg20; exact (belNew X3 _)
  have FX:(X4.ownsRow V.heap.size 3 1 (.slice (some ⟨g20,0,none⟩) J J) (J) (intsL (J) (fun j=>(cntC (gN cf) j 0:Int)))):=by subst hX egg20; exact ownD_base (own_mkZ X3 J _ (by omega) (fun _ _=>rfl)) (BB).size
  have Fh:(V.heap.size<=g20):=by subst hX egg20; exact (BB).size
  have Fne:(g17 ≠ g20):=by subst hX egg20; exact fun q=>by have:=(FO.lt g17 rfl).2; omega
  replace FO:=(ownD_below FO bQ)
  replace BB:=BB.trans (bQ.mono BB.size)
  clear bQ hX egg20 e a
  refine rf_ [(7,.slice (some ⟨g20,0,none⟩) J J)] (h3_ t0 t1 t6) ?_
  rintro a A ⟨t7,-⟩ ⟨t0,t1,t6,-⟩
  refine wp_seq (wp_seq ?_)
  refine wi_ A (h4_ t0 t1 t6 t7) (rv_ 1 (.int .i64 ((n:Nat):Int)) (fun a e=>execLenI (len:=n) rfl (e _) ((FJ.on BB)).shp) (rf_ [(21,u0),(22,.int .i64 ((n:Nat):Int)),(23,.int .i64 ((0:Nat):Int))] (h3_ t1 t6 t7) ?_))
  rintro a A ⟨t21,t22,t23,-⟩ ⟨t1,t6,t7,-⟩
  refine wp_block ?_
  refine wp_loop (fun a W=>∃ (i:Nat),i<=n/\(a.tmps.size=49/\a.defers=[])/\a.eval (.tmp 1)=v/\a.eval (.tmp 6)=.slice (some ⟨g17,0,none⟩) n n/\a.eval (.tmp 7)=.slice (some ⟨g20,0,none⟩) J J/\a.eval (.tmp 21)=u0/\a.eval (.tmp 22)=.int .i64 ((n:Nat):Int)/\a.eval (.tmp 23)=.int .i64 ((i:Nat):Int)/\Below V.heap.size V W/\(W.ownsRow V.heap.size 3 1 (.slice (some ⟨g17,0,none⟩) n n) (n) (intsL (n) (fun j=>if j < i then gg (gN cf j) (cntC (gN cf) (gN cf j) j) else 0)))/\(W.ownsRow V.heap.size 3 1 (.slice (some ⟨g20,0,none⟩) J J) (J) (intsL (J) (fun j=>(cntC (gN cf) j i:Int))))) (fun a _=>n - (intOf (a.eval (.tmp 23))).toNat) ⟨0,Nat.zero_le _,A,t1,t6,t7,t21,t22,t23,BB,FO,FX⟩ ?_
  rintro a XL6 ⟨i,hi,A,t1,t6,t7,t21,t22,t23,BB,FO,FX⟩
  have esi:=t23
  refine wp_seq ?_
  refine wi_ A (h6_ t1 t6 t7 t21 t22 t23) (rv_ 0 (.bool (decide (i < n))) (fun a e=>execLtW (p:=i) (q:=n) rfl (e _) (e _)) (rf_ [(24,.bool (decide (i < n)))] (h6_ t1 t6 t7 t21 t22 t23) ?_))
  rintro a A ⟨t24,-⟩ ⟨t1,t6,t7,t21,t22,t23,-⟩
  refine wp_seq ?_
  by_cases lti:i < n
  ·rw [decide_eq_true lti] at t24
   refine wp_cond_true t24 (wp_skip ?_)
   clear t24
   refine wp_seq (wp_block ?_)
   obtain ⟨ccb,cco,ccc,ecc,hccb,hccc⟩:=open_sl FJ (by omega)
   have ccc:∀ k,k < n->∀ X,Below V.heap.size V X->X.cell? ⟨ccb,cco+k,none⟩=some (.int .i64 ((cf) k)):=fun k hk X hX=>by rw [cell_below hX hccb]; exact hccc k hk
   obtain ⟨c,ec0⟩:∃ c:Nat,cf i=c:=⟨(cf i).toNat,by have:=((stQ_iff.1 hst).1 i lti).1; omega⟩
   have ec:gN cf i=c:=by show (cf i).toNat=c; omega
   have hcJ:c < J:=by rw [← ec]; exact hpt.lt i lti
   obtain ⟨q_,eq⟩:∃ q_,cntC (gN cf) c i=q_:=⟨_,rfl⟩
   have hq:q_ < ln c:=by have h_:=hpt.vis lti; rw [ec,eq] at h_; exact h_
   have hqn:=cnt_le (gN cf) c i
   rw [eq] at hqn
   obtain ⟨vb,vo,vc,ev,hvb,hvc⟩:=hL.at (show 0 < J by omega)
   have cV:∀ X,Below V.heap.size V X->X.cell? ⟨vb,vo+c,none⟩=some (x c):=fun X hX=>by rw [cell_below hX hvb]; exact hvc c hcJ
   obtain ⟨xb,xo,xc,ex,hxb,hxc⟩:=open_sl (hL.lists c hcJ) (show 0 < ln c by omega)
   have cX:∀ X,Below V.heap.size V X->X.cell? ⟨xb,xo+q_,none⟩=some (.int .i64 (gg c q_)):=fun X hX=>by rw [cell_below hX hxb]; exact hxc q_ hq
   refine wp_seq ?_
   refine wi_ A (h6_ t1 t6 t7 t21 t22 t23) (rv_ 1 (.pointer (some ⟨ccb,cco+i,none⟩)) (fun a e=>execIdxN (k:=i) rfl ((e _).trans ecc) (e _) lti) (rv_ 2 (.int .i64 ((c:Nat):Int)) (fun a e=>execLd3 rfl (e _) ((ccc i lti XL6 BB).trans (by rw [ec0]))) (rf_ [(8,.int .i64 ((i:Nat):Int)),(9,.int .i64 ((c:Nat):Int))] (h6_ t1 t6 t7 t21 t22 t23) ?_)))
   rintro a A ⟨t8,t9,-⟩ ⟨t1,t6,t7,t21,t22,t23,-⟩
   refine wp_seq ?_
   refine wj_ [0,1,2,3,4,5,6,7,8,9,10,11,12,13] [13] [5,9,11] [13] A (h8_ t1 t6 t7 t21 t22 t23 t8 t9) (fun X8_0 bD=>?_)
   refine dw_ 4 (.pointer (some ⟨vb,vo+c,none⟩)) (fun a X e=>execIdxLI (k:=c) rfl ((e _).trans ev) (e _) hcJ) (dv_ 5 (x c) (fun a X e hb=>execLdLI (v:=x c) rfl (e _) (cV X (BB.trans (hb.mono BB.size)))) (dw_ 8 (.pointer (some ⟨g20,0+c,none⟩)) (fun a X e=>execIdxN (k:=c) rfl (e _) (e _) hcJ) (dv_ 9 (.int .i64 ((q_:Nat):Int)) (fun a X e hb=>execLd3 rfl (e _) ((own_cellI (ownD_below FX hb) hcJ).1.trans (by rw [eq]))) (dw_ 10 (.pointer (some ⟨xb,xo+q_,none⟩)) (fun a X e=>execIdxN (k:=q_) rfl ((e _).trans ex) (e _) hq) (dv_ 11 (.int .i64 (gg c q_)) (fun a X e hb=>execLd3 rfl (e _) (cX X (BB.trans (hb.mono BB.size)))) (dw_ 12 (.pointer (some ⟨g17,0+i,none⟩)) (fun a X e=>execIdxN (k:=i) rfl (e _) (e _) lti) (ds_ 13 (fun a e=>?_))))))))
   obtain ⟨hc_,hf_⟩:=own_cellI (ownD_below FO bD) lti
   refine stepS rfl rfl (execStI9 rfl (e _) (e _) hc_ hf_) ⟨_,⟨_,rfl,rfl⟩,fun X8 hX=>?_⟩
   obtain ⟨BB,FX,FO2⟩:Below V.heap.size V X8/\(X8.ownsRow V.heap.size 3 1 (.slice (some ⟨g20,0,none⟩) J J) (J) (intsL (J) (fun j=>(cntC (gN cf) j i:Int))))/\(X8.ownsRow V.heap.size 3 1 (.slice (some ⟨g17,0,none⟩) n n) (n) (intsL (n) (fun j=>if j < (i+1) then gg (gN cf j) (cntC (gN cf) (gN cf j) j) else 0))):=by subst hX; exact ⟨((BB.trans (bD.mono BB.size))).setCell Fg _,(own_offB (ownD_below FX bD) (fun z=>Fne (Option.some.inj z).symm)),own_fill (F:=fun j=>gg (gN cf j) (cntC (gN cf) (gN cf j) j)) (ownD_below FO bD) (by show _=gg (gN cf i) (cntC (gN cf) (gN cf i) i); rw [ec,eq])⟩
   clear bD FO hX e a
   refine ⟨Or.inl rfl,?_⟩
   refine dz_ [] (h7_ t1 t6 t7 t21 t22 t23 t9) ?_
   rintro a A - ⟨t1,t6,t7,t21,t22,t23,t9,-⟩
   refine wi_ A (h7_ t1 t6 t7 t21 t22 t23 t9) (rv_ 2 (.pointer (some ⟨g20,0+c,none⟩)) (fun a e=>execIdxN (k:=c) rfl (e _) (e _) hcJ) (rv_ 3 (.int .i64 ((q_:Nat):Int)) (fun a e=>execLd3 rfl (e _) ((own_cellI FX hcJ).1.trans (by rw [eq]))) (rv_ 4 (.int .i64 ((q_+1:Nat):Int)) (fun a e=>execAd8 (p:=q_) (q:=1) rfl (e _) rfl (by omega)) (rv_ 5 (.pointer (some ⟨g20,0+c,none⟩)) (fun a e=>execIdxN (k:=c) rfl (e _) (e _) hcJ) (rs_ 6 (fun a e=>?_))))))
   obtain ⟨hc_,hf_⟩:=own_cellI FX hcJ
   refine stepS rfl rfl (execStI9 rfl (e _) (e _) hc_ hf_) ⟨_,⟨_,rfl,rfl⟩,fun X9 hX=>?_⟩
   obtain ⟨BB,FO2,FX2⟩:Below V.heap.size V X9/\(X9.ownsRow V.heap.size 3 1 (.slice (some ⟨g17,0,none⟩) n n) (n) (intsL (n) (fun j=>if j < (i+1) then gg (gN cf j) (cntC (gN cf) (gN cf j) j) else 0)))/\(X9.ownsRow V.heap.size 3 1 (.slice (some ⟨g20,0,none⟩) J J) (J) (intsL (J) (fun j=>(cntC (gN cf) j (i+1):Int)))):=by subst hX; exact ⟨(BB).setCell Fh _,(own_offB FO2 (fun z=>Fne (Option.some.inj z))),nx_set FX ec eq⟩
   clear FX hX e a
   refine rf_ [] (h6_ t1 t6 t7 t21 t22 t23) ?_
   rintro a A - ⟨t1,t6,t7,t21,t22,t23,-⟩
   refine wi_ A (h6_ t1 t6 t7 t21 t22 t23) (rv_ 0 (.int .i64 ((i+1:Nat):Int)) (fun a e=>execAd8 (p:=i) (q:=1) rfl (e _) rfl (by omega)) (rf_ [(23,.int .i64 ((i+1:Nat):Int))] (h5_ t1 t6 t7 t21 t22) ?_))
   rintro a A ⟨t23,-⟩ ⟨t1,t6,t7,t21,t22,-⟩
   exact ⟨⟨i+1,lti,A,t1,t6,t7,t21,t22,t23,BB,FO2,FX2⟩,by show n - (intOf (a.eval (.tmp 23))).toNat < n - (intOf (Act.eval _ (.tmp 23))).toNat; rw [t23,esi]; show n - (i+1) < n - i; omega⟩
  ·rw [decide_eq_false lti] at t24
   refine wp_cond_false t24 ?_
   refine wp_exit ?_
   first | with_reducible refine exit_in ?_ | with_reducible refine exit_then (exit_in ?_) | with_reducible refine exit_then (exit_then (exit_in ?_)) | refine exit_in ?_ | refine exit_then (exit_in ?_) | refine exit_then (exit_then (exit_in ?_))
   clear t24 esi
   have hin:i=n:=by omega
   rw [hin,intsL_congr (g:=fun j=>gg (gN cf j) (cntC (gN cf) (gN cf j) j)) (fun j hj=>if_pos hj)] at FO
   clear t1 t7 t21 t22 t23 FX
   refine wp_seq ?_
   refine wi_ A (h1_ t6) (rg_ [(4,.slice (some ⟨g17,0,none⟩) n n),(5,.int .i64 ((0:Nat):Int))] ?_)
   rintro a A ⟨t4,t5,-⟩
   refine wp_ret ?_
   refine bodyPost_ret (results_tmp2 rfl _ _ _) A.2 ⟨_,?_,FO,BB⟩
   show Ending.returned (.tuple #[a.eval (.tmp 4),a.eval (.tmp 5)])=_
   rw [t4,t5]
end Go.Proofs.Ytmjpneaccjlpkaa.Brd

namespace Go.Proofs.Ytmjpneaccjlpkaa.Brd
open Go.RowKit Gf8 Aes By8 Cel Cf Tap Drw Prm
/- Stage 12's BraidDeals. Written by tools/mkQ9x.py. -/
section
variable {o:Oper} {a:Act} {w:World}
theorem execLeIt {x y:Operand} {p q:Int} (ho:o.op=.binOp .leq 3 x y 3) (hx:a.eval x=.int .i64 p) (hy:a.eval y=.int .i64 q) (h:p<=q):(execOp a.eval o).run Try.prog w=.ok (.value (.bool true)) w:=by
 unfold execOp
 simp only [ho,hx,hy]
 simp [go_sem]
 omega
theorem execLeIf {x y:Operand} {p q:Int} (ho:o.op=.binOp .leq 3 x y 3) (hx:a.eval x=.int .i64 p) (hy:a.eval y=.int .i64 q) (h:¬ p<=q):(execOp a.eval o).run Try.prog w=.ok (.value (.bool false)) w:=by
 unfold execOp
 simp only [ho,hx,hy]
 simp [go_sem]
 omega
end
theorem lli_of {W:World} {B C D:Nat} {p:Value} {x:Nat->Value} {nn:Nat->Nat} {gg:Nat->Nat->Int} (hm:FmI B D x nn gg W) (hp:W.ownsRow C 24 1 p D (lL x D)) (hf:∀ t,t < D->∀ v,v < nn t->-9223372036854775808<=gg t v/\gg t v < 9223372036854775808):LLI W p D x nn gg:=by
 refine ⟨?_,fun j hj=>own_ints (hm.rows j hj) (hf j hj)⟩
 obtain ⟨a,c,e⟩:=shpO hp
 refine ⟨a,c,e,fun h0=>?_⟩
 obtain ⟨g,c',e2,_,hg⟩:=ownL_some9 hp h0
 rw [e] at e2
 injection e2 with q1 _ q3
 refine ⟨g,0,q1,hg,fun j hj=>?_⟩
 rw [e,q1] at hp
 exact ownL_cellI hp hj
end Go.Proofs.Ytmjpneaccjlpkaa.Brd
