import Derived.Test.YtmjpneaccjlpkaaF9c
import Derived.Test.YtmjpneaccjlpkaaF9b
import Derived.Test.YtmjpneaccjlpkaaV9r
namespace Go.Proofs.Ytmjpneaccjlpkaa.Tap
open Go.RowKit Gf8 Aes By8 Cel Cf
/- The program's Split. Written by tools/mkV9s.py. -/
theorem size_pt (n b c:Value):(Try.prog.info? 55).map (·.size)=some (ptC n b c).size:=by
 show _=some 3
 kernel_rfl
section
variable {o:Oper} {a:Act} {w:World}
theorem execBldPt {x y z:Operand} {n b c:Value} (ho:o.op=.build 55 #[(0,x),(1,y),(2,z)]) (hx:a.eval x=n) (hy:a.eval y=b) (hz:a.eval z=c) (sn:∃ g l k,n=.slice g l k) (sb:∃ g l k,b=.slice g l k) (sc:∃ g l k,c=.slice g l k):(execOp a.eval o).run Try.prog w=.ok (.value (.agg (ptC n b c))) w:=by
 obtain ⟨_,_,_,rfl⟩:=sn
 obtain ⟨_,_,_,rfl⟩:=sb
 obtain ⟨_,_,_,rfl⟩:=sc
 unfold execOp
 simp only [ho,List.map_toArray,List.map_cons,List.map_nil,hx,hy,hz]
 simp [go_sem,ptC]
theorem execAllPt (ho:o.op=.alloc 55):(execOp a.eval o).run Try.prog w=.ok (.value (.pointer (some ⟨w.heap.size,0,none⟩))) (w.alloc (.cells (ptC (.slice none 0 0) (.slice none 0 0) (.slice none 0 0)) 55)):=by
 unfold execOp
 simp only [ho]
 simp [go_sem,ptC]
theorem execStPt {x y:Operand} {g:Nat} {n b c:Value} {cur:Array Value} {t:TypeId} (ho:o.op=.store 55 x y) (hx:a.eval x=.pointer (some ⟨g,0,none⟩)) (hy:a.eval y=.agg (ptC n b c)) (hg:w.heap[g]?=some (.cells cur t)) (hs:cur.size=3) (h1:(ptC n b c).all (·.oneCell')=true) :
  (execOp a.eval o).run Try.prog w=.ok .skip (w.setRow g (ptC n b c)):=by
 have h:=execStMid (P:=Try.prog) ho hx hy hg (by rw [hs]; exact Nat.le_refl _) (size_pt _ _ _) h1
 have e:(cur.toList.take 0 ++ (ptC n b c).toList ++ cur.toList.drop (0+(ptC n b c).size)).toArray=ptC n b c:=by
  rw [List.take_zero,List.nil_append,Nat.zero_add,List.drop_of_length_le (by rw [Array.length_toList,hs]; exact Nat.le_refl _),List.append_nil]
 rw [e] at h
 exact h
end
theorem pt_one {n b c:Value} (hn:∃ g l k,n=.slice g l k) (hb:∃ g l k,b=.slice g l k) (hc:∃ g l k,c=.slice g l k):(ptC n b c).all (·.oneCell')=true:=by
 obtain ⟨_,_,_,rfl⟩:=hn
 obtain ⟨_,_,_,rfl⟩:=hb
 obtain ⟨_,_,_,rfl⟩:=hc
 simp [ptC,Value.oneCell']
section
variable {W:World} {B n:Nat} {nv bv cv:Value} {x:Nat->Value} {ln lb lq:Nat} {f:Nat->Nat}
theorem PtS.rowN (h:PtS W B n nv bv cv x ln lb lq f):W.ownsRow B 5 1 nv ln (bytesL ln f):=h.fam.rows 0 (by omega)
theorem PtS.rowB (h:PtS W B n nv bv cv x ln lb lq f):W.ownsRow B 5 1 bv lb (bytesL lb fun j=>f (ln+j)):=h.fam.rows 1 (by omega)
theorem PtS.rowC (h:PtS W B n nv bv cv x ln lb lq f) (i:Nat) (hi:i < n):W.ownsRow B 5 1 (x i) lq (bytesL lq fun j=>f (ln+lb+i * lq+j)):=by
 have:=h.fam.rows (2+i) (by omega)
 unfold ptX ptN ptF at this
 simp only [if_neg (show ¬ 2+i=0 by omega),if_neg (show ¬ 2+i=1 by omega),Nat.add_sub_cancel_left] at this
 exact this
theorem shp3 {C m s:Nat} {t:TypeId} {v:Value} {xs:List Value} (h:W.ownsRow C t s v m xs):∃ g l k,v=.slice g l k:=by
 obtain ⟨g,c,e⟩:=ownQ_shape h
 exact ⟨g,_,c,e⟩
theorem pts_one (h:PtS W B n nv bv cv x ln lb lq f):(ptC nv bv cv).all (·.oneCell')=true:=pt_one (shp3 h.rowN) (shp3 h.rowB) (shp3 h.own)
theorem own_setR {C m s g:Nat} {t u:TypeId} {v:Value} {xs:List Value} {cur c:Array Value} (h:W.ownsRow C t s v m xs) (hg:W.heap[g]?=some (.cells cur u)) (ht:u ≠ t):(W.setRow g c).ownsRow C t s v m xs:=by
 refine ⟨h.1,?_⟩
 rcases h.2 with h | ⟨g1,cap,cu,e,hB,h1,hr⟩
 ·exact Or.inl h
 ·refine Or.inr ⟨g1,cap,cu,e,hB,?_,hr⟩
  rw [setRow_other _ _ _ _ (fun q=>?_)]
  ·exact h1
  ·subst q
   rw [h1] at hg
   injection hg with hg
   injection hg with _ hg _
   exact ht hg.symm
theorem PtS.set {g:Nat} {cur c:Array Value} {t:TypeId} (h:PtS W B n nv bv cv x ln lb lq f) (hg:W.heap[g]?=some (.cells cur t)) (h5:t ≠ 5) (hL:t ≠ 23):PtS (W.setRow g c) B n nv bv cv x ln lb lq f:=
 ⟨own_setR h.own hg hL,⟨fun t ht=>own_setR (h.fam.rows t ht) hg h5,h.fam.dis⟩⟩
end
theorem fam_pt {W W':World} {B n ln lb lq:Nat} {nv bv:Value} {x:Nat->Value} {f:Nat->Nat} {gg:Nat->Nat->Nat} (h:Fam B (0+1+1) (updX (updX (fun _=>undef) 0 nv) (0+1) bv) (ptN ln lb lq) (ptF f ln lb lq) W) (hb:Below W.heap.size W W') (hg:Fam W.heap.size n x (fun _=>lq) gg W') (hB:B<=W.heap.size) (e:∀ i j,gg i j=f (ln+lb+i * lq+j)) :
  Fam B (2+n) (ptX nv bv x) (ptN ln lb lq) (ptF f ln lb lq) W':=by
 have h2:=fam_cat (h.on hb) hg (fun t ht q hq=>((h.rows t ht).lt q hq).2) hB
 refine ⟨fun t ht=>?_,fun s t hs ht hst=>?_⟩
 ·have:=h2.rows t ht
  by_cases e0:t < 0+1+1
  ·simp only [if_pos e0] at this
   have e1:t=0\/t=1:=by omega
   rcases e1 with rfl | rfl <;> exact this
  ·simp only [if_neg e0] at this
   have ex:ptX nv bv x t=x (t - 2):=by unfold ptX; rw [if_neg (by omega),if_neg (by omega)]
   have en:ptN ln lb lq t=lq:=by unfold ptN; rw [if_neg (by omega),if_neg (by omega)]
   rw [ex,en,bytesL_congr (f:=ptF f ln lb lq t) (g:=gg (t - 2)) (fun j _=>by unfold ptF; rw [if_neg (by omega),if_neg (by omega),e])]
   exact this
 ·have:=h2.dis s t hs ht hst
  have ex:∀ t,(if t < 0+1+1 then updX (updX (fun _=>undef) 0 nv) (0+1) bv t else x (t - (0+1+1)))=ptX nv bv x t:=fun t=>by
   unfold ptX updX
   by_cases e0:t=0
   ·subst e0; simp
   ·by_cases e1:t=1
    ·subst e1; simp
    ·rw [if_neg (by omega),if_neg e0,if_neg e1]
  rw [ex,ex] at this
  exact this
set_option maxRecDepth 100000 in
set_option maxHeartbeats 4000000 in
theorem split_ok (f:Nat->Nat) (len n:Nat) (v:Value) (V:World) (hv:SliceN V v len f) (hl:len<=140737488351232) (hn0:0 < n) (hn:n<=64) (h18:18<=len) (H q:Nat) (eH:(len - 18) / 2=H) (eq:(len - 18 - H) / n=q) :
  Calls Try.prog 20 #[v,.int .i64 (n:Int)] V fun e w'=>∃ nv bv cv x,e=.returned (.tuple #[.agg (ptC nv bv cv),.int .i64 ((0:Nat):Int)])/\PtS w' V.heap.size n nv bv cv x 18 H q f/\Below V.heap.size V w':=by
 obtain ⟨R,hR⟩:∃ R,len - 18=R:=⟨_,rfl⟩
 rw [hR] at eH eq
 have hH:R / 2=H:=eH
 have hq:(R - H) / n=q:=eq
 have hHR:H<=R:=by omega
 obtain ⟨ao,cap,rfl,hcl,_⟩:=id hv.shape
 obtain ⟨nz,enz⟩:∃ nz,sliced ao 0 18 cap 1=nz:=⟨_,rfl⟩
 have hnz:SliceN V nz 18 f:=by
  have:=hv.sub 0 18 (by omega) (by omega)
  rw [enz] at this
  exact sliceN_cg this fun j _=>by rw [Nat.zero_add]
 have hrz:=hv.sub 18 len (by omega) (Nat.le_refl _)
 rw [hR] at hrz
 obtain ⟨ra,rc,hrs,hrc,_⟩:=id hrz.shape
 rw [hrs] at hrz
 obtain ⟨bz,ebz⟩:∃ bz,sliced ra 0 H rc 1=bz:=⟨_,rfl⟩
 have hbz:SliceN V bz H (fun j=>f (18+j)):=by
  have:=hrz.sub 0 H (by omega) (by omega)
  rw [ebz] at this
  exact sliceN_cg this fun j _=>by rw [Nat.zero_add]
 obtain ⟨cz,ecz⟩:∃ cz,sliced ra H R rc 1=cz:=⟨_,rfl⟩
 have hcz:SliceN V cz (R - H) (fun j=>f (18+(H+j))):=by
  have:=hrz.sub H R (by omega) (by omega)
  rw [ecz] at this
  exact this
 obtain ⟨V1,hV1⟩:∃ V1,V1=V.alloc (.cells (ptC (.slice none 0 0) (.slice none 0 0) (.slice none 0 0)) 55):=⟨_,rfl⟩
 have F4:V1.heap[V.heap.size]?=some (.cells (ptC (.slice none 0 0) (.slice none 0 0) (.slice none 0 0)) 55):=by rw [hV1]; exact heapNew V _
 have BB:Below V.heap.size V V1:=by rw [hV1]; exact belNew V _
 go_enter Try.func20,Try.ntmps20
 refine wp_seq ?_
 refine wp_region_sqW 39 [(0,4),(1,5)] (fun i_=>match i_ with | 0=>.pointer (some ⟨V.heap.size,0,none⟩) | 1=>.int .i64 0 | _=>undef) (fun i_=>match i_ with | 0=>V | _=>V1) rfl (by kernel_rfl) (by decide) (by decide) ?_ ?_
 ·intro i_ hi_ a hf hv hn
  match i_,hi_ with
  | 0,_=>exact stepV rfl rfl (by rw [hV1]; exact execAllPt rfl) ⟨⟨_,rfl,rfl⟩,rfl⟩
  | 1,_=>exact stepV rfl rfl (execAsgB rfl rfl) ⟨⟨_,rfl,rfl⟩,rfl⟩
  | k_+2,h_=>exact absurd h_ (by simp)
 intro a h1 h2 h3 h4
 have t0:a.eval (.tmp 0)=.slice ao len cap:=(h3 0 (by decide)).trans rfl
 have t1:a.eval (.tmp 1)=.int .i64 ((n:Nat):Int):=(h3 1 (by decide)).trans rfl
 have t4:a.eval (.tmp 4)=.pointer (some ⟨V.heap.size,0,none⟩):=h4 0 _ rfl _ rfl
 have A:a.tmps.size=39/\a.defers=[]:=⟨h1,h2⟩
 clear h1 h2 h3 h4
 refine wp_seq (wp_seq ?_)
 refine wi_ A (h3_ t0 t1 t4) (rv_ 1 (.bool false) (fun a e=>execDec (execLtW (p:=n) (q:=1) rfl (e _) rfl) (decide_eq_false (by omega))) (rv_ 4 (.bool false) (fun a e=>execDec (execGtN (p:=n) (q:=64) rfl (e _) rfl) (decide_eq_false (by omega))) (rf_ [(14,.bool false)] (h3_ t0 t1 t4) ?_)))
 rintro a A ⟨t14,-⟩ ⟨t0,t1,t4,-⟩
 refine wp_cond_false t14 (wp_skip ?_)
 clear t14
 refine wp_seq (wp_seq ?_)
 refine wi_ A (h3_ t0 t1 t4) (rv_ 1 (.int .i64 ((len:Nat):Int)) (fun a e=>execLenV (len:=len) rfl (e _) ⟨_,_,rfl⟩) (rv_ 2 (.bool false) (fun a e=>execDec (execLtW (p:=len) (q:=18) rfl (e _) rfl) (decide_eq_false (by omega))) (rf_ [(18,.bool false)] (h3_ t0 t1 t4) ?_)))
 rintro a A ⟨t18,-⟩ ⟨t0,t1,t4,-⟩
 refine wp_cond_false t18 (wp_skip ?_)
 clear t18
 refine wp_seq ?_
 refine wj_ [0,1,2,3,4,5] [] [] [] A (h3_ t0 t1 t4) (fun X5 bD=>?_)
 refine dw_ 1 (nz) (fun a X e=>enz ▸ By8.execSlH rfl (e _) rfl (By8.slice_h ao len cap 18 (by omega) X)) (dw_ 3 (.slice ra R rc) (fun a X e=>hrs ▸ By8.execSlL rfl (e _) rfl (By8.slice_l ao len cap 18 (by omega) X)) (dz_ [(6,nz),(7,.slice ra R rc)] (h3_ t0 t1 t4) ?_))
 rintro a A ⟨t6,t7,-⟩ ⟨t0,t1,t4,-⟩
 replace F4:=(on9 F4 bD)
 replace BB:=BB.trans (bD.mono BB.size)
 clear bD
 refine wp_seq ?_
 refine wi_ A (h5_ t0 t1 t4 t6 t7) (rv_ 1 (.int .i64 ((R:Nat):Int)) (fun a e=>execLenV (len:=R) rfl (e _) ⟨_,_,rfl⟩) (rv_ 2 (.int .i64 ((H:Nat):Int)) (fun a e=>hH ▸ execQuoN (p:=R) (q:=2) rfl (e _) rfl (by omega) (by omega)) (rf_ [(8,.int .i64 ((H:Nat):Int))] (h5_ t0 t1 t4 t6 t7) ?_)))
 rintro a A ⟨t8,-⟩ ⟨t0,t1,t4,t6,t7,-⟩
 refine wp_seq ?_
 refine wp_region_stB (σ:=Value × Value × Value × (Nat->Value)) 39 [(0,27),(1,28),(2,29),(3,30),(4,31),(5,32),(6,33),(7,34),(8,35),(9,36),(10,37),(11,38),(13,5)] (fun l_ s X=>Below V.heap.size V X/\(l_ 12=false->X.heap[V.heap.size]?=some (.cells (ptC (.slice none 0 0) (.slice none 0 0) (.slice none 0 0)) 55))/\(l_ 1=true->l_ 5=false->(Fam V.heap.size (0+1) (updX (fun _=>undef) 0 s.1) (ptN 18 H q) (ptF f 18 H q) X))/\(l_ 5=true->l_ 10=false->(Fam V.heap.size (0+1+1) (updX (updX (fun _=>undef) 0 s.1) (0+1) s.2.1) (ptN 18 H q) (ptF f 18 H q) X))/\(l_ 10=true->(PtS X V.heap.size n s.1 s.2.1 s.2.2.1 s.2.2.2 18 H q f))/\(l_ 12=true->X.heap[V.heap.size]?=some (.cells (ptC s.1 s.2.1 s.2.2.1) 55))) (fun s=>fun i_=>match i_ with | 0=>nz | 1=>s.1 | 2=>.slice ra R rc | 3=>.int .i64 ((H:Nat):Int) | 4=>bz | 5=>s.2.1 | 6=>.slice ra R rc | 7=>.int .i64 ((H:Nat):Int) | 8=>cz | 9=>.int .i64 ((n:Nat):Int) | 10=>s.2.2.1 | 11=>.agg (ptC s.1 s.2.1 s.2.2.1) | 12=>undef | 13=>.int .i64 ((0:Nat):Int) | _=>undef) (undef,undef,undef,fun _=>undef) (by kernel_rfl) (by kernel_rfl) A.1 (by kernel_rfl) (by decide) (by decide) ⟨(BB.drew),(fun _=>(on9 F4 (Below.refl _ _).drew)),(fun q0_ q1_=>by cases q0_),(fun q0_ q1_=>by cases q0_),(fun q0_=>by cases q0_),(fun q0_=>by cases q0_)⟩ ?_ ?_
 ·intro i_ hi_ l_ s a X hl_ hf hdep hl2 hcl hno hT
  have up:∀ j x,x ≠ j->updB l_ j x=l_ x:=fun j x hj=>by unfold updB; simp [hj]
  match i_,hi_ with
  | 0,_=>exact stepV rfl rfl (execMvB rfl ((hf 6 (by decide)).trans t6)) ⟨s,⟨_,rfl,rfl⟩,⟨hT.1,(fun q0_=>(hT.2.1 (by rw [up 0 12 (by decide)] at q0_; exact q0_))),(fun q0_ q1_=>absurd (hl_.symm.trans (hcl 1 _ rfl ((up 0 1 (by decide)).symm.trans q0_) 0 rfl)) (by decide)),(fun q0_ q1_=>absurd (hl_.symm.trans (hcl 1 _ rfl (hcl 5 _ rfl ((up 0 5 (by decide)).symm.trans q0_) 1 rfl) 0 rfl)) (by decide)),(fun q0_=>absurd (hl_.symm.trans (hcl 1 _ rfl (hcl 5 _ rfl (hcl 10 _ rfl ((up 0 10 (by decide)).symm.trans q0_) 5 rfl) 1 rfl) 0 rfl)) (by decide)),(fun q0_=>absurd (hl_.symm.trans (hcl 12 _ rfl ((up 0 12 (by decide)).symm.trans q0_) 0 rfl)) (by decide))⟩,fun _ _ _=>rfl⟩
  | 1,_=>
   refine stepC rfl rfl (execCall1 Try.func39 (by kernel_rfl) (by kernel_rfl) rfl (hdep _ rfl 0 rfl _ rfl _ rfl)) (clone9 (f) 18 _ X (hnz.on hT.1) (by omega)) fun e w' hh=>?_
   obtain ⟨r_,he,hown,hb⟩:=hh
   refine ⟨_,he,(r_,s.2.1,s.2.2.1,s.2.2.2),⟨_,rfl,rfl⟩,⟨hT.1.trans ((hb).mono hT.1.size),(fun q0_=>(on9 (hT.2.1 (by rw [up 1 12 (by decide)] at q0_; exact q0_)) hb)),(fun _q0_ _q1_=>(Fam.none _ _ _ _ _:Fam V.heap.size 0 (fun _=>undef) (ptN 18 H q) (ptF f 18 H q) X).add hb (hT.1).size hown),(fun q0_ q1_=>absurd (hl_.symm.trans (hcl 5 _ rfl ((up 1 5 (by decide)).symm.trans q0_) 1 rfl)) (by decide)),(fun q0_=>absurd (hl_.symm.trans (hcl 5 _ rfl (hcl 10 _ rfl ((up 1 10 (by decide)).symm.trans q0_) 5 rfl) 1 rfl)) (by decide)),(fun q0_=>absurd (hl_.symm.trans (hcl 12 _ rfl ((up 1 12 (by decide)).symm.trans q0_) 1 rfl)) (by decide))⟩,fun i hi hli=>?_⟩
   match i,hi with
   | 0,_=>rfl
   | 1,_=>exact absurd (hl_.symm.trans hli) (by decide)
   | 2,_=>rfl
   | 3,_=>rfl
   | 4,_=>rfl
   | 5,_=>rfl
   | 6,_=>rfl
   | 7,_=>rfl
   | 8,_=>rfl
   | 9,_=>rfl
   | 10,_=>rfl
   | 11,_=>exact absurd (hl_.symm.trans (hcl 11 _ rfl hli 1 rfl)) (by decide)
   | 12,_=>rfl
   | 13,_=>rfl
   | k_+14,h_=>exact absurd h_ (by simp)
  | 2,_=>exact stepV rfl rfl (execMvB rfl ((hf 7 (by decide)).trans t7)) ⟨s,⟨_,rfl,rfl⟩,⟨hT.1,(fun q0_=>(hT.2.1 (by rw [up 2 12 (by decide)] at q0_; exact q0_))),(fun q0_ q1_=>(hT.2.2.1 (by rw [up 2 1 (by decide)] at q0_; exact q0_) (by rw [up 2 5 (by decide)] at q1_; exact q1_))),(fun q0_ q1_=>absurd (hl_.symm.trans (hcl 4 _ rfl (hcl 5 _ rfl ((up 2 5 (by decide)).symm.trans q0_) 4 rfl) 2 rfl)) (by decide)),(fun q0_=>absurd (hl_.symm.trans (hcl 4 _ rfl (hcl 5 _ rfl (hcl 10 _ rfl ((up 2 10 (by decide)).symm.trans q0_) 5 rfl) 4 rfl) 2 rfl)) (by decide)),(fun q0_=>absurd (hl_.symm.trans (hcl 12 _ rfl ((up 2 12 (by decide)).symm.trans q0_) 2 rfl)) (by decide))⟩,fun _ _ _=>rfl⟩
  | 3,_=>exact stepV rfl rfl (execMvB rfl ((hf 8 (by decide)).trans t8)) ⟨s,⟨_,rfl,rfl⟩,⟨hT.1,(fun q0_=>(hT.2.1 (by rw [up 3 12 (by decide)] at q0_; exact q0_))),(fun q0_ q1_=>(hT.2.2.1 (by rw [up 3 1 (by decide)] at q0_; exact q0_) (by rw [up 3 5 (by decide)] at q1_; exact q1_))),(fun q0_ q1_=>absurd (hl_.symm.trans (hcl 4 _ rfl (hcl 5 _ rfl ((up 3 5 (by decide)).symm.trans q0_) 4 rfl) 3 rfl)) (by decide)),(fun q0_=>absurd (hl_.symm.trans (hcl 4 _ rfl (hcl 5 _ rfl (hcl 10 _ rfl ((up 3 10 (by decide)).symm.trans q0_) 5 rfl) 4 rfl) 3 rfl)) (by decide)),(fun q0_=>absurd (hl_.symm.trans (hcl 12 _ rfl ((up 3 12 (by decide)).symm.trans q0_) 3 rfl)) (by decide))⟩,fun _ _ _=>rfl⟩
  | 4,_=>exact stepV rfl rfl (ebz ▸ By8.execSlH rfl (hdep _ rfl 2 rfl _ rfl _ rfl) (hdep _ rfl 3 rfl _ rfl _ rfl) (By8.slice_h ra R rc H (by omega) X)) ⟨s,⟨_,rfl,rfl⟩,⟨hT.1,(fun q0_=>(hT.2.1 (by rw [up 4 12 (by decide)] at q0_; exact q0_))),(fun q0_ q1_=>(hT.2.2.1 (by rw [up 4 1 (by decide)] at q0_; exact q0_) (by rw [up 4 5 (by decide)] at q1_; exact q1_))),(fun q0_ q1_=>absurd (hl_.symm.trans (hcl 5 _ rfl ((up 4 5 (by decide)).symm.trans q0_) 4 rfl)) (by decide)),(fun q0_=>absurd (hl_.symm.trans (hcl 5 _ rfl (hcl 10 _ rfl ((up 4 10 (by decide)).symm.trans q0_) 5 rfl) 4 rfl)) (by decide)),(fun q0_=>absurd (hl_.symm.trans (hcl 12 _ rfl ((up 4 12 (by decide)).symm.trans q0_) 4 rfl)) (by decide))⟩,fun _ _ _=>rfl⟩
  | 5,_=>
   refine stepC rfl rfl (execCall1 Try.func39 (by kernel_rfl) (by kernel_rfl) rfl (hdep _ rfl 4 rfl _ rfl _ rfl)) (clone9 (fun j=>f (18+j)) H _ X (hbz.on hT.1) (by omega)) fun e w' hh=>?_
   obtain ⟨r_,he,hown,hb⟩:=hh
   refine ⟨_,he,(s.1,r_,s.2.2.1,s.2.2.2),⟨_,rfl,rfl⟩,⟨hT.1.trans ((hb).mono hT.1.size),(fun q0_=>(on9 (hT.2.1 (by rw [up 5 12 (by decide)] at q0_; exact q0_)) hb)),(fun q0_ q1_=>absurd q1_ (by unfold updB; simp)),(fun _q0_ _q1_=>(hT.2.2.1 (hl2 _ rfl 1 rfl) hl_).add hb (hT.1).size hown),(fun q0_=>absurd (hl_.symm.trans (hcl 10 _ rfl ((up 5 10 (by decide)).symm.trans q0_) 5 rfl)) (by decide)),(fun q0_=>absurd (hl_.symm.trans (hcl 12 _ rfl ((up 5 12 (by decide)).symm.trans q0_) 5 rfl)) (by decide))⟩,fun i hi hli=>?_⟩
   match i,hi with
   | 0,_=>rfl
   | 1,_=>rfl
   | 2,_=>rfl
   | 3,_=>rfl
   | 4,_=>rfl
   | 5,_=>exact absurd (hl_.symm.trans hli) (by decide)
   | 6,_=>rfl
   | 7,_=>rfl
   | 8,_=>rfl
   | 9,_=>rfl
   | 10,_=>rfl
   | 11,_=>exact absurd (hl_.symm.trans (hcl 11 _ rfl hli 5 rfl)) (by decide)
   | 12,_=>rfl
   | 13,_=>rfl
   | k_+14,h_=>exact absurd h_ (by simp)
  | 6,_=>exact stepV rfl rfl (execMvB rfl ((hf 7 (by decide)).trans t7)) ⟨s,⟨_,rfl,rfl⟩,⟨hT.1,(fun q0_=>(hT.2.1 (by rw [up 6 12 (by decide)] at q0_; exact q0_))),(fun q0_ q1_=>(hT.2.2.1 (by rw [up 6 1 (by decide)] at q0_; exact q0_) (by rw [up 6 5 (by decide)] at q1_; exact q1_))),(fun q0_ q1_=>(hT.2.2.2.1 (by rw [up 6 5 (by decide)] at q0_; exact q0_) (by rw [up 6 10 (by decide)] at q1_; exact q1_))),(fun q0_=>absurd (hl_.symm.trans (hcl 8 _ rfl (hcl 10 _ rfl ((up 6 10 (by decide)).symm.trans q0_) 8 rfl) 6 rfl)) (by decide)),(fun q0_=>absurd (hl_.symm.trans (hcl 12 _ rfl ((up 6 12 (by decide)).symm.trans q0_) 6 rfl)) (by decide))⟩,fun _ _ _=>rfl⟩
  | 7,_=>exact stepV rfl rfl (execMvB rfl ((hf 8 (by decide)).trans t8)) ⟨s,⟨_,rfl,rfl⟩,⟨hT.1,(fun q0_=>(hT.2.1 (by rw [up 7 12 (by decide)] at q0_; exact q0_))),(fun q0_ q1_=>(hT.2.2.1 (by rw [up 7 1 (by decide)] at q0_; exact q0_) (by rw [up 7 5 (by decide)] at q1_; exact q1_))),(fun q0_ q1_=>(hT.2.2.2.1 (by rw [up 7 5 (by decide)] at q0_; exact q0_) (by rw [up 7 10 (by decide)] at q1_; exact q1_))),(fun q0_=>absurd (hl_.symm.trans (hcl 8 _ rfl (hcl 10 _ rfl ((up 7 10 (by decide)).symm.trans q0_) 8 rfl) 7 rfl)) (by decide)),(fun q0_=>absurd (hl_.symm.trans (hcl 12 _ rfl ((up 7 12 (by decide)).symm.trans q0_) 7 rfl)) (by decide))⟩,fun _ _ _=>rfl⟩
  | 8,_=>exact stepV rfl rfl (ecz ▸ By8.execSlL rfl (hdep _ rfl 6 rfl _ rfl _ rfl) (hdep _ rfl 7 rfl _ rfl _ rfl) (By8.slice_l ra R rc H (by omega) X)) ⟨s,⟨_,rfl,rfl⟩,⟨hT.1,(fun q0_=>(hT.2.1 (by rw [up 8 12 (by decide)] at q0_; exact q0_))),(fun q0_ q1_=>(hT.2.2.1 (by rw [up 8 1 (by decide)] at q0_; exact q0_) (by rw [up 8 5 (by decide)] at q1_; exact q1_))),(fun q0_ q1_=>(hT.2.2.2.1 (by rw [up 8 5 (by decide)] at q0_; exact q0_) (by rw [up 8 10 (by decide)] at q1_; exact q1_))),(fun q0_=>absurd (hl_.symm.trans (hcl 10 _ rfl ((up 8 10 (by decide)).symm.trans q0_) 8 rfl)) (by decide)),(fun q0_=>absurd (hl_.symm.trans (hcl 12 _ rfl ((up 8 12 (by decide)).symm.trans q0_) 8 rfl)) (by decide))⟩,fun _ _ _=>rfl⟩
  | 9,_=>exact stepV rfl rfl (execMvB rfl ((hf 1 (by decide)).trans t1)) ⟨s,⟨_,rfl,rfl⟩,⟨hT.1,(fun q0_=>(hT.2.1 (by rw [up 9 12 (by decide)] at q0_; exact q0_))),(fun q0_ q1_=>(hT.2.2.1 (by rw [up 9 1 (by decide)] at q0_; exact q0_) (by rw [up 9 5 (by decide)] at q1_; exact q1_))),(fun q0_ q1_=>(hT.2.2.2.1 (by rw [up 9 5 (by decide)] at q0_; exact q0_) (by rw [up 9 10 (by decide)] at q1_; exact q1_))),(fun q0_=>absurd (hl_.symm.trans (hcl 10 _ rfl ((up 9 10 (by decide)).symm.trans q0_) 9 rfl)) (by decide)),(fun q0_=>absurd (hl_.symm.trans (hcl 12 _ rfl ((up 9 12 (by decide)).symm.trans q0_) 9 rfl)) (by decide))⟩,fun _ _ _=>rfl⟩
  | 10,_=>
   refine stepC rfl rfl (execCall2 Try.func40 (by kernel_rfl) (by kernel_rfl) rfl (hdep _ rfl 8 rfl _ rfl _ rfl) (hdep _ rfl 9 rfl _ rfl _ rfl)) (pieces_any (fun j=>f (18+(H+j))) (R - H) n _ X (hcz.on hT.1) (by omega) hn0 hn q hq) fun e w' hh=>?_
   obtain ⟨r_,x_,he,hown,hfam,hb⟩:=hh
   refine ⟨_,he,(s.1,s.2.1,r_,x_),⟨_,rfl,rfl⟩,⟨hT.1.trans ((hb).mono hT.1.size),(fun q0_=>(on9 (hT.2.1 (by rw [up 10 12 (by decide)] at q0_; exact q0_)) hb)),(fun q0_ q1_=>absurd (q1_.symm.trans ((up 10 5 (by decide)).trans (hl2 _ rfl 5 rfl))) (by decide)),(fun q0_ q1_=>absurd q1_ (by unfold updB; simp)),(fun _q0_=>⟨ownW_base9 hown (hT.1).size,fam_pt (hT.2.2.2.1 (hl2 _ rfl 5 rfl) hl_) hb hfam (hT.1).size (fun i j=>by show f (18+(H+(i * q+j)))=f (18+H+i * q+j); congr 1; omega)⟩),(fun q0_=>absurd (hl_.symm.trans (hcl 12 _ rfl ((up 10 12 (by decide)).symm.trans q0_) 10 rfl)) (by decide))⟩,fun i hi hli=>?_⟩
   match i,hi with
   | 0,_=>rfl
   | 1,_=>rfl
   | 2,_=>rfl
   | 3,_=>rfl
   | 4,_=>rfl
   | 5,_=>rfl
   | 6,_=>rfl
   | 7,_=>rfl
   | 8,_=>rfl
   | 9,_=>rfl
   | 10,_=>exact absurd (hl_.symm.trans hli) (by decide)
   | 11,_=>exact absurd (hl_.symm.trans (hcl 11 _ rfl hli 10 rfl)) (by decide)
   | 12,_=>rfl
   | 13,_=>rfl
   | k_+14,h_=>exact absurd h_ (by simp)
  | 11,_=>exact stepV rfl rfl (execBldPt rfl (hdep _ rfl 1 rfl _ rfl _ rfl) (hdep _ rfl 5 rfl _ rfl _ rfl) (hdep _ rfl 10 rfl _ rfl _ rfl) (shp3 (hT.2.2.2.2.1 (hl2 _ rfl 10 rfl)).rowN) (shp3 (hT.2.2.2.2.1 (hl2 _ rfl 10 rfl)).rowB) (shp3 (hT.2.2.2.2.1 (hl2 _ rfl 10 rfl)).own)) ⟨s,⟨_,rfl,rfl⟩,⟨hT.1,(fun q0_=>(hT.2.1 (by rw [up 11 12 (by decide)] at q0_; exact q0_))),(fun q0_ q1_=>absurd (q1_.symm.trans ((up 11 5 (by decide)).trans (hl2 _ rfl 5 rfl))) (by decide)),(fun q0_ q1_=>absurd (q1_.symm.trans ((up 11 10 (by decide)).trans (hl2 _ rfl 10 rfl))) (by decide)),(fun q0_=>(hT.2.2.2.2.1 (by rw [up 11 10 (by decide)] at q0_; exact q0_))),(fun q0_=>absurd (hl_.symm.trans (hcl 12 _ rfl ((up 11 12 (by decide)).symm.trans q0_) 11 rfl)) (by decide))⟩,fun _ _ _=>rfl⟩
  | 12,_=>exact stepS rfl rfl (execStPt rfl ((hf 4 (by decide)).trans t4) (hdep _ rfl 11 rfl _ rfl _ rfl) (hT.2.1 hl_) rfl (pts_one (hT.2.2.2.2.1 (hl2 _ rfl 10 rfl)))) ⟨s,⟨_,rfl,rfl⟩,⟨below4 hT.1 (Nat.le_refl _) _,(fun q0_=>absurd q0_ (by unfold updB; simp)),(fun q0_ q1_=>absurd (q1_.symm.trans ((up 12 5 (by decide)).trans (hl2 _ rfl 5 rfl))) (by decide)),(fun q0_ q1_=>absurd (q1_.symm.trans ((up 12 10 (by decide)).trans (hl2 _ rfl 10 rfl))) (by decide)),(fun q0_=>((hT.2.2.2.2.1 (by rw [up 12 10 (by decide)] at q0_; exact q0_)).set (hT.2.1 hl_) (by decide) (by decide))),(fun _q0_=>setRow_heap _ _ _ _ _ _ (hT.2.1 hl_))⟩,fun _ _ _=>rfl⟩
  | 13,_=>exact stepV rfl rfl (execAsgB rfl rfl) ⟨s,⟨_,rfl,rfl⟩,⟨hT.1,(fun q0_=>absurd (q0_.symm.trans ((up 13 12 (by decide)).trans (hl2 _ rfl 12 rfl))) (by decide)),(fun q0_ q1_=>absurd (q1_.symm.trans ((up 13 5 (by decide)).trans (hl2 _ rfl 5 rfl))) (by decide)),(fun q0_ q1_=>absurd (q1_.symm.trans ((up 13 10 (by decide)).trans (hl2 _ rfl 10 rfl))) (by decide)),(fun q0_=>(hT.2.2.2.2.1 (by rw [up 13 10 (by decide)] at q0_; exact q0_))),(fun q0_=>(hT.2.2.2.2.2 (by rw [up 13 12 (by decide)] at q0_; exact q0_)))⟩,fun _ _ _=>rfl⟩
  | k_+14,h_=>exact absurd h_ (by simp)
 rintro l_ ⟨v28,v32,v37,x37⟩ a X7 h1 h2 h3 h4 hall hT
 clear BB
 clear F4
 obtain ⟨BB,F4,F28,F32,FP,F4s⟩:=hT
 clear F4
 clear F28
 clear F32
 replace FP:(PtS X7 V.heap.size n v28 v32 v37 x37 18 H q f):=FP (hall 10 (by decide))
 replace F4s:X7.heap[V.heap.size]?=some (.cells (ptC v28 v32 v37) 55):=F4s (hall 12 (by decide))
 clear hall
 replace t4:=(h3 4 (by decide)).trans t4
 have t5:a.eval (.tmp 5)=.int .i64 ((0:Nat):Int):=h4 (13,5) (by decide)
 replace A:=(⟨h1,h2.trans A.2⟩:a.tmps.size=39/\a.defers=[])
 clear h1 h2 h3 h4
 clear t0 t1 t6 t7 t8
 refine wp_ret ?_
 refine bodyPost_ret (results_ct9 rfl _ _ V.heap.size 55 _ (0,0) _ t4 F4s Try.underlying55 rfl (size_pt _ _ _)) A.2 ⟨v28,v32,v37,x37,?_,FP,BB⟩
 show Ending.returned (.tuple #[.agg (ptC v28 v32 v37),a.eval (.tmp 5)])=_
 rw [t5]
end Go.Proofs.Ytmjpneaccjlpkaa.Tap

namespace Go.Proofs.Ytmjpneaccjlpkaa.Tap
open Go.RowKit Gf8 Aes By8 Cel Cf
/- The program's Split, with its errors. -/
set_option maxRecDepth 20000 in
theorem split_any (f:Nat->Nat) (len:Nat) (ch:Int) (v:Value) (V:World) (hv:SliceN V v len f) (hl:len<=140737488351232) :
  Calls Try.prog 20 #[v,.int .i64 ch] V fun e w'=>∃ nv bv cv x,e=.returned (.tuple #[.agg (ptC nv bv cv),.int .i64 (spE len ch:Nat)])/\PtS w' V.heap.size (spC len ch) nv bv cv x (spA len ch) (spB len ch) (spQ len ch) f/\Below V.heap.size V w':=by
 have no:spE len ch ≠ 0->spC len ch=0/\spA len ch=0/\spB len ch=0/\spQ len ch=0:=fun h=>by
  unfold spC spA spB spQ
  simp [h]
 obtain ⟨ao,cap,rfl,_⟩:=id hv.shape
 by_cases h1:ch < 1
 ·have E:spE len ch=2:=if_pos (Or.inl h1)
  obtain ⟨e1,e2,e3,e4⟩:=no (by rw [E]; decide)
  rw [E,e1,e2,e3,e4]
  clear no E e1 e2 e3 e4 hv hl
  go_enter Try.func20,Try.ntmps20
  go_wp2
  refine bodyPost_ret (results_ct9 (cs:=ptC (.slice none 0 0) (.slice none 0 0) (.slice none 0 0)) rfl _ _ V.heap.size 55 (0,0) _ rfl (heapNew V _) Try.underlying55 rfl (size_pt _ _ _)) rfl (by first | exact ⟨_,_,_,fun _=>undef,rfl,pts_none _ _ _ _,belNew V _⟩ | exact ⟨_,_,_,rfl,⟨fun _=>undef,pts_none _ _ _ _⟩,belNew V _⟩)
 ·by_cases h2:64 < ch
  ·have E:spE len ch=2:=if_pos (Or.inr h2)
   obtain ⟨e1,e2,e3,e4⟩:=no (by rw [E]; decide)
   rw [E,e1,e2,e3,e4]
   have i2:ch > 64:=h2
   clear no E e1 e2 e3 e4 hv hl h2
   go_enter Try.func20,Try.ntmps20
   go_wp2
   refine bodyPost_ret (results_ct9 (cs:=ptC (.slice none 0 0) (.slice none 0 0) (.slice none 0 0)) rfl _ _ V.heap.size 55 (0,0) _ rfl (heapNew V _) Try.underlying55 rfl (size_pt _ _ _)) rfl (by first | exact ⟨_,_,_,fun _=>undef,rfl,pts_none _ _ _ _,belNew V _⟩ | exact ⟨_,_,_,rfl,⟨fun _=>undef,pts_none _ _ _ _⟩,belNew V _⟩)
  ·by_cases h3:len < 18
   ·have E:spE len ch=3:=by unfold spE; rw [if_neg (by omega),if_pos h3]
    obtain ⟨e1,e2,e3,e4⟩:=no (by rw [E]; decide)
    rw [E,e1,e2,e3,e4]
    have i2:¬ ch > 64:=h2
    have i3:(len:Int) < 18:=by omega
    clear no E e1 e2 e3 e4 hv hl h2 h3
    go_enter Try.func20,Try.ntmps20
    go_wp2
    refine bodyPost_ret (results_ct9 (cs:=ptC (.slice none 0 0) (.slice none 0 0) (.slice none 0 0)) rfl _ _ V.heap.size 55 (0,0) _ rfl (heapNew V _) Try.underlying55 rfl (size_pt _ _ _)) rfl (by first | exact ⟨_,_,_,fun _=>undef,rfl,pts_none _ _ _ _,belNew V _⟩ | exact ⟨_,_,_,rfl,⟨fun _=>undef,pts_none _ _ _ _⟩,belNew V _⟩)
   ·have E:spE len ch=0:=by unfold spE; rw [if_neg (by omega),if_neg h3]
    obtain ⟨n,rfl⟩:∃ n:Nat,ch=n:=⟨ch.toNat,by omega⟩
    unfold spC spA spB spQ
    simp only [E,if_true,Int.toNat_natCast]
    exact split_ok f len n _ V hv hl (by omega) (by omega) (by omega) _ _ rfl rfl
end Go.Proofs.Ytmjpneaccjlpkaa.Tap

namespace Go.Proofs.Ytmjpneaccjlpkaa.Tap
open Go.RowKit Gf8 Aes By8 Cel Cf
/- What is known of parts: the law's lists and alike of them. -/
theorem ownL_cell {W:World} {B m lg lc:Nat} {x:Nat->Value} (h:W.ownsRow B 23 1 (.slice (some ⟨lg,0,none⟩) m lc) m (lL x m)) {t:Nat} (ht:t < m):W.cell? ⟨lg,0+t,none⟩=some (x t):=by
 rcases h.2 with ⟨e,_⟩ | ⟨g,cap,cur,e,_,hg,h1,h2,h3,h4⟩
 ·cases e
 ·injection e with e1 _ _
  injection e1 with e1
  injection e1 with e1 _ _
  subst e1
  rw [cell_of_row _ _ _ _ _ _ hg,Nat.zero_add,← Array.getElem?_toList]
  have:=lL_get x m t ht
  rw [← h4,List.getElem?_take,if_pos (by omega)] at this
  exact this
theorem one_of {v:Value} (h:∃ g l k,v=.slice g l k):v.oneCell'=true:=by
 obtain ⟨_,_,_,rfl⟩:=h
 rfl
section
variable {W:World} {B n:Nat} {nv bv cv:Value} {x:Nat->Value} {ln lb lq:Nat} {f:Nat->Nat}
theorem PtS.nil (h:PtS W B n nv bv cv x ln lb lq f):∃ aa ka,cv=.slice aa n ka/\(aa=none->n=0/\ka=0)/\(0 < n->∃ ca oa,aa=some ⟨ca,oa,none⟩/\ca < W.heap.size/\∀ i,i < n->W.cell? ⟨ca,oa+i,none⟩=some (x i)):=by
 rcases h.own.2 with ⟨rfl,rfl⟩ | ⟨g,cap,cur,rfl,hB,hg,_⟩
 ·exact ⟨_,_,rfl,(fun _=>⟨rfl,rfl⟩),fun h=>by omega⟩
 ·exact ⟨_,_,rfl,(fun h=>by cases h),fun h0=>⟨g,0,rfl,(Array.getElem?_eq_some_iff.1 hg).1,fun i hi=>ownL_cell h.own hi⟩⟩
end
end Go.Proofs.Ytmjpneaccjlpkaa.Tap

namespace Go.Proofs.Ytmjpneaccjlpkaa.Tap
open Go.RowKit Gf8 Aes By8 Cel Cf
/- TapeParts. Written by tools/mkV9v.py. -/
section
variable {o:Oper} {a:Act} {w:World}
theorem execLdPt {x:Operand} {g:Nat} {n b c:Value} {t:TypeId} {fr:Nat × Nat} (ho:o.op=.load 55 x) (hx:a.eval x=.pointer (some ⟨g,0,none⟩)) (hg:w.heap[g]?=some (.cells (ptC n b c) t fr)) :
  (execOp a.eval o).run Try.prog w=.ok (.value (.agg (ptC n b c))) w:=by
 have h:=execLoadMid (P:=Try.prog) (w:=w) (cs:=(ptC n b c).toList) ho hx (fun j v hj=>by rw [cell_of_row _ _ _ _ _ _ hg,Nat.zero_add,← Array.getElem?_toList]; exact hj) Try.underlying55 rfl (size_pt _ _ _)
 exact h
theorem execLenLs {x:Operand} {v:Value} {len:Nat} (ho:o.op=.call { callee:=.builtin .len,args:=#[x],argTypes:=#[53] }) (hx:a.eval x=v) (hv:∃ ao c,v=.slice ao len c):(execOp a.eval o).run Try.prog w=.ok (.value (.int .i64 (len:Int))) w:=by
 obtain ⟨ao,c,rfl⟩:=hv
 exact execLenL ho hx
end
end Go.Proofs.Ytmjpneaccjlpkaa.Tap
