import Derived.Test.YtjjegmflllpknaaN8l
namespace Go.Proofs.Ytjjegmflllpknaa.Loo
open Go.RowKit Gf8 Aes By8 Cel Cf Win Drw Prm
/- The landed loom's begin. Written by tools/mkN8m.py. -/
theorem bg_start {p:Pl} {V W:World} {rb gb tb:Nat} {x:Nat->Value} (hb:Below V.heap.size V W) (h1:W.heap[rb]?=some (.cells #[.slice none 0 0,.slice none 0 0,.slice (some ⟨gb,0,none⟩) p.d p.d,.slice (some ⟨tb,0,none⟩) p.d p.d,.int .i64 0,.int .i64 0] 70)) (h2:W.heap[gb]?=some (.cells (Duc.rA p.d fun _=>.pointer none) 71)) (h3:W.heap[tb]?=some (.cells (Duc.rA p.d fun _=>.pointer none) 71)) (g1:V.heap.size<=rb) (g2:V.heap.size<=gb) (g3:V.heap.size<=tb) (hn:gb ≠ tb) :
  ∃ ow,Bg p ⟨rb,.slice none 0 0,.slice none 0 0,.slice (some ⟨gb,0,none⟩) p.d p.d,.slice (some ⟨tb,0,none⟩) p.d p.d,fun _=>.pointer none,fun _=>0,x⟩ V 0 0 ow W/\∀ b,b ≠ rb->b ≠ gb->b ≠ tb->ow b=0:=by
 have n1:rb ≠ gb:=fun e=>by rw [e,h2] at h1; injection h1 with h1; injection h1 with _ h1 _; exact absurd h1 (by decide)
 have n2:rb ≠ tb:=fun e=>by rw [e,h3] at h1; injection h1 with h1; injection h1 with _ h1 _; exact absurd h1 (by decide)
 obtain ⟨ow,eo⟩:∃ f:Nat->Nat,∀ b,f b=if b=rb then 1 else if b=gb then 4 else if b=tb then 5 else 0:=⟨_,fun _=>rfl⟩
 have o1:ow rb=1:=by rw [eo,if_pos rfl]
 have o2:ow gb=4:=by rw [eo,if_neg (Ne.symm n1),if_pos rfl]
 have o3:ow tb=5:=by rw [eo,if_neg (Ne.symm n2),if_neg (Ne.symm hn),if_pos rfl]
 have o0:∀ b,b ≠ rb->b ≠ gb->b ≠ tb->ow b=0:=fun b w1 w2 w3=>by rw [eo,if_neg w1,if_neg w2,if_neg w3]
 refine ⟨ow,⟨fun c=>⟨fun _=>⟨o1,h1⟩,fun _=>⟨World.ownsRow_nil _ _ _ _,fun b q=>by cases q⟩,fun _=>⟨World.ownsRow_nil _ _ _ _,fun b q=>by cases q⟩,fun _=>Or.inr ⟨gb,p.d,_,rfl,o2,h2,by rw [Duc.rA_size]; exact Nat.le_refl _,fun i hi=>Duc.rA_at hi⟩,fun _=>Or.inr ⟨tb,p.d,_,rfl,o3,h3,by rw [Duc.rA_size]; exact Nat.le_refl _,fun i hi=>Duc.rA_at hi⟩,fun k _ hk=>by omega,fun k _ hk=>by omega⟩,hb,fun b q=>?_⟩,o0⟩
 by_cases w1:b=rb
 ·rw [w1]; exact ⟨g1,(Array.getElem?_eq_some_iff.1 h1).1⟩
 by_cases w2:b=gb
 ·rw [w2]; exact ⟨g2,(Array.getElem?_eq_some_iff.1 h2).1⟩
 by_cases w3:b=tb
 ·rw [w3]; exact ⟨g3,(Array.getElem?_eq_some_iff.1 h3).1⟩
 exact absurd (o0 b w1 w2 w3) q
set_option maxRecDepth 100000 in
set_option maxHeartbeats 4000000 in
theorem pbegin {p:Pl} {v:Value} {V:World} (hp:Okp p) (hP:PlA V v p) :
  Calls Try.prog 25 #[v] V fun e w'=>∃ G ow,e=.returned (.pointer (some ⟨G.rb,0,none⟩))/\RN p G V ow (Mof p r0 0) w':=by
 obtain ⟨cv,tv,x,rfl,hcv,htv,hops⟩:=hP
 go_enter Try.func25,Try.ntmps25
 refine wo_ 66 [(0,.agg #[cv,tv])] ?_
 rintro a A ⟨t0,-⟩
 have BW:Below V.heap.size V V:=Below.refl _ _
 have BB:Below V.heap.size V V:=Below.refl _ _
 refine wp_seq ?_
 obtain ⟨g1,egg1⟩:∃ z_:Nat,V.heap.size=z_:=⟨_,rfl⟩
 refine wi_ A (h1_ t0) (rs_ 0 (fun a E=>?_))
 refine stepV rfl rfl (execBxP rfl (E _) (sl3 hcv.shp) (sl3 htv.shp)) ⟨.pointer (some ⟨g1,0,none⟩),⟨_,rfl,by subst egg1; rfl⟩,fun X0 hX=>?_⟩
 have bQ:Below V.heap.size V X0:=by subst hX egg1; exact (belNew V _)
 have Fg1:(X0.heap[g1]?=some (.cells (#[cv,tv]) 25)):=by subst hX egg1; exact heapNew V _
 replace BB:=BB.trans (bQ.mono BB.size)
 clear bQ hX egg1 E a
 refine rg_ [(1,.pointer (some ⟨g1,0,none⟩))] ?_
 rintro a A ⟨t1,-⟩
 have hd64:=hp.d
 have hn128:=hp.n
 refine wp_seq ?_
 refine wp_region_stB (σ:=Nat × Nat × Nat) 66 [(0,10),(1,11),(2,12),(3,13),(4,14),(5,15),(6,16),(7,17),(8,18),(9,19),(10,3)] (fun l_ s X=>Below V.heap.size V X/\((X.heap[g1]?=some (.cells (#[cv,tv]) 25)))/\(l_ 3=true->(X.heap[s.1]?=some (.cells (Duc.rA p.d fun _=>.pointer none) 71)))/\(l_ 3=true->(V.heap.size<=s.1))/\(l_ 3=true->l_ 7=true->(s.1 ≠ s.2.1))/\(l_ 7=true->(X.heap[s.2.1]?=some (.cells (Duc.rA p.d fun _=>.pointer none) 71)))/\(l_ 7=true->(V.heap.size<=s.2.1))/\(l_ 9=true->(X.heap[s.2.2]?=some (.cells #[.slice none 0 0,.slice none 0 0,.slice (some ⟨s.1,0,none⟩) p.d p.d,.slice (some ⟨s.2.1,0,none⟩) p.d p.d,.int .i64 0,.int .i64 0] 70)))/\(l_ 9=true->(V.heap.size<=s.2.2))) (fun s=>fun i_=>match i_ with | 0=>.pointer (some ⟨g1,0,none⟩) | 1=>cv | 2=>.int .i64 ((p.d:Nat):Int) | 3=>.slice (some ⟨s.1,0,none⟩) p.d p.d | 4=>.pointer (some ⟨g1,0,none⟩) | 5=>cv | 6=>.int .i64 ((p.d:Nat):Int) | 7=>.slice (some ⟨s.2.1,0,none⟩) p.d p.d | 8=>.agg #[.slice none 0 0,.slice none 0 0,.slice (some ⟨s.1,0,none⟩) p.d p.d,.slice (some ⟨s.2.1,0,none⟩) p.d p.d,.int .i64 0,.int .i64 0] | 9=>.pointer (some ⟨s.2.2,0,none⟩) | 10=>.pointer (some ⟨s.2.2,0,none⟩) | _=>undef) (0,0,0) (by kernel_rfl) (by kernel_rfl) A.1 (by kernel_rfl) (by decide) (by decide) ⟨(BB.drew),((on9 Fg1 (Below.refl _ _).drew)),(fun q0_=>by cases q0_),(fun q0_=>by cases q0_),(fun q0_ q1_=>by cases q0_),(fun q0_=>by cases q0_),(fun q0_=>by cases q0_),(fun q0_=>by cases q0_),(fun q0_=>by cases q0_)⟩ ?_ ?_
 ·intro i_ hi_ l_ s a X hl_ hf hdep hl2 hcl hno hT
  have up:∀ j x,x ≠ j->updB l_ j x=l_ x:=fun j x hj=>by unfold updB; simp [hj]
  match i_,hi_ with
  | 0,_=>exact stepV rfl rfl (execPf0 rfl ((hf 1 (by decide)).trans t1)) ⟨s,⟨_,rfl,rfl⟩,⟨hT.1,(hT.2.1),(fun q0_=>absurd (hl_.symm.trans (hcl 1 _ rfl (hcl 2 _ rfl (hcl 3 _ rfl ((up 0 3 (by decide)).symm.trans q0_) 2 rfl) 1 rfl) 0 rfl)) (by decide)),(fun q0_=>absurd (hl_.symm.trans (hcl 1 _ rfl (hcl 2 _ rfl (hcl 3 _ rfl ((up 0 3 (by decide)).symm.trans q0_) 2 rfl) 1 rfl) 0 rfl)) (by decide)),(fun q0_ q1_=>absurd (hl_.symm.trans (hcl 1 _ rfl (hcl 2 _ rfl (hcl 3 _ rfl ((up 0 3 (by decide)).symm.trans q0_) 2 rfl) 1 rfl) 0 rfl)) (by decide)),(fun q0_=>(hT.2.2.2.2.2.1 (by rw [up 0 7 (by decide)] at q0_; exact q0_))),(fun q0_=>(hT.2.2.2.2.2.2.1 (by rw [up 0 7 (by decide)] at q0_; exact q0_))),(fun q0_=>absurd (hl_.symm.trans (hcl 1 _ rfl (hcl 2 _ rfl (hcl 3 _ rfl (hcl 8 _ rfl (hcl 9 _ rfl ((up 0 9 (by decide)).symm.trans q0_) 8 rfl) 3 rfl) 2 rfl) 1 rfl) 0 rfl)) (by decide)),(fun q0_=>absurd (hl_.symm.trans (hcl 1 _ rfl (hcl 2 _ rfl (hcl 3 _ rfl (hcl 8 _ rfl (hcl 9 _ rfl ((up 0 9 (by decide)).symm.trans q0_) 8 rfl) 3 rfl) 2 rfl) 1 rfl) 0 rfl)) (by decide))⟩,fun _ _ _=>rfl⟩
  | 1,_=>exact stepV rfl rfl (execLdG rfl (Or.inl rfl) (hdep _ rfl 0 rfl _ rfl _ rfl) (plB_at hT.2.1).1) ⟨s,⟨_,rfl,rfl⟩,⟨hT.1,(hT.2.1),(fun q0_=>absurd (hl_.symm.trans (hcl 2 _ rfl (hcl 3 _ rfl ((up 1 3 (by decide)).symm.trans q0_) 2 rfl) 1 rfl)) (by decide)),(fun q0_=>absurd (hl_.symm.trans (hcl 2 _ rfl (hcl 3 _ rfl ((up 1 3 (by decide)).symm.trans q0_) 2 rfl) 1 rfl)) (by decide)),(fun q0_ q1_=>absurd (hl_.symm.trans (hcl 2 _ rfl (hcl 3 _ rfl ((up 1 3 (by decide)).symm.trans q0_) 2 rfl) 1 rfl)) (by decide)),(fun q0_=>(hT.2.2.2.2.2.1 (by rw [up 1 7 (by decide)] at q0_; exact q0_))),(fun q0_=>(hT.2.2.2.2.2.2.1 (by rw [up 1 7 (by decide)] at q0_; exact q0_))),(fun q0_=>absurd (hl_.symm.trans (hcl 2 _ rfl (hcl 3 _ rfl (hcl 8 _ rfl (hcl 9 _ rfl ((up 1 9 (by decide)).symm.trans q0_) 8 rfl) 3 rfl) 2 rfl) 1 rfl)) (by decide)),(fun q0_=>absurd (hl_.symm.trans (hcl 2 _ rfl (hcl 3 _ rfl (hcl 8 _ rfl (hcl 9 _ rfl ((up 1 9 (by decide)).symm.trans q0_) 8 rfl) 3 rfl) 2 rfl) 1 rfl)) (by decide))⟩,fun _ _ _=>rfl⟩
  | 2,_=>exact stepV rfl rfl (execLenI (len:=p.d) rfl (hdep _ rfl 1 rfl _ rfl _ rfl) hcv.shp) ⟨s,⟨_,rfl,rfl⟩,⟨hT.1,(hT.2.1),(fun q0_=>absurd (hl_.symm.trans (hcl 3 _ rfl ((up 2 3 (by decide)).symm.trans q0_) 2 rfl)) (by decide)),(fun q0_=>absurd (hl_.symm.trans (hcl 3 _ rfl ((up 2 3 (by decide)).symm.trans q0_) 2 rfl)) (by decide)),(fun q0_ q1_=>absurd (hl_.symm.trans (hcl 3 _ rfl ((up 2 3 (by decide)).symm.trans q0_) 2 rfl)) (by decide)),(fun q0_=>(hT.2.2.2.2.2.1 (by rw [up 2 7 (by decide)] at q0_; exact q0_))),(fun q0_=>(hT.2.2.2.2.2.2.1 (by rw [up 2 7 (by decide)] at q0_; exact q0_))),(fun q0_=>absurd (hl_.symm.trans (hcl 3 _ rfl (hcl 8 _ rfl (hcl 9 _ rfl ((up 2 9 (by decide)).symm.trans q0_) 8 rfl) 3 rfl) 2 rfl)) (by decide)),(fun q0_=>absurd (hl_.symm.trans (hcl 3 _ rfl (hcl 8 _ rfl (hcl 9 _ rfl ((up 2 9 (by decide)).symm.trans q0_) 8 rfl) 3 rfl) 2 rfl)) (by decide))⟩,fun _ _ _=>rfl⟩
  | 3,_=>
   refine stepV rfl rfl (execMkHp rfl (hdep _ rfl 2 rfl _ rfl _ rfl) (hdep _ rfl 2 rfl _ rfl _ rfl) (by omega)) ⟨(X.heap.size,s.2.1,s.2.2),⟨_,rfl,rfl⟩,⟨hT.1.trans (((belNew X _)).mono hT.1.size),((on9 hT.2.1 (belNew X _))),(fun _q0_=>heapNew X _),(fun _q0_=>(hT.1).size),(fun q0_ q1_=>Nat.ne_of_gt (Array.getElem?_eq_some_iff.1 (hT.2.2.2.2.2.1 (by rw [up 3 7 (by decide)] at q1_; exact q1_))).1),(fun q0_=>(on9 (hT.2.2.2.2.2.1 (by rw [up 3 7 (by decide)] at q0_; exact q0_)) (belNew X _))),(fun q0_=>(hT.2.2.2.2.2.2.1 (by rw [up 3 7 (by decide)] at q0_; exact q0_))),(fun q0_=>absurd (hl_.symm.trans (hcl 8 _ rfl (hcl 9 _ rfl ((up 3 9 (by decide)).symm.trans q0_) 8 rfl) 3 rfl)) (by decide)),(fun q0_=>absurd (hl_.symm.trans (hcl 8 _ rfl (hcl 9 _ rfl ((up 3 9 (by decide)).symm.trans q0_) 8 rfl) 3 rfl)) (by decide))⟩,fun i hi hli=>?_⟩
   match i,hi with
   | 0,_=>rfl
   | 1,_=>rfl
   | 2,_=>rfl
   | 3,_=>exact absurd (hl_.symm.trans hli) (by decide)
   | 4,_=>rfl
   | 5,_=>rfl
   | 6,_=>rfl
   | 7,_=>rfl
   | 8,_=>exact absurd (hl_.symm.trans (hcl 8 _ rfl hli 3 rfl)) (by decide)
   | 9,_=>rfl
   | 10,_=>rfl
   | k_+11,h_=>exact absurd h_ (by simp)
  | 4,_=>exact stepV rfl rfl (execPf0 rfl ((hf 1 (by decide)).trans t1)) ⟨s,⟨_,rfl,rfl⟩,⟨hT.1,(hT.2.1),(fun q0_=>(hT.2.2.1 (by rw [up 4 3 (by decide)] at q0_; exact q0_))),(fun q0_=>(hT.2.2.2.1 (by rw [up 4 3 (by decide)] at q0_; exact q0_))),(fun q0_ q1_=>absurd (hl_.symm.trans (hcl 5 _ rfl (hcl 6 _ rfl (hcl 7 _ rfl ((up 4 7 (by decide)).symm.trans q1_) 6 rfl) 5 rfl) 4 rfl)) (by decide)),(fun q0_=>absurd (hl_.symm.trans (hcl 5 _ rfl (hcl 6 _ rfl (hcl 7 _ rfl ((up 4 7 (by decide)).symm.trans q0_) 6 rfl) 5 rfl) 4 rfl)) (by decide)),(fun q0_=>absurd (hl_.symm.trans (hcl 5 _ rfl (hcl 6 _ rfl (hcl 7 _ rfl ((up 4 7 (by decide)).symm.trans q0_) 6 rfl) 5 rfl) 4 rfl)) (by decide)),(fun q0_=>absurd (hl_.symm.trans (hcl 5 _ rfl (hcl 6 _ rfl (hcl 7 _ rfl (hcl 8 _ rfl (hcl 9 _ rfl ((up 4 9 (by decide)).symm.trans q0_) 8 rfl) 7 rfl) 6 rfl) 5 rfl) 4 rfl)) (by decide)),(fun q0_=>absurd (hl_.symm.trans (hcl 5 _ rfl (hcl 6 _ rfl (hcl 7 _ rfl (hcl 8 _ rfl (hcl 9 _ rfl ((up 4 9 (by decide)).symm.trans q0_) 8 rfl) 7 rfl) 6 rfl) 5 rfl) 4 rfl)) (by decide))⟩,fun _ _ _=>rfl⟩
  | 5,_=>exact stepV rfl rfl (execLdG rfl (Or.inl rfl) (hdep _ rfl 4 rfl _ rfl _ rfl) (plB_at hT.2.1).1) ⟨s,⟨_,rfl,rfl⟩,⟨hT.1,(hT.2.1),(fun q0_=>(hT.2.2.1 (by rw [up 5 3 (by decide)] at q0_; exact q0_))),(fun q0_=>(hT.2.2.2.1 (by rw [up 5 3 (by decide)] at q0_; exact q0_))),(fun q0_ q1_=>absurd (hl_.symm.trans (hcl 6 _ rfl (hcl 7 _ rfl ((up 5 7 (by decide)).symm.trans q1_) 6 rfl) 5 rfl)) (by decide)),(fun q0_=>absurd (hl_.symm.trans (hcl 6 _ rfl (hcl 7 _ rfl ((up 5 7 (by decide)).symm.trans q0_) 6 rfl) 5 rfl)) (by decide)),(fun q0_=>absurd (hl_.symm.trans (hcl 6 _ rfl (hcl 7 _ rfl ((up 5 7 (by decide)).symm.trans q0_) 6 rfl) 5 rfl)) (by decide)),(fun q0_=>absurd (hl_.symm.trans (hcl 6 _ rfl (hcl 7 _ rfl (hcl 8 _ rfl (hcl 9 _ rfl ((up 5 9 (by decide)).symm.trans q0_) 8 rfl) 7 rfl) 6 rfl) 5 rfl)) (by decide)),(fun q0_=>absurd (hl_.symm.trans (hcl 6 _ rfl (hcl 7 _ rfl (hcl 8 _ rfl (hcl 9 _ rfl ((up 5 9 (by decide)).symm.trans q0_) 8 rfl) 7 rfl) 6 rfl) 5 rfl)) (by decide))⟩,fun _ _ _=>rfl⟩
  | 6,_=>exact stepV rfl rfl (execLenI (len:=p.d) rfl (hdep _ rfl 5 rfl _ rfl _ rfl) hcv.shp) ⟨s,⟨_,rfl,rfl⟩,⟨hT.1,(hT.2.1),(fun q0_=>(hT.2.2.1 (by rw [up 6 3 (by decide)] at q0_; exact q0_))),(fun q0_=>(hT.2.2.2.1 (by rw [up 6 3 (by decide)] at q0_; exact q0_))),(fun q0_ q1_=>absurd (hl_.symm.trans (hcl 7 _ rfl ((up 6 7 (by decide)).symm.trans q1_) 6 rfl)) (by decide)),(fun q0_=>absurd (hl_.symm.trans (hcl 7 _ rfl ((up 6 7 (by decide)).symm.trans q0_) 6 rfl)) (by decide)),(fun q0_=>absurd (hl_.symm.trans (hcl 7 _ rfl ((up 6 7 (by decide)).symm.trans q0_) 6 rfl)) (by decide)),(fun q0_=>absurd (hl_.symm.trans (hcl 7 _ rfl (hcl 8 _ rfl (hcl 9 _ rfl ((up 6 9 (by decide)).symm.trans q0_) 8 rfl) 7 rfl) 6 rfl)) (by decide)),(fun q0_=>absurd (hl_.symm.trans (hcl 7 _ rfl (hcl 8 _ rfl (hcl 9 _ rfl ((up 6 9 (by decide)).symm.trans q0_) 8 rfl) 7 rfl) 6 rfl)) (by decide))⟩,fun _ _ _=>rfl⟩
  | 7,_=>
   refine stepV rfl rfl (execMkHp rfl (hdep _ rfl 6 rfl _ rfl _ rfl) (hdep _ rfl 6 rfl _ rfl _ rfl) (by omega)) ⟨(s.1,X.heap.size,s.2.2),⟨_,rfl,rfl⟩,⟨hT.1.trans (((belNew X _)).mono hT.1.size),((on9 hT.2.1 (belNew X _))),(fun q0_=>(on9 (hT.2.2.1 (by rw [up 7 3 (by decide)] at q0_; exact q0_)) (belNew X _))),(fun q0_=>(hT.2.2.2.1 (by rw [up 7 3 (by decide)] at q0_; exact q0_))),(fun q0_ q1_=>Nat.ne_of_lt (Array.getElem?_eq_some_iff.1 (hT.2.2.1 (by rw [up 7 3 (by decide)] at q0_; exact q0_))).1),(fun _q0_=>heapNew X _),(fun _q0_=>(hT.1).size),(fun q0_=>absurd (hl_.symm.trans (hcl 8 _ rfl (hcl 9 _ rfl ((up 7 9 (by decide)).symm.trans q0_) 8 rfl) 7 rfl)) (by decide)),(fun q0_=>absurd (hl_.symm.trans (hcl 8 _ rfl (hcl 9 _ rfl ((up 7 9 (by decide)).symm.trans q0_) 8 rfl) 7 rfl)) (by decide))⟩,fun i hi hli=>?_⟩
   match i,hi with
   | 0,_=>rfl
   | 1,_=>rfl
   | 2,_=>rfl
   | 3,_=>rfl
   | 4,_=>rfl
   | 5,_=>rfl
   | 6,_=>rfl
   | 7,_=>exact absurd (hl_.symm.trans hli) (by decide)
   | 8,_=>exact absurd (hl_.symm.trans (hcl 8 _ rfl hli 7 rfl)) (by decide)
   | 9,_=>rfl
   | 10,_=>rfl
   | k_+11,h_=>exact absurd h_ (by simp)
  | 8,_=>exact stepV rfl rfl (execBdR rfl (hdep _ rfl 3 rfl _ rfl _ rfl) (hdep _ rfl 7 rfl _ rfl _ rfl) ⟨_,_,_,rfl⟩ ⟨_,_,_,rfl⟩) ⟨s,⟨_,rfl,rfl⟩,⟨hT.1,(hT.2.1),(fun q0_=>(hT.2.2.1 (by rw [up 8 3 (by decide)] at q0_; exact q0_))),(fun q0_=>(hT.2.2.2.1 (by rw [up 8 3 (by decide)] at q0_; exact q0_))),(fun q0_ q1_=>(hT.2.2.2.2.1 (by rw [up 8 3 (by decide)] at q0_; exact q0_) (by rw [up 8 7 (by decide)] at q1_; exact q1_))),(fun q0_=>(hT.2.2.2.2.2.1 (by rw [up 8 7 (by decide)] at q0_; exact q0_))),(fun q0_=>(hT.2.2.2.2.2.2.1 (by rw [up 8 7 (by decide)] at q0_; exact q0_))),(fun q0_=>absurd (hl_.symm.trans (hcl 9 _ rfl ((up 8 9 (by decide)).symm.trans q0_) 8 rfl)) (by decide)),(fun q0_=>absurd (hl_.symm.trans (hcl 9 _ rfl ((up 8 9 (by decide)).symm.trans q0_) 8 rfl)) (by decide))⟩,fun _ _ _=>rfl⟩
  | 9,_=>
   refine stepV rfl rfl (execBxR rfl (hdep _ rfl 8 rfl _ rfl _ rfl) ⟨_,_,_,rfl⟩ ⟨_,_,_,rfl⟩) ⟨(s.1,s.2.1,X.heap.size),⟨_,rfl,rfl⟩,⟨hT.1.trans (((belNew X _)).mono hT.1.size),((on9 hT.2.1 (belNew X _))),(fun q0_=>(on9 (hT.2.2.1 (by rw [up 9 3 (by decide)] at q0_; exact q0_)) (belNew X _))),(fun q0_=>(hT.2.2.2.1 (by rw [up 9 3 (by decide)] at q0_; exact q0_))),(fun q0_ q1_=>(hT.2.2.2.2.1 (by rw [up 9 3 (by decide)] at q0_; exact q0_) (by rw [up 9 7 (by decide)] at q1_; exact q1_))),(fun q0_=>(on9 (hT.2.2.2.2.2.1 (by rw [up 9 7 (by decide)] at q0_; exact q0_)) (belNew X _))),(fun q0_=>(hT.2.2.2.2.2.2.1 (by rw [up 9 7 (by decide)] at q0_; exact q0_))),(fun _q0_=>heapNew X _),(fun _q0_=>(hT.1).size)⟩,fun i hi hli=>?_⟩
   match i,hi with
   | 0,_=>rfl
   | 1,_=>rfl
   | 2,_=>rfl
   | 3,_=>rfl
   | 4,_=>rfl
   | 5,_=>rfl
   | 6,_=>rfl
   | 7,_=>rfl
   | 8,_=>rfl
   | 9,_=>exact absurd (hl_.symm.trans hli) (by decide)
   | 10,_=>exact absurd (hl_.symm.trans (hcl 10 _ rfl hli 9 rfl)) (by decide)
   | k_+11,h_=>exact absurd h_ (by simp)
  | 10,_=>exact stepV rfl rfl (Cf.execAsgB rfl (hdep _ rfl 9 rfl _ rfl _ rfl)) ⟨s,⟨_,rfl,rfl⟩,⟨hT.1,(hT.2.1),(fun q0_=>(hT.2.2.1 (by rw [up 10 3 (by decide)] at q0_; exact q0_))),(fun q0_=>(hT.2.2.2.1 (by rw [up 10 3 (by decide)] at q0_; exact q0_))),(fun q0_ q1_=>(hT.2.2.2.2.1 (by rw [up 10 3 (by decide)] at q0_; exact q0_) (by rw [up 10 7 (by decide)] at q1_; exact q1_))),(fun q0_=>(hT.2.2.2.2.2.1 (by rw [up 10 7 (by decide)] at q0_; exact q0_))),(fun q0_=>(hT.2.2.2.2.2.2.1 (by rw [up 10 7 (by decide)] at q0_; exact q0_))),(fun q0_=>(hT.2.2.2.2.2.2.2.1 (by rw [up 10 9 (by decide)] at q0_; exact q0_))),(fun q0_=>(hT.2.2.2.2.2.2.2.2 (by rw [up 10 9 (by decide)] at q0_; exact q0_)))⟩,fun _ _ _=>rfl⟩
  | k_+11,h_=>exact absurd h_ (by simp)
 rintro l_ ⟨gb,tb,rb⟩ a X1 h1 h2 h3 h4 hall hT
 clear BB
 clear Fg1
 obtain ⟨BB,Fg1,Fgb,Fgegb,Fne,Ftb,Fgetb,Frb,Fgerb⟩:=hT
 replace Fg1:(X1.heap[g1]?=some (.cells (#[cv,tv]) 25)):=Fg1
 replace Fgb:(X1.heap[gb]?=some (.cells (Duc.rA p.d fun _=>.pointer none) 71)):=Fgb (hall 3 (by decide))
 replace Fgegb:(V.heap.size<=gb):=Fgegb (hall 3 (by decide))
 replace Fne:(gb ≠ tb):=Fne (hall 3 (by decide)) (hall 7 (by decide))
 replace Ftb:(X1.heap[tb]?=some (.cells (Duc.rA p.d fun _=>.pointer none) 71)):=Ftb (hall 7 (by decide))
 replace Fgetb:(V.heap.size<=tb):=Fgetb (hall 7 (by decide))
 replace Frb:(X1.heap[rb]?=some (.cells #[.slice none 0 0,.slice none 0 0,.slice (some ⟨gb,0,none⟩) p.d p.d,.slice (some ⟨tb,0,none⟩) p.d p.d,.int .i64 0,.int .i64 0] 70)):=Frb (hall 9 (by decide))
 replace Fgerb:(V.heap.size<=rb):=Fgerb (hall 9 (by decide))
 clear hall
 replace t1:=(h3 1 (by decide)).trans t1
 have t3:a.eval (.tmp 3)=.pointer (some ⟨rb,0,none⟩):=h4 (10,3) (by decide)
 replace A:=(⟨h1,h2.trans A.2⟩:a.tmps.size=66/\a.defers=[])
 clear h1 h2 h3 h4
 obtain ⟨ow,K,Ko⟩:=bg_start (p:=p) (x:=x) BB Frb Fgb Ftb Fgerb Fgegb Fgetb Fne
 have hz1:ow g1=0:=by
  apply Ko
  ·intro w; rw [w,Frb] at Fg1; injection Fg1 with z; injection z with _ z _; exact absurd z (by decide)
  ·intro w; rw [w,Fgb] at Fg1; injection Fg1 with z; injection z with _ z _; exact absurd z (by decide)
  ·intro w; rw [w,Ftb] at Fg1; injection Fg1 with z; injection z with _ z _; exact absurd z (by decide)
 clear Ko Frb Fgb Ftb Fne
 refine wp_seq (wp_seq ?_)
 refine wi_ A (h2_ t1 t3) (rv_ 0 (.pointer (some ⟨g1,0,none⟩)) (fun a E=>execPf0 rfl (E _)) (rv_ 1 cv (fun a E=>execLdG rfl (Or.inl rfl) (E _) (plB_at Fg1).1) (rv_ 2 (.int .i64 ((p.d:Nat):Int)) (fun a E=>execLenI rfl (E _) hcv.shp) (rf_ [(21,cv),(22,.int .i64 ((p.d:Nat):Int)),(23,.int .i64 ((0:Nat):Int))] (h2_ t1 t3) ?_))))
 rintro a A ⟨t21,t22,t23,-⟩ ⟨t1,t3,-⟩
 refine wp_block ?_
 refine wp_loop (fun a W=>∃ (i:Nat) (G:Ad) (ow:Nat->Nat),i<=p.d/\G.rb=rb/\G.ops=x/\ow g1=0/\(a.tmps.size=66/\a.defers=[])/\a.eval (.tmp 1)=.pointer (some ⟨g1,0,none⟩)/\a.eval (.tmp 3)=.pointer (some ⟨rb,0,none⟩)/\a.eval (.tmp 21)=cv/\a.eval (.tmp 22)=.int .i64 ((p.d:Nat):Int)/\a.eval (.tmp 23)=.int .i64 ((i:Nat):Int)/\W.heap[g1]?=some (.cells #[cv,tv] 25)/\Bg p G V i 0 ow W) (fun a _=>p.d - (intOf (a.eval (.tmp 23))).toNat) ⟨0,_,ow,Nat.zero_le _,rfl,rfl,hz1,A,t1,t3,t21,t22,t23,Fg1,K⟩ ?_
 rintro a XL ⟨i,G,ow,hi,hrb,hgo,hz1,A,t1,t3,t21,t22,t23,Fg1,K⟩
 have es:=t23
 refine wp_seq ?_
 refine wi_ A (h5_ t1 t3 t21 t22 t23) (rv_ 0 (.bool (decide (i < p.d))) (fun a E=>execLtW (p:=i) (q:=p.d) rfl (E _) (E _)) (rf_ [(24,.bool (decide (i < p.d)))] (h5_ t1 t3 t21 t22 t23) ?_))
 rintro a A ⟨t24,-⟩ ⟨t1,t3,t21,t22,t23,-⟩
 refine wp_seq ?_
 by_cases hlt:i < p.d
 ·rw [decide_eq_true hlt] at t24
  refine wp_cond_true t24 (wp_skip ?_)
  clear t24
  obtain ⟨cb,co,cc,ec,hcb,hcc⟩:=ints_open hcv (by omega)
  have hcap:=hp.cap i hlt
  have hcell:XL.cell? ⟨cb,co+i,none⟩=some (.int .i64 (p.cap i)):=by rw [cell_below K.bel hcb]; exact hcc i hlt
  refine wp_seq (wp_block ?_)
  refine wp_seq ?_
  refine wi_ A (h5_ t1 t3 t21 t22 t23) (rv_ 0 (.pointer (some ⟨cb,co+i,none⟩)) (fun a E=>execIdxN (k:=i) rfl ((E _).trans ec) (E _) hlt) (rv_ 1 (.int .i64 (p.cap i)) (fun a E=>execLd3 rfl (E _) hcell) (rf_ [(5,.int .i64 (p.cap i))] (h5_ t1 t3 t21 t22 t23) ?_)))
  rintro a A ⟨t5,-⟩ ⟨t1,t3,t21,t22,t23,-⟩
  refine wp_seq ?_
  refine wi_ A (h6_ t1 t3 t21 t22 t23 t5) (rc_ 1 (Duc.implI.new (p.cap i) XL (fun _=>.int .i64 0)) (fun e X1 hh=>?_))
  obtain ⟨⟨hh1,-⟩,bQ⟩:=hh
  obtain ⟨db,F,he,hR,hF⟩:=hh1 hcap
  refine ⟨_,he,?_⟩
  have hgF:¬ F g1:=fun w=>by have:=hF g1 w; have:=(Array.getElem?_eq_some_iff.1 Fg1).1; omega
  have hFo:∀ q,F q->ow q=0/\V.heap.size<=q:=fun q hq=>⟨K.no (hF q hq),Nat.le_trans K.bel.size (hF q hq)⟩
  replace K:=K.on bQ
  replace Fg1:=on9 Fg1 bQ
  clear bQ he
  refine rf_ [(6,.pointer (some ⟨db,0,none⟩))] (h5_ t1 t3 t21 t22 t23) ?_
  rintro a A ⟨t6,-⟩ ⟨t1,t3,t21,t22,t23,-⟩
  have hrun:=K.run.2
  rw [hrb] at hrun
  refine wi_ A (h6_ t1 t3 t21 t22 t23 t6) (rv_ 2 (.pointer (some ⟨rb,0,none⟩)) (fun a E=>Duc.execNl rfl (E _)) (rv_ 3 (.pointer (some ⟨rb,0,none⟩)) (fun a E=>execRf0 rfl (E _)) (rv_ 4 G.dS (fun a E=>execLdP rfl (Or.inl rfl) (E _) (rC_at (M:=M0) hrun).1) (rs_ 6 (fun a E=>?_)))))
  refine stepV rfl rfl (execBsDp rfl (E _)) ⟨_,⟨_,rfl,rfl⟩,fun X2 hX2=>?_⟩
  have bQ:Below X1.heap.size X1 X2:=by rw [hX2]; exact belNew X1 _
  have Fl:X2.heap[X1.heap.size]?=some (.cells #[.pointer (some ⟨db,0,none⟩)] 85):=by rw [hX2]; exact heapNew X1 _
  replace hR:=Duc.implI.frame hR (X:=X2) (fun b hb=>bQ.block b (Duc.implI.lt hR b hb)) bQ.size
  replace K:=K.on bQ
  replace Fg1:=on9 Fg1 bQ
  replace hrun:=on9 hrun bQ
  obtain ⟨v',W',hr,r1,r2⟩:=run_apDp X2 V.heap.size i X1.heap.size G.dS G.dv (some ⟨db,0,none⟩) K.dR.1 Fl (by omega) K.bel.size
  refine rs_ 7 (fun a E=>?_)
  refine stepV rfl rfl (execApDp rfl (E _) (E _) hr) ⟨_,⟨_,rfl,rfl⟩,fun X3 hX3=>?_⟩
  subst hX3
  have hrun3:X3.heap[rb]?=some (.cells (rC G 0 0) 70):=by
   rcases r2 with ⟨b,c,f1,f2,g⟩ | ⟨g,_⟩
   ·rw [g.block rb (Array.getElem?_eq_some_iff.1 hrun).1 (fun w=>?_)]
    ·exact hrun
    ·have h1:=K.dR.2 b (by rw [f1]; rfl)
     have h2:=K.run.1
     rw [hrb] at h2
     cases w
     omega
   ·exact on9 hrun g
  refine rv_ 8 (.pointer (some ⟨rb,0,none⟩)) (fun a E=>Duc.execNl rfl (E _)) (rv_ 9 (.pointer (some ⟨rb,0,none⟩)) (fun a E=>execRf0 rfl (E _)) (rs_ 10 (fun a E=>?_)))
  refine stepS rfl rfl (execSt9 rfl (Or.inr (Or.inr (Or.inr (Or.inr (Or.inl rfl))))) (E _) (E _) (Or.inr (Or.inr (Or.inr (sl3 (own_shp r1))))) (rC_at (M:=M0) hrun3).1 (frozen4 hrun3)) ⟨_,⟨_,rfl,rfl⟩,fun X4 hX4=>?_⟩
  rw [← hrb] at hX4
  obtain ⟨ow',K2,Kz⟩:=K.addD (F:=F) hR hFo r1 r2 hX4
  obtain ⟨Kz1,Kz2⟩:=Kz g1 (Array.getElem?_eq_some_iff.1 Fg1).1 hz1 hgF
  have Fg2:X4.heap[g1]?=some (.cells #[cv,tv] 25):=by rw [Kz1]; exact Fg1
  clear hX4 E a hr r1 r2 hrun3
  refine rf_ [] (h5_ t1 t3 t21 t22 t23) ?_
  rintro a A - ⟨t1,t3,t21,t22,t23,-⟩
  refine wi_ A (h5_ t1 t3 t21 t22 t23) (rv_ 0 (.int .i64 ((i+1:Nat):Int)) (fun a E=>execAd8 (p:=i) (q:=1) rfl (E _) rfl (by omega)) (rf_ [(23,.int .i64 ((i+1:Nat):Int))] (h4_ t1 t3 t21 t22) ?_))
  rintro a A ⟨t23,-⟩ ⟨t1,t3,t21,t22,-⟩
  exact ⟨⟨i+1,{ G with dS:=v',dv:=upf G.dv i (.pointer (some ⟨db,0,none⟩)) },ow',hlt,hrb,hgo,Kz2,A,t1,t3,t21,t22,t23,Fg2,K2⟩,by show p.d - (intOf (a.eval (.tmp 23))).toNat < p.d - (intOf (Act.eval _ (.tmp 23))).toNat; rw [t23,es]; show p.d - (i+1) < p.d - i; omega⟩
 ·rw [decide_eq_false hlt] at t24
  refine wp_cond_false t24 ?_
  refine wp_exit ?_
  repeat (first | with_reducible refine exit_then ?_ | with_reducible refine exit_out (by decide) ?_)
  refine exit_in ?_
  obtain rfl:i=p.d:=by omega
  clear t24 es t21 t22 t23
  refine wp_seq (wp_seq ?_)
  refine wi_ A (h2_ t1 t3) (rv_ 0 (.pointer (some ⟨g1,1,none⟩)) (fun a E=>execPf1 rfl (E _)) (rv_ 1 tv (fun a E=>execLdG rfl (Or.inr (Or.inr (Or.inr (Or.inr (Or.inl rfl))))) (E _) (plB_at Fg1).2) (rv_ 2 (.int .i64 ((p.n:Nat):Int)) (fun a E=>execLnOO rfl (E _) htv.shp) (rf_ [(44,tv),(45,.int .i64 ((p.n:Nat):Int)),(46,.int .i64 ((0:Nat):Int))] (h1_ t3) ?_))))
  rintro a A ⟨t44,t45,t46,-⟩ ⟨t3,-⟩
  refine wp_block ?_
  refine wp_loop (fun a W=>∃ (i:Nat) (G:Ad) (ow:Nat->Nat),i<=p.n/\G.rb=rb/\G.ops=x/\ow g1=0/\(a.tmps.size=66/\a.defers=[])/\a.eval (.tmp 3)=.pointer (some ⟨rb,0,none⟩)/\a.eval (.tmp 44)=tv/\a.eval (.tmp 45)=.int .i64 ((p.n:Nat):Int)/\a.eval (.tmp 46)=.int .i64 ((i:Nat):Int)/\W.heap[g1]?=some (.cells #[cv,tv] 25)/\Bg p G V p.d i ow W) (fun a _=>p.n - (intOf (a.eval (.tmp 46))).toNat) ⟨0,G,ow,Nat.zero_le _,hrb,hgo,hz1,A,t3,t44,t45,t46,Fg1,K⟩ ?_
  rintro a XL2 ⟨i,G,ow,hi,hrb,hgo,hz1,A,t3,t44,t45,t46,Fg1,K⟩
  have es:=t46
  refine wp_seq ?_
  refine wi_ A (h4_ t3 t44 t45 t46) (rv_ 0 (.bool (decide (i < p.n))) (fun a E=>execLtW (p:=i) (q:=p.n) rfl (E _) (E _)) (rf_ [(47,.bool (decide (i < p.n)))] (h4_ t3 t44 t45 t46) ?_))
  rintro a A ⟨t47,-⟩ ⟨t3,t44,t45,t46,-⟩
  refine wp_seq ?_
  by_cases hlt:i < p.n
  ·rw [decide_eq_true hlt] at t47
   refine wp_cond_true t47 (wp_skip ?_)
   clear t47
   obtain ⟨tb_,to_,tc,et⟩:=htv.open (by omega)
   have hcell:XL2.cell? ⟨tb_,to_+i,none⟩=some (x i):=SliceV.at (htv.on K.bel) et hlt
   have hxs:∃ a n c,x i=.slice a n c:=sl3 (hops i hlt).shp
   refine wp_seq (wp_block ?_)
   refine wp_seq ?_
   refine wi_ A (h4_ t3 t44 t45 t46) (rv_ 0 (.pointer (some ⟨tb_,to_+i,none⟩)) (fun a E=>execIxOO (k:=i) rfl ((E _).trans et) (E _) hlt) (rv_ 1 (x i) (fun a E=>execLdG rfl (Or.inr (Or.inr (Or.inr (Or.inr (Or.inr rfl))))) (E _) hcell) (rf_ [(9,x i)] (h4_ t3 t44 t45 t46) ?_)))
   rintro a A ⟨t9,-⟩ ⟨t3,t44,t45,t46,-⟩
   have hrun:=K.run.2
   rw [hrb] at hrun
   refine wi_ A (h5_ t3 t44 t45 t46 t9) (rv_ 2 (.pointer (some ⟨rb,0,none⟩)) (fun a E=>Duc.execNl rfl (E _)) (rv_ 3 (.pointer (some ⟨rb,1,none⟩)) (fun a E=>execRf1 rfl (E _)) (rv_ 4 G.hS (fun a E=>execLdP rfl (Or.inr (Or.inl rfl)) (E _) (rC_at (M:=M0) hrun).2.1) (rv_ 6 (.agg (nC (x i) 0 0 (.slice none 0 0))) (fun a E=>execBdN rfl (E _) hxs) (rs_ 7 (fun a E=>?_))))))
   obtain ⟨hg,ehg⟩:∃ z_:Nat,XL2.heap.size=z_:=⟨_,rfl⟩
   refine stepV rfl rfl (execBxN rfl (E _) hxs) ⟨.pointer (some ⟨hg,0,none⟩),⟨_,rfl,by subst ehg; rfl⟩,fun X1 hX=>?_⟩
   have bQ:Below XL2.heap.size XL2 X1:=by rw [hX]; exact belNew XL2 _
   have Fh:X1.heap[hg]?=some (.cells (nC (x i) 0 0 (.slice none 0 0)) 89):=by rw [hX,← ehg]; exact heapNew XL2 _
   have hu:ow hg=0/\V.heap.size<=hg:=⟨K.no (by omega),by have:=K.bel.size; omega⟩
   have hg1:g1 ≠ hg:=fun w=>by have:=(Array.getElem?_eq_some_iff.1 Fg1).1; omega
   clear hX E a
   refine rs_ 8 (fun a E=>?_)
   refine stepV rfl rfl (execBsHp rfl (E _)) ⟨_,⟨_,rfl,rfl⟩,fun X2 hX2=>?_⟩
   have bQ2:Below X1.heap.size X1 X2:=by rw [hX2]; exact belNew X1 _
   have Fl:X2.heap[X1.heap.size]?=some (.cells #[.pointer (some ⟨hg,0,none⟩)] 71):=by rw [hX2]; exact heapNew X1 _
   replace Fh:=on9 Fh bQ2
   replace bQ:=bQ.trans (bQ2.mono bQ.size)
   replace K:=K.on bQ
   replace Fg1:=on9 Fg1 bQ
   replace hrun:=on9 hrun bQ
   rw [← hgo] at Fh
   obtain ⟨v',W',hr,r1,r2⟩:=run_apHp X2 V.heap.size i X1.heap.size G.hS (fun k=>pn (G.hn k)) (some ⟨hg,0,none⟩) K.hR.1 Fl (by omega) K.bel.size
   refine rs_ 9 (fun a E=>?_)
   refine stepV rfl rfl (execApHp rfl (E _) (E _) hr) ⟨_,⟨_,rfl,rfl⟩,fun X3 hX3=>?_⟩
   subst hX3
   have hrun3:X3.heap[rb]?=some (.cells (rC G 0 0) 70):=by
    rcases r2 with ⟨b,c,f1,f2,g⟩ | ⟨g,_⟩
    ·rw [g.block rb (Array.getElem?_eq_some_iff.1 hrun).1 (fun w=>?_)]
     ·exact hrun
     ·have h1:=K.hR.2 b (by rw [f1]; rfl)
      have h2:=K.run.1
      rw [hrb] at h2
      cases w
      omega
    ·exact on9 hrun g
   refine rv_ 10 (.pointer (some ⟨rb,0,none⟩)) (fun a E=>Duc.execNl rfl (E _)) (rv_ 11 (.pointer (some ⟨rb,1,none⟩)) (fun a E=>execRf1 rfl (E _)) (rs_ 12 (fun a E=>?_)))
   refine stepS rfl rfl (execSt9 rfl (Or.inr (Or.inr (Or.inr (Or.inr (Or.inr (Or.inl rfl)))))) (E _) (E _) (Or.inr (Or.inr (Or.inr (sl3 (own_shp r1))))) (rC_at (M:=M0) hrun3).2.1 (frozen4 hrun3)) ⟨_,⟨_,rfl,rfl⟩,fun X4 hX4=>?_⟩
   rw [← hrb] at hX4
   obtain ⟨ow',K2,Kz⟩:=K.addH (F:=fun q=>q=hg) (u:=hg) (fun q=>Iff.rfl) hu Fh r1 r2 hX4
   obtain ⟨Kz1,Kz2⟩:=Kz g1 (Array.getElem?_eq_some_iff.1 Fg1).1 hz1 hg1
   have Fg2:X4.heap[g1]?=some (.cells #[cv,tv] 25):=by rw [Kz1]; exact Fg1
   clear hX4 E a hr r1 r2 hrun3
   refine rf_ [] (h4_ t3 t44 t45 t46) ?_
   rintro a A - ⟨t3,t44,t45,t46,-⟩
   refine wi_ A (h4_ t3 t44 t45 t46) (rv_ 0 (.int .i64 ((i+1:Nat):Int)) (fun a E=>execAd8 (p:=i) (q:=1) rfl (E _) rfl (by omega)) (rf_ [(46,.int .i64 ((i+1:Nat):Int))] (h3_ t3 t44 t45) ?_))
   rintro a A ⟨t46,-⟩ ⟨t3,t44,t45,-⟩
   exact ⟨⟨i+1,{ G with hS:=v',hn:=upf G.hn i hg },ow',hlt,hrb,hgo,Kz2,A,t3,t44,t45,t46,Fg2,K2⟩,by show p.n - (intOf (a.eval (.tmp 46))).toNat < p.n - (intOf (Act.eval _ (.tmp 46))).toNat; rw [t46,es]; show p.n - (i+1) < p.n - i; omega⟩
  ·rw [decide_eq_false hlt] at t47
   refine wp_cond_false t47 ?_
   refine wp_exit ?_
   repeat (first | with_reducible refine exit_then ?_ | with_reducible refine exit_out (by decide) ?_)
   refine exit_in ?_
   obtain rfl:i=p.n:=by omega
   clear t47 es t44 t45 t46
   have R0:=K.rn hp (fun t ht=>by rw [hgo]; exact hops t ht)
   refine wp_seq ?_
   rw [← hrb] at t3
   refine wi_ A (h1_ t3) (rc_ 1 (pfind R0) (fun e X5 hh=>?_))
   obtain ⟨he,ow5,S5⟩:=hh
   refine ⟨_,he,?_⟩
   refine rf_ [] (h1_ t3) ?_
   rintro a A - ⟨t3,-⟩
   have R5:=S5.rn
   rw [meetF_is M0_agr] at R5
   refine wp_seq ?_
   refine wi_ A (h1_ t3) (rg_ [(2,.pointer (some ⟨G.rb,0,none⟩))] ?_)
   rintro a A ⟨t2,-⟩
   refine wp_ret ?_
   refine bodyPost_ret (results_tmp rfl _ _ _) A.2 ⟨G,ow5,?_,R5⟩
   show Ending.returned (a.eval (.tmp 2))=_
   rw [t2]
end Go.Proofs.Ytjjegmflllpknaa.Loo
