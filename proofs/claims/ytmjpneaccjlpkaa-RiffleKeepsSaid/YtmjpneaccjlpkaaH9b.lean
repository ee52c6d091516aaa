import Derived.Test.YtmjpneaccjlpkaaF9c
import Derived.Test.YtmjpneaccjlpkaaF9b
import Derived.Test.YtmjpneaccjlpkaaH9a
namespace Go.Proofs.Ytmjpneaccjlpkaa.Drw
open Go.RowKit Gf8 Aes By8 Cel Cf Tap
/- The program's Below. Written by tools/mkH9a.py. -/
set_option maxRecDepth 100000 in
set_option maxHeartbeats 4000000 in
theorem below_bad (p:Nat->Nat) (l at':Nat) (b:Int) (hbd:bad b) (V:World) :
  Calls Try.prog 67 #[.agg (tpC p l at'),.int .i64 b] V fun e w'=>e=.returned (.tuple #[.int .i64 ((dV p l at' b:Nat):Int),.agg (tpC p (if dE p l at' b=0 then l else 0) (dN p l at' b)),.int .i64 ((dE p l at' b:Nat):Int)])/\Below V.heap.size V w':=by
 have hE:dE p l at' b=2:=if_pos hbd
 have hV:dV p l at' b=0:=by unfold dV; rw [if_neg (fun q=>by rw [hE] at q; omega)]
 have hN:dN p l at' b=0:=by unfold dN; rw [if_neg (by rw [hE]; decide)]
 rw [hE,hV,hN]
 rw [if_neg (by decide)]
 obtain ⟨V1,hV1⟩:∃ V1,V1=V.alloc (.cells (tpC p l at') 108):=⟨_,rfl⟩
 obtain ⟨V2,hV2⟩:∃ V2,V2=V1.alloc (.cells (tpC p 0 0) 108):=⟨_,rfl⟩
 have F2:V1.heap[V.heap.size]?=some (.cells (tpC p l at') 108):=by rw [hV1]; exact heapNew V _
 have b1:Below V.heap.size V V1:=by rw [hV1]; exact belNew V _
 have F5:V2.heap[V1.heap.size]?=some (.cells (tpC p 0 0) 108):=by rw [hV2]; exact heapNew V1 _
 have b2:Below V1.heap.size V1 V2:=by rw [hV2]; exact belNew V1 _
 have F2:=on9 F2 b2
 have BB:Below V.heap.size V V2:=b1.trans (b2.mono b1.size)
 have Fn5F2:V.heap.size ≠ V1.heap.size:=by rw [hV1]; simp
 have Fn2F5:V1.heap.size ≠ V.heap.size:=Fn5F2.symm
 have Fge2:V.heap.size<=V.heap.size:=Nat.le_refl _
 have Fge5:V.heap.size<=V1.heap.size:=b1.size
 go_enter Try.func67,Try.ntmps67
 refine wp_seq ?_
 refine wp_region_sqW 49 [(0,2),(1,4),(2,5),(3,6)] (fun i_=>match i_ with | 0=>.pointer (some ⟨V.heap.size,0,none⟩) | 1=>.int .i64 0 | 2=>.pointer (some ⟨V1.heap.size,0,none⟩) | 3=>.int .i64 0 | _=>undef) (fun i_=>match i_ with | 0=>V | 1=>V1 | 2=>V1 | _=>V2) rfl (by kernel_rfl) (by decide) (by decide) ?_ ?_
 ·intro i_ hi_ a hf hv hn
  match i_,hi_ with
  | 0,_=>exact stepV rfl rfl (by rw [hV1]; exact execBoxTp rfl ((hf 0 (by decide)).trans rfl)) ⟨⟨_,rfl,rfl⟩,rfl⟩
  | 1,_=>exact stepV rfl rfl (execAsgB rfl rfl) ⟨⟨_,rfl,rfl⟩,rfl⟩
  | 2,_=>exact stepV rfl rfl (by rw [hV2]; exact execAllTp rfl p) ⟨⟨_,rfl,rfl⟩,rfl⟩
  | 3,_=>exact stepV rfl rfl (execAsgB rfl rfl) ⟨⟨_,rfl,rfl⟩,rfl⟩
  | k_+4,h_=>exact absurd h_ (by simp)
 intro a h1 h2 h3 h4
 have t1:a.eval (.tmp 1)=.int .i64 b:=(h3 1 (by decide)).trans rfl
 have t2:a.eval (.tmp 2)=.pointer (some ⟨V.heap.size,0,none⟩):=h4 0 _ rfl _ rfl
 have t5:a.eval (.tmp 5)=.pointer (some ⟨V1.heap.size,0,none⟩):=h4 2 _ rfl _ rfl
 have A:a.tmps.size=49/\a.defers=[]:=⟨h1,h2⟩
 clear h1 h2 h3 h4 b1 b2 hV1 hV2
 obtain ⟨g2,hg2⟩:∃ g2,g2=V.heap.size:=⟨_,rfl⟩
 obtain ⟨g5,hg5⟩:∃ g5,g5=V1.heap.size:=⟨_,rfl⟩
 rw [← hg5] at F5 Fn5F2 Fn2F5 Fge5 t5
 clear hg5
 have k2:V.heap.size<=g2:=by omega
 rw [← hg2] at F2 Fn5F2 Fn2F5 t2
 clear hg2 Fge2
 have Fge2:=k2
 clear k2
 refine wp_seq (wp_seq ?_)
 refine wi_ A (h3_ t1 t2 t5) (rc_ 1 (isBound_no b V2 hbd) (cb_ fun X1 bQ=>?_))
 replace F2:=(on9 F2 bQ)
 replace F5:=(on9 F5 bQ)
 replace BB:=BB.trans (bQ.mono BB.size)
 clear bQ
 refine rv_ 2 (.bool true) (fun a e=>execNot8 (b:=false) rfl (e _)) (rf_ [(12,.bool true)] (h3_ t1 t2 t5) ?_)
 rintro a A ⟨t12,-⟩ ⟨t1,t2,t5,-⟩
 refine wp_cond_true t12 ?_
 refine wp_seq ?_
 refine wi_ A (h3_ t1 t2 t5) (rv_ 0 (.agg (tpC p 0 0)) (fun a e=>execBldTp rfl p) (rs_ 2 (fun a e=>?_)))
 refine stepS rfl rfl (execStTp rfl (e _) (e _) F5 rfl) ⟨_,⟨_,rfl,rfl⟩,fun X2 hX=>?_⟩
 obtain ⟨BB,F2,F5⟩:Below V.heap.size V X2/\X2.heap[g2]?=some (.cells (tpC p l at') 108)/\X2.heap[g5]?=some (.cells (tpC p 0 0) 108):=by rw [hX]; exact ⟨below4 BB Fge5 _,(by rw [setRow_other _ _ _ _ (Fn5F2)]; exact F2),setRow_heap _ _ _ _ _ _ F5⟩
 clear hX e a
 refine rf_ [(4,.int .i64 ((0:Nat):Int)),(6,.int .i64 ((2:Nat):Int))] (h1_ t5) ?_
 rintro a A ⟨t4,t6,-⟩ ⟨t5,-⟩
 refine wp_ret ?_
 repeat (first | with_reducible refine ret_in ?_ | with_reducible refine ret_then ?_)
 refine bodyPost_ret (results_tct9 (cs:=tpC p 0 0) rfl _ _ g5 108 (0,0) _ t5 F5 Try.underlying108 rfl (size_tp _ _ _)) A.2 ⟨?_,BB⟩
 show Ending.returned (.tuple #[a.eval (.tmp 4),.agg (tpC p 0 0),a.eval (.tmp 6)])=_
 rw [t4,t6]
set_option maxRecDepth 100000 in
set_option maxHeartbeats 4000000 in
theorem below_one (p:Nat->Nat) (l at':Nat)  (V:World) :
  Calls Try.prog 67 #[.agg (tpC p l at'),.int .i64 1] V fun e w'=>e=.returned (.tuple #[.int .i64 ((dV p l at' 1:Nat):Int),.agg (tpC p (if dE p l at' 1=0 then l else 0) (dN p l at' 1)),.int .i64 ((dE p l at' 1:Nat):Int)])/\Below V.heap.size V w':=by
 have hbd:¬ bad 1:=by unfold bad; omega
 have hE:dE p l at' 1=0:=by unfold dE; rw [if_neg (by omega),if_pos rfl]
 have hV:dV p l at' 1=0:=by unfold dV; rw [if_neg (fun q=>q.2 rfl)]
 have hN:dN p l at' 1=at':=by unfold dN; rw [if_pos hE,if_pos rfl]
 rw [hE,hV,hN,if_pos rfl]
 obtain ⟨V1,hV1⟩:∃ V1,V1=V.alloc (.cells (tpC p l at') 108):=⟨_,rfl⟩
 obtain ⟨V2,hV2⟩:∃ V2,V2=V1.alloc (.cells (tpC p 0 0) 108):=⟨_,rfl⟩
 have F2:V1.heap[V.heap.size]?=some (.cells (tpC p l at') 108):=by rw [hV1]; exact heapNew V _
 have b1:Below V.heap.size V V1:=by rw [hV1]; exact belNew V _
 have F5:V2.heap[V1.heap.size]?=some (.cells (tpC p 0 0) 108):=by rw [hV2]; exact heapNew V1 _
 have b2:Below V1.heap.size V1 V2:=by rw [hV2]; exact belNew V1 _
 have F2:=on9 F2 b2
 have BB:Below V.heap.size V V2:=b1.trans (b2.mono b1.size)
 have Fn5F2:V.heap.size ≠ V1.heap.size:=by rw [hV1]; simp
 have Fn2F5:V1.heap.size ≠ V.heap.size:=Fn5F2.symm
 have Fge2:V.heap.size<=V.heap.size:=Nat.le_refl _
 have Fge5:V.heap.size<=V1.heap.size:=b1.size
 go_enter Try.func67,Try.ntmps67
 refine wp_seq ?_
 refine wp_region_sqW 49 [(0,2),(1,4),(2,5),(3,6)] (fun i_=>match i_ with | 0=>.pointer (some ⟨V.heap.size,0,none⟩) | 1=>.int .i64 0 | 2=>.pointer (some ⟨V1.heap.size,0,none⟩) | 3=>.int .i64 0 | _=>undef) (fun i_=>match i_ with | 0=>V | 1=>V1 | 2=>V1 | _=>V2) rfl (by kernel_rfl) (by decide) (by decide) ?_ ?_
 ·intro i_ hi_ a hf hv hn
  match i_,hi_ with
  | 0,_=>exact stepV rfl rfl (by rw [hV1]; exact execBoxTp rfl ((hf 0 (by decide)).trans rfl)) ⟨⟨_,rfl,rfl⟩,rfl⟩
  | 1,_=>exact stepV rfl rfl (execAsgB rfl rfl) ⟨⟨_,rfl,rfl⟩,rfl⟩
  | 2,_=>exact stepV rfl rfl (by rw [hV2]; exact execAllTp rfl p) ⟨⟨_,rfl,rfl⟩,rfl⟩
  | 3,_=>exact stepV rfl rfl (execAsgB rfl rfl) ⟨⟨_,rfl,rfl⟩,rfl⟩
  | k_+4,h_=>exact absurd h_ (by simp)
 intro a h1 h2 h3 h4
 have t1:a.eval (.tmp 1)=.int .i64 1:=(h3 1 (by decide)).trans rfl
 have t2:a.eval (.tmp 2)=.pointer (some ⟨V.heap.size,0,none⟩):=h4 0 _ rfl _ rfl
 have t5:a.eval (.tmp 5)=.pointer (some ⟨V1.heap.size,0,none⟩):=h4 2 _ rfl _ rfl
 have A:a.tmps.size=49/\a.defers=[]:=⟨h1,h2⟩
 clear h1 h2 h3 h4 b1 b2 hV1 hV2
 obtain ⟨g2,hg2⟩:∃ g2,g2=V.heap.size:=⟨_,rfl⟩
 obtain ⟨g5,hg5⟩:∃ g5,g5=V1.heap.size:=⟨_,rfl⟩
 rw [← hg5] at F5 Fn5F2 Fn2F5 Fge5 t5
 clear hg5
 have k2:V.heap.size<=g2:=by omega
 rw [← hg2] at F2 Fn5F2 Fn2F5 t2
 clear hg2 Fge2
 have Fge2:=k2
 clear k2
 refine wp_seq (wp_seq ?_)
 refine wi_ A (h3_ t1 t2 t5) (rc_ 1 (isBound_yes 1 V2 hbd) (cb_ fun X1 bQ=>?_))
 replace F2:=(on9 F2 bQ)
 replace F5:=(on9 F5 bQ)
 replace BB:=BB.trans (bQ.mono BB.size)
 clear bQ
 refine rv_ 2 (.bool false) (fun a e=>execNot8 (b:=true) rfl (e _)) (rf_ [(12,.bool false)] (h3_ t1 t2 t5) ?_)
 rintro a A ⟨t12,-⟩ ⟨t1,t2,t5,-⟩
 refine wp_cond_false t12 (wp_skip ?_)
 clear t12
 replace t1:a.eval (.tmp 1)=.int .i64 ((1:Nat):Int):=t1
 refine wp_seq (wp_seq ?_)
 refine wi_ A (h3_ t1 t2 t5) (rv_ 1 (.bool true) (fun a e=>execDec (execEqN (p:=1) (q:=1) rfl (e _) rfl) (decide_eq_true (by rfl))) (rf_ [(15,.bool true)] (h2_ t2 t5) ?_))
 rintro a A ⟨t15,-⟩ ⟨t2,t5,-⟩
 refine wp_cond_true t15 ?_
 refine wp_seq ?_
 clear t15
 refine wj_ [0,1,2,3] [2] [0] [2] A (h2_ t2 t5) (fun X4_0 bD=>?_)
 refine dv_ 0 (.agg (tpC p l at')) (fun a X e hb=>execLdTp rfl (e _) (on9 F2 hb)) (ds_ 2 (fun a e=>?_))
 refine stepS rfl rfl (execStTp rfl (e _) (e _) (on9 F5 bD) rfl) ⟨_,⟨_,rfl,rfl⟩,fun X4 hX=>?_⟩
 obtain ⟨BB,F2,F5s⟩:Below V.heap.size V X4/\X4.heap[g2]?=some (.cells (tpC p l at') 108)/\X4.heap[g5]?=some (.cells (tpC p l at') 108):=by rw [hX]; exact ⟨below4 (BB.trans (bD.mono BB.size)) Fge5 _,(by rw [setRow_other _ _ _ _ (Fn5F2)]; exact (on9 F2 bD)),setRow_heap _ _ _ _ _ _ (on9 F5 bD)⟩
 clear hX e a F5 bD
 refine ⟨Or.inl rfl,?_⟩
 refine dz_ [(4,.int .i64 ((0:Nat):Int)),(6,.int .i64 ((0:Nat):Int))] (h1_ t5) ?_
 rintro a A ⟨t4,t6,-⟩ ⟨t5,-⟩
 refine wp_ret ?_
 repeat (first | with_reducible refine ret_in ?_ | with_reducible refine ret_then ?_)
 refine bodyPost_ret (results_tct9 (cs:=tpC p l at') rfl _ _ g5 108 (0,0) _ t5 F5s Try.underlying108 rfl (size_tp _ _ _)) A.2 ⟨?_,BB⟩
 show Ending.returned (.tuple #[a.eval (.tmp 4),.agg (tpC p l at'),a.eval (.tmp 6)])=_
 rw [t4,t6]
set_option maxRecDepth 100000 in
set_option maxHeartbeats 4000000 in
theorem below_ok (p:Nat->Nat) (l at':Nat) (b:Nat) (hb2:2<=b) (hb:b<=256) (V:World) (hat:at'<=l) (hl:l<=140737488351232) (hp:∀ j,j < l->p j < 256) :
  Calls Try.prog 67 #[.agg (tpC p l at'),.int .i64 ((b:Nat):Int)] V fun e w'=>e=.returned (.tuple #[.int .i64 ((dV p l at' ((b:Nat):Int):Nat):Int),.agg (tpC p (if dE p l at' ((b:Nat):Int)=0 then l else 0) (dN p l at' ((b:Nat):Int))),.int .i64 ((dE p l at' ((b:Nat):Int):Nat):Int)])/\Below V.heap.size V w':=by
 have hbd:¬ bad (b:Int):=by unfold bad; omega
 obtain ⟨V1,hV1⟩:∃ V1,V1=V.alloc (.cells (tpC p l at') 108):=⟨_,rfl⟩
 obtain ⟨V2,hV2⟩:∃ V2,V2=V1.alloc (.cells (tpC p 0 0) 108):=⟨_,rfl⟩
 have F2:V1.heap[V.heap.size]?=some (.cells (tpC p l at') 108):=by rw [hV1]; exact heapNew V _
 have b1:Below V.heap.size V V1:=by rw [hV1]; exact belNew V _
 have F5:V2.heap[V1.heap.size]?=some (.cells (tpC p 0 0) 108):=by rw [hV2]; exact heapNew V1 _
 have b2:Below V1.heap.size V1 V2:=by rw [hV2]; exact belNew V1 _
 have F2:=on9 F2 b2
 have BB:Below V.heap.size V V2:=b1.trans (b2.mono b1.size)
 have Fn5F2:V.heap.size ≠ V1.heap.size:=by rw [hV1]; simp
 have Fn2F5:V1.heap.size ≠ V.heap.size:=Fn5F2.symm
 have Fge2:V.heap.size<=V.heap.size:=Nat.le_refl _
 have Fge5:V.heap.size<=V1.heap.size:=b1.size
 go_enter Try.func67,Try.ntmps67
 refine wp_seq ?_
 refine wp_region_sqW 49 [(0,2),(1,4),(2,5),(3,6)] (fun i_=>match i_ with | 0=>.pointer (some ⟨V.heap.size,0,none⟩) | 1=>.int .i64 0 | 2=>.pointer (some ⟨V1.heap.size,0,none⟩) | 3=>.int .i64 0 | _=>undef) (fun i_=>match i_ with | 0=>V | 1=>V1 | 2=>V1 | _=>V2) rfl (by kernel_rfl) (by decide) (by decide) ?_ ?_
 ·intro i_ hi_ a hf hv hn
  match i_,hi_ with
  | 0,_=>exact stepV rfl rfl (by rw [hV1]; exact execBoxTp rfl ((hf 0 (by decide)).trans rfl)) ⟨⟨_,rfl,rfl⟩,rfl⟩
  | 1,_=>exact stepV rfl rfl (execAsgB rfl rfl) ⟨⟨_,rfl,rfl⟩,rfl⟩
  | 2,_=>exact stepV rfl rfl (by rw [hV2]; exact execAllTp rfl p) ⟨⟨_,rfl,rfl⟩,rfl⟩
  | 3,_=>exact stepV rfl rfl (execAsgB rfl rfl) ⟨⟨_,rfl,rfl⟩,rfl⟩
  | k_+4,h_=>exact absurd h_ (by simp)
 intro a h1 h2 h3 h4
 have t1:a.eval (.tmp 1)=.int .i64 ((b:Nat):Int):=(h3 1 (by decide)).trans rfl
 have t2:a.eval (.tmp 2)=.pointer (some ⟨V.heap.size,0,none⟩):=h4 0 _ rfl _ rfl
 have t5:a.eval (.tmp 5)=.pointer (some ⟨V1.heap.size,0,none⟩):=h4 2 _ rfl _ rfl
 have A:a.tmps.size=49/\a.defers=[]:=⟨h1,h2⟩
 clear h1 h2 h3 h4 b1 b2 hV1 hV2
 obtain ⟨g2,hg2⟩:∃ g2,g2=V.heap.size:=⟨_,rfl⟩
 obtain ⟨g5,hg5⟩:∃ g5,g5=V1.heap.size:=⟨_,rfl⟩
 rw [← hg5] at F5 Fn5F2 Fn2F5 Fge5 t5
 clear hg5
 have k2:V.heap.size<=g2:=by omega
 rw [← hg2] at F2 Fn5F2 Fn2F5 t2
 clear hg2 Fge2
 have Fge2:=k2
 clear k2
 refine wp_seq (wp_seq ?_)
 refine wi_ A (h3_ t1 t2 t5) (rc_ 1 (isBound_yes ((b:Nat):Int) V2 hbd) (cb_ fun X1 bQ=>?_))
 replace F2:=(on9 F2 bQ)
 replace F5:=(on9 F5 bQ)
 replace BB:=BB.trans (bQ.mono BB.size)
 clear bQ
 refine rv_ 2 (.bool false) (fun a e=>execNot8 (b:=true) rfl (e _)) (rf_ [(12,.bool false)] (h3_ t1 t2 t5) ?_)
 rintro a A ⟨t12,-⟩ ⟨t1,t2,t5,-⟩
 refine wp_cond_false t12 (wp_skip ?_)
 clear t12
 refine wp_seq (wp_seq ?_)
 refine wi_ A (h3_ t1 t2 t5) (rv_ 1 (.bool false) (fun a e=>execDec (execEqN (p:=b) (q:=1) rfl (e _) rfl) (decide_eq_false (by omega))) (rf_ [(15,.bool false)] (h3_ t1 t2 t5) ?_))
 rintro a A ⟨t15,-⟩ ⟨t1,t2,t5,-⟩
 refine wp_cond_false t15 (wp_skip ?_)
 clear t15
 refine wp_seq ?_
 refine wi_ A (h3_ t1 t2 t5) (rv_ 1 (.int .i64 ((256 % b:Nat):Int)) (fun a e=>Aes.execRemI (p:=256) (q:=b) rfl rfl (e _) (by omega)) (rv_ 2 (.int .i64 ((256 - (256 % b):Nat):Int)) (fun a e=>By8.execSubI (p:=256) (q:=256 % b) rfl rfl (e _) (by have:=Nat.mod_le 256 b; omega) (by omega)) (rf_ [(7,.int .i64 ((256 - (256 % b):Nat):Int))] (h3_ t1 t2 t5) ?_)))
 rintro a A ⟨t7,-⟩ ⟨t1,t2,t5,-⟩
 refine wp_seq ?_
 refine wi_ A (h4_ t1 t2 t5 t7) (rv_ 0 (.agg (tpC p l at')) (fun a e=>execLdTp rfl (e _) F2) (rc_ 1 (byte_any p l at' X1 (by omega) hl hp) (cb_ fun X6_1 bQ=>?_)))
 replace F2:=(on9 F2 bQ)
 replace F5:=(on9 F5 bQ)
 replace BB:=BB.trans (bQ.mono BB.size)
 clear bQ
 refine rs_ 7 (fun a e=>?_)
 refine stepS rfl rfl (execStTp rfl (e _) (e _) F2 rfl) ⟨_,⟨_,rfl,rfl⟩,fun X6 hX=>?_⟩
 obtain ⟨BB,F5,F2⟩:Below V.heap.size V X6/\X6.heap[g5]?=some (.cells (tpC p 0 0) 108)/\X6.heap[g2]?=some (.cells (tpC p (bL l at') (bN l at')) 108):=by rw [hX]; exact ⟨below4 BB Fge2 _,(by rw [setRow_other _ _ _ _ (Fn2F5)]; exact F5),setRow_heap _ _ _ _ _ _ F2⟩
 clear hX e a
 refine rf_ [(8,.int .u8 ((bV p l at':Nat):Int)),(9,.int .i64 ((bE l at':Nat):Int))] (h4_ t1 t2 t5 t7) ?_
 rintro a A ⟨t8,t9,-⟩ ⟨t1,t2,t5,t7,-⟩
 refine wp_seq (wp_block ?_)
 refine wp_loop (fun a W=>∃ i:Nat,at'<=i/\i<=l/\scan p b (l - i) i=scan p b (l - at') at'/\(a.tmps.size=49/\a.defers=[])/\a.eval (.tmp 1)=.int .i64 ((b:Nat):Int)/\a.eval (.tmp 2)=.pointer (some ⟨g2,0,none⟩)/\a.eval (.tmp 5)=.pointer (some ⟨g5,0,none⟩)/\a.eval (.tmp 7)=.int .i64 ((256 - (256 % b):Nat):Int)/\a.eval (.tmp 8)=.int .u8 ((bV p l i:Nat):Int)/\a.eval (.tmp 9)=.int .i64 ((bE l i:Nat):Int)/\Below V.heap.size V W/\W.heap[g2]?=some (.cells (tpC p (bL l i) (bN l i)) 108)/\W.heap[g5]?=some (.cells (tpC p 0 0) 108)) (fun a W=>if intOf (a.eval (.tmp 9))=0 then l+1 - plOf W g2 else 0) ⟨at',Nat.le_refl _,hat,rfl,A,t1,t2,t5,t7,t8,t9,BB,F2,F5⟩ ?_
 rintro a XL ⟨i,hai,hil,hsc,A,t1,t2,t5,t7,t8,t9,BB,F2,F5⟩
 refine wp_seq (wp_seq ?_)
 have hv256:bV p l i < 256:=by
  unfold bV
  by_cases q:i < l
  ·rw [if_pos q]; exact hp i q
  ·rw [if_neg q]; omega
 by_cases hlt:i < l
 ·have eV:bV p l i=p i:=if_pos hlt
  have eL:bL l i=l:=if_pos hlt
  have eN:bN l i=i+1:=if_pos hlt
  have eE:bE l i=0:=if_pos hlt
  rw [eL,eN] at F2
  rw [eE] at t9
  rw [eV] at t8 hv256
  have hstep:scan p b (l - i) i=if p i / b < 256 / b then i else scan p b (l - (i+1)) (i+1):=by rw [show l - i=(l - (i+1))+1 by omega]; rfl
  have htop:=top_iff (p i) b (by omega)
  by_cases hq:p i / b < 256 / b
  ·rw [if_pos hq] at hstep
   refine wi_ A (h6_ t1 t2 t5 t7 t8 t9) (rv_ 1 (.bool true) (fun a e=>execDec (execEqE (p:=0) (q:=0) rfl (e _) rfl) (decide_eq_true (by rfl))) (rv_ 4 (.int .i64 ((p i:Nat):Int)) (fun a e=>execCv53 rfl (e _) hv256) (rv_ 6 (.bool false) (fun a e=>execDec (execGe8 (p:=p i) (q:=256 - (256 % b)) rfl (e _) (e _)) (decide_eq_false (by have:=htop.2 hq; omega))) (rf_ [(33,.bool false)] (h6_ t1 t2 t5 t7 t8 t9) ?_))))
   rintro a A ⟨t33,-⟩ ⟨t1,t2,t5,t7,t8,t9,-⟩
   refine wp_cond_false t33 ?_
   refine wp_exit ?_
   first | with_reducible refine exit_in ?_ | with_reducible refine exit_then (exit_in ?_) | with_reducible refine exit_then (exit_then (exit_in ?_)) | refine exit_in ?_ | refine exit_then (exit_in ?_) | refine exit_then (exit_then (exit_in ?_))
   clear t33
   refine wp_seq (wp_seq ?_)
   refine wi_ A (h6_ t1 t2 t5 t7 t8 t9) (rv_ 1 (.bool false) (fun a e=>execDec (execNeE (p:=0) (q:=0) rfl (e _) rfl) (decide_eq_false (by omega))) (rf_ [(41,.bool false)] (h4_ t1 t2 t5 t8) ?_))
   rintro a A ⟨t41,-⟩ ⟨t1,t2,t5,t8,-⟩
   refine wp_cond_false t41 (wp_skip ?_)
   clear t41
   refine wp_seq ?_
   refine wj_ [0,1,2,3,4,5,6,7] [6] [4] [6] A (h4_ t1 t2 t5 t8) (fun X11_0 bD=>?_)
   refine dw_ 1 (.int .i64 ((p i:Nat):Int)) (fun a X e=>execCv53 rfl (e _) hv256) (dw_ 3 (.int .i64 (((p i) % b:Nat):Int)) (fun a X e=>Aes.execRemI (p:=p i) (q:=b) rfl (e _) (e _) (by omega)) (dv_ 4 (.agg (tpC p l (i+1))) (fun a X e hb=>execLdTp rfl (e _) (on9 F2 hb)) (ds_ 6 (fun a e=>?_))))
   refine stepS rfl rfl (execStTp rfl (e _) (e _) (on9 F5 bD) rfl) ⟨_,⟨_,rfl,rfl⟩,fun X11 hX=>?_⟩
   obtain ⟨BB,F2,F5s⟩:Below V.heap.size V X11/\X11.heap[g2]?=some (.cells (tpC p l (i+1)) 108)/\X11.heap[g5]?=some (.cells (tpC p l (i+1)) 108):=by rw [hX]; exact ⟨below4 (BB.trans (bD.mono BB.size)) Fge5 _,(by rw [setRow_other _ _ _ _ (Fn5F2)]; exact (on9 F2 bD)),setRow_heap _ _ _ _ _ _ (on9 F5 bD)⟩
   clear hX e a F5 bD
   refine ⟨Or.inl rfl,?_⟩
   refine dz_ [(4,.int .i64 (((p i) % b:Nat):Int)),(6,.int .i64 ((0:Nat):Int))] (h1_ t5) ?_
   rintro a A ⟨t4,t6,-⟩ ⟨t5,-⟩
   have hS:dS p l at' (b:Int)=i:=by show scan p (b:Int).toNat (l - at') at'=i; rw [Int.toNat_natCast,← hsc,hstep]
   have hE:dE p l at' (b:Int)=0:=by unfold dE; rw [if_neg (by omega),if_neg (by omega),hS,if_pos hlt]
   have hV:dV p l at' (b:Int)=p i % b:=by unfold dV; rw [if_pos ⟨hE,by omega⟩,hS,Int.toNat_natCast]
   have hN:dN p l at' (b:Int)=i+1:=by unfold dN; rw [if_pos hE,if_neg (by omega),hS]
   rw [hE,hV,hN,if_pos rfl]
   refine wp_ret ?_
   repeat (first | with_reducible refine ret_in ?_ | with_reducible refine ret_then ?_)
   refine bodyPost_ret (results_tct9 (cs:=tpC p l (i+1)) rfl _ _ g5 108 (0,0) _ t5 F5s Try.underlying108 rfl (size_tp _ _ _)) A.2 ⟨?_,BB⟩
   show Ending.returned (.tuple #[a.eval (.tmp 4),.agg (tpC p l (i+1)),a.eval (.tmp 6)])=_
   rw [t4,t6]
  ·have eμ:(if intOf (a.eval (.tmp 9))=0 then l+1 - plOf XL g2 else 0)=l - i:=by rw [t9,plOf_tp F2]; show (if ((0:Nat):Int)=0 then l+1 - (i+1) else 0)=l - i; rw [if_pos (by decide)]; omega
   rw [if_neg hq] at hstep
   refine wi_ A (h6_ t1 t2 t5 t7 t8 t9) (rv_ 1 (.bool true) (fun a e=>execDec (execEqE (p:=0) (q:=0) rfl (e _) rfl) (decide_eq_true (by rfl))) (rv_ 4 (.int .i64 ((p i:Nat):Int)) (fun a e=>execCv53 rfl (e _) hv256) (rv_ 6 (.bool true) (fun a e=>execDec (execGe8 (p:=p i) (q:=256 - (256 % b)) rfl (e _) (e _)) (decide_eq_true (by have:=fun q=>hq (htop.1 q); omega))) (rf_ [(33,.bool true)] (h6_ t1 t2 t5 t7 t8 t9) ?_))))
   rintro a A ⟨t33,-⟩ ⟨t1,t2,t5,t7,t8,t9,-⟩
   refine wp_cond_true t33 (wp_skip ?_)
   clear t33
   refine wp_block ?_
   refine wi_ A (h6_ t1 t2 t5 t7 t8 t9) (rv_ 0 (.agg (tpC p l (i+1))) (fun a e=>execLdTp rfl (e _) F2) (rc_ 1 (byte_any p l (i+1) XL (by omega) hl hp) (cb_ fun X8_1 bQ=>?_)))
   replace F2:=(on9 F2 bQ)
   replace F5:=(on9 F5 bQ)
   replace BB:=BB.trans (bQ.mono BB.size)
   clear bQ
   refine rs_ 7 (fun a e=>?_)
   refine stepS rfl rfl (execStTp rfl (e _) (e _) F2 rfl) ⟨_,⟨_,rfl,rfl⟩,fun X8 hX=>?_⟩
   obtain ⟨BB,F5,F2⟩:Below V.heap.size V X8/\X8.heap[g5]?=some (.cells (tpC p 0 0) 108)/\X8.heap[g2]?=some (.cells (tpC p (bL l (i+1)) (bN l (i+1))) 108):=by rw [hX]; exact ⟨below4 BB Fge2 _,(by rw [setRow_other _ _ _ _ (Fn2F5)]; exact F5),setRow_heap _ _ _ _ _ _ F2⟩
   clear hX e a
   refine rf_ [(8,.int .u8 ((bV p l (i+1):Nat):Int)),(9,.int .i64 ((bE l (i+1):Nat):Int))] (h4_ t1 t2 t5 t7) ?_
   rintro a A ⟨t8,t9,-⟩ ⟨t1,t2,t5,t7,-⟩
   refine ⟨⟨i+1,by omega,hlt,by rw [← hstep,hsc],A,t1,t2,t5,t7,t8,t9,BB,F2,F5⟩,Nat.lt_of_lt_of_eq (m:=l - i) ?_ eμ.symm⟩
   show (if intOf (a.eval (.tmp 9))=0 then l+1 - plOf X8 g2 else 0) < l - i
   rw [t9,plOf_tp F2]
   show (if ((bE l (i+1):Nat):Int)=0 then l+1 - bN l (i+1) else 0) < l - i
   unfold bE bN
   by_cases q:i+1 < l
   ·rw [if_pos q,if_pos q,if_pos (by decide)]; omega
   ·rw [if_neg q,if_neg q,if_neg (by decide)]; omega
 ·have eE:bE l i=3:=if_neg hlt
  rw [eE] at t9
  refine wi_ A (h6_ t1 t2 t5 t7 t8 t9) (rv_ 1 (.bool false) (fun a e=>execDec (execEqE (p:=3) (q:=0) rfl (e _) rfl) (decide_eq_false (by decide))) (rf_ [(33,.bool false)] (h4_ t1 t2 t5 t9) ?_))
  rintro a A ⟨t33,-⟩ ⟨t1,t2,t5,t9,-⟩
  refine wp_cond_false t33 ?_
  refine wp_exit ?_
  first | with_reducible refine exit_in ?_ | with_reducible refine exit_then (exit_in ?_) | with_reducible refine exit_then (exit_then (exit_in ?_)) | refine exit_in ?_ | refine exit_then (exit_in ?_) | refine exit_then (exit_then (exit_in ?_))
  clear t33
  refine wp_seq (wp_seq ?_)
  refine wi_ A (h4_ t1 t2 t5 t9) (rv_ 1 (.bool true) (fun a e=>execDec (execNeE (p:=3) (q:=0) rfl (e _) rfl) (decide_eq_true (by decide))) (rf_ [(41,.bool true)] (h4_ t1 t2 t5 t9) ?_))
  rintro a A ⟨t41,-⟩ ⟨t1,t2,t5,t9,-⟩
  refine wp_cond_true t41 ?_
  refine wp_seq ?_
  clear t41
  refine wi_ A (h4_ t1 t2 t5 t9) (rv_ 0 (.agg (tpC p 0 0)) (fun a e=>execBldTp rfl p) (rs_ 3 (fun a e=>?_)))
  refine stepS rfl rfl (execStTp rfl (e _) (e _) F5 rfl) ⟨_,⟨_,rfl,rfl⟩,fun X10 hX=>?_⟩
  obtain ⟨BB,F2,F5⟩:Below V.heap.size V X10/\X10.heap[g2]?=some (.cells (tpC p (bL l i) (bN l i)) 108)/\X10.heap[g5]?=some (.cells (tpC p 0 0) 108):=by rw [hX]; exact ⟨below4 BB Fge5 _,(by rw [setRow_other _ _ _ _ (Fn5F2)]; exact F2),setRow_heap _ _ _ _ _ _ F5⟩
  clear hX e a
  refine rf_ [(4,.int .i64 ((0:Nat):Int)),(6,.int .i64 ((3:Nat):Int))] (h1_ t5) ?_
  rintro a A ⟨t4,t6,-⟩ ⟨t5,-⟩
  have hS:dS p l at' (b:Int)=l:=by
   show scan p (b:Int).toNat (l - at') at'=l
   rw [Int.toNat_natCast,← hsc,show l - i=0 by omega]
   show i=l
   omega
  have hE:dE p l at' (b:Int)=3:=by unfold dE; rw [if_neg (by omega),if_neg (by omega),hS,if_neg (Nat.lt_irrefl _)]
  have hV:dV p l at' (b:Int)=0:=by unfold dV; rw [if_neg (fun q=>by rw [hE] at q; omega)]
  have hN:dN p l at' (b:Int)=0:=by unfold dN; rw [if_neg (by rw [hE]; decide)]
  rw [hE,hV,hN,if_neg (by decide)]
  refine wp_ret ?_
  repeat (first | with_reducible refine ret_in ?_ | with_reducible refine ret_then ?_)
  refine bodyPost_ret (results_tct9 (cs:=tpC p 0 0) rfl _ _ g5 108 (0,0) _ t5 F5 Try.underlying108 rfl (size_tp _ _ _)) A.2 ⟨?_,BB⟩
  show Ending.returned (.tuple #[a.eval (.tmp 4),.agg (tpC p 0 0),a.eval (.tmp 6)])=_
  rw [t4,t6]
theorem pbelow_any (p:Nat->Nat) (l at':Nat) (b:Int) (V:World) (hat:at'<=l) (hl:l<=140737488351232) (hp:∀ j,j < l->p j < 256) :
  Calls Try.prog 67 #[.agg (tpC p l at'),.int .i64 b] V fun e w'=>e=.returned (.tuple #[.int .i64 ((dV p l at' b:Nat):Int),.agg (tpC p (if dE p l at' b=0 then l else 0) (dN p l at' b)),.int .i64 ((dE p l at' b:Nat):Int)])/\Below V.heap.size V w':=by
 by_cases h:bad b
 ·exact below_bad p l at' b h V
 ·by_cases h1:b=1
  ·subst h1
   exact below_one p l at' V
  ·obtain ⟨c,rfl⟩:∃ c:Nat,b=c:=⟨b.toNat,by unfold bad at h; omega⟩
   exact below_ok p l at' c (by unfold bad at h; omega) (by unfold bad at h; omega) V hat hl hp
end Go.Proofs.Ytmjpneaccjlpkaa.Drw
