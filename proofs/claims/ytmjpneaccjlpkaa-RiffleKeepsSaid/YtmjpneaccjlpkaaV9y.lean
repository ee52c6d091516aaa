import Derived.Test.YtmjpneaccjlpkaaF9c
import Derived.Test.YtmjpneaccjlpkaaF9b
import Derived.Test.YtmjpneaccjlpkaaV9v
namespace Go.Proofs.Ytmjpneaccjlpkaa.Tap
open Go.RowKit Gf8 Aes By8 Cel Cf
/- The reference's Split. Written by tools/mkV9x.py. -/
section
variable {o:Oper} {a:Act} {w:World}
theorem execStF0 {x y:Operand} {g:Nat} {n b c u:Value} {t:TypeId} (ho:o.op=.store 23 x y) (hx:a.eval x=.pointer (some ⟨g,0,none⟩)) (hy:a.eval y=u) (hu:∃ g n c,u=.slice g n c) (hg:w.heap[g]?=some (.cells (ptC n b c) t)):(execOp a.eval o).run Try.prog w=.ok .skip (w.setRow g (ptC u b c)):=by
 have h:=execStL ho hx hy hu (ptC_at hg).1 (frozen4 hg)
 rw [setCell_eq_setRow w g 0 _ _ _ u hg] at h
 exact h
theorem execStF1 {x y:Operand} {g:Nat} {n b c u:Value} {t:TypeId} (ho:o.op=.store 23 x y) (hx:a.eval x=.pointer (some ⟨g,1,none⟩)) (hy:a.eval y=u) (hu:∃ g n c,u=.slice g n c) (hg:w.heap[g]?=some (.cells (ptC n b c) t)):(execOp a.eval o).run Try.prog w=.ok .skip (w.setRow g (ptC n u c)):=by
 have h:=execStL ho hx hy hu (ptC_at hg).2.1 (frozen4 hg)
 rw [setCell_eq_setRow w g 1 _ _ _ u hg] at h
 exact h
theorem execStLL {x v:Operand} {b k:Nat} {u old:Value} (ho:o.op=.store 53 x v) (hx:a.eval x=.pointer (some ⟨b,k,none⟩)) (hv:a.eval v=u) (hu:∃ g n c,u=.slice g n c) (hc:w.cell? ⟨b,k,none⟩=some old) (hf:w.frozen? ⟨b,k,none⟩=false):(execOp a.eval o).run Try.prog w=.ok .skip (w.setCell ⟨b,k,none⟩ u):=by
 obtain ⟨g,n,c,rfl⟩:=hu
 unfold execOp
 simp only [ho,hx,hv]
 simp [go_sem,hc,hf]
theorem execStF2 {x y:Operand} {g:Nat} {n b c u:Value} {t:TypeId} (ho:o.op=.store 53 x y) (hx:a.eval x=.pointer (some ⟨g,2,none⟩)) (hy:a.eval y=u) (hu:∃ g n c,u=.slice g n c) (hg:w.heap[g]?=some (.cells (ptC n b c) t)):(execOp a.eval o).run Try.prog w=.ok .skip (w.setRow g (ptC n b u)):=by
 have h:=execStLL ho hx hy hu (ptC_at hg).2.2 (frozen4 hg)
 rw [setCell_eq_setRow w g 2 _ _ _ u hg] at h
 exact h
end
theorem fam_setR {W:World} {B m g:Nat} {x:Nat->Value} {nn:Nat->Nat} {ff:Nat->Nat->Nat} {cur c:Array Value} {t:TypeId} (h:Fam B m x nn ff W) (hg:W.heap[g]?=some (.cells cur t)) (h5:t ≠ 5):Fam B m x nn ff (W.setRow g c):=
 ⟨fun t ht=>own_setR (h.rows t ht) hg h5,h.dis⟩
theorem heap_overL {W W':World} {B n s:Nat} {v:Value} {xs:List Value} {g:Nat} {c:Array Value} {t u:TypeId} {fr:Nat × Nat} (h:W.ownsRow B u s v n xs) (hg:W.grownBy W' v.ownBlock) (hh:W.heap[g]?=some (.cells c t fr)) (ht:t ≠ u):W'.heap[g]?=some (.cells c t fr):=by
 rw [hg.block g (Array.getElem?_eq_some_iff.1 hh).1 (fun q=>?_)]
 ·exact hh
 ·rcases h.2 with ⟨rfl,_⟩ | ⟨k,cap,cur,rfl,_,h1,_⟩
  ·cases q
  ·obtain rfl:g=k:=by simpa [Value.ownBlock] using q
   rw [h1] at hh
   injection hh with hh
   injection hh with _ hh _
   exact ht hh.symm
theorem sliced_some {a b:Option Addr} {l h m n c:Nat} (ha:a ≠ none) (e:sliced a l h m 1=.slice b n c):b ≠ none:=by
 unfold sliced at e
 injection e with e _ _
 rw [← e]
 cases a with
 | none=>exact absurd rfl ha
 | some x=>
  by_cases q:m=l
  ·rw [if_pos q]; intro h; cases h
  ·rw [if_neg q]; intro h; cases h
theorem fam_two {W:World} {B:Nat} {nn:Nat->Nat} {ff:Nat->Nat->Nat} {nv bv:Value} (h:Fam B (0+1+1) (updX (updX (fun _=>undef) 0 nv) (0+1) bv) nn ff W) (x:Nat->Value):Fam B (2+0) (ptX nv bv x) nn ff W:=by
 have e:∀ t,t < 2->updX (updX (fun _=>undef) 0 nv) (0+1) bv t=ptX nv bv x t:=fun t ht=>by
  have:t=0\/t=1:=by omega
  rcases this with rfl | rfl <;> rfl
 exact ⟨fun t ht=>by rw [← e t ht]; exact h.rows t ht,fun s t hs ht hst=>by rw [← e s hs,← e t ht]; exact h.dis s t hs ht hst⟩
theorem fam_more {W W':World} {B i ln lb lq:Nat} {nv bv r:Value} {x:Nat->Value} {f:Nat->Nat} (h:Fam B (2+i) (ptX nv bv x) (ptN ln lb lq) (ptF f ln lb lq) W) (hb:Below W.heap.size W W') (hB:B<=W.heap.size) (hr:W'.ownsRow W.heap.size 5 1 r lq (bytesL lq fun j=>f (ln+lb+i * lq+j))):Fam B (2+(i+1)) (ptX nv bv (updX x i r)) (ptN ln lb lq) (ptF f ln lb lq) W':=by
 have e1:ptN ln lb lq (2+i)=lq:=by unfold ptN; rw [if_neg (by omega),if_neg (by omega)]
 have e2:ptF f ln lb lq (2+i)=fun j=>f (ln+lb+i * lq+j):=by
  funext j
  unfold ptF
  rw [if_neg (by omega),if_neg (by omega),Nat.add_sub_cancel_left]
 have h2:=h.add hb hB (r:=r) (by rw [e1,e2]; exact hr)
 have e3:updX (ptX nv bv x) (2+i) r=ptX nv bv (updX x i r):=by
  funext t
  unfold updX ptX
  by_cases e:t=2+i
  ·subst e
   rw [if_pos rfl,if_neg (by omega),if_neg (by omega),Nat.add_sub_cancel_left]
   show r=if i=i then r else x i
   rw [if_pos rfl]
  ·rw [if_neg e]
   by_cases e0:t=0
   ·rw [if_pos e0,if_pos e0]
   ·rw [if_neg e0,if_neg e0]
    by_cases e1:t=1
    ·rw [if_pos e1,if_pos e1]
    ·rw [if_neg e1,if_neg e1]
     show x (t - 2)=if t - 2=i then r else x (t - 2)
     rw [if_neg (by omega)]
 rw [e3] at h2
 exact h2
set_option maxRecDepth 100000 in
set_option maxHeartbeats 4000000 in
theorem rsplit_ok (f:Nat->Nat) (len n:Nat) (v:Value) (V:World) (hv:SliceN V v len f) (hl:len<=140737488351232) (hn0:0 < n) (hn64:n<=64) (h18:18<=len) (H q:Nat) (eH:(len - 18) / 2=H) (eq:(len - 18 - H) / n=q) :
  Calls Try.prog 29 #[v,.int .i64 (n:Int)] V fun e w'=>∃ nv bv cv x,e=.returned (.tuple #[.agg (ptC nv bv cv),.int .i64 ((0:Nat):Int)])/\PtS w' V.heap.size n nv bv cv x 18 H q f/\Below V.heap.size V w':=by
 obtain ⟨R,hR⟩:∃ R,len - 18=R:=⟨_,rfl⟩
 rw [hR] at eH eq
 have hH:R / 2=H:=eH
 have hq:(R - H) / n=q:=eq
 have hqR:q<=R - H:=by rw [← hq]; exact Nat.div_le_self _ _
 have hHR:H<=R:=by omega
 obtain ⟨ao,cap,rfl,hcl,-,hsm⟩:=id hv.shape
 have hao:ao ≠ none:=by
  obtain ⟨b,off,rfl,_⟩:=hsm (by omega)
  intro h
  cases h
 clear hsm
 obtain ⟨nz,enz⟩:∃ nz,sliced ao 0 18 cap 1=nz:=⟨_,rfl⟩
 have hnz:SliceN V nz 18 f:=by
  have:=hv.sub 0 18 (by omega) (by omega)
  rw [enz] at this
  exact sliceN_cg this fun j _=>by rw [Nat.zero_add]
 have nnz:∀ l c,nz=.slice none l c->c=0:=by rw [← enz]; exact nil_sub fun e=>absurd e hao
 have hrz:=hv.sub 18 len (by omega) (Nat.le_refl _)
 rw [hR] at hrz
 obtain ⟨ra,rc,hrs,hrc,-⟩:=id hrz.shape
 rw [hrs] at hrz
 have hra:ra ≠ none:=sliced_some hao hrs
 have bH:H<=140737488351232:=by omega
 have bq:q<=140737488351232:=by omega
 have h18c:18<=cap:=Nat.le_trans h18 hcl
 have hHrc:H<=rc:=Nat.le_trans hHR hrc
 obtain ⟨bz,ebz⟩:∃ bz,sliced ra 0 H rc 1=bz:=⟨_,rfl⟩
 have hbz:SliceN V bz H (fun j=>f (18+j)):=by
  have:=hrz.sub 0 H (by omega) (by omega)
  rw [ebz] at this
  exact sliceN_cg this fun j _=>by rw [Nat.zero_add]
 have nbz:∀ l c,bz=.slice none l c->c=0:=by rw [← ebz]; exact nil_sub fun e=>absurd e hra
 have hcz:=hrz.sub H R (by omega) (by omega)
 obtain ⟨sa,sc,hss,hsc,-⟩:=id hcz.shape
 rw [hss] at hcz
 have hsa:sa ≠ none:=sliced_some hra hss
 obtain ⟨V1,hV1⟩:∃ V1,V1=V.alloc (.cells (ptC (.slice none 0 0) (.slice none 0 0) (.slice none 0 0)) 55):=⟨_,rfl⟩
 have F4:V1.heap[V.heap.size]?=some (.cells (ptC (.slice none 0 0) (.slice none 0 0) (.slice none 0 0)) 55):=by rw [hV1]; exact heapNew V _
 have BB:Below V.heap.size V V1:=by rw [hV1]; exact belNew V _
 have FF:Fam V.heap.size 0 (fun _=>undef) (ptN 18 H q) (ptF f 18 H q) V1:=Fam.none _ _ _ _ _
 go_enter Try.func29,Try.ntmps29
 refine wp_seq ?_
 refine wp_region_sqW 65 [(0,4),(1,5)] (fun i_=>match i_ with | 0=>.pointer (some ⟨V.heap.size,0,none⟩) | 1=>.int .i64 0 | _=>undef) (fun i_=>match i_ with | 0=>V | _=>V1) rfl (by kernel_rfl) (by decide) (by decide) ?_ ?_
 ·intro i_ hi_ a hf hv hn
  match i_,hi_ with
  | 0,_=>exact stepV rfl rfl (by rw [hV1]; exact execAllPt rfl) ⟨⟨_,rfl,rfl⟩,rfl⟩
  | 1,_=>exact stepV rfl rfl (execAsgB rfl rfl) ⟨⟨_,rfl,rfl⟩,rfl⟩
  | k_+2,h_=>exact absurd h_ (by simp)
 intro a h1 h2 h3 h4
 have t0:a.eval (.tmp 0)=.slice ao len cap:=(h3 0 (by decide)).trans rfl
 have t1:a.eval (.tmp 1)=.int .i64 ((n:Nat):Int):=(h3 1 (by decide)).trans rfl
 have t4:a.eval (.tmp 4)=.pointer (some ⟨V.heap.size,0,none⟩):=h4 0 _ rfl _ rfl
 have A:a.tmps.size=65/\a.defers=[]:=⟨h1,h2⟩
 clear h1 h2 h3 h4
 refine wp_seq (wp_seq ?_)
 refine wi_ A (h3_ t0 t1 t4) (rv_ 1 (.bool false) (fun a e=>execDec (execLtW (p:=n) (q:=1) rfl (e _) rfl) (decide_eq_false (by omega))) (rv_ 4 (.bool false) (fun a e=>execDec (execGtN (p:=n) (q:=64) rfl (e _) rfl) (decide_eq_false (by omega))) (rf_ [(16,.bool false)] (h3_ t0 t1 t4) ?_)))
 rintro a A ⟨t16,-⟩ ⟨t0,t1,t4,-⟩
 refine wp_cond_false t16 (wp_skip ?_)
 clear t16
 refine wp_seq (wp_seq ?_)
 refine wi_ A (h3_ t0 t1 t4) (rv_ 1 (.int .i64 ((len:Nat):Int)) (fun a e=>execLenV (len:=len) rfl (e _) ⟨_,_,rfl⟩) (rv_ 2 (.bool false) (fun a e=>execDec (execLtW (p:=len) (q:=18) rfl (e _) rfl) (decide_eq_false (by omega))) (rf_ [(20,.bool false)] (h3_ t0 t1 t4) ?_)))
 rintro a A ⟨t20,-⟩ ⟨t0,t1,t4,-⟩
 refine wp_cond_false t20 (wp_skip ?_)
 clear t20
 refine wp_seq ?_
 obtain ⟨g6,egg6⟩:∃ z_:Nat,V1.heap.size=z_:=⟨_,rfl⟩
 refine wi_ A (h3_ t0 t1 t4) (rs_ 0 (fun a e=>?_))
 refine stepV rfl rfl (execAllPt rfl) ⟨.pointer (some ⟨g6,0,none⟩),⟨_,rfl,by subst egg6; rfl⟩,fun X5 hX=>?_⟩
 have bQ:Below V1.heap.size V1 X5:=by subst hX egg6; exact (belNew V1 _)
 have F6:X5.heap[g6]?=some (.cells (ptC (.slice none 0 0) (.slice none 0 0) (.slice none 0 0)) 55):=by subst hX egg6; exact heapNew V1 _
 have Fge6:(V.heap.size<=g6):=by subst hX egg6; exact (BB).size
 have Fn6F4:(V.heap.size ≠ g6):=by subst hX egg6; exact ne9 F4
 replace F4:=(on9 F4 bQ)
 replace FF:=(FF.on bQ)
 replace BB:=BB.trans (bQ.mono BB.size)
 clear bQ hX egg6 e a
 refine rf_ [(6,.pointer (some ⟨g6,0,none⟩))] (h3_ t0 t1 t4) ?_
 rintro a A ⟨t6,-⟩ ⟨t0,t1,t4,-⟩
 refine wp_seq ?_
 refine wi_ A (h4_ t0 t1 t4 t6) (rv_ 1 (nz) (fun a e=>enz ▸ By8.execSlH rfl (e _) rfl (By8.slice_h ao len cap 18 h18c X5)) (rc_ 2 (copied_any (f) 18 _ X5 (hnz.on BB) nnz (by decide)) fun e X6_1 hh=>?_))
 obtain ⟨v24,he,hown,hb⟩:=hh
 refine ⟨_,he,?_⟩
 have bQ:Below X5.heap.size X5 X6_1:=hb
 have FG:(Fam V.heap.size (0+1) (updX (fun _=>undef) 0 v24) (ptN 18 H q) (ptF f 18 H q) X6_1):=FF.add hb (BB).size hown
 have Fsh:(∃ g_ n_ c_,v24=.slice g_ n_ c_):=shp3 hown
 replace F4:=(on9 F4 bQ)
 replace F6:=(on9 F6 bQ)
 replace BB:=BB.trans (bQ.mono BB.size)
 clear FF bQ
 refine rv_ 3 (.pointer (some ⟨g6,0,none⟩)) (fun a e=>execPt0 rfl (e _)) (rs_ 4 (fun a e=>?_))
 refine stepS rfl rfl (execStF0 rfl (e _) (e _) Fsh F6) ⟨_,⟨_,rfl,rfl⟩,fun X6 hX=>?_⟩
 obtain ⟨BB,F4,FG,F6⟩:Below V.heap.size V X6/\X6.heap[V.heap.size]?=some (.cells (ptC (.slice none 0 0) (.slice none 0 0) (.slice none 0 0)) 55)/\(Fam V.heap.size (0+1) (updX (fun _=>undef) 0 v24) (ptN 18 H q) (ptF f 18 H q) X6)/\X6.heap[g6]?=some (.cells (ptC v24 (.slice none 0 0) (.slice none 0 0)) 55):=by rw [hX]; exact ⟨below4 BB Fge6 _,(by rw [setRow_other _ _ _ _ (Fn6F4)]; exact F4),(fam_setR FG F6 (by decide)),setRow_heap _ _ _ _ _ _ F6⟩
 clear hX e a
 refine rf_ [] (h4_ t0 t1 t4 t6) ?_
 rintro a A - ⟨t0,t1,t4,t6,-⟩
 have FF:=FG
 clear FG Fsh
 refine wp_seq ?_
 refine wi_ A (h4_ t0 t1 t4 t6) (rv_ 1 (.slice ra R rc) (fun a e=>hrs ▸ By8.execSlL rfl (e _) rfl (By8.slice_l ao len cap 18 h18 X6)) (rf_ [(7,.slice ra R rc)] (h4_ t0 t1 t4 t6) ?_))
 rintro a A ⟨t7,-⟩ ⟨t0,t1,t4,t6,-⟩
 refine wp_seq ?_
 refine wi_ A (h5_ t0 t1 t4 t6 t7) (rv_ 1 (.int .i64 ((R:Nat):Int)) (fun a e=>execLenV (len:=R) rfl (e _) ⟨_,_,rfl⟩) (rv_ 2 (.int .i64 ((H:Nat):Int)) (fun a e=>hH ▸ execQuoN (p:=R) (q:=2) rfl (e _) rfl (by omega) (by omega)) (rf_ [(8,.int .i64 ((H:Nat):Int))] (h5_ t0 t1 t4 t6 t7) ?_)))
 rintro a A ⟨t8,-⟩ ⟨t0,t1,t4,t6,t7,-⟩
 refine wp_seq ?_
 refine wi_ A (h6_ t0 t1 t4 t6 t7 t8) (rv_ 2 (bz) (fun a e=>ebz ▸ By8.execSlH rfl (e _) (e _) (By8.slice_h ra R rc H hHrc X6)) (rc_ 3 (copied_any (fun j=>f (18+j)) H _ X6 (hbz.on BB) nbz bH) fun e X9_1 hh=>?_))
 obtain ⟨v34,he,hown,hb⟩:=hh
 refine ⟨_,he,?_⟩
 have bQ:Below X6.heap.size X6 X9_1:=hb
 have FG:(Fam V.heap.size (0+1+1) (updX (updX (fun _=>undef) 0 v24) (0+1) v34) (ptN 18 H q) (ptF f 18 H q) X9_1):=FF.add hb (BB).size hown
 have Fsh:(∃ g_ n_ c_,v34=.slice g_ n_ c_):=shp3 hown
 replace F4:=(on9 F4 bQ)
 replace F6:=(on9 F6 bQ)
 replace BB:=BB.trans (bQ.mono BB.size)
 clear FF bQ
 refine rv_ 4 (.pointer (some ⟨g6,1,none⟩)) (fun a e=>execPt1 rfl (e _)) (rs_ 5 (fun a e=>?_))
 refine stepS rfl rfl (execStF1 rfl (e _) (e _) Fsh F6) ⟨_,⟨_,rfl,rfl⟩,fun X9 hX=>?_⟩
 obtain ⟨BB,F4,FG,F6⟩:Below V.heap.size V X9/\X9.heap[V.heap.size]?=some (.cells (ptC (.slice none 0 0) (.slice none 0 0) (.slice none 0 0)) 55)/\(Fam V.heap.size (0+1+1) (updX (updX (fun _=>undef) 0 v24) (0+1) v34) (ptN 18 H q) (ptF f 18 H q) X9)/\X9.heap[g6]?=some (.cells (ptC v24 v34 (.slice none 0 0)) 55):=by rw [hX]; exact ⟨below4 BB Fge6 _,(by rw [setRow_other _ _ _ _ (Fn6F4)]; exact F4),(fam_setR FG F6 (by decide)),setRow_heap _ _ _ _ _ _ F6⟩
 clear hX e a
 refine rf_ [] (h6_ t0 t1 t4 t6 t7 t8) ?_
 rintro a A - ⟨t0,t1,t4,t6,t7,t8,-⟩
 have FF:=FG
 clear FG Fsh
 refine wp_seq ?_
 refine wi_ A (h6_ t0 t1 t4 t6 t7 t8) (rv_ 2 (.slice sa (R - H) sc) (fun a e=>hss ▸ By8.execSlL rfl (e _) (e _) (By8.slice_l ra R rc H hHR X9)) (rf_ [(7,.slice sa (R - H) sc)] (h5_ t0 t1 t4 t6 t8) ?_))
 rintro a A ⟨t7,-⟩ ⟨t0,t1,t4,t6,t8,-⟩
 refine wp_seq ?_
 refine wi_ A (h6_ t0 t1 t4 t6 t7 t8) (rv_ 1 (.int .i64 (((R - H):Nat):Int)) (fun a e=>execLenV (len:=(R - H)) rfl (e _) ⟨_,_,rfl⟩) (rv_ 3 (.int .i64 ((q:Nat):Int)) (fun a e=>hq ▸ execQuoN (p:=R - H) (q:=n) rfl (e _) (e _) (by omega) (by omega)) (rf_ [(9,.int .i64 ((q:Nat):Int))] (h4_ t1 t4 t6 t7) ?_)))
 rintro a A ⟨t9,-⟩ ⟨t1,t4,t6,t7,-⟩
 refine wp_seq (wp_seq ?_)
 refine wi_ A (h5_ t1 t4 t6 t7 t9) (rf_ [(10,.int .i64 ((0:Nat):Int))] (h5_ t1 t4 t6 t7 t9) ?_)
 rintro a A ⟨t10,-⟩ ⟨t1,t4,t6,t7,t9,-⟩
 replace FF:=fam_two FF (fun _=>undef)
 have FC:X9.ownsRow V.heap.size 23 1 (.slice none 0 0) 0 (lL (fun _=>undef) 0):=World.ownsRow_nil _ _ _ _
 refine wp_block ?_
 refine wp_loop (fun a W=>∃ (i:Nat) (u:Value) (x:Nat->Value),i<=n/\((a.tmps.size=65/\a.defers=[])/\a.eval (.tmp 1)=.int .i64 ((n:Nat):Int)/\a.eval (.tmp 4)=.pointer (some ⟨V.heap.size,0,none⟩)/\a.eval (.tmp 6)=.pointer (some ⟨g6,0,none⟩)/\a.eval (.tmp 7)=.slice sa (R - H) sc/\a.eval (.tmp 9)=.int .i64 ((q:Nat):Int)/\a.eval (.tmp 10)=.int .i64 ((i:Nat):Int)/\Below V.heap.size V W/\W.heap[V.heap.size]?=some (.cells (ptC (.slice none 0 0) (.slice none 0 0) (.slice none 0 0)) 55)/\W.heap[g6]?=some (.cells (ptC v24 v34 u) 55)/\Fam V.heap.size (2+i) (ptX v24 v34 x) (ptN 18 H q) (ptF f 18 H q) W/\W.ownsRow V.heap.size 23 1 u i (lL x i))) (fun a _=>n - (intOf (a.eval (.tmp 10))).toNat) ⟨0,_,_,by omega,A,t1,t4,t6,t7,t9,t10,BB,F4,F6,FF,FC⟩ ?_
 rintro a XL ⟨i,u,x,hi,A,t1,t4,t6,t7,t9,t10,BB,F4,F6,FF,FC⟩
 have e10:=t10
 refine wp_seq (wp_seq ?_)
 refine wi_ A (h6_ t1 t4 t6 t7 t9 t10) (rv_ 2 (.bool (decide (i < n))) (fun a e=>execLtW (p:=i) (q:=n) rfl (e _) (e _)) (rf_ [(45,.bool (decide (i < n)))] (h6_ t1 t4 t6 t7 t9 t10) ?_))
 rintro a A ⟨t45,-⟩ ⟨t1,t4,t6,t7,t9,t10,-⟩
 by_cases hlt:i < n
 ·rw [decide_eq_true hlt] at t45
  refine wp_cond_true t45 (wp_skip ?_)
  clear t45
  have h2q:(i+1) * q<=R - H:=Nat.le_trans (Nat.mul_le_mul_right q (show i+1<=n by omega)) (by rw [← hq]; exact Nat.mul_div_le _ _)
  rw [Nat.add_mul,Nat.one_mul] at h2q
  have hqs:i * q+q<=sc:=Nat.le_trans h2q hsc
  obtain ⟨pz,epz⟩:∃ pz,sliced sa (i * q) (i * q+q) sc 1=pz:=⟨_,rfl⟩
  have hpz:SliceN V pz q (fun j=>f (18+H+i * q+j)):=by
   have:=hcz.sub (i * q) (i * q+q) (by omega) (by omega)
   rw [epz,Nat.add_sub_cancel_left] at this
   exact sliceN_cg this fun j _=>by show f (18+(H+(i * q+j)))=_; congr 1; omega
  have npz:∀ l c,pz=.slice none l c->c=0:=by rw [← epz]; exact nil_sub fun e=>absurd e hsa
  refine wp_seq (wp_block ?_)
  refine wj_ [0,1,2,3,4,5,6,7,8,9,10,11,12,13,14,15,16] [12,13,14,16] [1] [14,16] A (h6_ t1 t4 t6 t7 t9 t10) (fun X15_0 bD=>?_)
  refine dw_ 0 (.pointer (some ⟨g6,2,none⟩)) (fun a X e=>execPt2 rfl (e _)) (dv_ 1 (u) (fun a X e hb=>execLdLL rfl (e _) (ptC_at (on9 F6 hb)).2.2) (dw_ 5 (.int .i64 ((i * q:Nat):Int)) (fun a X e=>execMulN (p:=i) (q:=q) rfl (e _) (e _) (by omega)) (dw_ 8 (.int .i64 ((i * q:Nat):Int)) (fun a X e=>execMulN (p:=i) (q:=q) rfl (e _) (e _) (by omega)) (dw_ 10 (.int .i64 ((i * q+q:Nat):Int)) (fun a X e=>execAd8 (p:=i * q) (q:=q) rfl (e _) (e _) (by omega)) (dw_ 11 (pz) (fun a X e=>epz ▸ By8.execSlLH rfl (e _) (e _) (e _) (By8.slice_lh sa (R - H) sc (i * q) (i * q+q) (Nat.le_add_right _ _) hqs X)) (dc_ 12 (copied_any (fun j=>f (18+H+i * q+j)) q _ X15_0 (hpz.on (BB.trans (bD.mono BB.size))) npz bq) fun e X15_1 hh=>?_))))))
  obtain ⟨v60,he,hown,hb⟩:=hh
  refine ⟨_,he,?_⟩
  have bQ:Below X15_0.heap.size X15_0 X15_1:=hb
  have FG:(Fam V.heap.size (2+(i+1)) (ptX v24 v34 (updX x i v60)) (ptN 18 H q) (ptF f 18 H q) X15_1):=fam_more (FF.on bD) hb ((BB.trans (bD.mono BB.size))).size hown
  have Fsh:(∃ g_ n_ c_,v60=.slice g_ n_ c_):=shp3 hown
  replace bD:=bD.trans (bQ.mono bD.size)
  clear bQ FF
  refine ⟨Or.inr bD,?_⟩
  obtain ⟨g61,egg61⟩:∃ z_:Nat,X15_1.heap.size=z_:=⟨_,rfl⟩
  refine ds_ 13 (fun a e=>?_)
  refine stepV rfl rfl (execBsL rfl (e _) Fsh) ⟨.slice (some ⟨g61,0,none⟩) 1 1,⟨_,rfl,by subst egg61; rfl⟩,fun X15_2 hX=>?_⟩
  have bQ:Below X15_1.heap.size X15_1 X15_2:=by subst hX egg61; exact (belNew X15_1 _)
  have F61:(X15_2.heap[g61]?=some (.cells #[v60] 23)):=by subst hX egg61; exact heapNew X15_1 _
  replace FG:=(FG.on bQ)
  replace bD:=bD.trans (bQ.mono bD.size)
  clear bQ hX egg61 e a
  refine ⟨Or.inr bD,?_⟩
  refine ds_ 14 (fun a e=>?_)
  have h1_:∀ u_ ∈ (#[v60]:Array Value).toList,u_.oneCell'=true:=fun u_ hu=>by obtain rfl:=List.mem_singleton.1 hu; exact one_of Fsh
  refine stepAppLs rfl rfl rfl (e _) (e _) (ownsLL_below FC bD) F61 rfl h1_ (by omega) ((BB.trans (bD.mono BB.size))).size fun v62 X15_3 own' gr=>⟨_,⟨_,rfl,rfl⟩,eqw ?_⟩
  obtain ⟨BB,F4,F6,FG,FD⟩:Below V.heap.size V X15_3/\X15_3.heap[V.heap.size]?=some (.cells (ptC (.slice none 0 0) (.slice none 0 0) (.slice none 0 0)) 55)/\X15_3.heap[g6]?=some (.cells (ptC v24 v34 u) 55)/\(Fam V.heap.size (2+(i+1)) (ptX v24 v34 (updX x i v60)) (ptN 18 H q) (ptF f 18 H q) X15_3)/\(X15_3.ownsRow V.heap.size 23 1 v62 (i+1) (lL (updX x i v60) (i+1))):=⟨((BB.trans (bD.mono BB.size))).grown gr ((BB.trans (bD.mono BB.size))).size (fun k hk=>((ownsLL_below FC bD).lt k hk).1),heap_overL (ownsLL_below FC bD) gr (on9 F4 bD) (by decide),heap_overL (ownsLL_below FC bD) gr (on9 F6 bD) (by decide),FG.grown (ownsLL_below FC bD) gr,by rw [← lL_upd]; exact own'⟩
  clear bD FC F61 e a
  refine ⟨Or.inl rfl,?_⟩
  refine dw_ 15 (.pointer (some ⟨g6,2,none⟩)) (fun a X e=>execPt2 rfl (e _)) (ds_ 16 (fun a e=>?_))
  refine stepS rfl rfl (execStF2 rfl (e _) (e _) (shp3 FD) F6) ⟨_,⟨_,rfl,rfl⟩,fun X15 hX=>?_⟩
  obtain ⟨BB,F4,FG,FD,F6s⟩:Below V.heap.size V X15/\X15.heap[V.heap.size]?=some (.cells (ptC (.slice none 0 0) (.slice none 0 0) (.slice none 0 0)) 55)/\(Fam V.heap.size (2+(i+1)) (ptX v24 v34 (updX x i v60)) (ptN 18 H q) (ptF f 18 H q) X15)/\(X15.ownsRow V.heap.size 23 1 v62 (i+1) (lL (updX x i v60) (i+1)))/\X15.heap[g6]?=some (.cells (ptC v24 v34 v62) 55):=by rw [hX]; exact ⟨below4 BB Fge6 _,(by rw [setRow_other _ _ _ _ (Fn6F4)]; exact F4),(fam_setR FG F6 (by decide)),(own_setR FD F6 (by decide)),setRow_heap _ _ _ _ _ _ F6⟩
  clear hX e a F6
  refine ⟨Or.inl rfl,?_⟩
  refine dz_ [] (h6_ t1 t4 t6 t7 t9 t10) ?_
  rintro a A - ⟨t1,t4,t6,t7,t9,t10,-⟩
  refine wi_ A (h6_ t1 t4 t6 t7 t9 t10) (rv_ 1 (.int .i64 ((i+1:Nat):Int)) (fun a e=>execAd8 (p:=i) (q:=1) rfl (e _) rfl (by omega)) (rf_ [(10,.int .i64 ((i+1:Nat):Int))] (h5_ t1 t4 t6 t7 t9) ?_))
  rintro a A ⟨t10,-⟩ ⟨t1,t4,t6,t7,t9,-⟩
  exact ⟨⟨i+1,_,_,hlt,A,t1,t4,t6,t7,t9,t10,BB,F4,F6s,FG,FD⟩,by show n - (intOf (a.eval (.tmp 10))).toNat < n - (intOf (Act.eval _ (.tmp 10))).toNat; rw [t10,e10]; show n - (i+1) < n - i; omega⟩
 ·rw [decide_eq_false hlt] at t45
  refine wp_cond_false t45 ?_
  refine wp_exit ?_
  first | with_reducible refine exit_in ?_ | with_reducible refine exit_then (exit_in ?_) | with_reducible refine exit_then (exit_then (exit_in ?_)) | refine exit_in ?_ | refine exit_then (exit_in ?_) | refine exit_then (exit_then (exit_in ?_))
  clear t45
  have hin:i=n:=by omega
  rw [hin] at FF FC
  refine wp_seq ?_
  refine wi_ A (h6_ t1 t4 t6 t7 t9 t10) (rv_ 0 (.agg (ptC v24 v34 u)) (fun a e=>execLdPt rfl (e _) F6) (rs_ 1 (fun a e=>?_)))
  refine stepS rfl rfl (execStPt rfl (e _) (e _) F4 rfl (pt_one (shp3 (FF.rows 0 (by omega))) (shp3 (FF.rows 1 (by omega))) (shp3 FC))) ⟨_,⟨_,rfl,rfl⟩,fun X16 hX=>?_⟩
  obtain ⟨BB,FF,FC,F4⟩:Below V.heap.size V X16/\(Fam V.heap.size (2+n) (ptX v24 v34 x) (ptN 18 H q) (ptF f 18 H q) X16)/\(X16.ownsRow V.heap.size 23 1 u (n) (lL x n))/\X16.heap[V.heap.size]?=some (.cells (ptC v24 v34 u) 55):=by rw [hX]; exact ⟨below4 BB (Nat.le_refl _) _,(fam_setR FF F4 (by decide)),(own_setR FC F4 (by decide)),setRow_heap _ _ _ _ _ _ F4⟩
  clear hX e a F6
  refine rf_ [(5,.int .i64 ((0:Nat):Int))] (h1_ t4) ?_
  rintro a A ⟨t5,-⟩ ⟨t4,-⟩
  refine wp_ret ?_
  refine bodyPost_ret (results_ct9 rfl _ _ V.heap.size 55 _ (0,0) _ t4 F4 Try.underlying55 rfl (size_pt _ _ _)) A.2 ⟨v24,v34,u,x,?_,⟨FC,FF⟩,BB⟩
  show Ending.returned (.tuple #[.agg (ptC v24 v34 u),a.eval (.tmp 5)])=_
  rw [t5]
end Go.Proofs.Ytmjpneaccjlpkaa.Tap

namespace Go.Proofs.Ytmjpneaccjlpkaa.Tap
open Go.RowKit Gf8 Aes By8 Cel Cf
/- The reference's Split with its errors; rows of bytes that are written over. -/
set_option maxRecDepth 20000 in
theorem rsplit_any (f:Nat->Nat) (len:Nat) (ch:Int) (v:Value) (V:World) (hv:SliceN V v len f) (hl:len<=140737488351232) :
  Calls Try.prog 29 #[v,.int .i64 ch] V fun e w'=>∃ nv bv cv x,e=.returned (.tuple #[.agg (ptC nv bv cv),.int .i64 (spE len ch:Nat)])/\PtS w' V.heap.size (spC len ch) nv bv cv x (spA len ch) (spB len ch) (spQ len ch) f/\Below V.heap.size V w':=by
 have no:spE len ch ≠ 0->spC len ch=0/\spA len ch=0/\spB len ch=0/\spQ len ch=0:=fun h=>by
  unfold spC spA spB spQ
  simp [h]
 obtain ⟨ao,cap,rfl,_⟩:=id hv.shape
 by_cases h1:ch < 1
 ·have E:spE len ch=2:=if_pos (Or.inl h1)
  obtain ⟨e1,e2,e3,e4⟩:=no (by rw [E]; decide)
  rw [E,e1,e2,e3,e4]
  clear no E e1 e2 e3 e4 hv hl
  go_enter Try.func29,Try.ntmps29
  go_wp2
  refine bodyPost_ret (results_ct9 (cs:=ptC (.slice none 0 0) (.slice none 0 0) (.slice none 0 0)) rfl _ _ V.heap.size 55 (0,0) _ rfl (heapNew V _) Try.underlying55 rfl (size_pt _ _ _)) rfl (by first | exact ⟨_,_,_,fun _=>undef,rfl,pts_none _ _ _ _,belNew V _⟩ | exact ⟨_,_,_,rfl,⟨fun _=>undef,pts_none _ _ _ _⟩,belNew V _⟩)
 ·by_cases h2:64 < ch
  ·have E:spE len ch=2:=if_pos (Or.inr h2)
   obtain ⟨e1,e2,e3,e4⟩:=no (by rw [E]; decide)
   rw [E,e1,e2,e3,e4]
   have i2:ch > 64:=h2
   clear no E e1 e2 e3 e4 hv hl h2
   go_enter Try.func29,Try.ntmps29
   go_wp2
   refine bodyPost_ret (results_ct9 (cs:=ptC (.slice none 0 0) (.slice none 0 0) (.slice none 0 0)) rfl _ _ V.heap.size 55 (0,0) _ rfl (heapNew V _) Try.underlying55 rfl (size_pt _ _ _)) rfl (by first | exact ⟨_,_,_,fun _=>undef,rfl,pts_none _ _ _ _,belNew V _⟩ | exact ⟨_,_,_,rfl,⟨fun _=>undef,pts_none _ _ _ _⟩,belNew V _⟩)
  ·by_cases h3:len < 18
   ·have E:spE len ch=3:=by unfold spE; rw [if_neg (by omega),if_pos h3]
    obtain ⟨e1,e2,e3,e4⟩:=no (by rw [E]; decide)
    rw [E,e1,e2,e3,e4]
    have i2:¬ ch > 64:=h2
    have i3:(len:Int) < 18:=by omega
    clear no E e1 e2 e3 e4 hv hl h2 h3
    go_enter Try.func29,Try.ntmps29
    go_wp2
    refine bodyPost_ret (results_ct9 (cs:=ptC (.slice none 0 0) (.slice none 0 0) (.slice none 0 0)) rfl _ _ V.heap.size 55 (0,0) _ rfl (heapNew V _) Try.underlying55 rfl (size_pt _ _ _)) rfl (by first | exact ⟨_,_,_,fun _=>undef,rfl,pts_none _ _ _ _,belNew V _⟩ | exact ⟨_,_,_,rfl,⟨fun _=>undef,pts_none _ _ _ _⟩,belNew V _⟩)
   ·have E:spE len ch=0:=by unfold spE; rw [if_neg (by omega),if_neg h3]
    obtain ⟨n,rfl⟩:∃ n:Nat,ch=n:=⟨ch.toNat,by omega⟩
    unfold spC spA spB spQ
    simp only [E,if_true,Int.toNat_natCast]
    exact rsplit_ok f len n _ V hv hl (by omega) (by omega) (by omega) _ _ rfl rfl
def ByR (W:World) (g cap N:Nat):Prop:=∃ cur fz,W.heap[g]?=some (.cells cur 5 fz)/\cur.size=cap/\N<=cap/\(∀ j,j < N->∃ z:Nat,z < 256/\cur[j]?=some (.int .u8 (z:Int)))/\(cap<=fz.1\/fz.2=0)
theorem ByR.on {W W':World} {g cap N:Nat} (h:ByR W g cap N) (hb:Below W.heap.size W W'):ByR W' g cap N:=by
 obtain ⟨cur,fz,h1,h2⟩:=h
 exact ⟨cur,fz,on9 h1 hb,h2⟩
theorem ByR.cell {W:World} {g cap N:Nat} (h:ByR W g cap N) {k:Nat} (hk:k < N):∃ z:Nat,z < 256/\W.cell? ⟨g,k,none⟩=some (.int .u8 (z:Int))/\W.frozen? ⟨g,k,none⟩=false:=by
 obtain ⟨cur,fz,h1,h2,h3,h4,h5⟩:=h
 obtain ⟨z,hz,hc⟩:=h4 k hk
 refine ⟨z,hz,by rw [cell_of_row _ _ _ _ _ _ h1]; exact hc,?_⟩
 simp [World.frozen?,h1]
 omega
theorem ByR.set {W:World} {g cap N:Nat} (h:ByR W g cap N) (k:Nat) {z:Nat} (hz:z < 256):ByR (W.setCell ⟨g,k,none⟩ (.int .u8 (z:Int))) g cap N:=by
 obtain ⟨cur,fz,h1,h2,h3,h4,h5⟩:=h
 rw [setCell_eq_setRow W g k _ _ _ _ h1]
 refine ⟨_,fz,setRow_heap _ _ _ _ _ _ h1,by rw [Array.size_setIfInBounds]; exact h2,h3,fun j hj=>?_,h5⟩
 rw [Array.getElem?_setIfInBounds]
 by_cases e:k=j
 ·rw [if_pos e,if_pos (by omega)]
  exact ⟨z,hz,rfl⟩
 ·rw [if_neg e]
  exact h4 j hj
end Go.Proofs.Ytmjpneaccjlpkaa.Tap
