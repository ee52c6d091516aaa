import Derived.Test.YtmjpneaccjlpkaaF9c
import Derived.Test.YtmjpneaccjlpkaaX9b
import Derived.Test.YtmjpneaccjlpkaaQ9s
import Derived.Test.YtmjpneaccjlpkaaF9b
namespace Go.Proofs.Ytmjpneaccjlpkaa.Rif
open Go.RowKit Gf8 Aes By8 Cel Cf Tap Drw Prm Brd
/- The reference's fit, laid. Written by tools/mkX9o.py. -/
def owI (L N J:Nat) (p:Nat->Nat) (t k:Nat):Int:=((frA (szF N J t) (dN_ (ckP L J p t) (lq L J) (szF N J t)) (szF N J t - 1) k:Nat):Int)
theorem ow_fits {L N J:Nat} {p:Nat->Nat} (hN:N<=256) (_h1:1<=J) (hall:∀ t,t < J->okB (ckP L J p t) (lq L J) (bI (szF N J t)) (szF N J t - 1)=true):∀ t,t < J->∀ k,k < szF N J t->-9223372036854775808<=owI L N J p t k/\owI L N J p t k < 9223372036854775808:=fun t ht k hk=>by
 have h3:=frA_le (szF_le N ht) (hall t ht) hN k hk
 unfold owI
 omega
theorem sI_fits {N J:Nat} (hN:N<=256):∀ j,j < J->-9223372036854775808<=sI N J j/\sI N J j < 9223372036854775808:=fun j hj=>by
 have h3:=szF_le N (D:=J) hj
 show -9223372036854775808<=((szF N J j:Nat):Int)/\((szF N J j:Nat):Int) < 9223372036854775808
 omega
theorem po_fits0 {sf df:Nat->Int} {J m:Nat} (hd:∀ j,j < m->-9223372036854775808<=df j/\df j < 9223372036854775808):∀ j,j < m->-9223372036854775808<=poF sf J df m j/\poF sf J df m j < 9223372036854775808:=fun j hj=>po_fits (E:=0) hd j (by rw [zl_ok]; exact hj)
theorem rsz0r {N J:Nat} (hin:inL (N:Int) (J:Int)) (V:World):Calls Try.prog 50 #[.int .i64 ((N:Nat):Int),.int .i64 ((J:Nat):Int)] V fun e w'=>∃ r,e=.returned (.tuple #[r,.int .i64 ((0:Nat):Int)])/\w'.ownsRow V.heap.size 3 1 r J (intsL J (sI N J))/\Below V.heap.size V w':=
 Calls.mono (rsizes (N:Int) (J:Int) V) fun e w' ⟨r,g1,g2,g3⟩=>by
  have hE:szE (N:Int) (J:Int)=0:=if_pos hin
  rw [hE] at g1
  rw [hE,zl_ok] at g2
  exact ⟨r,g1,g2,g3⟩
theorem row_at {W:World} {B n:Nat} {v:Value} {f:Nat->Int} (h:W.ownsRow B 3 1 v n (intsL n f)) (hn:0 < n):∃ g c,v=.slice (some ⟨g,0,none⟩) n c:=by
 rcases h.2 with ⟨_,e0⟩ | ⟨g,c,_,e,_⟩
 ·omega
 ·exact ⟨g,c,e⟩
theorem llb_cell {W:World} {v:Value} {J l cb co cc j:Nat} {x:Nat->Value} {gg:Nat->Nat->Nat} (h:LLB W v J x l gg) (e:v=.slice (some ⟨cb,co,none⟩) J cc) (hj:j < J):W.cell? ⟨cb,co+j,none⟩=some (x j):=by
 obtain ⟨b,o,c,e2,_,h2⟩:=h.at (by omega)
 rw [e] at e2
 injection e2 with e3 _ _
 injection e3 with e3
 injection e3 with e4 e5 _
 subst e4 e5
 exact h2 j hj
theorem one_of3 {v:Value} (h:∃ g n c,v=.slice g n c):v.oneCell'=true:=by
 obtain ⟨_,_,_,rfl⟩:=h
 rfl
theorem ld_one {a b c d:Value} (ha:∃ g n c,a=.slice g n c) (hb:∃ g n c,b=.slice g n c) (hc:∃ g n k,c=.slice g n k) (hd:∃ g n k,d=.slice g n k):(akC a b c d).all (·.oneCell')=true:=by
 obtain ⟨_,_,_,rfl⟩:=ha
 obtain ⟨_,_,_,rfl⟩:=hb
 obtain ⟨_,_,_,rfl⟩:=hc
 obtain ⟨_,_,_,rfl⟩:=hd
 simp [akC,Value.oneCell']
theorem size_ak (a b c d:Value):(Try.prog.info? 66).map (·.size)=some (akC a b c d).size:=by
 show _=some 4
 kernel_rfl
section
variable {o:Oper} {a:Act} {w:World}
theorem execAllLd (ho:o.op=.alloc 66):(execOp a.eval o).run Try.prog w=.ok (.value (.pointer (some ⟨w.heap.size,0,none⟩))) (w.alloc (.cells (akC (.slice none 0 0) (.slice none 0 0) (.slice none 0 0) (.slice none 0 0)) 66)):=by
 unfold execOp
 simp only [ho]
 simp [go_sem,akC]
theorem execFldLd0 {x:Operand} {b:Nat} (ho:o.op=.fieldAddr 66 x 0) (hx:a.eval x=.pointer (some ⟨b,0,none⟩)):(execOp a.eval o).run Try.prog w=.ok (.value (.pointer (some ⟨b,0,none⟩))) w:=by
 unfold execOp
 simp only [ho,hx]
 simp [go_sem]
theorem execFldLd1 {x:Operand} {b:Nat} (ho:o.op=.fieldAddr 66 x 1) (hx:a.eval x=.pointer (some ⟨b,0,none⟩)):(execOp a.eval o).run Try.prog w=.ok (.value (.pointer (some ⟨b,1,none⟩))) w:=by
 unfold execOp
 simp only [ho,hx]
 simp [go_sem]
theorem execFldLd2 {x:Operand} {b:Nat} (ho:o.op=.fieldAddr 66 x 2) (hx:a.eval x=.pointer (some ⟨b,0,none⟩)):(execOp a.eval o).run Try.prog w=.ok (.value (.pointer (some ⟨b,2,none⟩))) w:=by
 unfold execOp
 simp only [ho,hx]
 simp [go_sem]
theorem execFldLd3 {x:Operand} {b:Nat} (ho:o.op=.fieldAddr 66 x 3) (hx:a.eval x=.pointer (some ⟨b,0,none⟩)):(execOp a.eval o).run Try.prog w=.ok (.value (.pointer (some ⟨b,3,none⟩))) w:=by
 unfold execOp
 simp only [ho,hx]
 simp [go_sem]
theorem execLdLII {x:Operand} {b f:Nat} {v:Value} (ho:o.op=.load 50 x) (hx:a.eval x=.pointer (some ⟨b,f,none⟩)) (hc:w.cell? ⟨b,f,none⟩=some v):(execOp a.eval o).run Try.prog w=.ok (.value v) w:=by
 unfold execOp
 simp only [ho,hx]
 simp [go_sem,hc]
theorem execStLII {x v:Operand} {b k:Nat} {u old:Value} (ho:o.op=.store 50 x v) (hx:a.eval x=.pointer (some ⟨b,k,none⟩)) (hv:a.eval v=u) (hu:∃ g n c,u=.slice g n c) (hc:w.cell? ⟨b,k,none⟩=some old) (hf:w.frozen? ⟨b,k,none⟩=false):(execOp a.eval o).run Try.prog w=.ok .skip (w.setCell ⟨b,k,none⟩ u):=by
 obtain ⟨g,n,c,rfl⟩:=hu
 unfold execOp
 simp only [ho,hx,hv]
 simp [go_sem,hc,hf]
theorem execStLd0 {x y:Operand} {g:Nat} {c0 c1 c2 c3 u:Value} {t:TypeId} (ho:o.op=.store 24 x y) (hx:a.eval x=.pointer (some ⟨g,0,none⟩)) (hy:a.eval y=u) (hu:∃ g n c,u=.slice g n c) (hg:w.heap[g]?=some (.cells (akC c0 c1 c2 c3) t)):(execOp a.eval o).run Try.prog w=.ok .skip (w.setRow g (akC u c1 c2 c3)):=by
 have h:=execStLI ho hx hy hu (ak_at0 hg) (frozen4 hg)
 rw [setCell_eq_setRow w g 0 _ _ _ u hg] at h
 exact h
theorem execStLd1 {x y:Operand} {g:Nat} {c0 c1 c2 c3 u:Value} {t:TypeId} (ho:o.op=.store 24 x y) (hx:a.eval x=.pointer (some ⟨g,1,none⟩)) (hy:a.eval y=u) (hu:∃ g n c,u=.slice g n c) (hg:w.heap[g]?=some (.cells (akC c0 c1 c2 c3) t)):(execOp a.eval o).run Try.prog w=.ok .skip (w.setRow g (akC c0 u c2 c3)):=by
 have h:=execStLI ho hx hy hu (ak_at1 hg) (frozen4 hg)
 rw [setCell_eq_setRow w g 1 _ _ _ u hg] at h
 exact h
theorem execStLd2 {x y:Operand} {g:Nat} {c0 c1 c2 c3 u:Value} {t:TypeId} (ho:o.op=.store 24 x y) (hx:a.eval x=.pointer (some ⟨g,2,none⟩)) (hy:a.eval y=u) (hu:∃ g n c,u=.slice g n c) (hg:w.heap[g]?=some (.cells (akC c0 c1 c2 c3) t)):(execOp a.eval o).run Try.prog w=.ok .skip (w.setRow g (akC c0 c1 u c3)):=by
 have h:=execStLI ho hx hy hu (ak_at2 hg) (frozen4 hg)
 rw [setCell_eq_setRow w g 2 _ _ _ u hg] at h
 exact h
theorem execStLd3I {x y:Operand} {g:Nat} {c0 c1 c2 c3 u:Value} {t:TypeId} (ho:o.op=.store 50 x y) (hx:a.eval x=.pointer (some ⟨g,3,none⟩)) (hy:a.eval y=u) (hu:∃ g n c,u=.slice g n c) (hg:w.heap[g]?=some (.cells (akC c0 c1 c2 c3) t)):(execOp a.eval o).run Try.prog w=.ok .skip (w.setRow g (akC c0 c1 c2 u)):=by
 have h:=execStLII ho hx hy hu (ak_at3 hg) (frozen4 hg)
 rw [setCell_eq_setRow w g 3 _ _ _ u hg] at h
 exact h
theorem execLdLd {x:Operand} {g:Nat} {c0 c1 c2 c3:Value} {t:TypeId} (ho:o.op=.load 66 x) (hx:a.eval x=.pointer (some ⟨g,0,none⟩)) (hg:w.heap[g]?=some (.cells (akC c0 c1 c2 c3) t)):(execOp a.eval o).run Try.prog w=.ok (.value (.agg (akC c0 c1 c2 c3))) w:=by
 have h:=execLoadMid (P:=Try.prog) (a:=a) (w:=w) (cs:=[c0,c1,c2,c3]) ho hx (fun j v hj=>by
  rw [cell_of_row _ _ _ _ _ _ hg,Nat.zero_add]
  rw [← List.getElem?_toArray] at hj
  exact hj) Try.underlying66 rfl (by kernel_rfl)
 exact h
theorem execStLd {x y:Operand} {g:Nat} {c0 c1 c2 c3:Value} {cur:Array Value} {t:TypeId} (ho:o.op=.store 66 x y) (hx:a.eval x=.pointer (some ⟨g,0,none⟩)) (hy:a.eval y=.agg (akC c0 c1 c2 c3)) (hg:w.heap[g]?=some (.cells cur t)) (hs:cur.size=4) (h1:(akC c0 c1 c2 c3).all (·.oneCell')=true) :
  (execOp a.eval o).run Try.prog w=.ok .skip (w.setRow g (akC c0 c1 c2 c3)):=by
 have h:=execStMid (P:=Try.prog) ho hx hy hg (by rw [hs]; exact Nat.le_refl _) (size_ak _ _ _ _) h1
 have e:(cur.toList.take 0 ++ (akC c0 c1 c2 c3).toList ++ cur.toList.drop (0+(akC c0 c1 c2 c3).size)).toArray=akC c0 c1 c2 c3:=by
  rw [List.take_zero,List.nil_append,Nat.zero_add,List.drop_of_length_le (by rw [Array.length_toList,hs]; exact Nat.le_refl _),List.append_nil]
 rw [e] at h
 exact h
end
theorem pts_overT {W W':World} {B n C m s:Nat} {u:TypeId} {nv bv cv v2:Value} {x:Nat->Value} {ln lb lq:Nat} {f:Nat->Nat} {ys:List Value} (h:PtS W B n nv bv cv x ln lb lq f) (h2:W.ownsRow C u s v2 m ys) (gr:W.grownBy W' v2.ownBlock) (h5:5 ≠ u) (hL:23 ≠ u):PtS W' B n nv bv cv x ln lb lq f:=
 ⟨own_overT h.own h2 gr hL,fun t ht=>own_overT (h.fam.rows t ht) h2 gr h5,h.fam.dis⟩
theorem rfit1 {n ch:Int} (hin:inL n ch) (V:World):Calls Try.prog 25 #[.int .i64 n,.int .i64 ch] V fun e w'=>e=.returned (.bool true)/\Below V.heap.size V w':=by
 go_enter Try.func25,Try.ntmps25
 refine wo_ 19 [(0,.int .i64 n),(1,.int .i64 ch)] ?_
 rintro a A ⟨t0,t1,-⟩
 refine wp_seq ?_
 refine wi_ A (h2_ t0 t1) (rf_ [] (h2_ t0 t1) ?_)
 rintro a A - ⟨t0,t1,-⟩
 refine wp_seq ?_
 refine wi_ A (h2_ t0 t1) (rv_ 1 (.bool true) (fun a e=>execGeIt rfl (e _) rfl hin.1) (rv_ 4 (.bool true) (fun a e=>execLeIt rfl (e _) rfl hin.2.1) (rv_ 8 (.bool true) (fun a e=>execGeIt rfl (e _) rfl hin.2.2.1) (rv_ 12 (.bool true) (fun a e=>execLeIt rfl (e _) rfl hin.2.2.2) (rg_ [(4,.bool true)] ?_)))))
 rintro a A ⟨t4,-⟩
 refine wp_ret ?_
 refine bodyPost_ret (results_tmp rfl _ _ _) A.2 ⟨?_,Below.refl _ _⟩
 show Ending.returned (a.eval (.tmp 4))=_
 rw [t4]
theorem rfit0 {n ch:Int} (hin:¬ inL n ch) (V:World):Calls Try.prog 25 #[.int .i64 n,.int .i64 ch] V fun e w'=>e=.returned (.bool false)/\Below V.heap.size V w':=by
 go_enter Try.func25,Try.ntmps25
 refine wo_ 19 [(0,.int .i64 n),(1,.int .i64 ch)] ?_
 rintro a A ⟨t0,t1,-⟩
 refine wp_seq ?_
 refine wi_ A (h2_ t0 t1) (rf_ [] (h2_ t0 t1) ?_)
 rintro a A - ⟨t0,t1,-⟩
 refine wp_seq ?_
 have key:∀ a:Act,(a.tmps.size=19/\a.defers=[])->Hd a [(4,.bool false)]->Code.ret.wp Try.prog (bodyPost Try.prog Try.f25 fun e w'=>e=.returned (.bool false)/\Below V.heap.size V w') a V:=by
  rintro a A ⟨t4,-⟩
  refine wp_ret ?_
  refine bodyPost_ret (results_tmp rfl _ _ _) A.2 ⟨?_,Below.refl _ _⟩
  show Ending.returned (a.eval (.tmp 4))=_
  rw [t4]
 by_cases q1:0<=n
 ·by_cases q2:n<=256
  ·by_cases q3:1<=ch
   ·refine wi_ A (h2_ t0 t1) (rv_ 1 (.bool true) (fun a e=>execGeIt rfl (e _) rfl q1) (rv_ 4 (.bool true) (fun a e=>execLeIt rfl (e _) rfl q2) (rv_ 8 (.bool true) (fun a e=>execGeIt rfl (e _) rfl q3) (rv_ 12 (.bool false) (fun a e=>execLeIf rfl (e _) rfl (fun q=>hin ⟨q1,q2,q3,q⟩)) (rg_ [(4,.bool false)] ?_)))))
    exact key
   ·refine wi_ A (h2_ t0 t1) (rv_ 1 (.bool true) (fun a e=>execGeIt rfl (e _) rfl q1) (rv_ 4 (.bool true) (fun a e=>execLeIt rfl (e _) rfl q2) (rv_ 8 (.bool false) (fun a e=>execGeIf rfl (e _) rfl q3) (rg_ [(4,.bool false)] ?_))))
    exact key
  ·refine wi_ A (h2_ t0 t1) (rv_ 1 (.bool true) (fun a e=>execGeIt rfl (e _) rfl q1) (rv_ 4 (.bool false) (fun a e=>execLeIf rfl (e _) rfl q2) (rg_ [(4,.bool false)] ?_)))
   exact key
 ·refine wi_ A (h2_ t0 t1) (rv_ 1 (.bool false) (fun a e=>execGeIf rfl (e _) rfl q1) (rg_ [(4,.bool false)] ?_))
  exact key
set_option maxRecDepth 100000 in
set_option maxHeartbeats 4000000 in
theorem rlaid (p:Nat->Nat) (L N J:Nat) (pv:Value) (V:World) (FP:SliceN V pv L p) (hl:L<=140737488351232) (hN:N<=256) (h1:1<=J) (h2:J<=64) :
  Calls Try.prog 26 #[pv,.int .i64 ((N:Nat):Int),.int .i64 ((J:Nat):Int)] V fun e w'=>∃ sv uv wv tv y,e=.returned (.tuple #[.agg (akC sv uv wv tv),.bool (decide (riE L ((N:Nat):Int) ((J:Nat):Int) p=0))])/\(riE L ((N:Nat):Int) ((J:Nat):Int) p=0->SliceI w' sv J (sI N J)/\SliceI w' uv N (pcF (sI N J) J (dQ (brP p) (lb L) N))/\SliceI w' wv N (poF (sI N J) J (dQ (brP p) (lb L) N) N)/\LLI w' tv J y (szF N J) (owI L N J p))/\(akC sv uv wv tv).all (·.oneCell')=true/\Below V.heap.size V w':=by
 go_enter Try.func26,Try.ntmps26
 refine wo_ 99 [(0,pv),(1,.int .i64 ((N:Nat):Int)),(2,.int .i64 ((J:Nat):Int))] ?_
 rintro a A ⟨t0,t1,t2,-⟩
 have BB:Below V.heap.size V V:=Below.refl _ _
 have BW:=BB
 have hpb:∀ j,j < L->p j < 256:=FP.bytes
 have hin:inL ((N:Nat):Int) ((J:Nat):Int):=⟨by omega,by omega,by omega,by omega⟩
 refine wp_seq ?_
 obtain ⟨g6,egg6⟩:∃ z_:Nat,V.heap.size=z_:=⟨_,rfl⟩
 refine wi_ A (h3_ t0 t1 t2) (rs_ 0 (fun a e=>?_))
 refine stepV rfl rfl (execAllLd rfl) ⟨.pointer (some ⟨g6,0,none⟩),⟨_,rfl,by subst egg6; rfl⟩,fun X0 hX=>?_⟩
 have bQ:Below V.heap.size V X0:=by subst hX egg6; exact (belNew V _)
 have F6:X0.heap[g6]?=some (.cells (akC (.slice none 0 0) (.slice none 0 0) (.slice none 0 0) (.slice none 0 0)) 66):=by subst hX egg6; exact heapNew V _
 have Fge6:(V.heap.size<=g6):=by subst hX egg6; exact (BB).size
 replace BB:=BB.trans (bQ.mono BB.size)
 clear bQ hX egg6 e a
 refine rf_ [(6,.pointer (some ⟨g6,0,none⟩))] (h3_ t0 t1 t2) ?_
 rintro a A ⟨t6,-⟩ ⟨t0,t1,t2,-⟩
 refine wp_seq ?_
 obtain ⟨g8,egg8⟩:∃ z_:Nat,X0.heap.size=z_:=⟨_,rfl⟩
 refine wi_ A (h4_ t0 t1 t2 t6) (rs_ 0 (fun a e=>?_))
 refine stepV rfl rfl (execAllLd rfl) ⟨.pointer (some ⟨g8,0,none⟩),⟨_,rfl,by subst egg8; rfl⟩,fun X1 hX=>?_⟩
 have bQ:Below X0.heap.size X0 X1:=by subst hX egg8; exact (belNew X0 _)
 have F8:X1.heap[g8]?=some (.cells (akC (.slice none 0 0) (.slice none 0 0) (.slice none 0 0) (.slice none 0 0)) 66):=by subst hX egg8; exact heapNew X0 _
 have Fge8:(V.heap.size<=g8):=by subst hX egg8; exact (BB).size
 have Fn8F6:(g6 ≠ g8):=by subst hX egg8; exact ne9 F6
 replace F6:=(on9 F6 bQ)
 replace BB:=BB.trans (bQ.mono BB.size)
 clear bQ hX egg8 e a
 refine rf_ [(8,.pointer (some ⟨g8,0,none⟩))] (h4_ t0 t1 t2 t6) ?_
 rintro a A ⟨t8,-⟩ ⟨t0,t1,t2,t6,-⟩
 refine wp_seq ?_
 by_cases hL18:18<=L
 ·refine wi_ A (h5_ t0 t1 t2 t6 t8) (rc_ 2 (rspl0 p L J _ X1 (FP.on BB) hl hL18 h1 h2) fun e X2_1 hh=>?_)
  obtain ⟨nv,bv,cv,xs,he,hk,hb⟩:=hh
  refine ⟨_,he,?_⟩
  have bQ:Below X1.heap.size X1 X2_1:=hb
  have FPT:(PtS X2_1 V.heap.size J nv bv cv xs 18 (lb L) (lq L J) p):=hk.base (Nat.le_trans BW.size (BB).size)
  replace F6:=(on9 F6 bQ)
  replace F8:=(on9 F8 bQ)
  replace BB:=BB.trans (bQ.mono BB.size)
  clear bQ
  obtain ⟨g9,egg9⟩:∃ z_:Nat,X2_1.heap.size=z_:=⟨_,rfl⟩
  refine rs_ 6 (fun a e=>?_)
  refine stepV rfl rfl (execAllPt rfl) ⟨.pointer (some ⟨g9,0,none⟩),⟨_,rfl,by subst egg9; rfl⟩,fun X2_2 hX=>?_⟩
  have bQ:Below X2_1.heap.size X2_1 X2_2:=by subst hX egg9; exact (belNew X2_1 _)
  have F9:X2_2.heap[g9]?=some (.cells (ptC (.slice none 0 0) (.slice none 0 0) (.slice none 0 0)) 55):=by subst hX egg9; exact heapNew X2_1 _
  have Fge9:(V.heap.size<=g9):=by subst hX egg9; exact (BB).size
  have Fn9F6:(g6 ≠ g9):=by subst hX egg9; exact ne9 F6
  have Fn9F8:(g8 ≠ g9):=by subst hX egg9; exact ne9 F8
  replace F6:=(on9 F6 bQ)
  replace F8:=(on9 F8 bQ)
  replace FPT:=(FPT.on bQ)
  replace BB:=BB.trans (bQ.mono BB.size)
  clear bQ hX egg9 e a
  refine rs_ 7 (fun a e=>?_)
  refine stepS rfl rfl (execStPt rfl (e _) (e _) F9 rfl (pts_one FPT)) ⟨_,⟨_,rfl,rfl⟩,fun X2 hX=>?_⟩
  obtain ⟨BB,F6,F8,FPT,F9⟩:Below V.heap.size V X2/\X2.heap[g6]?=some (.cells (akC (.slice none 0 0) (.slice none 0 0) (.slice none 0 0) (.slice none 0 0)) 66)/\X2.heap[g8]?=some (.cells (akC (.slice none 0 0) (.slice none 0 0) (.slice none 0 0) (.slice none 0 0)) 66)/\(PtS X2 V.heap.size J nv bv cv xs 18 (lb L) (lq L J) p)/\X2.heap[g9]?=some (.cells (ptC nv bv cv) 55):=by rw [hX]; exact ⟨below4 BB Fge9 _,(by rw [setRow_other _ _ _ _ (Fn9F6)]; exact F6),(by rw [setRow_other _ _ _ _ (Fn9F8)]; exact F8),(FPT.set F9 (by decide) (by decide)),setRow_heap _ _ _ _ _ _ F9⟩
  clear hX e a
  refine rf_ [(9,.pointer (some ⟨g9,0,none⟩)),(10,.int .i64 ((0:Nat):Int))] (h4_ t1 t2 t6 t8) ?_
  rintro a A ⟨t9,t10,-⟩ ⟨t1,t2,t6,t8,-⟩
  refine wp_seq (wp_seq ?_)
  refine wi_ A (h6_ t1 t2 t6 t8 t9 t10) (rv_ 1 (.bool false) (fun a e=>execDec (execNeN (p:=0) (q:=0) rfl (e _) rfl) (decide_eq_false (by decide))) (rf_ [(27,.bool false)] (h5_ t1 t2 t6 t8 t9) ?_))
  rintro a A ⟨t27,-⟩ ⟨t1,t2,t6,t8,t9,-⟩
  refine wp_cond_false t27 (wp_skip ?_)
  clear t27
  have hlb:lb L<=140737488351232:=by unfold lb; omega
  have hlq:lq L J<=140737488351232:=by have:=lq_le L (J:=J) hL18; have h3:1 * lq L J<=J * lq L J:=Nat.mul_le_mul_right _ h1; omega
  refine wp_seq ?_
  refine wi_ A (h5_ t1 t2 t6 t8 t9) (rc_ 2 (rsz0r (N:=N) (J:=J) hin X2) fun e X5_1 hh=>?_)
  obtain ⟨z_,he,hk,hb⟩:=hh
  refine ⟨_,he,?_⟩
  have bQ:Below X2.heap.size X2 X5_1:=hb
  have FZ:(X5_1.ownsRow V.heap.size 3 1 z_ (J) (intsL (J) (sI N J))):=ownD_base hk (BB).size
  replace F6:=(on9 F6 bQ)
  replace F8:=(on9 F8 bQ)
  replace FPT:=(FPT.on bQ)
  replace F9:=(on9 F9 bQ)
  replace BB:=BB.trans (bQ.mono BB.size)
  clear bQ
  refine rv_ 6 (.pointer (some ⟨g8,0,none⟩)) (fun a e=>execFldLd0 rfl (e _)) (rs_ 7 (fun a e=>?_))
  refine stepS rfl rfl (execStLd0 rfl (e _) (e _) (Brd.shp3 FZ) F8) ⟨_,⟨_,rfl,rfl⟩,fun X5 hX=>?_⟩
  obtain ⟨BB,F6,FPT,F9,FZ,F8⟩:Below V.heap.size V X5/\X5.heap[g6]?=some (.cells (akC (.slice none 0 0) (.slice none 0 0) (.slice none 0 0) (.slice none 0 0)) 66)/\(PtS X5 V.heap.size J nv bv cv xs 18 (lb L) (lq L J) p)/\X5.heap[g9]?=some (.cells (ptC nv bv cv) 55)/\(X5.ownsRow V.heap.size 3 1 z_ (J) (intsL (J) (sI N J)))/\X5.heap[g8]?=some (.cells (akC z_ (.slice none 0 0) (.slice none 0 0) (.slice none 0 0)) 66):=by rw [hX]; exact ⟨below4 BB Fge8 _,(by rw [setRow_other _ _ _ _ (Fn8F6)]; exact F6),(FPT.set F8 (by decide) (by decide)),(by rw [setRow_other _ _ _ _ ((Ne.symm Fn9F8))]; exact F9),(own_setT FZ F8 (by decide)),setRow_heap _ _ _ _ _ _ F8⟩
  clear hX e a
  refine rf_ [] (h5_ t1 t2 t6 t8 t9) ?_
  rintro a A - ⟨t1,t2,t6,t8,t9,-⟩
  obtain ⟨zg,zc,rfl⟩:=row_at FZ (show 0 < J by omega)
  refine wp_seq ?_
  cases hbr:okB (brP p) (lb L) (bI N) N with
  | false=>
   refine wj_ [0,1,2,3,4,5,6,7,8,9,10,11] [3,4] [1] [] A (h5_ t1 t2 t6 t8 t9) (fun X6_0 bD=>?_)
   refine dw_ 0 (.pointer (some ⟨g9,1,none⟩)) (fun a X e=>execPt1 rfl (e _)) (dv_ 1 (bv) (fun a X e hb=>execLdL rfl (e _) (ptC_at (on9 F9 hb)).2.1) (dc_ 3 (rbd hN X6_0) fun e X6_1 hh=>?_))
   obtain ⟨b40,he,hk,hb⟩:=hh
   refine ⟨_,he,?_⟩
   have bQ:Below X6_0.heap.size X6_0 X6_1:=hb
   have Fb40:(SliceI X6_1 b40 (N) (bI N)):=hk
   replace bD:=bD.trans (bQ.mono bD.size)
   clear bQ
   refine ⟨Or.inr bD,?_⟩
   refine dc_ 4 (ral3 (brP p) (lb L) N N _ _ X6_1 (pts_br (FPT.on bD) hL18 hpb) hlb Fb40 hN (Nat.le_refl _) hbr) fun e X6 hh=>?_
   obtain ⟨a41,he,hb⟩:=hh
   refine ⟨_,he,?_⟩
   have bQ:Below X6_1.heap.size X6_1 X6:=hb
   replace Fb40:=(Fb40.on bQ)
   replace bD:=bD.trans (bQ.mono bD.size)
   clear bQ
   refine ⟨Or.inr bD,?_⟩
   refine dz_ [(11,a41),(13,.int .i64 ((3:Nat):Int))] (h5_ t1 t2 t6 t8 t9) ?_
   rintro a A ⟨t11,t13,-⟩ ⟨t1,t2,t6,t8,t9,-⟩
   replace F6:=(on9 F6 bD)
   replace FPT:=(FPT.on bD)
   replace F9:=(on9 F9 bD)
   replace FZ:=(ownD_below FZ bD)
   replace F8:=(on9 F8 bD)
   replace BB:=BB.trans (bD.mono BB.size)
   clear bD
   clear Fb40
   refine wp_seq (wp_seq ?_)
   clear F9 FPT FZ
   refine wi_ A (h7_ t1 t2 t6 t8 t9 t11 t13) (rv_ 1 (.bool true) (fun a e=>execDec (execNeN (p:=3) (q:=0) rfl (e _) rfl) (decide_eq_true (by decide))) (rf_ [(46,.bool true)] (h2_ t6 t8) ?_))
   rintro a A ⟨t46,-⟩ ⟨t6,t8,-⟩
   refine wp_cond_true t46 ?_
   clear t46
   refine wp_seq ?_
   refine wi_ A (h2_ t6 t8) (rv_ 0 (.agg (akC (.slice (some ⟨zg,0,none⟩) J zc) (.slice none 0 0) (.slice none 0 0) (.slice none 0 0))) (fun a e=>execLdLd rfl (e _) F8) (rs_ 1 (fun a e=>?_)))
   refine stepS rfl rfl (execStLd rfl (e _) (e _) F6 rfl (ld_one ⟨_,_,_,rfl⟩ ⟨_,_,_,rfl⟩ ⟨_,_,_,rfl⟩ ⟨_,_,_,rfl⟩)) ⟨_,⟨_,rfl,rfl⟩,fun X8 hX=>?_⟩
   obtain ⟨BB,F8,F6⟩:Below V.heap.size V X8/\X8.heap[g8]?=some (.cells (akC (.slice (some ⟨zg,0,none⟩) J zc) (.slice none 0 0) (.slice none 0 0) (.slice none 0 0)) 66)/\X8.heap[g6]?=some (.cells (akC (.slice (some ⟨zg,0,none⟩) J zc) (.slice none 0 0) (.slice none 0 0) (.slice none 0 0)) 66):=by rw [hX]; exact ⟨below4 BB Fge6 _,(by rw [setRow_other _ _ _ _ ((Ne.symm Fn8F6))]; exact F8),setRow_heap _ _ _ _ _ _ F6⟩
   clear hX e a
   refine rf_ [(7,.bool false)] (h1_ t6) ?_
   rintro a A ⟨t7,-⟩ ⟨t6,-⟩
   have hE:riE L ((N:Nat):Int) ((J:Nat):Int) p ≠ 0:=by show (if inL _ _ then _ else _) ≠ 0; rw [if_pos hin,if_neg fun q=>by have h_:OkT L J N (szF N J) p:=okT_iff.1 q.2; rw [okB_iff.2 h_.br] at hbr; cases hbr]; decide
   rw [decide_eq_false hE]
   refine wp_ret ?_
   repeat (first | with_reducible refine ret_in ?_ | with_reducible refine ret_then ?_)
   refine bodyPost_ret (results_ct9 rfl _ _ g6 66 _ (0,0) _ t6 F6 Try.underlying66 rfl (size_ak _ _ _ _)) A.2 ⟨(.slice (some ⟨zg,0,none⟩) J zc),(.slice none 0 0),(.slice none 0 0),(.slice none 0 0),fun _=>undef,?_,(fun q=>absurd q hE),(ld_one ⟨_,_,_,rfl⟩ ⟨_,_,_,rfl⟩ ⟨_,_,_,rfl⟩ ⟨_,_,_,rfl⟩),BB⟩
   show Ending.returned (.tuple #[.agg (akC (.slice (some ⟨zg,0,none⟩) J zc) (.slice none 0 0) (.slice none 0 0) (.slice none 0 0)),a.eval (.tmp 7)])=_
   rw [t7]
  | true=>
   refine wj_ [0,1,2,3,4,5,6,7,8,9,10,11] [3,4] [1] [] A (h5_ t1 t2 t6 t8 t9) (fun X6_0 bD=>?_)
   refine dw_ 0 (.pointer (some ⟨g9,1,none⟩)) (fun a X e=>execPt1 rfl (e _)) (dv_ 1 (bv) (fun a X e hb=>execLdL rfl (e _) (ptC_at (on9 F9 hb)).2.1) (dc_ 3 (rbd hN X6_0) fun e X6_1 hh=>?_))
   obtain ⟨b40,he,hk,hb⟩:=hh
   refine ⟨_,he,?_⟩
   have bQ:Below X6_0.heap.size X6_0 X6_1:=hb
   have Fb40:(SliceI X6_1 b40 (N) (bI N)):=hk
   replace bD:=bD.trans (bQ.mono bD.size)
   clear bQ
   refine ⟨Or.inr bD,?_⟩
   refine dc_ 4 (ral0 (brP p) (lb L) N N _ _ X6_1 (pts_br (FPT.on bD) hL18 hpb) hlb Fb40 hN (Nat.le_refl _) hbr) fun e X6 hh=>?_
   obtain ⟨a41,he,hk,hb⟩:=hh
   refine ⟨_,he,?_⟩
   have bQ:Below X6_1.heap.size X6_1 X6:=hb
   have Fa41:(SliceI X6 a41 (N) (dQ (brP p) (lb L) N)):=hk
   replace Fb40:=(Fb40.on bQ)
   replace bD:=bD.trans (bQ.mono bD.size)
   clear bQ
   refine ⟨Or.inr bD,?_⟩
   refine dz_ [(11,a41),(13,.int .i64 ((0:Nat):Int))] (h5_ t1 t2 t6 t8 t9) ?_
   rintro a A ⟨t11,t13,-⟩ ⟨t1,t2,t6,t8,t9,-⟩
   replace F6:=(on9 F6 bD)
   replace FPT:=(FPT.on bD)
   replace F9:=(on9 F9 bD)
   replace FZ:=(ownD_below FZ bD)
   replace F8:=(on9 F8 bD)
   replace BB:=BB.trans (bD.mono BB.size)
   clear bD
   clear Fb40
   refine wp_seq (wp_seq ?_)
   refine wi_ A (h7_ t1 t2 t6 t8 t9 t11 t13) (rv_ 1 (.bool false) (fun a e=>execDec (execNeN (p:=0) (q:=0) rfl (e _) rfl) (decide_eq_false (by decide))) (rf_ [(46,.bool false)] (h6_ t1 t2 t6 t8 t9 t11) ?_))
   rintro a A ⟨t46,-⟩ ⟨t1,t2,t6,t8,t9,t11,-⟩
   refine wp_cond_false t46 (wp_skip ?_)
   clear t46
   have hpa:paQ (sI N J) J (dQ (brP p) (lb L) N) N=true:=paQ_iff.2 ⟨sI_szQ hN h1 h2,by rw [sI_g,szF_sum N h1],dA_fa (okB_iff.1 hbr)⟩
   refine wp_seq ?_
   refine wi_ A (h6_ t1 t2 t6 t8 t9 t11) (rv_ 0 (.pointer (some ⟨g8,0,none⟩)) (fun a e=>execFldLd0 rfl (e _)) (rv_ 1 (.slice (some ⟨zg,0,none⟩) J zc) (fun a e=>execLdLI (v:=(.slice (some ⟨zg,0,none⟩) J zc)) rfl (e _) (ak_at0 F8)) (rc_ 3 (rpat0 (sI N J) (dQ (brP p) (lb L) N) J N _ _ X6 (own_ints FZ (sI_fits hN)) (by omega) Fa41 (by omega) hpa) fun e X9_1 hh=>?_)))
   obtain ⟨u_,w_,he,hk,hb⟩:=hh
   refine ⟨_,he,?_⟩
   have bQ:Below X6.heap.size X6 X9_1:=hb
   have FU:(X9_1.ownsRow V.heap.size 3 1 u_ (N) (intsL (N) (pcF (sI N J) J (dQ (brP p) (lb L) N)))):=ownD_base (hk.rows 0 (by omega)) (BB).size
   have FW:(X9_1.ownsRow V.heap.size 3 1 w_ (N) (intsL (N) (poF (sI N J) J (dQ (brP p) (lb L) N) N))):=ownD_base (hk.rows 1 (by omega)) (BB).size
   replace F6:=(on9 F6 bQ)
   replace FPT:=(FPT.on bQ)
   replace F9:=(on9 F9 bQ)
   replace FZ:=(ownD_below FZ bQ)
   replace F8:=(on9 F8 bQ)
   replace BB:=BB.trans (bQ.mono BB.size)
   clear Fa41 bQ
   refine rv_ 8 (.pointer (some ⟨g8,1,none⟩)) (fun a e=>execFldLd1 rfl (e _)) (rs_ 9 (fun a e=>?_))
   refine stepS rfl rfl (execStLd1 rfl (e _) (e _) (Brd.shp3 FU) F8) ⟨_,⟨_,rfl,rfl⟩,fun X9_2 hX=>?_⟩
   obtain ⟨BB,F6,FPT,F9,FZ,FU,FW,F8⟩:Below V.heap.size V X9_2/\X9_2.heap[g6]?=some (.cells (akC (.slice none 0 0) (.slice none 0 0) (.slice none 0 0) (.slice none 0 0)) 66)/\(PtS X9_2 V.heap.size J nv bv cv xs 18 (lb L) (lq L J) p)/\X9_2.heap[g9]?=some (.cells (ptC nv bv cv) 55)/\(X9_2.ownsRow V.heap.size 3 1 (.slice (some ⟨zg,0,none⟩) J zc) (J) (intsL (J) (sI N J)))/\(X9_2.ownsRow V.heap.size 3 1 u_ (N) (intsL (N) (pcF (sI N J) J (dQ (brP p) (lb L) N))))/\(X9_2.ownsRow V.heap.size 3 1 w_ (N) (intsL (N) (poF (sI N J) J (dQ (brP p) (lb L) N) N)))/\X9_2.heap[g8]?=some (.cells (akC (.slice (some ⟨zg,0,none⟩) J zc) u_ (.slice none 0 0) (.slice none 0 0)) 66):=by rw [hX]; exact ⟨below4 BB Fge8 _,(by rw [setRow_other _ _ _ _ (Fn8F6)]; exact F6),(FPT.set F8 (by decide) (by decide)),(by rw [setRow_other _ _ _ _ ((Ne.symm Fn9F8))]; exact F9),(own_setT FZ F8 (by decide)),(own_setT FU F8 (by decide)),(own_setT FW F8 (by decide)),setRow_heap _ _ _ _ _ _ F8⟩
   clear hX e a
   refine rv_ 10 (.pointer (some ⟨g8,2,none⟩)) (fun a e=>execFldLd2 rfl (e _)) (rs_ 11 (fun a e=>?_))
   refine stepS rfl rfl (execStLd2 rfl (e _) (e _) (Brd.shp3 FW) F8) ⟨_,⟨_,rfl,rfl⟩,fun X9 hX=>?_⟩
   obtain ⟨BB,F6,FPT,F9,FZ,FU,FW,F8⟩:Below V.heap.size V X9/\X9.heap[g6]?=some (.cells (akC (.slice none 0 0) (.slice none 0 0) (.slice none 0 0) (.slice none 0 0)) 66)/\(PtS X9 V.heap.size J nv bv cv xs 18 (lb L) (lq L J) p)/\X9.heap[g9]?=some (.cells (ptC nv bv cv) 55)/\(X9.ownsRow V.heap.size 3 1 (.slice (some ⟨zg,0,none⟩) J zc) (J) (intsL (J) (sI N J)))/\(X9.ownsRow V.heap.size 3 1 u_ (N) (intsL (N) (pcF (sI N J) J (dQ (brP p) (lb L) N))))/\(X9.ownsRow V.heap.size 3 1 w_ (N) (intsL (N) (poF (sI N J) J (dQ (brP p) (lb L) N) N)))/\X9.heap[g8]?=some (.cells (akC (.slice (some ⟨zg,0,none⟩) J zc) u_ w_ (.slice none 0 0)) 66):=by rw [hX]; exact ⟨below4 BB Fge8 _,(by rw [setRow_other _ _ _ _ (Fn8F6)]; exact F6),(FPT.set F8 (by decide) (by decide)),(by rw [setRow_other _ _ _ _ ((Ne.symm Fn9F8))]; exact F9),(own_setT FZ F8 (by decide)),(own_setT FU F8 (by decide)),(own_setT FW F8 (by decide)),setRow_heap _ _ _ _ _ _ F8⟩
   clear hX e a
   refine rf_ [] (h5_ t1 t2 t6 t8 t9) ?_
   rintro a A - ⟨t1,t2,t6,t8,t9,-⟩
   refine wp_seq (wp_seq ?_)
   refine wi_ A (h5_ t1 t2 t6 t8 t9) (rf_ [(14,.int .i64 ((0:Nat):Int))] (h4_ t2 t6 t8 t9) ?_)
   rintro a A ⟨t14,-⟩ ⟨t2,t6,t8,t9,-⟩
   have FT:(X9.ownsRow V.heap.size 24 1 (.slice none 0 0) (0) (lL (fun _=>.slice none 0 0) (0))):=World.ownsRow_nil _ _ _ _
   have FM:(FmI V.heap.size (0) (fun _=>.slice none 0 0) (szF N J) (owI L N J p) X9):=⟨fun t ht=>absurd ht (Nat.not_lt_zero _),fun s t hs=>absurd hs (Nat.not_lt_zero _)⟩
   refine wp_block ?_
   refine wp_loop (fun a W=>∃ (j:Nat) (tv:Value) (y:Nat->Value),j<=J/\(∀ t,t < j->okB (ckP L J p t) (lq L J) (bI (szF N J t)) (szF N J t - 1)=true)/\(a.tmps.size=99/\a.defers=[])/\a.eval (.tmp 2)=.int .i64 ((J:Nat):Int)/\a.eval (.tmp 6)=.pointer (some ⟨g6,0,none⟩)/\a.eval (.tmp 8)=.pointer (some ⟨g8,0,none⟩)/\a.eval (.tmp 9)=.pointer (some ⟨g9,0,none⟩)/\a.eval (.tmp 14)=.int .i64 ((j:Nat):Int)/\Below V.heap.size V W/\W.heap[g6]?=some (.cells (akC (.slice none 0 0) (.slice none 0 0) (.slice none 0 0) (.slice none 0 0)) 66)/\W.heap[g8]?=some (.cells (akC (.slice (some ⟨zg,0,none⟩) J zc) u_ w_ tv) 66)/\W.heap[g9]?=some (.cells (ptC nv bv cv) 55)/\(PtS W V.heap.size J nv bv cv xs 18 (lb L) (lq L J) p)/\(W.ownsRow V.heap.size 3 1 (.slice (some ⟨zg,0,none⟩) J zc) (J) (intsL (J) (sI N J)))/\(W.ownsRow V.heap.size 3 1 u_ (N) (intsL (N) (pcF (sI N J) J (dQ (brP p) (lb L) N))))/\(W.ownsRow V.heap.size 3 1 w_ (N) (intsL (N) (poF (sI N J) J (dQ (brP p) (lb L) N) N)))/\(W.ownsRow V.heap.size 24 1 tv (j) (lL (y) (j)))/\(FmI V.heap.size (j) (y) (szF N J) (owI L N J p) W)) (fun a _=>J - (intOf (a.eval (.tmp 14))).toNat) ⟨0,.slice none 0 0,fun _=>.slice none 0 0,Nat.zero_le _,(fun t ht=>absurd ht (Nat.not_lt_zero _)),A,t2,t6,t8,t9,t14,BB,F6,F8,F9,FPT,FZ,FU,FW,FT,FM⟩ ?_
   rintro a XL11 ⟨j,tv,y,hj,hall,A,t2,t6,t8,t9,t14,BB,F6,F8,F9,FPT,FZ,FU,FW,FT,FM⟩
   have esj:=t14
   refine wp_seq (wp_seq ?_)
   refine wi_ A (h5_ t2 t6 t8 t9 t14) (rv_ 2 (.bool (decide (j < J))) (fun a e=>execLtW (p:=j) (q:=J) rfl (e _) (e _)) (rf_ [(60,.bool (decide (j < J)))] (h5_ t2 t6 t8 t9 t14) ?_))
   rintro a A ⟨t60,-⟩ ⟨t2,t6,t8,t9,t14,-⟩
   by_cases ltj:j < J
   ·rw [decide_eq_true ltj] at t60
    refine wp_cond_true t60 (wp_skip ?_)
    clear t60
    refine wp_seq (wp_block ?_)
    obtain ⟨cb,co,cc,ec,-,-⟩:=(pts_ck FPT hL18 hpb).at (show 0 < J by omega)
    obtain ⟨m,em⟩:∃ m,szF N J j=m:=⟨_,rfl⟩
    have hm:m<=N:=by rw [← em]; exact szF_le N ltj
    refine wp_seq ?_
    cases hok:okB (ckP L J p j) (lq L J) (bI m) (m - 1) with
    | false=>
     refine wj_ [0,1,2,3,4,5,6,7,8,9,10,11,12,13,14,15,16,17,18] [10,11] [1,4,6,9] [] A (h5_ t2 t6 t8 t9 t14) (fun X13_0 bD=>?_)
     refine dw_ 0 (.pointer (some ⟨g9,2,none⟩)) (fun a X e=>execPt2 rfl (e _)) (dv_ 1 (cv) (fun a X e hb=>execLdLL rfl (e _) (ptC_at (on9 F9 hb)).2.2) (dw_ 3 (.pointer (some ⟨cb,co+j,none⟩)) (fun a X e=>Cf.execIdxL (k:=j) rfl ((e _).trans ec) (e _) ltj) (dv_ 4 (xs j) (fun a X e hb=>execLdL rfl (e _) (llb_cell (pts_ck (FPT.on hb) hL18 hpb) ec ltj)) (dw_ 5 (.pointer (some ⟨g8,0,none⟩)) (fun a X e=>execFldLd0 rfl (e _)) (dv_ 6 (.slice (some ⟨zg,0,none⟩) J zc) (fun a X e hb=>execLdLI (v:=(.slice (some ⟨zg,0,none⟩) J zc)) rfl (e _) (ak_at0 (on9 F8 hb))) (dw_ 8 (.pointer (some ⟨zg,0+j,none⟩)) (fun a X e=>execIdxN (k:=j) rfl (e _) (e _) ltj) (dv_ 9 (.int .i64 ((m:Nat):Int)) (fun a X e hb=>execLd3 rfl (e _) ((own_cellI (ownD_below FZ hb) ltj).1.trans (by rw [← em]; rfl))) (dc_ 10 (rpb (show m<=256 by omega) X13_0) fun e X13_1 hh=>?_))))))))
     obtain ⟨b74,he,hk,hb⟩:=hh
     refine ⟨_,he,?_⟩
     have bQ:Below X13_0.heap.size X13_0 X13_1:=hb
     have Fb74:(SliceI X13_1 b74 (m - 1) (bI m)):=hk
     replace bD:=bD.trans (bQ.mono bD.size)
     clear bQ
     refine ⟨Or.inr bD,?_⟩
     refine dc_ 11 (ral3 (ckP L J p j) (lq L J) m (m - 1) _ _ X13_1 ((pts_ck (FPT.on bD) hL18 hpb).lists j ltj) hlq Fb74 (by omega) (by omega) hok) fun e X13 hh=>?_
     obtain ⟨a75,he,hb⟩:=hh
     refine ⟨_,he,?_⟩
     have bQ:Below X13_1.heap.size X13_1 X13:=hb
     replace Fb74:=(Fb74.on bQ)
     replace bD:=bD.trans (bQ.mono bD.size)
     clear bQ
     refine ⟨Or.inr bD,?_⟩
     refine dz_ [(15,a75),(17,.int .i64 ((3:Nat):Int))] (h5_ t2 t6 t8 t9 t14) ?_
     rintro a A ⟨t15,t17,-⟩ ⟨t2,t6,t8,t9,t14,-⟩
     replace F6:=(on9 F6 bD)
     replace F8:=(on9 F8 bD)
     replace F9:=(on9 F9 bD)
     replace FPT:=(FPT.on bD)
     replace FZ:=(ownD_below FZ bD)
     replace FU:=(ownD_below FU bD)
     replace FW:=(ownD_below FW bD)
     replace FT:=(ownD_below FT bD)
     replace FM:=(FM.on bD)
     replace BB:=BB.trans (bD.mono BB.size)
     clear bD
     clear Fb74
     refine wp_seq (wp_seq ?_)
     have hsF:=Brd.shp3 FU
     have hsW:=Brd.shp3 FW
     have hsT:=Brd.shp3 FT
     clear F9 FPT FZ FU FW FT FM
     refine wi_ A (h7_ t2 t6 t8 t9 t14 t15 t17) (rv_ 1 (.bool true) (fun a e=>execDec (execNeN (p:=3) (q:=0) rfl (e _) rfl) (decide_eq_true (by decide))) (rf_ [(80,.bool true)] (h2_ t6 t8) ?_))
     rintro a A ⟨t80,-⟩ ⟨t6,t8,-⟩
     refine wp_cond_true t80 ?_
     clear t80
     refine wp_seq ?_
     refine wi_ A (h2_ t6 t8) (rv_ 0 (.agg (akC (.slice (some ⟨zg,0,none⟩) J zc) u_ w_ tv)) (fun a e=>execLdLd rfl (e _) F8) (rs_ 1 (fun a e=>?_)))
     refine stepS rfl rfl (execStLd rfl (e _) (e _) F6 rfl (ld_one ⟨_,_,_,rfl⟩ hsF hsW hsT)) ⟨_,⟨_,rfl,rfl⟩,fun X15 hX=>?_⟩
     obtain ⟨BB,F8,F6⟩:Below V.heap.size V X15/\X15.heap[g8]?=some (.cells (akC (.slice (some ⟨zg,0,none⟩) J zc) u_ w_ tv) 66)/\X15.heap[g6]?=some (.cells (akC (.slice (some ⟨zg,0,none⟩) J zc) u_ w_ tv) 66):=by rw [hX]; exact ⟨below4 BB Fge6 _,(by rw [setRow_other _ _ _ _ ((Ne.symm Fn8F6))]; exact F8),setRow_heap _ _ _ _ _ _ F6⟩
     clear hX e a
     refine rf_ [(7,.bool false)] (h1_ t6) ?_
     rintro a A ⟨t7,-⟩ ⟨t6,-⟩
     have hE:riE L ((N:Nat):Int) ((J:Nat):Int) p ≠ 0:=by show (if inL _ _ then _ else _) ≠ 0; rw [if_pos hin,if_neg fun q=>by have h_:OkT L J N (szF N J) p:=okT_iff.1 q.2; have h2_:=okB_iff.2 (h_.ck j ltj); rw [em,hok] at h2_; cases h2_]; decide
     rw [decide_eq_false hE]
     refine wp_ret ?_
     repeat (first | with_reducible refine ret_in ?_ | with_reducible refine ret_then ?_)
     refine bodyPost_ret (results_ct9 rfl _ _ g6 66 _ (0,0) _ t6 F6 Try.underlying66 rfl (size_ak _ _ _ _)) A.2 ⟨(.slice (some ⟨zg,0,none⟩) J zc),u_,w_,tv,fun _=>undef,?_,(fun q=>absurd q hE),(ld_one ⟨_,_,_,rfl⟩ hsF hsW hsT),BB⟩
     show Ending.returned (.tuple #[.agg (akC (.slice (some ⟨zg,0,none⟩) J zc) u_ w_ tv),a.eval (.tmp 7)])=_
     rw [t7]
    | true=>
     refine wj_ [0,1,2,3,4,5,6,7,8,9,10,11,12,13,14,15,16,17,18] [10,11] [1,4,6,9] [] A (h5_ t2 t6 t8 t9 t14) (fun X13_0 bD=>?_)
     refine dw_ 0 (.pointer (some ⟨g9,2,none⟩)) (fun a X e=>execPt2 rfl (e _)) (dv_ 1 (cv) (fun a X e hb=>execLdLL rfl (e _) (ptC_at (on9 F9 hb)).2.2) (dw_ 3 (.pointer (some ⟨cb,co+j,none⟩)) (fun a X e=>Cf.execIdxL (k:=j) rfl ((e _).trans ec) (e _) ltj) (dv_ 4 (xs j) (fun a X e hb=>execLdL rfl (e _) (llb_cell (pts_ck (FPT.on hb) hL18 hpb) ec ltj)) (dw_ 5 (.pointer (some ⟨g8,0,none⟩)) (fun a X e=>execFldLd0 rfl (e _)) (dv_ 6 (.slice (some ⟨zg,0,none⟩) J zc) (fun a X e hb=>execLdLI (v:=(.slice (some ⟨zg,0,none⟩) J zc)) rfl (e _) (ak_at0 (on9 F8 hb))) (dw_ 8 (.pointer (some ⟨zg,0+j,none⟩)) (fun a X e=>execIdxN (k:=j) rfl (e _) (e _) ltj) (dv_ 9 (.int .i64 ((m:Nat):Int)) (fun a X e hb=>execLd3 rfl (e _) ((own_cellI (ownD_below FZ hb) ltj).1.trans (by rw [← em]; rfl))) (dc_ 10 (rpb (show m<=256 by omega) X13_0) fun e X13_1 hh=>?_))))))))
     obtain ⟨b74,he,hk,hb⟩:=hh
     refine ⟨_,he,?_⟩
     have bQ:Below X13_0.heap.size X13_0 X13_1:=hb
     have Fb74:(SliceI X13_1 b74 (m - 1) (bI m)):=hk
     replace bD:=bD.trans (bQ.mono bD.size)
     clear bQ
     refine ⟨Or.inr bD,?_⟩
     refine dc_ 11 (ral0 (ckP L J p j) (lq L J) m (m - 1) _ _ X13_1 ((pts_ck (FPT.on bD) hL18 hpb).lists j ltj) hlq Fb74 (by omega) (by omega) hok) fun e X13 hh=>?_
     obtain ⟨a75,he,hk,hb⟩:=hh
     refine ⟨_,he,?_⟩
     have bQ:Below X13_1.heap.size X13_1 X13:=hb
     have Fa75:(SliceI X13 a75 (m - 1) (dQ (ckP L J p j) (lq L J) m)):=hk
     replace Fb74:=(Fb74.on bQ)
     replace bD:=bD.trans (bQ.mono bD.size)
     clear bQ
     refine ⟨Or.inr bD,?_⟩
     refine dz_ [(15,a75),(17,.int .i64 ((0:Nat):Int))] (h5_ t2 t6 t8 t9 t14) ?_
     rintro a A ⟨t15,t17,-⟩ ⟨t2,t6,t8,t9,t14,-⟩
     replace F6:=(on9 F6 bD)
     replace F8:=(on9 F8 bD)
     replace F9:=(on9 F9 bD)
     replace FPT:=(FPT.on bD)
     replace FZ:=(ownD_below FZ bD)
     replace FU:=(ownD_below FU bD)
     replace FW:=(ownD_below FW bD)
     replace FT:=(ownD_below FT bD)
     replace FM:=(FM.on bD)
     replace BB:=BB.trans (bD.mono BB.size)
     clear bD
     clear Fb74
     refine wp_seq (wp_seq ?_)
     refine wi_ A (h7_ t2 t6 t8 t9 t14 t15 t17) (rv_ 1 (.bool false) (fun a e=>execDec (execNeN (p:=0) (q:=0) rfl (e _) rfl) (decide_eq_false (by decide))) (rf_ [(80,.bool false)] (h6_ t2 t6 t8 t9 t14 t15) ?_))
     rintro a A ⟨t80,-⟩ ⟨t2,t6,t8,t9,t14,t15,-⟩
     refine wp_cond_false t80 (wp_skip ?_)
     clear t80
     have hfr:frE ((m:Nat):Int) (dQ (ckP L J p j) (lq L J) m) (m - 1)=0:=dA_from (okB_iff.1 hok)
     have BC:=BB.size
     have hlt:∀ t,t < j->∀ b,(y t).ownBlock=some b->b < X13.heap.size:=fun t ht b q=>((FM.rows t ht).lt b q).2
     refine wp_seq ?_
     refine wi_ A (h6_ t2 t6 t8 t9 t14 t15) (rv_ 0 (.pointer (some ⟨g8,0,none⟩)) (fun a e=>execFldLd0 rfl (e _)) (rv_ 1 (.slice (some ⟨zg,0,none⟩) J zc) (fun a e=>execLdLI (v:=(.slice (some ⟨zg,0,none⟩) J zc)) rfl (e _) (ak_at0 F8)) (rv_ 3 (.pointer (some ⟨zg,0+j,none⟩)) (fun a e=>execIdxN (k:=j) rfl (e _) (e _) ltj) (rv_ 4 (.int .i64 ((m:Nat):Int)) (fun a e=>execLd3 rfl (e _) ((own_cellI FZ ltj).1.trans (by rw [← em]; rfl))) (rc_ 6 (rfr0 m (dQ (ckP L J p j) (lq L J) m) (m - 1) _ X13 Fa75 (by omega) hfr) fun e X16 hh=>?_)))))
     obtain ⟨o89,he,hk,hb⟩:=hh
     refine ⟨_,he,?_⟩
     have bQ:Below X13.heap.size X13 X16:=hb
     have FR:(X16.ownsRow X13.heap.size 3 1 o89 m (intsL m (fun k=>((frA m (dN_ (ckP L J p j) (lq L J) m) (m - 1) k:Nat):Int)))):=hk
     replace F6:=(on9 F6 bQ)
     replace F8:=(on9 F8 bQ)
     replace F9:=(on9 F9 bQ)
     replace FPT:=(FPT.on bQ)
     replace FZ:=(ownD_below FZ bQ)
     replace FU:=(ownD_below FU bQ)
     replace FW:=(ownD_below FW bQ)
     replace FT:=(ownD_below FT bQ)
     replace FM:=(FM.on bQ)
     replace BB:=BB.trans (bQ.mono BB.size)
     clear Fa75 bQ
     refine rf_ [(18,o89)] (h5_ t2 t6 t8 t9 t14) ?_
     rintro a A ⟨t18,-⟩ ⟨t2,t6,t8,t9,t14,-⟩
     obtain ⟨g95,egg95⟩:∃ z_:Nat,X16.heap.size=z_:=⟨_,rfl⟩
     refine wi_ A (h6_ t2 t6 t8 t9 t14 t18) (rv_ 0 (.pointer (some ⟨g8,3,none⟩)) (fun a e=>execFldLd3 rfl (e _)) (rv_ 1 (tv) (fun a e=>execLdLII (v:=tv) rfl (e _) (ak_at3 F8)) (rs_ 3 (fun a e=>?_))))
     refine stepV rfl rfl (execBsLI rfl (e _) (Brd.shp3 FR)) ⟨.slice (some ⟨g95,0,none⟩) 1 1,⟨_,rfl,by subst egg95; rfl⟩,fun X17_1 hX=>?_⟩
     have bQ:Below X16.heap.size X16 X17_1:=by subst hX egg95; exact (belNew X16 _)
     have F95:(X17_1.heap[g95]?=some (.cells #[o89] 24)):=by subst hX egg95; exact heapNew X16 _
     replace F6:=(on9 F6 bQ)
     replace F8:=(on9 F8 bQ)
     replace F9:=(on9 F9 bQ)
     replace FPT:=(FPT.on bQ)
     replace FZ:=(ownD_below FZ bQ)
     replace FU:=(ownD_below FU bQ)
     replace FW:=(ownD_below FW bQ)
     replace FT:=(ownD_below FT bQ)
     replace FM:=(FM.on bQ)
     replace FR:=(ownD_below FR bQ)
     replace BB:=BB.trans (bQ.mono BB.size)
     clear bQ hX egg95 e a
     refine rs_ 4 (fun a e=>?_)
     refine stepAppLI (y:=y) (z:=updX y j o89) rfl rfl rfl (e _) (e _) FT F95 rfl (fun k hk=>by rw [show k=0 by omega]; show some o89=some (updX y j o89 j); unfold updX; rw [if_pos rfl]) (fun k hk=>by rw [show k=0 by omega]; show (updX y j o89 j).oneCell'=true; unfold updX; rw [if_pos rfl]; exact one_of3 (Brd.shp3 FR)) (fun k hk=>by unfold updX; rw [if_neg (by omega)]) (by omega) (BB).size fun v96 X17_2 own' gr=>⟨_,⟨_,rfl,rfl⟩,eqw ?_⟩
     obtain ⟨BB,F6,F8,F9,FPT,FZ,FU,FW,FM,FR,FT2⟩:Below V.heap.size V X17_2/\X17_2.heap[g6]?=some (.cells (akC (.slice none 0 0) (.slice none 0 0) (.slice none 0 0) (.slice none 0 0)) 66)/\X17_2.heap[g8]?=some (.cells (akC (.slice (some ⟨zg,0,none⟩) J zc) u_ w_ tv) 66)/\X17_2.heap[g9]?=some (.cells (ptC nv bv cv) 55)/\(PtS X17_2 V.heap.size J nv bv cv xs 18 (lb L) (lq L J) p)/\(X17_2.ownsRow V.heap.size 3 1 (.slice (some ⟨zg,0,none⟩) J zc) (J) (intsL (J) (sI N J)))/\(X17_2.ownsRow V.heap.size 3 1 u_ (N) (intsL (N) (pcF (sI N J) J (dQ (brP p) (lb L) N))))/\(X17_2.ownsRow V.heap.size 3 1 w_ (N) (intsL (N) (poF (sI N J) J (dQ (brP p) (lb L) N) N)))/\(FmI V.heap.size (j) (y) (szF N J) (owI L N J p) X17_2)/\(X17_2.ownsRow X13.heap.size 3 1 o89 m (intsL m (fun k=>((frA m (dN_ (ckP L J p j) (lq L J) m) (m - 1) k:Nat):Int))))/\(X17_2.ownsRow V.heap.size 24 1 v96 (j+1) (lL (updX y j o89) (j+1))):=⟨(BB).grown gr (BB).size (fun k hk=>(FT.lt k hk).1),Drw.heap_overL FT gr F6 (by decide),Drw.heap_overL FT gr F8 (by decide),Drw.heap_overL FT gr F9 (by decide),(pts_overT FPT FT gr (by decide) (by decide)),(own_overT FZ FT gr (by decide)),(own_overT FU FT gr (by decide)),(own_overT FW FT gr (by decide)),(FmI.overT FM FT (by decide) gr),(own_overT FR FT gr (by decide)),own'⟩
     clear FT F95 e a
     refine rv_ 5 (.pointer (some ⟨g8,3,none⟩)) (fun a e=>execFldLd3 rfl (e _)) (rs_ 6 (fun a e=>?_))
     refine stepS rfl rfl (execStLd3I rfl (e _) (e _) (Brd.shp3 FT2) F8) ⟨_,⟨_,rfl,rfl⟩,fun X17 hX=>?_⟩
     obtain ⟨BB,F6,F9,FPT,FZ,FU,FW,FM,FR,FT2,F8⟩:Below V.heap.size V X17/\X17.heap[g6]?=some (.cells (akC (.slice none 0 0) (.slice none 0 0) (.slice none 0 0) (.slice none 0 0)) 66)/\X17.heap[g9]?=some (.cells (ptC nv bv cv) 55)/\(PtS X17 V.heap.size J nv bv cv xs 18 (lb L) (lq L J) p)/\(X17.ownsRow V.heap.size 3 1 (.slice (some ⟨zg,0,none⟩) J zc) (J) (intsL (J) (sI N J)))/\(X17.ownsRow V.heap.size 3 1 u_ (N) (intsL (N) (pcF (sI N J) J (dQ (brP p) (lb L) N))))/\(X17.ownsRow V.heap.size 3 1 w_ (N) (intsL (N) (poF (sI N J) J (dQ (brP p) (lb L) N) N)))/\(FmI V.heap.size (j) (y) (szF N J) (owI L N J p) X17)/\(X17.ownsRow X13.heap.size 3 1 o89 m (intsL m (fun k=>((frA m (dN_ (ckP L J p j) (lq L J) m) (m - 1) k:Nat):Int))))/\(X17.ownsRow V.heap.size 24 1 v96 (j+1) (lL (updX y j o89) (j+1)))/\X17.heap[g8]?=some (.cells (akC (.slice (some ⟨zg,0,none⟩) J zc) u_ w_ v96) 66):=by rw [hX]; exact ⟨below4 BB Fge8 _,(by rw [setRow_other _ _ _ _ (Fn8F6)]; exact F6),(by rw [setRow_other _ _ _ _ ((Ne.symm Fn9F8))]; exact F9),(FPT.set F8 (by decide) (by decide)),(own_setT FZ F8 (by decide)),(own_setT FU F8 (by decide)),(own_setT FW F8 (by decide)),(Prm.FmI.setT FM F8 (by decide)),(own_setT FR F8 (by decide)),(own_setT FT2 F8 (by decide)),setRow_heap _ _ _ _ _ _ F8⟩
     clear hX e a
     refine rf_ [] (h5_ t2 t6 t8 t9 t14) ?_
     rintro a A - ⟨t2,t6,t8,t9,t14,-⟩
     have FM2:(FmI V.heap.size (j+1) (updX y j o89) (szF N J) (owI L N J p) X17):=FmI.add FM hlt FR BC em (fun k hk=>by show (((_:Nat)):Int)=_; rw [em])
     clear FM FR
     refine wi_ A (h5_ t2 t6 t8 t9 t14) (rv_ 1 (.int .i64 ((j+1:Nat):Int)) (fun a e=>execAd8 (p:=j) (q:=1) rfl (e _) rfl (by omega)) (rf_ [(14,.int .i64 ((j+1:Nat):Int))] (h4_ t2 t6 t8 t9) ?_))
     rintro a A ⟨t14,-⟩ ⟨t2,t6,t8,t9,-⟩
     exact ⟨⟨j+1,v96,updX y j o89,ltj,(fun t ht=>(if q:t=j then by subst q; rw [em]; exact hok else hall t (by omega))),A,t2,t6,t8,t9,t14,BB,F6,F8,F9,FPT,FZ,FU,FW,FT2,FM2⟩,by show J - (intOf (a.eval (.tmp 14))).toNat < J - (intOf (Act.eval _ (.tmp 14))).toNat; rw [t14,esj]; show J - (j+1) < J - j; omega⟩
   ·rw [decide_eq_false ltj] at t60
    refine wp_cond_false t60 ?_
    refine wp_exit ?_
    first | with_reducible refine exit_in ?_ | with_reducible refine exit_then (exit_in ?_) | with_reducible refine exit_then (exit_then (exit_in ?_)) | refine exit_in ?_ | refine exit_then (exit_in ?_) | refine exit_then (exit_then (exit_in ?_))
    clear t60 esj
    have hjJ:j=J:=by omega
    rw [hjJ] at FM FT hall
    have hok:OkT L J N (szF N J) p:=⟨okB_iff.1 hbr,fun t ht=>okB_iff.1 (hall t ht)⟩
    have hE:riE L ((N:Nat):Int) ((J:Nat):Int) p=0:=(show Fit L N J ((N:Nat):Int) ((J:Nat):Int) p from ⟨rfl,rfl,hN,h1,h2,hL18,hok⟩).ri
    clear F9 FPT t2 t9 t14
    refine wp_seq ?_
    refine wi_ A (h2_ t6 t8) (rv_ 0 (.agg (akC (.slice (some ⟨zg,0,none⟩) J zc) u_ w_ tv)) (fun a e=>execLdLd rfl (e _) F8) (rs_ 1 (fun a e=>?_)))
    refine stepS rfl rfl (execStLd rfl (e _) (e _) F6 rfl (ld_one ⟨_,_,_,rfl⟩ (Brd.shp3 FU) (Brd.shp3 FW) (Brd.shp3 FT))) ⟨_,⟨_,rfl,rfl⟩,fun X18 hX=>?_⟩
    obtain ⟨BB,F8,FZ,FU,FW,FT,FM,F6⟩:Below V.heap.size V X18/\X18.heap[g8]?=some (.cells (akC (.slice (some ⟨zg,0,none⟩) J zc) u_ w_ tv) 66)/\(X18.ownsRow V.heap.size 3 1 (.slice (some ⟨zg,0,none⟩) J zc) (J) (intsL (J) (sI N J)))/\(X18.ownsRow V.heap.size 3 1 u_ (N) (intsL (N) (pcF (sI N J) J (dQ (brP p) (lb L) N))))/\(X18.ownsRow V.heap.size 3 1 w_ (N) (intsL (N) (poF (sI N J) J (dQ (brP p) (lb L) N) N)))/\(X18.ownsRow V.heap.size 24 1 tv (J) (lL (y) (J)))/\(FmI V.heap.size (J) (y) (szF N J) (owI L N J p) X18)/\X18.heap[g6]?=some (.cells (akC (.slice (some ⟨zg,0,none⟩) J zc) u_ w_ tv) 66):=by rw [hX]; exact ⟨below4 BB Fge6 _,(by rw [setRow_other _ _ _ _ ((Ne.symm Fn8F6))]; exact F8),(own_setT FZ F6 (by decide)),(own_setT FU F6 (by decide)),(own_setT FW F6 (by decide)),(own_setT FT F6 (by decide)),(Prm.FmI.setT FM F6 (by decide)),setRow_heap _ _ _ _ _ _ F6⟩
    clear hX e a
    refine rf_ [(7,.bool true)] (h1_ t6) ?_
    rintro a A ⟨t7,-⟩ ⟨t6,-⟩
    rw [decide_eq_true hE]
    refine wp_ret ?_
    refine bodyPost_ret (results_ct9 rfl _ _ g6 66 _ (0,0) _ t6 F6 Try.underlying66 rfl (size_ak _ _ _ _)) A.2 ⟨.slice (some ⟨zg,0,none⟩) J zc,u_,w_,tv,y,?_,(fun _=>⟨own_ints FZ (sI_fits hN),own_ints FU (pc_fits (by omega)),own_ints FW (po_fits0 (dA_fits _ _ _ _)),lli_of FM FT (ow_fits hN h1 hall)⟩),(ld_one ⟨_,_,_,rfl⟩ (Brd.shp3 FU) (Brd.shp3 FW) (Brd.shp3 FT)),BB⟩
    show Ending.returned (.tuple #[.agg (akC (.slice (some ⟨zg,0,none⟩) J zc) u_ w_ tv),a.eval (.tmp 7)])=_
    rw [t7]
 ·refine wi_ A (h5_ t0 t1 t2 t6 t8) (rc_ 2 (rspl3 p L J _ X1 (FP.on BB) hl (by omega) h1 h2) fun e X2_1 hh=>?_)
  obtain ⟨nv,bv,cv,xs,he,hk,hb⟩:=hh
  refine ⟨_,he,?_⟩
  have bQ:Below X1.heap.size X1 X2_1:=hb
  have FPT:(PtS X2_1 V.heap.size 0 nv bv cv xs 0 0 0 p):=hk.base (Nat.le_trans BW.size (BB).size)
  replace F6:=(on9 F6 bQ)
  replace F8:=(on9 F8 bQ)
  replace BB:=BB.trans (bQ.mono BB.size)
  clear bQ
  obtain ⟨g9,egg9⟩:∃ z_:Nat,X2_1.heap.size=z_:=⟨_,rfl⟩
  refine rs_ 6 (fun a e=>?_)
  refine stepV rfl rfl (execAllPt rfl) ⟨.pointer (some ⟨g9,0,none⟩),⟨_,rfl,by subst egg9; rfl⟩,fun X2_2 hX=>?_⟩
  have bQ:Below X2_1.heap.size X2_1 X2_2:=by subst hX egg9; exact (belNew X2_1 _)
  have F9:X2_2.heap[g9]?=some (.cells (ptC (.slice none 0 0) (.slice none 0 0) (.slice none 0 0)) 55):=by subst hX egg9; exact heapNew X2_1 _
  have Fge9:(V.heap.size<=g9):=by subst hX egg9; exact (BB).size
  have Fn9F6:(g6 ≠ g9):=by subst hX egg9; exact ne9 F6
  have Fn9F8:(g8 ≠ g9):=by subst hX egg9; exact ne9 F8
  replace F6:=(on9 F6 bQ)
  replace F8:=(on9 F8 bQ)
  replace FPT:=(FPT.on bQ)
  replace BB:=BB.trans (bQ.mono BB.size)
  clear bQ hX egg9 e a
  refine rs_ 7 (fun a e=>?_)
  refine stepS rfl rfl (execStPt rfl (e _) (e _) F9 rfl (pts_one FPT)) ⟨_,⟨_,rfl,rfl⟩,fun X2 hX=>?_⟩
  obtain ⟨BB,F6,F8,FPT,F9⟩:Below V.heap.size V X2/\X2.heap[g6]?=some (.cells (akC (.slice none 0 0) (.slice none 0 0) (.slice none 0 0) (.slice none 0 0)) 66)/\X2.heap[g8]?=some (.cells (akC (.slice none 0 0) (.slice none 0 0) (.slice none 0 0) (.slice none 0 0)) 66)/\(PtS X2 V.heap.size 0 nv bv cv xs 0 0 0 p)/\X2.heap[g9]?=some (.cells (ptC nv bv cv) 55):=by rw [hX]; exact ⟨below4 BB Fge9 _,(by rw [setRow_other _ _ _ _ (Fn9F6)]; exact F6),(by rw [setRow_other _ _ _ _ (Fn9F8)]; exact F8),(FPT.set F9 (by decide) (by decide)),setRow_heap _ _ _ _ _ _ F9⟩
  clear hX e a
  refine rf_ [(10,.int .i64 ((3:Nat):Int))] (h2_ t6 t8) ?_
  rintro a A ⟨t10,-⟩ ⟨t6,t8,-⟩
  clear FPT F9
  refine wp_seq (wp_seq ?_)
  refine wi_ A (h3_ t6 t8 t10) (rv_ 1 (.bool true) (fun a e=>execDec (execNeN (p:=3) (q:=0) rfl (e _) rfl) (decide_eq_true (by decide))) (rf_ [(27,.bool true)] (h2_ t6 t8) ?_))
  rintro a A ⟨t27,-⟩ ⟨t6,t8,-⟩
  refine wp_cond_true t27 ?_
  clear t27
  refine wp_seq ?_
  refine wi_ A (h2_ t6 t8) (rv_ 0 (.agg (akC (.slice none 0 0) (.slice none 0 0) (.slice none 0 0) (.slice none 0 0))) (fun a e=>execLdLd rfl (e _) F8) (rs_ 1 (fun a e=>?_)))
  refine stepS rfl rfl (execStLd rfl (e _) (e _) F6 rfl (ld_one ⟨_,_,_,rfl⟩ ⟨_,_,_,rfl⟩ ⟨_,_,_,rfl⟩ ⟨_,_,_,rfl⟩)) ⟨_,⟨_,rfl,rfl⟩,fun X4 hX=>?_⟩
  obtain ⟨BB,F8,F6⟩:Below V.heap.size V X4/\X4.heap[g8]?=some (.cells (akC (.slice none 0 0) (.slice none 0 0) (.slice none 0 0) (.slice none 0 0)) 66)/\X4.heap[g6]?=some (.cells (akC (.slice none 0 0) (.slice none 0 0) (.slice none 0 0) (.slice none 0 0)) 66):=by rw [hX]; exact ⟨below4 BB Fge6 _,(by rw [setRow_other _ _ _ _ ((Ne.symm Fn8F6))]; exact F8),setRow_heap _ _ _ _ _ _ F6⟩
  clear hX e a
  refine rf_ [(7,.bool false)] (h1_ t6) ?_
  rintro a A ⟨t7,-⟩ ⟨t6,-⟩
  have hE:riE L ((N:Nat):Int) ((J:Nat):Int) p ≠ 0:=by show (if inL _ _ then _ else _) ≠ 0; rw [if_pos hin,if_neg fun q=>hL18 q.1]; decide
  rw [decide_eq_false hE]
  refine wp_ret ?_
  repeat (first | with_reducible refine ret_in ?_ | with_reducible refine ret_then ?_)
  refine bodyPost_ret (results_ct9 rfl _ _ g6 66 _ (0,0) _ t6 F6 Try.underlying66 rfl (size_ak _ _ _ _)) A.2 ⟨(.slice none 0 0),(.slice none 0 0),(.slice none 0 0),(.slice none 0 0),fun _=>undef,?_,(fun q=>absurd q hE),(ld_one ⟨_,_,_,rfl⟩ ⟨_,_,_,rfl⟩ ⟨_,_,_,rfl⟩ ⟨_,_,_,rfl⟩),BB⟩
  show Ending.returned (.tuple #[.agg (akC (.slice none 0 0) (.slice none 0 0) (.slice none 0 0) (.slice none 0 0)),a.eval (.tmp 7)])=_
  rw [t7]
end Go.Proofs.Ytmjpneaccjlpkaa.Rif
