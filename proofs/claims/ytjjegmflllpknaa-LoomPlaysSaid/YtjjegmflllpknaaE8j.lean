import Derived.Test.YtjjegmflllpknaaE8h
import Derived.WalkKit
namespace Go.Proofs.Ytjjegmflllpknaa.Loo
open Go.RowKit Gf8 Aes By8 Cel Cf Win Drw Prm
/- The laws' pair and alive. Written by tools/mkE8i.py. -/
def oC (k a b:Int):Array Value:=#[.int .i64 k,.int .i64 a,.int .i64 b]
def oR (m:Nat) (q:Nat->Op3):Array Value:=((List.range m).flatMap fun j=>[.int .i64 (q j).k,.int .i64 (q j).a,.int .i64 (q j).b]).toArray
def iR (m:Nat) (f:Nat->Int):Array Value:=(intsL m f).toArray
def vR (m:Nat) (x:Nat->Value):Array Value:=((List.range m).map x).toArray
theorem flat3 {q:Nat->Op3}:∀ (n j i:Nat),j < n->i < 3->((List.range n).flatMap fun j=>[Value.int .i64 (q j).k,.int .i64 (q j).a,.int .i64 (q j).b])[j * 3+i]?=[Value.int .i64 (q j).k,.int .i64 (q j).a,.int .i64 (q j).b][i]?
 | 0,j,_,h,_=>absurd h (Nat.not_lt_zero j)
 | n+1,j,i,h,hi=>by
  have hl:∀ m,((List.range m).flatMap fun j=>[Value.int .i64 (q j).k,.int .i64 (q j).a,.int .i64 (q j).b]).length=m * 3:=fun m=>by
   induction m with
   | zero=>rfl
   | succ m ih=>rw [List.range_succ,List.flatMap_append,List.length_append,ih]; show m * 3+3=_; omega
  rw [List.range_succ,List.flatMap_append]
  by_cases e:j=n
  ·subst e
   rw [List.getElem?_append_right (by rw [hl]; omega),hl,show j * 3+i - j * 3=i by omega]
   rfl
  ·rw [List.getElem?_append_left (by rw [hl]; omega)]
   exact flat3 n j i (by omega) hi
section
variable {W:World} {g m:Nat} {t:TypeId}
theorem oR_slice {q:Nat->Op3} (h:W.heap[g]?=some (.cells (oR m q) t)) (hf:∀ j,j < m->I64 (q j).k/\I64 (q j).a/\I64 (q j).b):SliceO W (.slice (some ⟨g,0,none⟩) m m) m q:=by
 refine ⟨⟨_,_,rfl,fun _=>⟨g,0,rfl,(Array.getElem?_eq_some_iff.1 h).1,fun j hj=>?_⟩⟩,hf⟩
 refine ⟨?_,?_,?_⟩
 ·rw [cell_of_row _ _ _ _ _ _ h,Nat.zero_add]
  exact (List.getElem?_toArray ..).trans (flat3 m j 0 hj (by omega))
 ·rw [cell_of_row _ _ _ _ _ _ h,Nat.zero_add]
  exact (List.getElem?_toArray ..).trans (flat3 m j 1 hj (by omega))
 ·rw [cell_of_row _ _ _ _ _ _ h,Nat.zero_add]
  exact (List.getElem?_toArray ..).trans (flat3 m j 2 hj (by omega))
theorem iR_slice {f:Nat->Int} (h:W.heap[g]?=some (.cells (iR m f) t)) (hm:m<=1000) (hf:∀ j,j < m->I64 (f j)):SliceI W (.slice (some ⟨g,0,none⟩) m m) m f:=by
 refine ⟨⟨_,_,rfl,Nat.le_refl _,by unfold maxLen; omega,fun _=>⟨g,0,rfl,(Array.getElem?_eq_some_iff.1 h).1,fun j hj=>?_⟩⟩,hf⟩
 rw [cell_of_row _ _ _ _ _ _ h,Nat.zero_add]
 exact (List.getElem?_toArray ..).trans (intsL_get hj)
theorem vR_slice {x:Nat->Value} (h:W.heap[g]?=some (.cells (vR m x) t)):SliceV W (.slice (some ⟨g,0,none⟩) m m) m x:=by
 refine ⟨_,_,rfl,fun _=>⟨g,0,rfl,(Array.getElem?_eq_some_iff.1 h).1,fun j hj=>?_⟩⟩
 rw [cell_of_row _ _ _ _ _ _ h,Nat.zero_add]
 refine (List.getElem?_toArray ..).trans ?_
 rw [List.getElem?_map,List.getElem?_range hj]
 rfl
end
section
variable {o:Oper} {a:Act} {w:World}
theorem execBo0 {x0:Operand} {z0:Int} (ho:o.op=.build 59 #[(0,x0)]) (h0:a.eval x0=.int .i64 z0):(execOp a.eval o).run Try.prog w=.ok (.value (.agg (oC z0 0 0))) w:=by
 unfold execOp
 simp only [ho,List.map_toArray,List.map_cons,List.map_nil,h0]
 kernel_rfl
theorem execBo01 {x0 x1:Operand} {z0 z1:Int} (ho:o.op=.build 59 #[(0,x0),(1,x1)]) (h0:a.eval x0=.int .i64 z0) (h1:a.eval x1=.int .i64 z1):(execOp a.eval o).run Try.prog w=.ok (.value (.agg (oC z0 z1 0))) w:=by
 unfold execOp
 simp only [ho,List.map_toArray,List.map_cons,List.map_nil,h0,h1]
 kernel_rfl
theorem execBo02 {x0 x2:Operand} {z0 z2:Int} (ho:o.op=.build 59 #[(0,x0),(2,x2)]) (h0:a.eval x0=.int .i64 z0) (h2:a.eval x2=.int .i64 z2):(execOp a.eval o).run Try.prog w=.ok (.value (.agg (oC z0 0 z2))) w:=by
 unfold execOp
 simp only [ho,List.map_toArray,List.map_cons,List.map_nil,h0,h2]
 kernel_rfl
theorem execBs1O {x0:Operand} (q:Nat->Op3) (ho:o.op=.buildSlice 79 1 #[(0,x0)]) (h0:a.eval x0=.agg (oC (q 0).k (q 0).a (q 0).b)):(execOp a.eval o).run Try.prog w=.ok (.value (.slice (some ⟨w.heap.size,0,none⟩) 1 1)) (w.alloc (.cells (oR 1 q) 59)):=by
 unfold execOp
 simp only [ho,List.map_toArray,List.map_cons,List.map_nil,h0]
 kernel_rfl
theorem execBs3O {x0 x1 x2:Operand} (q:Nat->Op3) (ho:o.op=.buildSlice 79 3 #[(0,x0),(1,x1),(2,x2)]) (h0:a.eval x0=.agg (oC (q 0).k (q 0).a (q 0).b)) (h1:a.eval x1=.agg (oC (q 1).k (q 1).a (q 1).b)) (h2:a.eval x2=.agg (oC (q 2).k (q 2).a (q 2).b)):(execOp a.eval o).run Try.prog w=.ok (.value (.slice (some ⟨w.heap.size,0,none⟩) 3 3)) (w.alloc (.cells (oR 3 q) 59)):=by
 unfold execOp
 simp only [ho,List.map_toArray,List.map_cons,List.map_nil,h0,h1,h2]
 kernel_rfl
theorem execBs1I {x0:Operand} (f:Nat->Int) (ho:o.op=.buildSlice 22 1 #[(0,x0)]) (h0:a.eval x0=.int .i64 (f 0)):(execOp a.eval o).run Try.prog w=.ok (.value (.slice (some ⟨w.heap.size,0,none⟩) 1 1)) (w.alloc (.cells (iR 1 f) 3)):=by
 unfold execOp
 simp only [ho,List.map_toArray,List.map_cons,List.map_nil,h0]
 kernel_rfl
theorem execBs2I {x0 x1:Operand} (f:Nat->Int) (ho:o.op=.buildSlice 22 2 #[(0,x0),(1,x1)]) (h0:a.eval x0=.int .i64 (f 0)) (h1:a.eval x1=.int .i64 (f 1)):(execOp a.eval o).run Try.prog w=.ok (.value (.slice (some ⟨w.heap.size,0,none⟩) 2 2)) (w.alloc (.cells (iR 2 f) 3)):=by
 unfold execOp
 simp only [ho,List.map_toArray,List.map_cons,List.map_nil,h0,h1]
 kernel_rfl
theorem execBs4I {x0 x1 x2 x3:Operand} (f:Nat->Int) (ho:o.op=.buildSlice 22 4 #[(0,x0),(1,x1),(2,x2),(3,x3)]) (h0:a.eval x0=.int .i64 (f 0)) (h1:a.eval x1=.int .i64 (f 1)) (h2:a.eval x2=.int .i64 (f 2)) (h3:a.eval x3=.int .i64 (f 3)):(execOp a.eval o).run Try.prog w=.ok (.value (.slice (some ⟨w.heap.size,0,none⟩) 4 4)) (w.alloc (.cells (iR 4 f) 3)):=by
 unfold execOp
 simp only [ho,List.map_toArray,List.map_cons,List.map_nil,h0,h1,h2,h3]
 kernel_rfl
theorem execBs2Vx {x0 x1:Operand} {a0 a1:Option Addr} {n0 c0 n1 c1:Nat} (ho:o.op=.buildSlice 23 2 #[(0,x0),(1,x1)]) (h0:a.eval x0=.slice a0 n0 c0) (h1:a.eval x1=.slice a1 n1 c1):(execOp a.eval o).run Try.prog w=.ok (.value (.slice (some ⟨w.heap.size,0,none⟩) 2 2)) (w.alloc (.cells #[.slice a0 n0 c0,.slice a1 n1 c1] 79)):=by
 unfold execOp
 simp only [ho,List.map_toArray,List.map_cons,List.map_nil,h0,h1]
 kernel_rfl
theorem execBs2V {x0 x1:Operand} (y:Nat->Value) (ho:o.op=.buildSlice 23 2 #[(0,x0),(1,x1)]) (h0:a.eval x0=y 0) (h1:a.eval x1=y 1) (hy:∀ i,i < 2->∃ a n c,y i=.slice a n c):(execOp a.eval o).run Try.prog w=.ok (.value (.slice (some ⟨w.heap.size,0,none⟩) 2 2)) (w.alloc (.cells (vR 2 y) 79)):=by
 obtain ⟨a0,n0,c0,e0⟩:=hy 0 (by omega)
 obtain ⟨a1,n1,c1,e1⟩:=hy 1 (by omega)
 have ev:vR 2 y=#[.slice a0 n0 c0,.slice a1 n1 c1]:=by
  show #[y 0,y 1]=_
  rw [e0,e1]
 rw [ev]
 exact execBs2Vx ho (h0.trans e0) (h1.trans e1)
theorem execBp01 {x y:Operand} {u v:Value} (ho:o.op=.build 25 #[(0,x),(1,y)]) (hx:a.eval x=u) (hy:a.eval y=v) (hu:∃ a n c,u=.slice a n c) (hv:∃ a n c,v=.slice a n c):(execOp a.eval o).run Try.prog w=.ok (.value (.agg #[u,v])) w:=by
 obtain ⟨a1,n1,c1,rfl⟩:=hu
 obtain ⟨a2,n2,c2,rfl⟩:=hv
 unfold execOp
 simp only [ho,List.map_toArray,List.map_cons,List.map_nil,hx,hy]
 kernel_rfl
theorem execBp0 {x:Operand} {u:Value} (ho:o.op=.build 25 #[(0,x)]) (hx:a.eval x=u) (hu:∃ a n c,u=.slice a n c):(execOp a.eval o).run Try.prog w=.ok (.value (.agg #[u,.slice none 0 0])) w:=by
 obtain ⟨a1,n1,c1,rfl⟩:=hu
 unfold execOp
 simp only [ho,List.map_toArray,List.map_cons,List.map_nil,hx]
 kernel_rfl
theorem execAlP (ho:o.op=.alloc 25):(execOp a.eval o).run Try.prog w=.ok (.value (.pointer (some ⟨w.heap.size,0,none⟩))) (w.alloc (.cells #[.slice none 0 0,.slice none 0 0] 25)):=by
 unfold execOp
 simp only [ho]
 simp [go_sem]
theorem execStP {x y:Operand} {g:Nat} {u v u0 v0:Value} (ho:o.op=.store 25 x y) (hx:a.eval x=.pointer (some ⟨g,0,none⟩)) (hy:a.eval y=.agg #[u,v]) (hg:w.heap[g]?=some (.cells #[u0,v0] 25)) (hu:∃ a n c,u=.slice a n c) (hv:∃ a n c,v=.slice a n c):(execOp a.eval o).run Try.prog w=.ok .skip (w.setRow g #[u,v]):=by
 obtain ⟨a1,n1,c1,rfl⟩:=hu
 obtain ⟨a2,n2,c2,rfl⟩:=hv
 have h:=execStMid (P:=Try.prog) ho hx hy hg (Nat.le_refl _) (by show _=some 2; kernel_rfl) (by simp [Value.oneCell'])
 exact h
theorem execMkF19 {x:Operand} {g:Nat} {v:Value} (ho:o.op=.makeFunc (.func g) #[] #[x]) (hx:a.eval x=v):(execOp a.eval o).run Try.prog w=.ok (.value (.func (.func g) #[] #[v])) w:=by
 unfold execOp
 simp only [ho,List.map_toArray,List.map_cons,List.map_nil,hx]
 simp [go_sem]
theorem execBt1 {x:Operand} {g:Nat} {c:Array Value} (ho:o.op=.build 48 #[(1,x)]) (hx:a.eval x=.func (.func g) #[] c):(execOp a.eval o).run Try.prog w=.ok (.value (.agg #[.nilFunc,.func (.func g) #[] c])) w:=by
 unfold execOp
 simp only [ho,List.map_toArray,List.map_cons,List.map_nil,hx]
 kernel_rfl
theorem execBs1T {x:Operand} {g:Nat} {c:Array Value} (ho:o.op=.buildSlice 42 1 #[(0,x)]) (hx:a.eval x=.agg #[.nilFunc,.func (.func g) #[] c]):(execOp a.eval o).run Try.prog w=.ok (.value (.slice (some ⟨w.heap.size,0,none⟩) 1 1)) (w.alloc (.cells #[.nilFunc,.func (.func g) #[] c] 48)):=by
 unfold execOp
 simp only [ho,List.map_toArray,List.map_cons,List.map_nil,hx]
 kernel_rfl
theorem execAlI (ho:o.op=.alloc 3):(execOp a.eval o).run Try.prog w=.ok (.value (.pointer (some ⟨w.heap.size,0,none⟩))) (w.alloc (.cells #[.int .i64 0] 3)):=by
 unfold execOp
 simp only [ho]
 simp [go_sem]
theorem execInc19 {x:Operand} {z:Int} (ho:o.op=.binOp .add 3 x (.const (.int .i64 1)) 3) (hx:a.eval x=.int .i64 z):(execOp a.eval o).run Try.prog w=.ok (.value (.int .i64 (IntKind.i64.wrap (z+1)))) w:=by
 unfold execOp
 have hc:a.eval (.const (.int .i64 1))=.int .i64 1:=rfl
 simp only [ho,hx,hc]
 simp [go_sem]
theorem execStI19 {x y:Operand} {g:Nat} {z z0:Int} (ho:o.op=.store 3 x y) (hx:a.eval x=.pointer (some ⟨g,0,none⟩)) (hy:a.eval y=.int .i64 z) (hg:w.heap[g]?=some (.cells #[.int .i64 z0] 3)):(execOp a.eval o).run Try.prog w=.ok .skip (w.setRow g #[.int .i64 z]):=by
 have h1:w.cell? ⟨g,0,none⟩=some (.int .i64 z0):=by rw [cell_of_row _ _ _ _ _ _ hg]; rfl
 have h2:=frozen4 (o:=0) hg
 unfold execOp
 simp only [ho,hx,hy]
 simp [go_sem,h1,h2,setCell_eq_setRow w g 0 _ 3 (0,0) (.int .i64 z) hg]
end
end Go.Proofs.Ytjjegmflllpknaa.Loo

namespace Go.Proofs.Ytjjegmflllpknaa.Loo
open Go.RowKit Gf8 Aes By8 Cel Cf Win Drw Prm
/- What alive asks: a pair of tasks, a task that counts, a plan that is none. -/
def pairO (t j:Nat):Op3:=if t=0 then (if j=0 then ⟨4,7,0⟩ else if j=1 then ⟨1,0,0⟩ else ⟨3,0,0⟩) else ⟨2,0,1⟩
theorem pairO_fit:∀ t,t < 2->∀ j,j < 3->I64 (pairO t j).k/\I64 (pairO t j).a/\I64 (pairO t j).b:=by decide
def pairP (c:Int):Pl where
 d:=1
 n:=2
 cap:=fun _=>c
 ln:=fun t=>if t=0 then 3 else 1
 op:=pairO
theorem pair1_chk:chk (pairP 1)=0:=by decide +kernel
theorem pair1_run:Run (pairP 1) (scr 4 fun _=>1) 4:=⟨by omega,by decide +kernel,Or.inl (by decide +kernel)⟩
theorem pair1_is:(∀ i,i < 4->pk (pairP 1) (scr 4 fun _=>1) i=if i=2 then 1 else 0)/\mx (pairP 1) (scr 4 fun _=>1) 4=1/\live (pairP 1) (rk (pairP 1) (scr 4 fun _=>1) 4)=false/\(rk (pairP 1) (scr 4 fun _=>1) 4).lt=0/\(rk (pairP 1) (scr 4 fun _=>1) 4).tk 1=[7]:=by decide +kernel
def pair1F (i:Nat):Int:=(pk (pairP 1) (scr 4 fun _=>1) i:Int)
def pair1T:Nat->List Int:=(rk (pairP 1) (scr 4 fun _=>1) 4).tk
theorem pair1_play (I:LImpl) (v sv:Value) (V:World) (hv:PlA V v (pairP 1)) (hs:SliceI V sv 4 (fun _=>1)):Calls Try.prog 7 #[v,sv] V fun e w'=>∃ pk tk tv,e=.returned (.tuple #[.agg (hC pk 1 true false 0 tk),.int .i64 ((0:Nat):Int)])/\His V.heap.size w' pk tk tv 4 2 pair1F pair1T/\Below V.heap.size V w':=by
 refine Calls.mono (I.play (pairP 1) v sv 4 (fun _=>1) V hv hs) fun e w' ⟨⟨_,h⟩,hb⟩=>?_
 obtain ⟨pk,tk,tv,N,hr,he,hh⟩:=h pair1_chk
 obtain rfl:=hr.uniq pair1_run
 obtain ⟨e1,e2,e3,e4,e5⟩:=pair1_is
 rw [e2,e3,e4] at he
 exact ⟨pk,tk,tv,he,hh,hb⟩
theorem pair1_picks {B:Nat} {W:World} {pk tk:Value} {tv:Nat->Value} (hh:His B W pk tk tv 4 2 pair1F pair1T):SliceI W pk 4 (fun i=>if i=2 then 1 else 0):=
 hh.picks.cg fun j hj=>by
  show ((Loo.pk (pairP 1) (scr 4 fun _=>1) j:Nat):Int)=_
  rw [pair1_is.1 j hj]
  split <;> rfl
theorem pair1_taken {B:Nat} {W:World} {pk tk:Value} {tv:Nat->Value} (hh:His B W pk tk tv 4 2 pair1F pair1T):SliceI W (tv 1) 1 (fun _=>7):=by
 have h1:=hh.taken (t:=1) (show 1 < 2 by omega)
 have e5:pair1T 1=[7]:=pair1_is.2.2.2.2
 rw [e5] at h1
 exact h1.cg fun j hj=>by
  have:j=0:=by have:j < 1:=hj; omega
  subst this
  rfl
def badP:Pl where
 d:=1
 n:=0
 cap:=fun _=>-1
 ln:=fun _=>0
 op:=fun _ _=>⟨0,0,0⟩
theorem bad_chk:chk badP=190:=by decide +kernel
abbrev cF:FuncId:=17
set_option maxRecDepth 100000 in
theorem pcount (g:Nat) (z:Int) (V:World) (hg:V.heap[g]?=some (.cells #[.int .i64 z] 3)):Calls Try.prog cF #[.pointer (some ⟨g,0,none⟩)] V fun e w'=>e=.returned (.bool (decide (IntKind.i64.wrap (z+1)=2)))/\w'=V.setRow g #[.int .i64 (IntKind.i64.wrap (z+1))]:=by
 have h1:V.cell? ⟨g,0,none⟩=some (.int .i64 z):=by rw [cell_of_row _ _ _ _ _ _ hg]; rfl
 have h2:=frozen4 (o:=0) hg
 have h3:(V.setRow g #[.int .i64 (IntKind.i64.wrap (z+1))]).heap[g]?=some (.cells #[.int .i64 (IntKind.i64.wrap (z+1))] 3):=setRow_heap _ _ _ _ _ _ hg
 have h4:(V.setRow g #[.int .i64 (IntKind.i64.wrap (z+1))]).cell? ⟨g,0,none⟩=some (.int .i64 (IntKind.i64.wrap (z+1))):=by rw [cell_of_row _ _ _ _ _ _ h3]; rfl
 go_enter Try.func17,Try.ntmps17
 refine wo_ 6 [(0,.pointer (some ⟨g,0,none⟩))] ?_
 rintro a A ⟨t0,-⟩
 refine wp_seq ?_
 refine wi_ A (h1_ t0) (rf_ [] (h1_ t0) ?_)
 rintro a A - ⟨t0,-⟩
 refine wp_seq ?_
 refine wi_ A (h1_ t0) (rv_ 0 (.int .i64 z) (fun a E=>execLdG rfl (Or.inr (Or.inl rfl)) (E _) h1) (rv_ 1 (.int .i64 (IntKind.i64.wrap (z+1))) (fun a E=>execInc19 rfl (E _)) (rs_ 2 (fun a E=>?_))))
 refine stepS rfl rfl (execStI19 rfl (E _) (E _) hg) ⟨_,⟨_,rfl,rfl⟩,fun X1 hX=>?_⟩
 refine rf_ [] (h1_ t0) ?_
 rintro a A - ⟨t0,-⟩
 obtain rfl:X1=V.setRow g #[.int .i64 (IntKind.i64.wrap (z+1))]:=hX
 refine wp_seq ?_
 refine wi_ A (h1_ t0) (rv_ 0 (.int .i64 (IntKind.i64.wrap (z+1))) (fun a E=>execLdG rfl (Or.inr (Or.inl rfl)) (E _) h4) (rv_ 1 (.bool (decide (IntKind.i64.wrap (z+1)=2))) (fun a E=>exIeql3 rfl (E _) rfl) (rg_ [(1,.bool (decide (IntKind.i64.wrap (z+1)=2)))] ?_)))
 rintro a A ⟨t1,-⟩
 refine wp_ret ?_
 refine bodyPost_ret (results_tmp rfl _ _ _) A.2 ⟨?_,rfl⟩
 show Ending.returned (a.eval (.tmp 1))=_
 rw [t1]
def aSys (g:Nat):Sys Int where
 R:=fun W F z=>(∀ b,F b ↔ b=g)/\W.heap[g]?=some (.cells #[.int .i64 z] 3)
 lo:=0
 frame:=fun ⟨h1,h2⟩ e _ _=>⟨h1,by rw [e g ((h1 g).2 rfl)]; exact h2⟩
 low:=fun _=>Nat.zero_le _
 lt:=fun ⟨h1,h2⟩ b hb=>by rw [(h1 b).1 hb]; exact (Array.getElem?_eq_some_iff.1 h2).1
 n:=1
 rf:=fun _=>none
 sf:=fun _=>some (cF,#[.pointer (some ⟨g,0,none⟩)])
 ra:=fun z _=>(true,z)
 sa:=fun z _=>(decide (IntKind.i64.wrap (z+1)=2),IntKind.i64.wrap (z+1))
 cr:=fun _ _=>True
 cs:=fun _ _=>True
 rok:=fun _ h=>by cases h
 sok:=fun {t f c} _ h=>by
  injection h with h
  injection h with e1 e2
  subst e1
  exact ⟨_,Try.func17,by kernel_rfl,by kernel_rfl⟩
 ready:=fun _ h _ _=>by cases h
 step:=fun {V F x t f c} _ h _ hR=>by
  injection h with h
  injection h with e1 e2
  subst e1
  subst e2
  refine Calls.mono (pcount g x V hR.2) fun e w' ⟨he,hw⟩=>⟨F,he,⟨hR.1,?_⟩,?_,fun q hq=>Or.inl hq⟩
  ·rw [hw]
   exact setRow_heap _ _ _ _ _ _ hR.2
  ·rw [hw]
   have hb:Below g V (V.setRow g #[.int .i64 (IntKind.i64.wrap (x+1))]):=below4 (Below.refl _ _) (Nat.le_refl _) _
   refine ⟨hb.os,hb.tape,hb.output,hb.size,fun b _ hn=>?_⟩
   rw [setRow_other _ _ _ _ (fun z=>hn ((hR.1 b).2 z))]
theorem aSys_go (g:Nat) (sc:Nat->Int):((aSys g).go sc 9 0 (aSys g).en0 0 []).1=[0,0]/\(aSys g).alive ((aSys g).go sc 9 0 (aSys g).en0 0 []).2.1=false/\((aSys g).go sc 9 0 (aSys g).en0 0 []).2.2.1=2:=by
 have h1:∀ x:Int,chn x 1=0:=fun x=>by have:=chn_lt (x:=x) (m:=1) (by omega); omega
 have h2:(aSys g).go sc 9 0 (aSys g).en0 0 []=(aSys g).go sc 7 2 (upf (upf (aSys g).en0 0 false) 0 true) 2 [0,0]:=by
  show (aSys g).go sc 8 1 (upf (aSys g).en0 (([0]:List Nat).getD (chn (sc 0) 1) 0) _) _ ([] ++ [([0]:List Nat).getD (chn (sc 0) 1) 0])=_
  rw [h1]
  show (aSys g).go sc 7 2 (upf (upf (aSys g).en0 0 false) (([0]:List Nat).getD (chn (sc 1) 1) 0) _) _ ([0] ++ [([0]:List Nat).getD (chn (sc 1) 1) 0])=_
  rw [h1]
  rfl
 rw [h2]
 exact ⟨rfl,rfl,rfl⟩
end Go.Proofs.Ytjjegmflllpknaa.Loo
