import Derived.Test.YtmjpneaccjlpkaaG9a
import Derived.Test.YtmjpneaccjlpkaaF9b
import Derived.Test.YtmjpneaccjlpkaaZ9a
import Derived.Test.YtmjpneaccjlpkaaP9b
namespace Go.Proofs.Ytmjpneaccjlpkaa.Tap
open Go.RowKit Gf8 Aes By8 Cel Cf
/- The law's awake, TapeJoins. Written by tools/mkV9o.py. -/
theorem ne9 {X:World} {g:Nat} {c:Obj} (h:X.heap[g]?=some c):g ≠ X.heap.size:=by have:=(Array.getElem?_eq_some_iff.1 h).1; omega
theorem execDec {o:Oper} {a:Act} {P:Program} {w w':World} {b c:Bool} (h:(execOp a.eval o).run P w=.ok (.value (.bool b)) w') (e:b=c):(execOp a.eval o).run P w=.ok (.value (.bool c)) w':=by rw [h,e]
end Go.Proofs.Ytmjpneaccjlpkaa.Tap

namespace Go.Proofs.Ytmjpneaccjlpkaa.Prm
open Go.RowKit Gf8 Aes By8 Cel Cf Tap Drw
/- Stage 11's reference: Check, Identity, Bounds, Put. Written by tools/mkP9c.py. -/
def pE (f:Nat->Int) (n:Nat):Nat:=if okQ f n n=true then 0 else 110
def gN (f:Nat->Int):Nat->Nat:=fun i=>(f i).toNat
theorem okQ_succ {f:Nat->Int} {n i:Nat} (h:okQ f n i=true) (h1:¬ f i < 0) (h2:¬ (n:Int)<=f i) (h3:¬ inI f (f i) i=true):okQ f n (i+1)=true:=by
 simp only [okQ,h,Bool.true_and,Bool.and_eq_true,decide_eq_true_eq,Bool.not_eq_true',Bool.eq_false_iff.2 h3,and_true]
 omega
theorem pE_bad {f:Nat->Int} {n i:Nat} (hi:i < n) (h:f i < 0\/(n:Int)<=f i\/inI f (f i) i=true):pE f n=110:=if_neg fun q=>by
 obtain ⟨h1,h2⟩:=okQ_iff.1 q
 have:=h1 i hi
 rcases h with h | h | h
 ·omega
 ·omega
 ·obtain ⟨j,hj,e⟩:=inI_iff.1 h
  have:=h2 j i (by omega) hi e
  omega
def boolsL (n:Nat) (s:Nat->Bool):List Value:=(List.range n).map fun j=>.bool (s j)
theorem boolsL_len (n:Nat) (s:Nat->Bool):(boolsL n s).length=n:=by simp [boolsL]
theorem boolsL_get {n j:Nat} {s:Nat->Bool} (h:j < n):(boolsL n s)[j]?=some (.bool (s j)):=by simp [boolsL,h]
theorem boolsL_congr {n:Nat} {f g:Nat->Bool} (h:∀ j,j < n->f j=g j):boolsL n f=boolsL n g:=by
 unfold boolsL
 apply List.map_congr_left
 intro i hi
 rw [h i (List.mem_range.1 hi)]
theorem infoBl:∃ i,Try.prog.info? 4=some i/\i.zero=some (.bool false)/\i.size=1/\i.bytes=1:=by
 have h:(Try.prog.info? 4).map (fun i=>(i.zero,i.size,i.bytes))=some (some (.bool false),1,1):=by kernel_rfl
 cases hq:Try.prog.info? 4 with
 | none=>rw [hq] at h; cases h
 | some i=>
  rw [hq] at h
  simp only [Option.map_some,Option.some.injEq,Prod.mk.injEq] at h
  exact ⟨i,rfl,h.1,h.2.1,h.2.2⟩
section
variable {o:Oper} {a:Act} {w:World}
theorem execMkBl {x y:Operand} {n:Nat} (ho:o.op=.makeSlice 82 x y) (hx:a.eval x=.int .i64 (n:Int)) (hy:a.eval y=.int .i64 (n:Int)) (hn:n<=140737488355328):(execOp a.eval o).run Try.prog w=.ok (.value (.slice (some ⟨w.heap.size,0,none⟩) n n)) (w.alloc (.cells (madeCells #[.bool false] n) 4)):=by
 obtain ⟨i,h1,h2,h3,h4⟩:=infoBl
 have h:=run_make (P:=Try.prog) w 82 4 i (.bool false) Try.underlying82 h1 h2 .i64 .i64 (n:Int) (n:Int) (by omega) (by omega) (by rw [h4]; omega) (by omega)
 rw [h3,Int.toNat_natCast,Nat.mul_one] at h
 unfold execOp
 simp only [ho,hx,hy,Sem.run_bind,h,Result.andThen_ok,Sem.run_pure]
 rfl
theorem execIdxBl {x i:Operand} {b off n cap k:Nat} (ho:o.op=.indexAddr 82 x i) (hx:a.eval x=.slice (some ⟨b,off,none⟩) n cap) (hi:a.eval i=.int .i64 (k:Int)) (hk:k < n):(execOp a.eval o).run Try.prog w=.ok (.value (.pointer (some ⟨b,off+k,none⟩))) w:=by
 have h1:(k:Int) < n:=by omega
 unfold execOp
 simp only [ho,hx,hi]
 simp [go_sem,h1,Addr.add_mid]
theorem execLdBl {x:Operand} {b f:Nat} {v:Bool} (ho:o.op=.load 4 x) (hx:a.eval x=.pointer (some ⟨b,f,none⟩)) (hc:w.cell? ⟨b,f,none⟩=some (.bool v)):(execOp a.eval o).run Try.prog w=.ok (.value (.bool v)) w:=by
 unfold execOp
 simp only [ho,hx]
 simp [go_sem,hc]
theorem execStBl {x y:Operand} {b k:Nat} {z:Bool} {old:Value} (ho:o.op=.store 4 x y) (hx:a.eval x=.pointer (some ⟨b,k,none⟩)) (hy:a.eval y=.bool z) (hc:w.cell? ⟨b,k,none⟩=some old) (hf:w.frozen? ⟨b,k,none⟩=false):(execOp a.eval o).run Try.prog w=.ok .skip (w.setCell ⟨b,k,none⟩ (.bool z)):=by
 unfold execOp
 simp only [ho,hx,hy]
 simp [go_sem,hc,hf]
theorem execLtIg {x y:Operand} {p q:Int} (ho:o.op=.binOp .lss 3 x y 3) (hx:a.eval x=.int .i64 p) (hy:a.eval y=.int .i64 q):(execOp a.eval o).run Try.prog w=.ok (.value (.bool (decide (p < q)))) w:=by
 unfold execOp
 simp only [ho,hx,hy]
 by_cases h:p < q
 ·simp [go_sem,h]
 ·simp [go_sem,h]
theorem execGtIg {x y:Operand} {p q:Int} (ho:o.op=.binOp .gtr 3 x y 3) (hx:a.eval x=.int .i64 p) (hy:a.eval y=.int .i64 q):(execOp a.eval o).run Try.prog w=.ok (.value (.bool (decide (q < p)))) w:=by
 unfold execOp
 simp only [ho,hx,hy]
 by_cases h:q < p
 ·simp [go_sem,h]
 ·simp [go_sem,h]
theorem execSubIg {x y:Operand} {p q z:Int} (ho:o.op=.binOp .sub 3 x y 3) (hx:a.eval x=.int .i64 p) (hy:a.eval y=.int .i64 q) (h:z=p - q) (h1:-9223372036854775808<=z) (h2:z < 9223372036854775808):(execOp a.eval o).run Try.prog w=.ok (.value (.int .i64 z)) w:=by
 subst h
 unfold execOp
 simp only [ho,hx,hy]
 simp [go_sem,IntKind.wrap,show IntKind.i64.signed=true from rfl]
 omega
end
theorem own_mkBl (W:World) (n:Nat) (s:Nat->Bool) (hn:n<=140737488355328) (hs:∀ j,j < n->s j=false):(W.alloc (.cells (madeCells #[.bool false] n) 4)).ownsRow W.heap.size 4 1 (.slice (some ⟨W.heap.size,0,none⟩) n n) n (boolsL n s):=by
 refine ⟨by rw [boolsL_len,Nat.mul_one],Or.inr ⟨W.heap.size,n,_,rfl,Nat.le_refl _,heapNew W _,Nat.le_refl _,by unfold maxLen; omega,by simp [madeCells],?_⟩⟩
 apply List.ext_getElem?
 intro j
 by_cases h:j < n
 ·simp [madeCells,boolsL,h,hs j h,Nat.mod_one]
 ·simp [madeCells,boolsL,h]
theorem own_cellBl {W:World} {B n g cap j:Nat} {s:Nat->Bool} (h:W.ownsRow B 4 1 (.slice (some ⟨g,0,none⟩) n cap) n (boolsL n s)) (hj:j < n):W.cell? ⟨g,0+j,none⟩=some (.bool (s j))/\W.frozen? ⟨g,0+j,none⟩=false:=by
 rw [Nat.zero_add]
 rcases h.2 with ⟨e,_⟩ | ⟨g',cap',cur,e,_,hg,h1,h2,h3,h4⟩
 ·cases e
 ·injection e with e1 _ _
  injection e1 with e1
  injection e1 with e1 _ _
  subst e1
  refine ⟨?_,frozen4 hg⟩
  rw [cell_of_row _ _ _ _ _ _ hg,← Array.getElem?_toList]
  have h5:(cur.toList.take (n * 1))[j]?=some (.bool (s j)):=by rw [h4]; exact boolsL_get hj
  rw [List.getElem?_take_of_lt (by omega)] at h5
  exact h5
theorem own_setBl {W:World} {B n g cap k:Nat} {s:Nat->Bool} (z:Bool) (h:W.ownsRow B 4 1 (.slice (some ⟨g,0,none⟩) n cap) n (boolsL n s)):(W.setCell ⟨g,0+k,none⟩ (.bool z)).ownsRow B 4 1 (.slice (some ⟨g,0,none⟩) n cap) n (boolsL n (fun j=>if j=k then z else s j)):=by
 rw [Nat.zero_add]
 refine ⟨by rw [boolsL_len,Nat.mul_one],?_⟩
 rcases h.2 with ⟨e,_⟩ | ⟨g',cap',cur,e,hB,hg,h1,h2,h3,h4⟩
 ·cases e
 ·injection e with e1 e2 e3
  injection e1 with e1
  injection e1 with e1 _ _
  subst e1
  subst e3
  refine Or.inr ⟨g,cap,cur.setIfInBounds k (.bool z),rfl,hB,heap4 _ hg,h1,h2,by simpa using h3,?_⟩
  apply List.ext_getElem?
  intro j
  have h5:(cur.toList.take (n * 1))[j]?=(boolsL n s)[j]?:=by rw [h4]
  by_cases hj:j < n
  ·rw [List.getElem?_take_of_lt (by omega),boolsL_get hj] at h5
   rw [List.getElem?_take_of_lt (by omega),boolsL_get hj,Array.getElem?_toList,Array.getElem?_setIfInBounds]
   by_cases hk:k=j
   ·subst hk
    rw [if_pos rfl,if_pos rfl,if_pos (by simp at h3; omega)]
   ·rw [if_neg hk,if_neg (fun q=>hk q.symm),← Array.getElem?_toList]
    exact h5
  ·rw [List.getElem?_eq_none (by simp; omega),List.getElem?_eq_none (by rw [boolsL_len]; omega)]
theorem seen_set {W:World} {B n g cap i w:Nat} {f:Nat->Int} (h:W.ownsRow B 4 1 (.slice (some ⟨g,0,none⟩) n cap) n (boolsL n (fun j=>inI f (j:Int) i))) (e:f i=(w:Int)):(W.setCell ⟨g,0+w,none⟩ (.bool true)).ownsRow B 4 1 (.slice (some ⟨g,0,none⟩) n cap) n (boolsL n (fun j=>inI f (j:Int) (i+1))):=by
 have h2:=own_setBl (k:=w) true h
 rw [boolsL_congr (g:=fun j=>inI f (j:Int) (i+1)) (fun j _=>?_)] at h2
 ·exact h2
 ·show _=(inI f (j:Int) i || decide (f i=(j:Int)))
  by_cases q:j=w
  ·subst q
   rw [if_pos rfl,decide_eq_true e,Bool.or_true]
  ·rw [if_neg q,decide_eq_false (by omega),Bool.or_false]
set_option maxRecDepth 100000 in
set_option maxHeartbeats 4000000 in
theorem rcheck (f:Nat->Int) (n:Nat) (v:Value) (V:World) (hv:SliceI V v n f) (hn:n<=17592186044416) :
  Calls Try.prog 28 #[v] V fun e w'=>e=.returned (.int .i64 ((pE f n:Nat):Int))/\Below V.heap.size V w':=by
 obtain ⟨ia,ic,rfl,-,-,hsh⟩:=id hv.shape
 have FI:=hv
 go_enter Try.func28,Try.ntmps28
 refine wp_seq ?_
 refine wo_ 43 [(0,.slice ia n ic)] ?_
 rintro a A ⟨t0,-⟩
 refine wi_ A (h1_ t0) (rf_ [] (h1_ t0) ?_)
 rintro a A - ⟨t0,-⟩
 have BW:Below V.heap.size V V:=Below.refl _ _
 have BB:=BW
 refine wp_seq ?_
 obtain ⟨g3,egg3⟩:∃ z_:Nat,V.heap.size=z_:=⟨_,rfl⟩
 refine wi_ A (h1_ t0) (rv_ 1 (.int .i64 ((n:Nat):Int)) (fun a e=>execLenI (len:=n) rfl (e _) ((FI.on BB)).shp) (rs_ 2 (fun a e=>?_)))
 refine stepV rfl rfl (execMkBl rfl (e _) (e _) (by omega)) ⟨.slice (some ⟨g3,0,none⟩) n n,⟨_,rfl,by subst egg3; rfl⟩,fun X1 hX=>?_⟩
 have bQ:Below V.heap.size V X1:=by subst hX egg3; exact (belNew V _)
 have FXs:(X1.ownsRow V.heap.size 4 1 (.slice (some ⟨g3,0,none⟩) n n) (n) (boolsL (n) (fun j=>inI f (j:Int) 0))):=by subst hX egg3; exact ownD_base (own_mkBl V n _ (by omega) (fun _ _=>rfl)) (BB).size
 have Fg:(V.heap.size<=g3):=by subst hX egg3; exact (BB).size
 replace BB:=BB.trans (bQ.mono BB.size)
 clear bQ hX egg3 e a
 refine rf_ [(3,.slice (some ⟨g3,0,none⟩) n n)] (h1_ t0) ?_
 rintro a A ⟨t3,-⟩ ⟨t0,-⟩
 refine wp_seq (wp_seq ?_)
 refine wi_ A (h2_ t0 t3) (rf_ [(4,.int .i64 ((0:Nat):Int))] (h2_ t0 t3) ?_)
 rintro a A ⟨t4,-⟩ ⟨t0,t3,-⟩
 refine wp_block ?_
 refine wp_loop (fun a W=>∃ (i:Nat),i<=n/\(okQ f n i=true)/\(a.tmps.size=43/\a.defers=[])/\a.eval (.tmp 0)=.slice ia n ic/\a.eval (.tmp 3)=.slice (some ⟨g3,0,none⟩) n n/\a.eval (.tmp 4)=.int .i64 ((i:Nat):Int)/\Below V.heap.size V W/\(W.ownsRow V.heap.size 4 1 (.slice (some ⟨g3,0,none⟩) n n) (n) (boolsL (n) (fun j=>inI f (j:Int) i)))) (fun a _=>n - (intOf (a.eval (.tmp 4))).toNat) ⟨0,Nat.zero_le _,rfl,A,t0,t3,t4,BB,FXs⟩ ?_
 rintro a XL3 ⟨i,hi,hok,A,t0,t3,t4,BB,FXs⟩
 have es:=t4
 refine wp_seq (wp_seq ?_)
 refine wi_ A (h3_ t0 t3 t4) (rv_ 2 (.int .i64 ((n:Nat):Int)) (fun a e=>execLenI (len:=n) rfl (e _) ((FI.on BB)).shp) (rv_ 3 (.bool (decide (i < n))) (fun a e=>execLtW (p:=i) (q:=n) rfl (e _) (e _)) (rf_ [(11,.bool (decide (i < n)))] (h3_ t0 t3 t4) ?_)))
 rintro a A ⟨t11,-⟩ ⟨t0,t3,t4,-⟩
 by_cases hlt:i < n
 ·rw [decide_eq_true hlt] at t11
  refine wp_cond_true t11 (wp_skip ?_)
  clear t11
  refine wp_seq (wp_block ?_)
  obtain ⟨ib,io,rfl,hib,hcell⟩:=hsh (by omega)
  have cI:∀ k,k < n->∀ X,Below V.heap.size V X->X.cell? ⟨ib,io+k,none⟩=some (.int .i64 (f k)):=fun k hk X hX=>by rw [cell_below hX hib]; exact hcell k hk
  by_cases h1:f i < 0
  ·refine wp_seq (wp_seq ?_)
   refine wi_ A (h3_ t0 t3 t4) (rv_ 2 (.pointer (some ⟨ib,io+i,none⟩)) (fun a e=>execIdxN (k:=i) rfl (e _) (e _) hlt) (rv_ 3 (.int .i64 (f i)) (fun a e=>execLd3 rfl (e _) (cI i hlt XL3 BB)) (rv_ 4 (.bool true) (fun a e=>execLtCt (p:=(f i)) (q:=0) rfl (e _) (by exact h1)) (rf_ [(36,.bool true)] (h3_ t0 t3 t4) ?_))))
   rintro a A ⟨t36,-⟩ ⟨t0,t3,t4,-⟩
   refine wp_cond_true t36 ?_
   refine wp_seq ?_
   refine wi_ A (h4_ t0 t3 t4 t36) (rg_ [(2,.int .i64 ((110:Nat):Int))] ?_)
   rintro a A ⟨t2,-⟩
   have hE:pE f n=110:=pE_bad hlt (Or.inl h1)
   rw [hE]
   refine wp_ret ?_
   repeat (first | with_reducible refine ret_in ?_ | with_reducible refine ret_then ?_)
   refine bodyPost_ret (results_tmp rfl _ _ _) A.2 ⟨?_,BB⟩
   show Ending.returned (a.eval (.tmp 2))=_
   rw [t2]
  ·by_cases h2:(n:Int)<=f i
   ·obtain ⟨w,ew⟩:∃ w:Nat,f i=w:=⟨(f i).toNat,by omega⟩
    have cW:∀ X,Below V.heap.size V X->X.cell? ⟨ib,io+i,none⟩=some (.int .i64 ((w:Nat):Int)):=fun X hX=>by rw [cI i hlt X hX,ew]
    refine wp_seq (wp_seq ?_)
    refine wi_ A (h3_ t0 t3 t4) (rv_ 2 (.pointer (some ⟨ib,io+i,none⟩)) (fun a e=>execIdxN (k:=i) rfl (e _) (e _) hlt) (rv_ 3 (.int .i64 ((w:Nat):Int)) (fun a e=>execLd3 rfl (e _) (cW XL3 BB)) (rv_ 4 (.bool false) (fun a e=>execDec (execLtW (p:=w) (q:=0) rfl (e _) rfl) (decide_eq_false (by omega))) (rv_ 8 (.pointer (some ⟨ib,io+i,none⟩)) (fun a e=>execIdxN (k:=i) rfl (e _) (e _) hlt) (rv_ 9 (.int .i64 ((w:Nat):Int)) (fun a e=>execLd3 rfl (e _) (cW XL3 BB)) (rv_ 11 (.int .i64 ((n:Nat):Int)) (fun a e=>execLenI (len:=n) rfl (e _) ((FI.on BB)).shp) (rv_ 12 (.bool true) (fun a e=>execDec (execGe8 (p:=w) (q:=n) rfl (e _) (e _)) (decide_eq_true (by omega))) (rf_ [(36,.bool true)] (h3_ t0 t3 t4) ?_))))))))
    rintro a A ⟨t36,-⟩ ⟨t0,t3,t4,-⟩
    refine wp_cond_true t36 ?_
    refine wp_seq ?_
    refine wi_ A (h4_ t0 t3 t4 t36) (rg_ [(2,.int .i64 ((110:Nat):Int))] ?_)
    rintro a A ⟨t2,-⟩
    have hE:pE f n=110:=pE_bad hlt (Or.inr (Or.inl (by omega)))
    rw [hE]
    refine wp_ret ?_
    repeat (first | with_reducible refine ret_in ?_ | with_reducible refine ret_then ?_)
    refine bodyPost_ret (results_tmp rfl _ _ _) A.2 ⟨?_,BB⟩
    show Ending.returned (a.eval (.tmp 2))=_
    rw [t2]
   ·by_cases h3:inI f (f i) i=true
    ·obtain ⟨w,ew⟩:∃ w:Nat,f i=w:=⟨(f i).toNat,by omega⟩
     have cW:∀ X,Below V.heap.size V X->X.cell? ⟨ib,io+i,none⟩=some (.int .i64 ((w:Nat):Int)):=fun X hX=>by rw [cI i hlt X hX,ew]
     have hw:w < n:=by omega
     have hsn:inI f (w:Int) i=true:=by rw [← ew]; exact h3
     refine wp_seq (wp_seq ?_)
     refine wi_ A (h3_ t0 t3 t4) (rv_ 2 (.pointer (some ⟨ib,io+i,none⟩)) (fun a e=>execIdxN (k:=i) rfl (e _) (e _) hlt) (rv_ 3 (.int .i64 ((w:Nat):Int)) (fun a e=>execLd3 rfl (e _) (cW XL3 BB)) (rv_ 4 (.bool false) (fun a e=>execDec (execLtW (p:=w) (q:=0) rfl (e _) rfl) (decide_eq_false (by omega))) (rv_ 8 (.pointer (some ⟨ib,io+i,none⟩)) (fun a e=>execIdxN (k:=i) rfl (e _) (e _) hlt) (rv_ 9 (.int .i64 ((w:Nat):Int)) (fun a e=>execLd3 rfl (e _) (cW XL3 BB)) (rv_ 11 (.int .i64 ((n:Nat):Int)) (fun a e=>execLenI (len:=n) rfl (e _) ((FI.on BB)).shp) (rv_ 12 (.bool false) (fun a e=>execDec (execGe8 (p:=w) (q:=n) rfl (e _) (e _)) (decide_eq_false (by omega))) (rv_ 18 (.pointer (some ⟨ib,io+i,none⟩)) (fun a e=>execIdxN (k:=i) rfl (e _) (e _) hlt) (rv_ 19 (.int .i64 ((w:Nat):Int)) (fun a e=>execLd3 rfl (e _) (cW XL3 BB)) (rv_ 20 (.pointer (some ⟨g3,0+w,none⟩)) (fun a e=>execIdxBl (k:=w) rfl (e _) (e _) hw) (rv_ 21 (.bool true) (fun a e=>execLdBl rfl (e _) (by rw [(own_cellBl FXs hw).1,hsn])) (rf_ [(36,.bool true)] (h3_ t0 t3 t4) ?_))))))))))))
     rintro a A ⟨t36,-⟩ ⟨t0,t3,t4,-⟩
     refine wp_cond_true t36 ?_
     refine wp_seq ?_
     refine wi_ A (h4_ t0 t3 t4 t36) (rg_ [(2,.int .i64 ((110:Nat):Int))] ?_)
     rintro a A ⟨t2,-⟩
     have hE:pE f n=110:=pE_bad hlt (Or.inr (Or.inr h3))
     rw [hE]
     refine wp_ret ?_
     repeat (first | with_reducible refine ret_in ?_ | with_reducible refine ret_then ?_)
     refine bodyPost_ret (results_tmp rfl _ _ _) A.2 ⟨?_,BB⟩
     show Ending.returned (a.eval (.tmp 2))=_
     rw [t2]
    ·obtain ⟨w,ew⟩:∃ w:Nat,f i=w:=⟨(f i).toNat,by omega⟩
     have cW:∀ X,Below V.heap.size V X->X.cell? ⟨ib,io+i,none⟩=some (.int .i64 ((w:Nat):Int)):=fun X hX=>by rw [cI i hlt X hX,ew]
     have hw:w < n:=by omega
     have hsn:inI f (w:Int) i=false:=by rw [← ew]; exact Bool.eq_false_iff.2 h3
     refine wp_seq (wp_seq ?_)
     refine wi_ A (h3_ t0 t3 t4) (rv_ 2 (.pointer (some ⟨ib,io+i,none⟩)) (fun a e=>execIdxN (k:=i) rfl (e _) (e _) hlt) (rv_ 3 (.int .i64 ((w:Nat):Int)) (fun a e=>execLd3 rfl (e _) (cW XL3 BB)) (rv_ 4 (.bool false) (fun a e=>execDec (execLtW (p:=w) (q:=0) rfl (e _) rfl) (decide_eq_false (by omega))) (rv_ 8 (.pointer (some ⟨ib,io+i,none⟩)) (fun a e=>execIdxN (k:=i) rfl (e _) (e _) hlt) (rv_ 9 (.int .i64 ((w:Nat):Int)) (fun a e=>execLd3 rfl (e _) (cW XL3 BB)) (rv_ 11 (.int .i64 ((n:Nat):Int)) (fun a e=>execLenI (len:=n) rfl (e _) ((FI.on BB)).shp) (rv_ 12 (.bool false) (fun a e=>execDec (execGe8 (p:=w) (q:=n) rfl (e _) (e _)) (decide_eq_false (by omega))) (rv_ 18 (.pointer (some ⟨ib,io+i,none⟩)) (fun a e=>execIdxN (k:=i) rfl (e _) (e _) hlt) (rv_ 19 (.int .i64 ((w:Nat):Int)) (fun a e=>execLd3 rfl (e _) (cW XL3 BB)) (rv_ 20 (.pointer (some ⟨g3,0+w,none⟩)) (fun a e=>execIdxBl (k:=w) rfl (e _) (e _) hw) (rv_ 21 (.bool false) (fun a e=>execLdBl rfl (e _) (by rw [(own_cellBl FXs hw).1,hsn])) (rf_ [(36,.bool false)] (h3_ t0 t3 t4) ?_))))))))))))
     rintro a A ⟨t36,-⟩ ⟨t0,t3,t4,-⟩
     refine wp_cond_false t36 (wp_skip ?_)
     clear t36
     refine wi_ A (h3_ t0 t3 t4) (rv_ 3 (.pointer (some ⟨ib,io+i,none⟩)) (fun a e=>execIdxN (k:=i) rfl (e _) (e _) hlt) (rv_ 4 (.int .i64 ((w:Nat):Int)) (fun a e=>execLd3 rfl (e _) (cW XL3 BB)) (rv_ 5 (.pointer (some ⟨g3,0+w,none⟩)) (fun a e=>execIdxBl (k:=w) rfl (e _) (e _) hw) (rs_ 6 (fun a e=>?_)))))
     obtain ⟨hc_,hf_⟩:=own_cellBl FXs hw
     refine stepS rfl rfl (execStBl rfl (e _) rfl hc_ hf_) ⟨_,⟨_,rfl,rfl⟩,fun X7 hX=>?_⟩
     obtain ⟨BB,FS2⟩:Below V.heap.size V X7/\(X7.ownsRow V.heap.size 4 1 (.slice (some ⟨g3,0,none⟩) n n) (n) (boolsL (n) (fun j=>inI f (j:Int) (i+1)))):=by subst hX; exact ⟨(BB).setCell Fg _,seen_set FXs ew⟩
     clear FXs hX e a
     refine rf_ [] (h3_ t0 t3 t4) ?_
     rintro a A - ⟨t0,t3,t4,-⟩
     refine wi_ A (h3_ t0 t3 t4) (rv_ 1 (.int .i64 ((i+1:Nat):Int)) (fun a e=>execAd8 (p:=i) (q:=1) rfl (e _) rfl (by omega)) (rf_ [(4,.int .i64 ((i+1:Nat):Int))] (h2_ t0 t3) ?_))
     rintro a A ⟨t4,-⟩ ⟨t0,t3,-⟩
     exact ⟨⟨i+1,hlt,okQ_succ hok h1 h2 h3,A,t0,t3,t4,BB,FS2⟩,by show n - (intOf (a.eval (.tmp 4))).toNat < n - (intOf (Act.eval _ (.tmp 4))).toNat; rw [t4,es]; show n - (i+1) < n - i; omega⟩
 ·rw [decide_eq_false hlt] at t11
  refine wp_cond_false t11 ?_
  refine wp_exit ?_
  first | with_reducible refine exit_in ?_ | with_reducible refine exit_then (exit_in ?_) | with_reducible refine exit_then (exit_then (exit_in ?_)) | refine exit_in ?_ | refine exit_then (exit_in ?_) | refine exit_then (exit_then (exit_in ?_))
  clear t11 es
  have hin:i=n:=by omega
  rw [hin] at hok
  have hE:pE f n=0:=if_pos hok
  rw [hE]
  clear FXs
  refine wp_seq ?_
  refine wi_ A (h3_ t0 t3 t4) (rg_ [(2,.int .i64 ((0:Nat):Int))] ?_)
  rintro a A ⟨t2,-⟩
  refine wp_ret ?_
  repeat (first | with_reducible refine ret_in ?_ | with_reducible refine ret_then ?_)
  refine bodyPost_ret (results_tmp rfl _ _ _) A.2 ⟨?_,BB⟩
  show Ending.returned (a.eval (.tmp 2))=_
  rw [t2]
set_option maxRecDepth 100000 in
set_option maxHeartbeats 4000000 in
theorem rident (k:Int) (V:World) (hk:k<=17592186044416) :
  Calls Try.prog 59 #[.int .i64 k] V fun e w'=>∃ r,e=.returned r/\w'.ownsRow V.heap.size 3 1 r k.toNat (intsL k.toNat (fun j=>(j:Int)))/\Below V.heap.size V w':=by
 go_enter Try.func59,Try.ntmps59
 refine wp_seq ?_
 refine wo_ 15 [(0,.int .i64 k)] ?_
 rintro a A ⟨t0,-⟩
 refine wi_ A (h1_ t0) (rf_ [] (h1_ t0) ?_)
 rintro a A - ⟨t0,-⟩
 have BW:Below V.heap.size V V:=Below.refl _ _
 have BB:=BW
 refine wp_seq ?_
 refine wi_ A (h1_ t0) (rf_ [(3,.slice none 0 0)] (h1_ t0) ?_)
 rintro a A ⟨t3,-⟩ ⟨t0,-⟩
 have FO:V.ownsRow V.heap.size 3 1 (.slice none 0 0) 0 (intsL 0 (fun j=>(j:Int))):=World.ownsRow_nil _ _ _ _
 refine wp_seq (wp_seq ?_)
 refine wi_ A (h2_ t0 t3) (rf_ [(4,.int .i64 ((0:Nat):Int))] (h2_ t0 t3) ?_)
 rintro a A ⟨t4,-⟩ ⟨t0,t3,-⟩
 refine wp_block ?_
 refine wp_loop (fun a W=>∃ (i:Nat) (u:Value),i<=k.toNat/\(a.tmps.size=15/\a.defers=[])/\a.eval (.tmp 0)=.int .i64 k/\a.eval (.tmp 3)=u/\a.eval (.tmp 4)=.int .i64 ((i:Nat):Int)/\Below V.heap.size V W/\(W.ownsRow V.heap.size 3 1 u (i) (intsL (i) (fun j=>(j:Int))))) (fun a _=>k.toNat - (intOf (a.eval (.tmp 4))).toNat) ⟨0,_,Nat.zero_le _,A,t0,t3,t4,BB,FO⟩ ?_
 rintro a XL3 ⟨i,u,hi,A,t0,t3,t4,BB,FO⟩
 have es:=t4
 refine wp_seq (wp_seq ?_)
 refine wi_ A (h3_ t0 t3 t4) (rv_ 2 (.bool (decide ((i:Int) < k))) (fun a e=>execLtIg rfl (e _) (e _)) (rf_ [(7,.bool (decide ((i:Int) < k)))] (h3_ t0 t3 t4) ?_))
 rintro a A ⟨t7,-⟩ ⟨t0,t3,t4,-⟩
 by_cases hlt:(i:Int) < k
 ·rw [decide_eq_true hlt] at t7
  refine wp_cond_true t7 (wp_skip ?_)
  clear t7
  refine wp_seq (wp_block ?_)
  obtain ⟨g12,egg12⟩:∃ z_:Nat,XL3.heap.size=z_:=⟨_,rfl⟩
  refine wi_ A (h3_ t0 t3 t4) (rs_ 2 (fun a e=>?_))
  refine stepV rfl rfl (execBsI (z:=(i:Int)) rfl (e _)) ⟨.slice (some ⟨g12,0,none⟩) 1 1,⟨_,rfl,by subst egg12; rfl⟩,fun X5_1 hX=>?_⟩
  have bQ:Below XL3.heap.size XL3 X5_1:=by subst hX egg12; exact (belNew XL3 _)
  have Fg12:(X5_1.heap[g12]?=some (.cells #[.int .i64 ((i:Int))] 3)):=by subst hX egg12; exact heapNew XL3 _
  replace FO:=(ownD_below FO bQ)
  replace BB:=BB.trans (bQ.mono BB.size)
  clear bQ hX egg12 e a
  refine rs_ 3 (fun a e=>?_)
  refine stepAppI (f:=fun j=>(j:Int)) rfl rfl rfl (e _) (e _) FO Fg12 (by omega) (BB).size fun v13 X5 own' gr=>⟨_,⟨_,rfl,rfl⟩,eqw ?_⟩
  obtain ⟨BB,FO2⟩:Below V.heap.size V X5/\(X5.ownsRow V.heap.size 3 1 v13 (i+1) (intsL (i+1) (fun j=>(j:Int)))):=⟨(BB).grown gr (BB).size (fun k hk=>(FO.lt k hk).1),own'⟩
  clear FO Fg12 e a
  refine rf_ [(3,v13)] (h2_ t0 t4) ?_
  rintro a A ⟨t3,-⟩ ⟨t0,t4,-⟩
  refine wi_ A (h3_ t0 t3 t4) (rv_ 1 (.int .i64 ((i+1:Nat):Int)) (fun a e=>execAd8 (p:=i) (q:=1) rfl (e _) rfl (by omega)) (rf_ [(4,.int .i64 ((i+1:Nat):Int))] (h2_ t0 t3) ?_))
  rintro a A ⟨t4,-⟩ ⟨t0,t3,-⟩
  exact ⟨⟨i+1,_,(by omega),A,t0,t3,t4,BB,FO2⟩,by show k.toNat - (intOf (a.eval (.tmp 4))).toNat < k.toNat - (intOf (Act.eval _ (.tmp 4))).toNat; rw [t4,es]; show k.toNat - (i+1) < k.toNat - i; omega⟩
 ·rw [decide_eq_false hlt] at t7
  refine wp_cond_false t7 ?_
  refine wp_exit ?_
  first | with_reducible refine exit_in ?_ | with_reducible refine exit_then (exit_in ?_) | with_reducible refine exit_then (exit_then (exit_in ?_)) | refine exit_in ?_ | refine exit_then (exit_in ?_) | refine exit_then (exit_then (exit_in ?_))
  clear t7 es
  have hin:i=k.toNat:=by omega
  rw [hin] at FO
  refine wp_seq ?_
  refine wi_ A (h3_ t0 t3 t4) (rg_ [(2,u)] ?_)
  rintro a A ⟨t2,-⟩
  refine wp_ret ?_
  refine bodyPost_ret (results_tmp rfl _ _ _) A.2 ⟨u,?_,FO,BB⟩
  show Ending.returned (a.eval (.tmp 2))=_
  rw [t2]
set_option maxRecDepth 100000 in
set_option maxHeartbeats 4000000 in
theorem rbounds (k:Int) (V:World) (hk:k<=17592186044416) :
  Calls Try.prog 34 #[.int .i64 k] V fun e w'=>∃ r,e=.returned r/\w'.ownsRow V.heap.size 3 1 r (k - 1).toNat (intsL (k - 1).toNat (fun j=>k - (j:Int)))/\Below V.heap.size V w':=by
 go_enter Try.func34,Try.ntmps34
 refine wp_seq ?_
 refine wo_ 15 [(0,.int .i64 k)] ?_
 rintro a A ⟨t0,-⟩
 refine wi_ A (h1_ t0) (rf_ [] (h1_ t0) ?_)
 rintro a A - ⟨t0,-⟩
 have BW:Below V.heap.size V V:=Below.refl _ _
 have BB:=BW
 refine wp_seq ?_
 refine wi_ A (h1_ t0) (rf_ [(3,.slice none 0 0)] (h1_ t0) ?_)
 rintro a A ⟨t3,-⟩ ⟨t0,-⟩
 have FO:V.ownsRow V.heap.size 3 1 (.slice none 0 0) 0 (intsL 0 (fun j=>k - (j:Int))):=World.ownsRow_nil _ _ _ _
 refine wp_seq (wp_seq ?_)
 refine wi_ A (h2_ t0 t3) (rf_ [(4,.int .i64 k)] (h1_ t3) ?_)
 rintro a A ⟨t4,-⟩ ⟨t3,-⟩
 rw [show k=k - ((0:Nat):Int) by omega] at t4
 refine wp_block ?_
 refine wp_loop (fun a W=>∃ (i:Nat) (u:Value),i<=(k - 1).toNat/\(a.tmps.size=15/\a.defers=[])/\a.eval (.tmp 3)=u/\a.eval (.tmp 4)=.int .i64 (k - (i:Int))/\Below V.heap.size V W/\(W.ownsRow V.heap.size 3 1 u (i) (intsL (i) (fun j=>k - (j:Int))))) (fun a _=>(intOf (a.eval (.tmp 4))).toNat) ⟨0,_,Nat.zero_le _,A,t3,t4,BB,FO⟩ ?_
 rintro a XL ⟨i,u,hi,A,t3,t4,BB,FO⟩
 have es:=t4
 refine wp_seq (wp_seq ?_)
 refine wi_ A (h2_ t3 t4) (rv_ 1 (.bool (decide (1 < k - (i:Int)))) (fun a e=>execGtIg (q:=1) rfl (e _) rfl) (rf_ [(7,.bool (decide (1 < k - (i:Int))))] (h2_ t3 t4) ?_))
 rintro a A ⟨t7,-⟩ ⟨t3,t4,-⟩
 by_cases hlt:1 < k - (i:Int)
 ·rw [decide_eq_true hlt] at t7
  refine wp_cond_true t7 (wp_skip ?_)
  clear t7
  refine wp_seq (wp_block ?_)
  obtain ⟨g12,egg12⟩:∃ z_:Nat,XL.heap.size=z_:=⟨_,rfl⟩
  refine wi_ A (h2_ t3 t4) (rs_ 2 (fun a e=>?_))
  refine stepV rfl rfl (execBsI (z:=k - (i:Int)) rfl (e _)) ⟨.slice (some ⟨g12,0,none⟩) 1 1,⟨_,rfl,by subst egg12; rfl⟩,fun X5_1 hX=>?_⟩
  have bQ:Below XL.heap.size XL X5_1:=by subst hX egg12; exact (belNew XL _)
  have Fg12:(X5_1.heap[g12]?=some (.cells #[.int .i64 (k - (i:Int))] 3)):=by subst hX egg12; exact heapNew XL _
  replace FO:=(ownD_below FO bQ)
  replace BB:=BB.trans (bQ.mono BB.size)
  clear bQ hX egg12 e a
  refine rs_ 3 (fun a e=>?_)
  refine stepAppI (f:=fun j=>k - (j:Int)) rfl rfl rfl (e _) (e _) FO Fg12 (by omega) (BB).size fun v13 X5 own' gr=>⟨_,⟨_,rfl,rfl⟩,eqw ?_⟩
  obtain ⟨BB,FO2⟩:Below V.heap.size V X5/\(X5.ownsRow V.heap.size 3 1 v13 (i+1) (intsL (i+1) (fun j=>k - (j:Int)))):=⟨(BB).grown gr (BB).size (fun k hk=>(FO.lt k hk).1),own'⟩
  clear FO Fg12 e a
  refine rf_ [(3,v13)] (h1_ t4) ?_
  rintro a A ⟨t3,-⟩ ⟨t4,-⟩
  refine wi_ A (h2_ t3 t4) (rv_ 1 (.int .i64 (k - ((i+1:Nat):Int))) (fun a e=>execSubIg (z:=k - ((i+1:Nat):Int)) rfl (e _) rfl (by omega) (by omega) (by omega)) (rf_ [(4,.int .i64 (k - ((i+1:Nat):Int)))] (h1_ t3) ?_))
  rintro a A ⟨t4,-⟩ ⟨t3,-⟩
  refine ⟨⟨i+1,_,by omega,A,t3,t4,BB,FO2⟩,?_⟩
  show (intOf (a.eval (.tmp 4))).toNat < (intOf (Act.eval _ (.tmp 4))).toNat
  rw [t4,es]
  show (k - ((i+1:Nat):Int)).toNat < (k - (i:Int)).toNat
  omega
 ·rw [decide_eq_false hlt] at t7
  refine wp_cond_false t7 ?_
  refine wp_exit ?_
  first | with_reducible refine exit_in ?_ | with_reducible refine exit_then (exit_in ?_) | with_reducible refine exit_then (exit_then (exit_in ?_)) | refine exit_in ?_ | refine exit_then (exit_in ?_) | refine exit_then (exit_then (exit_in ?_))
  clear t7 es
  have hin:i=(k - 1).toNat:=by omega
  rw [hin] at FO
  clear t4
  refine wp_seq ?_
  refine wi_ A (h1_ t3) (rg_ [(2,u)] ?_)
  rintro a A ⟨t2,-⟩
  refine wp_ret ?_
  refine bodyPost_ret (results_tmp rfl _ _ _) A.2 ⟨u,?_,FO,BB⟩
  show Ending.returned (a.eval (.tmp 2))=_
  rw [t2]
end Go.Proofs.Ytmjpneaccjlpkaa.Prm
