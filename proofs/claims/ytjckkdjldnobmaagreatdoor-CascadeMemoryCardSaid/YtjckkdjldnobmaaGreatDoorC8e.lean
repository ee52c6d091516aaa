import Derived.Test.YtjckkdjldnobmaaGreatDoorC8a
import Derived.Test.YtjckkdjldnobmaaGreatDoorD3s
import Derived.Test.YtjckkdjldnobmaaGreatDoorD3f
import Derived.Test.YtjckkdjldnobmaaGreatDoorC6
import Derived.Test.YtjckkdjldnobmaaGreatDoorD2k
import Derived.Test.YtjckkdjldnobmaaGreatDoorC8b
namespace Go.Proofs.YtjckkdjldnobmaaGreatDoor.Cas
open Go.RowKit Gf8 Aes By8 Cel Cf Tap Drw Dro Oni Rou
/- The reference's Entry, Payloads; sameLists. Written by tools/mkC8d.py. -/
def fe (E:Nat->Nat):Nat->Nat
 | 0=>0
 | k+1=>if fe E k=0 then E k else fe E k
theorem fe_stop {E:Nat->Nat} {i:Nat} (h0:fe E i=0) (h1:E i ≠ 0):∀ {h:Nat},i < h->fe E h=E i
 | 0,hi=>absurd hi (Nat.not_lt_zero i)
 | h+1,hi=>by
  unfold fe
  by_cases e:i=h
  ·subst e
   rw [if_pos h0]
  ·have q:=fe_stop h0 h1 (h:=h) (by omega)
   rw [if_neg (by rw [q]; exact h1),q]
theorem fe_on {E:Nat->Nat} {i:Nat} (h0:fe E i=0) (h1:E i=0):fe E (i+1)=0:=by
 unfold fe
 rw [if_pos h0,h1]
def cY (Y:Nat->Bool):Nat->Nat
 | 0=>0
 | k+1=>if Y k=true then cY Y k+1 else cY Y k
def plY (Y:Nat->Bool):Nat->Nat->Nat
 | 0,_=>0
 | k+1,t=>if Y k=true/\t=cY Y k then k else plY Y k t
theorem cY_mono {Y:Nat->Bool} {i:Nat}:∀ {k:Nat},i<=k->cY Y i<=cY Y k
 | 0,h=>by obtain rfl:i=0:=(by omega); exact Nat.le_refl _
 | k+1,h=>by
  by_cases e:i=k+1
  ·subst e; exact Nat.le_refl _
  ·have q:=cY_mono (Y:=Y) (i:=i) (k:=k) (by omega)
   show cY Y i<=(if Y k=true then cY Y k+1 else cY Y k)
   split <;> omega
theorem cY_yes {Y:Nat->Bool} {i:Nat} (h:Y i=true):cY Y (i+1)=cY Y i+1:=by
 show (if Y i=true then _ else _)=_
 rw [if_pos h]
theorem cY_no {Y:Nat->Bool} {i:Nat} (h:¬ Y i=true):cY Y (i+1)=cY Y i:=by
 show (if Y i=true then _ else _)=_
 rw [if_neg h]
theorem cY_le {Y:Nat->Bool}:∀ {k:Nat},cY Y k<=k
 | 0=>Nat.le_refl _
 | k+1=>by
  have:=cY_le (Y:=Y) (k:=k)
  unfold cY
  split <;> omega
theorem plY_at {Y:Nat->Bool} {i:Nat} (hy:Y i=true):∀ {k:Nat},i < k->plY Y k (cY Y i)=i
 | 0,h=>absurd h (Nat.not_lt_zero i)
 | k+1,h=>by
  unfold plY
  by_cases e:i=k
  ·subst e
   rw [if_pos ⟨hy,rfl⟩]
  ·rw [if_neg (fun q=>by
    have h1:=cY_mono (Y:=Y) (show i+1<=k by omega)
    rw [cY_yes hy] at h1
    omega)]
   exact plY_at hy (by omega)
theorem plY_lt {Y:Nat->Bool} {t:Nat}:∀ {k:Nat},t < cY Y k->plY Y k t < k/\Y (plY Y k t)=true
 | 0,h=>absurd h (Nat.not_lt_zero t)
 | k+1,h=>by
  unfold plY
  by_cases q:Y k=true/\t=cY Y k
  ·rw [if_pos q]
   exact ⟨Nat.lt_succ_self k,q.1⟩
  ·rw [if_neg q]
   have h2:t < cY Y k:=by
    unfold cY at h
    split at h
    ·rename_i hy
     have:t ≠ cY Y k:=fun e=>q ⟨hy,e⟩
     omega
    ·exact h
   have:=plY_lt (Y:=Y) (t:=t) (k:=k) h2
   exact ⟨by omega,this.2⟩
def opY (p:Nat->Nat) (i:Nat):Bool:=openY (Frm.cellB p i) 320
def paE (p:Nat->Nat) (len:Nat):Nat:=if (Frm.jE p len).2 ≠ 0 then (Frm.jE p len).2 else if Frm.rLeft p len ≠ 0 then 212 else fe (fun i=>openE (Frm.cellB p i) 320) (Frm.rK p len)
def paN (p:Nat->Nat) (len:Nat):Nat:=if paE p len=0 then cY (opY p) (Frm.rK p len) else 0
def paL (p:Nat->Nat) (len t:Nat):Nat:=openN (Frm.cellB p (plY (opY p) (Frm.rK p len) t)) 320
def paF (p:Nat->Nat) (len t:Nat):Nat->Nat:=fun j=>Frm.cellB p (plY (opY p) (Frm.rK p len) t) (2+j)
theorem openN_le {c:Nat->Nat} {l:Nat}:openN c l<=48:=by
 unfold openN
 split
 ·rename_i h
  unfold openY at h
  simp at h
  omega
 ·omega
theorem pa_no {p:Nat->Nat} {len:Nat} (h:paE p len ≠ 0):paN p len=0:=if_neg h
theorem pa_on {p:Nat->Nat} {len:Nat} (hj:¬ (Frm.jE p len).2 ≠ 0) (hL:¬ Frm.rLeft p len ≠ 0) (h:fe (fun i=>openE (Frm.cellB p i) 320) (Frm.rK p len)=0):paE p len=0:=(if_neg hj).trans ((if_neg hL).trans h)
theorem pa_stop {p:Nat->Nat} {len i:Nat} (hj:¬ (Frm.jE p len).2 ≠ 0) (hL:¬ Frm.rLeft p len ≠ 0) (h:fe (fun i=>openE (Frm.cellB p i) 320) i=0) (h1:openE (Frm.cellB p i) 320 ≠ 0) (hi:i < Frm.rK p len):paE p len=openE (Frm.cellB p i) 320:=(if_neg hj).trans ((if_neg hL).trans (fe_stop (E:=fun i=>openE (Frm.cellB p i) 320) h h1 hi))
theorem ls_no (W:World) (ln:Nat->Nat) (f:Nat->Nat->Nat):Ls W (.slice none 0 0) 0 (fun _=>undef) ln f:=⟨⟨none,0,rfl,Nat.le_refl _,by omega,fun h=>absurd h (Nat.lt_irrefl 0)⟩,fun i hi=>absurd hi (Nat.not_lt_zero i),fun i hi=>absurd hi (Nat.not_lt_zero i),fun i hi=>absurd hi (Nat.not_lt_zero i)⟩
theorem ls_fam {B n:Nat} {W:World} {v:Value} {y:Nat->Value} {ln:Nat->Nat} {f:Nat->Nat->Nat} (h:W.ownsRow B 24 1 v n (lL y n)) (hf:Fam B n y ln f W) (hb:∀ t,t < n->∀ j,j < ln t->f t j < 256) (hl:∀ t,t < n->ln t<=140737488351232):Ls W v n y ln f:=by
 refine ⟨?_,fun i hi=>own_slice (hf.rows i hi) (hb i hi),fun i hi=>own_nilI (hf.rows i hi),hl⟩
 rcases h.2 with ⟨rfl,e⟩ | ⟨g,cap,cur,rfl,h1,h2,h3,h4,h5,h6⟩
 ·obtain rfl:n=0:=by
   cases n with
   | zero=>rfl
   | succ n=>simp at e
  exact ⟨none,0,rfl,Nat.le_refl _,by omega,fun q=>absurd q (Nat.lt_irrefl 0)⟩
 ·have hc:=h.cells (g:=g) rfl
  refine ⟨_,cap,rfl,h3,by unfold maxLen at h4; omega,fun _=>⟨g,0,rfl,(Array.getElem?_eq_some_iff.1 h2).1,fun i hi=>?_⟩⟩
  have:=hc i (y i) (lL_get y n i hi)
  rw [Go.WideShapes.add_plain] at this
  exact this
theorem at25 {W:World} {g k:Nat} {c:Array Value} {t:TypeId} {z:Value} (h:W.heap[g]?=some (.cells c t)) (hz:c[k]?=some z):W.cell? ⟨g,k,none⟩=some z:=by rw [cell_of_row _ _ _ _ _ _ h]; exact hz
section
variable {o:Oper} {a:Act} {w:World}
theorem execFH25 {x:Operand} {b:Nat} (ho:o.op=.fieldAddr 52 x 2) (hx:a.eval x=.pointer (some ⟨b,0,none⟩)):(execOp a.eval o).run Tryz.prog w=.ok (.value (.pointer (some ⟨b,2,none⟩))) w:=by
 unfold execOp
 simp only [ho,hx]
 simp [go_sem]
theorem execLd25 {x:Operand} {b k:Nat} {v:Value} {t:TypeId} (ho:o.op=.load t x) (ht:t=3\/t=22) (hx:a.eval x=.pointer (some ⟨b,k,none⟩)) (hc:w.cell? ⟨b,k,none⟩=some v):(execOp a.eval o).run Tryz.prog w=.ok (.value v) w:=by
 unfold execOp
 rcases ht with rfl | rfl <;> (simp only [ho,hx]; simp [go_sem,hc])
theorem execNz25t {x:Operand} {z:Int} (ho:o.op=.binOp .neq 3 x (.const (.int .i64 0)) 3) (hx:a.eval x=.int .i64 z) (hz:z ≠ 0):(execOp a.eval o).run Tryz.prog w=.ok (.value (.bool true)) w:=by
 unfold execOp
 simp only [ho,hx]
 simp [go_sem,hz]
theorem execNz25f {x:Operand} {z:Int} (ho:o.op=.binOp .neq 3 x (.const (.int .i64 0)) 3) (hx:a.eval x=.int .i64 z) (hz:¬ z ≠ 0):(execOp a.eval o).run Tryz.prog w=.ok (.value (.bool false)) w:=by
 obtain rfl:z=0:=Classical.not_not.1 hz
 unfold execOp
 simp only [ho,hx]
 simp [go_sem]
end
set_option maxRecDepth 100000 in
set_option maxHeartbeats 4000000 in
theorem same25 (n:Nat) (v u:Value) (xv yv:Nat->Value) (ln:Nat->Nat) (c:Nat->Nat->Nat) (V:World) (hv:Ls V v n xv ln c) (hu:Ls V u n yv ln c) :
  Calls Tryz.prog 7 #[v,u] V fun e w'=>e=.returned (.bool true)/\Below V.heap.size V w':=by
 go_enter Tryz.func7,Tryz.ntmps7
 refine wo_ 28 [(0,v),(1,u)] ?_
 rintro a A ⟨t0,t1,-⟩
 have BW:Below V.heap.size V V:=Below.refl _ _
 have BB:=BW
 have hnn:n < 9223372036854775808:=(by obtain ⟨_,cap,_,q1,q2,_⟩:=hv.shape; omega)
 refine wp_seq ?_
 refine wi_ A (h2_ t0 t1) (rf_ [] (h2_ t0 t1) ?_)
 rintro a A - ⟨t0,t1,-⟩
 refine wp_seq (wp_seq ?_)
 refine wi_ A (h2_ t0 t1) (rv_ 1 (.int .i64 ((n:Nat):Int)) (fun a J=>execLenLL rfl (J _) (hv.on BB).shp) (rv_ 3 (.int .i64 ((n:Nat):Int)) (fun a J=>execLenLL rfl (J _) (hu.on BB).shp) (rv_ 4 (.bool false) (fun a J=>execDec (execNeN (p:=n) (q:=n) rfl (J _) (J _)) (decide_eq_false (by omega))) (rf_ [(10,.bool false)] (h2_ t0 t1) ?_))))
 rintro a A ⟨t10,-⟩ ⟨t0,t1,-⟩
 refine wp_cond_false t10 (wp_skip ?_)
 clear t10
 refine wp_seq (wp_seq ?_)
 refine wi_ A (h2_ t0 t1) (rv_ 1 (.int .i64 ((n:Nat):Int)) (fun a J=>execLenLL rfl (J _) (hv.on BB).shp) (rf_ [(12,.int .i64 ((n:Nat):Int)),(13,.int .i64 ((0:Nat):Int))] (h2_ t0 t1) ?_))
 rintro a A ⟨t12,t13,-⟩ ⟨t0,t1,-⟩
 refine wp_block ?_
 refine wp_loop (fun a W=>∃ (i:Nat),i<=n/\(a.tmps.size=28/\a.defers=[])/\a.eval (.tmp 0)=v/\a.eval (.tmp 1)=u/\a.eval (.tmp 12)=.int .i64 ((n:Nat):Int)/\a.eval (.tmp 13)=.int .i64 ((i:Nat):Int)/\Below V.heap.size V W) (fun a _=>n - (intOf (a.eval (.tmp 13))).toNat) ⟨0,Nat.zero_le _,A,t0,t1,t12,t13,BB⟩ ?_
 rintro a XL4 ⟨i,hi,A,t0,t1,t12,t13,BB⟩
 have esi:=t13
 refine wp_seq ?_
 refine wi_ A (h4_ t0 t1 t12 t13) (rv_ 0 (.bool (decide (i < n))) (fun a J=>execLtW (p:=i) (q:=n) rfl (J _) (J _)) (rf_ [(14,.bool (decide (i < n)))] (h4_ t0 t1 t12 t13) ?_))
 rintro a A ⟨t14,-⟩ ⟨t0,t1,t12,t13,-⟩
 refine wp_seq ?_
 by_cases lti:i < n
 ·rw [decide_eq_true lti] at t14
  refine wp_cond_true t14 (wp_skip ?_)
  clear t14
  refine wp_seq (wp_block ?_)
  refine wp_seq ?_
  refine wi_ A (h4_ t0 t1 t12 t13) (rf_ [(5,.int .i64 ((i:Nat):Int))] (h4_ t0 t1 t12 t13) ?_)
  rintro a A ⟨t5,-⟩ ⟨t0,t1,t12,t13,-⟩
  refine wp_seq ?_
  refine wj_ [0,1,2,3,4,5,6,7,8,9,10] [] [2,3,4,7,8,9] [] A (h5_ t0 t1 t5 t12 t13) (fun X6 bD=>?_)
  refine dv_ 2 (.pointer (some ⟨adB v,adO v+i,none⟩)) (fun a X J hb=>execIdxLs (k:=i) (hv.on (BB.trans (hb.mono BB.size))) rfl (J _) (J _) lti) (dv_ 3 (xv i) (fun a X J hb=>execLdLs (k:=i) (hv.on (BB.trans (hb.mono BB.size))) rfl (J _) lti) (dv_ 4 (.string (strN (c i) (ln i))) (fun a X J hb=>execStr rfl (J _) (((hv.on (BB.trans (hb.mono BB.size))).cell i lti))) (dv_ 7 (.pointer (some ⟨adB u,adO u+i,none⟩)) (fun a X J hb=>execIdxLs (k:=i) (hu.on (BB.trans (hb.mono BB.size))) rfl (J _) (J _) lti) (dv_ 8 (yv i) (fun a X J hb=>execLdLs (k:=i) (hu.on (BB.trans (hb.mono BB.size))) rfl (J _) lti) (dv_ 9 (.string (strN (c i) (ln i))) (fun a X J hb=>execStr rfl (J _) (((hu.on (BB.trans (hb.mono BB.size))).cell i lti))) (dw_ 10 (.bool false) (fun a X J=>By8.execNeqS rfl (J _) (J _)) (dz_ [(26,.bool false)] (h4_ t0 t1 t12 t13) ?_)))))))
  rintro a A ⟨t26,-⟩ ⟨t0,t1,t12,t13,-⟩
  replace BB:=BB.trans (bD.mono BB.size)
  clear bD
  refine wp_cond_false t26 (wp_skip ?_)
  clear t26
  refine wi_ A (h4_ t0 t1 t12 t13) (rv_ 0 (.int .i64 ((i+1:Nat):Int)) (fun a J=>execAd8 (p:=i) (q:=1) rfl (J _) rfl (by omega)) (rf_ [(13,.int .i64 ((i+1:Nat):Int))] (h3_ t0 t1 t12) ?_))
  rintro a A ⟨t13,-⟩ ⟨t0,t1,t12,-⟩
  exact ⟨⟨i+1,lti,A,t0,t1,t12,t13,BB⟩,by show n - (intOf (a.eval (.tmp 13))).toNat < n - (intOf (Act.eval _ (.tmp 13))).toNat; rw [t13,esi]; show n - (i+1) < n - i; omega⟩
 ·rw [decide_eq_false lti] at t14
  refine wp_cond_false t14 ?_
  refine wp_exit ?_
  first | with_reducible refine exit_in ?_ | with_reducible refine exit_then (exit_in ?_) | with_reducible refine exit_then (exit_then (exit_in ?_)) | refine exit_in ?_ | refine exit_then (exit_in ?_) | refine exit_then (exit_then (exit_in ?_))
  clear t14 esi
  refine wp_seq ?_
  refine wi_ A (h4_ t0 t1 t12 t13) (rg_ [(4,.bool true)] ?_)
  rintro a A ⟨t4,-⟩
  refine wp_ret ?_
  repeat (first | with_reducible refine ret_in ?_ | with_reducible refine ret_then ?_)
  refine bodyPost_ret (results_tmp rfl _ _ _) A.2 ⟨?_,BB⟩
  show Ending.returned (a.eval (.tmp 4))=_
  rw [t4]
set_option maxRecDepth 100000 in
set_option maxHeartbeats 4000000 in
theorem rpay25 (p:Nat->Nat) (len:Nat) (v:Value) (V:World) (hv:SliceN V v len p) (hl:len<=140737488351232) :
  Calls Tryz.prog 10 #[v] V fun e w'=>(∃ r y,e=.returned (.tuple #[r,.int .i64 ((paE p len:Nat):Int)])/\Ls w' r (paN p len) y (paL p len) (paF p len))/\Below V.heap.size V w':=by
 go_enter Tryz.func10,Tryz.ntmps10
 refine wo_ 49 [(0,v)] ?_
 rintro a A ⟨t0,-⟩
 have BW:Below V.heap.size V V:=Below.refl _ _
 obtain ⟨hk256,hkb⟩:=Frm.rk_facts hv.bytes
 refine wp_seq ?_
 refine wi_ A (h1_ t0) (rf_ [] (h1_ t0) ?_)
 rintro a A - ⟨t0,-⟩
 refine wp_seq ?_
 refine wi_ A (h1_ t0) (rc_ 1 (Frm.rread_any p len v V (hv.on (BW.trans (((Below.refl V.heap.size V)).mono BW.size))) hl) fun e X1_1 hh=>?_)
 obtain ⟨cv,x,he,hk,hb⟩:=hh
 refine ⟨_,he,?_⟩
 have bQ:Below V.heap.size V X1_1:=hb
 have FC:(Frm.CL V.heap.size (Frm.rK p len) x p cv X1_1):=hk.base (Nat.le_trans BW.size ((Below.refl V.heap.size V)).size)
 have bX:=bQ
 clear bQ
 obtain ⟨g4,egg4⟩:∃ z_:Nat,X1_1.heap.size=z_:=⟨_,rfl⟩
 refine rs_ 6 (fun a J=>?_)
 refine stepV rfl rfl (Frm.execAllB rfl) ⟨.pointer (some ⟨g4,0,none⟩),⟨_,rfl,by subst egg4; rfl⟩,fun X1_2 hX=>?_⟩
 have bQ:Below X1_1.heap.size X1_1 X1_2:=by subst hX egg4; exact (belNew X1_1 _)
 have Fg4:(X1_2.heap[g4]?=some (.cells (Frm.bC 0 0 0 (.slice none 0 0)) 54)):=by subst hX egg4; exact heapNew X1_1 _
 have FGe:(V.heap.size<=g4):=by subst hX egg4; exact (bX).size
 replace FC:=(FC.on bQ)
 replace bX:=bX.trans (bQ.mono bX.size)
 clear bQ hX egg4 J a
 refine rs_ 7 (fun a J=>?_)
 refine stepS rfl rfl (Frm.execStBt rfl (J _) (J _) Fg4 FC.one) ⟨_,⟨_,rfl,rfl⟩,fun X1 hX=>?_⟩
 obtain ⟨bX,FC,Fb⟩:Below V.heap.size V X1/\(Frm.CL V.heap.size (Frm.rK p len) x p cv X1)/\(X1.heap[g4]?=some (.cells (Frm.bC (Frm.rRound p len) (Frm.rEpoch p len) (Frm.rLeft p len) cv) 54)):=by subst hX; exact ⟨below4 bX FGe _,(FC.rowT Fg4 (by decide) (by decide) _),setRow_heap _ _ _ _ _ _ Fg4⟩
 clear Fg4 hX J a
 refine rg_ [(4,.pointer (some ⟨g4,0,none⟩)),(6,.int .i64 (((Frm.jE p len).2:Nat):Int))] ?_
 rintro a A ⟨t4,t6,-⟩
 have ZX1:=bX.size
 replace BW:=BW.trans (bX.mono BW.size)
 clear bX
 have hcl:=FC.cells hkb (by omega)
 have FL:Ls X1 cv (Frm.rK p len) x (fun _=>320) (fun i=>Frm.cellB p i):=⟨hcl.shape,hcl.cell,hcl.nil,hcl.lens⟩
 clear FC FGe hcl
 have BB:Below X1.heap.size X1 X1:=Below.refl _ _
 refine wp_seq (wp_seq ?_)
 by_cases hj:(Frm.jE p len).2 ≠ 0
 ·refine wi_ A (h2_ t4 t6) (rv_ 1 (.bool true) (fun a J=>execDec (execNeN (p:=(Frm.jE p len).2) (q:=0) rfl (J _) rfl) (decide_eq_true (by omega))) (rf_ [(20,.bool true)] (h2_ t4 t6) ?_))
  rintro a A ⟨t20,-⟩ ⟨t4,t6,-⟩
  refine wp_cond_true t20 ?_
  clear t20
  refine wp_seq ?_
  refine wi_ A (h2_ t4 t6) (rg_ [(2,.slice none 0 0),(3,.int .i64 (((Frm.jE p len).2:Nat):Int))] ?_)
  rintro a A ⟨t2,t3,-⟩
  have BW2:=BW.trans (BB.mono BW.size)
  have hE:paE p len=(Frm.jE p len).2:=if_pos hj
  have hN:paN p len=0:=pa_no (by rw [hE]; first | exact hj | decide | exact hk0)
  refine wp_ret ?_
  repeat (first | with_reducible refine ret_in ?_ | with_reducible refine ret_then ?_)
  refine bodyPost_ret (results_tmp2 rfl _ _ _) A.2 ⟨⟨.slice none 0 0,fun _=>undef,?_,?_⟩,BW2⟩
  ·show Ending.returned (.tuple #[a.eval (.tmp 2),a.eval (.tmp 3)])=_
   rw [t2,t3]
   rw [hE]
  ·rw [hN]
   exact ls_no _ _ _
 refine wi_ A (h2_ t4 t6) (rv_ 1 (.bool false) (fun a J=>execDec (execNeN (p:=(Frm.jE p len).2) (q:=0) rfl (J _) rfl) (decide_eq_false (by omega))) (rf_ [(20,.bool false)] (h1_ t4) ?_))
 rintro a A ⟨t20,-⟩ ⟨t4,-⟩
 refine wp_cond_false t20 (wp_skip ?_)
 clear t20
 refine wp_seq (wp_seq ?_)
 by_cases hL:Frm.rLeft p len ≠ 0
 ·refine wi_ A (h1_ t4) (rv_ 0 (.pointer (some ⟨g4,0,none⟩)) (fun a J=>Frm.execFldB0 rfl (J _)) (rv_ 1 (.pointer (some ⟨g4,2,none⟩)) (fun a J=>execFH25 rfl (J _)) (rv_ 2 (.int .i64 (Frm.rLeft p len)) (fun a J=>execLd25 rfl (Or.inl rfl) (J _) (at25 (on9 Fb BB) rfl)) (rv_ 3 (.bool true) (fun a J=>execNz25t rfl (J _) hL) (rf_ [(25,.bool true)] (h1_ t4) ?_)))))
  rintro a A ⟨t25,-⟩ ⟨t4,-⟩
  refine wp_cond_true t25 ?_
  clear t25
  refine wp_seq ?_
  refine wi_ A (h1_ t4) (rg_ [(2,.slice none 0 0),(3,.int .i64 ((212:Nat):Int))] ?_)
  rintro a A ⟨t2,t3,-⟩
  have BW2:=BW.trans (BB.mono BW.size)
  have hE:paE p len=212:=(if_neg hj).trans (if_pos hL)
  have hN:paN p len=0:=pa_no (by rw [hE]; first | exact hj | decide | exact hk0)
  refine wp_ret ?_
  repeat (first | with_reducible refine ret_in ?_ | with_reducible refine ret_then ?_)
  refine bodyPost_ret (results_tmp2 rfl _ _ _) A.2 ⟨⟨.slice none 0 0,fun _=>undef,?_,?_⟩,BW2⟩
  ·show Ending.returned (.tuple #[a.eval (.tmp 2),a.eval (.tmp 3)])=_
   rw [t2,t3]
   rw [hE]
  ·rw [hN]
   exact ls_no _ _ _
 refine wi_ A (h1_ t4) (rv_ 0 (.pointer (some ⟨g4,0,none⟩)) (fun a J=>Frm.execFldB0 rfl (J _)) (rv_ 1 (.pointer (some ⟨g4,2,none⟩)) (fun a J=>execFH25 rfl (J _)) (rv_ 2 (.int .i64 (Frm.rLeft p len)) (fun a J=>execLd25 rfl (Or.inl rfl) (J _) (at25 (on9 Fb BB) rfl)) (rv_ 3 (.bool false) (fun a J=>execNz25f rfl (J _) hL) (rf_ [(25,.bool false)] (h1_ t4) ?_)))))
 rintro a A ⟨t25,-⟩ ⟨t4,-⟩
 refine wp_cond_false t25 (wp_skip ?_)
 clear t25
 refine wp_seq ?_
 refine wi_ A (h1_ t4) (rf_ [(7,.slice none 0 0)] (h1_ t4) ?_)
 rintro a A ⟨t7,-⟩ ⟨t4,-⟩
 refine wp_seq (wp_seq ?_)
 refine wi_ A (h2_ t4 t7) (rv_ 0 (.pointer (some ⟨g4,3,none⟩)) (fun a J=>Frm.execFldB1 rfl (J _)) (rv_ 1 (cv) (fun a J=>execLd25 rfl (Or.inr rfl) (J _) (at25 (on9 Fb BB) rfl)) (rv_ 2 (.int .i64 ((Frm.rK p len:Nat):Int)) (fun a J=>execLenLL rfl (J _) (FL.on BB).shp) (rf_ [(27,cv),(28,.int .i64 ((Frm.rK p len:Nat):Int)),(29,.int .i64 ((0:Nat):Int))] (h1_ t7) ?_))))
 rintro a A ⟨t27,t28,t29,-⟩ ⟨t7,-⟩
 have FU:(X1.ownsRow X1.heap.size 24 1 (.slice none 0 0) (cY (opY p) 0) (lL (fun _=>undef) (cY (opY p) 0))):=World.ownsRow_nil _ _ _ _
 have FF:(Fam X1.heap.size (cY (opY p) 0) (fun _=>undef) (paL p len) (paF p len) X1):=Fam.none _ _ _ _ _
 refine wp_block ?_
 refine wp_loop (fun a W=>∃ (i:Nat) (u:Value) (y:Nat->Value),i<=Frm.rK p len/\(fe (fun i=>openE (Frm.cellB p i) 320) i=0)/\(a.tmps.size=49/\a.defers=[])/\a.eval (.tmp 7)=u/\a.eval (.tmp 27)=cv/\a.eval (.tmp 28)=.int .i64 ((Frm.rK p len:Nat):Int)/\a.eval (.tmp 29)=.int .i64 ((i:Nat):Int)/\Below X1.heap.size X1 W/\(W.ownsRow X1.heap.size 24 1 u (cY (opY p) i) (lL y (cY (opY p) i)))/\(Fam X1.heap.size (cY (opY p) i) y (paL p len) (paF p len) W)) (fun a _=>Frm.rK p len - (intOf (a.eval (.tmp 29))).toNat) ⟨0,.slice none 0 0,fun _=>undef,Nat.zero_le _,rfl,A,t7,t27,t28,t29,BB,FU,FF⟩ ?_
 rintro a XL8 ⟨i,u,y,hi,hky,A,t7,t27,t28,t29,BB,FU,FF⟩
 have esi:=t29
 refine wp_seq ?_
 refine wi_ A (h4_ t7 t27 t28 t29) (rv_ 0 (.bool (decide (i < Frm.rK p len))) (fun a J=>execLtW (p:=i) (q:=Frm.rK p len) rfl (J _) (J _)) (rf_ [(30,.bool (decide (i < Frm.rK p len)))] (h4_ t7 t27 t28 t29) ?_))
 rintro a A ⟨t30,-⟩ ⟨t7,t27,t28,t29,-⟩
 refine wp_seq ?_
 by_cases lti:i < Frm.rK p len
 ·rw [decide_eq_true lti] at t30
  refine wp_cond_true t30 (wp_skip ?_)
  clear t30
  refine wp_seq (wp_block ?_)
  refine wp_seq ?_
  refine wi_ A (h4_ t7 t27 t28 t29) (rv_ 0 (.pointer (some ⟨adB cv,adO cv+i,none⟩)) (fun a J=>execIdxLs (k:=i) (FL.on BB) rfl (J _) (J _) lti) (rv_ 1 (x i) (fun a J=>execLdLs (k:=i) (FL.on BB) rfl (J _) lti) (rf_ [(9,x i)] (h4_ t7 t27 t28 t29) ?_)))
  rintro a A ⟨t9,-⟩ ⟨t7,t27,t28,t29,-⟩
  have hVs:=BB.size
  have FB:Below XL8.heap.size XL8 XL8:=Below.refl _ _
  have FF0:=FF
  clear FF
  refine wp_seq ?_
  refine wi_ A (h5_ t7 t27 t28 t29 t9) (rc_ 1 (ropen_any (Frm.cellB p i) 320 (x i) XL8 ⟨(FL.cell i lti).on BB,FL.nil i lti⟩ (by omega)) fun e X10 hh=>?_)
  obtain ⟨v10,he,hk,hb⟩:=hh
  refine ⟨_,he,?_⟩
  have bQ:Below XL8.heap.size XL8 X10:=hb
  have FO:(X10.ownsRow XL8.heap.size 5 1 v10 (openN (Frm.cellB p i) 320) (bytesL (openN (Frm.cellB p i) 320) fun j=>(Frm.cellB p i) (2+j))):=own_base hk (FB).size
  replace FU:=(ownD_below FU bQ)
  replace FB:=(FB.trans (bQ.mono FB.size))
  replace BB:=BB.trans (bQ.mono BB.size)
  clear bQ
  refine rf_ [(10,v10),(11,.bool (openY (Frm.cellB p i) 320)),(12,.int .i64 ((openE (Frm.cellB p i) 320:Nat):Int))] (h4_ t7 t27 t28 t29) ?_
  rintro a A ⟨t10,t11,t12,-⟩ ⟨t7,t27,t28,t29,-⟩
  refine wp_seq (wp_seq ?_)
  by_cases hk0:openE (Frm.cellB p i) 320 ≠ 0
  ·refine wi_ A (h7_ t7 t27 t28 t29 t10 t11 t12) (rv_ 1 (.bool true) (fun a J=>execDec (execNeN (p:=openE (Frm.cellB p i) 320) (q:=0) rfl (J _) rfl) (decide_eq_true (by omega))) (rf_ [(40,.bool true)] (h5_ t7 t27 t28 t29 t12) ?_))
   rintro a A ⟨t40,-⟩ ⟨t7,t27,t28,t29,t12,-⟩
   refine wp_cond_true t40 ?_
   clear t40
   refine wp_seq ?_
   refine wi_ A (h5_ t7 t27 t28 t29 t12) (rg_ [(2,.slice none 0 0),(3,.int .i64 ((openE (Frm.cellB p i) 320:Nat):Int))] ?_)
   rintro a A ⟨t2,t3,-⟩
   have BW2:=BW.trans (BB.mono BW.size)
   have hE:paE p len=openE (Frm.cellB p i) 320:=pa_stop hj hL hky hk0 lti
   have hN:paN p len=0:=pa_no (by rw [hE]; first | exact hj | decide | exact hk0)
   refine wp_ret ?_
   repeat (first | with_reducible refine ret_in ?_ | with_reducible refine ret_then ?_)
   refine bodyPost_ret (results_tmp2 rfl _ _ _) A.2 ⟨⟨.slice none 0 0,fun _=>undef,?_,?_⟩,BW2⟩
   ·show Ending.returned (.tuple #[a.eval (.tmp 2),a.eval (.tmp 3)])=_
    rw [t2,t3]
    rw [hE]
   ·rw [hN]
    exact ls_no _ _ _
  refine wi_ A (h7_ t7 t27 t28 t29 t10 t11 t12) (rv_ 1 (.bool false) (fun a J=>execDec (execNeN (p:=openE (Frm.cellB p i) 320) (q:=0) rfl (J _) rfl) (decide_eq_false (by omega))) (rf_ [(40,.bool false)] (h6_ t7 t27 t28 t29 t10 t11) ?_))
  rintro a A ⟨t40,-⟩ ⟨t7,t27,t28,t29,t10,t11,-⟩
  refine wp_cond_false t40 (wp_skip ?_)
  clear t40
  refine wp_seq ?_
  by_cases hy:opY p i=true
  ·replace t11:a.eval (.tmp 11)=.bool true:=t11.trans (congrArg Value.bool hy)
   refine wi_ A (h6_ t7 t27 t28 t29 t10 t11) (rf_ [(42,.bool true)] (h5_ t7 t27 t28 t29 t10) ?_)
   rintro a A ⟨t42,-⟩ ⟨t7,t27,t28,t29,t10,-⟩
   refine wp_cond_true t42 ?_
   clear t42
   have ep:plY (opY p) (Frm.rK p len) (cY (opY p) i)=i:=plY_at hy lti
   have eL:paL p len (cY (opY p) i)=openN (Frm.cellB p i) 320:=by unfold paL; rw [ep]
   have eF:paF p len (cY (opY p) i)=fun j=>(Frm.cellB p i) (2+j):=by unfold paF; rw [ep]
   have FF1:(Fam X1.heap.size (cY (opY p) i+1) (updX y (cY (opY p) i) v10) (paL p len) (paF p len) X10):=FF0.add FB hVs (by rw [eL,eF]; exact FO)
   have hsl:=ownQ_shape FO
   clear FO FB
   obtain ⟨g45,egg45⟩:∃ z_:Nat,X10.heap.size=z_:=⟨_,rfl⟩
   refine wi_ A (h5_ t7 t27 t28 t29 t10) (rs_ 2 (fun a J=>?_))
   refine stepV rfl rfl (Cf.execBsL rfl (J _) (by obtain ⟨q1,q2,q3⟩:=hsl; exact ⟨q1,_,q2,q3⟩)) ⟨.slice (some ⟨g45,0,none⟩) 1 1,⟨_,rfl,by subst egg45; rfl⟩,fun X14_1 hX=>?_⟩
   have bQ:Below X10.heap.size X10 X14_1:=by subst hX egg45; exact (belNew X10 _)
   have Fg45:(X14_1.heap[g45]?=some (.cells #[v10] 24)):=by subst hX egg45; exact heapNew X10 _
   replace FU:=(ownD_below FU bQ)
   replace FF1:=(FF1.on bQ)
   replace BB:=BB.trans (bQ.mono BB.size)
   clear bQ hX egg45 J a
   refine rs_ 3 (fun a J=>?_)
   refine stepAppLB rfl rfl rfl (J _) (J _) FU Fg45 rfl (one25 hsl) (by have:=cY_le (Y:=opY p) (k:=i); omega) (BB).size fun v46 X14 own' gr=>⟨_,⟨_,rfl,rfl⟩,eqw ?_⟩
   obtain ⟨BB,FF1,FU1⟩:Below X1.heap.size X1 X14/\(Fam X1.heap.size (cY (opY p) i+1) (updX y (cY (opY p) i) v10) (paL p len) (paF p len) X14)/\(X14.ownsRow X1.heap.size 24 1 v46 (cY (opY p) i+1) (lL (updX y (cY (opY p) i) v10) (cY (opY p) i+1))):=⟨(BB).grown gr (BB).size (fun k hk=>(FU.lt k hk).1),(FF1.grown FU gr),(lL_upd y (cY (opY p) i) _ ▸ own')⟩
   clear FU Fg45 J a
   refine rf_ [(7,v46)] (h3_ t27 t28 t29) ?_
   rintro a A ⟨t7,-⟩ ⟨t27,t28,t29,-⟩
   rw [← cY_yes hy] at FU1 FF1
   refine wi_ A (h4_ t7 t27 t28 t29) (rv_ 0 (.int .i64 ((i+1:Nat):Int)) (fun a J=>execAd8 (p:=i) (q:=1) rfl (J _) rfl (by omega)) (rf_ [(29,.int .i64 ((i+1:Nat):Int))] (h3_ t7 t27 t28) ?_))
   rintro a A ⟨t29,-⟩ ⟨t7,t27,t28,-⟩
   exact ⟨⟨i+1,v46,updX y (cY (opY p) i) v10,lti,fe_on hky (Classical.not_not.1 hk0),A,t7,t27,t28,t29,BB,FU1,FF1⟩,by show Frm.rK p len - (intOf (a.eval (.tmp 29))).toNat < Frm.rK p len - (intOf (Act.eval _ (.tmp 29))).toNat; rw [t29,esi]; show Frm.rK p len - (i+1) < Frm.rK p len - i; omega⟩
  ·replace t11:a.eval (.tmp 11)=.bool false:=t11.trans (congrArg Value.bool ((Bool.not_eq_true _).mp hy))
   have FF1:(Fam X1.heap.size (cY (opY p) i) y (paL p len) (paF p len) X10):=FF0.on FB
   clear FO FB FF0
   refine wi_ A (h6_ t7 t27 t28 t29 t10 t11) (rf_ [(42,.bool false)] (h4_ t7 t27 t28 t29) ?_)
   rintro a A ⟨t42,-⟩ ⟨t7,t27,t28,t29,-⟩
   refine wp_cond_false t42 (wp_skip ?_)
   clear t42
   rw [← cY_no hy] at FU FF1
   refine wi_ A (h4_ t7 t27 t28 t29) (rv_ 0 (.int .i64 ((i+1:Nat):Int)) (fun a J=>execAd8 (p:=i) (q:=1) rfl (J _) rfl (by omega)) (rf_ [(29,.int .i64 ((i+1:Nat):Int))] (h3_ t7 t27 t28) ?_))
   rintro a A ⟨t29,-⟩ ⟨t7,t27,t28,-⟩
   exact ⟨⟨i+1,u,y,lti,fe_on hky (Classical.not_not.1 hk0),A,t7,t27,t28,t29,BB,FU,FF1⟩,by show Frm.rK p len - (intOf (a.eval (.tmp 29))).toNat < Frm.rK p len - (intOf (Act.eval _ (.tmp 29))).toNat; rw [t29,esi]; show Frm.rK p len - (i+1) < Frm.rK p len - i; omega⟩
 ·rw [decide_eq_false lti] at t30
  refine wp_cond_false t30 ?_
  refine wp_exit ?_
  first | with_reducible refine exit_in ?_ | with_reducible refine exit_then (exit_in ?_) | with_reducible refine exit_then (exit_then (exit_in ?_)) | refine exit_in ?_ | refine exit_then (exit_in ?_) | refine exit_then (exit_then (exit_in ?_))
  clear t30 esi
  have ei:i=Frm.rK p len:=by omega
  rw [ei] at FU FF hky
  have BW2:=BW.trans (BB.mono BW.size)
  have hE:paE p len=0:=pa_on hj hL hky
  have hN:paN p len=cY (opY p) (Frm.rK p len):=if_pos hE
  refine wp_seq ?_
  refine wi_ A (h4_ t7 t27 t28 t29) (rg_ [(2,u),(3,.int .i64 ((0:Nat):Int))] ?_)
  rintro a A ⟨t2,t3,-⟩
  refine wp_ret ?_
  refine bodyPost_ret (results_tmp2 rfl _ _ _) A.2 ⟨⟨u,y,?_,?_⟩,BW2⟩
  ·show Ending.returned (.tuple #[a.eval (.tmp 2),a.eval (.tmp 3)])=_
   rw [t2,t3]
   rw [hE]
  ·rw [hN]
   exact ls_fam FU FF (fun t ht j hj=>hkb _ _ (plY_lt ht).1 (by have:=openN_le (c:=Frm.cellB p (plY (opY p) (Frm.rK p len) t)) (l:=320); have h9:j < openN (Frm.cellB p (plY (opY p) (Frm.rK p len) t)) 320:=hj; omega)) (fun t _=>by have:=openN_le (c:=Frm.cellB p (plY (opY p) (Frm.rK p len) t)) (l:=320); show openN _ _<=_; omega)
end Go.Proofs.YtjckkdjldnobmaaGreatDoor.Cas

namespace Go.Proofs.YtjckkdjldnobmaaGreatDoor.Cas
open Go.RowKit Gf8 Aes By8 Cel Cf Tap Drw Dro Oni Rou
/- The landed cascade: Entry, Payloads. Written by tools/mkC8h.py. -/
set_option maxRecDepth 100000 in
set_option maxHeartbeats 4000000 in
theorem pentry25 (rd ep lf:Int) (n:Nat) (cv:Value) (xv:Nat->Value) (ln:Nat->Nat) (c:Nat->Nat->Nat) (V:World) (hc:Frm.Cells V cv n xv ln c) (hn:n<=140737488351232) (hG:Frm.Rules V) :
  Calls Tryz.prog 8 #[.int .i64 rd,.int .i64 ep,.int .i64 lf,cv] V fun e w'=>(∃ r,e=.returned (.tuple #[r,.int .i64 ((Frm.packE rd ep lf n ln:Nat):Int)])/\w'.ownsRow V.heap.size 5 1 r (Frm.packN rd ep lf n ln) (bytesL (Frm.packN rd ep lf n ln) (Frm.packI rd ep lf n c)))/\Below V.heap.size V w':=by
 go_enter Tryz.func8,Tryz.ntmps8
 refine wo_ 19 [(0,.int .i64 rd),(1,.int .i64 ep),(2,.int .i64 lf),(3,cv)] ?_
 rintro a A ⟨t0,t1,t2,t3,-⟩
 have BW:Below V.heap.size V V:=Below.refl _ _
 have BB:=BW
 refine wp_seq ?_
 refine wi_ A (h4_ t0 t1 t2 t3) (rf_ [] (h4_ t0 t1 t2 t3) ?_)
 rintro a A - ⟨t0,t1,t2,t3,-⟩
 refine wp_seq ?_
 refine wi_ A (h4_ t0 t1 t2 t3) (rv_ 3 (.agg (Frm.hC rd ep lf)) (fun a E=>Frm.execHdr rfl (E _) (E _) (E _)) (rv_ 5 (.agg (Frm.bC rd ep lf cv)) (fun a E=>Frm.execBt2 rfl (E _) (E _) (by obtain ⟨a_,c_,e_,_⟩:=hc.shape; exact ⟨a_,n,c_,e_⟩)) (rc_ 6 (Frm.ppack_any rd ep lf n cv xv ln c V (hG.on BB hG.sz) (hc.on BB) hn) fun e X1 hh=>?_)))
 obtain ⟨v17,he,hk,hb⟩:=hh
 refine ⟨_,he,?_⟩
 have bQ:Below V.heap.size V X1:=hb
 have FR:(X1.ownsRow V.heap.size 5 1 v17 (Frm.packN rd ep lf n ln) (bytesL (Frm.packN rd ep lf n ln) (Frm.packI rd ep lf n c))):=own_base hk (BB).size
 replace BB:=BB.trans (bQ.mono BB.size)
 clear bQ
 refine rg_ [(8,v17),(9,.int .i64 ((Frm.packE rd ep lf n ln:Nat):Int))] ?_
 rintro a A ⟨t8,t9,-⟩
 refine wp_ret ?_
 refine bodyPost_ret (results_tmp2 rfl _ _ _) A.2 ⟨⟨v17,?_,FR⟩,BB⟩
 show Ending.returned (.tuple #[a.eval (.tmp 8),a.eval (.tmp 9)])=_
 rw [t8,t9]
set_option maxRecDepth 100000 in
set_option maxHeartbeats 4000000 in
theorem ppayF (p:Nat->Nat) (len:Nat) (v:Value) (V:World) (hv:SliceN V v len p) (hl:len<=140737488351232) (hG:Frm.Rules V) :
  Calls Tryz.prog 9 #[v] V fun e w'=>(∃ r y,e=.returned (.tuple #[r,.int .i64 ((paE p len:Nat):Int)])/\w'.ownsRow V.heap.size 24 1 r (paN p len) (lL y (paN p len))/\Fam V.heap.size (paN p len) y (paL p len) (paF p len) w')/\Below V.heap.size V w':=by
 go_enter Tryz.func9,Tryz.ntmps9
 refine wo_ 49 [(0,v)] ?_
 rintro a A ⟨t0,-⟩
 have BW:Below V.heap.size V V:=Below.refl _ _
 obtain ⟨hk256,hkb⟩:=Frm.rk_facts hv.bytes
 refine wp_seq ?_
 refine wi_ A (h1_ t0) (rf_ [] (h1_ t0) ?_)
 rintro a A - ⟨t0,-⟩
 refine wp_seq ?_
 refine wi_ A (h1_ t0) (rc_ 1 (Frm.pread_any p len v V (hG.on (BW.trans (((Below.refl V.heap.size V)).mono BW.size)) hG.sz) (hv.on (BW.trans (((Below.refl V.heap.size V)).mono BW.size))) hl) fun e X1_1 hh=>?_)
 obtain ⟨cv,x,he,hk,hb⟩:=hh
 refine ⟨_,he,?_⟩
 have bQ:Below V.heap.size V X1_1:=hb
 have FC:(Frm.CL V.heap.size (Frm.rK p len) x p cv X1_1):=hk.base (Nat.le_trans BW.size ((Below.refl V.heap.size V)).size)
 have bX:=bQ
 clear bQ
 obtain ⟨g4,egg4⟩:∃ z_:Nat,X1_1.heap.size=z_:=⟨_,rfl⟩
 refine rs_ 6 (fun a E=>?_)
 refine stepV rfl rfl (Frm.execAllB rfl) ⟨.pointer (some ⟨g4,0,none⟩),⟨_,rfl,by subst egg4; rfl⟩,fun X1_2 hX=>?_⟩
 have bQ:Below X1_1.heap.size X1_1 X1_2:=by subst hX egg4; exact (belNew X1_1 _)
 have Fg4:(X1_2.heap[g4]?=some (.cells (Frm.bC 0 0 0 (.slice none 0 0)) 54)):=by subst hX egg4; exact heapNew X1_1 _
 have FGe:(V.heap.size<=g4):=by subst hX egg4; exact (bX).size
 replace FC:=(FC.on bQ)
 replace bX:=bX.trans (bQ.mono bX.size)
 clear bQ hX egg4 E a
 refine rs_ 7 (fun a E=>?_)
 refine stepS rfl rfl (Frm.execStBt rfl (E _) (E _) Fg4 FC.one) ⟨_,⟨_,rfl,rfl⟩,fun X1 hX=>?_⟩
 obtain ⟨bX,FC,Fb⟩:Below V.heap.size V X1/\(Frm.CL V.heap.size (Frm.rK p len) x p cv X1)/\(X1.heap[g4]?=some (.cells (Frm.bC (Frm.rRound p len) (Frm.rEpoch p len) (Frm.rLeft p len) cv) 54)):=by subst hX; exact ⟨below4 bX FGe _,(FC.rowT Fg4 (by decide) (by decide) _),setRow_heap _ _ _ _ _ _ Fg4⟩
 clear Fg4 hX E a
 refine rg_ [(4,.pointer (some ⟨g4,0,none⟩)),(6,.int .i64 (((Frm.jE p len).2:Nat):Int))] ?_
 rintro a A ⟨t4,t6,-⟩
 have ZX1:=bX.size
 replace BW:=BW.trans (bX.mono BW.size)
 clear bX
 have hcl:=FC.cells hkb (by omega)
 have FL:Ls X1 cv (Frm.rK p len) x (fun _=>320) (fun i=>Frm.cellB p i):=⟨hcl.shape,hcl.cell,hcl.nil,hcl.lens⟩
 clear FC FGe hcl
 have BB:Below X1.heap.size X1 X1:=Below.refl _ _
 refine wp_seq (wp_seq ?_)
 by_cases hj:(Frm.jE p len).2 ≠ 0
 ·refine wi_ A (h2_ t4 t6) (rv_ 1 (.bool true) (fun a E=>execDec (execNeE (p:=(Frm.jE p len).2) (q:=0) rfl (E _) rfl) (decide_eq_true (by omega))) (rf_ [(20,.bool true)] (h2_ t4 t6) ?_))
  rintro a A ⟨t20,-⟩ ⟨t4,t6,-⟩
  refine wp_cond_true t20 ?_
  clear t20
  refine wp_seq ?_
  refine wi_ A (h2_ t4 t6) (rg_ [(2,.slice none 0 0),(3,.int .i64 (((Frm.jE p len).2:Nat):Int))] ?_)
  rintro a A ⟨t2,t3,-⟩
  have BW2:=BW.trans (BB.mono BW.size)
  have hE:paE p len=(Frm.jE p len).2:=if_pos hj
  have hN:paN p len=0:=pa_no (by rw [hE]; first | exact hj | decide | exact hk0)
  refine wp_ret ?_
  repeat (first | with_reducible refine ret_in ?_ | with_reducible refine ret_then ?_)
  refine bodyPost_ret (results_tmp2 rfl _ _ _) A.2 ⟨⟨.slice none 0 0,fun _=>undef,?_,?_⟩,BW2⟩
  ·show Ending.returned (.tuple #[a.eval (.tmp 2),a.eval (.tmp 3)])=_
   rw [t2,t3]
   rw [hE]
  ·rw [hN]
   exact ⟨World.ownsRow_nil _ _ _ _,Fam.none _ _ _ _ _⟩
 refine wi_ A (h2_ t4 t6) (rv_ 1 (.bool false) (fun a E=>execDec (execNeE (p:=(Frm.jE p len).2) (q:=0) rfl (E _) rfl) (decide_eq_false (by omega))) (rf_ [(20,.bool false)] (h1_ t4) ?_))
 rintro a A ⟨t20,-⟩ ⟨t4,-⟩
 refine wp_cond_false t20 (wp_skip ?_)
 clear t20
 refine wp_seq (wp_seq ?_)
 by_cases hL:Frm.rLeft p len ≠ 0
 ·refine wi_ A (h1_ t4) (rv_ 0 (.pointer (some ⟨g4,0,none⟩)) (fun a E=>Frm.execFldB0 rfl (E _)) (rv_ 1 (.pointer (some ⟨g4,2,none⟩)) (fun a E=>execFH25 rfl (E _)) (rv_ 2 (.int .i64 (Frm.rLeft p len)) (fun a E=>execLd25 rfl (Or.inl rfl) (E _) (at25 (on9 Fb BB) rfl)) (rv_ 3 (.bool true) (fun a E=>execNz25t rfl (E _) hL) (rf_ [(25,.bool true)] (h1_ t4) ?_)))))
  rintro a A ⟨t25,-⟩ ⟨t4,-⟩
  refine wp_cond_true t25 ?_
  clear t25
  refine wp_seq ?_
  refine wi_ A (h1_ t4) (rg_ [(2,.slice none 0 0),(3,.int .i64 ((212:Nat):Int))] ?_)
  rintro a A ⟨t2,t3,-⟩
  have BW2:=BW.trans (BB.mono BW.size)
  have hE:paE p len=212:=(if_neg hj).trans (if_pos hL)
  have hN:paN p len=0:=pa_no (by rw [hE]; first | exact hj | decide | exact hk0)
  refine wp_ret ?_
  repeat (first | with_reducible refine ret_in ?_ | with_reducible refine ret_then ?_)
  refine bodyPost_ret (results_tmp2 rfl _ _ _) A.2 ⟨⟨.slice none 0 0,fun _=>undef,?_,?_⟩,BW2⟩
  ·show Ending.returned (.tuple #[a.eval (.tmp 2),a.eval (.tmp 3)])=_
   rw [t2,t3]
   rw [hE]
  ·rw [hN]
   exact ⟨World.ownsRow_nil _ _ _ _,Fam.none _ _ _ _ _⟩
 refine wi_ A (h1_ t4) (rv_ 0 (.pointer (some ⟨g4,0,none⟩)) (fun a E=>Frm.execFldB0 rfl (E _)) (rv_ 1 (.pointer (some ⟨g4,2,none⟩)) (fun a E=>execFH25 rfl (E _)) (rv_ 2 (.int .i64 (Frm.rLeft p len)) (fun a E=>execLd25 rfl (Or.inl rfl) (E _) (at25 (on9 Fb BB) rfl)) (rv_ 3 (.bool false) (fun a E=>execNz25f rfl (E _) hL) (rf_ [(25,.bool false)] (h1_ t4) ?_)))))
 rintro a A ⟨t25,-⟩ ⟨t4,-⟩
 refine wp_cond_false t25 (wp_skip ?_)
 clear t25
 refine wp_seq ?_
 refine wi_ A (h1_ t4) (rf_ [(7,.slice none 0 0)] (h1_ t4) ?_)
 rintro a A ⟨t7,-⟩ ⟨t4,-⟩
 refine wp_seq (wp_seq ?_)
 refine wi_ A (h2_ t4 t7) (rv_ 0 (.pointer (some ⟨g4,3,none⟩)) (fun a E=>Frm.execFldB1 rfl (E _)) (rv_ 1 (cv) (fun a E=>execLd25 rfl (Or.inr rfl) (E _) (at25 (on9 Fb BB) rfl)) (rv_ 2 (.int .i64 ((Frm.rK p len:Nat):Int)) (fun a E=>execLenLL rfl (E _) (FL.on BB).shp) (rf_ [(27,cv),(28,.int .i64 ((Frm.rK p len:Nat):Int)),(29,.int .i64 ((0:Nat):Int))] (h1_ t7) ?_))))
 rintro a A ⟨t27,t28,t29,-⟩ ⟨t7,-⟩
 have FU:(X1.ownsRow X1.heap.size 24 1 (.slice none 0 0) (cY (opY p) 0) (lL (fun _=>undef) (cY (opY p) 0))):=World.ownsRow_nil _ _ _ _
 have FF:(Fam X1.heap.size (cY (opY p) 0) (fun _=>undef) (paL p len) (paF p len) X1):=Fam.none _ _ _ _ _
 refine wp_block ?_
 refine wp_loop (fun a W=>∃ (i:Nat) (u:Value) (y:Nat->Value),i<=Frm.rK p len/\(fe (fun i=>openE (Frm.cellB p i) 320) i=0)/\(a.tmps.size=49/\a.defers=[])/\a.eval (.tmp 7)=u/\a.eval (.tmp 27)=cv/\a.eval (.tmp 28)=.int .i64 ((Frm.rK p len:Nat):Int)/\a.eval (.tmp 29)=.int .i64 ((i:Nat):Int)/\Below X1.heap.size X1 W/\(W.ownsRow X1.heap.size 24 1 u (cY (opY p) i) (lL y (cY (opY p) i)))/\(Fam X1.heap.size (cY (opY p) i) y (paL p len) (paF p len) W)) (fun a _=>Frm.rK p len - (intOf (a.eval (.tmp 29))).toNat) ⟨0,.slice none 0 0,fun _=>undef,Nat.zero_le _,rfl,A,t7,t27,t28,t29,BB,FU,FF⟩ ?_
 rintro a XL8 ⟨i,u,y,hi,hky,A,t7,t27,t28,t29,BB,FU,FF⟩
 have esi:=t29
 refine wp_seq ?_
 refine wi_ A (h4_ t7 t27 t28 t29) (rv_ 0 (.bool (decide (i < Frm.rK p len))) (fun a E=>execLtW (p:=i) (q:=Frm.rK p len) rfl (E _) (E _)) (rf_ [(30,.bool (decide (i < Frm.rK p len)))] (h4_ t7 t27 t28 t29) ?_))
 rintro a A ⟨t30,-⟩ ⟨t7,t27,t28,t29,-⟩
 refine wp_seq ?_
 by_cases lti:i < Frm.rK p len
 ·rw [decide_eq_true lti] at t30
  refine wp_cond_true t30 (wp_skip ?_)
  clear t30
  refine wp_seq (wp_block ?_)
  refine wp_seq ?_
  refine wi_ A (h4_ t7 t27 t28 t29) (rv_ 0 (.pointer (some ⟨adB cv,adO cv+i,none⟩)) (fun a E=>execIdxLs (k:=i) (FL.on BB) rfl (E _) (E _) lti) (rv_ 1 (x i) (fun a E=>execLdLs (k:=i) (FL.on BB) rfl (E _) lti) (rf_ [(9,x i)] (h4_ t7 t27 t28 t29) ?_)))
  rintro a A ⟨t9,-⟩ ⟨t7,t27,t28,t29,-⟩
  have hVs:=BB.size
  have FB:Below XL8.heap.size XL8 XL8:=Below.refl _ _
  have FF0:=FF
  clear FF
  refine wp_seq ?_
  refine wi_ A (h5_ t7 t27 t28 t29 t9) (rc_ 1 (Cel.open_any (Frm.cellB p i) 320 (x i) XL8 ⟨(FL.cell i lti).on BB,FL.nil i lti⟩ (by omega)) fun e X10 hh=>?_)
  obtain ⟨v10,he,hk,hb⟩:=hh
  refine ⟨_,he,?_⟩
  have bQ:Below XL8.heap.size XL8 X10:=hb
  have FO:(X10.ownsRow XL8.heap.size 5 1 v10 (openN (Frm.cellB p i) 320) (bytesL (openN (Frm.cellB p i) 320) fun j=>(Frm.cellB p i) (2+j))):=own_base hk (FB).size
  replace FU:=(ownD_below FU bQ)
  replace FB:=(FB.trans (bQ.mono FB.size))
  replace BB:=BB.trans (bQ.mono BB.size)
  clear bQ
  refine rf_ [(10,v10),(11,.bool (openY (Frm.cellB p i) 320)),(12,.int .i64 ((openE (Frm.cellB p i) 320:Nat):Int))] (h4_ t7 t27 t28 t29) ?_
  rintro a A ⟨t10,t11,t12,-⟩ ⟨t7,t27,t28,t29,-⟩
  refine wp_seq (wp_seq ?_)
  by_cases hk0:openE (Frm.cellB p i) 320 ≠ 0
  ·refine wi_ A (h7_ t7 t27 t28 t29 t10 t11 t12) (rv_ 1 (.bool true) (fun a E=>execDec (execNeE (p:=openE (Frm.cellB p i) 320) (q:=0) rfl (E _) rfl) (decide_eq_true (by omega))) (rf_ [(40,.bool true)] (h5_ t7 t27 t28 t29 t12) ?_))
   rintro a A ⟨t40,-⟩ ⟨t7,t27,t28,t29,t12,-⟩
   refine wp_cond_true t40 ?_
   clear t40
   refine wp_seq ?_
   refine wi_ A (h5_ t7 t27 t28 t29 t12) (rg_ [(2,.slice none 0 0),(3,.int .i64 ((openE (Frm.cellB p i) 320:Nat):Int))] ?_)
   rintro a A ⟨t2,t3,-⟩
   have BW2:=BW.trans (BB.mono BW.size)
   have hE:paE p len=openE (Frm.cellB p i) 320:=pa_stop hj hL hky hk0 lti
   have hN:paN p len=0:=pa_no (by rw [hE]; first | exact hj | decide | exact hk0)
   refine wp_ret ?_
   repeat (first | with_reducible refine ret_in ?_ | with_reducible refine ret_then ?_)
   refine bodyPost_ret (results_tmp2 rfl _ _ _) A.2 ⟨⟨.slice none 0 0,fun _=>undef,?_,?_⟩,BW2⟩
   ·show Ending.returned (.tuple #[a.eval (.tmp 2),a.eval (.tmp 3)])=_
    rw [t2,t3]
    rw [hE]
   ·rw [hN]
    exact ⟨World.ownsRow_nil _ _ _ _,Fam.none _ _ _ _ _⟩
  refine wi_ A (h7_ t7 t27 t28 t29 t10 t11 t12) (rv_ 1 (.bool false) (fun a E=>execDec (execNeE (p:=openE (Frm.cellB p i) 320) (q:=0) rfl (E _) rfl) (decide_eq_false (by omega))) (rf_ [(40,.bool false)] (h6_ t7 t27 t28 t29 t10 t11) ?_))
  rintro a A ⟨t40,-⟩ ⟨t7,t27,t28,t29,t10,t11,-⟩
  refine wp_cond_false t40 (wp_skip ?_)
  clear t40
  refine wp_seq ?_
  by_cases hy:opY p i=true
  ·replace t11:a.eval (.tmp 11)=.bool true:=t11.trans (congrArg Value.bool hy)
   refine wi_ A (h6_ t7 t27 t28 t29 t10 t11) (rf_ [(42,.bool true)] (h5_ t7 t27 t28 t29 t10) ?_)
   rintro a A ⟨t42,-⟩ ⟨t7,t27,t28,t29,t10,-⟩
   refine wp_cond_true t42 ?_
   clear t42
   have ep:plY (opY p) (Frm.rK p len) (cY (opY p) i)=i:=plY_at hy lti
   have eL:paL p len (cY (opY p) i)=openN (Frm.cellB p i) 320:=by unfold paL; rw [ep]
   have eF:paF p len (cY (opY p) i)=fun j=>(Frm.cellB p i) (2+j):=by unfold paF; rw [ep]
   have FF1:(Fam X1.heap.size (cY (opY p) i+1) (updX y (cY (opY p) i) v10) (paL p len) (paF p len) X10):=FF0.add FB hVs (by rw [eL,eF]; exact FO)
   have hsl:=ownQ_shape FO
   clear FO FB
   obtain ⟨g45,egg45⟩:∃ z_:Nat,X10.heap.size=z_:=⟨_,rfl⟩
   refine wi_ A (h5_ t7 t27 t28 t29 t10) (rs_ 2 (fun a E=>?_))
   refine stepV rfl rfl (Cf.execBsL rfl (E _) (by obtain ⟨q1,q2,q3⟩:=hsl; exact ⟨q1,_,q2,q3⟩)) ⟨.slice (some ⟨g45,0,none⟩) 1 1,⟨_,rfl,by subst egg45; rfl⟩,fun X14_1 hX=>?_⟩
   have bQ:Below X10.heap.size X10 X14_1:=by subst hX egg45; exact (belNew X10 _)
   have Fg45:(X14_1.heap[g45]?=some (.cells #[v10] 24)):=by subst hX egg45; exact heapNew X10 _
   replace FU:=(ownD_below FU bQ)
   replace FF1:=(FF1.on bQ)
   replace BB:=BB.trans (bQ.mono BB.size)
   clear bQ hX egg45 E a
   refine rs_ 3 (fun a E=>?_)
   refine stepAppLB rfl rfl rfl (E _) (E _) FU Fg45 rfl (one25 hsl) (by have:=cY_le (Y:=opY p) (k:=i); omega) (BB).size fun v46 X14 own' gr=>⟨_,⟨_,rfl,rfl⟩,eqw ?_⟩
   obtain ⟨BB,FF1,FU1⟩:Below X1.heap.size X1 X14/\(Fam X1.heap.size (cY (opY p) i+1) (updX y (cY (opY p) i) v10) (paL p len) (paF p len) X14)/\(X14.ownsRow X1.heap.size 24 1 v46 (cY (opY p) i+1) (lL (updX y (cY (opY p) i) v10) (cY (opY p) i+1))):=⟨(BB).grown gr (BB).size (fun k hk=>(FU.lt k hk).1),(FF1.grown FU gr),(lL_upd y (cY (opY p) i) _ ▸ own')⟩
   clear FU Fg45 E a
   refine rf_ [(7,v46)] (h3_ t27 t28 t29) ?_
   rintro a A ⟨t7,-⟩ ⟨t27,t28,t29,-⟩
   rw [← cY_yes hy] at FU1 FF1
   refine wi_ A (h4_ t7 t27 t28 t29) (rv_ 0 (.int .i64 ((i+1:Nat):Int)) (fun a E=>execAd8 (p:=i) (q:=1) rfl (E _) rfl (by omega)) (rf_ [(29,.int .i64 ((i+1:Nat):Int))] (h3_ t7 t27 t28) ?_))
   rintro a A ⟨t29,-⟩ ⟨t7,t27,t28,-⟩
   exact ⟨⟨i+1,v46,updX y (cY (opY p) i) v10,lti,fe_on hky (Classical.not_not.1 hk0),A,t7,t27,t28,t29,BB,FU1,FF1⟩,by show Frm.rK p len - (intOf (a.eval (.tmp 29))).toNat < Frm.rK p len - (intOf (Act.eval _ (.tmp 29))).toNat; rw [t29,esi]; show Frm.rK p len - (i+1) < Frm.rK p len - i; omega⟩
  ·replace t11:a.eval (.tmp 11)=.bool false:=t11.trans (congrArg Value.bool ((Bool.not_eq_true _).mp hy))
   have FF1:(Fam X1.heap.size (cY (opY p) i) y (paL p len) (paF p len) X10):=FF0.on FB
   clear FO FB FF0
   refine wi_ A (h6_ t7 t27 t28 t29 t10 t11) (rf_ [(42,.bool false)] (h4_ t7 t27 t28 t29) ?_)
   rintro a A ⟨t42,-⟩ ⟨t7,t27,t28,t29,-⟩
   refine wp_cond_false t42 (wp_skip ?_)
   clear t42
   rw [← cY_no hy] at FU FF1
   refine wi_ A (h4_ t7 t27 t28 t29) (rv_ 0 (.int .i64 ((i+1:Nat):Int)) (fun a E=>execAd8 (p:=i) (q:=1) rfl (E _) rfl (by omega)) (rf_ [(29,.int .i64 ((i+1:Nat):Int))] (h3_ t7 t27 t28) ?_))
   rintro a A ⟨t29,-⟩ ⟨t7,t27,t28,-⟩
   exact ⟨⟨i+1,u,y,lti,fe_on hky (Classical.not_not.1 hk0),A,t7,t27,t28,t29,BB,FU,FF1⟩,by show Frm.rK p len - (intOf (a.eval (.tmp 29))).toNat < Frm.rK p len - (intOf (Act.eval _ (.tmp 29))).toNat; rw [t29,esi]; show Frm.rK p len - (i+1) < Frm.rK p len - i; omega⟩
 ·rw [decide_eq_false lti] at t30
  refine wp_cond_false t30 ?_
  refine wp_exit ?_
  first | with_reducible refine exit_in ?_ | with_reducible refine exit_then (exit_in ?_) | with_reducible refine exit_then (exit_then (exit_in ?_)) | refine exit_in ?_ | refine exit_then (exit_in ?_) | refine exit_then (exit_then (exit_in ?_))
  clear t30 esi
  have ei:i=Frm.rK p len:=by omega
  rw [ei] at FU FF hky
  have BW2:=BW.trans (BB.mono BW.size)
  have hE:paE p len=0:=pa_on hj hL hky
  have hN:paN p len=cY (opY p) (Frm.rK p len):=if_pos hE
  refine wp_seq ?_
  refine wi_ A (h4_ t7 t27 t28 t29) (rg_ [(2,u),(3,.int .i64 ((0:Nat):Int))] ?_)
  rintro a A ⟨t2,t3,-⟩
  refine wp_ret ?_
  refine bodyPost_ret (results_tmp2 rfl _ _ _) A.2 ⟨⟨u,y,?_,?_⟩,BW2⟩
  ·show Ending.returned (.tuple #[a.eval (.tmp 2),a.eval (.tmp 3)])=_
   rw [t2,t3]
   rw [hE]
  ·rw [hN]
   exact ⟨ownD_base FU BW.size,fam_base FF BW.size⟩
theorem pa_byte {p:Nat->Nat} {len:Nat} (hb:∀ j,j < len->p j < 256):∀ t,t < paN p len->∀ j,j < paL p len t->paF p len t j < 256:=fun t ht j hj=>by
 unfold paN at ht
 split at ht
 ·refine (Frm.rk_facts hb).2 _ _ (plY_lt ht).1 ?_
  have:=openN_le (c:=Frm.cellB p (plY (opY p) (Frm.rK p len) t)) (l:=320)
  have h9:j < openN (Frm.cellB p (plY (opY p) (Frm.rK p len) t)) 320:=hj
  omega
 ·exact absurd ht (Nat.not_lt_zero t)
theorem pa_len (p:Nat->Nat) (len t:Nat):paL p len t<=48:=openN_le
theorem pa_many {p:Nat->Nat} {len:Nat} (hb:∀ j,j < len->p j < 256):paN p len<=256:=by
 unfold paN
 split
 ·exact Nat.le_trans cY_le (Frm.rk_facts hb).1
 ·exact Nat.zero_le _
theorem ppay25 (p:Nat->Nat) (len:Nat) (v:Value) (V:World) (hv:SliceN V v len p) (hl:len<=140737488351232) (hG:Frm.Rules V) :
  Calls Tryz.prog 9 #[v] V fun e w'=>(∃ r y,e=.returned (.tuple #[r,.int .i64 ((paE p len:Nat):Int)])/\Ls w' r (paN p len) y (paL p len) (paF p len))/\Below V.heap.size V w':=
 (ppayF p len v V hv hl hG).mono fun _ _ ⟨⟨r,y,he,h1,h2⟩,hb⟩=>⟨⟨r,y,he,ls_fam h1 h2 (pa_byte hv.bytes) (fun t _=>by have:=pa_len p len t; omega)⟩,hb⟩
end Go.Proofs.YtjckkdjldnobmaaGreatDoor.Cas

namespace Go.Proofs.YtjckkdjldnobmaaGreatDoor.Cas
open Go.RowKit Gf8 Aes By8 Cel Cf Tap Drw Dro Oni Rou
/- CascadeEntries. Written by tools/mkC8e.py. -/
def cw (f g:Nat->Nat) (i:Nat):Nat->Nat:=if i=0 then f else g
section
variable {o:Oper} {a:Act} {w:World}
end
end Go.Proofs.YtjckkdjldnobmaaGreatDoor.Cas
