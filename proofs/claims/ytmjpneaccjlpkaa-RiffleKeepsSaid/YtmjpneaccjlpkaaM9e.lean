import Derived.Test.YtmjpneaccjlpkaaP9h
import Derived.Test.YtmjpneaccjlpkaaF9b
import Derived.Test.YtmjpneaccjlpkaaN9b
namespace Go.Proofs.Ytmjpneaccjlpkaa.Prm
open Go.RowKit Gf8 Aes By8 Cel Cf Tap Drw
/- The law's three; lists of strings; PermGroup over any Impl, ImplS. Written by tools/mkP9k.py. -/
structure SliceS (w:World) (v:Value) (len:Nat) (s:Nat->ByteArray):Prop where
 shape:∃ a cap,v=.slice a len cap/\len<=cap/\cap<=maxLen/\(0 < len->∃ b off,a=some ⟨b,off,none⟩/\b < w.heap.size/\∀ j,j < len->w.cell? ⟨b,off+j,none⟩=some (.string (s j)))
theorem SliceS.on {w w':World} {v:Value} {len:Nat} {s:Nat->ByteArray} (h:SliceS w v len s) (hb:Below w.heap.size w w'):SliceS w' v len s:=by
 obtain ⟨a,cap,e,h1,h2,h3⟩:=h.shape
 refine ⟨⟨a,cap,e,h1,h2,fun h0=>?_⟩⟩
 obtain ⟨b,off,e1,e2,e3⟩:=h3 h0
 exact ⟨b,off,e1,Nat.lt_of_lt_of_le e2 hb.size,fun j hj=>by rw [cell_below hb e2]; exact e3 j hj⟩
theorem SliceS.shp {w:World} {v:Value} {len:Nat} {s:Nat->ByteArray} (h:SliceS w v len s):∃ g c,v=.slice g len c:=by
 obtain ⟨a,c,e,_⟩:=h.shape
 exact ⟨a,c,e⟩
def strsL (n:Nat) (s:Nat->ByteArray):List Value:=(List.range n).map fun j=>.string (s j)
theorem own_strs {W:World} {B n:Nat} {v:Value} {s:Nat->ByteArray} (h:W.ownsRow B 9 1 v n (strsL n s)):SliceS W v n s:=by
 rcases h.2 with ⟨rfl,rfl⟩ | ⟨g,cap,cur,rfl,_,hg,h1,h2,h3,h4⟩
 ·exact ⟨⟨_,_,rfl,Nat.le_refl _,Nat.zero_le _,fun h=>by omega⟩⟩
 ·refine ⟨⟨_,_,rfl,h1,h2,fun _=>⟨g,0,rfl,(Array.getElem?_eq_some_iff.1 hg).1,fun j hj=>?_⟩⟩⟩
  rw [cell_of_row _ _ _ _ _ _ hg,Nat.zero_add,← Array.getElem?_toList]
  have h5:(cur.toList.take (n * 1))[j]?=some (.string (s j)):=by rw [h4]; simp [strsL,hj]
  rw [List.getElem?_take_of_lt (by omega)] at h5
  exact h5
section
variable {o:Oper} {a:Act} {w:World}
theorem execLenS {x:Operand} {v:Value} {len:Nat} (ho:o.op=.call { callee:=.builtin .len,args:=#[x],argTypes:=#[32] }) (hx:a.eval x=v) (hs:∃ g c,v=.slice g len c):(execOp a.eval o).run Try.prog w=.ok (.value (.int .i64 (len:Int))) w:=by
 obtain ⟨g,c,rfl⟩:=hs
 unfold execOp
 simp only [ho,resolve,invoke,builtin,List.map_toArray,List.map_cons,List.map_nil,hx]
 simp [go_sem]
theorem execIdxS {x i:Operand} {b off n cap k:Nat} (ho:o.op=.indexAddr 32 x i) (hx:a.eval x=.slice (some ⟨b,off,none⟩) n cap) (hi:a.eval i=.int .i64 (k:Int)) (hk:k < n):(execOp a.eval o).run Try.prog w=.ok (.value (.pointer (some ⟨b,off+k,none⟩))) w:=by
 have h1:(k:Int) < n:=by omega
 unfold execOp
 simp only [ho,hx,hi]
 simp [go_sem,h1,Addr.add_mid]
end
structure ImplS:Prop where
 applyS:∀ (f:Nat->Int) (s:Nat->ByteArray) (n m:Nat) (v u:Value) (V:World),SliceI V v n f->n<=17592186044416->SliceS V u m s->m<=17592186044416->
  Calls Try.prog 27 #[v,u] V fun e w'=>∃ r,e=.returned (.tuple #[r,.int .i64 ((apE f n m:Nat):Int)])/\w'.ownsRow V.heap.size 9 1 r (zl (apE f n m) n) (strsL (zl (apE f n m) n) (fun j=>s (f j).toNat))/\Below V.heap.size V w'
end Go.Proofs.Ytmjpneaccjlpkaa.Prm

namespace Go.Proofs.Ytmjpneaccjlpkaa.Prm
open Go.RowKit Gf8 Aes By8 Cel Cf Tap Drw
/- Package perm as it landed: taken and Apply of strings; what the package keeps. Written by tools/mkM9e.py. -/
theorem strsL_len (n:Nat) (s:Nat->ByteArray):(strsL n s).length=n:=by simp [strsL]
theorem strsL_get {n j:Nat} {s:Nat->ByteArray} (h:j < n):(strsL n s)[j]?=some (.string (s j)):=by simp [strsL,h]
theorem strsL_congr {n:Nat} {f g:Nat->ByteArray} (h:∀ j,j < n->f j=g j):strsL n f=strsL n g:=by
 apply List.ext_getElem?
 intro j
 by_cases hj:j < n
 ·rw [strsL_get hj,strsL_get hj,h j hj]
 ·rw [List.getElem?_eq_none (by rw [strsL_len]; omega),List.getElem?_eq_none (by rw [strsL_len]; omega)]
set_option maxRecDepth 100000 in
set_option maxRecDepth 100000 in
theorem infoS:∃ i,Try.prog.info? 9=some i/\i.zero=some (.string ByteArray.empty)/\i.size=1/\i.bytes=16:=⟨_,rfl,by kernel_rfl,by kernel_rfl,by kernel_rfl⟩
section
variable {o:Oper} {a:Act} {w:World}
theorem execMkS {x y:Operand} {n:Nat} (ho:o.op=.makeSlice 32 x y) (hx:a.eval x=.int .i64 (n:Int)) (hy:a.eval y=.int .i64 (n:Int)) (hn:n<=17592186044416):(execOp a.eval o).run Try.prog w=.ok (.value (.slice (some ⟨w.heap.size,0,none⟩) n n)) (w.alloc (.cells (madeCells #[.string ByteArray.empty] n) 9)):=by
 obtain ⟨i,h1,h2,h3,h4⟩:=infoS
 have h:=run_make (P:=Try.prog) w 32 9 i (.string ByteArray.empty) Try.underlying32 h1 h2 .i64 .i64 (n:Int) (n:Int) (by omega) (by omega) (by rw [h4]; omega) (by omega)
 rw [h3,Int.toNat_natCast,Nat.mul_one] at h
 unfold execOp
 simp only [ho,hx,hy,Sem.run_bind,h,Result.andThen_ok,Sem.run_pure]
 rfl
theorem execLdS {x:Operand} {b f:Nat} {s:ByteArray} (ho:o.op=.load 9 x) (hx:a.eval x=.pointer (some ⟨b,f,none⟩)) (hc:w.cell? ⟨b,f,none⟩=some (.string s)):(execOp a.eval o).run Try.prog w=.ok (.value (.string s)) w:=by
 unfold execOp
 simp only [ho,hx]
 simp [go_sem,hc]
theorem execStS {x y:Operand} {b k:Nat} {s:ByteArray} {old:Value} (ho:o.op=.store 9 x y) (hx:a.eval x=.pointer (some ⟨b,k,none⟩)) (hy:a.eval y=.string s) (hc:w.cell? ⟨b,k,none⟩=some old) (hf:w.frozen? ⟨b,k,none⟩=false):(execOp a.eval o).run Try.prog w=.ok .skip (w.setCell ⟨b,k,none⟩ (.string s)):=by
 unfold execOp
 simp only [ho,hx,hy]
 simp [go_sem,hc,hf]
end
theorem own_mkS (W:World) (n:Nat) (s:Nat->ByteArray) (hn:n<=17592186044416) (hs:∀ j,j < n->s j=ByteArray.empty):(W.alloc (.cells (madeCells #[.string ByteArray.empty] n) 9)).ownsRow W.heap.size 9 1 (.slice (some ⟨W.heap.size,0,none⟩) n n) n (strsL n s):=by
 refine ⟨by rw [strsL_len,Nat.mul_one],Or.inr ⟨_,_,_,rfl,Nat.le_refl _,heapNew W _,Nat.le_refl _,by unfold maxLen; omega,by simp [madeCells],?_⟩⟩
 apply List.ext_getElem?
 intro j
 by_cases h:j < n
 ·simp [madeCells,strsL,h,hs j h,Nat.mod_one]
 ·simp [madeCells,strsL,h]
theorem own_cellS {W:World} {B n g cap j:Nat} {s:Nat->ByteArray} (h:W.ownsRow B 9 1 (.slice (some ⟨g,0,none⟩) n cap) n (strsL n s)) (hj:j < n):W.cell? ⟨g,0+j,none⟩=some (.string (s j))/\W.frozen? ⟨g,0+j,none⟩=false:=by
 rw [Nat.zero_add]
 rcases h.2 with ⟨e,_⟩ | ⟨g',cap',cur,e,_,hg,h1,h2,h3,h4⟩
 ·cases e
 ·injection e with e1 _ _
  injection e1 with e1
  injection e1 with e1 _ _
  subst e1
  refine ⟨?_,frozen4 hg⟩
  rw [cell_of_row _ _ _ _ _ _ hg,← Array.getElem?_toList]
  have h5:(cur.toList.take (n * 1))[j]?=some (.string (s j)):=by rw [h4]; exact strsL_get hj
  rw [List.getElem?_take_of_lt (by omega)] at h5
  exact h5
theorem own_fillS {W:World} {B n g cap i:Nat} {F:Nat->ByteArray} {z:ByteArray} (h:W.ownsRow B 9 1 (.slice (some ⟨g,0,none⟩) n cap) n (strsL n (fun j=>if j < i then F j else ByteArray.empty))) (ez:z=F i):(W.setCell ⟨g,0+i,none⟩ (.string z)).ownsRow B 9 1 (.slice (some ⟨g,0,none⟩) n cap) n (strsL n (fun j=>if j < (i+1) then F j else ByteArray.empty)):=by
 rw [Nat.zero_add]
 refine ⟨by rw [strsL_len,Nat.mul_one],?_⟩
 rcases h.2 with ⟨e,_⟩ | ⟨g',cap',cur,e,hB,hg,h1,h2,h3,h4⟩
 ·cases e
 ·injection e with e1 e2 e3
  injection e1 with e1
  injection e1 with e1 _ _
  subst e1
  subst e3
  refine Or.inr ⟨g,cap,cur.setIfInBounds i (.string z),rfl,hB,heap4 _ hg,h1,h2,by simpa using h3,?_⟩
  apply List.ext_getElem?
  intro j
  by_cases hj:j < n
  ·have h5:(cur.toList.take (n * 1))[j]?=(strsL n (fun j=>if j < i then F j else ByteArray.empty))[j]?:=by rw [h4]
   rw [List.getElem?_take_of_lt (by omega),strsL_get hj] at h5
   rw [List.getElem?_take_of_lt (by omega),strsL_get hj,Array.getElem?_toList,Array.getElem?_setIfInBounds]
   by_cases hk:i=j
   ·subst hk
    rw [if_pos rfl,if_pos (by simp at h3; omega),if_pos (by omega),ez]
   ·rw [if_neg hk,← Array.getElem?_toList,h5]
    by_cases q2:j < i
    ·rw [if_pos q2,if_pos (by omega)]
    ·rw [if_neg q2,if_neg (by omega)]
  ·rw [List.getElem?_eq_none (by simp; omega),List.getElem?_eq_none (by rw [strsL_len]; omega)]
set_option maxRecDepth 100000 in
set_option maxHeartbeats 4000000 in
theorem ptakenS (f:Nat->Int) (g:Nat->ByteArray) (n m:Nat) (v u0:Value) (V:World) (hv:SliceI V v n f) (hn17:n<=17592186044416) (hu:SliceS V u0 m g) (hfl:∀ i,i < n->0<=f i/\f i < m) :
  Calls Try.prog 54 #[v,u0] V fun e w'=>∃ r,e=.returned r/\w'.ownsRow V.heap.size 9 1 r n (strsL n (fun j=>g (f j).toNat))/\Below V.heap.size V w':=by
 obtain ⟨ia,ic,rfl,-,-,hsh⟩:=id hv.shape
 obtain ⟨ja,jc,rfl,-,-,hsj⟩:=id hu.shape
 have FI:=hv
 have FJ:=hu
 go_enter Try.func54,Try.ntmps54
 refine wp_seq ?_
 refine wo_ 27 [(0,.slice ia n ic),(1,.slice ja m jc)] ?_
 rintro a A ⟨t0,t1,-⟩
 refine wi_ A (h2_ t0 t1) (rf_ [] (h2_ t0 t1) ?_)
 rintro a A - ⟨t0,t1,-⟩
 have BW:Below V.heap.size V V:=Below.refl _ _
 have BB:=BW
 refine wp_seq ?_
 obtain ⟨g5,egg5⟩:∃ z_:Nat,V.heap.size=z_:=⟨_,rfl⟩
 refine wi_ A (h2_ t0 t1) (rv_ 1 (.int .i64 ((n:Nat):Int)) (fun a e=>execLenI (len:=n) rfl (e _) ((FI.on BB)).shp) (rs_ 2 (fun a e=>?_)))
 refine stepV rfl rfl (execMkS rfl (e _) (e _) hn17) ⟨.slice (some ⟨g5,0,none⟩) n n,⟨_,rfl,by subst egg5; rfl⟩,fun X1 hX=>?_⟩
 have bQ:Below V.heap.size V X1:=by subst hX egg5; exact (belNew V _)
 have FO:(X1.ownsRow V.heap.size 9 1 (.slice (some ⟨g5,0,none⟩) n n) (n) (strsL (n) (fun j=>if j < 0 then g (f j).toNat else ByteArray.empty))):=by subst hX egg5; exact ownD_base (own_mkS V n _ hn17 (fun j_ _=>if_neg (Nat.not_lt_zero _))) (BB).size
 have Fg:(V.heap.size<=g5):=by subst hX egg5; exact (BB).size
 replace BB:=BB.trans (bQ.mono BB.size)
 clear bQ hX egg5 e a
 refine rf_ [(5,.slice (some ⟨g5,0,none⟩) n n)] (h2_ t0 t1) ?_
 rintro a A ⟨t5,-⟩ ⟨t0,t1,-⟩
 refine wp_seq (wp_seq ?_)
 refine wi_ A (h3_ t0 t1 t5) (rv_ 1 (.int .i64 ((n:Nat):Int)) (fun a e=>execLenI (len:=n) rfl (e _) ((FI.on BB)).shp) (rf_ [(11,.slice ia n ic),(12,.int .i64 ((n:Nat):Int)),(13,.int .i64 ((0:Nat):Int))] (h2_ t1 t5) ?_))
 rintro a A ⟨t11,t12,t13,-⟩ ⟨t1,t5,-⟩
 refine wp_block ?_
 refine wp_loop (fun a W=>∃ (i:Nat),i<=n/\(a.tmps.size=27/\a.defers=[])/\a.eval (.tmp 1)=.slice ja m jc/\a.eval (.tmp 5)=.slice (some ⟨g5,0,none⟩) n n/\a.eval (.tmp 11)=.slice ia n ic/\a.eval (.tmp 12)=.int .i64 ((n:Nat):Int)/\a.eval (.tmp 13)=.int .i64 ((i:Nat):Int)/\Below V.heap.size V W/\(W.ownsRow V.heap.size 9 1 (.slice (some ⟨g5,0,none⟩) n n) (n) (strsL (n) (fun j=>if j < i then g (f j).toNat else ByteArray.empty)))) (fun a _=>n - (intOf (a.eval (.tmp 13))).toNat) ⟨0,Nat.zero_le _,A,t1,t5,t11,t12,t13,BB,FO⟩ ?_
 rintro a XL3 ⟨i,hi,A,t1,t5,t11,t12,t13,BB,FO⟩
 have es:=t13
 refine wp_seq ?_
 refine wi_ A (h5_ t1 t5 t11 t12 t13) (rv_ 0 (.bool (decide (i < n))) (fun a e=>execLtW (p:=i) (q:=n) rfl (e _) (e _)) (rf_ [(14,.bool (decide (i < n)))] (h5_ t1 t5 t11 t12 t13) ?_))
 rintro a A ⟨t14,-⟩ ⟨t1,t5,t11,t12,t13,-⟩
 refine wp_seq ?_
 by_cases hlt:i < n
 ·rw [decide_eq_true hlt] at t14
  refine wp_cond_true t14 (wp_skip ?_)
  clear t14
  refine wp_seq (wp_block ?_)
  obtain ⟨w,ew⟩:∃ w:Nat,f i=w:=⟨(f i).toNat,by have:=hfl i hlt; omega⟩
  have hw:w < m:=by have:=hfl i hlt; omega
  obtain ⟨ib,io,rfl,hib,hcell⟩:=hsh (by omega)
  have cI:∀ k,k < n->∀ X,Below V.heap.size V X->X.cell? ⟨ib,io+k,none⟩=some (.int .i64 (f k)):=fun k hk X hX=>by rw [cell_below hX hib]; exact hcell k hk
  have cW:∀ X,Below V.heap.size V X->X.cell? ⟨ib,io+i,none⟩=some (.int .i64 ((w:Nat):Int)):=fun X hX=>by rw [cI i hlt X hX,ew]
  obtain ⟨jb,jo,rfl,hjb,hcelj⟩:=hsj (by omega)
  have cJ:∀ X,Below V.heap.size V X->X.cell? ⟨jb,jo+w,none⟩=some (.string (g (f i).toNat)):=fun X hX=>by rw [cell_below hX hjb,hcelj w hw,ew]; rfl
  refine wp_seq ?_
  refine wi_ A (h5_ t1 t5 t11 t12 t13) (rv_ 1 (.pointer (some ⟨ib,io+i,none⟩)) (fun a e=>execIdxN (k:=i) rfl (e _) (e _) hlt) (rv_ 2 (.int .i64 ((w:Nat):Int)) (fun a e=>execLd3 rfl (e _) (cW XL3 BB)) (rf_ [(6,.int .i64 ((i:Nat):Int)),(7,.int .i64 ((w:Nat):Int))] (h5_ t1 t5 t11 t12 t13) ?_)))
  rintro a A ⟨t6,t7,-⟩ ⟨t1,t5,t11,t12,t13,-⟩
  refine wi_ A (h7_ t1 t5 t11 t12 t13 t6 t7) (rv_ 4 (.pointer (some ⟨jb,jo+w,none⟩)) (fun a e=>execIdxS (k:=w) rfl (e _) (e _) hw) (rv_ 5 (.string (g (f i).toNat)) (fun a e=>execLdS rfl (e _) (cJ XL3 BB)) (rv_ 6 (.pointer (some ⟨g5,0+i,none⟩)) (fun a e=>execIdxS (k:=i) rfl (e _) (e _) hlt) (rs_ 7 (fun a e=>?_)))))
  obtain ⟨hc_,hf_⟩:=own_cellS FO hlt
  refine stepS rfl rfl (execStS rfl (e _) (e _) hc_ hf_) ⟨_,⟨_,rfl,rfl⟩,fun X5 hX=>?_⟩
  obtain ⟨BB,FO2⟩:Below V.heap.size V X5/\(X5.ownsRow V.heap.size 9 1 (.slice (some ⟨g5,0,none⟩) n n) (n) (strsL (n) (fun j=>if j < (i+1) then g (f j).toNat else ByteArray.empty))):=by subst hX; exact ⟨(BB).setCell Fg _,own_fillS (F:=fun j=>g (f j).toNat) FO rfl⟩
  clear FO hX e a
  refine rf_ [] (h5_ t1 t5 t11 t12 t13) ?_
  rintro a A - ⟨t1,t5,t11,t12,t13,-⟩
  refine wi_ A (h5_ t1 t5 t11 t12 t13) (rv_ 0 (.int .i64 ((i+1:Nat):Int)) (fun a e=>execAd8 (p:=i) (q:=1) rfl (e _) rfl (by omega)) (rf_ [(13,.int .i64 ((i+1:Nat):Int))] (h4_ t1 t5 t11 t12) ?_))
  rintro a A ⟨t13,-⟩ ⟨t1,t5,t11,t12,-⟩
  exact ⟨⟨i+1,hlt,A,t1,t5,t11,t12,t13,BB,FO2⟩,by show n - (intOf (a.eval (.tmp 13))).toNat < n - (intOf (Act.eval _ (.tmp 13))).toNat; rw [t13,es]; show n - (i+1) < n - i; omega⟩
 ·rw [decide_eq_false hlt] at t14
  refine wp_cond_false t14 ?_
  refine wp_exit ?_
  first | with_reducible refine exit_in ?_ | with_reducible refine exit_then (exit_in ?_) | with_reducible refine exit_then (exit_then (exit_in ?_)) | refine exit_in ?_ | refine exit_then (exit_in ?_) | refine exit_then (exit_then (exit_in ?_))
  clear t14 es
  have hin:i=n:=by omega
  rw [hin] at FO
  rw [strsL_congr (g:=fun j=>g (f j).toNat) (fun j hj=>if_pos hj)] at FO
  refine wp_seq ?_
  refine wi_ A (h5_ t1 t5 t11 t12 t13) (rg_ [(4,.slice (some ⟨g5,0,none⟩) n n)] ?_)
  rintro a A ⟨t4,-⟩
  refine wp_ret ?_
  refine bodyPost_ret (results_tmp rfl _ _ _) A.2 ⟨_,?_,FO,BB⟩
  show Ending.returned (a.eval (.tmp 4))=_
  rw [t4]
set_option maxRecDepth 100000 in
set_option maxHeartbeats 4000000 in
theorem papplyS (f:Nat->Int) (g:Nat->ByteArray) (n m:Nat) (v u0:Value) (V:World) (hv:SliceI V v n f) (hn17:n<=17592186044416) (hu:SliceS V u0 m g) :
  Calls Try.prog 27 #[v,u0] V fun e w'=>∃ r,e=.returned (.tuple #[r,.int .i64 ((apE f n m:Nat):Int)])/\w'.ownsRow V.heap.size 9 1 r (zl (apE f n m) n) (strsL (zl (apE f n m) n) (fun j=>g (f j).toNat))/\Below V.heap.size V w':=by
 have FI:=hv
 have FJ:=hu
 go_enter Try.func27,Try.ntmps27
 refine wp_seq ?_
 refine wp_region_sqK 20 [(0,4),(1,5)] (fun i_=>match i_ with | 0=>.slice none 0 0 | 1=>.int .i64 ((0:Nat):Int) | _=>undef) rfl (by kernel_rfl) (by decide) (by decide) ?_ ?_
 ·intro i_ hi_ a hf hv hn
  match i_,hi_ with
  | 0,_=>exact stepV rfl rfl (execAsgB rfl rfl) ⟨⟨_,rfl,rfl⟩,rfl⟩
  | 1,_=>exact stepV rfl rfl (execAsgB rfl rfl) ⟨⟨_,rfl,rfl⟩,rfl⟩
  | k_+2,h_=>exact absurd h_ (by simp)
 intro a h1 h2 h3 h4
 have t0:a.eval (.tmp 0)=v:=(h3 0 (by decide)).trans rfl
 have t1:a.eval (.tmp 1)=u0:=(h3 1 (by decide)).trans rfl
 have A:a.tmps.size=20/\a.defers=[]:=⟨h1,h2⟩
 have BW:Below V.heap.size V V:=Below.refl _ _
 clear h1 h2 h3 h4
 have BB:=BW
 refine wp_seq (wp_seq ?_)
 by_cases h3:n=m
 ·refine wp_region_sq (σ:=Unit) 20 [(0,7),(1,8),(2,9),(3,10),(4,11)] (fun j_ s X=>match j_ with | 0=>Below V.heap.size V X | 1=>Below V.heap.size V X | 2=>Below V.heap.size V X | 3=>Below V.heap.size V X | 4=>Below V.heap.size V X | _=>Below V.heap.size V X) (fun s=>fun i_=>match i_ with | 0=>v | 1=>.int .i64 ((n:Nat):Int) | 2=>u0 | 3=>.int .i64 ((m:Nat):Int) | 4=>.bool false | _=>undef) () A.1 (by kernel_rfl) (by decide) (by decide) (BB) ?_ ?_
  ·intro i_ hi_ s a X hf hv hn hS
   match i_,hi_ with
   | 0,_=>exact stepV rfl rfl (execMvB rfl ((hf 0 (by decide)).trans t0)) ⟨s,⟨_,rfl,rfl⟩,hS,fun _ _=>rfl⟩
   | 1,_=>exact stepV rfl rfl (execLenI (len:=n) rfl (hv 0 (by omega) _ rfl _ rfl) ((FI.on hS)).shp) ⟨s,⟨_,rfl,rfl⟩,hS,fun _ _=>rfl⟩
   | 2,_=>exact stepV rfl rfl (execMvB rfl ((hf 1 (by decide)).trans t1)) ⟨s,⟨_,rfl,rfl⟩,hS,fun _ _=>rfl⟩
   | 3,_=>exact stepV rfl rfl (execLenS (len:=m) rfl (hv 2 (by omega) _ rfl _ rfl) (FJ.shp)) ⟨s,⟨_,rfl,rfl⟩,hS,fun _ _=>rfl⟩
   | 4,_=>exact stepV rfl rfl (execDec (execNeN (p:=n) (q:=m) rfl (hv 1 (by omega) _ rfl _ rfl) (hv 3 (by omega) _ rfl _ rfl)) (decide_eq_false (by omega))) ⟨s,⟨_,rfl,rfl⟩,hS,fun _ _=>rfl⟩
   | k_+5,h_=>exact absurd h_ (by simp)
  rintro _ a X1 h1 h2 h3 h4 hS
  clear BB
  replace hS:Below V.heap.size V X1:=hS
  have BB:=hS
  clear hS
  replace t0:=(h3 0 (by decide)).trans t0
  replace t1:=(h3 1 (by decide)).trans t1
  have t11:a.eval (.tmp 11)=.bool false:=h4 4 _ rfl _ rfl
  replace A:=(⟨h1,h2.trans A.2⟩:a.tmps.size=20/\a.defers=[])
  clear h1 h2 h3 h4
  refine wp_cond_false t11 (wp_skip ?_)
  clear t11
  refine wp_seq (wp_seq ?_)
  refine wp_region_sq (σ:=Unit) 20 [(0,12),(1,13),(2,6)] (fun j_ s X=>match j_ with | 0=>Below V.heap.size V X | 1=>Below V.heap.size V X | 2=>Below V.heap.size V X | _=>Below V.heap.size V X) (fun s=>fun i_=>match i_ with | 0=>v | 1=>.int .i64 ((pE f n:Nat):Int) | 2=>.int .i64 ((pE f n:Nat):Int) | _=>undef) () A.1 (by kernel_rfl) (by decide) (by decide) (BB) ?_ ?_
  ·intro i_ hi_ s a X hf hv hn hS
   match i_,hi_ with
   | 0,_=>exact stepV rfl rfl (execMvB rfl ((hf 0 (by decide)).trans t0)) ⟨s,⟨_,rfl,rfl⟩,hS,fun _ _=>rfl⟩
   | 1,_=>exact stepC rfl rfl (execCall1 Try.func17 (by kernel_rfl) (by kernel_rfl) rfl (hv 0 (by omega) _ rfl _ rfl)) (pcheck f n _ X (FI.on hS) hn17) fun e w' hh=>⟨_,hh.1,s,⟨_,rfl,rfl⟩,(hS).trans ((hh.2).mono (hS).size),fun _ _=>rfl⟩
   | 2,_=>exact stepV rfl rfl (execAsgB rfl (hv 1 (by omega) _ rfl _ rfl)) ⟨s,⟨_,rfl,rfl⟩,hS,fun _ _=>rfl⟩
   | k_+3,h_=>exact absurd h_ (by simp)
  rintro _ a X3 h1 h2 h3 h4 hS
  clear BB
  replace hS:Below V.heap.size V X3:=hS
  have BB:=hS
  clear hS
  replace t0:=(h3 0 (by decide)).trans t0
  replace t1:=(h3 1 (by decide)).trans t1
  have t6:a.eval (.tmp 6)=.int .i64 ((pE f n:Nat):Int):=h4 2 _ rfl _ rfl
  replace A:=(⟨h1,h2.trans A.2⟩:a.tmps.size=20/\a.defers=[])
  clear h1 h2 h3 h4
  refine wp_seq ?_
  by_cases h1:okQ f n n=true
  ·refine wp_region_sq (σ:=Unit) 20 [(0,14),(1,15)] (fun j_ s X=>match j_ with | 0=>Below V.heap.size V X | 1=>Below V.heap.size V X | _=>Below V.heap.size V X) (fun s=>fun i_=>match i_ with | 0=>.int .i64 ((pE f n:Nat):Int) | 1=>.bool false | _=>undef) () A.1 (by kernel_rfl) (by decide) (by decide) (BB) ?_ ?_
   ·intro i_ hi_ s a X hf hv hn hS
    match i_,hi_ with
    | 0,_=>exact stepV rfl rfl (execMvB rfl ((hf 6 (by decide)).trans t6)) ⟨s,⟨_,rfl,rfl⟩,hS,fun _ _=>rfl⟩
    | 1,_=>exact stepV rfl rfl (execDec (execNeE (p:=pE f n) (q:=0) rfl (hv 0 (by omega) _ rfl _ rfl) rfl) (decide_eq_false (by have:=pE_ok h1; omega))) ⟨s,⟨_,rfl,rfl⟩,hS,fun _ _=>rfl⟩
    | k_+2,h_=>exact absurd h_ (by simp)
   rintro _ a X4 h1 h2 h3 h4 hS
   clear BB
   replace hS:Below V.heap.size V X4:=hS
   have BB:=hS
   clear hS
   replace t0:=(h3 0 (by decide)).trans t0
   replace t1:=(h3 1 (by decide)).trans t1
   have t15:a.eval (.tmp 15)=.bool false:=h4 1 _ rfl _ rfl
   replace A:=(⟨h1,h2.trans A.2⟩:a.tmps.size=20/\a.defers=[])
   clear h1 h2 h3 h4
   clear t6
   refine wp_cond_false t15 (wp_skip ?_)
   clear t15
   have hfl:∀ i,i < n->0<=f i/\f i < m:=fun i hi=>by have:=(okQ_iff.1 h1).1 i hi; omega
   refine wp_seq ?_
   refine wp_region_sq (σ:=Value) 20 [(0,17),(1,18),(2,19),(3,4),(4,5)] (fun j_ s X=>match j_ with | 0=>Below V.heap.size V X | 1=>Below V.heap.size V X | 2=>Below V.heap.size V X | 3=>Below V.heap.size V X/\(X.ownsRow V.heap.size 9 1 s (n) (strsL (n) (fun j=>g (f j).toNat))) | 4=>Below V.heap.size V X/\(X.ownsRow V.heap.size 9 1 s (n) (strsL (n) (fun j=>g (f j).toNat))) | _=>Below V.heap.size V X/\(X.ownsRow V.heap.size 9 1 s (n) (strsL (n) (fun j=>g (f j).toNat)))) (fun s=>fun i_=>match i_ with | 0=>v | 1=>u0 | 2=>s | 3=>s | 4=>.int .i64 ((0:Nat):Int) | _=>undef) undef A.1 (by kernel_rfl) (by decide) (by decide) (BB) ?_ ?_
   ·intro i_ hi_ s a X hf hv hn hS
    match i_,hi_ with
    | 0,_=>exact stepV rfl rfl (execMvB rfl ((hf 0 (by decide)).trans t0)) ⟨s,⟨_,rfl,rfl⟩,hS,fun _ _=>rfl⟩
    | 1,_=>exact stepV rfl rfl (execMvB rfl ((hf 1 (by decide)).trans t1)) ⟨s,⟨_,rfl,rfl⟩,hS,fun _ _=>rfl⟩
    | 2,_=>
     refine stepC rfl rfl (execCall2 Try.func54 (by kernel_rfl) (by kernel_rfl) rfl (hv 0 (by omega) _ rfl _ rfl) (hv 1 (by omega) _ rfl _ rfl)) (ptakenS f g n m _ _ X (FI.on hS) hn17 (FJ.on hS) hfl) fun e w' hh=>?_
     obtain ⟨r_,he,hk,hb⟩:=hh
     refine ⟨_,he,r_,⟨_,rfl,rfl⟩,⟨(hS).trans ((hb).mono (hS).size),ownD_base hk (hS).size⟩,fun i hi=>?_⟩
     match i,hi with
     | 0,_=>rfl
     | 1,_=>rfl
     | n_+2,h_=>omega
    | 3,_=>exact stepV rfl rfl (execAsgB rfl (hv 2 (by omega) _ rfl _ rfl)) ⟨s,⟨_,rfl,rfl⟩,hS,fun _ _=>rfl⟩
    | 4,_=>exact stepV rfl rfl (execAsgB rfl rfl) ⟨s,⟨_,rfl,rfl⟩,hS,fun _ _=>rfl⟩
    | k_+5,h_=>exact absurd h_ (by simp)
   rintro r9 a X6 h1 h2 h3 h4 hS
   clear BB
   replace hS:Below V.heap.size V X6/\(X6.ownsRow V.heap.size 9 1 r9 (n) (strsL (n) (fun j=>g (f j).toNat))):=hS
   obtain ⟨BB,FO⟩:=hS
   have t4:a.eval (.tmp 4)=r9:=h4 3 _ rfl _ rfl
   have t5:a.eval (.tmp 5)=.int .i64 ((0:Nat):Int):=h4 4 _ rfl _ rfl
   replace A:=(⟨h1,h2.trans A.2⟩:a.tmps.size=20/\a.defers=[])
   clear h1 h2 h3 h4
   clear t0 t1
   have hE:apE f n m=0:=if_pos ⟨pE_ok h1,h3⟩
   rw [hE,zl_ok]
   refine wp_ret ?_
   refine bodyPost_ret (results_tmp2 rfl _ _ _) A.2 ⟨_,?_,FO,BB⟩
   show Ending.returned (.tuple #[a.eval (.tmp 4),a.eval (.tmp 5)])=_
   rw [t4,t5]
  ·refine wp_region_sq (σ:=Unit) 20 [(0,14),(1,15)] (fun j_ s X=>match j_ with | 0=>Below V.heap.size V X | 1=>Below V.heap.size V X | _=>Below V.heap.size V X) (fun s=>fun i_=>match i_ with | 0=>.int .i64 ((pE f n:Nat):Int) | 1=>.bool true | _=>undef) () A.1 (by kernel_rfl) (by decide) (by decide) (BB) ?_ ?_
   ·intro i_ hi_ s a X hf hv hn hS
    match i_,hi_ with
    | 0,_=>exact stepV rfl rfl (execMvB rfl ((hf 6 (by decide)).trans t6)) ⟨s,⟨_,rfl,rfl⟩,hS,fun _ _=>rfl⟩
    | 1,_=>exact stepV rfl rfl (execDec (execNeE (p:=pE f n) (q:=0) rfl (hv 0 (by omega) _ rfl _ rfl) rfl) (decide_eq_true (by have:=pE_no h1; omega))) ⟨s,⟨_,rfl,rfl⟩,hS,fun _ _=>rfl⟩
    | k_+2,h_=>exact absurd h_ (by simp)
   rintro _ a X4 h1 h2 h3 h4 hS
   clear BB
   replace hS:Below V.heap.size V X4:=hS
   have BB:=hS
   clear hS
   replace t6:=(h3 6 (by decide)).trans t6
   have t15:a.eval (.tmp 15)=.bool true:=h4 1 _ rfl _ rfl
   replace A:=(⟨h1,h2.trans A.2⟩:a.tmps.size=20/\a.defers=[])
   clear h1 h2 h3 h4
   clear t0 t1
   refine wp_cond_true t15 ?_
   refine wp_seq ?_
   refine wp_region_sq (σ:=Unit) 20 [(0,16),(1,4),(2,5)] (fun j_ s X=>match j_ with | 0=>Below V.heap.size V X | 1=>Below V.heap.size V X | 2=>Below V.heap.size V X | _=>Below V.heap.size V X) (fun s=>fun i_=>match i_ with | 0=>.int .i64 ((pE f n:Nat):Int) | 1=>.slice none 0 0 | 2=>.int .i64 ((pE f n:Nat):Int) | _=>undef) () A.1 (by kernel_rfl) (by decide) (by decide) (BB) ?_ ?_
   ·intro i_ hi_ s a X hf hv hn hS
    match i_,hi_ with
    | 0,_=>exact stepV rfl rfl (execMvB rfl ((hf 6 (by decide)).trans t6)) ⟨s,⟨_,rfl,rfl⟩,hS,fun _ _=>rfl⟩
    | 1,_=>exact stepV rfl rfl (execAsgB rfl rfl) ⟨s,⟨_,rfl,rfl⟩,hS,fun _ _=>rfl⟩
    | 2,_=>exact stepV rfl rfl (execAsgB rfl (hv 0 (by omega) _ rfl _ rfl)) ⟨s,⟨_,rfl,rfl⟩,hS,fun _ _=>rfl⟩
    | k_+3,h_=>exact absurd h_ (by simp)
   rintro _ a X5 h1 h2 h3 h4 hS
   clear BB
   replace hS:Below V.heap.size V X5:=hS
   have BB:=hS
   clear hS
   have t4:a.eval (.tmp 4)=.slice none 0 0:=h4 1 _ rfl _ rfl
   have t5:a.eval (.tmp 5)=.int .i64 ((pE f n:Nat):Int):=h4 2 _ rfl _ rfl
   replace A:=(⟨h1,h2.trans A.2⟩:a.tmps.size=20/\a.defers=[])
   clear h1 h2 h3 h4
   clear t6
   have hE:apE f n m=110:=if_neg (fun q=>by have:=pE_no h1; omega)
   rw [pE_no h1] at t5
   rw [hE,zl_no (by decide)]
   refine wp_ret ?_
   repeat (first | refine ret_in ?_ | refine ret_then ?_)
   refine bodyPost_ret (results_tmp2 rfl _ _ _) A.2 ⟨_,?_,World.ownsRow_nil _ _ _ _,BB⟩
   show Ending.returned (.tuple #[a.eval (.tmp 4),a.eval (.tmp 5)])=_
   rw [t4,t5]
 ·refine wp_region_sq (σ:=Unit) 20 [(0,7),(1,8),(2,9),(3,10),(4,11)] (fun j_ s X=>match j_ with | 0=>Below V.heap.size V X | 1=>Below V.heap.size V X | 2=>Below V.heap.size V X | 3=>Below V.heap.size V X | 4=>Below V.heap.size V X | _=>Below V.heap.size V X) (fun s=>fun i_=>match i_ with | 0=>v | 1=>.int .i64 ((n:Nat):Int) | 2=>u0 | 3=>.int .i64 ((m:Nat):Int) | 4=>.bool true | _=>undef) () A.1 (by kernel_rfl) (by decide) (by decide) (BB) ?_ ?_
  ·intro i_ hi_ s a X hf hv hn hS
   match i_,hi_ with
   | 0,_=>exact stepV rfl rfl (execMvB rfl ((hf 0 (by decide)).trans t0)) ⟨s,⟨_,rfl,rfl⟩,hS,fun _ _=>rfl⟩
   | 1,_=>exact stepV rfl rfl (execLenI (len:=n) rfl (hv 0 (by omega) _ rfl _ rfl) ((FI.on hS)).shp) ⟨s,⟨_,rfl,rfl⟩,hS,fun _ _=>rfl⟩
   | 2,_=>exact stepV rfl rfl (execMvB rfl ((hf 1 (by decide)).trans t1)) ⟨s,⟨_,rfl,rfl⟩,hS,fun _ _=>rfl⟩
   | 3,_=>exact stepV rfl rfl (execLenS (len:=m) rfl (hv 2 (by omega) _ rfl _ rfl) (FJ.shp)) ⟨s,⟨_,rfl,rfl⟩,hS,fun _ _=>rfl⟩
   | 4,_=>exact stepV rfl rfl (execDec (execNeN (p:=n) (q:=m) rfl (hv 1 (by omega) _ rfl _ rfl) (hv 3 (by omega) _ rfl _ rfl)) (decide_eq_true (by omega))) ⟨s,⟨_,rfl,rfl⟩,hS,fun _ _=>rfl⟩
   | k_+5,h_=>exact absurd h_ (by simp)
  rintro _ a X1 h1 h2 h3 h4 hS
  clear BB
  replace hS:Below V.heap.size V X1:=hS
  have BB:=hS
  clear hS
  replace t0:=(h3 0 (by decide)).trans t0
  replace t1:=(h3 1 (by decide)).trans t1
  have t11:a.eval (.tmp 11)=.bool true:=h4 4 _ rfl _ rfl
  replace A:=(⟨h1,h2.trans A.2⟩:a.tmps.size=20/\a.defers=[])
  clear h1 h2 h3 h4
  refine wp_cond_true t11 ?_
  refine wp_seq ?_
  refine wp_region_sq (σ:=Unit) 20 [(0,4),(1,5)] (fun j_ s X=>match j_ with | 0=>Below V.heap.size V X | 1=>Below V.heap.size V X | _=>Below V.heap.size V X) (fun s=>fun i_=>match i_ with | 0=>.slice none 0 0 | 1=>.int .i64 ((110:Nat):Int) | _=>undef) () A.1 (by kernel_rfl) (by decide) (by decide) (BB) ?_ ?_
  ·intro i_ hi_ s a X hf hv hn hS
   match i_,hi_ with
   | 0,_=>exact stepV rfl rfl (execAsgB rfl rfl) ⟨s,⟨_,rfl,rfl⟩,hS,fun _ _=>rfl⟩
   | 1,_=>exact stepV rfl rfl (execAsgB rfl rfl) ⟨s,⟨_,rfl,rfl⟩,hS,fun _ _=>rfl⟩
   | k_+2,h_=>exact absurd h_ (by simp)
  rintro _ a X2 h1 h2 h3 h4 hS
  clear BB
  replace hS:Below V.heap.size V X2:=hS
  have BB:=hS
  clear hS
  have t4:a.eval (.tmp 4)=.slice none 0 0:=h4 0 _ rfl _ rfl
  have t5:a.eval (.tmp 5)=.int .i64 ((110:Nat):Int):=h4 1 _ rfl _ rfl
  replace A:=(⟨h1,h2.trans A.2⟩:a.tmps.size=20/\a.defers=[])
  clear h1 h2 h3 h4
  clear t0 t1
  have hE:apE f n m=110:=if_neg (fun q=>by omega)
  rw [hE,zl_no (by decide)]
  refine wp_ret ?_
  repeat (first | refine ret_in ?_ | refine ret_then ?_)
  refine bodyPost_ret (results_tmp2 rfl _ _ _) A.2 ⟨_,?_,World.ownsRow_nil _ _ _ _,BB⟩
  show Ending.returned (.tuple #[a.eval (.tmp 4),a.eval (.tmp 5)])=_
  rw [t4,t5]
end Go.Proofs.Ytmjpneaccjlpkaa.Prm
