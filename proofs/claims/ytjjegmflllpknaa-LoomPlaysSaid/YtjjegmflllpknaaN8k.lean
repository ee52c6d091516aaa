import Derived.Test.YtjjegmflllpknaaN8j
namespace Go.Proofs.Ytjjegmflllpknaa.Loo
open Go.RowKit Gf8 Aes By8 Cel Cf Win Drw Prm
/- The landed loom's choice and weave. Written by tools/mkN8k.py. -/
set_option maxRecDepth 100000 in
set_option maxHeartbeats 4000000 in
theorem pchoice {V:World} {cv:Value} {l k m:Nat} {sc:Nat->Int} (hS:SliceI V cv l sc) (hm:0 < m) (hm2:m<=1000000) :
  Calls Try.prog 48 #[cv,.int .i64 ((k:Nat):Int),.int .i64 ((m:Nat):Int)] V fun e w'=>e=.returned (.int .i64 ((chn (scr l sc k) m:Nat):Int))/\Below V.heap.size V w':=by
 go_enter Try.func48,Try.ntmps48
 refine wo_ 24 [(0,cv),(1,.int .i64 ((k:Nat):Int)),(2,.int .i64 ((m:Nat):Int))] ?_
 rintro a A ⟨t0,t1,t2,-⟩
 have BW:Below V.heap.size V V:=Below.refl _ _
 have BB:Below V.heap.size V V:=Below.refl _ _
 refine wp_seq ?_
 refine wi_ A (h3_ t0 t1 t2) (rf_ [] (h3_ t0 t1 t2) ?_)
 rintro a A - ⟨t0,t1,t2,-⟩
 by_cases hk:k < l
 ·obtain ⟨cb,co,cc,ec,hcb,hcc⟩:=ints_open hS (by omega)
  have cX:∀ X,Below V.heap.size V X->X.cell? ⟨cb,co+k,none⟩=some (.int .i64 (sc k)):=fun X hX=>by rw [cell_below hX hcb]; exact hcc k hk
  obtain ⟨m1,m2,he_⟩:=tmod_in (n:=sc k) (m:=((m:Nat):Int)) (by omega)
  have hr0:((chn (scr l sc k) m:Nat):Int)=sc k % ((m:Nat):Int):=by
   unfold scr chn
   rw [if_pos hk,Int.toNat_of_nonneg (Int.emod_nonneg _ (by omega))]
  refine wp_seq (wp_seq ?_)
  refine wi_ A (h3_ t0 t1 t2) (rv_ 2 (.int .i64 ((l:Nat):Int)) (fun a E=>execLenI (len:=l) rfl (E _) hS.shp) (rv_ 3 (.bool false) (fun a E=>execDec (execGe8 (p:=k) (q:=l) rfl (E _) (E _)) (decide_eq_false (by omega))) (rf_ [(11,.bool false)] (h3_ t0 t1 t2) ?_)))
  rintro a A ⟨t11,-⟩ ⟨t0,t1,t2,-⟩
  refine wp_cond_false t11 (wp_skip ?_)
  clear t11
  refine wp_seq ?_
  refine wi_ A (h3_ t0 t1 t2) (rv_ 2 (.pointer (some ⟨cb,co+k,none⟩)) (fun a E=>execIdxN (k:=k) rfl ((E _).trans ec) (E _) hk) (rv_ 3 (.int .i64 (sc k)) (fun a E=>execLdG rfl (Or.inr (Or.inl rfl)) (E _) (cX V BB)) (rv_ 5 (.int .i64 (Int.tmod (sc k) ((m:Nat):Int))) (fun a E=>exRemZ (p:=(sc k)) (q:=((m:Nat):Int)) rfl (E _) (E _) (by omega)) (rf_ [(7,.int .i64 (Int.tmod (sc k) ((m:Nat):Int)))] (h1_ t2) ?_))))
  rintro a A ⟨t7,-⟩ ⟨t2,-⟩
  by_cases hn_:Int.tmod (sc k) ((m:Nat):Int) < 0
  ·rw [if_pos hn_] at he_
   refine wp_seq (wp_seq ?_)
   refine wi_ A (h2_ t2 t7) (rv_ 1 (.bool true) (fun a E=>execDec (exIlss3 (p:=(Int.tmod (sc k) ((m:Nat):Int))) (q:=0) rfl (E _) rfl) (decide_eq_true hn_)) (rf_ [(19,.bool true)] (h2_ t2 t7) ?_))
   rintro a A ⟨t19,-⟩ ⟨t2,t7,-⟩
   refine wp_cond_true t19 ?_
   clear t19
   refine wi_ A (h2_ t2 t7) (rv_ 2 (.int .i64 ((Int.tmod (sc k) ((m:Nat):Int))+((m:Nat):Int))) (fun a E=>exAddZ (p:=(Int.tmod (sc k) ((m:Nat):Int))) (q:=((m:Nat):Int)) rfl (E _) (E _) ⟨by omega,by omega⟩) (rg_ [(7,.int .i64 ((Int.tmod (sc k) ((m:Nat):Int))+((m:Nat):Int)))] ?_))
   rintro a A ⟨t7,-⟩
   refine wp_seq ?_
   refine wi_ A (h1_ t7) (rg_ [(6,.int .i64 ((Int.tmod (sc k) ((m:Nat):Int))+((m:Nat):Int)))] ?_)
   rintro a A ⟨t6,-⟩
   refine wp_ret ?_
   repeat (first | with_reducible refine ret_in ?_ | with_reducible refine ret_then ?_)
   refine bodyPost_ret (results_tmp rfl _ _ _) A.2 ⟨?_,BB⟩
   show Ending.returned (a.eval (.tmp 6))=_
   rw [t6]
   rw [hr0,he_]
  ·rw [if_neg hn_] at he_
   refine wp_seq (wp_seq ?_)
   refine wi_ A (h2_ t2 t7) (rv_ 1 (.bool false) (fun a E=>execDec (exIlss3 (p:=(Int.tmod (sc k) ((m:Nat):Int))) (q:=0) rfl (E _) rfl) (decide_eq_false hn_)) (rf_ [(19,.bool false)] (h2_ t2 t7) ?_))
   rintro a A ⟨t19,-⟩ ⟨t2,t7,-⟩
   refine wp_cond_false t19 (wp_skip ?_)
   clear t19
   refine wp_seq ?_
   refine wi_ A (h2_ t2 t7) (rg_ [(6,.int .i64 (Int.tmod (sc k) ((m:Nat):Int)))] ?_)
   rintro a A ⟨t6,-⟩
   refine wp_ret ?_
   repeat (first | with_reducible refine ret_in ?_ | with_reducible refine ret_then ?_)
   refine bodyPost_ret (results_tmp rfl _ _ _) A.2 ⟨?_,BB⟩
   show Ending.returned (a.eval (.tmp 6))=_
   rw [t6]
   rw [hr0,he_]
 ·have hr:chn (scr l sc k) m=0:=by unfold scr; rw [if_neg (by omega)]; exact chn_zero m
  refine wp_seq (wp_seq ?_)
  refine wi_ A (h3_ t0 t1 t2) (rv_ 2 (.int .i64 ((l:Nat):Int)) (fun a E=>execLenI (len:=l) rfl (E _) hS.shp) (rv_ 3 (.bool true) (fun a E=>execDec (execGe8 (p:=k) (q:=l) rfl (E _) (E _)) (decide_eq_true (by omega))) (rg_ [(11,.bool true)] ?_)))
  rintro a A ⟨t11,-⟩
  refine wp_cond_true t11 ?_
  clear t11
  refine wp_seq ?_
  refine wi_ A h0_ (rg_ [(6,.int .i64 ((0:Nat):Int))] ?_)
  rintro a A ⟨t6,-⟩
  refine wp_ret ?_
  repeat (first | with_reducible refine ret_in ?_ | with_reducible refine ret_then ?_)
  refine bodyPost_ret (results_tmp rfl _ _ _) A.2 ⟨?_,BB⟩
  show Ending.returned (a.eval (.tmp 6))=_
  rw [t6]
  rw [hr]
section
variable {σ:Type} (S:Stm σ)
def Stm.at (sc:Nat->Int) (x:σ):Nat->σ
 | 0=>x
 | j+1=>S.sa (S.ask S.n (Stm.at sc x j)).2 ((S.ask S.n (Stm.at sc x j)).1.getD (chn (sc j) (S.ask S.n (Stm.at sc x j)).1.length) 0)
def Stm.pk (sc:Nat->Int) (x:σ) (j:Nat):Nat:=(S.ask S.n (S.at sc x j)).1.getD (chn (sc j) (S.ask S.n (S.at sc x j)).1.length) 0
def Stm.pks (sc:Nat->Int) (x:σ) (j:Nat):List Nat:=(List.range j).map (S.pk sc x)
theorem Stm.pk_mem {sc:Nat->Int} {x:σ} {j:Nat} (h:(S.ask S.n (S.at sc x j)).1 ≠ []):S.pk sc x j ∈ (S.ask S.n (S.at sc x j)).1:=by
 unfold Stm.pk
 have h1:=chn_lt (x:=sc j) (len_pos h)
 rw [List.getD_eq_getElem?_getD,List.getElem?_eq_getElem h1]
 exact List.getElem_mem h1
theorem Stm.pks_succ {sc:Nat->Int} {x:σ} {j:Nat}:S.pks sc x (j+1)=S.pks sc x j ++ [S.pk sc x j]:=by
 unfold Stm.pks
 rw [List.range_succ,List.map_append]
 rfl
theorem Stm.pks_len {sc:Nat->Int} {x:σ} {j:Nat}:(S.pks sc x j).length=j:=by unfold Stm.pks; simp
end
structure Wk {σ:Type} (S:Stm σ) (V:World) (F:Nat->Prop) (g6 g7:Nat) (l ml:List Nat) (y:σ) (W:World) (pk lw:Value) (en st:Bool) (F2:Nat->Prop):Prop where
 h6:W.heap[g6]?=some (.cells (hC (.slice none 0 0) 0 false false 0 (.slice none 0 0)) 29)
 h7:W.heap[g7]?=some (.cells (hC pk 0 en st 0 (.slice none 0 0)) 29)
 own:W.ownsRow V.heap.size 3 1 pk l.length (intsL l.length (nL l))
 may:W.ownsRow V.heap.size 3 1 lw ml.length (intsL ml.length (nL ml))
 R:S.R W F2 y
 sv:Saved F V W
 sub:∀ q,F2 q->F q\/V.heap.size<=q
 o6:¬ F2 g6
 o7:¬ F2 g7
 op:∀ b,pk.ownBlock=some b->¬ F2 b
 om:∀ b,lw.ownBlock=some b->¬ F2 b
 ne:∀ b,pk.ownBlock=some b->lw.ownBlock ≠ some b
 cp:∀ ad n c,lw=.slice (some ad) n c->0 < c
 ge6:V.heap.size<=g6
 ge7:V.heap.size<=g7
 n67:g6 ≠ g7
section
variable {σ:Type} {S:Stm σ} {V W X:World} {F F2 F3:Nat->Prop} {pk lw:Value} {g6 g7:Nat} {l ml L:List Nat} {y z:σ} {en st:Bool}
theorem row_ne {B n g:Nat} {v:Value} {xs:List Value} {c:Array Value} {T:TypeId} (h:W.ownsRow B 3 1 v n xs) (hg:W.heap[g]?=some (.cells c T)) (hT:T ≠ 3):∀ b,v.ownBlock=some b->b ≠ g:=fun b hb q=>by
 rcases h.2 with ⟨w,_⟩ | ⟨g',cap,cur,rfl,_,hg',_⟩
 ·rw [w] at hb; cases hb
 ·cases hb
  subst q
  rw [hg] at hg'
  injection hg' with hg'
  injection hg' with _ hg' _
  exact hT hg'
theorem Wk.on (h:Wk S V F g6 g7 l ml y W pk lw en st F2) (hb:Below W.heap.size W X):Wk S V F g6 g7 l ml y X pk lw en st F2:=
 { h with h6:=on9 h.h6 hb,h7:=on9 h.h7 hb,own:=ownD_below h.own hb,may:=ownD_below h.may hb,R:=S.frame h.R ((Saved.refl _ _).below hb (Nat.le_refl _)),sv:=h.sv.below hb h.sv.size }
theorem Wk.set {k:Nat} {u:Value} {en' st':Bool} (h:Wk S V F g6 g7 l ml y W pk lw en st F2) (hB:S.B<=V.heap.size) (e:X=W.setCell ⟨g7,k,none⟩ u) (h7':X.heap[g7]?=some (.cells (hC pk 0 en' st' 0 (.slice none 0 0)) 29)):Wk S V F g6 g7 l ml y X pk lw en' st' F2:=by
 refine { h with h6:=?_,h7:=h7',own:=?_,may:=?_,R:=?_,sv:=?_ }
 ·rw [e,heap4o _ h.h7 h.n67]; exact h.h6
 ·rw [e]; exact own_frame (P:=fun b=>pk.ownBlock=some b) h.own (fun _ q=>q) (fun b hb=>heap4o _ h.h7 (row_ne h.own h.h7 (by decide) b hb))
 ·rw [e]; exact own_frame (P:=fun b=>lw.ownBlock=some b) h.may (fun _ q=>q) (fun b hb=>heap4o _ h.h7 (row_ne h.may h.h7 (by decide) b hb))
 ·rw [e]; exact S.frame h.R ((Saved.refl _ _).cell u (Or.inr ⟨Nat.le_trans hB h.ge7,h.o7⟩))
 ·rw [e]; exact h.sv.cell u (Or.inl h.ge7)
theorem Wk.look {lv lw':Value} (h:Wk S V F g6 g7 l ml y W pk lw en st F2) (hv:∀ b,lv.ownBlock=some b->lw.ownBlock=some b) (k:Lk S W F2 lv V.heap.size L z X lw' F3):Wk S V F g6 g7 l L z X pk lw' en st F3:=by
 have hs:∀ b,b < W.heap.size->¬ F2 b->lw.ownBlock ≠ some b->X.heap[b]?=W.heap[b]?:=fun b hb h1 h2=>k.sv.block b hb (fun w=>w.elim h1 (fun q=>h2 (hv b q)))
 have hF:∀ b,b < W.heap.size->¬ F2 b->¬ F3 b:=fun b hb h1 h2=>by
  rcases k.sub b h2 with w | w
  ·exact h1 w
  ·omega
 have l6:=(Array.getElem?_eq_some_iff.1 h.h6).1
 have l7:=(Array.getElem?_eq_some_iff.1 h.h7).1
 refine { h6:=?_,h7:=?_,own:=?_,may:=k.own,R:=k.R,sv:=?_,sub:=fun q hq=>?_,o6:=hF _ l6 h.o6,o7:=hF _ l7 h.o7,op:=fun b hb=>hF b (h.own.lt b hb).2 (h.op b hb),om:=k.off,ne:=fun b hb hq=>?_,cp:=k.cp,ge6:=h.ge6,ge7:=h.ge7,n67:=h.n67 }
 ·rw [hs g6 l6 h.o6 (fun w=>row_ne h.may h.h6 (by decide) g6 w rfl)]; exact h.h6
 ·rw [hs g7 l7 h.o7 (fun w=>row_ne h.may h.h7 (by decide) g7 w rfl)]; exact h.h7
 ·exact own_frame (P:=fun b=>pk.ownBlock=some b) h.own (fun _ q=>q) (fun b hb=>hs b (h.own.lt b hb).2 (h.op b hb) (h.ne b hb))
 ·refine ⟨k.sv.os.trans h.sv.os,k.sv.tape.trans h.sv.tape,k.sv.output.trans h.sv.output,Nat.le_trans h.sv.size k.sv.size,fun b hb hn=>?_⟩
  rw [hs b (Nat.lt_of_lt_of_le hb h.sv.size) (fun w=>?_) (fun w=>?_),h.sv.block b hb hn]
  ·rcases h.sub b w with q | q
   ·exact hn q
   ·omega
  ·have:=(h.may.lt b w).1; omega
 ·rcases k.sub q hq with w | w
  ·exact h.sub q w
  ·exact Or.inr (Nat.le_trans h.sv.size w)
 ·rcases k.new b hq with w | w
  ·exact h.ne b hb (hv b w)
  ·have:=(h.own.lt b hb).2; omega
theorem Wk.step (h:Wk S V F g6 g7 l ml y W pk lw en st F2) (hR:S.R X F3 z) (hs:Saved F2 W X) (hf:∀ q,F3 q->F2 q\/W.heap.size<=q):Wk S V F g6 g7 l ml z X pk lw en st F3:=by
 have hF:∀ b,b < W.heap.size->¬ F2 b->¬ F3 b:=fun b hb h1 h2=>by
  rcases hf b h2 with w | w
  ·exact h1 w
  ·omega
 have l6:=(Array.getElem?_eq_some_iff.1 h.h6).1
 have l7:=(Array.getElem?_eq_some_iff.1 h.h7).1
 refine { h with h6:=?_,h7:=?_,own:=?_,may:=?_,R:=hR,sv:=?_,sub:=fun q hq=>?_,o6:=hF _ l6 h.o6,o7:=hF _ l7 h.o7,op:=fun b hb=>hF b (h.own.lt b hb).2 (h.op b hb),om:=fun b hb=>hF b (h.may.lt b hb).2 (h.om b hb) }
 ·rw [hs.block g6 l6 h.o6]; exact h.h6
 ·rw [hs.block g7 l7 h.o7]; exact h.h7
 ·exact own_frame (P:=fun b=>pk.ownBlock=some b) h.own (fun _ q=>q) (fun b hb=>hs.block b (h.own.lt b hb).2 (h.op b hb))
 ·exact own_frame (P:=fun b=>lw.ownBlock=some b) h.may (fun _ q=>q) (fun b hb=>hs.block b (h.may.lt b hb).2 (h.om b hb))
 ·refine ⟨hs.os.trans h.sv.os,hs.tape.trans h.sv.tape,hs.output.trans h.sv.output,Nat.le_trans h.sv.size hs.size,fun b hb hn=>?_⟩
  rw [hs.block b (Nat.lt_of_lt_of_le hb h.sv.size) (fun w=>?_),h.sv.block b hb hn]
  rcases h.sub b w with q | q
  ·exact hn q
  ·omega
 ·rcases hf q hq with w | w
  ·exact h.sub q w
  ·exact Or.inr (Nat.le_trans h.sv.size w)
theorem Wk.pick {v':Value} {t:Nat} {W':World} (h:Wk S V F g6 g7 l ml y W pk lw en st F2) (hB:S.B<=V.heap.size) (q1:W'.ownsRow V.heap.size 3 1 v' (l.length+1) (intsL (l.length+1) (catI l.length (nL l) (fun _=>((t:Nat):Int)))))
  (q2:(∃ b c,pk=.slice (some ⟨b,0,none⟩) l.length c/\v'=.slice (some ⟨b,0,none⟩) (l.length+1) c/\W.grownBy W' (some b))\/(Below W.heap.size W W'/\∀ k,v'.ownBlock=some k->W.heap.size<=k)) (e:X=W'.setCell ⟨g7,0,none⟩ v'):Wk S V F g6 g7 (l ++ [t]) ml y X v' lw en st F2:=by
 have e1:intsL (l ++ [t]).length (nL (l ++ [t]))=intsL (l.length+1) (catI l.length (nL l) (fun _=>((t:Nat):Int))):=by
  rw [List.length_append]
  exact (intsL_congr fun j hj=>nL_app j (by rw [List.length_append]; exact hj)).symm
 have e2:(l ++ [t]).length=l.length+1:=by rw [List.length_append]; rfl
 have l6:=(Array.getElem?_eq_some_iff.1 h.h6).1
 have l7:=(Array.getElem?_eq_some_iff.1 h.h7).1
 have key:Saved (fun b=>pk.ownBlock=some b) W W'/\∀ b,v'.ownBlock=some b->pk.ownBlock=some b\/W.heap.size<=b:=by
  rcases q2 with ⟨b,c,f1,f2,g⟩ | ⟨g,hk⟩
  ·refine ⟨(Saved.refl _ _).grown g (fun k hk=>by cases hk; exact Or.inr (by rw [f1]; rfl)),fun k hk=>?_⟩
   rw [f2] at hk
   rw [f1]
   exact Or.inl hk
  ·exact ⟨(Saved.refl _ _).below g (Nat.le_refl _),fun k w=>Or.inr (hk k w)⟩
 obtain ⟨k1,k2⟩:=key
 have h7':W'.heap[g7]?=some (.cells (hC pk 0 en st 0 (.slice none 0 0)) 29):=by rw [k1.block g7 l7 (fun w=>row_ne h.own h.h7 (by decide) g7 w rfl)]; exact h.h7
 have h6':W'.heap[g6]?=some (.cells (hC (.slice none 0 0) 0 false false 0 (.slice none 0 0)) 29):=by rw [k1.block g6 l6 (fun w=>row_ne h.own h.h6 (by decide) g6 w rfl)]; exact h.h6
 have hlt:∀ b,F2 b->b < W.heap.size:=S.lt h.R
 refine { h with h6:=?_,h7:=?_,own:=?_,may:=?_,R:=?_,sv:=?_,op:=fun b hb hF=>?_,ne:=fun b hb hq=>?_ }
 ·rw [e,heap4o _ h7' h.n67]; exact h6'
 ·rw [e]; exact heap4 _ h7'
 ·rw [e,e1,e2]; exact own_frame (P:=fun b=>v'.ownBlock=some b) q1 (fun _ q=>q) (fun b hb=>heap4o _ h7' (row_ne q1 h7' (by decide) b hb))
 ·rw [e]
  refine own_frame (P:=fun b=>lw.ownBlock=some b) h.may (fun _ q=>q) (fun b hb=>?_)
  rw [heap4o _ h7' (row_ne h.may h.h7 (by decide) b hb),k1.block b (h.may.lt b hb).2 (fun w=>h.ne b w hb)]
 ·rw [e]
  have f1:=S.frame h.R (X:=W') ⟨k1.os,k1.tape,k1.output,k1.size,fun b hb hn=>k1.block b hb (fun w=>hn ⟨Nat.le_trans hB (h.own.lt b w).1,h.op b w⟩)⟩
  exact S.frame f1 ((Saved.refl _ _).cell v' (Or.inr ⟨Nat.le_trans hB h.ge7,h.o7⟩))
 ·rw [e]
  have f1:Saved F V W':=⟨k1.os.trans h.sv.os,k1.tape.trans h.sv.tape,k1.output.trans h.sv.output,Nat.le_trans h.sv.size k1.size,fun b hb hn=>by
   rw [k1.block b (Nat.lt_of_lt_of_le hb h.sv.size) (fun w=>by have:=(h.own.lt b w).1; omega),h.sv.block b hb hn]⟩
  exact f1.cell v' (Or.inl h.ge7)
 ·rcases k2 b hb with w | w
  ·exact h.op b w hF
  ·have:=hlt b hF; omega
 ·rcases k2 b hb with w | w
  ·exact h.ne b w hq
  ·have:=(h.may.lt b hq).2; omega
end
theorem wp_join9 {x y:Code} {Q:Exit->Act->World->Prop} {a:Act} {w:World} (R:Act->World->Prop) (h1:x.wp Try.prog (fun e a w=>e=.normal/\R a w) a w) (h2:∀ a w,R a w->y.wp Try.prog Q a w):(Code.seq x y).wp Try.prog Q a w:=
 wp_seq (wp_mono h1 fun e a w h=>by
  obtain ⟨rfl,hR⟩:=h
  exact h2 a w hR)
theorem sizeHw (pk:Value) (m:Nat) (en st:Bool) (l:Nat) (tk:Value):(Try.prog.info? 29).map (·.size)=some (hC pk m en st l tk).size:=by
 show _=some 6
 kernel_rfl
theorem execLdHw {o:Oper} {a:Act} {w:World} {x:Operand} {g m l:Nat} {pk tk:Value} {en st:Bool} (ho:o.op=.load 29 x) (hx:a.eval x=.pointer (some ⟨g,0,none⟩)) (hg:w.heap[g]?=some (.cells (hC pk m en st l tk) 29)):(execOp a.eval o).run Try.prog w=.ok (.value (.agg (hC pk m en st l tk))) w:=by
 obtain ⟨h0,h1,h2,h3,h4,h5⟩:=hC_at hg
 have h:=execLoadMid (P:=Try.prog) (cs:=(hC pk m en st l tk).toList) ho hx (fun j v hv=>by
  match j,hv with
  | 0,hv=>exact h0.trans hv
  | 1,hv=>exact h1.trans hv
  | 2,hv=>exact h2.trans hv
  | 3,hv=>exact h3.trans hv
  | 4,hv=>exact h4.trans hv
  | 5,hv=>exact h5.trans hv
  | j+6,hv=>cases hv) Try.underlying29 rfl (by show _=some 6; kernel_rfl)
 exact h
theorem sliceI_sav {V W:World} {F:Nat->Prop} {v:Value} {n:Nat} {f:Nat->Int} (h:SliceI V v n f) (hs:Saved F V W) (hF:0 < n->∀ a n c,v=.slice (some a) n c->¬ F a.block):SliceI W v n f:=by
 obtain ⟨⟨a,cap,e,h1,h2,h3⟩,hp⟩:=h
 refine ⟨⟨a,cap,e,h1,h2,fun h0=>?_⟩,hp⟩
 obtain ⟨b,off,e1,e2,e3⟩:=h3 h0
 have hb:=hF h0 ⟨b,off,none⟩ n cap (by rw [e,e1])
 refine ⟨b,off,e1,Nat.lt_of_lt_of_le e2 hs.size,fun j hj=>?_⟩
 rw [World.cell?_of_block (w:=V) (hs.block b e2 hb)]
 exact e3 j hj
def cut0:Value->Value
 | .slice a _ c=>.slice a 0 c
 | v=>v
theorem cut0_own {v:Value}:(cut0 v).ownBlock=v.ownBlock:=by
 cases v with
 | slice a n c=>cases a <;> rfl
 | _=>rfl
theorem own_cut0 {W:World} {B n:Nat} {v:Value} {xs:List Value} (h:W.ownsRow B 3 1 v n xs):W.ownsRow B 3 1 (cut0 v) 0 []:=by
 rcases h.2 with ⟨rfl,rfl⟩ | ⟨g,cap,cur,rfl,h1,h2,h3,h4,h5,h6⟩
 ·exact World.ownsRow_nil _ _ _ _
 ·exact ⟨rfl,Or.inr ⟨g,cap,cur,rfl,h1,h2,Nat.zero_le _,h4,h5,by simp⟩⟩
theorem cut0_cp {v:Value} (h:∀ ad n c,v=.slice (some ad) n c->0 < c):∀ ad n c,cut0 v=.slice (some ad) n c->0 < c:=fun ad n c e=>by
 cases v with
 | slice a m k=>
  injection e with e1 _ e3
  subst e1
  subst e3
  exact h ad m k rfl
 | _=>cases e
theorem sl_cut0 {W X:World} {B n:Nat} {v:Value} {xs:List Value} (h:W.ownsRow B 3 1 v n xs) (hc:∀ ad n c,v=.slice (some ad) n c->0 < c):(Instr.sliceAt 22 v none (some (.int .i64 0)) none).run Try.prog X=.ok (cut0 v) X:=by
 rcases h.2 with ⟨rfl,rfl⟩ | ⟨g,cap,cur,rfl,h1,h2,h3,_⟩
 ·exact Duc.slIm X
 ·have h0:=hc _ _ _ rfl
  have e:cap ≠ 0:=by omega
  obtain ⟨i,i1,_⟩:=Duc.infI
  have e1:(0:Int)<=cap:=by omega
  simp [Instr.sliceAt,Instr.slice,run_underlying Try.underlying22,Instr.sliceBounds,run_sliceBound,e,sizeOf,typeInfo,i1,Addr.add_mid,cut0]
def npk (W:World) (g:Nat):Nat:=match W.cell? ⟨g,0,none⟩ with
 | some (.slice _ n _)=>n
 | _=>0
theorem Wk.npk {σ:Type} {S:Stm σ} {V W:World} {F F2:Nat->Prop} {pk lw:Value} {g6 g7:Nat} {l ml:List Nat} {y:σ} {en st:Bool} (h:Wk S V F g6 g7 l ml y W pk lw en st F2):Loo.npk W g7=l.length:=by
 unfold Loo.npk
 rw [(hC_at h.h7).1]
 rcases h.own.2 with ⟨e1,e2⟩ | ⟨g,cap,cur,e1,_⟩
 ·rw [e1,e2]
 ·rw [e1]
theorem own_shp {W:World} {B n:Nat} {v:Value} {xs:List Value} {T:TypeId} {s:Nat} (h:W.ownsRow B T s v n xs):∃ a c,v=.slice a n c:=by
 rcases h.2 with ⟨w,e⟩ | ⟨_,_,_,w,_⟩
 ·exact ⟨_,_,by rw [w,e]⟩
 ·exact ⟨_,_,w⟩
theorem nL_slice {W:World} {B:Nat} {v:Value} {l:List Nat} (h:W.ownsRow B 3 1 v l.length (intsL l.length (nL l))) (hl:∀ t ∈ l,t < 1000001):SliceI W v l.length (nL l):=own_ints h fun j hj=>by
 have h1:l.getD j 0 ∈ l:=by
  rw [List.getD_eq_getElem?_getD,List.getElem?_eq_getElem hj]
  exact List.getElem_mem hj
 have:=hl _ h1
 unfold nL
 omega
structure WvE {σ:Type} (S:Stm σ) (sc:Nat->Int) (most:Nat) (x:σ) (V:World) (F:Nat->Prop) (N:Nat) (pk:Value) (F2:Nat->Prop) (e:Ending) (W:World):Prop where
 le:N<=most
 go:∀ j,j < N->(S.ask S.n (S.at sc x j)).1 ≠ []
 stop:(S.ask S.n (S.at sc x N)).1=[]\/N=most
 ans:e=.returned (.agg (hC pk 0 (!S.alv S.n (S.at sc x N)) (S.alv S.n (S.at sc x N) && decide ((S.ask S.n (S.at sc x N)).1=[])) 0 (.slice none 0 0)))
 own:W.ownsRow V.heap.size 3 1 pk N (intsL N (fun i=>((S.pk sc x i:Nat):Int)))
 R:S.R W F2 (S.ask S.n (S.at sc x N)).2
 sv:Saved F V W
 sub:∀ q,F2 q->F q\/V.heap.size<=q
 off:∀ b,pk.ownBlock=some b->¬ F2 b
set_option maxRecDepth 100000 in
set_option maxHeartbeats 4000000 in
theorem pweave {σ:Type} (S:Stm σ) (V:World) (F:Nat->Prop) (x:σ) (sb cap:Nat) (cv:Value) (l:Nat) (sc:Nat->Int) (most:Int) (hR:S.R V F x) (hrow0:Srow S V sb) (hF:¬ F sb) (hS:SliceI V cv l sc) (hcF:0 < l->∀ a n c,cv=.slice (some a) n c->¬ F a.block) (hB:S.B<=V.heap.size) (hn:S.n<=1000000) (hmost:most<=1000000) (hcan:∀ j,j < most.toNat->(∀ i,i<=j->(S.ask S.n (S.at (scr l sc) x i)).1 ≠ [])->S.can (S.ask S.n (S.at (scr l sc) x j)).2 (S.pk (scr l sc) x j)) (hcr:∀ j,j<=most.toNat->(∀ i,i < j->(S.ask S.n (S.at (scr l sc) x i)).1 ≠ [])->∀ i,i < S.n->S.cr (S.ask i (S.at (scr l sc) x j)).2 i):Calls Try.prog 27 #[.slice (some ⟨sb,0,none⟩) S.n cap,cv,.int .i64 most] V fun e w'=>∃ N pk F2,WvE S (scr l sc) most.toNat x V F N pk F2 e w':=by
 go_enter Try.func27,Try.ntmps27
 refine wo_ 60 [(0,.slice (some ⟨sb,0,none⟩) S.n cap),(1,cv),(2,.int .i64 most)] ?_
 rintro a A ⟨t0,t1,t2,-⟩
 refine wp_seq ?_
 obtain ⟨g6,e6⟩:∃ z_:Nat,V.heap.size=z_:=⟨_,rfl⟩
 refine wi_ A (h3_ t0 t1 t2) (rs_ 0 (fun a E=>?_))
 refine stepV rfl rfl (execAlH rfl) ⟨.pointer (some ⟨g6,0,none⟩),⟨_,rfl,by subst e6; rfl⟩,fun X1 hX=>?_⟩
 have bQ:Below V.heap.size V X1:=by rw [hX]; exact belNew V _
 have F6:X1.heap[g6]?=some (.cells (hC (.slice none 0 0) 0 false false 0 (.slice none 0 0)) 29):=by rw [hX,← e6]; exact heapNew V _
 clear hX E a
 refine rf_ [(6,.pointer (some ⟨g6,0,none⟩))] (h3_ t0 t1 t2) ?_
 rintro a A ⟨t6,-⟩ ⟨t0,t1,t2,-⟩
 refine wp_seq ?_
 obtain ⟨g7,e7⟩:∃ z_:Nat,X1.heap.size=z_:=⟨_,rfl⟩
 refine wi_ A (h4_ t0 t1 t2 t6) (rs_ 0 (fun a E=>?_))
 refine stepV rfl rfl (execAlH rfl) ⟨.pointer (some ⟨g7,0,none⟩),⟨_,rfl,by subst e7; rfl⟩,fun X2 hX=>?_⟩
 have bQ2:Below X1.heap.size X1 X2:=by rw [hX]; exact belNew X1 _
 have F7:X2.heap[g7]?=some (.cells (hC (.slice none 0 0) 0 false false 0 (.slice none 0 0)) 29):=by rw [hX,← e7]; exact heapNew X1 _
 clear hX E a
 have l6:=(Array.getElem?_eq_some_iff.1 F6).1
 replace F6:=on9 F6 bQ2
 replace bQ2:=bQ.trans (bQ2.mono bQ.size)
 refine rf_ [(7,.pointer (some ⟨g7,0,none⟩))] (h4_ t0 t1 t2 t6) ?_
 rintro a A ⟨t7,-⟩ ⟨t0,t1,t2,t6,-⟩
 have hsz:=bQ.size
 have K0:Wk S V F g6 g7 [] [] x X2 (.slice none 0 0) (.slice none 0 0) false false F:=⟨F6,F7,World.ownsRow_nil _ _ _ _,World.ownsRow_nil _ _ _ _,S.frame hR ((Saved.refl _ _).below bQ2 (Nat.le_refl _)),(Saved.refl _ _).below bQ2 (Nat.le_refl _),fun _ q=>Or.inl q,fun w=>by have:=S.lt hR g6 w; omega,fun w=>by have:=S.lt hR g7 w; omega,fun b w=>(by cases w),fun b w=>(by cases w),fun b w=>(by cases w),fun _ _ _ w=>(by cases w),by omega,by omega,by omega⟩
 clear bQ bQ2 F6 F7
 refine wp_seq ?_
 refine wi_ A (h5_ t0 t1 t2 t6 t7) (rf_ [(8,.slice none 0 0)] (h5_ t0 t1 t2 t6 t7) ?_)
 rintro a A ⟨t8,-⟩ ⟨t0,t1,t2,t6,t7,-⟩
 refine wp_block ?_
 refine wp_loop (fun a W=>∃ (j:Nat) (pk lw:Value) (ml:List Nat) (en st:Bool) (F2:Nat->Prop),j<=most.toNat/\(∀ i,i < j->(S.ask S.n (S.at (scr l sc) x i)).1 ≠ [])/\(a.tmps.size=60/\a.defers=[])/\a.eval (.tmp 0)=.slice (some ⟨sb,0,none⟩) S.n cap/\a.eval (.tmp 1)=cv/\a.eval (.tmp 2)=.int .i64 most/\a.eval (.tmp 6)=.pointer (some ⟨g6,0,none⟩)/\a.eval (.tmp 7)=.pointer (some ⟨g7,0,none⟩)/\a.eval (.tmp 8)=lw/\Wk S V F g6 g7 (S.pks (scr l sc) x j) ml (S.at (scr l sc) x j) W pk lw en st F2) (fun _ W=>most.toNat - npk W g7) ⟨0,.slice none 0 0,.slice none 0 0,[],false,false,F,Nat.zero_le _,fun i hi=>absurd hi (Nat.not_lt_zero i),A,t0,t1,t2,t6,t7,t8,K0⟩ ?_
 rintro a XL ⟨j,pk,lw,ml,en,st,F2,hj,hgo,A,t0,t1,t2,t6,t7,t8,K⟩
 have enp:=K.npk
 rw [S.pks_len] at enp
 refine wp_block ?_
 have hrow:Srow S XL sb:=by
  obtain ⟨cur,r1,r2⟩:=hrow0
  exact ⟨cur,by rw [K.sv.block sb (Array.getElem?_eq_some_iff.1 r1).1 hF]; exact r1,r2⟩
 have hsb:∀ b,b < V.heap.size->¬ F b->¬ F2 b:=fun b hb h1 h2=>by
  rcases K.sub b h2 with w | w
  ·exact h1 w
  ·omega
 have lsb:sb < V.heap.size:=by
  obtain ⟨cur,r1,_⟩:=hrow0
  exact (Array.getElem?_eq_some_iff.1 r1).1
 refine wp_seq ?_
 refine wi_ A (h6_ t0 t1 t2 t6 t7 t8) (rv_ 2 (cut0 lw) (fun a E=>Duc.execSlIh rfl (E _) rfl (sl_cut0 K.may K.cp)) (rc_ 3 (plook S XL F2 (S.at (scr l sc) x j) sb cap (cut0 lw) V.heap.size K.R hrow (hsb sb lsb hF) (fun w=>by rw [cut0_own] at w; have:=(K.may.lt sb w).1; omega) (own_cut0 K.may) (fun b w=>K.om b (by rw [← cut0_own]; exact w)) (cut0_cp K.cp) hB K.sv.size hn (hcr j hj hgo)) (fun e X3 hh=>?_)))
 obtain ⟨lw',F3,he,hk⟩:=hh
 refine ⟨_,he,?_⟩
 replace K:=K.look (fun b w=>by rw [← cut0_own]; exact w) hk
 clear hk he
 refine rv_ 8 (.pointer (some ⟨g7,2,none⟩)) (fun a E=>execFh2 rfl (E _)) (rs_ 9 (fun a E=>?_))
 refine stepS rfl rfl (execSt9 rfl (Or.inr (Or.inl rfl)) (E _) (E _) (Or.inr (Or.inl ⟨_,rfl⟩)) (hC_at K.h7).2.2.1 (frozen4 K.h7)) ⟨_,⟨_,rfl,rfl⟩,fun X4 hX=>?_⟩
 replace K:=K.set (en':=!S.alv S.n (S.at (scr l sc) x j)) (st':=st) hB hX (by rw [hX]; exact heap4 _ K.h7)
 clear hX E a
 refine rf_ [(8,lw')] (h5_ t0 t1 t2 t6 t7) ?_
 rintro a A ⟨t8,-⟩ ⟨t0,t1,t2,t6,t7,-⟩
 obtain ⟨L,eL⟩:∃ L,(S.ask S.n (S.at (scr l sc) x j)).1=L:=⟨_,rfl⟩
 obtain ⟨al,eal⟩:∃ al,S.alv S.n (S.at (scr l sc) x j)=al:=⟨_,rfl⟩
 have hLl:L.length<=S.n:=by rw [← eL]; exact S.ask_len _
 rw [eL,eal] at K
 refine wp_join9 (fun a X5=>(a.tmps.size=60/\a.defers=[])/\a.eval (.tmp 0)=.slice (some ⟨sb,0,none⟩) S.n cap/\a.eval (.tmp 1)=cv/\a.eval (.tmp 2)=.int .i64 most/\a.eval (.tmp 6)=.pointer (some ⟨g6,0,none⟩)/\a.eval (.tmp 7)=.pointer (some ⟨g7,0,none⟩)/\a.eval (.tmp 8)=lw'/\Wk S V F g6 g7 (S.pks (scr l sc) x j) L (S.ask S.n (S.at (scr l sc) x j)).2 X5 pk lw' (!al) (al && decide (L.length=0)) F3) ?_ ?_
 ·cases al with
  | true=>
   refine wi_ A (h6_ t0 t1 t2 t6 t7 t8) (rv_ 0 (.pointer (some ⟨g7,2,none⟩)) (fun a E=>execFh2 rfl (E _)) (rv_ 1 (.bool false) (fun a E=>execLdG rfl (Or.inr (Or.inr (Or.inl rfl))) (E _) (hC_at K.h7).2.2.1) (rv_ 2 (.bool true) (fun a E=>execNot8 (b:=false) rfl (E _)) (rv_ 5 (.int .i64 ((L.length:Nat):Int)) (fun a E=>execLenI rfl (E _) (own_shp K.may)) (rv_ 6 (.bool (decide (L.length=0))) (fun a E=>execEqN (p:=L.length) (q:=0) rfl (E _) rfl) (rv_ 8 (.pointer (some ⟨g7,3,none⟩)) (fun a E=>execFh3 rfl (E _)) (rs_ 9 (fun a E=>?_))))))))
   refine stepS rfl rfl (execSt9 rfl (Or.inr (Or.inl rfl)) (E _) (E _) (Or.inr (Or.inl ⟨_,rfl⟩)) (hC_at K.h7).2.2.2.1 (frozen4 K.h7)) ⟨_,⟨_,rfl,rfl⟩,fun X5 hX=>?_⟩
   have K5:=K.set (en':=false) (st':=decide (L.length=0)) hB hX (by rw [hX]; exact heap4 _ K.h7)
   clear hX E a
   refine rf_ [] (h6_ t0 t1 t2 t6 t7 t8) ?_
   rintro a A - ⟨t0,t1,t2,t6,t7,t8,-⟩
   exact ⟨rfl,A,t0,t1,t2,t6,t7,t8,by rw [Bool.true_and]; exact K5⟩
  | false=>
   refine wi_ A (h6_ t0 t1 t2 t6 t7 t8) (rv_ 0 (.pointer (some ⟨g7,2,none⟩)) (fun a E=>execFh2 rfl (E _)) (rv_ 1 (.bool true) (fun a E=>execLdG rfl (Or.inr (Or.inr (Or.inl rfl))) (E _) (hC_at K.h7).2.2.1) (rv_ 2 (.bool false) (fun a E=>execNot8 (b:=true) rfl (E _)) (rv_ 8 (.pointer (some ⟨g7,3,none⟩)) (fun a E=>execFh3 rfl (E _)) (rs_ 9 (fun a E=>?_))))))
   refine stepS rfl rfl (execSt9 rfl (Or.inr (Or.inl rfl)) (E _) (E _) (Or.inr (Or.inl ⟨_,rfl⟩)) (hC_at K.h7).2.2.2.1 (frozen4 K.h7)) ⟨_,⟨_,rfl,rfl⟩,fun X5 hX=>?_⟩
   have K5:=K.set (en':=true) (st':=false) hB hX (by rw [hX]; exact heap4 _ K.h7)
   clear hX E a
   refine rf_ [] (h6_ t0 t1 t2 t6 t7 t8) ?_
   rintro a A - ⟨t0,t1,t2,t6,t7,t8,-⟩
   exact ⟨rfl,A,t0,t1,t2,t6,t7,t8,by rw [Bool.false_and]; exact K5⟩
 ·clear K A t0 t1 t2 t6 t7 t8 a
  rintro a X5 ⟨A,t0,t1,t2,t6,t7,t8,K⟩
  have hpk:∃ ao c,pk=.slice ao j c:=by have:=own_shp K.own; rw [S.pks_len] at this; exact this
  refine wp_seq (wp_seq ?_)
  by_cases hl0:L.length=0
  ·refine wi_ A (h6_ t0 t1 t2 t6 t7 t8) (rv_ 1 (.int .i64 ((L.length:Nat):Int)) (fun a E=>execLenI rfl (E _) (own_shp K.may)) (rv_ 2 (.bool true) (fun a E=>execDec (execEqN (p:=L.length) (q:=0) rfl (E _) rfl) (decide_eq_true hl0)) (rf_ [(36,.bool true)] (h6_ t0 t1 t2 t6 t7 t8) ?_)))
   rintro a A ⟨t36,-⟩ ⟨t0,t1,t2,t6,t7,t8,-⟩
   refine wp_cond_true t36 ?_
   refine wp_seq ?_
   refine wi_ A (h2_ t6 t7) (rv_ 0 (.agg (hC pk 0 (!al) (al && decide (L.length=0)) 0 (.slice none 0 0))) (fun a E=>execLdHw rfl (E _) K.h7) (rs_ 1 (fun a E=>?_)))
   refine stepS rfl rfl (execStH rfl (E _) (E _) K.h6 (sl3 (own_shp K.own)) ⟨_,_,_,rfl⟩) ⟨_,⟨_,rfl,rfl⟩,fun X6 hX=>?_⟩
   have F6:X6.heap[g6]?=some (.cells (hC pk 0 (!al) (al && decide (L.length=0)) 0 (.slice none 0 0)) 29):=by rw [hX]; exact setRow_heap _ _ _ _ _ _ K.h6
   have hB6:Saved (fun b=>b=g6) X5 X6:=by
    have hb:Below g6 X5 X6:=by rw [hX]; exact below4 (Below.refl _ _) (Nat.le_refl _) _
    refine ⟨hb.os,hb.tape,hb.output,hb.size,fun b _ hn=>?_⟩
    rw [hX,setRow_other _ _ _ _ (fun z=>hn z)]
   have l6:=(Array.getElem?_eq_some_iff.1 K.h6).1
   clear hX E a
   refine rf_ [] (h1_ t6) ?_
   rintro a A - ⟨t6,-⟩
   refine wp_ret ?_
   repeat (first | with_reducible refine ret_in ?_ | with_reducible refine ret_then ?_)
   refine bodyPost_ret (results_cell_row Try.results27 _ _ g6 29 _ (0,0) _ t6 F6 Try.underlying29 rfl (sizeHw _ _ _ _ _ _)) A.2 ⟨j,pk,F3,hj,hgo,Or.inl (by rw [eL]; exact List.length_eq_zero_iff.1 hl0),?_,?_,?_,?_,K.sub,K.op⟩
   ·rw [eL,eal]
    congr 4
    exact decide_eq_decide.2 List.length_eq_zero_iff
   ·have h1:=own_frame (X:=X6) (P:=fun b=>pk.ownBlock=some b) K.own (fun _ q=>q) (fun b hb=>hB6.block b (K.own.lt b hb).2 (row_ne K.own K.h6 (by decide) b hb))
    rw [S.pks_len,intsL_congr (g:=fun i=>((S.pk (scr l sc) x i:Nat):Int)) (fun i hi=>by unfold nL Stm.pks; rw [List.getD_eq_getElem?_getD,List.getElem?_map,List.getElem?_range hi]; rfl)] at h1
    exact h1
   ·exact S.frame K.R ⟨hB6.os,hB6.tape,hB6.output,hB6.size,fun b hb hn=>hB6.block b hb (fun w=>hn (by rw [w]; exact ⟨Nat.le_trans hB K.ge6,K.o6⟩))⟩
   ·exact ⟨hB6.os.trans K.sv.os,hB6.tape.trans K.sv.tape,hB6.output.trans K.sv.output,Nat.le_trans K.sv.size hB6.size,fun b hb hn=>by rw [hB6.block b (Nat.lt_of_lt_of_le hb K.sv.size) (fun w=>by have:=K.ge6; omega),K.sv.block b hb hn]⟩
  ·by_cases hm0:((j:Nat):Int) ≥ most
   ·refine wi_ A (h6_ t0 t1 t2 t6 t7 t8) (rv_ 1 (.int .i64 ((L.length:Nat):Int)) (fun a E=>execLenI rfl (E _) (own_shp K.may)) (rv_ 2 (.bool false) (fun a E=>execDec (execEqN (p:=L.length) (q:=0) rfl (E _) rfl) (decide_eq_false hl0)) (rv_ 4 (.pointer (some ⟨g7,0,none⟩)) (fun a E=>execFh0 rfl (E _)) (rv_ 5 pk (fun a E=>execLdG rfl (Or.inl rfl) (E _) (hC_at K.h7).1) (rv_ 6 (.int .i64 ((j:Nat):Int)) (fun a E=>execLenI rfl (E _) hpk) (rv_ 8 (.bool true) (fun a E=>execDec (exIgeq3 (p:=((j:Nat):Int)) (q:=most) rfl (E _) (E _)) (decide_eq_true hm0)) (rf_ [(36,.bool true)] (h6_ t0 t1 t2 t6 t7 t8) ?_)))))))
    rintro a A ⟨t36,-⟩ ⟨t0,t1,t2,t6,t7,t8,-⟩
    refine wp_cond_true t36 ?_
    refine wp_seq ?_
    refine wi_ A (h2_ t6 t7) (rv_ 0 (.agg (hC pk 0 (!al) (al && decide (L.length=0)) 0 (.slice none 0 0))) (fun a E=>execLdHw rfl (E _) K.h7) (rs_ 1 (fun a E=>?_)))
    refine stepS rfl rfl (execStH rfl (E _) (E _) K.h6 (sl3 (own_shp K.own)) ⟨_,_,_,rfl⟩) ⟨_,⟨_,rfl,rfl⟩,fun X6 hX=>?_⟩
    have F6:X6.heap[g6]?=some (.cells (hC pk 0 (!al) (al && decide (L.length=0)) 0 (.slice none 0 0)) 29):=by rw [hX]; exact setRow_heap _ _ _ _ _ _ K.h6
    have hB6:Saved (fun b=>b=g6) X5 X6:=by
     have hb:Below g6 X5 X6:=by rw [hX]; exact below4 (Below.refl _ _) (Nat.le_refl _) _
     refine ⟨hb.os,hb.tape,hb.output,hb.size,fun b _ hn=>?_⟩
     rw [hX,setRow_other _ _ _ _ (fun z=>hn z)]
    have l6:=(Array.getElem?_eq_some_iff.1 K.h6).1
    clear hX E a
    refine rf_ [] (h1_ t6) ?_
    rintro a A - ⟨t6,-⟩
    refine wp_ret ?_
    repeat (first | with_reducible refine ret_in ?_ | with_reducible refine ret_then ?_)
    refine bodyPost_ret (results_cell_row Try.results27 _ _ g6 29 _ (0,0) _ t6 F6 Try.underlying29 rfl (sizeHw _ _ _ _ _ _)) A.2 ⟨j,pk,F3,hj,hgo,Or.inr (by omega),?_,?_,?_,?_,K.sub,K.op⟩
    ·rw [eL,eal]
     congr 4
     exact decide_eq_decide.2 List.length_eq_zero_iff
    ·have h1:=own_frame (X:=X6) (P:=fun b=>pk.ownBlock=some b) K.own (fun _ q=>q) (fun b hb=>hB6.block b (K.own.lt b hb).2 (row_ne K.own K.h6 (by decide) b hb))
     rw [S.pks_len,intsL_congr (g:=fun i=>((S.pk (scr l sc) x i:Nat):Int)) (fun i hi=>by unfold nL Stm.pks; rw [List.getD_eq_getElem?_getD,List.getElem?_map,List.getElem?_range hi]; rfl)] at h1
     exact h1
    ·exact S.frame K.R ⟨hB6.os,hB6.tape,hB6.output,hB6.size,fun b hb hn=>hB6.block b hb (fun w=>hn (by rw [w]; exact ⟨Nat.le_trans hB K.ge6,K.o6⟩))⟩
    ·exact ⟨hB6.os.trans K.sv.os,hB6.tape.trans K.sv.tape,hB6.output.trans K.sv.output,Nat.le_trans K.sv.size hB6.size,fun b hb hn=>by rw [hB6.block b (Nat.lt_of_lt_of_le hb K.sv.size) (fun w=>by have:=K.ge6; omega),K.sv.block b hb hn]⟩
   ·refine wi_ A (h6_ t0 t1 t2 t6 t7 t8) (rv_ 1 (.int .i64 ((L.length:Nat):Int)) (fun a E=>execLenI rfl (E _) (own_shp K.may)) (rv_ 2 (.bool false) (fun a E=>execDec (execEqN (p:=L.length) (q:=0) rfl (E _) rfl) (decide_eq_false hl0)) (rv_ 4 (.pointer (some ⟨g7,0,none⟩)) (fun a E=>execFh0 rfl (E _)) (rv_ 5 pk (fun a E=>execLdG rfl (Or.inl rfl) (E _) (hC_at K.h7).1) (rv_ 6 (.int .i64 ((j:Nat):Int)) (fun a E=>execLenI rfl (E _) hpk) (rv_ 8 (.bool false) (fun a E=>execDec (exIgeq3 (p:=((j:Nat):Int)) (q:=most) rfl (E _) (E _)) (decide_eq_false hm0)) (rf_ [(36,.bool false)] (h6_ t0 t1 t2 t6 t7 t8) ?_)))))))
    rintro a A ⟨t36,-⟩ ⟨t0,t1,t2,t6,t7,t8,-⟩
    refine wp_cond_false t36 (wp_skip ?_)
    clear t36
    have hLn:(S.ask S.n (S.at (scr l sc) x j)).1 ≠ []:=by rw [eL]; intro w; rw [w] at hl0; exact hl0 rfl
    have hjm:j < most.toNat:=by omega
    have hlL:∀ t ∈ L,t < 1000001:=fun t ht=>by have:=S.ask_lt (by rw [eL]; exact ht:t ∈ (S.ask S.n (S.at (scr l sc) x j)).1); omega
    have hLS:=nL_slice K.may hlL
    have hcv:SliceI X5 cv l sc:=sliceI_sav hS K.sv hcF
    have hch:chn (scr l sc j) L.length < L.length:=chn_lt (by omega)
    obtain ⟨mb,mo,mc,em,hmb,hmc⟩:=ints_open hLS (by omega)
    have epk:S.pk (scr l sc) x j=L.getD (chn (scr l sc j) L.length) 0:=by unfold Stm.pk; rw [eL]
    have hpl:S.pk (scr l sc) x j < S.n:=S.ask_lt (S.pk_mem hLn)
    refine wp_seq ?_
    refine wi_ A (h6_ t0 t1 t2 t6 t7 t8) (rv_ 2 (.pointer (some ⟨g7,0,none⟩)) (fun a E=>execFh0 rfl (E _)) (rv_ 3 pk (fun a E=>execLdG rfl (Or.inl rfl) (E _) (hC_at K.h7).1) (rv_ 4 (.int .i64 ((j:Nat):Int)) (fun a E=>execLenI rfl (E _) hpk) (rv_ 6 (.int .i64 ((L.length:Nat):Int)) (fun a E=>execLenI rfl (E _) (own_shp K.may)) (rc_ 7 (pchoice hcv (by omega) (by omega)) (cb_ fun X6 bQ=>?_))))))
    replace K:=K.on bQ
    have hcell:X6.cell? ⟨mb,mo+chn (scr l sc j) L.length,none⟩=some (.int .i64 ((S.pk (scr l sc) x j:Nat):Int)):=by
     rw [cell_below bQ hmb,hmc _ hch,epk]
     rfl
    clear bQ
    refine rv_ 8 (.pointer (some ⟨mb,mo+chn (scr l sc j) L.length,none⟩)) (fun a E=>execIdxN (k:=chn (scr l sc j) L.length) rfl ((E _).trans em) (E _) hch) (rv_ 9 (.int .i64 ((S.pk (scr l sc) x j:Nat):Int)) (fun a E=>execLd3 rfl (E _) hcell) (rf_ [(9,.int .i64 ((S.pk (scr l sc) x j:Nat):Int))] (h6_ t0 t1 t2 t6 t7 t8) ?_))
    rintro a A ⟨t9,-⟩ ⟨t0,t1,t2,t6,t7,t8,-⟩
    refine wp_seq ?_
    refine wi_ A (h7_ t0 t1 t2 t6 t7 t8 t9) (rv_ 0 (.pointer (some ⟨g7,0,none⟩)) (fun a E=>execFh0 rfl (E _)) (rv_ 1 pk (fun a E=>execLdG rfl (Or.inl rfl) (E _) (hC_at K.h7).1) (rs_ 3 (fun a E=>?_))))
    refine stepV rfl rfl (execBsI rfl (E _)) ⟨_,⟨_,rfl,rfl⟩,fun X7 hX7=>?_⟩
    have bQ:Below X6.heap.size X6 X7:=by rw [hX7]; exact belNew X6 _
    have Fl:X7.heap[X6.heap.size]?=some (.cells #[.int .i64 ((S.pk (scr l sc) x j:Nat):Int)] 3):=by rw [hX7]; exact heapNew X6 _
    replace K:=K.on bQ
    have hpl2:(S.pks (scr l sc) x j).length=j:=S.pks_len
    obtain ⟨v',W',hr,r1,r2⟩:=Brd.run_app2L X7 22 V.heap.size (S.pks (scr l sc) x j).length 1 pk (.slice (some ⟨X6.heap.size,0,none⟩) 1 1) (nL (S.pks (scr l sc) x j)) (fun _=>((S.pk (scr l sc) x j:Nat):Int)) K.own (one_int (by unfold I64; omega) Fl) ⟨_,_,rfl⟩ (by omega) (by omega) K.sv.size
    refine rs_ 4 (fun a E=>?_)
    refine stepV rfl rfl (execApI rfl (E _) (E _) hr) ⟨_,⟨_,rfl,rfl⟩,fun X8 hX8=>?_⟩
    subst hX8
    have h7':=app_hand (by decide) K.h7 K.own r2
    refine rv_ 5 (.pointer (some ⟨g7,0,none⟩)) (fun a E=>execFh0 rfl (E _)) (rs_ 6 (fun a E=>?_))
    refine stepS rfl rfl (execSt9 rfl (Or.inr (Or.inr (Or.inl rfl))) (E _) (E _) (Or.inr (Or.inr (Or.inr (sl3 (own_shp r1))))) (hC_at h7').1 (frozen4 h7')) ⟨_,⟨_,rfl,rfl⟩,fun X9 hX=>?_⟩
    replace K:=K.pick hB r1 r2 hX
    rw [← S.pks_succ] at K
    clear hX E a hr r1 r2 h7'
    refine rf_ [] (h7_ t0 t1 t2 t6 t7 t8 t9) ?_
    rintro a A - ⟨t0,t1,t2,t6,t7,t8,t9,-⟩
    have hrow9:Srow S X9 sb:=by
     obtain ⟨cur,r1,r2⟩:=hrow0
     exact ⟨cur,by rw [K.sv.block sb (Array.getElem?_eq_some_iff.1 r1).1 hF]; exact r1,r2⟩
    refine wi_ A (h7_ t0 t1 t2 t6 t7 t8 t9) (rv_ 2 (.pointer (some ⟨sb,0+S.pk (scr l sc) x j * 3,none⟩)) (fun a E=>execIxK (k:=S.pk (scr l sc) x j) rfl (E _) (E _) hpl) (rv_ 3 (.pointer (some ⟨sb,0+S.pk (scr l sc) x j * 3+2,none⟩)) (fun a E=>execSf2 rfl (E _)) (rv_ 4 (fv3 (S.sf (S.pk (scr l sc) x j))) (fun a E=>execLdP rfl (Or.inr (Or.inr (Or.inr (Or.inr (Or.inr (Or.inr rfl)))))) (E _) (hrow9.at hpl).2.2) (rs_ 5 (fun a E=>?_)))))
    refine stepF rfl rfl rfl (E _) (S.eok _ hpl).2.2 (S.step hpl (hcan j hjm (fun i hi=>by rcases Nat.lt_or_eq_of_le hi with w | w; exact hgo i w; rw [w]; exact hLn)) K.R) fun e X10 hh=>?_
    obtain ⟨he,F5,hR5,hs5,hf5⟩:=hh
    refine ⟨_,he,_,⟨_,rfl,rfl⟩,eqw ?_⟩
    replace K:=K.step hR5 hs5 hf5
    clear hs5 hf5 hR5 he E a
    refine rf_ [] (h6_ t0 t1 t2 t6 t7 t8) ?_
    rintro a A - ⟨t0,t1,t2,t6,t7,t8,-⟩
    have enp2:=K.npk
    rw [S.pks_len] at enp2
    exact ⟨⟨j+1,v',lw',L,_,_,F5,by omega,fun i hi=>by rcases Nat.lt_succ_iff_lt_or_eq.1 hi with w | w; exact hgo i w; rw [w]; exact hLn,A,t0,t1,t2,t6,t7,t8,K⟩,by show most.toNat - npk X10 g7 < most.toNat - npk XL g7; rw [enp,enp2]; omega⟩
end Go.Proofs.Ytjjegmflllpknaa.Loo
