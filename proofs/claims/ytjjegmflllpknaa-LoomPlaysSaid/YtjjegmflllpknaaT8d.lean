import Derived.Test.YtjjegmflllpknaaT8b
import Derived.Test.YtjjegmflllpknaaE8n
import Derived.Test.YtjjegmflllpknaaN9a
import Derived.Test.YtjjegmflllpknaaN8k
namespace Go.Proofs.Ytjjegmflllpknaa.Loo
open Go.RowKit Gf8 Aes By8 Cel Cf Win Drw Prm
/- The reference's Chosen; the log's played. Written by tools/mkT8c.py. -/
section
variable {S:Sys Lg} {D:Sd} {en:Nat->Bool} {x:Lg} {t:Nat}
end
structure OffP (F3 F:Nat->Prop) (V:World) (g8 g9 eb:Nat) (pk:Value):Prop where
 o8:¬ F3 g8
 o9:¬ F3 g9
 oe:¬ F3 eb
 op:∀ b,pk.ownBlock=some b->¬ F3 b
 sub:∀ q,F3 q->F q\/V.heap.size<=q
theorem OffP.next {F3 F4 F:Nat->Prop} {V X:World} {g8 g9 eb:Nat} {pk:Value} (h:OffP F3 F V g8 g9 eb pk) (hf:∀ q,F4 q->F3 q\/X.heap.size<=q) (l8:g8 < X.heap.size) (l9:g9 < X.heap.size) (le:eb < X.heap.size) (lp:∀ b,pk.ownBlock=some b->b < X.heap.size) (hs:V.heap.size<=X.heap.size):OffP F4 F V g8 g9 eb pk:=
 ⟨fun w=>(hf _ w).elim h.o8 (fun w=>by omega),fun w=>(hf _ w).elim h.o9 (fun w=>by omega),fun w=>(hf _ w).elim h.oe (fun w=>by omega),fun b hb w=>(hf _ w).elim (h.op b hb) (fun w=>by have:=lp b hb; omega),fun q w=>(hf q w).elim (h.sub q) (fun w=>Or.inr (Nat.le_trans hs w))⟩
theorem own_sv19 {F:Nat->Prop} {X Y:World} {B t s n:Nat} {v:Value} {xs:List Value} (h:X.ownsRow B t s v n xs) (hs:Saved F X Y) (hn:∀ g,v.ownBlock=some g->¬ F g):Y.ownsRow B t s v n xs:=own_keep h fun b hb=>hs.block b (h.lt b hb).2 (hn b hb)
theorem bk_sv19 {F:Nat->Prop} {X Y:World} {g:Nat} {c:Obj} (h:X.heap[g]?=some c) (hs:Saved F X Y) (hn:¬ F g):Y.heap[g]?=some c:=(hs.block g (Array.getElem?_eq_some_iff.1 h).1 hn).trans h
theorem npk_of {W:World} {g:Nat} {pk tk:Value} {m l n:Nat} {en st:Bool} {t:TypeId} (h:W.heap[g]?=some (.cells (hC pk m en st l tk) t)) (hp:∃ a c,pk=.slice a n c):npk W g=n:=by
 obtain ⟨a,c,rfl⟩:=hp
 unfold npk
 rw [(hC_at h).1]
theorem exit_past19 {id jd:Nat} {Q:Exit->Act->World->Prop} {a:Act} {w:World} (hne:jd ≠ id) (h:Q (.exit jd) a w):Exit.inBlock id Q (.exit jd) a w:=by
 simp only [Exit.inBlock,if_neg hne]
 exact h
theorem hC_s0 {W:World} {g:Nat} {pk tk u:Value} {m l:Nat} {en st:Bool} {t:TypeId} (h:W.heap[g]?=some (.cells (hC pk m en st l tk) t)):(W.setCell ⟨g,0,none⟩ u).heap[g]?=some (.cells (hC u m en st l tk) t):=heap4 _ h
theorem hC_s2 {W:World} {g:Nat} {pk tk:Value} {m l:Nat} {en st b:Bool} {t:TypeId} (h:W.heap[g]?=some (.cells (hC pk m en st l tk) t)):(W.setCell ⟨g,2,none⟩ (.bool b)).heap[g]?=some (.cells (hC pk m b st l tk) t):=heap4 _ h
theorem hC_s3 {W:World} {g:Nat} {pk tk:Value} {m l:Nat} {en st b:Bool} {t:TypeId} (h:W.heap[g]?=some (.cells (hC pk m en st l tk) t)):(W.setCell ⟨g,3,none⟩ (.bool b)).heap[g]?=some (.cells (hC pk m en b l tk) t):=heap4 _ h
set_option maxRecDepth 100000 in
set_option maxHeartbeats 4000000 in
theorem rchosen_g (cv:Value) (m:Nat) (sc:Nat->Int) (k mm:Nat) (V:World) (hS:SliceI V cv m sc) (hk:¬ k < m) :
  Calls Try.prog 23 #[cv,.int .i64 ((k:Nat):Int),.int .i64 ((mm:Nat):Int)] V fun e w'=>e=.returned (.int .i64 ((chn (scr m sc k) mm:Nat):Int))/\Below V.heap.size V w':=by
 go_enter Try.func23,Try.ntmps23
 refine wo_ 24 [(0,cv),(1,.int .i64 ((k:Nat):Int)),(2,.int .i64 ((mm:Nat):Int))] ?_
 rintro a A ⟨t0,t1,t2,-⟩
 have BB:Below V.heap.size V V:=Below.refl _ _
 refine wp_seq ?_
 refine wi_ A (h3_ t0 t1 t2) (rf_ [] (h3_ t0 t1 t2) ?_)
 rintro a A - ⟨t0,t1,t2,-⟩
 refine wp_seq (wp_seq ?_)
 refine wi_ A (h3_ t0 t1 t2) (rv_ 2 (.int .i64 ((m:Nat):Int)) (fun a E=>execLenI (len:=m) rfl (E _) hS.shp) (rv_ 3 (.bool true) (fun a E=>execDec (exIgeq3 (p:=((k:Nat):Int)) (q:=((m:Nat):Int)) rfl (E _) (E _)) (decide_eq_true (by omega))) (rf_ [(11,.bool true)] (h3_ t0 t1 t2) ?_)))
 rintro a A ⟨t11,-⟩ ⟨t0,t1,t2,-⟩
 refine wp_cond_true t11 ?_
 clear t11
 refine wp_seq ?_
 refine wi_ A (h3_ t0 t1 t2) (rg_ [(6,.int .i64 ((0:Nat):Int))] ?_)
 rintro a A ⟨t6,-⟩
 refine wp_ret ?_
 repeat (first | with_reducible refine ret_in ?_ | with_reducible refine ret_then ?_)
 refine bodyPost_ret (results_tmp rfl _ _ _) A.2 ⟨?_,BB⟩
 show Ending.returned (a.eval (.tmp 6))=_
 rw [t6]
 rw [show scr m sc k=0 from if_neg (by omega),chn_zero]
set_option maxRecDepth 100000 in
set_option maxHeartbeats 4000000 in
theorem rchosen_p (cv:Value) (m:Nat) (sc:Nat->Int) (k mm:Nat) (V:World) (hS:SliceI V cv m sc) (hm:0 < mm) (hm2:mm<=1000000) (hk:k < m) (hz:¬ Int.tmod (sc k) ((mm:Nat):Int) < 0) :
  Calls Try.prog 23 #[cv,.int .i64 ((k:Nat):Int),.int .i64 ((mm:Nat):Int)] V fun e w'=>e=.returned (.int .i64 ((chn (scr m sc k) mm:Nat):Int))/\Below V.heap.size V w':=by
 obtain ⟨pa,pc,es_,-,-,hs_⟩:=hS.shape
 obtain ⟨pb,po,epa,hpb,hpc⟩:=hs_ (by omega)
 have ep_:cv=.slice (some ⟨pb,po,none⟩) m pc:=by rw [es_,epa]
 have cP:∀ X,Below V.heap.size V X->X.cell? ⟨pb,po+k,none⟩=some (.int .i64 (sc k)):=fun X hX=>by rw [cell_below hX hpb]; exact hpc k (by omega)
 obtain ⟨m1,m2,m3⟩:=tmod_in (n:=sc k) (m:=((mm:Nat):Int)) (by omega)
 have hzz:(Int.tmod (sc k) ((mm:Nat):Int))=((chn (scr m sc k) mm:Nat):Int):=by
  rw [show scr m sc k=sc k from if_pos (by omega)]
  unfold chn
  rw [m3,if_neg hz]
  omega
 go_enter Try.func23,Try.ntmps23
 refine wo_ 24 [(0,cv),(1,.int .i64 ((k:Nat):Int)),(2,.int .i64 ((mm:Nat):Int))] ?_
 rintro a A ⟨t0,t1,t2,-⟩
 have BB:Below V.heap.size V V:=Below.refl _ _
 refine wp_seq ?_
 refine wi_ A (h3_ t0 t1 t2) (rf_ [] (h3_ t0 t1 t2) ?_)
 rintro a A - ⟨t0,t1,t2,-⟩
 refine wp_seq (wp_seq ?_)
 refine wi_ A (h3_ t0 t1 t2) (rv_ 2 (.int .i64 ((m:Nat):Int)) (fun a E=>execLenI (len:=m) rfl (E _) hS.shp) (rv_ 3 (.bool false) (fun a E=>execDec (exIgeq3 (p:=((k:Nat):Int)) (q:=((m:Nat):Int)) rfl (E _) (E _)) (decide_eq_false (by omega))) (rf_ [(11,.bool false)] (h3_ t0 t1 t2) ?_)))
 rintro a A ⟨t11,-⟩ ⟨t0,t1,t2,-⟩
 refine wp_cond_false t11 (wp_skip ?_)
 clear t11
 refine wp_seq ?_
 refine wi_ A (h3_ t0 t1 t2) (rv_ 2 (.pointer (some ⟨pb,po+k,none⟩)) (fun a E=>execIdxN (k:=k) rfl ((E _).trans ep_) (E _) (show k < m by omega)) (rv_ 3 (.int .i64 (sc k)) (fun a E=>execLm rfl (Or.inl rfl) (E _) (cP V BB)) (rv_ 5 (.int .i64 (Int.tmod (sc k) ((mm:Nat):Int))) (fun a E=>exRemZ (p:=sc k) (q:=((mm:Nat):Int)) rfl (E _) (E _) (by omega)) (rf_ [(7,.int .i64 (Int.tmod (sc k) ((mm:Nat):Int)))] (h1_ t2) ?_))))
 rintro a A ⟨t7,-⟩ ⟨t2,-⟩
 refine wp_seq (wp_seq ?_)
 refine wi_ A (h2_ t2 t7) (rv_ 1 (.bool false) (fun a E=>execDec (exIlss3 (p:=(Int.tmod (sc k) ((mm:Nat):Int))) (q:=0) rfl (E _) rfl) (decide_eq_false hz)) (rf_ [(19,.bool false)] (h2_ t2 t7) ?_))
 rintro a A ⟨t19,-⟩ ⟨t2,t7,-⟩
 refine wp_cond_false t19 (wp_skip ?_)
 clear t19
 rw [hzz] at t7
 refine wp_seq ?_
 refine wi_ A (h2_ t2 t7) (rg_ [(6,.int .i64 ((chn (scr m sc k) mm:Nat):Int))] ?_)
 rintro a A ⟨t6,-⟩
 refine wp_ret ?_
 refine bodyPost_ret (results_tmp rfl _ _ _) A.2 ⟨?_,BB⟩
 show Ending.returned (a.eval (.tmp 6))=_
 rw [t6]
set_option maxRecDepth 100000 in
set_option maxHeartbeats 4000000 in
theorem rchosen_n (cv:Value) (m:Nat) (sc:Nat->Int) (k mm:Nat) (V:World) (hS:SliceI V cv m sc) (hm:0 < mm) (hm2:mm<=1000000) (hk:k < m) (hz:Int.tmod (sc k) ((mm:Nat):Int) < 0) :
  Calls Try.prog 23 #[cv,.int .i64 ((k:Nat):Int),.int .i64 ((mm:Nat):Int)] V fun e w'=>e=.returned (.int .i64 ((chn (scr m sc k) mm:Nat):Int))/\Below V.heap.size V w':=by
 obtain ⟨pa,pc,es_,-,-,hs_⟩:=hS.shape
 obtain ⟨pb,po,epa,hpb,hpc⟩:=hs_ (by omega)
 have ep_:cv=.slice (some ⟨pb,po,none⟩) m pc:=by rw [es_,epa]
 have cP:∀ X,Below V.heap.size V X->X.cell? ⟨pb,po+k,none⟩=some (.int .i64 (sc k)):=fun X hX=>by rw [cell_below hX hpb]; exact hpc k (by omega)
 obtain ⟨m1,m2,m3⟩:=tmod_in (n:=sc k) (m:=((mm:Nat):Int)) (by omega)
 have hzz:(Int.tmod (sc k) ((mm:Nat):Int))+((mm:Nat):Int)=((chn (scr m sc k) mm:Nat):Int):=by
  rw [show scr m sc k=sc k from if_pos (by omega)]
  unfold chn
  rw [m3,if_pos hz]
  omega
 go_enter Try.func23,Try.ntmps23
 refine wo_ 24 [(0,cv),(1,.int .i64 ((k:Nat):Int)),(2,.int .i64 ((mm:Nat):Int))] ?_
 rintro a A ⟨t0,t1,t2,-⟩
 have BB:Below V.heap.size V V:=Below.refl _ _
 refine wp_seq ?_
 refine wi_ A (h3_ t0 t1 t2) (rf_ [] (h3_ t0 t1 t2) ?_)
 rintro a A - ⟨t0,t1,t2,-⟩
 refine wp_seq (wp_seq ?_)
 refine wi_ A (h3_ t0 t1 t2) (rv_ 2 (.int .i64 ((m:Nat):Int)) (fun a E=>execLenI (len:=m) rfl (E _) hS.shp) (rv_ 3 (.bool false) (fun a E=>execDec (exIgeq3 (p:=((k:Nat):Int)) (q:=((m:Nat):Int)) rfl (E _) (E _)) (decide_eq_false (by omega))) (rf_ [(11,.bool false)] (h3_ t0 t1 t2) ?_)))
 rintro a A ⟨t11,-⟩ ⟨t0,t1,t2,-⟩
 refine wp_cond_false t11 (wp_skip ?_)
 clear t11
 refine wp_seq ?_
 refine wi_ A (h3_ t0 t1 t2) (rv_ 2 (.pointer (some ⟨pb,po+k,none⟩)) (fun a E=>execIdxN (k:=k) rfl ((E _).trans ep_) (E _) (show k < m by omega)) (rv_ 3 (.int .i64 (sc k)) (fun a E=>execLm rfl (Or.inl rfl) (E _) (cP V BB)) (rv_ 5 (.int .i64 (Int.tmod (sc k) ((mm:Nat):Int))) (fun a E=>exRemZ (p:=sc k) (q:=((mm:Nat):Int)) rfl (E _) (E _) (by omega)) (rf_ [(7,.int .i64 (Int.tmod (sc k) ((mm:Nat):Int)))] (h1_ t2) ?_))))
 rintro a A ⟨t7,-⟩ ⟨t2,-⟩
 refine wp_seq (wp_seq ?_)
 refine wi_ A (h2_ t2 t7) (rv_ 1 (.bool true) (fun a E=>execDec (exIlss3 (p:=(Int.tmod (sc k) ((mm:Nat):Int))) (q:=0) rfl (E _) rfl) (decide_eq_true hz)) (rf_ [(19,.bool true)] (h2_ t2 t7) ?_))
 rintro a A ⟨t19,-⟩ ⟨t2,t7,-⟩
 refine wp_cond_true t19 ?_
 clear t19
 refine wi_ A (h2_ t2 t7) (rv_ 2 (.int .i64 ((Int.tmod (sc k) ((mm:Nat):Int))+((mm:Nat):Int))) (fun a E=>exAddZ (p:=(Int.tmod (sc k) ((mm:Nat):Int))) (q:=((mm:Nat):Int)) rfl (E _) (E _) ⟨by omega,by omega⟩) (rg_ [(7,.int .i64 ((Int.tmod (sc k) ((mm:Nat):Int))+((mm:Nat):Int)))] ?_))
 rintro a A ⟨t7,-⟩
 rw [hzz] at t7
 refine wp_seq ?_
 refine wi_ A (h1_ t7) (rg_ [(6,.int .i64 ((chn (scr m sc k) mm:Nat):Int))] ?_)
 rintro a A ⟨t6,-⟩
 refine wp_ret ?_
 refine bodyPost_ret (results_tmp rfl _ _ _) A.2 ⟨?_,BB⟩
 show Ending.returned (a.eval (.tmp 6))=_
 rw [t6]
theorem rchosen (cv:Value) (m:Nat) (sc:Nat->Int) (k mm:Nat) (V:World) (hS:SliceI V cv m sc) (hm:0 < mm) (hm2:mm<=1000000):Calls Try.prog 23 #[cv,.int .i64 ((k:Nat):Int),.int .i64 ((mm:Nat):Int)] V fun e w'=>e=.returned (.int .i64 ((chn (scr m sc k) mm:Nat):Int))/\Below V.heap.size V w':=by
 by_cases hk:k < m
 ·by_cases hz:Int.tmod (sc k) ((mm:Nat):Int) < 0
  ·exact rchosen_n cv m sc k mm V hS hm hm2 hk hz
  ·exact rchosen_p cv m sc k mm V hS hm hm2 hk hz
 ·exact rchosen_g cv m sc k mm V hS hk
end Go.Proofs.Ytjjegmflllpknaa.Loo

namespace Go.Proofs.Ytjjegmflllpknaa.Loo
open Go.RowKit Gf8 Aes By8 Cel Cf Win Drw Prm
/- The log's played. Written by tools/mkT8d.py. -/
theorem grR19 {W:World} {g:Nat} {c:Array Value}:W.grownBy (W.setRow g c) (some g):=by
 have hb:Below g W (W.setRow g c):=below4 (Below.refl _ _) (Nat.le_refl _) c
 refine ⟨hb.os,hb.tape,hb.output,hb.size,fun b hbs hne=>?_⟩
 rw [setRow_other _ _ _ _ (fun e=>hne (by rw [e]))]
theorem sv_row19 {F:Nat->Prop} {V X:World} {g:Nat} (h:Saved F V X) (hg:V.heap.size<=g) (c:Array Value):Saved F V (X.setRow g c):=by
 refine ⟨h.os,h.tape,h.output,by simpa using h.size,fun k hk hk2=>?_⟩
 rw [setRow_other _ _ _ _ (fun e=>by omega),h.block k hk hk2]
theorem keepT19 {W X:World} {g k:Nat} {c d:Array Value} {t u:TypeId} (h:W.heap[k]?=some (.cells d u)) (hg:W.heap[g]?=some (.cells c t)) (ht:t ≠ u) (gr:W.grownBy X (some g)):X.heap[k]?=some (.cells d u):=by
 rw [gr.block k (Array.getElem?_eq_some_iff.1 h).1 (fun e=>by cases e; rw [h] at hg; cases hg; exact ht rfl)]
 exact h
theorem keepN19 {W X:World} {g k:Nat} {o:Obj} (h:W.heap[k]?=some o) (hn:k ≠ g) (gr:W.grownBy X (some g)):X.heap[k]?=some o:=by
 rw [gr.block k (Array.getElem?_eq_some_iff.1 h).1 (fun e=>hn (Option.some.inj e))]
 exact h
end Go.Proofs.Ytjjegmflllpknaa.Loo
