import Derived.Test.YtjjegmflllpknaaT8p
namespace Go.Proofs.Ytjjegmflllpknaa.Loo
open Go.RowKit Gf8 Aes By8 Cel Cf Win Drw Prm
/- LoomPlays: the reference's from, put. Written by tools/mkT8q.py. -/
theorem nrm_in {id:Nat} {Q:Exit->Act->World->Prop} {a:Act} {w:World} (h:Q .normal a w):Exit.inBlock id Q .normal a w:=h
theorem Hd.tail {B:Nat} {W:World} {b off c:Nat} {x:Int} {l:List Int} (h:Hd B W (.slice (some ⟨b,off,none⟩) (l.length+1) c) (x :: l)):Hd B W (.slice (some ⟨b,if c=1 then off else off+1,none⟩) l.length (c - 1)) l:=by
 obtain ⟨b2,off2,c2,e,_,_,h2⟩:=h.first
 injection e with e1 _ e3
 injection e1 with e1
 injection e1 with e4 e5 _
 subst e3
 subst e4
 subst e5
 exact h2
theorem frm_c {p:Pl} {r:Rm} {t d:Nat} {x:Int} {l:List Int} (h:r.hd d=x :: l):frm p r t d=got { r with hd:=upf r.hd d l } t x:=by unfold frm; rw [h]
theorem frm_n {p:Pl} {r:Rm} {t d g:Nat} (h:r.hd d=[]) (hg:giv p r d=some g):frm p r t d=got (on_ r g) t (r.rg g):=by unfold frm; rw [h,hg]; rfl
set_option maxRecDepth 100000 in
set_option maxHeartbeats 4000000 in
theorem rfrom (U:World) (q:RK) (p:Pl) (cv tz:Value) (xz:Nat->Value) (r:Rm) (gv kv:Nat->Int) (tv hv:Nat->Value) (ow:Nat->Nat) (V:World) (hp:PlV U cv tz xz p) (hU:Below U.heap.size U V) (h:RmM U.heap.size V q p cv tz r gv kv tv hv ow) (t d:Nat) (ht:t < p.n) (hd:d < p.d) (hl:(r.tk t).length<=65536) (hpl:r.pl t<=65536) (hpl3:∀ g,g < p.n->r.pl g<=60000) (hlk:Lkd p r gv kv) (hrd:r.hd d=[]->(giv p r d).isSome=true) :
  Calls Try.prog 39 #[.pointer (some ⟨q.g,0,none⟩),.int .i64 ((t:Nat):Int),.int .i64 ((d:Nat):Int)] V fun e w'=>e=.returned (.tuple #[])/\RTo U.heap.size V w' q p cv tz (frm p r t d) gv kv ow/\Below U.heap.size U w':=by
 cases hx:r.hd d with
 | cons x l=>
  rw [frm_c hx]
  go_enter Try.func39,Try.ntmps39
  refine wo_ 70 [(0,.pointer (some ⟨q.g,0,none⟩)),(1,.int .i64 ((t:Nat):Int)),(2,.int .i64 ((d:Nat):Int))] ?_
  rintro a A ⟨t0,t1,t2,-⟩
  have BB:=hU
  have FM:=h
  have FXs:Saved (fun b=>ow b ≠ 0) V V:=Saved.refl _ V
  have FL:∀ b,b < V.heap.size->ow b=ow b:=fun b _=>rfl
  have hlen:(r.hd d).length=l.length+1:=by rw [hx]; rfl
  refine wp_seq (wp_seq ?_)
  refine wi_ A (h3_ t0 t1 t2) (rv_ 1 (.pointer (some ⟨q.g,0,none⟩)) (fun a E=>execNlm rfl (E _)) (rv_ 2 (.pointer (some ⟨q.g,6,none⟩)) (fun a E=>execRo5 rfl (E _)) (rv_ 3 (sl0 q.H p.d) (fun a E=>execLr rfl (Or.inr (Or.inr (Or.inr (Or.inr (Or.inl rfl))))) (E _) (gR_at FM).2.2.2.2.2.2.1) (rv_ 5 (.pointer (some ⟨q.H,0+d,none⟩)) (fun a E=>execIxLL (k:=d) rfl (E _) (E _) hd) (rv_ 6 (hv d) (fun a E=>execLr rfl (Or.inr (Or.inr (Or.inl rfl))) (E _) (rA_c FM.hH hd)) (rv_ 7 (.int .i64 (((r.hd d).length:Nat):Int)) (fun a E=>execLenI (len:=(r.hd d).length) rfl (E _) (FM.hd d hd).shp) (rv_ 8 (.bool true) (fun a E=>execDec (exIgtr3 (p:=(((r.hd d).length:Nat):Int)) (q:=0) rfl (E _) rfl) (decide_eq_true (by omega))) (rf_ [(16,.bool true)] (h3_ t0 t1 t2) ?_))))))))
  rintro a A ⟨t16,-⟩ ⟨t0,t1,t2,-⟩
  refine wp_cond_true t16 ?_
  clear t16
  refine wp_seq ?_
  have hHd:=h.hd d hd
  rw [hx] at hHd
  obtain ⟨hb,ho,hc,ehv,hcell,-,-⟩:=hHd.first
  refine wi_ A (h3_ t0 t1 t2) (rv_ 1 (.pointer (some ⟨q.g,0,none⟩)) (fun a E=>execNlm rfl (E _)) (rv_ 2 (.pointer (some ⟨q.g,6,none⟩)) (fun a E=>execRo5 rfl (E _)) (rv_ 3 (sl0 q.H p.d) (fun a E=>execLr rfl (Or.inr (Or.inr (Or.inr (Or.inr (Or.inl rfl))))) (E _) (gR_at FM).2.2.2.2.2.2.1) (rv_ 5 (.pointer (some ⟨q.H,0+d,none⟩)) (fun a E=>execIxLL (k:=d) rfl (E _) (E _) hd) (rv_ 6 (hv d) (fun a E=>execLr rfl (Or.inr (Or.inr (Or.inl rfl))) (E _) (rA_c FM.hH hd)) (rv_ 7 (.pointer (some ⟨hb,ho+0,none⟩)) (fun a E=>execIdxN (k:=0) rfl ((E _).trans ehv) rfl (Nat.zero_lt_succ _)) (rv_ 8 (.int .i64 x) (fun a E=>execLr rfl (Or.inl rfl) (E _) hcell) (rf_ [(6,.int .i64 x)] (h3_ t0 t1 t2) ?_))))))))
  rintro a A ⟨t6,-⟩ ⟨t0,t1,t2,-⟩
  refine wp_seq ?_
  refine wj_ [0,1,2,3,4,5,6,7,8,9,10,11,12,13,14] [14] [3,8,11] [14] A (h4_ t0 t1 t2 t6) (fun X2_0 bD=>?_)
  refine dw_ 1 (.pointer (some ⟨q.g,0,none⟩)) (fun a X E=>execNlm rfl (E _)) (dw_ 2 (.pointer (some ⟨q.g,6,none⟩)) (fun a X E=>execRo5 rfl (E _)) (dv_ 3 (sl0 q.H p.d) (fun a X E hb=>execLr rfl (Or.inr (Or.inr (Or.inr (Or.inr (Or.inl rfl))))) (E _) (gR_at (FM.on hb)).2.2.2.2.2.2.1) (dw_ 6 (.pointer (some ⟨q.g,0,none⟩)) (fun a X E=>execNlm rfl (E _)) (dw_ 7 (.pointer (some ⟨q.g,6,none⟩)) (fun a X E=>execRo5 rfl (E _)) (dv_ 8 (sl0 q.H p.d) (fun a X E hb=>execLr rfl (Or.inr (Or.inr (Or.inr (Or.inr (Or.inl rfl))))) (E _) (gR_at (FM.on hb)).2.2.2.2.2.2.1) (dw_ 10 (.pointer (some ⟨q.H,0+d,none⟩)) (fun a X E=>execIxLL (k:=d) rfl (E _) (E _) hd) (dv_ 11 (hv d) (fun a X E hb=>execLr rfl (Or.inr (Or.inr (Or.inl rfl))) (E _) (rA_c (FM.on hb).hH hd)) (dw_ 12 (.slice (some ⟨hb,if hc=1 then ho else ho+1,none⟩) l.length (hc - 1)) (fun a X E=>execSl1I (n:=l.length) rfl ((E _).trans ehv)) (dw_ 13 (.pointer (some ⟨q.H,0+d,none⟩)) (fun a X E=>execIxLL (k:=d) rfl (E _) (E _) hd) (ds_ 14 (fun a E=>?_)))))))))))
  obtain ⟨ow2,hM2_,hl2_⟩:=(FM.on bD).appH (v':=.slice (some ⟨hb,if hc=1 then ho else ho+1,none⟩) l.length (hc - 1)) (l':=l) hd (gr_refl _ _) (Hd.tail (by rw [← ehv,← hx]; exact (FM.on bD).hd d hd)) (Or.inl (by rw [ehv]; rfl))
  refine stepS rfl rfl (execStR rfl (Or.inr (Or.inr rfl)) (E _) (E _) (Or.inr (Or.inr ⟨_,_,_,rfl⟩)) (rA_c (FM.on bD).hH hd) (frozen4 (FM.on bD).hH)) ⟨_,⟨_,rfl,rfl⟩,fun X2 hX=>?_⟩
  obtain ⟨BB,FXs,FM2,FL2⟩:Below U.heap.size U X2/\(Saved (fun b=>ow b ≠ 0) V X2)/\(RmM U.heap.size X2 q p cv tz ({ r with hd:=upf r.hd d l }) gv kv tv (upf hv d (.slice (some ⟨hb,if hc=1 then ho else ho+1,none⟩) l.length (hc - 1))) ow2)/\(∀ b,b < V.heap.size->ow2 b=ow b):=by subst hX; exact ⟨((BB.trans (bD.mono BB.size))).setCell (ge_lab h (by rw [h.lH]; decide)) _,(sv_cell9 (FXs.below bD FXs.size) (Or.inl (by rw [h.lH]; decide))),hM2_,fun b hb=>hl2_ b (Nat.lt_of_lt_of_le hb (FXs.below bD FXs.size).size)⟩
  clear bD FM hX E a
  refine ⟨Or.inl rfl,?_⟩
  refine dz_ [] (h4_ t0 t1 t2 t6) ?_
  rintro a A - ⟨t0,t1,t2,t6,-⟩
  have FM:=FM2
  clear FM2
  replace FL:=FL2
  clear FL2
  refine wp_seq ?_
  refine wi_ A (h4_ t0 t1 t2 t6) (rc_ 3 (rgot U q p cv tz xz ({ r with hd:=upf r.hd d l }) gv kv tv (upf hv d (.slice (some ⟨hb,if hc=1 then ho else ho+1,none⟩) l.length (hc - 1))) ow2 X2 hp BB FM t x ht hl hpl) fun e X3 hh=>?_)
  obtain ⟨he,hT_,hb_⟩:=hh
  refine ⟨_,he,?_⟩
  obtain ⟨BB,FR⟩:Below U.heap.size U X3/\(RTo U.heap.size V X3 q p cv tz (got { r with hd:=upf r.hd d l } t x) gv kv ow):=⟨hb_,hT_.step FXs FL (zof FL)⟩
  clear FXs FM
  refine rf_ [] (h3_ t0 t1 t2) ?_
  rintro a A - ⟨t0,t1,t2,-⟩
  refine wp_ret ?_
  repeat (first | with_reducible refine ret_in ?_ | with_reducible refine ret_then ?_)
  exact bodyPost_ret (results_none rfl _ _ _) A.2 ⟨rfl,FR,BB⟩
 | nil=>
  obtain ⟨g,hg⟩:∃ g,giv p r d=some g:=Option.isSome_iff_exists.1 (hrd hx)
  have hgn:g < p.n:=List.mem_range.1 (List.mem_of_find?_eq_some hg)
  have hgv:gv d=((g:Nat):Int):=by rw [hlk.g d hd,hg]; rfl
  have hpg:=hpl3 g hgn
  have hpl2:(on_ r g).pl t<=65536:=by
   show upf r.pl g (r.pl g+1) t<=65536
   by_cases e:t=g
   ·rw [e,upf_at]; omega
   ·rw [upf_ne _ _ e]; omega
  rw [frm_n hx hg]
  go_enter Try.func39,Try.ntmps39
  refine wo_ 70 [(0,.pointer (some ⟨q.g,0,none⟩)),(1,.int .i64 ((t:Nat):Int)),(2,.int .i64 ((d:Nat):Int))] ?_
  rintro a A ⟨t0,t1,t2,-⟩
  have BB:=hU
  have FM:=h
  have FXs:Saved (fun b=>ow b ≠ 0) V V:=Saved.refl _ V
  have FL:∀ b,b < V.heap.size->ow b=ow b:=fun b _=>rfl
  have hlen:(r.hd d).length=0:=by rw [hx]; rfl
  refine wp_seq (wp_seq ?_)
  refine wi_ A (h3_ t0 t1 t2) (rv_ 1 (.pointer (some ⟨q.g,0,none⟩)) (fun a E=>execNlm rfl (E _)) (rv_ 2 (.pointer (some ⟨q.g,6,none⟩)) (fun a E=>execRo5 rfl (E _)) (rv_ 3 (sl0 q.H p.d) (fun a E=>execLr rfl (Or.inr (Or.inr (Or.inr (Or.inr (Or.inl rfl))))) (E _) (gR_at FM).2.2.2.2.2.2.1) (rv_ 5 (.pointer (some ⟨q.H,0+d,none⟩)) (fun a E=>execIxLL (k:=d) rfl (E _) (E _) hd) (rv_ 6 (hv d) (fun a E=>execLr rfl (Or.inr (Or.inr (Or.inl rfl))) (E _) (rA_c FM.hH hd)) (rv_ 7 (.int .i64 (((r.hd d).length:Nat):Int)) (fun a E=>execLenI (len:=(r.hd d).length) rfl (E _) (FM.hd d hd).shp) (rv_ 8 (.bool false) (fun a E=>execDec (exIgtr3 (p:=(((r.hd d).length:Nat):Int)) (q:=0) rfl (E _) rfl) (decide_eq_false (by omega))) (rf_ [(16,.bool false)] (h3_ t0 t1 t2) ?_))))))))
  rintro a A ⟨t16,-⟩ ⟨t0,t1,t2,-⟩
  refine wp_cond_false t16 (wp_skip ?_)
  clear t16
  refine wp_seq ?_
  refine wi_ A (h3_ t0 t1 t2) (rv_ 1 (.pointer (some ⟨q.g,0,none⟩)) (fun a E=>execNlm rfl (E _)) (rv_ 2 (.pointer (some ⟨q.g,8,none⟩)) (fun a E=>execRo7 rfl (E _)) (rv_ 3 (sl0 q.G p.d) (fun a E=>execLr rfl (Or.inr (Or.inr (Or.inl rfl))) (E _) (gR_at FM).2.2.2.2.2.2.2.2.1) (rv_ 5 (.pointer (some ⟨q.G,0+d,none⟩)) (fun a E=>execIdxN (k:=d) rfl (E _) (E _) hd) (rv_ 6 (.int .i64 ((g:Nat):Int)) (fun a E=>execLr rfl (Or.inl rfl) (E _) ((rA_c FM.hG hd).trans (by rw [hgv]))) (rf_ [(7,.int .i64 ((g:Nat):Int))] (h3_ t0 t1 t2) ?_))))))
  rintro a A ⟨t7,-⟩ ⟨t0,t1,t2,-⟩
  refine wp_seq ?_
  refine wi_ A (h4_ t0 t1 t2 t7) (rv_ 1 (.pointer (some ⟨q.g,0,none⟩)) (fun a E=>execNlm rfl (E _)) (rv_ 2 (.pointer (some ⟨q.g,2,none⟩)) (fun a E=>execRo1 rfl (E _)) (rv_ 3 (sl0 q.P p.n) (fun a E=>execLr rfl (Or.inr (Or.inr (Or.inl rfl))) (E _) (gR_at FM).2.2.1) (rv_ 5 (.pointer (some ⟨q.P,0+g,none⟩)) (fun a E=>execIdxN (k:=g) rfl (E _) (E _) hgn) (rv_ 6 (.int .i64 ((r.pl g:Nat):Int)) (fun a E=>execLr rfl (Or.inl rfl) (E _) (rA_c FM.hP hgn)) (rv_ 7 (.int .i64 ((r.pl g+1:Nat):Int)) (fun a E=>execAd8 (p:=r.pl g) (q:=1) rfl (E _) rfl (by omega)) (rv_ 8 (.pointer (some ⟨q.P,0+g,none⟩)) (fun a E=>execIdxN (k:=g) rfl (E _) (E _) hgn) (rs_ 9 (fun a E=>?_)))))))))
  refine stepS rfl rfl (execStR rfl (Or.inl rfl) (E _) (E _) (Or.inl ⟨_,rfl⟩) (rA_c FM.hP hgn) (frozen4 FM.hP)) ⟨_,⟨_,rfl,rfl⟩,fun X5 hX=>?_⟩
  obtain ⟨BB,FXs,FM2⟩:Below U.heap.size U X5/\(Saved (fun b=>ow b ≠ 0) V X5)/\(RmM U.heap.size X5 q p cv tz (on_ r g) gv kv tv hv ow):=by subst hX; exact ⟨(BB).setCell (ge_lab h (by rw [h.lP]; decide)) _,(sv_cell9 FXs (Or.inl (by rw [h.lP]; decide))),FM.setP hgn⟩
  clear FM hX E a
  refine rf_ [] (h4_ t0 t1 t2 t7) ?_
  rintro a A - ⟨t0,t1,t2,t7,-⟩
  have FM:=FM2
  clear FM2
  refine wi_ A (h4_ t0 t1 t2 t7) (rv_ 3 (.pointer (some ⟨q.g,0,none⟩)) (fun a E=>execNlm rfl (E _)) (rv_ 4 (.pointer (some ⟨q.g,3,none⟩)) (fun a E=>execRo2 rfl (E _)) (rv_ 5 (sl0 q.R p.n) (fun a E=>execLr rfl (Or.inr (Or.inr (Or.inl rfl))) (E _) (gR_at FM).2.2.2.1) (rv_ 7 (.pointer (some ⟨q.R,0+g,none⟩)) (fun a E=>execIdxN (k:=g) rfl (E _) (E _) hgn) (rv_ 8 (.int .i64 (r.rg g)) (fun a E=>execLr rfl (Or.inl rfl) (E _) ((rA_c FM.hR hgn).trans rfl)) (rc_ 9 (rgot U q p cv tz xz (on_ r g) gv kv tv hv ow X5 hp BB FM t (r.rg g) ht hl hpl2) fun e X6 hh=>?_))))))
  obtain ⟨he,hT_,hb_⟩:=hh
  refine ⟨_,he,?_⟩
  obtain ⟨BB,FR⟩:Below U.heap.size U X6/\(RTo U.heap.size V X6 q p cv tz (got (on_ r g) t (r.rg g)) gv kv ow):=⟨hb_,hT_.step FXs FL (zof FL)⟩
  clear FXs FM
  refine rg_ [] ?_
  rintro a A -
  exact bodyPost_end (results_none rfl _ _ _) A.2 ⟨rfl,FR,BB⟩
theorem pt_c {p:Pl} {r:Rm} {t d:Nat} (h:r.cl d=true):pt_ p r t d={ on_ r t with lt:=r.lt+1 }:=by unfold pt_; rw [if_pos h]
theorem pt_l {p:Pl} {r:Rm} {t d:Nat} (h:r.cl d=false) (h2:((r.hd d).length:Int) < p.cap d):pt_ p r t d={ on_ r t with hd:=upf r.hd d (r.hd d ++ [r.rg t]) }:=by unfold pt_; rw [if_neg (by rw [h]; decide),if_pos h2]
theorem pt_g {p:Pl} {r:Rm} {t d k:Nat} (h:r.cl d=false) (h2:¬ ((r.hd d).length:Int) < p.cap d) (hk:tak p r d=some k):pt_ p r t d=got (on_ r t) k (r.rg t):=by unfold pt_; rw [if_neg (by rw [h]; decide),if_neg h2,hk]; rfl
set_option maxRecDepth 100000 in
set_option maxHeartbeats 4000000 in
theorem rput (U:World) (q:RK) (p:Pl) (cv tz:Value) (xz:Nat->Value) (r:Rm) (gv kv:Nat->Int) (tv hv:Nat->Value) (ow:Nat->Nat) (V:World) (hp:PlV U cv tz xz p) (hU:Below U.heap.size U V) (h:RmM U.heap.size V q p cv tz r gv kv tv hv ow) (t d:Nat) (ht:t < p.n) (hd:d < p.d) (hl3:∀ t,(r.tk t).length<=65536) (hlh:(r.hd d).length<=65536) (hlate:r.lt<=65536) (hpl3:∀ g,g < p.n->r.pl g<=60000) (hlk:Lkd p r gv kv) (htk:r.cl d=false->¬ ((r.hd d).length:Int) < p.cap d->(tak p r d).isSome=true) :
  Calls Try.prog 38 #[.pointer (some ⟨q.g,0,none⟩),.int .i64 ((t:Nat):Int),.int .i64 ((d:Nat):Int)] V fun e w'=>e=.returned (.tuple #[])/\RTo U.heap.size V w' q p cv tz (pt_ p r t d) gv kv ow/\Below U.heap.size U w':=by
 have hpt:=hpl3 t ht
 cases hcl:r.cl d with
 | true=>
  rw [pt_c hcl]
  go_enter Try.func38,Try.ntmps38
  refine wo_ 88 [(0,.pointer (some ⟨q.g,0,none⟩)),(1,.int .i64 ((t:Nat):Int)),(2,.int .i64 ((d:Nat):Int))] ?_
  rintro a A ⟨t0,t1,t2,-⟩
  have BB:=hU
  have FM:=h
  have FXs:Saved (fun b=>ow b ≠ 0) V V:=Saved.refl _ V
  have FL:∀ b,b < V.heap.size->ow b=ow b:=fun b _=>rfl
  refine wp_seq ?_
  refine wi_ A (h3_ t0 t1 t2) (rv_ 1 (.pointer (some ⟨q.g,0,none⟩)) (fun a E=>execNlm rfl (E _)) (rv_ 2 (.pointer (some ⟨q.g,2,none⟩)) (fun a E=>execRo1 rfl (E _)) (rv_ 3 (sl0 q.P p.n) (fun a E=>execLr rfl (Or.inr (Or.inr (Or.inl rfl))) (E _) (gR_at FM).2.2.1) (rv_ 5 (.pointer (some ⟨q.P,0+t,none⟩)) (fun a E=>execIdxN (k:=t) rfl (E _) (E _) ht) (rv_ 6 (.int .i64 ((r.pl t:Nat):Int)) (fun a E=>execLr rfl (Or.inl rfl) (E _) (rA_c FM.hP ht)) (rv_ 7 (.int .i64 ((r.pl t+1:Nat):Int)) (fun a E=>execAd8 (p:=r.pl t) (q:=1) rfl (E _) rfl (by omega)) (rv_ 8 (.pointer (some ⟨q.P,0+t,none⟩)) (fun a E=>execIdxN (k:=t) rfl (E _) (E _) ht) (rs_ 9 (fun a E=>?_)))))))))
  refine stepS rfl rfl (execStR rfl (Or.inl rfl) (E _) (E _) (Or.inl ⟨_,rfl⟩) (rA_c FM.hP ht) (frozen4 FM.hP)) ⟨_,⟨_,rfl,rfl⟩,fun X0 hX=>?_⟩
  obtain ⟨BB,FXs,FM2⟩:Below U.heap.size U X0/\(Saved (fun b=>ow b ≠ 0) V X0)/\(RmM U.heap.size X0 q p cv tz (on_ r t) gv kv tv hv ow):=by subst hX; exact ⟨(BB).setCell (ge_lab h (by rw [h.lP]; decide)) _,(sv_cell9 FXs (Or.inl (by rw [h.lP]; decide))),FM.setP ht⟩
  clear FM hX E a
  refine rf_ [] (h3_ t0 t1 t2) ?_
  rintro a A - ⟨t0,t1,t2,-⟩
  have FM:=FM2
  clear FM2
  refine wp_block ?_
  refine wp_seq ?_
  refine wi_ A (h3_ t0 t1 t2) (rv_ 1 (.pointer (some ⟨q.g,0,none⟩)) (fun a E=>execNlm rfl (E _)) (rv_ 2 (.pointer (some ⟨q.g,7,none⟩)) (fun a E=>execRo6 rfl (E _)) (rv_ 3 (sl0 q.C p.d) (fun a E=>execLr rfl (Or.inr (Or.inr (Or.inr (Or.inl rfl)))) (E _) (gR_at FM).2.2.2.2.2.2.2.1) (rv_ 5 (.pointer (some ⟨q.C,0+d,none⟩)) (fun a E=>execIxBo (k:=d) rfl (E _) (E _) hd) (rv_ 6 (.bool true) (fun a E=>execLr rfl (Or.inr (Or.inl rfl)) (E _) ((rA_c FM.hC hd).trans (by rw [show (on_ r t).cl d=true from hcl]))) (rf_ [(32,.bool true)] (h3_ t0 t1 t2) ?_))))))
  rintro a A ⟨t32,-⟩ ⟨t0,t1,t2,-⟩
  refine wp_cond_true t32 ?_
  clear t32
  refine wi_ A (h3_ t0 t1 t2) (rv_ 1 (.pointer (some ⟨q.g,0,none⟩)) (fun a E=>execNlm rfl (E _)) (rv_ 2 (.pointer (some ⟨q.g,10,none⟩)) (fun a E=>execRo9 rfl (E _)) (rv_ 3 (.int .i64 ((r.lt:Nat):Int)) (fun a E=>execLr rfl (Or.inl rfl) (E _) ((gR_at FM).2.2.2.2.2.2.2.2.2.2.trans rfl)) (rv_ 4 (.int .i64 ((r.lt+1:Nat):Int)) (fun a E=>execAd8 (p:=r.lt) (q:=1) rfl (E _) rfl (by omega)) (rv_ 5 (.pointer (some ⟨q.g,0,none⟩)) (fun a E=>execNlm rfl (E _)) (rv_ 6 (.pointer (some ⟨q.g,10,none⟩)) (fun a E=>execRo9 rfl (E _)) (rs_ 7 (fun a E=>?_))))))))
  refine stepS rfl rfl (execStR rfl (Or.inl rfl) (E _) (E _) (Or.inl ⟨_,rfl⟩) (gR_at FM).2.2.2.2.2.2.2.2.2.2 (frozen4 FM.hg)) ⟨_,⟨_,rfl,rfl⟩,fun X3 hX=>?_⟩
  obtain ⟨BB,FXs,FM2⟩:Below U.heap.size U X3/\(Saved (fun b=>ow b ≠ 0) V X3)/\(RmM U.heap.size X3 q p cv tz ({ on_ r t with lt:=r.lt+1 }) gv kv tv hv ow):=by subst hX; exact ⟨(BB).setCell (ge_lab h (by rw [h.lg]; decide)) _,(sv_cell9 FXs (Or.inl (by rw [h.lg]; decide))),FM.setL⟩
  clear FM hX E a
  refine rf_ [] (h3_ t0 t1 t2) ?_
  rintro a A - ⟨t0,t1,t2,-⟩
  have FM:=FM2
  clear FM2
  refine nrm_in ?_
  exact bodyPost_end (results_none rfl _ _ _) A.2 ⟨rfl,⟨⟨_,_,_,FM,FL⟩,FXs⟩,BB⟩
 | false=>
  by_cases hlt:((r.hd d).length:Int) < p.cap d
  ·rw [pt_l hcl hlt]
   go_enter Try.func38,Try.ntmps38
   refine wo_ 88 [(0,.pointer (some ⟨q.g,0,none⟩)),(1,.int .i64 ((t:Nat):Int)),(2,.int .i64 ((d:Nat):Int))] ?_
   rintro a A ⟨t0,t1,t2,-⟩
   have BB:=hU
   have FM:=h
   have FXs:Saved (fun b=>ow b ≠ 0) V V:=Saved.refl _ V
   have FL:∀ b,b < V.heap.size->ow b=ow b:=fun b _=>rfl
   refine wp_seq ?_
   refine wi_ A (h3_ t0 t1 t2) (rv_ 1 (.pointer (some ⟨q.g,0,none⟩)) (fun a E=>execNlm rfl (E _)) (rv_ 2 (.pointer (some ⟨q.g,2,none⟩)) (fun a E=>execRo1 rfl (E _)) (rv_ 3 (sl0 q.P p.n) (fun a E=>execLr rfl (Or.inr (Or.inr (Or.inl rfl))) (E _) (gR_at FM).2.2.1) (rv_ 5 (.pointer (some ⟨q.P,0+t,none⟩)) (fun a E=>execIdxN (k:=t) rfl (E _) (E _) ht) (rv_ 6 (.int .i64 ((r.pl t:Nat):Int)) (fun a E=>execLr rfl (Or.inl rfl) (E _) (rA_c FM.hP ht)) (rv_ 7 (.int .i64 ((r.pl t+1:Nat):Int)) (fun a E=>execAd8 (p:=r.pl t) (q:=1) rfl (E _) rfl (by omega)) (rv_ 8 (.pointer (some ⟨q.P,0+t,none⟩)) (fun a E=>execIdxN (k:=t) rfl (E _) (E _) ht) (rs_ 9 (fun a E=>?_)))))))))
   refine stepS rfl rfl (execStR rfl (Or.inl rfl) (E _) (E _) (Or.inl ⟨_,rfl⟩) (rA_c FM.hP ht) (frozen4 FM.hP)) ⟨_,⟨_,rfl,rfl⟩,fun X0 hX=>?_⟩
   obtain ⟨BB,FXs,FM2⟩:Below U.heap.size U X0/\(Saved (fun b=>ow b ≠ 0) V X0)/\(RmM U.heap.size X0 q p cv tz (on_ r t) gv kv tv hv ow):=by subst hX; exact ⟨(BB).setCell (ge_lab h (by rw [h.lP]; decide)) _,(sv_cell9 FXs (Or.inl (by rw [h.lP]; decide))),FM.setP ht⟩
   clear FM hX E a
   refine rf_ [] (h3_ t0 t1 t2) ?_
   rintro a A - ⟨t0,t1,t2,-⟩
   have FM:=FM2
   clear FM2
   refine wp_block ?_
   refine wp_seq ?_
   refine wi_ A (h3_ t0 t1 t2) (rv_ 1 (.pointer (some ⟨q.g,0,none⟩)) (fun a E=>execNlm rfl (E _)) (rv_ 2 (.pointer (some ⟨q.g,7,none⟩)) (fun a E=>execRo6 rfl (E _)) (rv_ 3 (sl0 q.C p.d) (fun a E=>execLr rfl (Or.inr (Or.inr (Or.inr (Or.inl rfl)))) (E _) (gR_at FM).2.2.2.2.2.2.2.1) (rv_ 5 (.pointer (some ⟨q.C,0+d,none⟩)) (fun a E=>execIxBo (k:=d) rfl (E _) (E _) hd) (rv_ 6 (.bool false) (fun a E=>execLr rfl (Or.inr (Or.inl rfl)) (E _) ((rA_c FM.hC hd).trans (by rw [show (on_ r t).cl d=false from hcl]))) (rf_ [(32,.bool false)] (h3_ t0 t1 t2) ?_))))))
   rintro a A ⟨t32,-⟩ ⟨t0,t1,t2,-⟩
   refine wp_cond_false t32 ?_
   clear t32
   obtain ⟨cb,co,cc,ecv,lcb,hcb⟩:=ints_open hp.c (by omega)
   refine wp_seq ?_
   refine wj_ [0,1,2,3,4,5,6,7,8,9,10,11,12,13,14,15,16,17] [] [3,6,7,12,15] [] A (h3_ t0 t1 t2) (fun X4 bD=>?_)
   refine dw_ 1 (.pointer (some ⟨q.g,0,none⟩)) (fun a X E=>execNlm rfl (E _)) (dw_ 2 (.pointer (some ⟨q.g,6,none⟩)) (fun a X E=>execRo5 rfl (E _)) (dv_ 3 (sl0 q.H p.d) (fun a X E hb=>execLr rfl (Or.inr (Or.inr (Or.inr (Or.inr (Or.inl rfl))))) (E _) (gR_at (FM.on hb)).2.2.2.2.2.2.1) (dw_ 5 (.pointer (some ⟨q.H,0+d,none⟩)) (fun a X E=>execIxLL (k:=d) rfl (E _) (E _) hd) (dv_ 6 (hv d) (fun a X E hb=>execLr rfl (Or.inr (Or.inr (Or.inl rfl))) (E _) (rA_c (FM.on hb).hH hd)) (dv_ 7 (.int .i64 (((r.hd d).length:Nat):Int)) (fun a X E hb=>execLenI (len:=(r.hd d).length) rfl (E _) ((FM.on hb).hd d hd).shp) (dw_ 9 (.pointer (some ⟨q.g,0,none⟩)) (fun a X E=>execNlm rfl (E _)) (dw_ 10 (.pointer (some ⟨q.g,0,none⟩)) (fun a X E=>execRo0 rfl (E _)) (dw_ 11 (.pointer (some ⟨q.g,0,none⟩)) (fun a X E=>execPf0 rfl (E _)) (dv_ 12 (cv) (fun a X E hb=>execLr rfl (Or.inr (Or.inr (Or.inl rfl))) (E _) (gR_at (FM.on hb)).1) (dw_ 14 (.pointer (some ⟨cb,co+d,none⟩)) (fun a X E=>execIdxN (k:=d) rfl ((E _).trans ecv) (E _) hd) (dv_ 15 (.int .i64 (p.cap d)) (fun a X E hb=>execLr rfl (Or.inl rfl) (E _) (by rw [cell_below (BB.trans (hb.mono BB.size)) lcb]; exact hcb d hd)) (dw_ 16 (.bool true) (fun a X E=>execDec (exIlss3 (p:=(((r.hd d).length:Nat):Int)) (q:=(p.cap d)) rfl (E _) (E _)) (decide_eq_true hlt)) (dz_ [(47,.bool true)] (h3_ t0 t1 t2) ?_)))))))))))))
   rintro a A ⟨t47,-⟩ ⟨t0,t1,t2,-⟩
   replace FXs:=(FXs.below bD FXs.size)
   replace FM:=(FM.on bD)
   replace BB:=BB.trans (bD.mono BB.size)
   clear bD
   refine wp_cond_true t47 ?_
   clear t47
   refine wp_seq ?_
   refine wj_ [0,1,2,3,4,5,6,7,8,9,10,11,12,13,14,15,16] [14,15] [3,6,10,13] [15] A (h3_ t0 t1 t2) (fun X5_0 bD=>?_)
   obtain ⟨gs,eggs⟩:∃ z_:Nat,X5_0.heap.size=z_:=⟨_,rfl⟩
   refine dw_ 1 (.pointer (some ⟨q.g,0,none⟩)) (fun a X E=>execNlm rfl (E _)) (dw_ 2 (.pointer (some ⟨q.g,6,none⟩)) (fun a X E=>execRo5 rfl (E _)) (dv_ 3 (sl0 q.H p.d) (fun a X E hb=>execLr rfl (Or.inr (Or.inr (Or.inr (Or.inr (Or.inl rfl))))) (E _) (gR_at (FM.on hb)).2.2.2.2.2.2.1) (dw_ 5 (.pointer (some ⟨q.H,0+d,none⟩)) (fun a X E=>execIxLL (k:=d) rfl (E _) (E _) hd) (dv_ 6 (hv d) (fun a X E hb=>execLr rfl (Or.inr (Or.inr (Or.inl rfl))) (E _) (rA_c (FM.on hb).hH hd)) (dw_ 8 (.pointer (some ⟨q.g,0,none⟩)) (fun a X E=>execNlm rfl (E _)) (dw_ 9 (.pointer (some ⟨q.g,3,none⟩)) (fun a X E=>execRo2 rfl (E _)) (dv_ 10 (sl0 q.R p.n) (fun a X E hb=>execLr rfl (Or.inr (Or.inr (Or.inl rfl))) (E _) (gR_at (FM.on hb)).2.2.2.1) (dw_ 12 (.pointer (some ⟨q.R,0+t,none⟩)) (fun a X E=>execIdxN (k:=t) rfl (E _) (E _) ht) (dv_ 13 (.int .i64 (r.rg t)) (fun a X E hb=>execLr rfl (Or.inl rfl) (E _) ((rA_c (FM.on hb).hR ht).trans rfl)) (ds_ 14 (fun a E=>?_)))))))))))
   refine stepV rfl rfl (execBs1 rfl (E _)) ⟨.slice (some ⟨gs,0,none⟩) 1 1,⟨_,rfl,by subst eggs; rfl⟩,fun X5_1 hX=>?_⟩
   have bQ:Below X5_0.heap.size X5_0 X5_1:=by subst hX eggs; exact (belNew X5_0 _)
   have Fs:(X5_1.heap[gs]?=some (.cells #[.int .i64 (r.rg t)] 3)):=by subst hX eggs; exact heapNew X5_0 _
   replace bD:=bD.trans (bQ.mono bD.size)
   clear bQ hX eggs E a
   refine ⟨Or.inr bD,?_⟩
   refine ds_ 15 (fun a E=>?_)
   refine stepHd rfl rfl rfl (E _) (E _) ((FM.on bD).hd d hd) Fs hlh ((BB.trans (bD.mono BB.size))).size fun v2 X5 hd' gr pl'=>⟨_,⟨_,rfl,rfl⟩,eqw ?_⟩
   obtain ⟨BB,FXs,FMp,FGr,FHd,Fpl,Fsz⟩:Below U.heap.size U X5/\(Saved (fun b=>ow b ≠ 0) V X5)/\(RmM U.heap.size X5_1 q p cv tz (on_ r t) gv kv tv hv ow)/\(X5_1.grownBy X5 (hv d).ownBlock)/\(Hd U.heap.size X5 v2 ((on_ r t).hd d ++ [(r.rg t)]))/\(v2.ownBlock=(hv d).ownBlock\/v2.ownBlock=some X5_1.heap.size)/\(V.heap.size<=X5_1.heap.size):=⟨((BB.trans (bD.mono BB.size))).grown gr ((BB.trans (bD.mono BB.size))).size (fun k_ hk=>(((FM.on bD).hd d hd).lt k_ hk).1),(sv_gr9 (FXs.below bD FXs.size) gr (fun b e=>(zof FL b (by rw [(FM.on bD).lhd d hd b e]; omega)))),(FM.on bD),gr,hd',pl',(FXs.below bD FXs.size).size⟩
   clear bD FM Fs E a
   refine ⟨Or.inl rfl,?_⟩
   refine dz_ [(6,v2)] (h3_ t0 t1 t2) ?_
   rintro a A ⟨t6,-⟩ ⟨t0,t1,t2,-⟩
   obtain ⟨hgX,hrX⟩:=FMp.gH hd FGr
   have hszV:=Fsz
   refine wi_ A (h4_ t0 t1 t2 t6) (rv_ 1 (.pointer (some ⟨q.g,0,none⟩)) (fun a E=>execNlm rfl (E _)) (rv_ 2 (.pointer (some ⟨q.g,6,none⟩)) (fun a E=>execRo5 rfl (E _)) (rv_ 3 (sl0 q.H p.d) (fun a E=>execLr rfl (Or.inr (Or.inr (Or.inr (Or.inr (Or.inl rfl))))) (E _) (gR_5 hgX).2) (rv_ 6 (.pointer (some ⟨q.H,0+d,none⟩)) (fun a E=>execIxLL (k:=d) rfl (E _) (E _) hd) (rs_ 7 (fun a E=>?_))))))
   obtain ⟨ow2,hM2_,hl2_⟩:=FMp.appH hd FGr FHd Fpl
   refine stepS rfl rfl (execStR rfl (Or.inr (Or.inr rfl)) (E _) (E _) (Or.inr (Or.inr (sl3 FHd.shp))) (rA_c hrX hd) (frozen4 hrX)) ⟨_,⟨_,rfl,rfl⟩,fun X6 hX=>?_⟩
   obtain ⟨BB,FXs,FM2,FL2⟩:Below U.heap.size U X6/\(Saved (fun b=>ow b ≠ 0) V X6)/\(RmM U.heap.size X6 q p cv tz ({ (on_ r t) with hd:=upf (on_ r t).hd d ((on_ r t).hd d ++ [(r.rg t)]) }) gv kv tv (upf hv d v2) ow2)/\(∀ b,b < V.heap.size->ow2 b=ow b):=by subst hX; exact ⟨(BB).setCell (ge_lab h (by rw [h.lH]; decide)) _,(sv_cell9 FXs (Or.inl (by rw [h.lH]; decide))),hM2_,fun b hb=>(hl2_ b (Nat.lt_of_lt_of_le hb hszV)).trans (FL b hb)⟩
   clear FGr FHd hX E a
   refine rf_ [] (h3_ t0 t1 t2) ?_
   rintro a A - ⟨t0,t1,t2,-⟩
   have FM:=FM2
   clear FM2
   replace FL:=FL2
   clear FL2 hgX hrX
   refine nrm_in ?_
   exact bodyPost_end (results_none rfl _ _ _) A.2 ⟨rfl,⟨⟨_,_,_,FM,FL⟩,FXs⟩,BB⟩
  ·obtain ⟨k,hk⟩:∃ k,tak p r d=some k:=Option.isSome_iff_exists.1 (htk hcl hlt)
   have hkn:k < p.n:=List.mem_range.1 (List.mem_of_find?_eq_some hk)
   have hkv:kv d=((k:Nat):Int):=by rw [hlk.k d hd,hk]; rfl
   have hpl2:(on_ r t).pl k<=65536:=by
    have:=hpl3 k hkn
    have:=hpl3 t ht
    show upf r.pl t (r.pl t+1) k<=65536
    by_cases e:k=t
    ·rw [e,upf_at]; omega
    ·rw [upf_ne _ _ e]; omega
   have hlk2:((on_ r t).tk k).length<=65536:=hl3 k
   rw [pt_g hcl hlt hk]
   go_enter Try.func38,Try.ntmps38
   refine wo_ 88 [(0,.pointer (some ⟨q.g,0,none⟩)),(1,.int .i64 ((t:Nat):Int)),(2,.int .i64 ((d:Nat):Int))] ?_
   rintro a A ⟨t0,t1,t2,-⟩
   have BB:=hU
   have FM:=h
   have FXs:Saved (fun b=>ow b ≠ 0) V V:=Saved.refl _ V
   have FL:∀ b,b < V.heap.size->ow b=ow b:=fun b _=>rfl
   refine wp_seq ?_
   refine wi_ A (h3_ t0 t1 t2) (rv_ 1 (.pointer (some ⟨q.g,0,none⟩)) (fun a E=>execNlm rfl (E _)) (rv_ 2 (.pointer (some ⟨q.g,2,none⟩)) (fun a E=>execRo1 rfl (E _)) (rv_ 3 (sl0 q.P p.n) (fun a E=>execLr rfl (Or.inr (Or.inr (Or.inl rfl))) (E _) (gR_at FM).2.2.1) (rv_ 5 (.pointer (some ⟨q.P,0+t,none⟩)) (fun a E=>execIdxN (k:=t) rfl (E _) (E _) ht) (rv_ 6 (.int .i64 ((r.pl t:Nat):Int)) (fun a E=>execLr rfl (Or.inl rfl) (E _) (rA_c FM.hP ht)) (rv_ 7 (.int .i64 ((r.pl t+1:Nat):Int)) (fun a E=>execAd8 (p:=r.pl t) (q:=1) rfl (E _) rfl (by omega)) (rv_ 8 (.pointer (some ⟨q.P,0+t,none⟩)) (fun a E=>execIdxN (k:=t) rfl (E _) (E _) ht) (rs_ 9 (fun a E=>?_)))))))))
   refine stepS rfl rfl (execStR rfl (Or.inl rfl) (E _) (E _) (Or.inl ⟨_,rfl⟩) (rA_c FM.hP ht) (frozen4 FM.hP)) ⟨_,⟨_,rfl,rfl⟩,fun X0 hX=>?_⟩
   obtain ⟨BB,FXs,FM2⟩:Below U.heap.size U X0/\(Saved (fun b=>ow b ≠ 0) V X0)/\(RmM U.heap.size X0 q p cv tz (on_ r t) gv kv tv hv ow):=by subst hX; exact ⟨(BB).setCell (ge_lab h (by rw [h.lP]; decide)) _,(sv_cell9 FXs (Or.inl (by rw [h.lP]; decide))),FM.setP ht⟩
   clear FM hX E a
   refine rf_ [] (h3_ t0 t1 t2) ?_
   rintro a A - ⟨t0,t1,t2,-⟩
   have FM:=FM2
   clear FM2
   refine wp_block ?_
   refine wp_seq ?_
   refine wi_ A (h3_ t0 t1 t2) (rv_ 1 (.pointer (some ⟨q.g,0,none⟩)) (fun a E=>execNlm rfl (E _)) (rv_ 2 (.pointer (some ⟨q.g,7,none⟩)) (fun a E=>execRo6 rfl (E _)) (rv_ 3 (sl0 q.C p.d) (fun a E=>execLr rfl (Or.inr (Or.inr (Or.inr (Or.inl rfl)))) (E _) (gR_at FM).2.2.2.2.2.2.2.1) (rv_ 5 (.pointer (some ⟨q.C,0+d,none⟩)) (fun a E=>execIxBo (k:=d) rfl (E _) (E _) hd) (rv_ 6 (.bool false) (fun a E=>execLr rfl (Or.inr (Or.inl rfl)) (E _) ((rA_c FM.hC hd).trans (by rw [show (on_ r t).cl d=false from hcl]))) (rf_ [(32,.bool false)] (h3_ t0 t1 t2) ?_))))))
   rintro a A ⟨t32,-⟩ ⟨t0,t1,t2,-⟩
   refine wp_cond_false t32 ?_
   clear t32
   obtain ⟨cb,co,cc,ecv,lcb,hcb⟩:=ints_open hp.c (by omega)
   refine wp_seq ?_
   refine wj_ [0,1,2,3,4,5,6,7,8,9,10,11,12,13,14,15,16,17] [] [3,6,7,12,15] [] A (h3_ t0 t1 t2) (fun X4 bD=>?_)
   refine dw_ 1 (.pointer (some ⟨q.g,0,none⟩)) (fun a X E=>execNlm rfl (E _)) (dw_ 2 (.pointer (some ⟨q.g,6,none⟩)) (fun a X E=>execRo5 rfl (E _)) (dv_ 3 (sl0 q.H p.d) (fun a X E hb=>execLr rfl (Or.inr (Or.inr (Or.inr (Or.inr (Or.inl rfl))))) (E _) (gR_at (FM.on hb)).2.2.2.2.2.2.1) (dw_ 5 (.pointer (some ⟨q.H,0+d,none⟩)) (fun a X E=>execIxLL (k:=d) rfl (E _) (E _) hd) (dv_ 6 (hv d) (fun a X E hb=>execLr rfl (Or.inr (Or.inr (Or.inl rfl))) (E _) (rA_c (FM.on hb).hH hd)) (dv_ 7 (.int .i64 (((r.hd d).length:Nat):Int)) (fun a X E hb=>execLenI (len:=(r.hd d).length) rfl (E _) ((FM.on hb).hd d hd).shp) (dw_ 9 (.pointer (some ⟨q.g,0,none⟩)) (fun a X E=>execNlm rfl (E _)) (dw_ 10 (.pointer (some ⟨q.g,0,none⟩)) (fun a X E=>execRo0 rfl (E _)) (dw_ 11 (.pointer (some ⟨q.g,0,none⟩)) (fun a X E=>execPf0 rfl (E _)) (dv_ 12 (cv) (fun a X E hb=>execLr rfl (Or.inr (Or.inr (Or.inl rfl))) (E _) (gR_at (FM.on hb)).1) (dw_ 14 (.pointer (some ⟨cb,co+d,none⟩)) (fun a X E=>execIdxN (k:=d) rfl ((E _).trans ecv) (E _) hd) (dv_ 15 (.int .i64 (p.cap d)) (fun a X E hb=>execLr rfl (Or.inl rfl) (E _) (by rw [cell_below (BB.trans (hb.mono BB.size)) lcb]; exact hcb d hd)) (dw_ 16 (.bool false) (fun a X E=>execDec (exIlss3 (p:=(((r.hd d).length:Nat):Int)) (q:=(p.cap d)) rfl (E _) (E _)) (decide_eq_false hlt)) (dz_ [(47,.bool false)] (h3_ t0 t1 t2) ?_)))))))))))))
   rintro a A ⟨t47,-⟩ ⟨t0,t1,t2,-⟩
   replace FXs:=(FXs.below bD FXs.size)
   replace FM:=(FM.on bD)
   replace BB:=BB.trans (bD.mono BB.size)
   clear bD
   refine wp_cond_false t47 ?_
   clear t47
   refine wj_ [0,1,2,3,4,5,6,7,8,9,10,11,12,13,14,15] [15] [4,7,11,14] [15] A (h3_ t0 t1 t2) (fun X1_0 bD=>?_)
   refine dw_ 2 (.pointer (some ⟨q.g,0,none⟩)) (fun a X E=>execNlm rfl (E _)) (dw_ 3 (.pointer (some ⟨q.g,9,none⟩)) (fun a X E=>execRo8 rfl (E _)) (dv_ 4 (sl0 q.K p.d) (fun a X E hb=>execLr rfl (Or.inr (Or.inr (Or.inl rfl))) (E _) (gR_at (FM.on hb)).2.2.2.2.2.2.2.2.2.1) (dw_ 6 (.pointer (some ⟨q.K,0+d,none⟩)) (fun a X E=>execIdxN (k:=d) rfl (E _) (E _) hd) (dv_ 7 (.int .i64 ((k:Nat):Int)) (fun a X E hb=>execLr rfl (Or.inl rfl) (E _) ((rA_c (FM.on hb).hK hd).trans (by rw [hkv]))) (dw_ 9 (.pointer (some ⟨q.g,0,none⟩)) (fun a X E=>execNlm rfl (E _)) (dw_ 10 (.pointer (some ⟨q.g,3,none⟩)) (fun a X E=>execRo2 rfl (E _)) (dv_ 11 (sl0 q.R p.n) (fun a X E hb=>execLr rfl (Or.inr (Or.inr (Or.inl rfl))) (E _) (gR_at (FM.on hb)).2.2.2.1) (dw_ 13 (.pointer (some ⟨q.R,0+t,none⟩)) (fun a X E=>execIdxN (k:=t) rfl (E _) (E _) ht) (dv_ 14 (.int .i64 (r.rg t)) (fun a X E hb=>execLr rfl (Or.inl rfl) (E _) ((rA_c (FM.on hb).hR ht).trans rfl)) (dc_ 15 (rgot U q p cv tz xz (on_ r t) gv kv tv hv ow X1_0 hp (BB.trans (bD.mono BB.size)) (FM.on bD) k (r.rg t) hkn hlk2 hpl2) fun e X1 hh=>?_))))))))))
   obtain ⟨he,hT_,hb_⟩:=hh
   refine ⟨_,he,?_⟩
   obtain ⟨BB,FR⟩:Below U.heap.size U X1/\(RTo U.heap.size V X1 q p cv tz (got (on_ r t) k (r.rg t)) gv kv ow):=⟨hb_,hT_.step (FXs.below bD FXs.size) FL (zof FL)⟩
   clear bD FM FXs
   refine ⟨Or.inl rfl,?_⟩
   refine dy_ [] ?_
   rintro a A -
   refine nrm_in ?_
   exact bodyPost_end (results_none rfl _ _ _) A.2 ⟨rfl,FR,BB⟩
end Go.Proofs.Ytjjegmflllpknaa.Loo
