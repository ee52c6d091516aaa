import Derived.Test.YtjjegmflllpknaaT8n
namespace Go.Proofs.Ytjjegmflllpknaa.Loo
open Go.RowKit Gf8 Aes By8 Cel Cf Win Drw Prm
/- LoomPlays: the reference's may. Written by tools/mkT8o.py. -/
section
variable {p:Pl} {r:Rm} {t d f:Nat}
theorem may_0 (e:(at_ p r t).k=0):may p r t=false:=by unfold may; simp [e]
theorem may_1 (e:(at_ p r t).k=1) (a:(at_ p r t).a=(d:Int)):may p r t=(r.cl d || decide (((r.hd d).length:Int) < p.cap d) || mts p r d (tak p r d)):=by unfold may; simp [e,a]
theorem may_2 (e:(at_ p r t).k=2) (a:(at_ p r t).a=(d:Int)):may p r t=(rdy p r d || r.cl d):=by unfold may; simp [e,a]
theorem may_8 (e:(at_ p r t).k=8) (a:(at_ p r t).a=(d:Int)) (b:(at_ p r t).b=(f:Int)):may p r t=(rdy p r d || rdy p r f || spt r d && spt r f):=by unfold may; simp [e,a,b]
theorem may_9 (e:(at_ p r t).k=9) (a:(at_ p r t).a=(d:Int)):may p r t=(r.en d || decide (p.ln d<=r.pl d)):=by unfold may gone; simp [e,a]
theorem may_x (h:(at_ p r t).k ≠ 0/\(at_ p r t).k ≠ 1/\(at_ p r t).k ≠ 2/\(at_ p r t).k ≠ 8/\(at_ p r t).k ≠ 9):may p r t=true:=by unfold may; simp [h]
theorem nat_of9 {x:Int} {m:Nat} (h:0<=x/\x.toNat < m):∃ d:Nat,x=(d:Int)/\d < m:=⟨x.toNat,(Int.toNat_of_nonneg h.1).symm,h.2⟩
end
def gvO (o:Option Nat):Int:=match o with | some t=>(t:Int) | none=>-1
theorem gvO_is (o:Option Nat):decide (0<=gvO o)=o.isSome:=by cases o <;> simp [gvO]
structure Lkd (p:Pl) (r:Rm) (gv kv:Nat->Int):Prop where
 g:∀ d,d < p.d->gv d=gvO (giv p r d)
 k:∀ d,d < p.d->kv d=gvO (tak p r d)
section
variable {p:Pl} {r:Rm} {gv kv:Nat->Int} {d:Nat}
theorem Lkd.gs (h:Lkd p r gv kv) (hd:d < p.d):decide (0<=gv d)=(giv p r d).isSome:=by rw [h.g d hd]; exact gvO_is _
theorem Lkd.ks (h:Lkd p r gv kv) (hd:d < p.d):decide (0<=kv d)=(tak p r d).isSome:=by rw [h.k d hd]; exact gvO_is _
end
set_option maxRecDepth 100000 in
set_option maxHeartbeats 4000000 in
theorem rmay (B:Nat) (q:RK) (p:Pl) (cv tz:Value) (xz:Nat->Value) (r:Rm) (gv kv:Nat->Int) (tv hv:Nat->Value) (ow:Nat->Nat) (V:World) (hp:PlV V cv tz xz p) (h:RmM B V q p cv tz r gv kv tv hv ow) (t:Nat) (ht:t < p.n) (hok:Okp p) (hlk:Lkd p r gv kv) :
  Calls Try.prog 22 #[.pointer (some ⟨q.g,0,none⟩),.int .i64 ((t:Nat):Int)] V fun e w'=>e=.returned (.bool (may p r t))/\Below V.heap.size V w':=by
 go_enter Try.func22,Try.ntmps22
 refine wo_ 129 [(0,.pointer (some ⟨q.g,0,none⟩)),(1,.int .i64 ((t:Nat):Int))] ?_
 rintro a A ⟨t0,t1,-⟩
 have BW:Below V.heap.size V V:=Below.refl _ _
 have BB:Below V.heap.size V V:=Below.refl _ _
 refine wp_seq ?_
 refine wi_ A (h2_ t0 t1) (rf_ [] (h2_ t0 t1) ?_)
 rintro a A - ⟨t0,t1,-⟩
 refine wp_seq ?_
 refine wi_ A (h2_ t0 t1) (rc_ 2 (rat B q p cv tz xz r gv kv tv hv ow V (hp.on BB) (h.on BB) t ht) (cb_ fun X1_1 bQ=>?_))
 replace BB:=BB.trans (bQ.mono BB.size)
 clear bQ
 obtain ⟨g5,egg5⟩:∃ z_:Nat,X1_1.heap.size=z_:=⟨_,rfl⟩
 refine rs_ 3 (fun a E=>?_)
 refine stepV rfl rfl (execAlO rfl) ⟨.pointer (some ⟨g5,0,none⟩),⟨_,rfl,by subst egg5; rfl⟩,fun X1_2 hX=>?_⟩
 have bQ:Below X1_1.heap.size X1_1 X1_2:=by subst hX egg5; exact (belNew X1_1 _)
 have FO0:(X1_2.heap[g5]?=some (.cells (oC 0 0 0) 59)):=by subst hX egg5; exact heapNew X1_1 _
 have Fgo:(V.heap.size<=g5):=by subst hX egg5; exact (BB).size
 replace BB:=BB.trans (bQ.mono BB.size)
 clear bQ hX egg5 E a
 refine rs_ 4 (fun a E=>?_)
 refine stepS rfl rfl (execStO rfl (E _) (E _) FO0) ⟨_,⟨_,rfl,rfl⟩,fun X1 hX=>?_⟩
 obtain ⟨BB,FO⟩:Below V.heap.size V X1/\(X1.heap[g5]?=some (.cells (oC (at_ p r t).k (at_ p r t).a (at_ p r t).b) 59)):=by subst hX; exact ⟨below4 BB Fgo _,setRow_heap _ _ _ _ _ _ FO0⟩
 clear FO0 hX E a
 refine rf_ [(5,.pointer (some ⟨g5,0,none⟩))] (h2_ t0 t1) ?_
 rintro a A ⟨t5,-⟩ ⟨t0,t1,-⟩
 refine wp_seq (wp_seq ?_)
 refine wi_ A (h3_ t0 t1 t5) (rv_ 0 (.pointer (some ⟨g5,0,none⟩)) (fun a E=>execOf0 rfl (E _)) (rv_ 1 (.int .i64 (at_ p r t).k) (fun a E=>execLr rfl (Or.inl rfl) (E _) (oC_at FO).1) (rf_ [(10,.int .i64 (at_ p r t).k)] (h3_ t0 t1 t5) ?_)))
 rintro a A ⟨t10,-⟩ ⟨t0,t1,t5,-⟩
 refine wp_block ?_
 by_cases ek:(at_ p r t).k=0
 ·refine wp_seq ?_
  refine wi_ A (h4_ t0 t1 t5 t10) (rv_ 0 (.bool true) (fun a E=>execDec (exIeql3 (p:=(at_ p r t).k) (q:=0) rfl (E _) rfl) (decide_eq_true ek)) (rf_ [(11,.bool true)] (h4_ t0 t1 t5 t10) ?_))
  rintro a A ⟨t11,-⟩ ⟨t0,t1,t5,t10,-⟩
  refine wp_cond_true t11 ?_
  clear t11 t10
  refine wp_seq ?_
  rw [ek] at FO
  refine wi_ A (h3_ t0 t1 t5) (rg_ [(4,.bool false)] ?_)
  rintro a A ⟨t4,-⟩
  refine wp_ret ?_
  repeat (first | with_reducible refine ret_in ?_ | with_reducible refine ret_then ?_)
  refine bodyPost_ret (results_tmp rfl _ _ _) A.2 ⟨?_,BB⟩
  show Ending.returned (a.eval (.tmp 4))=_
  rw [t4]
  rw [may_0 ek]
 refine wp_seq ?_
 refine wi_ A (h4_ t0 t1 t5 t10) (rv_ 0 (.bool false) (fun a E=>execDec (exIeql3 (p:=(at_ p r t).k) (q:=0) rfl (E _) rfl) (decide_eq_false ek)) (rf_ [(11,.bool false)] (h4_ t0 t1 t5 t10) ?_))
 rintro a A ⟨t11,-⟩ ⟨t0,t1,t5,t10,-⟩
 refine wp_cond_false t11 ?_
 clear t11
 have k0:=ek
 clear ek
 have hr_:=at_ok hok ht k0
 by_cases ek:(at_ p r t).k=1
 ·obtain ⟨d,ea,hd⟩:=nat_of9 (rgt_put hr_ (Or.inl ek))
  refine wp_seq ?_
  refine wi_ A (h4_ t0 t1 t5 t10) (rv_ 0 (.bool true) (fun a E=>execDec (exIeql3 (p:=(at_ p r t).k) (q:=1) rfl (E _) rfl) (decide_eq_true ek)) (rf_ [(13,.bool true)] (h4_ t0 t1 t5 t10) ?_))
  rintro a A ⟨t13,-⟩ ⟨t0,t1,t5,t10,-⟩
  refine wp_cond_true t13 ?_
  clear t13 t10
  refine wp_seq ?_
  rw [ek,ea] at FO
  by_cases hcl:r.cl d=true
  ·obtain ⟨cb,co,cc,ecv,lcb,hcb⟩:=ints_open hp.c (by omega)
   refine wj_ [0,1,2,3,4,5,6,7,8,9,10,11,12,13,14,15,16,17,18,19,20,21,22,23,24,25,26,27,28,29,30,31,32,33,34,35,36,37,38,39,40,41,42,43] [] [3,5,7] [] A (h3_ t0 t1 t5) (fun X6 bD=>?_)
   refine dw_ 1 (.pointer (some ⟨q.g,0,none⟩)) (fun a X E=>execNlm rfl (E _)) (dw_ 2 (.pointer (some ⟨q.g,7,none⟩)) (fun a X E=>execRo6 rfl (E _)) (dv_ 3 (sl0 q.C p.d) (fun a X E hb=>execLr rfl (Or.inr (Or.inr (Or.inr (Or.inl rfl)))) (E _) (gR_at (h.on (BB.trans (hb.mono BB.size)))).2.2.2.2.2.2.2.1) (dw_ 4 (.pointer (some ⟨g5,1,none⟩)) (fun a X E=>execOf1 rfl (E _)) (dv_ 5 (.int .i64 ((d:Nat):Int)) (fun a X E hb=>execLr rfl (Or.inl rfl) (E _) (oC_at (on9 FO hb)).2.1) (dw_ 6 (.pointer (some ⟨q.C,0+d,none⟩)) (fun a X E=>execIxBo (k:=d) rfl (E _) (E _) hd) (dv_ 7 (.bool true) (fun a X E hb=>execLr rfl (Or.inr (Or.inl rfl)) (E _) ((rA_c (h.on (BB.trans (hb.mono BB.size))).hC hd).trans (by rw [hcl]))) (dy_ [(4,.bool true)] ?_)))))))
   rintro a A ⟨t4,-⟩
   replace FO:=(on9 FO bD)
   replace BB:=BB.trans (bD.mono BB.size)
   clear bD
   refine wp_ret ?_
   repeat (first | with_reducible refine ret_in ?_ | with_reducible refine ret_then ?_)
   refine bodyPost_ret (results_tmp rfl _ _ _) A.2 ⟨?_,BB⟩
   show Ending.returned (a.eval (.tmp 4))=_
   rw [t4]
   rw [may_1 ek ea,hcl]
   rfl
  ·replace hcl:=Bool.eq_false_iff.2 hcl
   by_cases hlt:((r.hd d).length:Int) < p.cap d
   ·obtain ⟨cb,co,cc,ecv,lcb,hcb⟩:=ints_open hp.c (by omega)
    refine wj_ [0,1,2,3,4,5,6,7,8,9,10,11,12,13,14,15,16,17,18,19,20,21,22,23,24,25,26,27,28,29,30,31,32,33,34,35,36,37,38,39,40,41,42,43] [] [3,5,7,12,14,16,22,24,26] [] A (h3_ t0 t1 t5) (fun X6 bD=>?_)
    refine dw_ 1 (.pointer (some ⟨q.g,0,none⟩)) (fun a X E=>execNlm rfl (E _)) (dw_ 2 (.pointer (some ⟨q.g,7,none⟩)) (fun a X E=>execRo6 rfl (E _)) (dv_ 3 (sl0 q.C p.d) (fun a X E hb=>execLr rfl (Or.inr (Or.inr (Or.inr (Or.inl rfl)))) (E _) (gR_at (h.on (BB.trans (hb.mono BB.size)))).2.2.2.2.2.2.2.1) (dw_ 4 (.pointer (some ⟨g5,1,none⟩)) (fun a X E=>execOf1 rfl (E _)) (dv_ 5 (.int .i64 ((d:Nat):Int)) (fun a X E hb=>execLr rfl (Or.inl rfl) (E _) (oC_at (on9 FO hb)).2.1) (dw_ 6 (.pointer (some ⟨q.C,0+d,none⟩)) (fun a X E=>execIxBo (k:=d) rfl (E _) (E _) hd) (dv_ 7 (.bool false) (fun a X E hb=>execLr rfl (Or.inr (Or.inl rfl)) (E _) ((rA_c (h.on (BB.trans (hb.mono BB.size))).hC hd).trans (by rw [hcl]))) (dw_ 10 (.pointer (some ⟨q.g,0,none⟩)) (fun a X E=>execNlm rfl (E _)) (dw_ 11 (.pointer (some ⟨q.g,6,none⟩)) (fun a X E=>execRo5 rfl (E _)) (dv_ 12 (sl0 q.H p.d) (fun a X E hb=>execLr rfl (Or.inr (Or.inr (Or.inr (Or.inr (Or.inl rfl))))) (E _) (gR_at (h.on (BB.trans (hb.mono BB.size)))).2.2.2.2.2.2.1) (dw_ 13 (.pointer (some ⟨g5,1,none⟩)) (fun a X E=>execOf1 rfl (E _)) (dv_ 14 (.int .i64 ((d:Nat):Int)) (fun a X E hb=>execLr rfl (Or.inl rfl) (E _) (oC_at (on9 FO hb)).2.1) (dw_ 15 (.pointer (some ⟨q.H,0+d,none⟩)) (fun a X E=>execIxLL (k:=d) rfl (E _) (E _) hd) (dv_ 16 (hv d) (fun a X E hb=>execLr rfl (Or.inr (Or.inr (Or.inl rfl))) (E _) (rA_c (h.on (BB.trans (hb.mono BB.size))).hH hd)) (dw_ 17 (.int .i64 (((r.hd d).length:Nat):Int)) (fun a X E=>execLenI (len:=(r.hd d).length) rfl (E _) (h.hd d hd).shp) (dw_ 19 (.pointer (some ⟨q.g,0,none⟩)) (fun a X E=>execNlm rfl (E _)) (dw_ 20 (.pointer (some ⟨q.g,0,none⟩)) (fun a X E=>execRo0 rfl (E _)) (dw_ 21 (.pointer (some ⟨q.g,0,none⟩)) (fun a X E=>execPf0 rfl (E _)) (dv_ 22 (cv) (fun a X E hb=>execLr rfl (Or.inr (Or.inr (Or.inl rfl))) (E _) (gR_at (h.on (BB.trans (hb.mono BB.size)))).1) (dw_ 23 (.pointer (some ⟨g5,1,none⟩)) (fun a X E=>execOf1 rfl (E _)) (dv_ 24 (.int .i64 ((d:Nat):Int)) (fun a X E hb=>execLr rfl (Or.inl rfl) (E _) (oC_at (on9 FO hb)).2.1) (dw_ 25 (.pointer (some ⟨cb,co+d,none⟩)) (fun a X E=>execIdxN (k:=d) rfl ((E _).trans ecv) (E _) hd) (dv_ 26 (.int .i64 (p.cap d)) (fun a X E hb=>execLr rfl (Or.inl rfl) (E _) (by rw [cell_below (BB.trans (hb.mono BB.size)) lcb]; exact hcb d hd)) (dw_ 27 (.bool true) (fun a X E=>execDec (exIlss3 (p:=(((r.hd d).length:Nat):Int)) (q:=(p.cap d)) rfl (E _) (E _)) (decide_eq_true hlt)) (dy_ [(4,.bool true)] ?_))))))))))))))))))))))))
    rintro a A ⟨t4,-⟩
    replace FO:=(on9 FO bD)
    replace BB:=BB.trans (bD.mono BB.size)
    clear bD
    refine wp_ret ?_
    repeat (first | with_reducible refine ret_in ?_ | with_reducible refine ret_then ?_)
    refine bodyPost_ret (results_tmp rfl _ _ _) A.2 ⟨?_,BB⟩
    show Ending.returned (a.eval (.tmp 4))=_
    rw [t4]
    rw [may_1 ek ea,hcl]
    rw [decide_eq_true hlt]; rfl
   ·obtain ⟨cb,co,cc,ecv,lcb,hcb⟩:=ints_open hp.c (by omega)
    refine wj_ [0,1,2,3,4,5,6,7,8,9,10,11,12,13,14,15,16,17,18,19,20,21,22,23,24,25,26,27,28,29,30,31,32,33,34,35,36,37,38,39,40,41,42,43] [41] [3,5,7,12,14,16,22,24,26,32,36,38,40] [] A (h3_ t0 t1 t5) (fun X6_0 bD=>?_)
    refine dw_ 1 (.pointer (some ⟨q.g,0,none⟩)) (fun a X E=>execNlm rfl (E _)) (dw_ 2 (.pointer (some ⟨q.g,7,none⟩)) (fun a X E=>execRo6 rfl (E _)) (dv_ 3 (sl0 q.C p.d) (fun a X E hb=>execLr rfl (Or.inr (Or.inr (Or.inr (Or.inl rfl)))) (E _) (gR_at (h.on (BB.trans (hb.mono BB.size)))).2.2.2.2.2.2.2.1) (dw_ 4 (.pointer (some ⟨g5,1,none⟩)) (fun a X E=>execOf1 rfl (E _)) (dv_ 5 (.int .i64 ((d:Nat):Int)) (fun a X E hb=>execLr rfl (Or.inl rfl) (E _) (oC_at (on9 FO hb)).2.1) (dw_ 6 (.pointer (some ⟨q.C,0+d,none⟩)) (fun a X E=>execIxBo (k:=d) rfl (E _) (E _) hd) (dv_ 7 (.bool false) (fun a X E hb=>execLr rfl (Or.inr (Or.inl rfl)) (E _) ((rA_c (h.on (BB.trans (hb.mono BB.size))).hC hd).trans (by rw [hcl]))) (dw_ 10 (.pointer (some ⟨q.g,0,none⟩)) (fun a X E=>execNlm rfl (E _)) (dw_ 11 (.pointer (some ⟨q.g,6,none⟩)) (fun a X E=>execRo5 rfl (E _)) (dv_ 12 (sl0 q.H p.d) (fun a X E hb=>execLr rfl (Or.inr (Or.inr (Or.inr (Or.inr (Or.inl rfl))))) (E _) (gR_at (h.on (BB.trans (hb.mono BB.size)))).2.2.2.2.2.2.1) (dw_ 13 (.pointer (some ⟨g5,1,none⟩)) (fun a X E=>execOf1 rfl (E _)) (dv_ 14 (.int .i64 ((d:Nat):Int)) (fun a X E hb=>execLr rfl (Or.inl rfl) (E _) (oC_at (on9 FO hb)).2.1) (dw_ 15 (.pointer (some ⟨q.H,0+d,none⟩)) (fun a X E=>execIxLL (k:=d) rfl (E _) (E _) hd) (dv_ 16 (hv d) (fun a X E hb=>execLr rfl (Or.inr (Or.inr (Or.inl rfl))) (E _) (rA_c (h.on (BB.trans (hb.mono BB.size))).hH hd)) (dw_ 17 (.int .i64 (((r.hd d).length:Nat):Int)) (fun a X E=>execLenI (len:=(r.hd d).length) rfl (E _) (h.hd d hd).shp) (dw_ 19 (.pointer (some ⟨q.g,0,none⟩)) (fun a X E=>execNlm rfl (E _)) (dw_ 20 (.pointer (some ⟨q.g,0,none⟩)) (fun a X E=>execRo0 rfl (E _)) (dw_ 21 (.pointer (some ⟨q.g,0,none⟩)) (fun a X E=>execPf0 rfl (E _)) (dv_ 22 (cv) (fun a X E hb=>execLr rfl (Or.inr (Or.inr (Or.inl rfl))) (E _) (gR_at (h.on (BB.trans (hb.mono BB.size)))).1) (dw_ 23 (.pointer (some ⟨g5,1,none⟩)) (fun a X E=>execOf1 rfl (E _)) (dv_ 24 (.int .i64 ((d:Nat):Int)) (fun a X E hb=>execLr rfl (Or.inl rfl) (E _) (oC_at (on9 FO hb)).2.1) (dw_ 25 (.pointer (some ⟨cb,co+d,none⟩)) (fun a X E=>execIdxN (k:=d) rfl ((E _).trans ecv) (E _) hd) (dv_ 26 (.int .i64 (p.cap d)) (fun a X E hb=>execLr rfl (Or.inl rfl) (E _) (by rw [cell_below (BB.trans (hb.mono BB.size)) lcb]; exact hcb d hd)) (dw_ 27 (.bool false) (fun a X E=>execDec (exIlss3 (p:=(((r.hd d).length:Nat):Int)) (q:=(p.cap d)) rfl (E _) (E _)) (decide_eq_false hlt)) (dw_ 31 (.pointer (some ⟨g5,1,none⟩)) (fun a X E=>execOf1 rfl (E _)) (dv_ 32 (.int .i64 ((d:Nat):Int)) (fun a X E hb=>execLr rfl (Or.inl rfl) (E _) (oC_at (on9 FO hb)).2.1) (dw_ 34 (.pointer (some ⟨q.g,0,none⟩)) (fun a X E=>execNlm rfl (E _)) (dw_ 35 (.pointer (some ⟨q.g,9,none⟩)) (fun a X E=>execRo8 rfl (E _)) (dv_ 36 (sl0 q.K p.d) (fun a X E hb=>execLr rfl (Or.inr (Or.inr (Or.inl rfl))) (E _) (gR_at (h.on (BB.trans (hb.mono BB.size)))).2.2.2.2.2.2.2.2.2.1) (dw_ 37 (.pointer (some ⟨g5,1,none⟩)) (fun a X E=>execOf1 rfl (E _)) (dv_ 38 (.int .i64 ((d:Nat):Int)) (fun a X E hb=>execLr rfl (Or.inl rfl) (E _) (oC_at (on9 FO hb)).2.1) (dw_ 39 (.pointer (some ⟨q.K,0+d,none⟩)) (fun a X E=>execIdxN (k:=d) rfl (E _) (E _) hd) (dv_ 40 (.int .i64 (kv d)) (fun a X E hb=>execLr rfl (Or.inl rfl) (E _) (rA_c (h.on (BB.trans (hb.mono BB.size))).hK hd)) (dc_ 41 (rmeets B q p cv tz xz r gv kv tv hv ow X6_0 (hp.on (BB.trans (bD.mono BB.size))) (h.on (BB.trans (bD.mono BB.size))) d (kv d) hd) (cb_ fun X6 bQ=>?_))))))))))))))))))))))))))))))))))
    replace bD:=bD.trans (bQ.mono bD.size)
    clear bQ
    refine ⟨Or.inr bD,?_⟩
    refine dy_ [(4,.bool (decide (p.cap d=0) && !r.cl d && decide (0<=kv d)))] ?_
    rintro a A ⟨t4,-⟩
    replace FO:=(on9 FO bD)
    replace BB:=BB.trans (bD.mono BB.size)
    clear bD
    refine wp_ret ?_
    repeat (first | with_reducible refine ret_in ?_ | with_reducible refine ret_then ?_)
    refine bodyPost_ret (results_tmp rfl _ _ _) A.2 ⟨?_,BB⟩
    show Ending.returned (a.eval (.tmp 4))=_
    rw [t4]
    rw [may_1 ek ea,hcl]
    rw [decide_eq_false hlt,hlk.ks hd]; unfold mts; rw [hcl]; rfl
 refine wp_seq ?_
 refine wi_ A (h4_ t0 t1 t5 t10) (rv_ 0 (.bool false) (fun a E=>execDec (exIeql3 (p:=(at_ p r t).k) (q:=1) rfl (E _) rfl) (decide_eq_false ek)) (rf_ [(13,.bool false)] (h4_ t0 t1 t5 t10) ?_))
 rintro a A ⟨t13,-⟩ ⟨t0,t1,t5,t10,-⟩
 refine wp_cond_false t13 ?_
 clear t13
 have k1:=ek
 clear ek
 by_cases ek:(at_ p r t).k=2
 ·obtain ⟨d,ea,hd⟩:=nat_of9 (rgt_take hr_ ek).1
  refine wp_seq ?_
  refine wi_ A (h4_ t0 t1 t5 t10) (rv_ 0 (.bool true) (fun a E=>execDec (exIeql3 (p:=(at_ p r t).k) (q:=2) rfl (E _) rfl) (decide_eq_true ek)) (rf_ [(58,.bool true)] (h4_ t0 t1 t5 t10) ?_))
  rintro a A ⟨t58,-⟩ ⟨t0,t1,t5,t10,-⟩
  refine wp_cond_true t58 ?_
  clear t58 t10
  refine wp_seq ?_
  rw [ek,ea] at FO
  by_cases hrd:rdy p r d=true
  ·refine wj_ [0,1,2,3,4,5,6,7,8,9,10,11,12,13,14] [3] [2] [] A (h3_ t0 t1 t5) (fun X8_0 bD=>?_)
   refine dw_ 1 (.pointer (some ⟨g5,1,none⟩)) (fun a X E=>execOf1 rfl (E _)) (dv_ 2 (.int .i64 ((d:Nat):Int)) (fun a X E hb=>execLr rfl (Or.inl rfl) (E _) (oC_at (on9 FO hb)).2.1) (dc_ 3 (hrd ▸ rready B q p cv tz xz r gv kv tv hv ow X8_0 (hp.on (BB.trans (bD.mono BB.size))) (h.on (BB.trans (bD.mono BB.size))) d hd (hlk.gs hd)) (cb_ fun X8 bQ=>?_)))
   replace bD:=bD.trans (bQ.mono bD.size)
   clear bQ
   refine ⟨Or.inr bD,?_⟩
   refine dy_ [(4,.bool true)] ?_
   rintro a A ⟨t4,-⟩
   replace FO:=(on9 FO bD)
   replace BB:=BB.trans (bD.mono BB.size)
   clear bD
   refine wp_ret ?_
   repeat (first | with_reducible refine ret_in ?_ | with_reducible refine ret_then ?_)
   refine bodyPost_ret (results_tmp rfl _ _ _) A.2 ⟨?_,BB⟩
   show Ending.returned (a.eval (.tmp 4))=_
   rw [t4]
   rw [may_2 ek ea,hrd]
   rfl
  ·replace hrd:=Bool.eq_false_iff.2 hrd
   refine wj_ [0,1,2,3,4,5,6,7,8,9,10,11,12,13,14] [3] [2,8,10,12] [] A (h3_ t0 t1 t5) (fun X8_0 bD=>?_)
   refine dw_ 1 (.pointer (some ⟨g5,1,none⟩)) (fun a X E=>execOf1 rfl (E _)) (dv_ 2 (.int .i64 ((d:Nat):Int)) (fun a X E hb=>execLr rfl (Or.inl rfl) (E _) (oC_at (on9 FO hb)).2.1) (dc_ 3 (hrd ▸ rready B q p cv tz xz r gv kv tv hv ow X8_0 (hp.on (BB.trans (bD.mono BB.size))) (h.on (BB.trans (bD.mono BB.size))) d hd (hlk.gs hd)) (cb_ fun X8 bQ=>?_)))
   replace bD:=bD.trans (bQ.mono bD.size)
   clear bQ
   refine ⟨Or.inr bD,?_⟩
   refine dw_ 6 (.pointer (some ⟨q.g,0,none⟩)) (fun a X E=>execNlm rfl (E _)) (dw_ 7 (.pointer (some ⟨q.g,7,none⟩)) (fun a X E=>execRo6 rfl (E _)) (dv_ 8 (sl0 q.C p.d) (fun a X E hb=>execLr rfl (Or.inr (Or.inr (Or.inr (Or.inl rfl)))) (E _) (gR_at (h.on (BB.trans (hb.mono BB.size)))).2.2.2.2.2.2.2.1) (dw_ 9 (.pointer (some ⟨g5,1,none⟩)) (fun a X E=>execOf1 rfl (E _)) (dv_ 10 (.int .i64 ((d:Nat):Int)) (fun a X E hb=>execLr rfl (Or.inl rfl) (E _) (oC_at (on9 FO hb)).2.1) (dw_ 11 (.pointer (some ⟨q.C,0+d,none⟩)) (fun a X E=>execIxBo (k:=d) rfl (E _) (E _) hd) (dv_ 12 (.bool (r.cl d)) (fun a X E hb=>execLr rfl (Or.inr (Or.inl rfl)) (E _) (rA_c (h.on (BB.trans (hb.mono BB.size))).hC hd)) (dy_ [(4,.bool (r.cl d))] ?_)))))))
   rintro a A ⟨t4,-⟩
   replace FO:=(on9 FO bD)
   replace BB:=BB.trans (bD.mono BB.size)
   clear bD
   refine wp_ret ?_
   repeat (first | with_reducible refine ret_in ?_ | with_reducible refine ret_then ?_)
   refine bodyPost_ret (results_tmp rfl _ _ _) A.2 ⟨?_,BB⟩
   show Ending.returned (a.eval (.tmp 4))=_
   rw [t4]
   rw [may_2 ek ea,hrd]
   rfl
 refine wp_seq ?_
 refine wi_ A (h4_ t0 t1 t5 t10) (rv_ 0 (.bool false) (fun a E=>execDec (exIeql3 (p:=(at_ p r t).k) (q:=2) rfl (E _) rfl) (decide_eq_false ek)) (rf_ [(58,.bool false)] (h4_ t0 t1 t5 t10) ?_))
 rintro a A ⟨t58,-⟩ ⟨t0,t1,t5,t10,-⟩
 refine wp_cond_false t58 ?_
 clear t58
 have k2:=ek
 clear ek
 by_cases ek:(at_ p r t).k=8
 ·obtain ⟨d,ea,hd⟩:=nat_of9 (rgt_choose hr_ ek).1
  obtain ⟨f,eb,hf⟩:=nat_of9 (rgt_choose hr_ ek).2
  refine wp_seq ?_
  refine wi_ A (h4_ t0 t1 t5 t10) (rv_ 0 (.bool true) (fun a E=>execDec (exIeql3 (p:=(at_ p r t).k) (q:=8) rfl (E _) rfl) (decide_eq_true ek)) (rf_ [(74,.bool true)] (h4_ t0 t1 t5 t10) ?_))
  rintro a A ⟨t74,-⟩ ⟨t0,t1,t5,t10,-⟩
  refine wp_cond_true t74 ?_
  clear t74 t10
  refine wp_seq ?_
  rw [ek,ea,eb] at FO
  by_cases hra:rdy p r d=true
  ·refine wi_ A (h3_ t0 t1 t5) (rv_ 1 (.pointer (some ⟨g5,1,none⟩)) (fun a E=>execOf1 rfl (E _)) (rv_ 2 (.int .i64 ((d:Nat):Int)) (fun a E=>execLr rfl (Or.inl rfl) (E _) (oC_at FO).2.1) (rc_ 3 (hra ▸ rready B q p cv tz xz r gv kv tv hv ow X1 (hp.on BB) (h.on BB) d hd (hlk.gs hd)) (cb_ fun X10 bQ=>?_))))
   replace FO:=(on9 FO bQ)
   replace BB:=BB.trans (bQ.mono BB.size)
   clear bQ
   refine rg_ [(4,.bool true)] ?_
   rintro a A ⟨t4,-⟩
   refine wp_ret ?_
   repeat (first | with_reducible refine ret_in ?_ | with_reducible refine ret_then ?_)
   refine bodyPost_ret (results_tmp rfl _ _ _) A.2 ⟨?_,BB⟩
   show Ending.returned (a.eval (.tmp 4))=_
   rw [t4]
   rw [may_8 ek ea eb,hra]
   rfl
  ·replace hra:=Bool.eq_false_iff.2 hra
   by_cases hrb:rdy p r f=true
   ·refine wi_ A (h3_ t0 t1 t5) (rv_ 1 (.pointer (some ⟨g5,1,none⟩)) (fun a E=>execOf1 rfl (E _)) (rv_ 2 (.int .i64 ((d:Nat):Int)) (fun a E=>execLr rfl (Or.inl rfl) (E _) (oC_at FO).2.1) (rc_ 3 (hra ▸ rready B q p cv tz xz r gv kv tv hv ow X1 (hp.on BB) (h.on BB) d hd (hlk.gs hd)) (cb_ fun X10_1 bQ=>?_))))
    replace FO:=(on9 FO bQ)
    replace BB:=BB.trans (bQ.mono BB.size)
    clear bQ
    refine rv_ 6 (.pointer (some ⟨g5,2,none⟩)) (fun a E=>execOf2 rfl (E _)) (rv_ 7 (.int .i64 ((f:Nat):Int)) (fun a E=>execLr rfl (Or.inl rfl) (E _) (oC_at FO).2.2) (rc_ 8 (hrb ▸ rready B q p cv tz xz r gv kv tv hv ow X10_1 (hp.on BB) (h.on BB) f hf (hlk.gs hf)) (cb_ fun X10 bQ=>?_)))
    replace FO:=(on9 FO bQ)
    replace BB:=BB.trans (bQ.mono BB.size)
    clear bQ
    refine rg_ [(4,.bool true)] ?_
    rintro a A ⟨t4,-⟩
    refine wp_ret ?_
    repeat (first | with_reducible refine ret_in ?_ | with_reducible refine ret_then ?_)
    refine bodyPost_ret (results_tmp rfl _ _ _) A.2 ⟨?_,BB⟩
    show Ending.returned (a.eval (.tmp 4))=_
    rw [t4]
    rw [may_8 ek ea eb,hra,hrb]
    rfl
   ·replace hrb:=Bool.eq_false_iff.2 hrb
    by_cases hs1:spt r d=true
    ·refine wi_ A (h3_ t0 t1 t5) (rv_ 1 (.pointer (some ⟨g5,1,none⟩)) (fun a E=>execOf1 rfl (E _)) (rv_ 2 (.int .i64 ((d:Nat):Int)) (fun a E=>execLr rfl (Or.inl rfl) (E _) (oC_at FO).2.1) (rc_ 3 (hra ▸ rready B q p cv tz xz r gv kv tv hv ow X1 (hp.on BB) (h.on BB) d hd (hlk.gs hd)) (cb_ fun X10_1 bQ=>?_))))
     replace FO:=(on9 FO bQ)
     replace BB:=BB.trans (bQ.mono BB.size)
     clear bQ
     refine rv_ 6 (.pointer (some ⟨g5,2,none⟩)) (fun a E=>execOf2 rfl (E _)) (rv_ 7 (.int .i64 ((f:Nat):Int)) (fun a E=>execLr rfl (Or.inl rfl) (E _) (oC_at FO).2.2) (rc_ 8 (hrb ▸ rready B q p cv tz xz r gv kv tv hv ow X10_1 (hp.on BB) (h.on BB) f hf (hlk.gs hf)) (cb_ fun X10_2 bQ=>?_)))
     replace FO:=(on9 FO bQ)
     replace BB:=BB.trans (bQ.mono BB.size)
     clear bQ
     refine rv_ 12 (.pointer (some ⟨g5,1,none⟩)) (fun a E=>execOf1 rfl (E _)) (rv_ 13 (.int .i64 ((d:Nat):Int)) (fun a E=>execLr rfl (Or.inl rfl) (E _) (oC_at FO).2.1) (rc_ 14 (hs1 ▸ rspent B q p cv tz xz r gv kv tv hv ow X10_2 (hp.on BB) (h.on BB) d hd) (cb_ fun X10_3 bQ=>?_)))
     replace FO:=(on9 FO bQ)
     replace BB:=BB.trans (bQ.mono BB.size)
     clear bQ
     refine rv_ 17 (.pointer (some ⟨g5,2,none⟩)) (fun a E=>execOf2 rfl (E _)) (rv_ 18 (.int .i64 ((f:Nat):Int)) (fun a E=>execLr rfl (Or.inl rfl) (E _) (oC_at FO).2.2) (rc_ 19 (rspent B q p cv tz xz r gv kv tv hv ow X10_3 (hp.on BB) (h.on BB) f hf) (cb_ fun X10 bQ=>?_)))
     replace FO:=(on9 FO bQ)
     replace BB:=BB.trans (bQ.mono BB.size)
     clear bQ
     refine rg_ [(4,.bool (spt r f))] ?_
     rintro a A ⟨t4,-⟩
     refine wp_ret ?_
     repeat (first | with_reducible refine ret_in ?_ | with_reducible refine ret_then ?_)
     refine bodyPost_ret (results_tmp rfl _ _ _) A.2 ⟨?_,BB⟩
     show Ending.returned (a.eval (.tmp 4))=_
     rw [t4]
     rw [may_8 ek ea eb,hra,hrb,hs1]
     rfl
    ·replace hs1:=Bool.eq_false_iff.2 hs1
     refine wi_ A (h3_ t0 t1 t5) (rv_ 1 (.pointer (some ⟨g5,1,none⟩)) (fun a E=>execOf1 rfl (E _)) (rv_ 2 (.int .i64 ((d:Nat):Int)) (fun a E=>execLr rfl (Or.inl rfl) (E _) (oC_at FO).2.1) (rc_ 3 (hra ▸ rready B q p cv tz xz r gv kv tv hv ow X1 (hp.on BB) (h.on BB) d hd (hlk.gs hd)) (cb_ fun X10_1 bQ=>?_))))
     replace FO:=(on9 FO bQ)
     replace BB:=BB.trans (bQ.mono BB.size)
     clear bQ
     refine rv_ 6 (.pointer (some ⟨g5,2,none⟩)) (fun a E=>execOf2 rfl (E _)) (rv_ 7 (.int .i64 ((f:Nat):Int)) (fun a E=>execLr rfl (Or.inl rfl) (E _) (oC_at FO).2.2) (rc_ 8 (hrb ▸ rready B q p cv tz xz r gv kv tv hv ow X10_1 (hp.on BB) (h.on BB) f hf (hlk.gs hf)) (cb_ fun X10_2 bQ=>?_)))
     replace FO:=(on9 FO bQ)
     replace BB:=BB.trans (bQ.mono BB.size)
     clear bQ
     refine rv_ 12 (.pointer (some ⟨g5,1,none⟩)) (fun a E=>execOf1 rfl (E _)) (rv_ 13 (.int .i64 ((d:Nat):Int)) (fun a E=>execLr rfl (Or.inl rfl) (E _) (oC_at FO).2.1) (rc_ 14 (hs1 ▸ rspent B q p cv tz xz r gv kv tv hv ow X10_2 (hp.on BB) (h.on BB) d hd) (cb_ fun X10 bQ=>?_)))
     replace FO:=(on9 FO bQ)
     replace BB:=BB.trans (bQ.mono BB.size)
     clear bQ
     refine rg_ [(4,.bool false)] ?_
     rintro a A ⟨t4,-⟩
     refine wp_ret ?_
     repeat (first | with_reducible refine ret_in ?_ | with_reducible refine ret_then ?_)
     refine bodyPost_ret (results_tmp rfl _ _ _) A.2 ⟨?_,BB⟩
     show Ending.returned (a.eval (.tmp 4))=_
     rw [t4]
     rw [may_8 ek ea eb,hra,hrb,hs1]
     rfl
 refine wp_seq ?_
 refine wi_ A (h4_ t0 t1 t5 t10) (rv_ 0 (.bool false) (fun a E=>execDec (exIeql3 (p:=(at_ p r t).k) (q:=8) rfl (E _) rfl) (decide_eq_false ek)) (rf_ [(74,.bool false)] (h4_ t0 t1 t5 t10) ?_))
 rintro a A ⟨t74,-⟩ ⟨t0,t1,t5,t10,-⟩
 refine wp_cond_false t74 ?_
 clear t74
 have k8:=ek
 clear ek
 by_cases ek:(at_ p r t).k=9
 ·obtain ⟨d,ea,hd⟩:=nat_of9 (rgt_wait hr_ ek)
  refine wp_seq ?_
  refine wi_ A (h4_ t0 t1 t5 t10) (rv_ 0 (.bool true) (fun a E=>execDec (exIeql3 (p:=(at_ p r t).k) (q:=9) rfl (E _) rfl) (decide_eq_true ek)) (rf_ [(98,.bool true)] (h4_ t0 t1 t5 t10) ?_))
  rintro a A ⟨t98,-⟩ ⟨t0,t1,t5,t10,-⟩
  refine wp_cond_true t98 ?_
  clear t98 t10
  refine wp_seq ?_
  rw [ek,ea] at FO
  by_cases hen:r.en d=true
  ·obtain ⟨tb,to_,tc,etz⟩:=hp.t.open (by omega)
   refine wj_ [0,1,2,3,4,5,6,7,8,9,10,11,12,13,14,15,16,17,18,19,20,21,22,23,24,25,26,27,28,29] [] [3,5,7] [] A (h3_ t0 t1 t5) (fun X12 bD=>?_)
   refine dw_ 1 (.pointer (some ⟨q.g,0,none⟩)) (fun a X E=>execNlm rfl (E _)) (dw_ 2 (.pointer (some ⟨q.g,4,none⟩)) (fun a X E=>execRo3 rfl (E _)) (dv_ 3 (sl0 q.E p.n) (fun a X E hb=>execLr rfl (Or.inr (Or.inr (Or.inr (Or.inl rfl)))) (E _) (gR_at (h.on (BB.trans (hb.mono BB.size)))).2.2.2.2.1) (dw_ 4 (.pointer (some ⟨g5,1,none⟩)) (fun a X E=>execOf1 rfl (E _)) (dv_ 5 (.int .i64 ((d:Nat):Int)) (fun a X E hb=>execLr rfl (Or.inl rfl) (E _) (oC_at (on9 FO hb)).2.1) (dw_ 6 (.pointer (some ⟨q.E,0+d,none⟩)) (fun a X E=>execIxBo (k:=d) rfl (E _) (E _) hd) (dv_ 7 (.bool true) (fun a X E hb=>execLr rfl (Or.inr (Or.inl rfl)) (E _) ((rA_c (h.on (BB.trans (hb.mono BB.size))).hE hd).trans (by rw [hen]))) (dy_ [(4,.bool true)] ?_)))))))
   rintro a A ⟨t4,-⟩
   replace FO:=(on9 FO bD)
   replace BB:=BB.trans (bD.mono BB.size)
   clear bD
   refine wp_ret ?_
   repeat (first | with_reducible refine ret_in ?_ | with_reducible refine ret_then ?_)
   refine bodyPost_ret (results_tmp rfl _ _ _) A.2 ⟨?_,BB⟩
   show Ending.returned (a.eval (.tmp 4))=_
   rw [t4]
   rw [may_9 ek ea,hen]
   rfl
  ·replace hen:=Bool.eq_false_iff.2 hen
   by_cases hpl:p.ln d<=r.pl d
   ·obtain ⟨tb,to_,tc,etz⟩:=hp.t.open (by omega)
    refine wj_ [0,1,2,3,4,5,6,7,8,9,10,11,12,13,14,15,16,17,18,19,20,21,22,23,24,25,26,27,28,29] [] [3,5,7,12,14,16,21,23,25] [] A (h3_ t0 t1 t5) (fun X12 bD=>?_)
    refine dw_ 1 (.pointer (some ⟨q.g,0,none⟩)) (fun a X E=>execNlm rfl (E _)) (dw_ 2 (.pointer (some ⟨q.g,4,none⟩)) (fun a X E=>execRo3 rfl (E _)) (dv_ 3 (sl0 q.E p.n) (fun a X E hb=>execLr rfl (Or.inr (Or.inr (Or.inr (Or.inl rfl)))) (E _) (gR_at (h.on (BB.trans (hb.mono BB.size)))).2.2.2.2.1) (dw_ 4 (.pointer (some ⟨g5,1,none⟩)) (fun a X E=>execOf1 rfl (E _)) (dv_ 5 (.int .i64 ((d:Nat):Int)) (fun a X E hb=>execLr rfl (Or.inl rfl) (E _) (oC_at (on9 FO hb)).2.1) (dw_ 6 (.pointer (some ⟨q.E,0+d,none⟩)) (fun a X E=>execIxBo (k:=d) rfl (E _) (E _) hd) (dv_ 7 (.bool false) (fun a X E hb=>execLr rfl (Or.inr (Or.inl rfl)) (E _) ((rA_c (h.on (BB.trans (hb.mono BB.size))).hE hd).trans (by rw [hen]))) (dw_ 10 (.pointer (some ⟨q.g,0,none⟩)) (fun a X E=>execNlm rfl (E _)) (dw_ 11 (.pointer (some ⟨q.g,2,none⟩)) (fun a X E=>execRo1 rfl (E _)) (dv_ 12 (sl0 q.P p.n) (fun a X E hb=>execLr rfl (Or.inr (Or.inr (Or.inl rfl))) (E _) (gR_at (h.on (BB.trans (hb.mono BB.size)))).2.2.1) (dw_ 13 (.pointer (some ⟨g5,1,none⟩)) (fun a X E=>execOf1 rfl (E _)) (dv_ 14 (.int .i64 ((d:Nat):Int)) (fun a X E hb=>execLr rfl (Or.inl rfl) (E _) (oC_at (on9 FO hb)).2.1) (dw_ 15 (.pointer (some ⟨q.P,0+d,none⟩)) (fun a X E=>execIdxN (k:=d) rfl (E _) (E _) hd) (dv_ 16 (.int .i64 ((r.pl d:Nat):Int)) (fun a X E hb=>execLr rfl (Or.inl rfl) (E _) (rA_c (h.on (BB.trans (hb.mono BB.size))).hP hd)) (dw_ 18 (.pointer (some ⟨q.g,0,none⟩)) (fun a X E=>execNlm rfl (E _)) (dw_ 19 (.pointer (some ⟨q.g,0,none⟩)) (fun a X E=>execRo0 rfl (E _)) (dw_ 20 (.pointer (some ⟨q.g,1,none⟩)) (fun a X E=>execPf1 rfl (E _)) (dv_ 21 (tz) (fun a X E hb=>execLr rfl (Or.inr (Or.inr (Or.inr (Or.inr (Or.inr (Or.inl rfl)))))) (E _) (gR_at (h.on (BB.trans (hb.mono BB.size)))).2.1) (dw_ 22 (.pointer (some ⟨g5,1,none⟩)) (fun a X E=>execOf1 rfl (E _)) (dv_ 23 (.int .i64 ((d:Nat):Int)) (fun a X E hb=>execLr rfl (Or.inl rfl) (E _) (oC_at (on9 FO hb)).2.1) (dw_ 24 (.pointer (some ⟨tb,to_+d,none⟩)) (fun a X E=>execIxOO (k:=d) rfl ((E _).trans etz) (E _) hd) (dv_ 25 (xz d) (fun a X E hb=>execLr rfl (Or.inr (Or.inr (Or.inr (Or.inr (Or.inr (Or.inr (rfl))))))) (E _) (SliceV.at (hp.on (BB.trans (hb.mono BB.size))).t etz hd)) (dw_ 26 (.int .i64 ((p.ln d:Nat):Int)) (fun a X E=>execLnOs (len:=p.ln d) rfl (E _) (hp.o d hd).shp) (dw_ 27 (.bool true) (fun a X E=>execDec (exIgeq3 (p:=((r.pl d:Nat):Int)) (q:=((p.ln d:Nat):Int)) rfl (E _) (E _)) (decide_eq_true (by omega))) (dy_ [(4,.bool true)] ?_))))))))))))))))))))))))
    rintro a A ⟨t4,-⟩
    replace FO:=(on9 FO bD)
    replace BB:=BB.trans (bD.mono BB.size)
    clear bD
    refine wp_ret ?_
    repeat (first | with_reducible refine ret_in ?_ | with_reducible refine ret_then ?_)
    refine bodyPost_ret (results_tmp rfl _ _ _) A.2 ⟨?_,BB⟩
    show Ending.returned (a.eval (.tmp 4))=_
    rw [t4]
    rw [may_9 ek ea,hen]
    rw [decide_eq_true hpl]; rfl
   ·obtain ⟨tb,to_,tc,etz⟩:=hp.t.open (by omega)
    refine wj_ [0,1,2,3,4,5,6,7,8,9,10,11,12,13,14,15,16,17,18,19,20,21,22,23,24,25,26,27,28,29] [] [3,5,7,12,14,16,21,23,25] [] A (h3_ t0 t1 t5) (fun X12 bD=>?_)
    refine dw_ 1 (.pointer (some ⟨q.g,0,none⟩)) (fun a X E=>execNlm rfl (E _)) (dw_ 2 (.pointer (some ⟨q.g,4,none⟩)) (fun a X E=>execRo3 rfl (E _)) (dv_ 3 (sl0 q.E p.n) (fun a X E hb=>execLr rfl (Or.inr (Or.inr (Or.inr (Or.inl rfl)))) (E _) (gR_at (h.on (BB.trans (hb.mono BB.size)))).2.2.2.2.1) (dw_ 4 (.pointer (some ⟨g5,1,none⟩)) (fun a X E=>execOf1 rfl (E _)) (dv_ 5 (.int .i64 ((d:Nat):Int)) (fun a X E hb=>execLr rfl (Or.inl rfl) (E _) (oC_at (on9 FO hb)).2.1) (dw_ 6 (.pointer (some ⟨q.E,0+d,none⟩)) (fun a X E=>execIxBo (k:=d) rfl (E _) (E _) hd) (dv_ 7 (.bool false) (fun a X E hb=>execLr rfl (Or.inr (Or.inl rfl)) (E _) ((rA_c (h.on (BB.trans (hb.mono BB.size))).hE hd).trans (by rw [hen]))) (dw_ 10 (.pointer (some ⟨q.g,0,none⟩)) (fun a X E=>execNlm rfl (E _)) (dw_ 11 (.pointer (some ⟨q.g,2,none⟩)) (fun a X E=>execRo1 rfl (E _)) (dv_ 12 (sl0 q.P p.n) (fun a X E hb=>execLr rfl (Or.inr (Or.inr (Or.inl rfl))) (E _) (gR_at (h.on (BB.trans (hb.mono BB.size)))).2.2.1) (dw_ 13 (.pointer (some ⟨g5,1,none⟩)) (fun a X E=>execOf1 rfl (E _)) (dv_ 14 (.int .i64 ((d:Nat):Int)) (fun a X E hb=>execLr rfl (Or.inl rfl) (E _) (oC_at (on9 FO hb)).2.1) (dw_ 15 (.pointer (some ⟨q.P,0+d,none⟩)) (fun a X E=>execIdxN (k:=d) rfl (E _) (E _) hd) (dv_ 16 (.int .i64 ((r.pl d:Nat):Int)) (fun a X E hb=>execLr rfl (Or.inl rfl) (E _) (rA_c (h.on (BB.trans (hb.mono BB.size))).hP hd)) (dw_ 18 (.pointer (some ⟨q.g,0,none⟩)) (fun a X E=>execNlm rfl (E _)) (dw_ 19 (.pointer (some ⟨q.g,0,none⟩)) (fun a X E=>execRo0 rfl (E _)) (dw_ 20 (.pointer (some ⟨q.g,1,none⟩)) (fun a X E=>execPf1 rfl (E _)) (dv_ 21 (tz) (fun a X E hb=>execLr rfl (Or.inr (Or.inr (Or.inr (Or.inr (Or.inr (Or.inl rfl)))))) (E _) (gR_at (h.on (BB.trans (hb.mono BB.size)))).2.1) (dw_ 22 (.pointer (some ⟨g5,1,none⟩)) (fun a X E=>execOf1 rfl (E _)) (dv_ 23 (.int .i64 ((d:Nat):Int)) (fun a X E hb=>execLr rfl (Or.inl rfl) (E _) (oC_at (on9 FO hb)).2.1) (dw_ 24 (.pointer (some ⟨tb,to_+d,none⟩)) (fun a X E=>execIxOO (k:=d) rfl ((E _).trans etz) (E _) hd) (dv_ 25 (xz d) (fun a X E hb=>execLr rfl (Or.inr (Or.inr (Or.inr (Or.inr (Or.inr (Or.inr (rfl))))))) (E _) (SliceV.at (hp.on (BB.trans (hb.mono BB.size))).t etz hd)) (dw_ 26 (.int .i64 ((p.ln d:Nat):Int)) (fun a X E=>execLnOs (len:=p.ln d) rfl (E _) (hp.o d hd).shp) (dw_ 27 (.bool false) (fun a X E=>execDec (exIgeq3 (p:=((r.pl d:Nat):Int)) (q:=((p.ln d:Nat):Int)) rfl (E _) (E _)) (decide_eq_false (by omega))) (dy_ [(4,.bool false)] ?_))))))))))))))))))))))))
    rintro a A ⟨t4,-⟩
    replace FO:=(on9 FO bD)
    replace BB:=BB.trans (bD.mono BB.size)
    clear bD
    refine wp_ret ?_
    repeat (first | with_reducible refine ret_in ?_ | with_reducible refine ret_then ?_)
    refine bodyPost_ret (results_tmp rfl _ _ _) A.2 ⟨?_,BB⟩
    show Ending.returned (a.eval (.tmp 4))=_
    rw [t4]
    rw [may_9 ek ea,hen]
    rw [decide_eq_false hpl]; rfl
 refine wp_seq ?_
 refine wi_ A (h4_ t0 t1 t5 t10) (rv_ 0 (.bool false) (fun a E=>execDec (exIeql3 (p:=(at_ p r t).k) (q:=9) rfl (E _) rfl) (decide_eq_false ek)) (rf_ [(98,.bool false)] (h4_ t0 t1 t5 t10) ?_))
 rintro a A ⟨t98,-⟩ ⟨t0,t1,t5,t10,-⟩
 refine wp_cond_false t98 ?_
 clear t98
 have k9:=ek
 clear ek
 refine wp_skip ?_
 refine wp_seq ?_
 refine wi_ A (h4_ t0 t1 t5 t10) (rg_ [(4,.bool true)] ?_)
 rintro a A ⟨t4,-⟩
 refine wp_ret ?_
 repeat (first | with_reducible refine ret_in ?_ | with_reducible refine ret_then ?_)
 refine bodyPost_ret (results_tmp rfl _ _ _) A.2 ⟨?_,BB⟩
 show Ending.returned (a.eval (.tmp 4))=_
 rw [t4]
 rw [may_x ⟨k0,k1,k2,k8,k9⟩]
end Go.Proofs.Ytjjegmflllpknaa.Loo
