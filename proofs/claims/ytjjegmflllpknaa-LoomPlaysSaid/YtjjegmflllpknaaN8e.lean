import Derived.Test.YtjjegmflllpknaaN8d
namespace Go.Proofs.Ytjjegmflllpknaa.Loo
open Go.RowKit Gf8 Aes By8 Cel Cf Win Drw Prm
/- What the landed loom's functions read. Written by tools/mkN8e.py. -/
def lyS (M:Mm):Nat->Nat
 | 0=>0
 | i+1=>lyS M i+(M.hd i).length
theorem RN.hdl {p:Pl} {G:Ad} {U W:World} {ow:Nat->Nat} {M:Mm} {i:Nat} (h:RN p G U ow M W) (hi:i < p.d):(M.hd i).length<=(p.cap i).toNat/\(p.cap i).toNat<=1024:=⟨(h.duct hi).1.1,(h.duct hi).1.2.1⟩
theorem RN.opf {p:Pl} {G:Ad} {U W:World} {ow:Nat->Nat} {M:Mm} {t:Nat} (h:RN p G U ow M W) (ht:t < p.n) (hl:M.pl t < p.ln t):∃ b o c,G.ops t=.slice (some ⟨b,o,none⟩) (p.ln t) c:=(h.ops t ht).open (by omega)
set_option maxRecDepth 100000 in
set_option maxHeartbeats 4000000 in
theorem pended {p:Pl} {G:Ad} {U V:World} {ow:Nat->Nat} {M:Mm} {u:Nat} (hR:RN p G U ow M V) (hu:u < p.n) :
  Calls Try.prog 42 #[.pointer (some ⟨G.hn u,0,none⟩)] V fun e w'=>e=.returned (.bool (decide (M.pl u=p.ln u)))/\Below V.heap.size V w':=by
 go_enter Try.func42,Try.ntmps42
 refine wo_ 13 [(0,.pointer (some ⟨G.hn u,0,none⟩))] ?_
 rintro a A ⟨t0,-⟩
 have BW:Below V.heap.size V V:=Below.refl _ _
 have BB:Below V.heap.size V V:=Below.refl _ _
 refine wp_seq ?_
 refine wi_ A (h1_ t0) (rf_ [] (h1_ t0) ?_)
 rintro a A - ⟨t0,-⟩
 refine wp_seq ?_
 refine wj_ [0,1,2,3,4,5,6,7,8,9,10] [] [3,7] [] A (h1_ t0) (fun X1 bD=>?_)
 refine dw_ 1 (.pointer (some ⟨G.hn u,0,none⟩)) (fun a X E=>Duc.execNl rfl (E _)) (dw_ 2 (.pointer (some ⟨G.hn u,1,none⟩)) (fun a X E=>execNf1 rfl (E _)) (dv_ 3 (.int .i64 ((M.pl u:Nat):Int)) (fun a X E hb=>execLdG rfl (Or.inr (Or.inl rfl)) (E _) ((hR.on (BB.trans (hb.mono BB.size))).nc hu).2.1) (dw_ 5 (.pointer (some ⟨G.hn u,0,none⟩)) (fun a X E=>Duc.execNl rfl (E _)) (dw_ 6 (.pointer (some ⟨G.hn u,0,none⟩)) (fun a X E=>execNf0 rfl (E _)) (dv_ 7 (G.ops u) (fun a X E hb=>execLdG rfl (Or.inr (Or.inr (Or.inr (Or.inr (Or.inr rfl))))) (E _) ((hR.on (BB.trans (hb.mono BB.size))).nc hu).1) (dw_ 8 (.int .i64 ((p.ln u:Nat):Int)) (fun a X E=>execLnOs (len:=p.ln u) rfl (E _) ((hR.ops u hu).shp)) (dw_ 9 (.bool (decide (M.pl u=p.ln u))) (fun a X E=>execEqN (p:=M.pl u) (q:=p.ln u) rfl (E _) (E _)) (dy_ [(2,.bool (decide (M.pl u=p.ln u)))] ?_))))))))
 rintro a A ⟨t2,-⟩
 replace BB:=BB.trans (bD.mono BB.size)
 clear bD
 refine wp_ret ?_
 repeat (first | with_reducible refine ret_in ?_ | with_reducible refine ret_then ?_)
 refine bodyPost_ret (results_tmp rfl _ _ _) A.2 ⟨?_,BB⟩
 show Ending.returned (a.eval (.tmp 2))=_
 rw [t2]
set_option maxRecDepth 100000 in
set_option maxHeartbeats 4000000 in
theorem pmeet_g {p:Pl} {G:Ad} {U V:World} {ow:Nat->Nat} {M:Mm} {i:Nat} (hR:RN p G U ow M V) (hi:i < p.d) :
  Calls Try.prog 57 #[.pointer (some ⟨G.rb,0,none⟩),G.gS,.int .i64 ((i:Nat):Int)] V fun e w'=>e=.returned (.bool (meetM p M M.gv i))/\Below V.heap.size V w':=by
 obtain ⟨db,dc,eD⟩:=hR.dO hi
 obtain ⟨ob_,oc_,eO⟩:=hR.gO hi
 go_enter Try.func57,Try.ntmps57
 refine wo_ 30 [(0,.pointer (some ⟨G.rb,0,none⟩)),(1,G.gS),(2,.int .i64 ((i:Nat):Int))] ?_
 rintro a A ⟨t0,t1,t2,-⟩
 have BW:Below V.heap.size V V:=Below.refl _ _
 have BB:Below V.heap.size V V:=Below.refl _ _
 refine wp_seq ?_
 refine wi_ A (h3_ t0 t1 t2) (rf_ [] (h3_ t0 t1 t2) ?_)
 rintro a A - ⟨t0,t1,t2,-⟩
 refine wp_seq ?_
 refine wi_ A (h3_ t0 t1 t2) (rv_ 1 (.pointer (some ⟨G.rb,0,none⟩)) (fun a E=>Duc.execNl rfl (E _)) (rv_ 2 (.pointer (some ⟨G.rb,0,none⟩)) (fun a E=>execRf0 rfl (E _)) (rv_ 3 (G.dS) (fun a E=>execLdP rfl (Or.inl rfl) (E _) (hR.on BB).rc.1) (rv_ 5 (.pointer (some ⟨db,i,none⟩)) (fun a E=>execIxD (k:=i) rfl ((E _).trans eD) (E _) hi) (rv_ 6 (G.dv i) (fun a E=>execLdP rfl (Or.inr (Or.inr (Or.inr (Or.inl rfl)))) (E _) (RowP.at (hR.on BB).dR eD hi)) (rf_ [(7,G.dv i)] (h3_ t0 t1 t2) ?_))))))
 rintro a A ⟨t7,-⟩ ⟨t0,t1,t2,-⟩
 by_cases hc:(p.cap i).toNat=0
 ·cases hcl:M.cl i with
  | true=>
   have hr:meetM p M M.gv i=false:=by unfold meetM; rw [hcl,Bool.not_true,Bool.and_false,Bool.false_and]
   refine wp_seq ?_
   refine wi_ A (h4_ t0 t1 t2 t7) (rc_ 1 (RN.dcap (hR.on BB) hi) (cb_ fun X2_1 bQ=>?_))
   replace BB:=BB.trans (bQ.mono BB.size)
   clear bQ
   refine rv_ 2 (.bool true) (fun a E=>execDec (execEqN (p:=(p.cap i).toNat) (q:=0) rfl (E _) rfl) (decide_eq_true (by omega))) (rc_ 5 ((hcl ▸ RN.dclosed (hR.on BB) hi)) (cb_ fun X2 bQ=>?_))
   replace BB:=BB.trans (bQ.mono BB.size)
   clear bQ
   refine rv_ 6 (.bool false) (fun a E=>execNot8 (b:=true) rfl (E _)) (rg_ [(6,.bool false)] ?_)
   rintro a A ⟨t6,-⟩
   refine wp_ret ?_
   repeat (first | with_reducible refine ret_in ?_ | with_reducible refine ret_then ?_)
   refine bodyPost_ret (results_tmp rfl _ _ _) A.2 ⟨?_,BB⟩
   show Ending.returned (a.eval (.tmp 6))=_
   rw [t6]
   rw [hr]
  | false=>
   have hr:meetM p M M.gv i=(M.gv i).isSome:=by unfold meetM; rw [hcl,decide_eq_true ((hR.capN hi).1 hc)]; rfl
   refine wp_seq ?_
   refine wi_ A (h4_ t0 t1 t2 t7) (rc_ 1 (RN.dcap (hR.on BB) hi) (cb_ fun X2_1 bQ=>?_))
   replace BB:=BB.trans (bQ.mono BB.size)
   clear bQ
   refine rv_ 2 (.bool true) (fun a E=>execDec (execEqN (p:=(p.cap i).toNat) (q:=0) rfl (E _) rfl) (decide_eq_true (by omega))) (rc_ 5 ((hcl ▸ RN.dclosed (hR.on BB) hi)) (cb_ fun X2 bQ=>?_))
   replace BB:=BB.trans (bQ.mono BB.size)
   clear bQ
   refine rv_ 6 (.bool true) (fun a E=>execNot8 (b:=false) rfl (E _)) (rv_ 11 (.pointer (some ⟨ob_,i,none⟩)) (fun a E=>execIxH (k:=i) rfl ((E _).trans eO) (E _) hi) (rv_ 12 (pv G (M.gv i)) (fun a E=>execLdP rfl (Or.inr (Or.inr (Or.inl rfl))) (E _) (RowP.at (hR.on BB).gR eO hi)) (rv_ 13 (.bool (M.gv i).isSome) (fun a E=>execHne (oo:=(M.gv i)) rfl (E _) rfl) (rg_ [(6,.bool (M.gv i).isSome)] ?_))))
   rintro a A ⟨t6,-⟩
   refine wp_ret ?_
   repeat (first | with_reducible refine ret_in ?_ | with_reducible refine ret_then ?_)
   refine bodyPost_ret (results_tmp rfl _ _ _) A.2 ⟨?_,BB⟩
   show Ending.returned (a.eval (.tmp 6))=_
   rw [t6]
   rw [hr]
 ·have hr:meetM p M M.gv i=false:=by unfold meetM; rw [decide_eq_false (fun z=>hc ((hR.capN hi).2 z))]; rfl
  refine wp_seq ?_
  refine wi_ A (h4_ t0 t1 t2 t7) (rc_ 1 (RN.dcap (hR.on BB) hi) (cb_ fun X2 bQ=>?_))
  replace BB:=BB.trans (bQ.mono BB.size)
  clear bQ
  refine rv_ 2 (.bool false) (fun a E=>execDec (execEqN (p:=(p.cap i).toNat) (q:=0) rfl (E _) rfl) (decide_eq_false (by omega))) (rg_ [(6,.bool false)] ?_)
  rintro a A ⟨t6,-⟩
  refine wp_ret ?_
  repeat (first | with_reducible refine ret_in ?_ | with_reducible refine ret_then ?_)
  refine bodyPost_ret (results_tmp rfl _ _ _) A.2 ⟨?_,BB⟩
  show Ending.returned (a.eval (.tmp 6))=_
  rw [t6]
  rw [hr]
set_option maxRecDepth 100000 in
set_option maxHeartbeats 4000000 in
theorem pmeet_t {p:Pl} {G:Ad} {U V:World} {ow:Nat->Nat} {M:Mm} {i:Nat} (hR:RN p G U ow M V) (hi:i < p.d) :
  Calls Try.prog 57 #[.pointer (some ⟨G.rb,0,none⟩),G.tS,.int .i64 ((i:Nat):Int)] V fun e w'=>e=.returned (.bool (meetM p M M.tv i))/\Below V.heap.size V w':=by
 obtain ⟨db,dc,eD⟩:=hR.dO hi
 obtain ⟨ob_,oc_,eO⟩:=hR.tO hi
 go_enter Try.func57,Try.ntmps57
 refine wo_ 30 [(0,.pointer (some ⟨G.rb,0,none⟩)),(1,G.tS),(2,.int .i64 ((i:Nat):Int))] ?_
 rintro a A ⟨t0,t1,t2,-⟩
 have BW:Below V.heap.size V V:=Below.refl _ _
 have BB:Below V.heap.size V V:=Below.refl _ _
 refine wp_seq ?_
 refine wi_ A (h3_ t0 t1 t2) (rf_ [] (h3_ t0 t1 t2) ?_)
 rintro a A - ⟨t0,t1,t2,-⟩
 refine wp_seq ?_
 refine wi_ A (h3_ t0 t1 t2) (rv_ 1 (.pointer (some ⟨G.rb,0,none⟩)) (fun a E=>Duc.execNl rfl (E _)) (rv_ 2 (.pointer (some ⟨G.rb,0,none⟩)) (fun a E=>execRf0 rfl (E _)) (rv_ 3 (G.dS) (fun a E=>execLdP rfl (Or.inl rfl) (E _) (hR.on BB).rc.1) (rv_ 5 (.pointer (some ⟨db,i,none⟩)) (fun a E=>execIxD (k:=i) rfl ((E _).trans eD) (E _) hi) (rv_ 6 (G.dv i) (fun a E=>execLdP rfl (Or.inr (Or.inr (Or.inr (Or.inl rfl)))) (E _) (RowP.at (hR.on BB).dR eD hi)) (rf_ [(7,G.dv i)] (h3_ t0 t1 t2) ?_))))))
 rintro a A ⟨t7,-⟩ ⟨t0,t1,t2,-⟩
 by_cases hc:(p.cap i).toNat=0
 ·cases hcl:M.cl i with
  | true=>
   have hr:meetM p M M.tv i=false:=by unfold meetM; rw [hcl,Bool.not_true,Bool.and_false,Bool.false_and]
   refine wp_seq ?_
   refine wi_ A (h4_ t0 t1 t2 t7) (rc_ 1 (RN.dcap (hR.on BB) hi) (cb_ fun X2_1 bQ=>?_))
   replace BB:=BB.trans (bQ.mono BB.size)
   clear bQ
   refine rv_ 2 (.bool true) (fun a E=>execDec (execEqN (p:=(p.cap i).toNat) (q:=0) rfl (E _) rfl) (decide_eq_true (by omega))) (rc_ 5 ((hcl ▸ RN.dclosed (hR.on BB) hi)) (cb_ fun X2 bQ=>?_))
   replace BB:=BB.trans (bQ.mono BB.size)
   clear bQ
   refine rv_ 6 (.bool false) (fun a E=>execNot8 (b:=true) rfl (E _)) (rg_ [(6,.bool false)] ?_)
   rintro a A ⟨t6,-⟩
   refine wp_ret ?_
   repeat (first | with_reducible refine ret_in ?_ | with_reducible refine ret_then ?_)
   refine bodyPost_ret (results_tmp rfl _ _ _) A.2 ⟨?_,BB⟩
   show Ending.returned (a.eval (.tmp 6))=_
   rw [t6]
   rw [hr]
  | false=>
   have hr:meetM p M M.tv i=(M.tv i).isSome:=by unfold meetM; rw [hcl,decide_eq_true ((hR.capN hi).1 hc)]; rfl
   refine wp_seq ?_
   refine wi_ A (h4_ t0 t1 t2 t7) (rc_ 1 (RN.dcap (hR.on BB) hi) (cb_ fun X2_1 bQ=>?_))
   replace BB:=BB.trans (bQ.mono BB.size)
   clear bQ
   refine rv_ 2 (.bool true) (fun a E=>execDec (execEqN (p:=(p.cap i).toNat) (q:=0) rfl (E _) rfl) (decide_eq_true (by omega))) (rc_ 5 ((hcl ▸ RN.dclosed (hR.on BB) hi)) (cb_ fun X2 bQ=>?_))
   replace BB:=BB.trans (bQ.mono BB.size)
   clear bQ
   refine rv_ 6 (.bool true) (fun a E=>execNot8 (b:=false) rfl (E _)) (rv_ 11 (.pointer (some ⟨ob_,i,none⟩)) (fun a E=>execIxH (k:=i) rfl ((E _).trans eO) (E _) hi) (rv_ 12 (pv G (M.tv i)) (fun a E=>execLdP rfl (Or.inr (Or.inr (Or.inl rfl))) (E _) (RowP.at (hR.on BB).tR eO hi)) (rv_ 13 (.bool (M.tv i).isSome) (fun a E=>execHne (oo:=(M.tv i)) rfl (E _) rfl) (rg_ [(6,.bool (M.tv i).isSome)] ?_))))
   rintro a A ⟨t6,-⟩
   refine wp_ret ?_
   repeat (first | with_reducible refine ret_in ?_ | with_reducible refine ret_then ?_)
   refine bodyPost_ret (results_tmp rfl _ _ _) A.2 ⟨?_,BB⟩
   show Ending.returned (a.eval (.tmp 6))=_
   rw [t6]
   rw [hr]
 ·have hr:meetM p M M.tv i=false:=by unfold meetM; rw [decide_eq_false (fun z=>hc ((hR.capN hi).2 z))]; rfl
  refine wp_seq ?_
  refine wi_ A (h4_ t0 t1 t2 t7) (rc_ 1 (RN.dcap (hR.on BB) hi) (cb_ fun X2 bQ=>?_))
  replace BB:=BB.trans (bQ.mono BB.size)
  clear bQ
  refine rv_ 2 (.bool false) (fun a E=>execDec (execEqN (p:=(p.cap i).toNat) (q:=0) rfl (E _) rfl) (decide_eq_false (by omega))) (rg_ [(6,.bool false)] ?_)
  rintro a A ⟨t6,-⟩
  refine wp_ret ?_
  repeat (first | with_reducible refine ret_in ?_ | with_reducible refine ret_then ?_)
  refine bodyPost_ret (results_tmp rfl _ _ _) A.2 ⟨?_,BB⟩
  show Ending.returned (a.eval (.tmp 6))=_
  rw [t6]
  rw [hr]
set_option maxRecDepth 100000 in
set_option maxHeartbeats 4000000 in
theorem pready {p:Pl} {G:Ad} {U V:World} {ow:Nat->Nat} {M:Mm} {i:Nat} (hR:RN p G U ow M V) (hi:i < p.d) :
  Calls Try.prog 58 #[.pointer (some ⟨G.rb,0,none⟩),.int .i64 ((i:Nat):Int)] V fun e w'=>e=.returned (.bool (rdyM p M i))/\Below V.heap.size V w':=by
 obtain ⟨db,dc,eD⟩:=hR.dO hi
 go_enter Try.func58,Try.ntmps58
 refine wo_ 22 [(0,.pointer (some ⟨G.rb,0,none⟩)),(1,.int .i64 ((i:Nat):Int))] ?_
 rintro a A ⟨t0,t1,-⟩
 have BW:Below V.heap.size V V:=Below.refl _ _
 have BB:Below V.heap.size V V:=Below.refl _ _
 refine wp_seq ?_
 refine wi_ A (h2_ t0 t1) (rf_ [] (h2_ t0 t1) ?_)
 rintro a A - ⟨t0,t1,-⟩
 by_cases hl:0 < (M.hd i).length
 ·have hr:rdyM p M i=true:=by unfold rdyM; rw [decide_eq_true hl]; rfl
  refine wp_seq ?_
  refine wi_ A (h2_ t0 t1) (rv_ 1 (.pointer (some ⟨G.rb,0,none⟩)) (fun a E=>Duc.execNl rfl (E _)) (rv_ 2 (.pointer (some ⟨G.rb,0,none⟩)) (fun a E=>execRf0 rfl (E _)) (rv_ 3 (G.dS) (fun a E=>execLdP rfl (Or.inl rfl) (E _) (hR.on BB).rc.1) (rv_ 5 (.pointer (some ⟨db,i,none⟩)) (fun a E=>execIxD (k:=i) rfl ((E _).trans eD) (E _) hi) (rv_ 6 (G.dv i) (fun a E=>execLdP rfl (Or.inr (Or.inr (Or.inr (Or.inl rfl)))) (E _) (RowP.at (hR.on BB).dR eD hi)) (rc_ 7 (((decide_eq_true hl) ▸ RN.dcanTake (hR.on BB) hi)) (cb_ fun X1 bQ=>?_)))))))
  replace BB:=BB.trans (bQ.mono BB.size)
  clear bQ
  refine rg_ [(4,.bool true)] ?_
  rintro a A ⟨t4,-⟩
  refine wp_ret ?_
  repeat (first | with_reducible refine ret_in ?_ | with_reducible refine ret_then ?_)
  refine bodyPost_ret (results_tmp rfl _ _ _) A.2 ⟨?_,BB⟩
  show Ending.returned (a.eval (.tmp 4))=_
  rw [t4]
  rw [hr]
 ·have hr:rdyM p M i=meetM p M M.gv i:=by unfold rdyM; rw [decide_eq_false hl]; rfl
  refine wp_seq ?_
  refine wi_ A (h2_ t0 t1) (rv_ 1 (.pointer (some ⟨G.rb,0,none⟩)) (fun a E=>Duc.execNl rfl (E _)) (rv_ 2 (.pointer (some ⟨G.rb,0,none⟩)) (fun a E=>execRf0 rfl (E _)) (rv_ 3 (G.dS) (fun a E=>execLdP rfl (Or.inl rfl) (E _) (hR.on BB).rc.1) (rv_ 5 (.pointer (some ⟨db,i,none⟩)) (fun a E=>execIxD (k:=i) rfl ((E _).trans eD) (E _) hi) (rv_ 6 (G.dv i) (fun a E=>execLdP rfl (Or.inr (Or.inr (Or.inr (Or.inl rfl)))) (E _) (RowP.at (hR.on BB).dR eD hi)) (rc_ 7 (((decide_eq_false hl) ▸ RN.dcanTake (hR.on BB) hi)) (cb_ fun X1_1 bQ=>?_)))))))
  replace BB:=BB.trans (bQ.mono BB.size)
  clear bQ
  refine rv_ 11 (.pointer (some ⟨G.rb,0,none⟩)) (fun a E=>Duc.execNl rfl (E _)) (rv_ 12 (.pointer (some ⟨G.rb,2,none⟩)) (fun a E=>execRf2 rfl (E _)) (rv_ 13 (G.gS) (fun a E=>execLdP rfl (Or.inr (Or.inl rfl)) (E _) (hR.on BB).rc.2.2.1) (rc_ 15 (pmeet_g (hR.on BB) hi) (cb_ fun X1 bQ=>?_))))
  replace BB:=BB.trans (bQ.mono BB.size)
  clear bQ
  refine rg_ [(4,.bool (meetM p M M.gv i))] ?_
  rintro a A ⟨t4,-⟩
  refine wp_ret ?_
  repeat (first | with_reducible refine ret_in ?_ | with_reducible refine ret_then ?_)
  refine bodyPost_ret (results_tmp rfl _ _ _) A.2 ⟨?_,BB⟩
  show Ending.returned (a.eval (.tmp 4))=_
  rw [t4]
  rw [hr]
set_option maxRecDepth 100000 in
set_option maxHeartbeats 4000000 in
theorem pspent {p:Pl} {G:Ad} {U V:World} {ow:Nat->Nat} {M:Mm} {i:Nat} (hR:RN p G U ow M V) (hi:i < p.d) :
  Calls Try.prog 59 #[.pointer (some ⟨G.rb,0,none⟩),.int .i64 ((i:Nat):Int)] V fun e w'=>e=.returned (.bool (sptM M i))/\Below V.heap.size V w':=by
 obtain ⟨db,dc,eD⟩:=hR.dO hi
 go_enter Try.func59,Try.ntmps59
 refine wo_ 24 [(0,.pointer (some ⟨G.rb,0,none⟩)),(1,.int .i64 ((i:Nat):Int))] ?_
 rintro a A ⟨t0,t1,-⟩
 have BW:Below V.heap.size V V:=Below.refl _ _
 have BB:Below V.heap.size V V:=Below.refl _ _
 refine wp_seq ?_
 refine wi_ A (h2_ t0 t1) (rf_ [] (h2_ t0 t1) ?_)
 rintro a A - ⟨t0,t1,-⟩
 cases hcl:M.cl i with
 | false=>
  have hr:sptM M i=false:=by unfold sptM; rw [hcl]; rfl
  refine wp_seq ?_
  refine wi_ A (h2_ t0 t1) (rv_ 1 (.pointer (some ⟨G.rb,0,none⟩)) (fun a E=>Duc.execNl rfl (E _)) (rv_ 2 (.pointer (some ⟨G.rb,0,none⟩)) (fun a E=>execRf0 rfl (E _)) (rv_ 3 (G.dS) (fun a E=>execLdP rfl (Or.inl rfl) (E _) (hR.on BB).rc.1) (rv_ 5 (.pointer (some ⟨db,i,none⟩)) (fun a E=>execIxD (k:=i) rfl ((E _).trans eD) (E _) hi) (rv_ 6 (G.dv i) (fun a E=>execLdP rfl (Or.inr (Or.inr (Or.inr (Or.inl rfl)))) (E _) (RowP.at (hR.on BB).dR eD hi)) (rc_ 7 ((hcl ▸ RN.dclosed (hR.on BB) hi)) (cb_ fun X1 bQ=>?_)))))))
  replace BB:=BB.trans (bQ.mono BB.size)
  clear bQ
  refine rg_ [(4,.bool false)] ?_
  rintro a A ⟨t4,-⟩
  refine wp_ret ?_
  repeat (first | with_reducible refine ret_in ?_ | with_reducible refine ret_then ?_)
  refine bodyPost_ret (results_tmp rfl _ _ _) A.2 ⟨?_,BB⟩
  show Ending.returned (a.eval (.tmp 4))=_
  rw [t4]
  rw [hr]
 | true=>
  have hr:sptM M i=!decide (0 < (M.hd i).length):=by
   unfold sptM
   rw [hcl,Bool.true_and,← decide_not]
   exact decide_eq_decide.2 (by omega)
  refine wp_seq ?_
  refine wi_ A (h2_ t0 t1) (rv_ 1 (.pointer (some ⟨G.rb,0,none⟩)) (fun a E=>Duc.execNl rfl (E _)) (rv_ 2 (.pointer (some ⟨G.rb,0,none⟩)) (fun a E=>execRf0 rfl (E _)) (rv_ 3 (G.dS) (fun a E=>execLdP rfl (Or.inl rfl) (E _) (hR.on BB).rc.1) (rv_ 5 (.pointer (some ⟨db,i,none⟩)) (fun a E=>execIxD (k:=i) rfl ((E _).trans eD) (E _) hi) (rv_ 6 (G.dv i) (fun a E=>execLdP rfl (Or.inr (Or.inr (Or.inr (Or.inl rfl)))) (E _) (RowP.at (hR.on BB).dR eD hi)) (rc_ 7 ((hcl ▸ RN.dclosed (hR.on BB) hi)) (cb_ fun X1_1 bQ=>?_)))))))
  replace BB:=BB.trans (bQ.mono BB.size)
  clear bQ
  refine rv_ 10 (.pointer (some ⟨G.rb,0,none⟩)) (fun a E=>Duc.execNl rfl (E _)) (rv_ 11 (.pointer (some ⟨G.rb,0,none⟩)) (fun a E=>execRf0 rfl (E _)) (rv_ 12 (G.dS) (fun a E=>execLdP rfl (Or.inl rfl) (E _) (hR.on BB).rc.1) (rv_ 14 (.pointer (some ⟨db,i,none⟩)) (fun a E=>execIxD (k:=i) rfl ((E _).trans eD) (E _) hi) (rv_ 15 (G.dv i) (fun a E=>execLdP rfl (Or.inr (Or.inr (Or.inr (Or.inl rfl)))) (E _) (RowP.at (hR.on BB).dR eD hi)) (rc_ 16 (RN.dcanTake (hR.on BB) hi) (cb_ fun X1 bQ=>?_))))))
  replace BB:=BB.trans (bQ.mono BB.size)
  clear bQ
  refine rv_ 17 (.bool (!(decide (0 < (M.hd i).length)))) (fun a E=>execNot8 (b:=(decide (0 < (M.hd i).length))) rfl (E _)) (rg_ [(4,.bool (!(decide (0 < (M.hd i).length))))] ?_)
  rintro a A ⟨t4,-⟩
  refine wp_ret ?_
  repeat (first | with_reducible refine ret_in ?_ | with_reducible refine ret_then ?_)
  refine bodyPost_ret (results_tmp rfl _ _ _) A.2 ⟨?_,BB⟩
  show Ending.returned (a.eval (.tmp 4))=_
  rw [t4]
  rw [hr]
set_option maxRecDepth 100000 in
set_option maxHeartbeats 4000000 in
theorem plying {p:Pl} {G:Ad} {U V:World} {ow:Nat->Nat} {M:Mm} (hR:RN p G U ow M V) :
  Calls Try.prog 61 #[.pointer (some ⟨G.rb,0,none⟩)] V fun e w'=>e=.returned (.int .i64 ((lyS M p.d:Nat):Int))/\Below V.heap.size V w':=by
 have hd64:=hR.ok.d
 go_enter Try.func61,Try.ntmps61
 refine wo_ 21 [(0,.pointer (some ⟨G.rb,0,none⟩))] ?_
 rintro a A ⟨t0,-⟩
 have BW:Below V.heap.size V V:=Below.refl _ _
 have BB:Below V.heap.size V V:=Below.refl _ _
 refine wp_seq ?_
 refine wi_ A (h1_ t0) (rf_ [] (h1_ t0) ?_)
 rintro a A - ⟨t0,-⟩
 refine wp_seq ?_
 refine wi_ A (h1_ t0) (rf_ [(3,.int .i64 ((0:Nat):Int))] (h1_ t0) ?_)
 rintro a A ⟨t3,-⟩ ⟨t0,-⟩
 refine wp_seq (wp_seq ?_)
 refine wi_ A (h2_ t0 t3) (rv_ 1 (.pointer (some ⟨G.rb,0,none⟩)) (fun a E=>Duc.execNl rfl (E _)) (rv_ 2 (.pointer (some ⟨G.rb,0,none⟩)) (fun a E=>execRf0 rfl (E _)) (rv_ 3 (G.dS) (fun a E=>execLdP rfl (Or.inl rfl) (E _) (hR.on BB).rc.1) (rv_ 4 (.int .i64 ((p.d:Nat):Int)) (fun a E=>execLnD (len:=p.d) rfl (E _) hR.dR.shp) (rf_ [(9,G.dS),(10,.int .i64 ((p.d:Nat):Int)),(11,.int .i64 ((0:Nat):Int))] (h2_ t0 t3) ?_)))))
 rintro a A ⟨t9,t10,t11,-⟩ ⟨t0,t3,-⟩
 refine wp_block ?_
 refine wp_loop (fun a W=>∃ (i:Nat),i<=p.d/\(lyS M i<=1024 * i)/\(a.tmps.size=21/\a.defers=[])/\a.eval (.tmp 0)=.pointer (some ⟨G.rb,0,none⟩)/\a.eval (.tmp 3)=.int .i64 ((lyS M i:Nat):Int)/\a.eval (.tmp 9)=G.dS/\a.eval (.tmp 10)=.int .i64 ((p.d:Nat):Int)/\a.eval (.tmp 11)=.int .i64 ((i:Nat):Int)/\Below V.heap.size V W) (fun a _=>p.d - (intOf (a.eval (.tmp 11))).toNat) ⟨0,Nat.zero_le _,(Nat.le_refl _),A,t0,t3,t9,t10,t11,BB⟩ ?_
 rintro a XL3 ⟨i,hi,hly,A,t0,t3,t9,t10,t11,BB⟩
 have esi:=t11
 refine wp_seq ?_
 refine wi_ A (h5_ t0 t3 t9 t10 t11) (rv_ 0 (.bool (decide (i < p.d))) (fun a E=>execLtW (p:=i) (q:=p.d) rfl (E _) (E _)) (rf_ [(12,.bool (decide (i < p.d)))] (h5_ t0 t3 t9 t10 t11) ?_))
 rintro a A ⟨t12,-⟩ ⟨t0,t3,t9,t10,t11,-⟩
 refine wp_seq ?_
 by_cases lti:i < p.d
 ·rw [decide_eq_true lti] at t12
  refine wp_cond_true t12 (wp_skip ?_)
  clear t12
  refine wp_seq (wp_block ?_)
  obtain ⟨db,dc,eD⟩:=hR.dO lti
  have hq:=hR.hdl lti
  refine wp_seq ?_
  refine wi_ A (h5_ t0 t3 t9 t10 t11) (rv_ 0 (.pointer (some ⟨db,i,none⟩)) (fun a E=>execIxD (k:=i) rfl ((E _).trans eD) (E _) lti) (rv_ 1 (G.dv i) (fun a E=>execLdP rfl (Or.inr (Or.inr (Or.inr (Or.inl rfl)))) (E _) (RowP.at (hR.on BB).dR eD lti)) (rf_ [(5,G.dv i)] (h5_ t0 t3 t9 t10 t11) ?_)))
  rintro a A ⟨t5,-⟩ ⟨t0,t3,t9,t10,t11,-⟩
  refine wi_ A (h6_ t0 t3 t9 t10 t11 t5) (rc_ 2 (RN.dlen (hR.on BB) lti) (cb_ fun X5 bQ=>?_))
  replace BB:=BB.trans (bQ.mono BB.size)
  clear bQ
  refine rv_ 3 (.int .i64 ((lyS M i+(M.hd i).length:Nat):Int)) (fun a E=>execAd8 (p:=lyS M i) (q:=(M.hd i).length) rfl (E _) (E _) (by omega)) (rf_ [(3,.int .i64 ((lyS M i+(M.hd i).length:Nat):Int))] (h4_ t0 t9 t10 t11) ?_)
  rintro a A ⟨t3,-⟩ ⟨t0,t9,t10,t11,-⟩
  refine wi_ A (h5_ t0 t3 t9 t10 t11) (rv_ 0 (.int .i64 ((i+1:Nat):Int)) (fun a E=>execAd8 (p:=i) (q:=1) rfl (E _) rfl (by omega)) (rf_ [(11,.int .i64 ((i+1:Nat):Int))] (h4_ t0 t3 t9 t10) ?_))
  rintro a A ⟨t11,-⟩ ⟨t0,t3,t9,t10,-⟩
  exact ⟨⟨i+1,lti,(by show lyS M i+(M.hd i).length<=1024 * (i+1); omega),A,t0,t3,t9,t10,t11,BB⟩,by show p.d - (intOf (a.eval (.tmp 11))).toNat < p.d - (intOf (Act.eval _ (.tmp 11))).toNat; rw [t11,esi]; show p.d - (i+1) < p.d - i; omega⟩
 ·rw [decide_eq_false lti] at t12
  refine wp_cond_false t12 ?_
  refine wp_exit ?_
  first | with_reducible refine exit_in ?_ | with_reducible refine exit_then (exit_in ?_) | with_reducible refine exit_then (exit_then (exit_in ?_)) | refine exit_in ?_ | refine exit_then (exit_in ?_) | refine exit_then (exit_then (exit_in ?_))
  clear t12 esi
  have e1:i=p.d:=by omega
  refine wp_seq ?_
  refine wi_ A (h1_ t3) (rg_ [(2,.int .i64 ((lyS M i:Nat):Int))] ?_)
  rintro a A ⟨t2,-⟩
  refine wp_ret ?_
  repeat (first | with_reducible refine ret_in ?_ | with_reducible refine ret_then ?_)
  refine bodyPost_ret (results_tmp rfl _ _ _) A.2 ⟨?_,BB⟩
  show Ending.returned (a.eval (.tmp 2))=_
  rw [t2]
  rw [e1]
structure MyC (p:Pl) (M:Mm) (k ka kb:Int) (v:Bool):Prop where
 c1:k=1->∃ i:Nat,ka=((i:Nat):Int)/\i < p.d/\(M.cl i=true/\v=true\/M.cl i=false/\(M.hd i).length < (p.cap i).toNat/\v=true\/M.cl i=false/\¬ (M.hd i).length < (p.cap i).toNat/\v=meetM p M M.tv i):=by intro e; omega
 c2:k=2->∃ i:Nat,ka=((i:Nat):Int)/\i < p.d/\(rdyM p M i=true/\v=true\/rdyM p M i=false/\v=sptM M i):=by intro e; omega
 c8:k=8->∃ i j:Nat,ka=((i:Nat):Int)/\kb=((j:Nat):Int)/\i < p.d/\(rdyM p M i=true/\v=true\/rdyM p M i=false/\j < p.d/\rdyM p M j=true/\v=true\/rdyM p M i=false/\j < p.d/\rdyM p M j=false/\sptM M i=false/\v=false\/rdyM p M i=false/\j < p.d/\rdyM p M j=false/\sptM M i=true/\v=sptM M j):=by intro e; omega
 c9:k=9->∃ i:Nat,ka=((i:Nat):Int)/\i < p.n/\v=decide (M.pl i=p.ln i):=by intro e; omega
 c0:k ≠ 1/\k ≠ 2/\k ≠ 8/\k ≠ 9->v=true:=by intro e; omega
set_option maxRecDepth 100000 in
set_option maxHeartbeats 4000000 in
theorem pmayC {p:Pl} {G:Ad} {U V:World} {ow:Nat->Nat} {M:Mm} {v:Bool} {u:Nat} {k ka kb:Int} (hR:RN p G U ow M V) (hu:u < p.n) (hl:M.pl u < p.ln u) (hop:p.op u (M.pl u)=⟨k,ka,kb⟩) (C:MyC p M k ka kb v) :
  Calls Try.prog 44 #[.pointer (some ⟨G.rb,0,none⟩),.pointer (some ⟨G.hn u,0,none⟩)] V fun e w'=>e=.returned (.bool v)/\Below V.heap.size V w':=by
 obtain ⟨ob_,oo,oc_,eo⟩:=hR.opf hu hl
 go_enter Try.func44,Try.ntmps44
 refine wo_ 92 [(0,.pointer (some ⟨G.rb,0,none⟩)),(1,.pointer (some ⟨G.hn u,0,none⟩))] ?_
 rintro a A ⟨t0,t1,-⟩
 have BW:Below V.heap.size V V:=Below.refl _ _
 have BB:Below V.heap.size V V:=Below.refl _ _
 refine wp_seq ?_
 refine wi_ A (h2_ t0 t1) (rf_ [] (h2_ t0 t1) ?_)
 rintro a A - ⟨t0,t1,-⟩
 refine wp_seq ?_
 refine wj_ [0,1,2,3,4,5,6,7,8,9,10,11] [10,11] [3,7,9] [11] A (h2_ t0 t1) (fun X1_0 bD=>?_)
 obtain ⟨g5,egg5⟩:∃ z_:Nat,X1_0.heap.size=z_:=⟨_,rfl⟩
 refine dw_ 1 (.pointer (some ⟨G.hn u,0,none⟩)) (fun a X E=>Duc.execNl rfl (E _)) (dw_ 2 (.pointer (some ⟨G.hn u,0,none⟩)) (fun a X E=>execNf0 rfl (E _)) (dv_ 3 (G.ops u) (fun a X E hb=>execLdG rfl (Or.inr (Or.inr (Or.inr (Or.inr (Or.inr rfl))))) (E _) ((hR.on (BB.trans (hb.mono BB.size))).nc hu).1) (dw_ 5 (.pointer (some ⟨G.hn u,0,none⟩)) (fun a X E=>Duc.execNl rfl (E _)) (dw_ 6 (.pointer (some ⟨G.hn u,1,none⟩)) (fun a X E=>execNf1 rfl (E _)) (dv_ 7 (.int .i64 ((M.pl u:Nat):Int)) (fun a X E hb=>execLdG rfl (Or.inr (Or.inl rfl)) (E _) ((hR.on (BB.trans (hb.mono BB.size))).nc hu).2.1) (dw_ 8 (.pointer (some ⟨ob_,oo+(M.pl u) * 3,none⟩)) (fun a X E=>execIxOs (k:=M.pl u) rfl ((E _).trans eo) (E _) hl) (dv_ 9 (.agg (oC k ka kb)) (fun a X E hb=>execLdO rfl (E _) (hop ▸ SliceO.at ((hR.on (BB.trans (hb.mono BB.size))).opl hu) eo hl)) (ds_ 10 (fun a E=>?_)))))))))
 refine stepV rfl rfl (execAlO rfl) ⟨.pointer (some ⟨g5,0,none⟩),⟨_,rfl,by subst egg5; rfl⟩,fun X1_1 hX=>?_⟩
 have bQ:Below X1_0.heap.size X1_0 X1_1:=by subst hX egg5; exact (belNew X1_0 _)
 have Fg5:X1_1.heap[g5]?=some (.cells (oC 0 0 0) 59):=by subst hX egg5; exact heapNew X1_0 _
 have Fgeg5:(V.heap.size<=g5):=by subst hX egg5; exact ((BB.trans (bD.mono BB.size))).size
 replace bD:=bD.trans (bQ.mono bD.size)
 clear bQ hX egg5 E a
 refine ⟨Or.inr bD,?_⟩
 refine ds_ 11 (fun a E=>?_)
 refine stepS rfl rfl (execStO rfl (E _) (E _) Fg5) ⟨_,⟨_,rfl,rfl⟩,fun X1 hX=>?_⟩
 obtain ⟨BB,Fg5s⟩:Below V.heap.size V X1/\X1.heap[g5]?=some (.cells (oC k ka kb) 59):=by rw [hX]; exact ⟨below4 (BB.trans (bD.mono BB.size)) Fgeg5 _,setRow_heap _ _ _ _ _ _ Fg5⟩
 clear hX E a Fg5 bD
 refine ⟨Or.inl rfl,?_⟩
 refine dz_ [(5,.pointer (some ⟨g5,0,none⟩))] (h2_ t0 t1) ?_
 rintro a A ⟨t5,-⟩ ⟨t0,t1,-⟩
 refine wp_seq (wp_seq ?_)
 refine wi_ A (h3_ t0 t1 t5) (rv_ 0 (.pointer (some ⟨g5,0,none⟩)) (fun a E=>execOf0 rfl (E _)) (rv_ 1 (.int .i64 k) (fun a E=>execLdG rfl (Or.inr (Or.inl rfl)) (E _) (oC_at Fg5s).1) (rf_ [(18,.int .i64 k)] (h3_ t0 t1 t5) ?_)))
 rintro a A ⟨t18,-⟩ ⟨t0,t1,t5,-⟩
 refine wp_block ?_
 by_cases ek:k=1
 ·refine wp_seq ?_
  refine wi_ A (h4_ t0 t1 t5 t18) (rv_ 0 (.bool true) (fun a E=>execDec (exIeql3 (p:=k) (q:=1) rfl (E _) rfl) (decide_eq_true ek)) (rf_ [(19,.bool true)] (h4_ t0 t1 t5 t18) ?_))
  rintro a A ⟨t19,-⟩ ⟨t0,t1,t5,t18,-⟩
  refine wp_cond_true t19 ?_
  clear t19 t18
  obtain ⟨i,rfl,hi,hc⟩:=C.c1 ek
  subst ek
  obtain ⟨db,dc,eD⟩:=hR.dO hi
  refine wp_seq ?_
  rcases hc with ⟨hcl,rfl⟩ | ⟨hcl,hlt,rfl⟩ | ⟨hcl,hlt,rfl⟩
  ·refine wj_ [0,1,2,3,4,5,6,7,8] [] [3,5,7] [] A (h3_ t0 t1 t5) (fun X4 bD=>?_)
   refine dw_ 1 (.pointer (some ⟨G.rb,0,none⟩)) (fun a X E=>Duc.execNl rfl (E _)) (dw_ 2 (.pointer (some ⟨G.rb,0,none⟩)) (fun a X E=>execRf0 rfl (E _)) (dv_ 3 (G.dS) (fun a X E hb=>execLdP rfl (Or.inl rfl) (E _) (hR.on (BB.trans (hb.mono BB.size))).rc.1) (dw_ 4 (.pointer (some ⟨g5,1,none⟩)) (fun a X E=>execOf1 rfl (E _)) (dv_ 5 (.int .i64 ((i:Nat):Int)) (fun a X E hb=>execLdG rfl (Or.inr (Or.inl rfl)) (E _) (oC_at (on9 Fg5s hb)).2.1) (dw_ 6 (.pointer (some ⟨db,i,none⟩)) (fun a X E=>execIxD (k:=i) rfl ((E _).trans eD) (E _) hi) (dv_ 7 (G.dv i) (fun a X E hb=>execLdP rfl (Or.inr (Or.inr (Or.inr (Or.inl rfl)))) (E _) (RowP.at (hR.on (BB.trans (hb.mono BB.size))).dR eD hi)) (dz_ [(6,G.dv i)] (h2_ t0 t5) ?_)))))))
   rintro a A ⟨t6,-⟩ ⟨t0,t5,-⟩
   replace Fg5s:=(on9 Fg5s bD)
   replace BB:=BB.trans (bD.mono BB.size)
   clear bD
   refine wp_seq ?_
   refine wj_ [0,1,2,3,4,5,6,7,8,9,10,11,12,13,14,15,16] [1] [] [] A (h3_ t0 t5 t6) (fun X5_0 bD=>?_)
   refine dc_ 1 ((hcl ▸ RN.dclosed (hR.on (BB.trans (bD.mono BB.size))) hi)) (cb_ fun X5 bQ=>?_)
   replace bD:=bD.trans (bQ.mono bD.size)
   clear bQ
   refine ⟨Or.inr bD,?_⟩
   refine dy_ [(4,.bool true)] ?_
   rintro a A ⟨t4,-⟩
   replace Fg5s:=(on9 Fg5s bD)
   replace BB:=BB.trans (bD.mono BB.size)
   clear bD
   refine wp_ret ?_
   repeat (first | with_reducible refine ret_in ?_ | with_reducible refine ret_then ?_)
   refine bodyPost_ret (results_tmp rfl _ _ _) A.2 ⟨?_,BB⟩
   show Ending.returned (a.eval (.tmp 4))=_
   rw [t4]
  ·have hcp:decide (M.cl i=false/\(M.hd i).length < (p.cap i).toNat)=true:=decide_eq_true ⟨hcl,hlt⟩
   refine wj_ [0,1,2,3,4,5,6,7,8] [] [3,5,7] [] A (h3_ t0 t1 t5) (fun X4 bD=>?_)
   refine dw_ 1 (.pointer (some ⟨G.rb,0,none⟩)) (fun a X E=>Duc.execNl rfl (E _)) (dw_ 2 (.pointer (some ⟨G.rb,0,none⟩)) (fun a X E=>execRf0 rfl (E _)) (dv_ 3 (G.dS) (fun a X E hb=>execLdP rfl (Or.inl rfl) (E _) (hR.on (BB.trans (hb.mono BB.size))).rc.1) (dw_ 4 (.pointer (some ⟨g5,1,none⟩)) (fun a X E=>execOf1 rfl (E _)) (dv_ 5 (.int .i64 ((i:Nat):Int)) (fun a X E hb=>execLdG rfl (Or.inr (Or.inl rfl)) (E _) (oC_at (on9 Fg5s hb)).2.1) (dw_ 6 (.pointer (some ⟨db,i,none⟩)) (fun a X E=>execIxD (k:=i) rfl ((E _).trans eD) (E _) hi) (dv_ 7 (G.dv i) (fun a X E hb=>execLdP rfl (Or.inr (Or.inr (Or.inr (Or.inl rfl)))) (E _) (RowP.at (hR.on (BB.trans (hb.mono BB.size))).dR eD hi)) (dz_ [(6,G.dv i)] (h2_ t0 t5) ?_)))))))
   rintro a A ⟨t6,-⟩ ⟨t0,t5,-⟩
   replace Fg5s:=(on9 Fg5s bD)
   replace BB:=BB.trans (bD.mono BB.size)
   clear bD
   refine wp_seq ?_
   refine wj_ [0,1,2,3,4,5,6,7,8,9,10,11,12,13,14,15,16] [1,4] [] [] A (h3_ t0 t5 t6) (fun X5_0 bD=>?_)
   refine dc_ 1 ((hcl ▸ RN.dclosed (hR.on (BB.trans (bD.mono BB.size))) hi)) (cb_ fun X5_1 bQ=>?_)
   replace bD:=bD.trans (bQ.mono bD.size)
   clear bQ
   refine ⟨Or.inr bD,?_⟩
   refine dc_ 4 ((hcp ▸ RN.dcanPut (hR.on (BB.trans (bD.mono BB.size))) hi)) (cb_ fun X5 bQ=>?_)
   replace bD:=bD.trans (bQ.mono bD.size)
   clear bQ
   refine ⟨Or.inr bD,?_⟩
   refine dy_ [(4,.bool true)] ?_
   rintro a A ⟨t4,-⟩
   replace Fg5s:=(on9 Fg5s bD)
   replace BB:=BB.trans (bD.mono BB.size)
   clear bD
   refine wp_ret ?_
   repeat (first | with_reducible refine ret_in ?_ | with_reducible refine ret_then ?_)
   refine bodyPost_ret (results_tmp rfl _ _ _) A.2 ⟨?_,BB⟩
   show Ending.returned (a.eval (.tmp 4))=_
   rw [t4]
  ·have hcp:decide (M.cl i=false/\(M.hd i).length < (p.cap i).toNat)=false:=decide_eq_false (fun z=>hlt z.2)
   refine wj_ [0,1,2,3,4,5,6,7,8] [] [3,5,7] [] A (h3_ t0 t1 t5) (fun X4 bD=>?_)
   refine dw_ 1 (.pointer (some ⟨G.rb,0,none⟩)) (fun a X E=>Duc.execNl rfl (E _)) (dw_ 2 (.pointer (some ⟨G.rb,0,none⟩)) (fun a X E=>execRf0 rfl (E _)) (dv_ 3 (G.dS) (fun a X E hb=>execLdP rfl (Or.inl rfl) (E _) (hR.on (BB.trans (hb.mono BB.size))).rc.1) (dw_ 4 (.pointer (some ⟨g5,1,none⟩)) (fun a X E=>execOf1 rfl (E _)) (dv_ 5 (.int .i64 ((i:Nat):Int)) (fun a X E hb=>execLdG rfl (Or.inr (Or.inl rfl)) (E _) (oC_at (on9 Fg5s hb)).2.1) (dw_ 6 (.pointer (some ⟨db,i,none⟩)) (fun a X E=>execIxD (k:=i) rfl ((E _).trans eD) (E _) hi) (dv_ 7 (G.dv i) (fun a X E hb=>execLdP rfl (Or.inr (Or.inr (Or.inr (Or.inl rfl)))) (E _) (RowP.at (hR.on (BB.trans (hb.mono BB.size))).dR eD hi)) (dz_ [(6,G.dv i)] (h2_ t0 t5) ?_)))))))
   rintro a A ⟨t6,-⟩ ⟨t0,t5,-⟩
   replace Fg5s:=(on9 Fg5s bD)
   replace BB:=BB.trans (bD.mono BB.size)
   clear bD
   refine wp_seq ?_
   refine wj_ [0,1,2,3,4,5,6,7,8,9,10,11,12,13,14,15,16] [1,4,14] [11,13] [] A (h3_ t0 t5 t6) (fun X5_0 bD=>?_)
   refine dc_ 1 ((hcl ▸ RN.dclosed (hR.on (BB.trans (bD.mono BB.size))) hi)) (cb_ fun X5_1 bQ=>?_)
   replace bD:=bD.trans (bQ.mono bD.size)
   clear bQ
   refine ⟨Or.inr bD,?_⟩
   refine dc_ 4 ((hcp ▸ RN.dcanPut (hR.on (BB.trans (bD.mono BB.size))) hi)) (cb_ fun X5_2 bQ=>?_)
   replace bD:=bD.trans (bQ.mono bD.size)
   clear bQ
   refine ⟨Or.inr bD,?_⟩
   refine dw_ 9 (.pointer (some ⟨G.rb,0,none⟩)) (fun a X E=>Duc.execNl rfl (E _)) (dw_ 10 (.pointer (some ⟨G.rb,3,none⟩)) (fun a X E=>execRf3 rfl (E _)) (dv_ 11 (G.tS) (fun a X E hb=>execLdP rfl (Or.inr (Or.inl rfl)) (E _) (hR.on (BB.trans (hb.mono BB.size))).rc.2.2.2.1) (dw_ 12 (.pointer (some ⟨g5,1,none⟩)) (fun a X E=>execOf1 rfl (E _)) (dv_ 13 (.int .i64 ((i:Nat):Int)) (fun a X E hb=>execLdG rfl (Or.inr (Or.inl rfl)) (E _) (oC_at (on9 Fg5s hb)).2.1) (dc_ 14 (pmeet_t (hR.on (BB.trans (bD.mono BB.size))) hi) (cb_ fun X5 bQ=>?_))))))
   replace bD:=bD.trans (bQ.mono bD.size)
   clear bQ
   refine ⟨Or.inr bD,?_⟩
   refine dy_ [(4,.bool (meetM p M M.tv i))] ?_
   rintro a A ⟨t4,-⟩
   replace Fg5s:=(on9 Fg5s bD)
   replace BB:=BB.trans (bD.mono BB.size)
   clear bD
   refine wp_ret ?_
   repeat (first | with_reducible refine ret_in ?_ | with_reducible refine ret_then ?_)
   refine bodyPost_ret (results_tmp rfl _ _ _) A.2 ⟨?_,BB⟩
   show Ending.returned (a.eval (.tmp 4))=_
   rw [t4]
 refine wp_seq ?_
 refine wi_ A (h4_ t0 t1 t5 t18) (rv_ 0 (.bool false) (fun a E=>execDec (exIeql3 (p:=k) (q:=1) rfl (E _) rfl) (decide_eq_false ek)) (rf_ [(19,.bool false)] (h4_ t0 t1 t5 t18) ?_))
 rintro a A ⟨t19,-⟩ ⟨t0,t1,t5,t18,-⟩
 refine wp_cond_false t19 ?_
 clear t19
 have k1:=ek
 clear ek
 by_cases ek:k=2
 ·refine wp_seq ?_
  refine wi_ A (h4_ t0 t1 t5 t18) (rv_ 0 (.bool true) (fun a E=>execDec (exIeql3 (p:=k) (q:=2) rfl (E _) rfl) (decide_eq_true ek)) (rf_ [(45,.bool true)] (h4_ t0 t1 t5 t18) ?_))
  rintro a A ⟨t45,-⟩ ⟨t0,t1,t5,t18,-⟩
  refine wp_cond_true t45 ?_
  clear t45 t18
  obtain ⟨i,rfl,hi,hc⟩:=C.c2 ek
  subst ek
  refine wp_seq ?_
  rcases hc with ⟨hy,rfl⟩ | ⟨hy,rfl⟩
  ·refine wi_ A (h3_ t0 t1 t5) (rv_ 1 (.pointer (some ⟨g5,1,none⟩)) (fun a E=>execOf1 rfl (E _)) (rv_ 2 (.int .i64 ((i:Nat):Int)) (fun a E=>execLdG rfl (Or.inr (Or.inl rfl)) (E _) (oC_at Fg5s).2.1) (rc_ 3 ((hy ▸ pready (hR.on BB) hi)) (cb_ fun X7 bQ=>?_))))
   replace Fg5s:=(on9 Fg5s bQ)
   replace BB:=BB.trans (bQ.mono BB.size)
   clear bQ
   refine rg_ [(4,.bool true)] ?_
   rintro a A ⟨t4,-⟩
   refine wp_ret ?_
   repeat (first | with_reducible refine ret_in ?_ | with_reducible refine ret_then ?_)
   refine bodyPost_ret (results_tmp rfl _ _ _) A.2 ⟨?_,BB⟩
   show Ending.returned (a.eval (.tmp 4))=_
   rw [t4]
  ·refine wi_ A (h3_ t0 t1 t5) (rv_ 1 (.pointer (some ⟨g5,1,none⟩)) (fun a E=>execOf1 rfl (E _)) (rv_ 2 (.int .i64 ((i:Nat):Int)) (fun a E=>execLdG rfl (Or.inr (Or.inl rfl)) (E _) (oC_at Fg5s).2.1) (rc_ 3 ((hy ▸ pready (hR.on BB) hi)) (cb_ fun X7_1 bQ=>?_))))
   replace Fg5s:=(on9 Fg5s bQ)
   replace BB:=BB.trans (bQ.mono BB.size)
   clear bQ
   refine rv_ 6 (.pointer (some ⟨g5,1,none⟩)) (fun a E=>execOf1 rfl (E _)) (rv_ 7 (.int .i64 ((i:Nat):Int)) (fun a E=>execLdG rfl (Or.inr (Or.inl rfl)) (E _) (oC_at Fg5s).2.1) (rc_ 8 (pspent (hR.on BB) hi) (cb_ fun X7 bQ=>?_)))
   replace Fg5s:=(on9 Fg5s bQ)
   replace BB:=BB.trans (bQ.mono BB.size)
   clear bQ
   refine rg_ [(4,.bool (sptM M i))] ?_
   rintro a A ⟨t4,-⟩
   refine wp_ret ?_
   repeat (first | with_reducible refine ret_in ?_ | with_reducible refine ret_then ?_)
   refine bodyPost_ret (results_tmp rfl _ _ _) A.2 ⟨?_,BB⟩
   show Ending.returned (a.eval (.tmp 4))=_
   rw [t4]
 refine wp_seq ?_
 refine wi_ A (h4_ t0 t1 t5 t18) (rv_ 0 (.bool false) (fun a E=>execDec (exIeql3 (p:=k) (q:=2) rfl (E _) rfl) (decide_eq_false ek)) (rf_ [(45,.bool false)] (h4_ t0 t1 t5 t18) ?_))
 rintro a A ⟨t45,-⟩ ⟨t0,t1,t5,t18,-⟩
 refine wp_cond_false t45 ?_
 clear t45
 have k2:=ek
 clear ek
 by_cases ek:k=8
 ·refine wp_seq ?_
  refine wi_ A (h4_ t0 t1 t5 t18) (rv_ 0 (.bool true) (fun a E=>execDec (exIeql3 (p:=k) (q:=8) rfl (E _) rfl) (decide_eq_true ek)) (rf_ [(57,.bool true)] (h4_ t0 t1 t5 t18) ?_))
  rintro a A ⟨t57,-⟩ ⟨t0,t1,t5,t18,-⟩
  refine wp_cond_true t57 ?_
  clear t57 t18
  obtain ⟨i,j,rfl,rfl,hi,hc⟩:=C.c8 ek
  subst ek
  refine wp_seq ?_
  rcases hc with ⟨hy,rfl⟩ | ⟨hy,hj,hz,rfl⟩ | ⟨hy,hj,hz,hq,rfl⟩ | ⟨hy,hj,hz,hq,rfl⟩
  ·refine wi_ A (h3_ t0 t1 t5) (rv_ 1 (.pointer (some ⟨g5,1,none⟩)) (fun a E=>execOf1 rfl (E _)) (rv_ 2 (.int .i64 ((i:Nat):Int)) (fun a E=>execLdG rfl (Or.inr (Or.inl rfl)) (E _) (oC_at Fg5s).2.1) (rc_ 3 ((hy ▸ pready (hR.on BB) hi)) (cb_ fun X9 bQ=>?_))))
   replace Fg5s:=(on9 Fg5s bQ)
   replace BB:=BB.trans (bQ.mono BB.size)
   clear bQ
   refine rg_ [(4,.bool true)] ?_
   rintro a A ⟨t4,-⟩
   refine wp_ret ?_
   repeat (first | with_reducible refine ret_in ?_ | with_reducible refine ret_then ?_)
   refine bodyPost_ret (results_tmp rfl _ _ _) A.2 ⟨?_,BB⟩
   show Ending.returned (a.eval (.tmp 4))=_
   rw [t4]
  ·refine wi_ A (h3_ t0 t1 t5) (rv_ 1 (.pointer (some ⟨g5,1,none⟩)) (fun a E=>execOf1 rfl (E _)) (rv_ 2 (.int .i64 ((i:Nat):Int)) (fun a E=>execLdG rfl (Or.inr (Or.inl rfl)) (E _) (oC_at Fg5s).2.1) (rc_ 3 ((hy ▸ pready (hR.on BB) hi)) (cb_ fun X9_1 bQ=>?_))))
   replace Fg5s:=(on9 Fg5s bQ)
   replace BB:=BB.trans (bQ.mono BB.size)
   clear bQ
   refine rv_ 6 (.pointer (some ⟨g5,2,none⟩)) (fun a E=>execOf2 rfl (E _)) (rv_ 7 (.int .i64 ((j:Nat):Int)) (fun a E=>execLdG rfl (Or.inr (Or.inl rfl)) (E _) (oC_at Fg5s).2.2) (rc_ 8 ((hz ▸ pready (hR.on BB) hj)) (cb_ fun X9 bQ=>?_)))
   replace Fg5s:=(on9 Fg5s bQ)
   replace BB:=BB.trans (bQ.mono BB.size)
   clear bQ
   refine rg_ [(4,.bool true)] ?_
   rintro a A ⟨t4,-⟩
   refine wp_ret ?_
   repeat (first | with_reducible refine ret_in ?_ | with_reducible refine ret_then ?_)
   refine bodyPost_ret (results_tmp rfl _ _ _) A.2 ⟨?_,BB⟩
   show Ending.returned (a.eval (.tmp 4))=_
   rw [t4]
  ·refine wi_ A (h3_ t0 t1 t5) (rv_ 1 (.pointer (some ⟨g5,1,none⟩)) (fun a E=>execOf1 rfl (E _)) (rv_ 2 (.int .i64 ((i:Nat):Int)) (fun a E=>execLdG rfl (Or.inr (Or.inl rfl)) (E _) (oC_at Fg5s).2.1) (rc_ 3 ((hy ▸ pready (hR.on BB) hi)) (cb_ fun X9_1 bQ=>?_))))
   replace Fg5s:=(on9 Fg5s bQ)
   replace BB:=BB.trans (bQ.mono BB.size)
   clear bQ
   refine rv_ 6 (.pointer (some ⟨g5,2,none⟩)) (fun a E=>execOf2 rfl (E _)) (rv_ 7 (.int .i64 ((j:Nat):Int)) (fun a E=>execLdG rfl (Or.inr (Or.inl rfl)) (E _) (oC_at Fg5s).2.2) (rc_ 8 ((hz ▸ pready (hR.on BB) hj)) (cb_ fun X9_2 bQ=>?_)))
   replace Fg5s:=(on9 Fg5s bQ)
   replace BB:=BB.trans (bQ.mono BB.size)
   clear bQ
   refine rv_ 12 (.pointer (some ⟨g5,1,none⟩)) (fun a E=>execOf1 rfl (E _)) (rv_ 13 (.int .i64 ((i:Nat):Int)) (fun a E=>execLdG rfl (Or.inr (Or.inl rfl)) (E _) (oC_at Fg5s).2.1) (rc_ 14 ((hq ▸ pspent (hR.on BB) hi)) (cb_ fun X9 bQ=>?_)))
   replace Fg5s:=(on9 Fg5s bQ)
   replace BB:=BB.trans (bQ.mono BB.size)
   clear bQ
   refine rg_ [(4,.bool false)] ?_
   rintro a A ⟨t4,-⟩
   refine wp_ret ?_
   repeat (first | with_reducible refine ret_in ?_ | with_reducible refine ret_then ?_)
   refine bodyPost_ret (results_tmp rfl _ _ _) A.2 ⟨?_,BB⟩
   show Ending.returned (a.eval (.tmp 4))=_
   rw [t4]
  ·refine wi_ A (h3_ t0 t1 t5) (rv_ 1 (.pointer (some ⟨g5,1,none⟩)) (fun a E=>execOf1 rfl (E _)) (rv_ 2 (.int .i64 ((i:Nat):Int)) (fun a E=>execLdG rfl (Or.inr (Or.inl rfl)) (E _) (oC_at Fg5s).2.1) (rc_ 3 ((hy ▸ pready (hR.on BB) hi)) (cb_ fun X9_1 bQ=>?_))))
   replace Fg5s:=(on9 Fg5s bQ)
   replace BB:=BB.trans (bQ.mono BB.size)
   clear bQ
   refine rv_ 6 (.pointer (some ⟨g5,2,none⟩)) (fun a E=>execOf2 rfl (E _)) (rv_ 7 (.int .i64 ((j:Nat):Int)) (fun a E=>execLdG rfl (Or.inr (Or.inl rfl)) (E _) (oC_at Fg5s).2.2) (rc_ 8 ((hz ▸ pready (hR.on BB) hj)) (cb_ fun X9_2 bQ=>?_)))
   replace Fg5s:=(on9 Fg5s bQ)
   replace BB:=BB.trans (bQ.mono BB.size)
   clear bQ
   refine rv_ 12 (.pointer (some ⟨g5,1,none⟩)) (fun a E=>execOf1 rfl (E _)) (rv_ 13 (.int .i64 ((i:Nat):Int)) (fun a E=>execLdG rfl (Or.inr (Or.inl rfl)) (E _) (oC_at Fg5s).2.1) (rc_ 14 ((hq ▸ pspent (hR.on BB) hi)) (cb_ fun X9_3 bQ=>?_)))
   replace Fg5s:=(on9 Fg5s bQ)
   replace BB:=BB.trans (bQ.mono BB.size)
   clear bQ
   refine rv_ 17 (.pointer (some ⟨g5,2,none⟩)) (fun a E=>execOf2 rfl (E _)) (rv_ 18 (.int .i64 ((j:Nat):Int)) (fun a E=>execLdG rfl (Or.inr (Or.inl rfl)) (E _) (oC_at Fg5s).2.2) (rc_ 19 (pspent (hR.on BB) hj) (cb_ fun X9 bQ=>?_)))
   replace Fg5s:=(on9 Fg5s bQ)
   replace BB:=BB.trans (bQ.mono BB.size)
   clear bQ
   refine rg_ [(4,.bool (sptM M j))] ?_
   rintro a A ⟨t4,-⟩
   refine wp_ret ?_
   repeat (first | with_reducible refine ret_in ?_ | with_reducible refine ret_then ?_)
   refine bodyPost_ret (results_tmp rfl _ _ _) A.2 ⟨?_,BB⟩
   show Ending.returned (a.eval (.tmp 4))=_
   rw [t4]
 refine wp_seq ?_
 refine wi_ A (h4_ t0 t1 t5 t18) (rv_ 0 (.bool false) (fun a E=>execDec (exIeql3 (p:=k) (q:=8) rfl (E _) rfl) (decide_eq_false ek)) (rf_ [(57,.bool false)] (h4_ t0 t1 t5 t18) ?_))
 rintro a A ⟨t57,-⟩ ⟨t0,t1,t5,t18,-⟩
 refine wp_cond_false t57 ?_
 clear t57
 have k8:=ek
 clear ek
 by_cases ek:k=9
 ·refine wp_seq ?_
  refine wi_ A (h4_ t0 t1 t5 t18) (rv_ 0 (.bool true) (fun a E=>execDec (exIeql3 (p:=k) (q:=9) rfl (E _) rfl) (decide_eq_true ek)) (rf_ [(81,.bool true)] (h4_ t0 t1 t5 t18) ?_))
  rintro a A ⟨t81,-⟩ ⟨t0,t1,t5,t18,-⟩
  refine wp_cond_true t81 ?_
  clear t81 t18
  obtain ⟨i,rfl,hi,rfl⟩:=C.c9 ek
  subst ek
  obtain ⟨hb_,hc_9,eH⟩:=hR.hO hi
  refine wp_seq ?_
  refine wj_ [0,1,2,3,4,5,6,7,8,9] [8] [3,5,7] [] A (h3_ t0 t1 t5) (fun X11_0 bD=>?_)
  refine dw_ 1 (.pointer (some ⟨G.rb,0,none⟩)) (fun a X E=>Duc.execNl rfl (E _)) (dw_ 2 (.pointer (some ⟨G.rb,1,none⟩)) (fun a X E=>execRf1 rfl (E _)) (dv_ 3 (G.hS) (fun a X E hb=>execLdP rfl (Or.inr (Or.inl rfl)) (E _) (hR.on (BB.trans (hb.mono BB.size))).rc.2.1) (dw_ 4 (.pointer (some ⟨g5,1,none⟩)) (fun a X E=>execOf1 rfl (E _)) (dv_ 5 (.int .i64 ((i:Nat):Int)) (fun a X E hb=>execLdG rfl (Or.inr (Or.inl rfl)) (E _) (oC_at (on9 Fg5s hb)).2.1) (dw_ 6 (.pointer (some ⟨hb_,i,none⟩)) (fun a X E=>execIxH (k:=i) rfl ((E _).trans eH) (E _) hi) (dv_ 7 (.pointer (some ⟨G.hn i,0,none⟩)) (fun a X E hb=>execLdP rfl (Or.inr (Or.inr (Or.inl rfl))) (E _) (RowP.at (hR.on (BB.trans (hb.mono BB.size))).hR eH hi)) (dc_ 8 (pended (hR.on (BB.trans (bD.mono BB.size))) hi) (cb_ fun X11 bQ=>?_))))))))
  replace bD:=bD.trans (bQ.mono bD.size)
  clear bQ
  refine ⟨Or.inr bD,?_⟩
  refine dy_ [(4,.bool (decide (M.pl i=p.ln i)))] ?_
  rintro a A ⟨t4,-⟩
  replace Fg5s:=(on9 Fg5s bD)
  replace BB:=BB.trans (bD.mono BB.size)
  clear bD
  refine wp_ret ?_
  repeat (first | with_reducible refine ret_in ?_ | with_reducible refine ret_then ?_)
  refine bodyPost_ret (results_tmp rfl _ _ _) A.2 ⟨?_,BB⟩
  show Ending.returned (a.eval (.tmp 4))=_
  rw [t4]
 refine wp_seq ?_
 refine wi_ A (h4_ t0 t1 t5 t18) (rv_ 0 (.bool false) (fun a E=>execDec (exIeql3 (p:=k) (q:=9) rfl (E _) rfl) (decide_eq_false ek)) (rf_ [(81,.bool false)] (h4_ t0 t1 t5 t18) ?_))
 rintro a A ⟨t81,-⟩ ⟨t0,t1,t5,t18,-⟩
 refine wp_cond_false t81 ?_
 clear t81
 have k9:=ek
 clear ek
 have hv:=C.c0 ⟨k1,k2,k8,k9⟩
 subst hv
 refine wp_skip ?_
 refine wp_seq ?_
 refine wi_ A (h4_ t0 t1 t5 t18) (rg_ [(4,.bool true)] ?_)
 rintro a A ⟨t4,-⟩
 refine wp_ret ?_
 refine bodyPost_ret (results_tmp rfl _ _ _) A.2 ⟨?_,BB⟩
 show Ending.returned (a.eval (.tmp 4))=_
 rw [t4]
theorem pmay_1c {p:Pl} {G:Ad} {U V:World} {ow:Nat->Nat} {M:Mm} {u:Nat} {i:Nat} {kb:Int} (hR:RN p G U ow M V) (hu:u < p.n) (hl:M.pl u < p.ln u) (hop:p.op u (M.pl u)=⟨1,((i:Nat):Int),kb⟩) (hi:i < p.d) (hcl:M.cl i=true):Calls Try.prog 44 #[.pointer (some ⟨G.rb,0,none⟩),.pointer (some ⟨G.hn u,0,none⟩)] V fun e w'=>e=.returned (.bool true)/\Below V.heap.size V w':=pmayC hR hu hl hop { c1:=fun _=>⟨i,rfl,hi,Or.inl ⟨hcl,rfl⟩⟩ }
theorem pmay_1r {p:Pl} {G:Ad} {U V:World} {ow:Nat->Nat} {M:Mm} {u:Nat} {i:Nat} {kb:Int} (hR:RN p G U ow M V) (hu:u < p.n) (hl:M.pl u < p.ln u) (hop:p.op u (M.pl u)=⟨1,((i:Nat):Int),kb⟩) (hi:i < p.d) (hcl:M.cl i=false) (hlt:(M.hd i).length < (p.cap i).toNat):Calls Try.prog 44 #[.pointer (some ⟨G.rb,0,none⟩),.pointer (some ⟨G.hn u,0,none⟩)] V fun e w'=>e=.returned (.bool true)/\Below V.heap.size V w':=pmayC hR hu hl hop { c1:=fun _=>⟨i,rfl,hi,Or.inr (Or.inl ⟨hcl,hlt,rfl⟩)⟩ }
theorem pmay_1m {p:Pl} {G:Ad} {U V:World} {ow:Nat->Nat} {M:Mm} {u:Nat} {i:Nat} {kb:Int} (hR:RN p G U ow M V) (hu:u < p.n) (hl:M.pl u < p.ln u) (hop:p.op u (M.pl u)=⟨1,((i:Nat):Int),kb⟩) (hi:i < p.d) (hcl:M.cl i=false) (hlt:¬ (M.hd i).length < (p.cap i).toNat):Calls Try.prog 44 #[.pointer (some ⟨G.rb,0,none⟩),.pointer (some ⟨G.hn u,0,none⟩)] V fun e w'=>e=.returned (.bool (meetM p M M.tv i))/\Below V.heap.size V w':=pmayC hR hu hl hop { c1:=fun _=>⟨i,rfl,hi,Or.inr (Or.inr ⟨hcl,hlt,rfl⟩)⟩ }
theorem pmay_2r {p:Pl} {G:Ad} {U V:World} {ow:Nat->Nat} {M:Mm} {u:Nat} {i:Nat} {kb:Int} (hR:RN p G U ow M V) (hu:u < p.n) (hl:M.pl u < p.ln u) (hop:p.op u (M.pl u)=⟨2,((i:Nat):Int),kb⟩) (hi:i < p.d) (hy:rdyM p M i=true):Calls Try.prog 44 #[.pointer (some ⟨G.rb,0,none⟩),.pointer (some ⟨G.hn u,0,none⟩)] V fun e w'=>e=.returned (.bool true)/\Below V.heap.size V w':=pmayC hR hu hl hop { c2:=fun _=>⟨i,rfl,hi,Or.inl ⟨hy,rfl⟩⟩ }
theorem pmay_2s {p:Pl} {G:Ad} {U V:World} {ow:Nat->Nat} {M:Mm} {u:Nat} {i:Nat} {kb:Int} (hR:RN p G U ow M V) (hu:u < p.n) (hl:M.pl u < p.ln u) (hop:p.op u (M.pl u)=⟨2,((i:Nat):Int),kb⟩) (hi:i < p.d) (hy:rdyM p M i=false):Calls Try.prog 44 #[.pointer (some ⟨G.rb,0,none⟩),.pointer (some ⟨G.hn u,0,none⟩)] V fun e w'=>e=.returned (.bool (sptM M i))/\Below V.heap.size V w':=pmayC hR hu hl hop { c2:=fun _=>⟨i,rfl,hi,Or.inr ⟨hy,rfl⟩⟩ }
theorem pmay_8a {p:Pl} {G:Ad} {U V:World} {ow:Nat->Nat} {M:Mm} {u:Nat} {i:Nat} {j:Nat} (hR:RN p G U ow M V) (hu:u < p.n) (hl:M.pl u < p.ln u) (hop:p.op u (M.pl u)=⟨8,((i:Nat):Int),((j:Nat):Int)⟩) (hi:i < p.d) (_hj:j < p.d) (hy:rdyM p M i=true):Calls Try.prog 44 #[.pointer (some ⟨G.rb,0,none⟩),.pointer (some ⟨G.hn u,0,none⟩)] V fun e w'=>e=.returned (.bool true)/\Below V.heap.size V w':=pmayC hR hu hl hop { c8:=fun _=>⟨i,j,rfl,rfl,hi,Or.inl ⟨hy,rfl⟩⟩ }
theorem pmay_8b {p:Pl} {G:Ad} {U V:World} {ow:Nat->Nat} {M:Mm} {u:Nat} {i:Nat} {j:Nat} (hR:RN p G U ow M V) (hu:u < p.n) (hl:M.pl u < p.ln u) (hop:p.op u (M.pl u)=⟨8,((i:Nat):Int),((j:Nat):Int)⟩) (hi:i < p.d) (hj:j < p.d) (hy:rdyM p M i=false) (hz:rdyM p M j=true):Calls Try.prog 44 #[.pointer (some ⟨G.rb,0,none⟩),.pointer (some ⟨G.hn u,0,none⟩)] V fun e w'=>e=.returned (.bool true)/\Below V.heap.size V w':=pmayC hR hu hl hop { c8:=fun _=>⟨i,j,rfl,rfl,hi,Or.inr (Or.inl ⟨hy,hj,hz,rfl⟩)⟩ }
theorem pmay_8n {p:Pl} {G:Ad} {U V:World} {ow:Nat->Nat} {M:Mm} {u:Nat} {i:Nat} {j:Nat} (hR:RN p G U ow M V) (hu:u < p.n) (hl:M.pl u < p.ln u) (hop:p.op u (M.pl u)=⟨8,((i:Nat):Int),((j:Nat):Int)⟩) (hi:i < p.d) (hj:j < p.d) (hy:rdyM p M i=false) (hz:rdyM p M j=false) (hq:sptM M i=false):Calls Try.prog 44 #[.pointer (some ⟨G.rb,0,none⟩),.pointer (some ⟨G.hn u,0,none⟩)] V fun e w'=>e=.returned (.bool false)/\Below V.heap.size V w':=pmayC hR hu hl hop { c8:=fun _=>⟨i,j,rfl,rfl,hi,Or.inr (Or.inr (Or.inl ⟨hy,hj,hz,hq,rfl⟩))⟩ }
theorem pmay_8s {p:Pl} {G:Ad} {U V:World} {ow:Nat->Nat} {M:Mm} {u:Nat} {i:Nat} {j:Nat} (hR:RN p G U ow M V) (hu:u < p.n) (hl:M.pl u < p.ln u) (hop:p.op u (M.pl u)=⟨8,((i:Nat):Int),((j:Nat):Int)⟩) (hi:i < p.d) (hj:j < p.d) (hy:rdyM p M i=false) (hz:rdyM p M j=false) (hq:sptM M i=true):Calls Try.prog 44 #[.pointer (some ⟨G.rb,0,none⟩),.pointer (some ⟨G.hn u,0,none⟩)] V fun e w'=>e=.returned (.bool (sptM M j))/\Below V.heap.size V w':=pmayC hR hu hl hop { c8:=fun _=>⟨i,j,rfl,rfl,hi,Or.inr (Or.inr (Or.inr ⟨hy,hj,hz,hq,rfl⟩))⟩ }
theorem pmay_9 {p:Pl} {G:Ad} {U V:World} {ow:Nat->Nat} {M:Mm} {u:Nat} {i:Nat} {kb:Int} (hR:RN p G U ow M V) (hu:u < p.n) (hl:M.pl u < p.ln u) (hop:p.op u (M.pl u)=⟨9,((i:Nat):Int),kb⟩) (hi:i < p.n):Calls Try.prog 44 #[.pointer (some ⟨G.rb,0,none⟩),.pointer (some ⟨G.hn u,0,none⟩)] V fun e w'=>e=.returned (.bool (decide (M.pl i=p.ln i)))/\Below V.heap.size V w':=pmayC hR hu hl hop { c9:=fun _=>⟨i,rfl,hi,rfl⟩ }
theorem pmay_0 {p:Pl} {G:Ad} {U V:World} {ow:Nat->Nat} {M:Mm} {u:Nat} {kb:Int} {k ka:Int} (hR:RN p G U ow M V) (hu:u < p.n) (hl:M.pl u < p.ln u) (hop:p.op u (M.pl u)=⟨k,ka,kb⟩) (hk:k ≠ 1/\k ≠ 2/\k ≠ 8/\k ≠ 9):Calls Try.prog 44 #[.pointer (some ⟨G.rb,0,none⟩),.pointer (some ⟨G.hn u,0,none⟩)] V fun e w'=>e=.returned (.bool true)/\Below V.heap.size V w':=pmayC hR hu hl hop { c0:=fun _=>rfl }
end Go.Proofs.Ytjjegmflllpknaa.Loo
