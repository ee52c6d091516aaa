import Derived.Test.YtjjegmflllpknaaN8e
namespace Go.Proofs.Ytjjegmflllpknaa.Loo
open Go.RowKit Gf8 Aes By8 Cel Cf Win Drw Prm
/- What the landed loom's functions change. Written by tools/mkN8f.py. -/
theorem exit_out {id id':Nat} {Q:Exit->Act->World->Prop} {a:Act} {w:World} (hn:id' ≠ id) (h:Q (.exit id') a w):Exit.inBlock id Q (.exit id') a w:=by
 simp only [Exit.inBlock,if_neg hn]
 exact h
section
variable {p:Pl} {G:Ad} {U W X V:World} {ow ow' ow0:Nat->Nat} {M N:Mm} {t i:Nat}
theorem RN.fzH (h:RN p G U ow M W) (ht:t < p.n) (k:Nat):W.frozen? ⟨G.hn t,k,none⟩=false:=by
 obtain ⟨tv,_,h1,_⟩:=h.hand ht
 exact frozen4 h1
theorem RN.fzR (h:RN p G U ow M W) (k:Nat):W.frozen? ⟨G.rb,k,none⟩=false:=frozen4 h.run.2
theorem RowP.fz {P:Nat->Prop} {T:TypeId} {S:Value} {n:Nat} {f:Nat->Value} (h:RowP W P T S n f) {b cap k:Nat} (e:S=.slice (some ⟨b,0,none⟩) n cap) (hi:i < n):W.frozen? ⟨b,k,none⟩=false:=by
 obtain ⟨b',cap',cur,h1,h2,h3,h4,h5⟩:=h.open hi
 rw [e] at h1
 injection h1 with h1
 injection h1 with h1
 injection h1 with h1
 subst h1
 exact frozen4 h3
theorem execApI {o:Oper} {a:Act} {w W':World} {x y:Operand} {v u v':Value} (ho:o.op=.call { callee:=.builtin .append,args:=#[x,y],argTypes:=#[22,22] }) (hx:a.eval x=v) (hy:a.eval y=u) (hr:(Builtin.append_ #[22,22] o.type #[v,u]).run Try.prog w=.ok v' W'):(execOp a.eval o).run Try.prog w=.ok (.value v') W':=by
 unfold execOp
 simp only [ho,resolve,invoke,builtin,Sem.run_bind,Sem.run_pure,Result.andThen_ok,List.map_toArray,List.map_cons,List.map_nil,hx,hy,hr]
theorem app_hand {g B n m:Nat} {tv v':Value} {W':World} {c:Array Value} {xs:List Value} {T:TypeId} (hT:T ≠ 3) (h2:W.heap[g]?=some (.cells c T)) (h3:W.ownsRow B 3 1 tv n xs) (q2:(∃ b c,tv=.slice (some ⟨b,0,none⟩) n c/\v'=.slice (some ⟨b,0,none⟩) (n+m) c/\W.grownBy W' (some b))\/(Below W.heap.size W W'/\∀ k,v'.ownBlock=some k->W.heap.size<=k)):W'.heap[g]?=some (.cells c T):=by
 have hlt:g < W.heap.size:=(Array.getElem?_eq_some_iff.1 h2).1
 rcases q2 with ⟨b,c',e1,e2,q⟩ | ⟨q,_⟩
 ·rw [q.block g hlt (fun w=>?_)]
  ·exact h2
  ·cases w
   rcases h3.2 with ⟨w,_⟩ | ⟨g',cap,cur,w,_,hg,_⟩
   ·rw [e1] at w; cases w
   ·rw [e1] at w
    injection w with w
    injection w with w
    injection w with w
    subst w
    rw [h2] at hg
    injection hg with hg
    injection hg with _ hg _
    exact hT hg
 ·rw [q.block g hlt]
  exact h2
theorem one_int {x:Int} (hx:I64 x) (h:W.heap[i]?=some (.cells #[.int .i64 x] 3)):SliceI W (.slice (some ⟨i,0,none⟩) 1 1) 1 (fun _=>x):=by
 refine ⟨⟨_,_,rfl,Nat.le_refl _,by unfold maxLen; omega,fun _=>⟨i,0,rfl,(Array.getElem?_eq_some_iff.1 h).1,fun j hj=>?_⟩⟩,fun _ _=>hx⟩
 obtain rfl:j=0:=by omega
 rw [cell_of_row _ _ _ _ _ _ h]
 rfl
end
set_option maxRecDepth 100000 in
set_option maxHeartbeats 4000000 in
theorem phtake {p:Pl} {G:Ad} {U V:World} {ow:Nat->Nat} {M:Mm} {u:Nat} {x:Int} (hR:RN p G U ow M V) (hu:u < p.n) (hx:I64 x) (hl:(M.tk u).length < 1000000):Calls Try.prog 71 #[.pointer (some ⟨G.hn u,0,none⟩),.int .i64 x] V fun e w'=>e=.returned (.tuple #[])/\To p G U ow V { M with rg:=upf M.rg u x,tk:=upf M.tk u (M.tk u ++ [x]) } w':=by
 go_enter Try.func71,Try.ntmps71
 refine wo_ 18 [(0,.pointer (some ⟨G.hn u,0,none⟩)),(1,.int .i64 x)] ?_
 rintro a A ⟨t0,t1,-⟩
 refine wp_seq ?_
 refine wi_ A (h2_ t0 t1) (rv_ 2 (.pointer (some ⟨G.hn u,0,none⟩)) (fun a E=>Duc.execNl rfl (E _)) (rv_ 3 (.pointer (some ⟨G.hn u,2,none⟩)) (fun a E=>execNf2 rfl (E _)) (rs_ 4 (fun a E=>?_))))
 refine stepS rfl rfl (execSt9 rfl (Or.inl rfl) (E _) (E _) (Or.inl ⟨_,_,rfl⟩) (hR.nc hu).2.2 (hR.fzH hu 2)) ⟨_,⟨_,rfl,rfl⟩,fun X1 hX=>?_⟩
 have S1:=hR.st.setRg hu hx hX
 refine rf_ [] (h2_ t0 t1) ?_
 rintro a A - ⟨t0,t1,-⟩
 obtain ⟨tv,q1,q2,q3,q4,q5⟩:=S1.rn.hand hu
 refine wi_ A (h2_ t0 t1) (rv_ 2 (.pointer (some ⟨G.hn u,0,none⟩)) (fun a E=>Duc.execNl rfl (E _)) (rv_ 3 (.pointer (some ⟨G.hn u,3,none⟩)) (fun a E=>execNf3 rfl (E _)) (rv_ 4 tv (fun a E=>execLdG rfl (Or.inl rfl) (E _) (nC_at q2).2.2.2) (rs_ 6 (fun a E=>?_)))))
 refine stepV rfl rfl (execBsI rfl (E _)) ⟨_,⟨_,rfl,rfl⟩,fun X2 hX2=>?_⟩
 have bQ:Below X1.heap.size X1 X2:=by rw [hX2]; exact belNew X1 _
 have Fl:X2.heap[X1.heap.size]?=some (.cells #[.int .i64 x] 3):=by rw [hX2]; exact heapNew X1 _
 have S2:=S1.on bQ
 have q2':=on9 q2 bQ
 have q3':=ownD_below q3 bQ
 obtain ⟨v',W',hr,r1,r2⟩:=Brd.run_app2L X2 22 U.heap.size (M.tk u).length 1 tv (.slice (some ⟨X1.heap.size,0,none⟩) 1 1) (hL (M.tk u)) (fun _=>x) q3' (one_int hx Fl) ⟨_,_,rfl⟩ (by omega) (by omega) S2.rn.bel.size
 refine rs_ 7 (fun a E=>?_)
 refine stepV rfl rfl (execApI rfl (E _) (E _) hr) ⟨_,⟨_,rfl,rfl⟩,fun X3 hX3=>?_⟩
 subst hX3
 have q6:=app_hand (by decide) q2' q3' r2
 have hv:∃ a n c,v'=.slice a n c:=by
  rcases r1.2 with ⟨w,_⟩ | ⟨_,_,_,w,_⟩
  ·exact ⟨_,_,_,w⟩
  ·exact ⟨_,_,_,w⟩
 refine rv_ 8 (.pointer (some ⟨G.hn u,0,none⟩)) (fun a E=>Duc.execNl rfl (E _)) (rv_ 9 (.pointer (some ⟨G.hn u,3,none⟩)) (fun a E=>execNf3 rfl (E _)) (rs_ 10 (fun a E=>?_)))
 refine stepS rfl rfl (execSt9 rfl (Or.inr (Or.inr (Or.inl rfl))) (E _) (E _) (Or.inr (Or.inr (Or.inr hv))) (nC_at q6).2.2.2 (frozen4 q6)) ⟨_,⟨_,rfl,rfl⟩,fun X4 hX4=>?_⟩
 obtain ⟨ow',S3⟩:=S2.took hu hx hl q1 q2' q3' q4 r1 r2 hX4
 refine rg_ [] ?_
 rintro a A -
 exact bodyPost_end (results_none rfl _ _ _) A.2 ⟨rfl,ow',S3⟩
set_option maxRecDepth 100000 in
set_option maxHeartbeats 4000000 in
theorem phend {p:Pl} {G:Ad} {U V:World} {ow:Nat->Nat} {M:Mm} {u:Nat} (hR:RN p G U ow M V) (hu:u < p.n) :
  Calls Try.prog 69 #[.pointer (some ⟨G.hn u,0,none⟩)] V fun e w'=>e=.returned (.tuple #[])/\To p G U ow V { M with pl:=upf M.pl u (p.ln u) } w':=by
 go_enter Try.func69,Try.ntmps69
 refine wo_ 10 [(0,.pointer (some ⟨G.hn u,0,none⟩))] ?_
 rintro a A ⟨t0,-⟩
 have BW:Below V.heap.size V V:=Below.refl _ _
 have BB:Below V.heap.size V V:=Below.refl _ _
 refine wi_ A (h1_ t0) (rv_ 2 (.pointer (some ⟨G.hn u,0,none⟩)) (fun a E=>Duc.execNl rfl (E _)) (rv_ 3 (.pointer (some ⟨G.hn u,0,none⟩)) (fun a E=>execNf0 rfl (E _)) (rv_ 4 (G.ops u) (fun a E=>execLdG rfl (Or.inr (Or.inr (Or.inr (Or.inr (Or.inr rfl))))) (E _) ((hR.on BB).nc hu).1) (rv_ 5 (.int .i64 ((p.ln u:Nat):Int)) (fun a E=>execLnOs (len:=p.ln u) rfl (E _) ((hR.ops u hu).shp)) (rv_ 6 (.pointer (some ⟨G.hn u,0,none⟩)) (fun a E=>Duc.execNl rfl (E _)) (rv_ 7 (.pointer (some ⟨G.hn u,1,none⟩)) (fun a E=>execNf1 rfl (E _)) (rs_ 8 (fun a E=>?_))))))))
 refine stepS rfl rfl (execSt9 rfl (Or.inl rfl) (E _) (E _) (Or.inl ⟨_,_,rfl⟩) ((hR.on BB).nc hu).2.1 ((hR.on BB).fzH hu 1)) ⟨_,⟨_,rfl,rfl⟩,fun X1 hX=>?_⟩
 refine rg_ [] ?_
 rintro a A -
 exact bodyPost_end (results_none rfl _ _ _) A.2 ⟨rfl,ow,(hR.st.on BB).setPl hu (Nat.le_refl _) hX⟩
set_option maxRecDepth 100000 in
set_option maxHeartbeats 4000000 in
theorem pput_c {p:Pl} {G:Ad} {U V:World} {ow:Nat->Nat} {M:Mm} {u i:Nat} (hR:RN p G U ow M V) (hu:u < p.n) (hi:i < p.d) (hcl:M.cl i=true) (hlt:M.lt < 1000000) :
  Calls Try.prog 65 #[.pointer (some ⟨G.rb,0,none⟩),.pointer (some ⟨G.hn u,0,none⟩),.int .i64 ((i:Nat):Int)] V fun e w'=>e=.returned (.tuple #[])/\To p G U ow V { M with lt:=M.lt+1 } w':=by
 obtain ⟨db,dc,eD⟩:=hR.dO hi
 have hcp:decide (M.cl i=false/\(M.hd i).length < (p.cap i).toNat)=false:=decide_eq_false (fun z=>by rw [hcl] at z; cases z.1)
 have hcq:(if M.cl i then 180 else 0:Nat)=180:=by rw [hcl]; rfl
 go_enter Try.func65,Try.ntmps65
 refine wo_ 55 [(0,.pointer (some ⟨G.rb,0,none⟩)),(1,.pointer (some ⟨G.hn u,0,none⟩)),(2,.int .i64 ((i:Nat):Int))] ?_
 rintro a A ⟨t0,t1,t2,-⟩
 have BW:Below V.heap.size V V:=Below.refl _ _
 have BB:Below V.heap.size V V:=Below.refl _ _
 refine wp_seq ?_
 refine wj_ [0,1,2,3,4,5,6,7,8,9,10,11,12,13,14,15,16] [11] [3,6,10] [11] A (h3_ t0 t1 t2) (fun X1_0 bD=>?_)
 refine dw_ 1 (.pointer (some ⟨G.rb,0,none⟩)) (fun a X E=>Duc.execNl rfl (E _)) (dw_ 2 (.pointer (some ⟨G.rb,0,none⟩)) (fun a X E=>execRf0 rfl (E _)) (dv_ 3 (G.dS) (fun a X E hb=>execLdP rfl (Or.inl rfl) (E _) (hR.on (BB.trans (hb.mono BB.size))).rc.1) (dw_ 5 (.pointer (some ⟨db,i,none⟩)) (fun a X E=>execIxD (k:=i) rfl ((E _).trans eD) (E _) hi) (dv_ 6 (G.dv i) (fun a X E hb=>execLdP rfl (Or.inr (Or.inr (Or.inr (Or.inl rfl)))) (E _) (RowP.at (hR.on (BB.trans (hb.mono BB.size))).dR eD hi)) (dw_ 8 (.pointer (some ⟨G.hn u,0,none⟩)) (fun a X E=>Duc.execNl rfl (E _)) (dw_ 9 (.pointer (some ⟨G.hn u,2,none⟩)) (fun a X E=>execNf2 rfl (E _)) (dv_ 10 (.int .i64 (M.rg u)) (fun a X E hb=>execLdG rfl (Or.inr (Or.inl rfl)) (E _) ((hR.on (BB.trans (hb.mono BB.size))).nc hu).2.2) (?_))))))))
 replace BB:=BB.trans (bD.mono BB.size)
 clear bD
 refine dc_ 11 (hcp ▸ hcq ▸ RN.dput (hR.on BB) hi (hR.fit.rg u hu)) (fun e X1 hh=>?_)
 obtain ⟨he,ow1,S1⟩:=hh
 refine ⟨_,he,Or.inl rfl,?_⟩
 refine dz_ [(6,.bool false),(7,.int .i64 ((180:Nat):Int))] (h3_ t0 t1 t2) ?_
 rintro a A ⟨t6,t7,-⟩ ⟨t0,t1,t2,-⟩
 replace S1:=(hR.st.on BB).then_ S1
 rw [if_neg (c:=M.cl i=false/\(M.hd i).length < (p.cap i).toNat) (fun z=>by rw [hcl] at z; cases z.1),upf_self] at S1
 clear BB
 have BB:Below X1.heap.size X1 X1:=Below.refl _ _
 refine wp_seq ?_
 refine wi_ A (h5_ t0 t1 t2 t6 t7) (rv_ 1 (.bool true) (fun a E=>execDec (execErneq (p:=180) (q:=0) rfl (E _)) (by decide)) (rf_ [(25,.bool true)] (h4_ t0 t1 t2 t6) ?_))
 rintro a A ⟨t25,-⟩ ⟨t0,t1,t2,t6,-⟩
 refine wp_cond_true t25 ?_
 refine wi_ A (h4_ t0 t1 t2 t6) (rv_ 1 (.pointer (some ⟨G.rb,0,none⟩)) (fun a E=>Duc.execNl rfl (E _)) (rv_ 2 (.pointer (some ⟨G.rb,5,none⟩)) (fun a E=>execRf5 rfl (E _)) (rv_ 3 (.int .i64 ((M.lt:Nat):Int)) (fun a E=>execLdG rfl (Or.inr (Or.inl rfl)) (E _) (S1.rn.on BB).rc.2.2.2.2.2) (rv_ 4 (.int .i64 ((M.lt+1:Nat):Int)) (fun a E=>execAd8 (p:=M.lt) (q:=1) rfl (E _) rfl (by omega)) (rv_ 5 (.pointer (some ⟨G.rb,0,none⟩)) (fun a E=>Duc.execNl rfl (E _)) (rv_ 6 (.pointer (some ⟨G.rb,5,none⟩)) (fun a E=>execRf5 rfl (E _)) (rs_ 7 (fun a E=>?_))))))))
 refine stepS rfl rfl (execSt9 rfl (Or.inl rfl) (E _) (E _) (Or.inl ⟨_,_,rfl⟩) (S1.rn.on BB).rc.2.2.2.2.2 ((S1.rn.on BB).fzR 5)) ⟨_,⟨_,rfl,rfl⟩,fun X2 hX=>?_⟩
 refine rg_ [] ?_
 rintro a A -
 exact bodyPost_end (results_none rfl _ _ _) A.2 ⟨rfl,ow1,(S1.on BB).setLt (by omega) hX⟩
set_option maxRecDepth 100000 in
set_option maxHeartbeats 4000000 in
theorem pput_r {p:Pl} {G:Ad} {U V:World} {ow:Nat->Nat} {M:Mm} {u i:Nat} (hR:RN p G U ow M V) (hu:u < p.n) (hi:i < p.d) (hcl:M.cl i=false) (hlt:(M.hd i).length < (p.cap i).toNat) :
  Calls Try.prog 65 #[.pointer (some ⟨G.rb,0,none⟩),.pointer (some ⟨G.hn u,0,none⟩),.int .i64 ((i:Nat):Int)] V fun e w'=>e=.returned (.tuple #[])/\To p G U ow V { M with hd:=upf M.hd i (M.hd i ++ [M.rg u]) } w':=by
 obtain ⟨db,dc,eD⟩:=hR.dO hi
 have hcp:decide (M.cl i=false/\(M.hd i).length < (p.cap i).toNat)=true:=decide_eq_true ⟨hcl,hlt⟩
 have hcq:(if M.cl i then 180 else 0:Nat)=0:=by rw [hcl]; rfl
 go_enter Try.func65,Try.ntmps65
 refine wo_ 55 [(0,.pointer (some ⟨G.rb,0,none⟩)),(1,.pointer (some ⟨G.hn u,0,none⟩)),(2,.int .i64 ((i:Nat):Int))] ?_
 rintro a A ⟨t0,t1,t2,-⟩
 have BW:Below V.heap.size V V:=Below.refl _ _
 have BB:Below V.heap.size V V:=Below.refl _ _
 refine wp_seq ?_
 refine wj_ [0,1,2,3,4,5,6,7,8,9,10,11,12,13,14,15,16] [11] [3,6,10] [11] A (h3_ t0 t1 t2) (fun X1_0 bD=>?_)
 refine dw_ 1 (.pointer (some ⟨G.rb,0,none⟩)) (fun a X E=>Duc.execNl rfl (E _)) (dw_ 2 (.pointer (some ⟨G.rb,0,none⟩)) (fun a X E=>execRf0 rfl (E _)) (dv_ 3 (G.dS) (fun a X E hb=>execLdP rfl (Or.inl rfl) (E _) (hR.on (BB.trans (hb.mono BB.size))).rc.1) (dw_ 5 (.pointer (some ⟨db,i,none⟩)) (fun a X E=>execIxD (k:=i) rfl ((E _).trans eD) (E _) hi) (dv_ 6 (G.dv i) (fun a X E hb=>execLdP rfl (Or.inr (Or.inr (Or.inr (Or.inl rfl)))) (E _) (RowP.at (hR.on (BB.trans (hb.mono BB.size))).dR eD hi)) (dw_ 8 (.pointer (some ⟨G.hn u,0,none⟩)) (fun a X E=>Duc.execNl rfl (E _)) (dw_ 9 (.pointer (some ⟨G.hn u,2,none⟩)) (fun a X E=>execNf2 rfl (E _)) (dv_ 10 (.int .i64 (M.rg u)) (fun a X E hb=>execLdG rfl (Or.inr (Or.inl rfl)) (E _) ((hR.on (BB.trans (hb.mono BB.size))).nc hu).2.2) (?_))))))))
 replace BB:=BB.trans (bD.mono BB.size)
 clear bD
 refine dc_ 11 (hcp ▸ hcq ▸ RN.dput (hR.on BB) hi (hR.fit.rg u hu)) (fun e X1 hh=>?_)
 obtain ⟨he,ow1,S1⟩:=hh
 refine ⟨_,he,Or.inl rfl,?_⟩
 refine dz_ [(6,.bool true),(7,.int .i64 ((0:Nat):Int))] (h3_ t0 t1 t2) ?_
 rintro a A ⟨t6,t7,-⟩ ⟨t0,t1,t2,-⟩
 replace S1:=(hR.st.on BB).then_ S1
 rw [if_pos (c:=M.cl i=false/\(M.hd i).length < (p.cap i).toNat) ⟨hcl,hlt⟩] at S1
 clear BB
 have BB:Below X1.heap.size X1 X1:=Below.refl _ _
 refine wp_seq ?_
 refine wi_ A (h5_ t0 t1 t2 t6 t7) (rv_ 1 (.bool false) (fun a E=>execDec (execErneq (p:=0) (q:=0) rfl (E _)) (by decide)) (rf_ [(25,.bool false)] (h4_ t0 t1 t2 t6) ?_))
 rintro a A ⟨t25,-⟩ ⟨t0,t1,t2,t6,-⟩
 refine wp_cond_false t25 ?_
 clear t25
 refine wp_seq ?_
 refine wi_ A (h4_ t0 t1 t2 t6) (rv_ 1 (.bool false) (fun a E=>execNot8 (b:=true) rfl (E _)) (rf_ [(34,.bool false)] (h3_ t0 t1 t2) ?_))
 rintro a A ⟨t34,-⟩ ⟨t0,t1,t2,-⟩
 refine wp_cond_false t34 (wp_skip ?_)
 exact bodyPost_end (results_none rfl _ _ _) A.2 ⟨rfl,ow1,S1.on BB⟩
set_option maxRecDepth 100000 in
set_option maxHeartbeats 4000000 in
theorem pput_m {p:Pl} {G:Ad} {U V:World} {ow:Nat->Nat} {M:Mm} {u i:Nat} (hR:RN p G U ow M V) (hu:u < p.n) (hi:i < p.d) (hcl:M.cl i=false) (hlt:¬ (M.hd i).length < (p.cap i).toNat) {s_:Nat} (hs:s_ < p.n) (hm:M.tv i=some s_) (hpl:M.pl s_ < p.ln s_) (hlk:(M.tk s_).length < 1000000) :
  Calls Try.prog 65 #[.pointer (some ⟨G.rb,0,none⟩),.pointer (some ⟨G.hn u,0,none⟩),.int .i64 ((i:Nat):Int)] V fun e w'=>e=.returned (.tuple #[])/\To p G U ow V { M with rg:=upf M.rg s_ (M.rg u),tk:=upf M.tk s_ (M.tk s_ ++ [M.rg u]),pl:=upf M.pl s_ (M.pl s_+1) } w':=by
 obtain ⟨db,dc,eD⟩:=hR.dO hi
 have hcp:decide (M.cl i=false/\(M.hd i).length < (p.cap i).toNat)=false:=decide_eq_false (fun z=>hlt z.2)
 have hcq:(if M.cl i then 180 else 0:Nat)=0:=by rw [hcl]; rfl
 obtain ⟨ob_,oc_,eO⟩:=hR.tO hi
 have hb2:=hR.ok.ln s_ hs
 go_enter Try.func65,Try.ntmps65
 refine wo_ 55 [(0,.pointer (some ⟨G.rb,0,none⟩)),(1,.pointer (some ⟨G.hn u,0,none⟩)),(2,.int .i64 ((i:Nat):Int))] ?_
 rintro a A ⟨t0,t1,t2,-⟩
 have BW:Below V.heap.size V V:=Below.refl _ _
 have BB:Below V.heap.size V V:=Below.refl _ _
 refine wp_seq ?_
 refine wj_ [0,1,2,3,4,5,6,7,8,9,10,11,12,13,14,15,16] [11] [3,6,10] [11] A (h3_ t0 t1 t2) (fun X1_0 bD=>?_)
 refine dw_ 1 (.pointer (some ⟨G.rb,0,none⟩)) (fun a X E=>Duc.execNl rfl (E _)) (dw_ 2 (.pointer (some ⟨G.rb,0,none⟩)) (fun a X E=>execRf0 rfl (E _)) (dv_ 3 (G.dS) (fun a X E hb=>execLdP rfl (Or.inl rfl) (E _) (hR.on (BB.trans (hb.mono BB.size))).rc.1) (dw_ 5 (.pointer (some ⟨db,i,none⟩)) (fun a X E=>execIxD (k:=i) rfl ((E _).trans eD) (E _) hi) (dv_ 6 (G.dv i) (fun a X E hb=>execLdP rfl (Or.inr (Or.inr (Or.inr (Or.inl rfl)))) (E _) (RowP.at (hR.on (BB.trans (hb.mono BB.size))).dR eD hi)) (dw_ 8 (.pointer (some ⟨G.hn u,0,none⟩)) (fun a X E=>Duc.execNl rfl (E _)) (dw_ 9 (.pointer (some ⟨G.hn u,2,none⟩)) (fun a X E=>execNf2 rfl (E _)) (dv_ 10 (.int .i64 (M.rg u)) (fun a X E hb=>execLdG rfl (Or.inr (Or.inl rfl)) (E _) ((hR.on (BB.trans (hb.mono BB.size))).nc hu).2.2) (?_))))))))
 replace BB:=BB.trans (bD.mono BB.size)
 clear bD
 refine dc_ 11 (hcp ▸ hcq ▸ RN.dput (hR.on BB) hi (hR.fit.rg u hu)) (fun e X1 hh=>?_)
 obtain ⟨he,ow1,S1⟩:=hh
 refine ⟨_,he,Or.inl rfl,?_⟩
 refine dz_ [(6,.bool false),(7,.int .i64 ((0:Nat):Int))] (h3_ t0 t1 t2) ?_
 rintro a A ⟨t6,t7,-⟩ ⟨t0,t1,t2,-⟩
 replace S1:=(hR.st.on BB).then_ S1
 rw [if_neg (c:=M.cl i=false/\(M.hd i).length < (p.cap i).toNat) (fun z=>hlt z.2),upf_self] at S1
 clear BB
 have BB:Below X1.heap.size X1 X1:=Below.refl _ _
 refine wp_seq ?_
 refine wi_ A (h5_ t0 t1 t2 t6 t7) (rv_ 1 (.bool false) (fun a E=>execDec (execErneq (p:=0) (q:=0) rfl (E _)) (by decide)) (rf_ [(25,.bool false)] (h4_ t0 t1 t2 t6) ?_))
 rintro a A ⟨t25,-⟩ ⟨t0,t1,t2,t6,-⟩
 refine wp_cond_false t25 ?_
 clear t25
 refine wp_seq ?_
 refine wi_ A (h4_ t0 t1 t2 t6) (rv_ 1 (.bool true) (fun a E=>execNot8 (b:=false) rfl (E _)) (rf_ [(34,.bool true)] (h3_ t0 t1 t2) ?_))
 rintro a A ⟨t34,-⟩ ⟨t0,t1,t2,-⟩
 refine wp_cond_true t34 ?_
 clear t34
 refine wp_seq ?_
 have htv:pv G (M.tv i)=pn (G.hn s_):=by rw [hm]; rfl
 refine wi_ A (h3_ t0 t1 t2) (rv_ 1 (.pointer (some ⟨G.rb,0,none⟩)) (fun a E=>Duc.execNl rfl (E _)) (rv_ 2 (.pointer (some ⟨G.rb,3,none⟩)) (fun a E=>execRf3 rfl (E _)) (rv_ 3 (G.tS) (fun a E=>execLdP rfl (Or.inr (Or.inl rfl)) (E _) (S1.rn.on BB).rc.2.2.2.1) (rv_ 5 (.pointer (some ⟨ob_,i,none⟩)) (fun a E=>execIxH (k:=i) rfl ((E _).trans eO) (E _) hi) (rv_ 6 (.pointer (some ⟨G.hn s_,0,none⟩)) (fun a E=>execLdP rfl (Or.inr (Or.inr (Or.inl rfl))) (E _) ((RowP.at (S1.rn.on BB).tR eO hi).trans (congrArg some htv))) (rf_ [(8,.pointer (some ⟨G.hn s_,0,none⟩))] (h1_ t1) ?_))))))
 rintro a A ⟨t8,-⟩ ⟨t1,-⟩
 refine wp_seq ?_
 refine wi_ A (h2_ t1 t8) (rv_ 2 (.pointer (some ⟨G.hn u,0,none⟩)) (fun a E=>Duc.execNl rfl (E _)) (rv_ 3 (.pointer (some ⟨G.hn u,2,none⟩)) (fun a E=>execNf2 rfl (E _)) (rv_ 4 (.int .i64 (M.rg u)) (fun a E=>execLdG rfl (Or.inr (Or.inl rfl)) (E _) ((S1.rn.on BB).nc hu).2.2) (rc_ 5 (phtake (S1.rn.on BB) hs (hR.fit.rg u hu) hlk) (fun e X2 hh=>?_)))))
 obtain ⟨he,ow2,S2⟩:=hh
 refine ⟨_,he,?_⟩
 refine rf_ [] (h1_ t8) ?_
 rintro a A - ⟨t8,-⟩
 replace S2:=(S1.on BB).then_ S2
 clear BB
 have BB:Below X2.heap.size X2 X2:=Below.refl _ _
 refine wi_ A (h1_ t8) (rv_ 1 (.pointer (some ⟨G.hn s_,0,none⟩)) (fun a E=>Duc.execNl rfl (E _)) (rv_ 2 (.pointer (some ⟨G.hn s_,1,none⟩)) (fun a E=>execNf1 rfl (E _)) (rv_ 3 (.int .i64 ((M.pl s_:Nat):Int)) (fun a E=>execLdG rfl (Or.inr (Or.inl rfl)) (E _) ((S2.rn.on BB).nc hs).2.1) (rv_ 4 (.int .i64 ((M.pl s_+1:Nat):Int)) (fun a E=>execAd8 (p:=M.pl s_) (q:=1) rfl (E _) rfl (by omega)) (rv_ 5 (.pointer (some ⟨G.hn s_,0,none⟩)) (fun a E=>Duc.execNl rfl (E _)) (rv_ 6 (.pointer (some ⟨G.hn s_,1,none⟩)) (fun a E=>execNf1 rfl (E _)) (rs_ 7 (fun a E=>?_))))))))
 refine stepS rfl rfl (execSt9 rfl (Or.inl rfl) (E _) (E _) (Or.inl ⟨_,_,rfl⟩) ((S2.rn.on BB).nc hs).2.1 ((S2.rn.on BB).fzH hs 1)) ⟨_,⟨_,rfl,rfl⟩,fun X3 hX=>?_⟩
 refine rg_ [] ?_
 rintro a A -
 exact bodyPost_end (results_none rfl _ _ _) A.2 ⟨rfl,ow2,(S2.on BB).setPl hs hpl hX⟩
set_option maxRecDepth 100000 in
set_option maxHeartbeats 4000000 in
theorem ptake_h {p:Pl} {G:Ad} {U V:World} {ow:Nat->Nat} {M:Mm} {u i:Nat} (hR:RN p G U ow M V) (hu:u < p.n) (hi:i < p.d) {x:Int} {l:List Int} (hh:M.hd i=x :: l) (hlk:(M.tk u).length < 1000000) :
  Calls Try.prog 66 #[.pointer (some ⟨G.rb,0,none⟩),.pointer (some ⟨G.hn u,0,none⟩),.int .i64 ((i:Nat):Int)] V fun e w'=>e=.returned (.tuple #[])/\To p G U ow V { M with hd:=upf M.hd i l,rg:=upf M.rg u x,tk:=upf M.tk u (M.tk u ++ [x]) } w':=by
 obtain ⟨db,dc,eD⟩:=hR.dO hi
 have hfx:I64 x:=(hR.duct hi).2 x (by rw [hh]; exact List.mem_cons_self ..)
 have hcv:(Value.tuple #[if 0 < (M.hd i).length then .int .i64 (hL (M.hd i) 0) else .int .i64 0,.bool (decide (0 < (M.hd i).length)),.int .i64 (((if (M.hd i).length=0/\M.cl i=true then 180 else 0:Nat):Nat):Int)])=.tuple #[.int .i64 x,.bool true,.int .i64 ((0:Nat):Int)]:=by
  rw [hh]
  first | rfl | simp [hL]
 go_enter Try.func66,Try.ntmps66
 refine wo_ 45 [(0,.pointer (some ⟨G.rb,0,none⟩)),(1,.pointer (some ⟨G.hn u,0,none⟩)),(2,.int .i64 ((i:Nat):Int))] ?_
 rintro a A ⟨t0,t1,t2,-⟩
 have BW:Below V.heap.size V V:=Below.refl _ _
 have BB:Below V.heap.size V V:=Below.refl _ _
 refine wp_seq ?_
 refine wi_ A (h3_ t0 t1 t2) (rv_ 1 (.pointer (some ⟨G.rb,0,none⟩)) (fun a E=>Duc.execNl rfl (E _)) (rv_ 2 (.pointer (some ⟨G.rb,0,none⟩)) (fun a E=>execRf0 rfl (E _)) (rv_ 3 (G.dS) (fun a E=>execLdP rfl (Or.inl rfl) (E _) (hR.on BB).rc.1) (rv_ 5 (.pointer (some ⟨db,i,none⟩)) (fun a E=>execIxD (k:=i) rfl ((E _).trans eD) (E _) hi) (rv_ 6 (G.dv i) (fun a E=>execLdP rfl (Or.inr (Or.inr (Or.inr (Or.inl rfl)))) (E _) (RowP.at (hR.on BB).dR eD hi)) (rc_ 7 (hcv ▸ RN.dtake (hR.on BB) hi) (fun e X1 hh=>?_)))))))
 obtain ⟨he,ow1,S1⟩:=hh
 refine ⟨_,he,?_⟩
 refine rf_ [(6,.int .i64 x),(7,.bool true)] (h3_ t0 t1 t2) ?_
 rintro a A ⟨t6,t7,-⟩ ⟨t0,t1,t2,-⟩
 replace S1:=(hR.st.on BB).then_ S1
 rw [hh] at S1
 clear BB
 have BB:Below X1.heap.size X1 X1:=Below.refl _ _
 refine wp_seq (wp_seq ?_)
 refine wi_ A (h5_ t0 t1 t2 t6 t7) (rv_ 1 (.bool false) (fun a E=>execNot8 (b:=true) rfl (E _)) (rf_ [(23,.bool false)] (h4_ t0 t1 t2 t6) ?_))
 rintro a A ⟨t23,-⟩ ⟨t0,t1,t2,t6,-⟩
 refine wp_cond_false t23 (wp_skip ?_)
 clear t23
 refine wi_ A (h4_ t0 t1 t2 t6) (rc_ 2 (phtake (S1.rn.on BB) hu hfx hlk) (fun e X2 hh=>?_))
 obtain ⟨he,ow2,S2⟩:=hh
 refine ⟨_,he,?_⟩
 refine rg_ [] ?_
 rintro a A -
 exact bodyPost_end (results_none rfl _ _ _) A.2 ⟨rfl,ow2,(S1.on BB).then_ S2⟩
set_option maxRecDepth 100000 in
set_option maxHeartbeats 4000000 in
theorem ptake_m {p:Pl} {G:Ad} {U V:World} {ow:Nat->Nat} {M:Mm} {u i:Nat} (hR:RN p G U ow M V) (hu:u < p.n) (hi:i < p.d) (hcl:M.cl i=false) (hh:M.hd i=[]) {s_:Nat} (hs:s_ < p.n) (hm:M.gv i=some s_) (hpl:M.pl s_ < p.ln s_) (hlk:(M.tk u).length < 1000000) :
  Calls Try.prog 66 #[.pointer (some ⟨G.rb,0,none⟩),.pointer (some ⟨G.hn u,0,none⟩),.int .i64 ((i:Nat):Int)] V fun e w'=>e=.returned (.tuple #[])/\To p G U ow V { M with pl:=upf M.pl s_ (M.pl s_+1),rg:=upf M.rg u (M.rg s_),tk:=upf M.tk u (M.tk u ++ [M.rg s_]) } w':=by
 obtain ⟨db,dc,eD⟩:=hR.dO hi
 obtain ⟨ob_,oc_,eO⟩:=hR.gO hi
 have hb2:=hR.ok.ln s_ hs
 have hcv:(Value.tuple #[if 0 < (M.hd i).length then .int .i64 (hL (M.hd i) 0) else .int .i64 0,.bool (decide (0 < (M.hd i).length)),.int .i64 (((if (M.hd i).length=0/\M.cl i=true then 180 else 0:Nat):Nat):Int)])=.tuple #[.int .i64 0,.bool false,.int .i64 ((0:Nat):Int)]:=by
  rw [hh,hcl]
  first | rfl | simp [hL]
 go_enter Try.func66,Try.ntmps66
 refine wo_ 45 [(0,.pointer (some ⟨G.rb,0,none⟩)),(1,.pointer (some ⟨G.hn u,0,none⟩)),(2,.int .i64 ((i:Nat):Int))] ?_
 rintro a A ⟨t0,t1,t2,-⟩
 have BW:Below V.heap.size V V:=Below.refl _ _
 have BB:Below V.heap.size V V:=Below.refl _ _
 refine wp_seq ?_
 refine wi_ A (h3_ t0 t1 t2) (rv_ 1 (.pointer (some ⟨G.rb,0,none⟩)) (fun a E=>Duc.execNl rfl (E _)) (rv_ 2 (.pointer (some ⟨G.rb,0,none⟩)) (fun a E=>execRf0 rfl (E _)) (rv_ 3 (G.dS) (fun a E=>execLdP rfl (Or.inl rfl) (E _) (hR.on BB).rc.1) (rv_ 5 (.pointer (some ⟨db,i,none⟩)) (fun a E=>execIxD (k:=i) rfl ((E _).trans eD) (E _) hi) (rv_ 6 (G.dv i) (fun a E=>execLdP rfl (Or.inr (Or.inr (Or.inr (Or.inl rfl)))) (E _) (RowP.at (hR.on BB).dR eD hi)) (rc_ 7 (hcv ▸ RN.dtake (hR.on BB) hi) (fun e X1 hh=>?_)))))))
 obtain ⟨he,ow1,S1⟩:=hh
 refine ⟨_,he,?_⟩
 refine rf_ [(6,.int .i64 0),(7,.bool false)] (h3_ t0 t1 t2) ?_
 rintro a A ⟨t6,t7,-⟩ ⟨t0,t1,t2,-⟩
 replace S1:=(hR.st.on BB).then_ S1
 rw [hh] at S1
 rw [show ([]:List Int).tail=M.hd i from hh.symm,upf_self] at S1
 clear BB
 have BB:Below X1.heap.size X1 X1:=Below.refl _ _
 refine wp_seq (wp_seq ?_)
 refine wi_ A (h5_ t0 t1 t2 t6 t7) (rv_ 1 (.bool true) (fun a E=>execNot8 (b:=false) rfl (E _)) (rf_ [(23,.bool true)] (h4_ t0 t1 t2 t6) ?_))
 rintro a A ⟨t23,-⟩ ⟨t0,t1,t2,t6,-⟩
 refine wp_cond_true t23 ?_
 clear t23
 refine wp_seq ?_
 have hgv:pv G (M.gv i)=pn (G.hn s_):=by rw [hm]; rfl
 refine wi_ A (h4_ t0 t1 t2 t6) (rv_ 1 (.pointer (some ⟨G.rb,0,none⟩)) (fun a E=>Duc.execNl rfl (E _)) (rv_ 2 (.pointer (some ⟨G.rb,2,none⟩)) (fun a E=>execRf2 rfl (E _)) (rv_ 3 (G.gS) (fun a E=>execLdP rfl (Or.inr (Or.inl rfl)) (E _) (S1.rn.on BB).rc.2.2.1) (rv_ 5 (.pointer (some ⟨ob_,i,none⟩)) (fun a E=>execIxH (k:=i) rfl ((E _).trans eO) (E _) hi) (rv_ 6 (.pointer (some ⟨G.hn s_,0,none⟩)) (fun a E=>execLdP rfl (Or.inr (Or.inr (Or.inl rfl))) (E _) ((RowP.at (S1.rn.on BB).gR eO hi).trans (congrArg some hgv))) (rf_ [(9,.pointer (some ⟨G.hn s_,0,none⟩))] (h1_ t1) ?_))))))
 rintro a A ⟨t9,-⟩ ⟨t1,-⟩
 refine wp_seq ?_
 refine wi_ A (h2_ t1 t9) (rv_ 1 (.pointer (some ⟨G.hn s_,0,none⟩)) (fun a E=>Duc.execNl rfl (E _)) (rv_ 2 (.pointer (some ⟨G.hn s_,2,none⟩)) (fun a E=>execNf2 rfl (E _)) (rv_ 3 (.int .i64 (M.rg s_)) (fun a E=>execLdG rfl (Or.inr (Or.inl rfl)) (E _) ((S1.rn.on BB).nc hs).2.2) (rf_ [(6,.int .i64 (M.rg s_))] (h2_ t1 t9) ?_))))
 rintro a A ⟨t6,-⟩ ⟨t1,t9,-⟩
 refine wi_ A (h3_ t1 t6 t9) (rv_ 1 (.pointer (some ⟨G.hn s_,0,none⟩)) (fun a E=>Duc.execNl rfl (E _)) (rv_ 2 (.pointer (some ⟨G.hn s_,1,none⟩)) (fun a E=>execNf1 rfl (E _)) (rv_ 3 (.int .i64 ((M.pl s_:Nat):Int)) (fun a E=>execLdG rfl (Or.inr (Or.inl rfl)) (E _) ((S1.rn.on BB).nc hs).2.1) (rv_ 4 (.int .i64 ((M.pl s_+1:Nat):Int)) (fun a E=>execAd8 (p:=M.pl s_) (q:=1) rfl (E _) rfl (by omega)) (rv_ 5 (.pointer (some ⟨G.hn s_,0,none⟩)) (fun a E=>Duc.execNl rfl (E _)) (rv_ 6 (.pointer (some ⟨G.hn s_,1,none⟩)) (fun a E=>execNf1 rfl (E _)) (rs_ 7 (fun a E=>?_))))))))
 refine stepS rfl rfl (execSt9 rfl (Or.inl rfl) (E _) (E _) (Or.inl ⟨_,_,rfl⟩) ((S1.rn.on BB).nc hs).2.1 ((S1.rn.on BB).fzH hs 1)) ⟨_,⟨_,rfl,rfl⟩,fun X2 hX=>?_⟩
 refine rf_ [] (h2_ t1 t6) ?_
 rintro a A - ⟨t1,t6,-⟩
 have S2:=(S1.on BB).setPl hs hpl hX
 clear BB
 have BB:Below X2.heap.size X2 X2:=Below.refl _ _
 refine wi_ A (h2_ t1 t6) (rc_ 2 (phtake (S2.rn.on BB) hu (hR.fit.rg s_ hs) hlk) (fun e X3 hh=>?_))
 obtain ⟨he,ow3,S3⟩:=hh
 refine ⟨_,he,?_⟩
 refine rg_ [] ?_
 rintro a A -
 exact bodyPost_end (results_none rfl _ _ _) A.2 ⟨rfl,ow3,(S2.on BB).then_ S3⟩
end Go.Proofs.Ytjjegmflllpknaa.Loo
