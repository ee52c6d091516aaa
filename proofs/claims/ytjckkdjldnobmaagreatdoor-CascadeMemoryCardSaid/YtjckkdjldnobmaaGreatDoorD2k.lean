import Derived.Test.YtjckkdjldnobmaaGreatDoorD2g
import Derived.Test.YtjckkdjldnobmaaGreatDoorD9
import Derived.Lib.SliceRun
import Derived.WalkMore
import Derived.Laws.ResultCell
namespace Go.Proofs.YtjckkdjldnobmaaGreatDoor.Frm
open Go.RowKit Gf8 Aes By8 Cel
/- New, bytes.Clone. -/
theorem buildF:∀ w,(Instr.build 103 #[(4,smV 1 0)]).run Tryz.prog w=.ok (.agg (fC newS)) w:=by
 intro w
 kernel_rfl
theorem execBuildF {o:Oper} {a:Act} {w:World} {x:Operand} (ho:o.op=.build 103 #[(4,x)]) (hx:a.eval x=smV 1 0):(execOp a.eval o).run Tryz.prog w=.ok (.value (.agg (fC newS))) w:=by
 have h:=buildF w
 unfold execOp
 simp only [ho,List.map_toArray,List.map_cons,List.map_nil,hx]
 simp [h]
theorem execBoxF {o:Oper} {a:Act} {w:World} {x:Operand} {s:FSt} (ho:o.op=.box 103 x) (hx:a.eval x=.agg (fC s)):(execOp a.eval o).run Tryz.prog w=.ok (.value (.pointer (some ⟨w.heap.size,0,none⟩))) (w.alloc (.cells (fC s) 103)):=by
 unfold execOp
 simp only [ho,hx]
 simp [go_sem]
set_option maxRecDepth 20000 in
theorem new_any (V:World):Calls Tryz.prog 35 #[] V fun e w'=>∃ F,e=.returned (.pointer (some ⟨F,0,none⟩))/\V.heap.size<=F/\FAt F newS w'/\Below V.heap.size V w':=by
 go_enter Tryz.func35,Tryz.ntmps35
 go_wp2_with (first
  | (go_at_call 55; refine (nobytes_any _).mono ?_; rintro e w1 ⟨rfl,b1⟩)
  | (refine wpList_ex rfl (execBuildF rfl rfl) ?_)
  | (refine wpList_ex rfl (execBoxF (s:=newS) rfl rfl) ?_))
 go_ret
 exact ⟨_,rfl,b1.size,⟨heapNew _ _⟩,b1.trans ((belNew w1 _).mono b1.size)⟩
set_option maxRecDepth 20000 in
theorem clone_any (p:Nat->Nat) (len:Nat) (ad:Addr) (cap:Nat) (V:World) (hv:SliceN V (.slice (some ad) len cap) len p) (hl:len<=140737488351232) :
  Calls Tryz.prog 60 #[.slice (some ad) len cap] V fun e w'=>∃ r,e=.returned r/\w'.ownsRow V.heap.size 5 1 r len (bytesL len p)/\Below V.heap.size V w':=by
 have HV:Hid (SliceN V (.slice (some ad) len cap) len p):=hv
 have HL:Hid (len<=140737488351232):=hl
 have en:=fun w=>Go.Lib.run_eql_slice_nil (P:=Tryz.prog) w 24 5 (some ad) len cap 0 0 Tryz.underlying24
 clear hv hl
 go_enter Tryz.func60,Tryz.ntmps60
 go_wp2_with (first
  | (refine atAppB (.tmp 5) (.tmp 6) rfl ?_; go_must (refine wpList_appS (B:=V.heap.size) (n:=0) (m:=len) (p:=p) rfl (.tmp 5) (.tmp 6) rfl rfl rfl (own_none V p) (sliceN_cg (HV.out.on (belNew V _)) fun j _=>by rw [Nat.zero_add]) (fun l c e=>by cases e) (by have:=HL.out; omega) (belNew V _).size ?_; intro u1 W1 own1 gr1; have b1:Below V.heap.size V W1:=below_grown (belNew V _) (belNew V _).size (own_none V p) gr1; rw [Nat.zero_add] at own1; clear gr1)))
 go_ret
 exact ⟨_,rfl,own1,b1⟩
structure CG (B k:Nat) (x:Nat->Value) (cb:Nat->Nat->Nat) (cv:Value) (W:World):Prop where
 own:W.ownsRow B 24 1 cv k (xsL x 0 k)
 fam:Fam B k x (fun _=>320) cb W
theorem CG.on {B k:Nat} {x:Nat->Value} {cb:Nat->Nat->Nat} {cv:Value} {W W':World} (h:CG B k x cb cv W) (hb:Below W.heap.size W W'):CG B k x cb cv W':=⟨ownL_below h.own hb,h.fam.on hb⟩
theorem CG.row {B k:Nat} {x:Nat->Value} {cb:Nat->Nat->Nat} {cv:Value} {W:World} (h:CG B k x cb cv W) {R:Nat} {c:Array Value} {t:TypeId} (hr:W.heap[R]?=some (.cells c t)) (h1:t ≠ 24) (h5:t ≠ 5) (d:Array Value):CG B k x cb cv (W.setRow R d):=
 ⟨ownL_row h.own hr h1 d,⟨fun t ht=>ownsRow_row (h.fam.rows t ht) hr h5 d,h.fam.dis⟩⟩
theorem CG.none (B:Nat) (x:Nat->Value) (cb:Nat->Nat->Nat) (W:World):CG B 0 x cb (.slice none 0 0) W:=⟨World.ownsRow_nil _ _ _ _,Fam.none _ _ _ _ _⟩
theorem CG.one {B k:Nat} {x:Nat->Value} {cb:Nat->Nat->Nat} {cv:Value} {W:World} (h:CG B k x cb cv W):cv.oneCell'=true:=by
 rcases h.own.2 with ⟨rfl,_⟩ | ⟨g,cap,cur,rfl,_⟩ <;> rfl
theorem ownsRow_sv {W W':World} {B n F t:Nat} {v:Value} {xs:List Value} (h:W.ownsRow B t 1 v n xs) (sv:Saved (fun k=>k=F) W W') (hF:F < B):W'.ownsRow B t 1 v n xs:=by
 refine ⟨h.1,?_⟩
 rcases h.2 with h | ⟨g,cap,cur,e,hB,hg,h2⟩
 ·exact Or.inl h
 ·exact Or.inr ⟨g,cap,cur,e,hB,by rw [sv.block g (Array.getElem?_eq_some_iff.1 hg).1 (by omega)]; exact hg,h2⟩
theorem CG.sv {B k F:Nat} {x:Nat->Value} {cb:Nat->Nat->Nat} {cv:Value} {W W':World} (h:CG B k x cb cv W) (s:Saved (fun k=>k=F) W W') (hF:F < B):CG B k x cb cv W':=
 ⟨ownsRow_sv h.own s hF,⟨fun t ht=>ownsRow_sv (h.fam.rows t ht) s hF,h.fam.dis⟩⟩
end Go.Proofs.YtjckkdjldnobmaaGreatDoor.Frm

namespace Go.Proofs.YtjckkdjldnobmaaGreatDoor.Frm
open Go.RowKit Gf8 Aes By8 Cel
/- Put. -/
structure PutW (F z k:Nat) (q:Nat->Nat) (V:World) (s:FSt) (t c:Nat) (x:Nat->Value) (x1 x6:Value) (W:World):Prop where
 sl:SliceN V x1 (z - t) fun j=>q (t+j)
 off:Off F x1
 cg:CG V.heap.size c x (fun i=>cellB q (k+i)) x6 W
 ft:FTo F s V W
structure PutR (F n z k:Nat) (q:Nat->Nat) (V:World) (s:FSt) (t c:Nat) (x:Nat->Value) (x1 x6:Value) (W:World):Prop where
 tk:Took q t (k+c) s
 lo:n<=t
 hi:t<=z
 w:PutW F z k q V s t c x x1 x6 W
section
variable {F z k:Nat} {q:Nat->Nat} {V:World} {s:FSt} {t c:Nat} {x:Nat->Value} {x1 x6:Value} {W W':World}
theorem PutW.on (h:PutW F z k q V s t c x x1 x6 W) (hb:Below W.heap.size W W'):PutW F z k q V s t c x x1 x6 W':=⟨h.sl,h.off,h.cg.on hb,h.ft.on hb⟩
theorem PutW.to {s':FSt} (h:PutW F z k q V s t c x x1 x6 W) (hf:FTo F s' W W') (hF:F < V.heap.size):PutW F z k q V s' t c x x1 x6 W':=⟨h.sl,h.off,h.cg.sv hf.sv hF,h.ft.trans hf⟩
theorem PutW.set (h:PutW F z k q V s t c x x1 x6 W) (s':FSt) (hF:F < V.heap.size):PutW F z k q V s' t c x x1 x6 (W.setRow F (fC s')):=h.to ((FTo.refl h.ft.at').set s') hF
end
theorem atAppLL {P:Program} {ops:Array Oper} {rest:List Oper} {o:Oper} {a:Act} {w:World} {Q:Exit->Act->World->Prop} (s x:Operand) (_:o.op=.call { callee:=.builtin .append,args:=#[s,x],argTypes:=#[22,22] }) (h:wpList P ops Q (o :: rest) a w):wpList P ops Q (o :: rest) a w:=h
theorem atBs1 {P:Program} {ops:Array Oper} {rest:List Oper} {o:Oper} {a:Act} {w:World} {Q:Exit->Act->World->Prop} (x:Operand) (_:o.op=.buildSlice 22 1 #[(0,x)]) (h:wpList P ops Q (o :: rest) a w):wpList P ops Q (o :: rest) a w:=h
theorem FTo.grown {F n B:Nat} {s:FSt} {V W W':World} {v:Value} {xs:List Value} (h:FTo F s V W) (own:W.ownsRow B 24 1 v n xs) (hB:V.heap.size<=B) (hF:F < V.heap.size) (hg:W.grownBy W' v.ownBlock):FTo F s V W':=by
 have ne:some F ≠ v.ownBlock:=fun e=>by have:=(own.lt F e.symm).1; omega
 exact ⟨⟨by rw [hg.block F h.at'.lt ne]; exact h.at'.row⟩,h.sv.grown hg fun k hk=>Or.inl (by have:=(own.lt k hk).1; omega)⟩
theorem sliceLen {W:World} {v:Value} {m:Nat} {p:Nat->Nat} (h:SliceN W v m p):lenV v=m:=by
 obtain ⟨⟨ao,cap,rfl,_⟩,_⟩:=h
 rfl
set_option maxRecDepth 20000 in
set_option maxHeartbeats 4000000 in
theorem put_any (F:Nat) (s0:FSt) (q:Nat->Nat) (n z k:Nat) (v:Value) (V:World) (h:FAt F s0 V) (g:Rules V) (h0:0 < F) (tk:Took q n k s0) (hn:n<=z) (hv:SliceN V v (z - n) fun j=>q (n+j)) (ho:Off F v) (hb:∀ j,j < z->q j < 256) (hm:z<=140737488351232) :
  Calls Tryz.prog 36 #[.pointer (some ⟨F,0,none⟩),v] V fun e w'=>∃ cv x s' c,e=.returned (.tuple #[cv,.int .i64 (s'.ft:Int)])/\CG V.heap.size c x (fun i=>cellB q (k+i)) cv w'/\FTo F s' V w'/\Took q z (k+c) s':=by
 have HB:Hid (Rules V/\0 < F/\F < V.heap.size/\(∀ j,j < z->q j < 256)/\z<=140737488351232):=⟨g,h0,h.lt,hb,hm⟩
 obtain ⟨x0,_⟩:∃ x:Nat->Value,True:=⟨fun _=>undef,trivial⟩
 have PR:Hid (PutR F n z k q V s0 n 0 x0 v (.slice none 0 0) V):=⟨by rw [Nat.add_zero]; exact tk,Nat.le_refl _,hn,⟨hv,ho,CG.none _ _ _ _,FTo.refl h⟩⟩
 clear h g h0 tk hv ho hb hm hn
 go_enter Tryz.func36,Tryz.ntmps36
 go_wp2_with fail
 go_step3
 go_wp2_with fail
 go_step3
 go_wp2_with fail
 go_loopw [1,6] (fun x1 x6 W=>∃ s t c x,PutR F n z k q V s t c x x1 x6 W) (fun x1 _ _=>lenV x1)
 case atStart=>exact ⟨s0,n,0,x0,PR.out⟩
 case round=>
  obtain ⟨s,t,c,x,pr⟩:=hrel
  clear PR
  have c1:=pr.w.ft.at'.ft
  by_cases hf:s.ft=0
  ·rw [hf] at c1
   have f10:s.f < 10:=by have:=pr.tk.pos.lt; omega
   obtain ⟨hh,hpl⟩:s.hv < fsz s.f/\s.pl+s.hv=t:=by
    rcases pr.tk.or with ⟨_,h2,h3,_⟩ | ⟨_,h2,_⟩
    ·exact ⟨h3,h2⟩
    ·exact absurd hf h2
   obtain ⟨d,hd⟩:∃ d,min (z - t) (fsz s.f - s.hv)=d:=⟨_,rfl⟩
   obtain ⟨s1,hs1⟩:∃ s1,fillS s (fun j=>q (t+j)) (z - t)=s1:=⟨_,rfl⟩
   have fl:=pr.tk.fill (m:=z - t) hf
   have FC:=filled_any F s (fun j=>q (t+j)) (z - t) _ wr pr.w.ft.at' (pr.w.ft.rules HB.out.1 HB.out.2.1) HB.out.2.1 f10 hh (pr.w.off.slice pr.w.sl pr.w.ft.sv) pr.w.off
   rw [hd,hs1] at fl FC
   have dle:d<=z - t:=by omega
   have FCH:Hid (_):=FC
   have FL:Hid (Filled q t (k+c) s s1 d):=fl
   have PRH:Hid (PutR F n z k q V s t c x _ _ wr):=pr
   have HD:Hid (d<=z - t/\s.hv < fsz s.f/\s.pl+s.hv=t/\(d=z - t\/d=fsz s.f - s.hv)/\s1.f < 10):=⟨dle,hh,hpl,by omega,by rw [fl.f]; exact f10⟩
   have f17:s1.f < 10:=by rw [fl.f]; exact f10
   have ftz:s1.ft=0:=fl.ft
   have SLR:Hid (SliceN V (subV u1 d) (z - (t+d)) (fun j=>q (t+d+j))/\Off F (subV u1 d)):=⟨by
    rw [show z - (t+d)=z - t - d by omega]
    exact sliceN_cg (subV_slice pr.w.sl dle) fun j _=>by show q (t+(d+j))=q (t+d+j); rw [Nat.add_assoc],subV_off pr.w.off⟩
   clear FC fl pr hs1 hd dle hh hpl
   by_cases hw:s1.hv=fsz s1.f
   ·have hpos:=fsz_pos s1.f
    have hle:=fsz_le s1.f
    have ND:Hid (0 < d/\t+d<=z):=by
     have h1:=HD.out
     have h2:=FL.out.hv
     have h3:=FL.out.f
     have:=PRH.out.hi
     rw [h3] at hw
     exact ⟨by omega,by omega⟩
    have NB:Hid (∀ j,j < t+d->q j < 256):=fun j hj=>HB.out.2.2.2.1 j (by have:=ND.out.2; omega)
    have PB:Hid (∀ j,j < s1.hv->s1.part j < 256):=fun j hj=>by
     rw [FL.out.part j hj]
     exact NB.out _ (by have:=FL.out.at'; omega)
    have HV:Hid (0 < s1.hv/\s1.hv<=320/\s1.pl<=140737488351232):=⟨by omega,by omega,by have:=FL.out.at'; have:=ND.out.2; have:=HB.out.2.2.2.2; omega⟩
    by_cases h7:s1.f=7
    ·have i7:(s1.f:Int)=7:=by omega
     have hbad:bad q s1.f s1.pl=0:=by unfold bad; rw [if_pos h7]
     have tk:=PRH.out.tk.goOn FL.out hw hbad NB.out
     have nk:nextK s.f (k+c)=k+(c+1):=by
      show (if s.f=7 then k+c+1 else k+c)=_
      rw [if_pos (by rw [← FL.out.f]; exact h7)]
      omega
     have et:tookS s1 (nb s1.part s1.hv)={ s1 with cl:=s1.cl - 1 }:=if_pos h7
     rw [et,nk] at tk
     have ps:=PRH.out.tk.pos
     have f7:s.f=7:=by rw [← FL.out.f]; exact h7
     have more:=ps.more (by omega) (by omega)
     have cl:=PRH.out.tk.cl (by omega)
     have hv320:s1.hv=320:=by rw [hw,h7]; rfl
     have pl7:s1.pl=cellAt (k+c)+2:=by
      rw [FL.out.pl,ps.place,if_neg (by omega),if_neg (by omega),if_pos f7]
     have ec:s1.cl - 1=((nCells q - (k+(c+1)):Nat):Int):=by
      rw [FL.out.cl,cl]
      omega
     have c256:nCells q<=256:=by
      have w3:=ps.head 3 (by omega) (by omega)
      have:rdN q 6 2<=256:=by
       apply Classical.byContradiction
       intro h
       rw [show wrongN q 3=if rdN q 6 2<=256 then 0 else 63 from rfl,if_neg h] at w3
       cases w3
      unfold nCells
      omega
     have cl2:((nCells q - (k+c):Nat):Int)<=256:=by omega
     have cl3:1<=((nCells q - (k+c):Nat):Int):=by omega
     have HX:Hid (k+c < 256/\c < 256):=⟨by omega,by omega⟩
     have CELL:Hid (∀ W,FAt F s1 W->SliceN W (.slice (some ⟨F,1,none⟩) 320 320) 320 (cellB q (k+c))):=fun W hW=>
      sliceN_cg (hW.slice (Nat.le_refl _) (by rw [← hv320]; exact PB.out)) fun j hj=>by
       rw [FL.out.part j (by omega),pl7]
       rfl
     obtain ⟨s2,hs2⟩:∃ s2:FSt,{ s1 with cl:=s1.cl - 1 }=s2:=⟨_,rfl⟩
     have G2:Hid (s2.f < 10/\0 < s2.hv/\s2.hv<=320/\s2.pl<=140737488351232/\s2.sa=(adl q s2.pl).1/\s2.sb=(adl q s2.pl).2/\(∀ j,j < s2.hv->s2.part j=q (s2.pl+j))/\∀ j,j < s2.hv->q (s2.pl+j) < 256):=by
      rw [← hs2]
      exact ⟨f17,HV.out.1,HV.out.2.1,HV.out.2.2,FL.out.sa,FL.out.sb,FL.out.part,fun j hj=>by rw [← FL.out.part j hj]; exact PB.out j hj⟩
     have HC:Hid (s2.cl=(nCells q - (k+(c+1)):Nat)\/(s2.f ≠ 5/\s2.f ≠ 7)):=Or.inl (by rw [← hs2]; exact ec)
     have ES:Hid (∀ W,FAt F s1 W->(fC s1).setIfInBounds 328 (.int .i64 (((nCells q - (k+c):Nat):Int) - 1))=fC s2):=fun W _=>by
      rw [← hs2]
      refine fC_set (j:=7) (by decide) rfl rfl ?_
      rw [← cl,← FL.out.cl]
      rfl
     rw [hs2] at tk
     have TK:Hid (Took q (t+d) (k+(c+1)) (goS s2 q (nCells q - (k+(c+1))))):=tk
     have CLV:Hid (s1.cl=((nCells q - (k+c):Nat):Int)):=by show s1.cl=_; rw [FL.out.cl,cl]
     obtain ⟨N,hN⟩:∃ N:Nat,nCells q - (k+c)=N:=⟨_,rfl⟩
     rw [hN] at cl2 cl3 CLV ES
     clear f10 hpos hle tk et nk more cl hv320 pl7 ec hs2 ps f7 c256 hN hbad
     go_wp2_with (first
      | (go_at_call 58; refine Calls.mono FCH.out ?_; rintro e w1 ⟨rfl,ft1⟩; have pw:PutW F z k q V s1 (t+d) c x (subV u1 d) u6 w1:=⟨SLR.out.1,SLR.out.2,PRH.out.w.cg.sv ft1.sv HB.out.2.2.1,PRH.out.w.ft.trans ft1⟩; have PW:Hid (_):=pw; clear ft1 pw)
      | (go_at_call 59; refine (whole_any F s1 _ PW.out.ft.at' (PW.out.ft.rules HB.out.1 HB.out.2.1) HD.out.2.2.2.2).mono ?_; rintro e w2 ⟨rfl,b2⟩; rw [decide_eq_true hw]; have p2:=PW.out.on b2; have c2:=p2.ft.at'.c0; rw [i7] at c2; have c3:=p2.ft.at'.cl; rw [CLV.out] at c3; have P2:Hid (_):=p2; clear p2 b2)
      | (go_at_call 60; refine (clone_any (cellB q (k+c)) 320 ⟨F,1,none⟩ 320 _ (CELL.out _ P2.out.ft.at') (by omega)).mono ?_; rintro e w3 ⟨u,rfl,ou,b3⟩; have p3:=P2.out.on b3; have P3:Hid (_):=p3; have OU:Hid (_):=ou; have B3:Hid (_):=b3; clear p3 ou b3)
      | (refine atBs1 (.tmp 34) rfl ?_; go_must (refine wpList_ex rfl (execBs1 (r:=u) rfl rfl (by obtain ⟨ao,cap,e⟩:=own_shapeJ OU.out; exact ⟨ao,320,cap,e⟩)) ?_))
      | (refine atAppLL (.tmp 29) (.tmp 35) rfl ?_; go_must (
        have ow:(w3.alloc (.cells #[u] 24)).ownsRow V.heap.size 24 1 u6 c (xsL (updX x c u) 0 c):=(by rw [xsL_congr (y:=x) fun t ht=>updX_lt _ _ (by omega)]; exact (P3.out.cg.on (belNew w3 _)).own)
        have hB:V.heap.size<=w2.heap.size:=P2.out.ft.sv.size
        have fw:=((P2.out.cg.fam.add B3.out hB OU.out).on (belNew w3 (.cells #[u] 24)))
        refine wpList_appL (b:=0) (n:=c) (m:=1) (x:=updX x c u) (cs:=#[u]) rfl (.tmp 29) (.tmp 35) rfl rfl rfl ow (heapNew w3 _) (by show [u]=[updX x c u (0+c+0)]; rw [Nat.zero_add,Nat.add_zero,updX_at]) (fun z hz=>by simp only [List.mem_singleton] at hz; rw [hz]; exact own_oneCell OU.out) (by have:=HX.out; omega) (Nat.le_trans (P3.out.on (belNew w3 _)).ft.sv.size (Nat.le_refl _)) ?_
        intro cv' W5 own5 gr5
        have p5:PutW F z k q V s1 (t+d) (c+1) (updX x c u) (subV u1 d) cv' W5:=⟨SLR.out.1,SLR.out.2,⟨own5,fw.grown ow (grown_row gr5)⟩,(P3.out.ft.on (belNew w3 _)).grown ow (Nat.le_refl _) HB.out.2.2.1 (grown_row gr5)⟩
        have c5:=p5.ft.at'.cl
        rw [CLV.out] at c5
        have P5:Hid (_):=p5
        clear p5 own5 gr5 ow hB fw))
      | (refine atStore 3 (.tmp 43) (.tmp 41) rfl ?_; go_must (refine wpList_exS rfl (execStV (c':=fC s2) rfl rfl rfl P5.out.ft.at'.row (by rw [fC_size]; decide) (by kernel_rfl) rfl (ES.out _ P5.out.ft.at')) ?_))
      | (go_at_call 64; refine (goOn_any F s2 q (nCells q - (k+(c+1))) _ (P5.out.set s2 HB.out.2.2.1).ft.at' G2.out.1 G2.out.2.1 G2.out.2.2.1 G2.out.2.2.2.1 HC.out G2.out.2.2.2.2.1 G2.out.2.2.2.2.2.1 G2.out.2.2.2.2.2.2.1 G2.out.2.2.2.2.2.2.2).mono ?_; rintro e w6 ⟨rfl,f6⟩; have p6:=(P5.out.set s2 HB.out.2.2.1).to f6 HB.out.2.2.1; have P6:Hid (_):=p6; clear p6 f6))
     go_roundw
     case rel=>exact ⟨_,t+d,c+1,updX x c u,TK.out,by have:=PRH.out.lo; omega,ND.out.2,P6.out⟩
     case measure=>
      rw [sliceLen PRH.out.w.sl,sliceLen P6.out.sl]
      have:=ND.out
      omega
    ·have i7:¬ (s1.f:Int)=7:=by omega
     have h8:s1.hv<=8:=by
      rw [hw]
      unfold fsz
      split <;> first | omega | (rename_i e7; exact absurd e7 h7)
     have wb:=FL.out.wrong hw h7
     obtain ⟨la,lb⟩:=adl_lt q s1.pl
     have HS:Hid (s1.hv<=8/\s1.sa < 65521/\s1.sb < 65521):=⟨h8,by rw [FL.out.sa]; exact la,by rw [FL.out.sb]; exact lb⟩
     clear f10 hpos hle la lb h8
     by_cases hbad:bad q s1.f s1.pl=0
     ·rw [decide_eq_false (fun z=>z hbad)] at wb
      have tk:=PRH.out.tk.goOn FL.out hw hbad NB.out
      have num:=FL.out.num hw
      have nk:nextK s.f (k+c)=k+c:=if_neg (by rw [← FL.out.f]; exact h7)
      have et:tookS s1 (nb s1.part s1.hv)=noteS s1 (nb s1.part s1.hv):=if_neg h7
      obtain ⟨t1,t2,t3,t4,t5,t6,t7⟩:=tookS_same s1 (nb s1.part s1.hv)
      rw [et] at t1 t2 t3 t4 t5 t6 t7 tk
      rw [nk] at tk
      have HL:Hid (nb s1.part s1.hv < 9223372036854775808\/s1.f < 2\/5 < s1.f):=by
       show nb s1.part s1.hv < 9223372036854775808\/s1.f < 2\/5 < s1.f
       by_cases hr:s1.f < 2\/5 < s1.f
       ·exact Or.inr hr
       ·refine Or.inl ?_
        rw [num]
        unfold bad at hbad
        rw [if_neg h7,if_neg (by omega)] at hbad
        have hh:¬ (fnum q s1.f s1.pl < low s1.f\/high s1.f < fnum q s1.f s1.pl):=by
         intro q1
         rw [if_pos q1] at hbad
         have:flt s1.f ≠ 0:=by
          unfold flt
          split <;> first | omega | (rename_i e7; exact absurd e7 h7) | skip
         exact this hbad
        have hi:high s1.f<=4611686018427387904:=by unfold high; split <;> omega
        omega
      obtain ⟨s2,hs2⟩:∃ s2,noteS s1 (nb s1.part s1.hv)=s2:=⟨_,rfl⟩
      rw [hs2] at t1 t2 t3 t4 t5 t6 t7 tk
      have HC:Hid (s2.cl=(nCells q - (k+c):Nat)\/(s2.f ≠ 5/\s2.f ≠ 7)):=by
       show s2.cl=(nCells q - (k+c):Nat)\/(s2.f ≠ 5/\s2.f ≠ 7)
       by_cases e5:s1.f=5
       ·refine Or.inl ?_
        rw [← hs2]
        unfold noteS
        rw [if_neg (by omega),if_neg (by omega),if_neg (by omega),if_pos e5]
        show s1.cl=_
        rw [FL.out.cl]
        exact PRH.out.tk.cl (by rw [← FL.out.f]; omega)
       ·exact Or.inr ⟨by rw [t1]; exact e5,by rw [t1]; exact h7⟩
      have G2:Hid (s2.f < 10/\0 < s2.hv/\s2.hv<=320/\s2.pl<=140737488351232/\s2.sa=(adl q s2.pl).1/\s2.sb=(adl q s2.pl).2/\(∀ j,j < s2.hv->s2.part j=q (s2.pl+j))/\∀ j,j < s2.hv->q (s2.pl+j) < 256):=by
       show s2.f < 10/\0 < s2.hv/\s2.hv<=320/\s2.pl<=140737488351232/\s2.sa=(adl q s2.pl).1/\s2.sb=(adl q s2.pl).2/\(∀ j,j < s2.hv->s2.part j=q (s2.pl+j))/\∀ j,j < s2.hv->q (s2.pl+j) < 256
       rw [t1,t2,t3,t4,t5,t6]
       exact ⟨f17,HV.out.1,HV.out.2.1,HV.out.2.2,FL.out.sa,FL.out.sb,FL.out.part,fun j hj=>by rw [← FL.out.part j hj]; exact PB.out j hj⟩
      have NT:Hid (∀ W,FAt F s1 W->Calls Tryz.prog 63 #[.pointer (some ⟨F,0,none⟩)] W fun e w'=>e=.returned (.tuple #[])/\FTo F s2 W w'):=fun W hW=>by
       have:=note_any F s1 W hW f17 HS.out.1 PB.out HL.out
       rw [hs2] at this
       exact this
      have TK:Hid (Took q (t+d) (k+c) (goS s2 q (nCells q - (k+c)))):=tk
      clear t1 t2 t3 t4 t5 t6 t7 tk hs2 et nk num HL
      go_wp2_with (first
       | (go_at_call 58; refine Calls.mono FCH.out ?_; rintro e w1 ⟨rfl,ft1⟩; have pw:PutW F z k q V s1 (t+d) c x (subV u1 d) u6 w1:=⟨SLR.out.1,SLR.out.2,PRH.out.w.cg.sv ft1.sv HB.out.2.2.1,PRH.out.w.ft.trans ft1⟩; have PW:Hid (_):=pw; clear ft1 pw)
       | (go_at_call 59; refine (whole_any F s1 _ PW.out.ft.at' (PW.out.ft.rules HB.out.1 HB.out.2.1) HD.out.2.2.2.2).mono ?_; rintro e w2 ⟨rfl,b2⟩; rw [decide_eq_true hw]; have p2:=PW.out.on b2; have c2:=p2.ft.at'.c0;  have P2:Hid (_):=p2; clear p2 b2)
       | (go_at_call 61; refine (wrong_p F s1 _ P2.out.ft.at' (P2.out.ft.rules HB.out.1 HB.out.2.1) HD.out.2.2.2.2 HS.out.1 PB.out HS.out.2.1 HS.out.2.2).mono ?_; rintro e w3 ⟨rfl,b3⟩; rw [wb]; have p3:=P2.out.on b3; have P3:Hid (_):=p3; clear p3 b3)
       | (go_at_call 63; refine (NT.out _ P3.out.ft.at').mono ?_; rintro e w4 ⟨rfl,f4⟩; have p4:=P3.out.to f4 HB.out.2.2.1; have P4:Hid (_):=p4; clear p4 f4)
       | (go_at_call 64; refine (goOn_any F s2 q (nCells q - (k+c)) _ P4.out.ft.at' G2.out.1 G2.out.2.1 G2.out.2.2.1 G2.out.2.2.2.1 HC.out G2.out.2.2.2.2.1 G2.out.2.2.2.2.2.1 G2.out.2.2.2.2.2.2.1 G2.out.2.2.2.2.2.2.2).mono ?_; rintro e w5 ⟨rfl,f5⟩; have p5:=P4.out.to f5 HB.out.2.2.1; have P5:Hid (_):=p5; clear p5 f5))
      go_roundw
      case rel=>exact ⟨_,t+d,c,x,TK.out,by have:=PRH.out.lo; omega,ND.out.2,P5.out⟩
      case measure=>
       rw [sliceLen PRH.out.w.sl,sliceLen P5.out.sl]
       have:=ND.out
       omega
     ·rw [decide_eq_true hbad] at wb
      go_wp2_with (first
       | (go_at_call 58; refine Calls.mono FCH.out ?_; rintro e w1 ⟨rfl,ft1⟩; have pw:PutW F z k q V s1 (t+d) c x (subV u1 d) u6 w1:=⟨SLR.out.1,SLR.out.2,PRH.out.w.cg.sv ft1.sv HB.out.2.2.1,PRH.out.w.ft.trans ft1⟩; have PW:Hid (_):=pw; clear ft1 pw)
       | (go_at_call 59; refine (whole_any F s1 _ PW.out.ft.at' (PW.out.ft.rules HB.out.1 HB.out.2.1) HD.out.2.2.2.2).mono ?_; rintro e w2 ⟨rfl,b2⟩; rw [decide_eq_true hw]; have p2:=PW.out.on b2; have c2:=p2.ft.at'.c0;  have P2:Hid (_):=p2; clear p2 b2)
       | (go_at_call 61; refine (wrong_p F s1 _ P2.out.ft.at' (P2.out.ft.rules HB.out.1 HB.out.2.1) HD.out.2.2.2.2 HS.out.1 PB.out HS.out.2.1 HS.out.2.2).mono ?_; rintro e w3 ⟨rfl,b3⟩; rw [wb]; have p3:=P2.out.on b3; have P3:Hid (_):=p3; clear p3 b3)
       | (go_at_call 62; refine (refuse_any F s1 _ P3.out.ft.at' (P3.out.ft.rules HB.out.1 HB.out.2.1) HD.out.2.2.2.2 HV.out.1 HV.out.2.1).mono ?_; rintro e w4 ⟨rfl,f4⟩; have p4:=P3.out.to f4 HB.out.2.2.1; have c4:=p4.ft.at'.ft; have P4:Hid (_):=p4; clear p4 f4))
      go_quiet (fail)
      go_wp2
      try rw [Exit.noGoto_ret]
      go_ret2
      have bd:=belowD (Below.refl w4.heap.size w4) nq
      exact ⟨_,x,emptyS { s1 with ft:=flt s1.f },c,rfl,P4.out.cg.on bd,P4.out.ft.on bd,PRH.out.tk.refuse FL.out hw hbad ND.out.2⟩
   ·clear f10
    go_wp2_with (first
     | (go_at_call 58; refine Calls.mono FCH.out ?_; rintro e w1 ⟨rfl,ft1⟩; have pw:PutW F z k q V s1 (t+d) c x (subV u1 d) u6 w1:=⟨SLR.out.1,SLR.out.2,PRH.out.w.cg.sv ft1.sv HB.out.2.2.1,PRH.out.w.ft.trans ft1⟩; have PW:Hid (_):=pw; clear ft1 pw)
     | (go_at_call 59; refine (whole_any F s1 _ PW.out.ft.at' (PW.out.ft.rules HB.out.1 HB.out.2.1) HD.out.2.2.2.2).mono ?_; rintro e w2 ⟨rfl,b2⟩; rw [decide_eq_false hw]; have p2:=PW.out.on b2; have c2:=p2.ft.at'.ft; rw [ftz] at c2; have P2:Hid (_):=p2; clear p2 b2))
    go_quiet (fail)
    go_wp2
    try rw [Exit.noGoto_ret]
    go_ret2
    have bd:=belowD (Below.refl w2.heap.size w2) nq
    have ez:t+d=z:=by
     have h1:=HD.out
     have h2:=FL.out.hv
     have h3:=FL.out.f
     rw [h3] at hw
     have:=PRH.out.hi
     omega
    have tk:=PRH.out.tk.wait FL.out hw
    rw [ez] at tk
    refine ⟨_,x,s1,c,?_,P2.out.cg.on bd,P2.out.ft.on bd,tk⟩
    rw [ftz]
    rfl
  ·have i1:¬ (s.ft:Int)=0:=by omega
   have P1:Hid (PutR F n z k q V s t c x _ _ wr/\s.ft ≠ 0):=⟨pr,hf⟩
   clear pr hf
   go_wp2_with fail
   go_quiet (fail)
   go_wp2
   try rw [Exit.noGoto_ret]
   go_ret2
   have p:=P1.out.1
   have bd:=belowD (Below.refl wr.heap.size wr) nq
   exact ⟨_,x,s,c,rfl,p.w.cg.on bd,p.w.ft.on bd,p.tk.later P1.out.2 p.hi⟩
end Go.Proofs.YtjckkdjldnobmaaGreatDoor.Frm

namespace Go.Proofs.YtjckkdjldnobmaaGreatDoor.Frm
open Go.RowKit Gf8 Aes By8 Cel
/- The reference's Read and Feed. -/
def bC (rd ep lf:Int) (cv:Value):Array Value:=#[.int .i64 rd,.int .i64 ep,.int .i64 lf,cv]
theorem sizeB (rd ep lf:Int) (cv:Value):(Tryz.prog.info? 54).map (·.size)=some (bC rd ep lf cv).size:=by
 show _=some 4
 kernel_rfl
theorem bC_one (rd ep lf:Int) {cv:Value} (h:cv.oneCell'=true):(bC rd ep lf cv).all (·.oneCell')=true:=by
 have e:(bC rd ep lf cv).all (·.oneCell')=(true && (true && (true && (cv.oneCell' && true)))):=by
  simp only [bC,← Array.all_toList,List.all_cons,List.all_nil]
  rfl
 rw [e,h]
 rfl
theorem zeroB:∀ w,(zeroValue 54).run Tryz.prog w=.ok (.agg (bC 0 0 0 (.slice none 0 0))) w:=by
 intro w
 simp [go_sem,bC]
theorem results_cell_tmp2 {P:Program} {fn:Func} {p u v:Tmp} {ty:TypeId} (h:fn.results=#[.cell p ty,.tmp u,.tmp v]) (tmps:Array Value) (w:World) (g:Nat) (t:TypeId) (cs:Array Value) (fr:Nat × Nat) (d:TypeDesc)
  (hp:tmps.getD p undef=.pointer (some ⟨g,0,none⟩)) (hg:w.heap[g]?=some (.cells cs t fr))
  (hu:P.underlying ty=some d) (hd:(match d with | .struct _ | .array _ _=>true | _=>false)=true) (hi:(P.info? ty).map (·.size)=some cs.size) :
  (results fn tmps).run P w=.ok (.tuple #[.agg cs,tmps.getD u undef,tmps.getD v undef]) w:=by
 have hp':tmps[p]?.getD undef=.pointer (some ⟨g,0,none⟩):=by simpa using hp
 simp [results,h,hp',asAddr,run_loadVar_row w g t ty cs fr d hg hu hd hi]
def okR (p:Nat->Nat) (len:Nat):Bool:=(jE p len).2 == 0
def rK (p:Nat->Nat) (len:Nat):Nat:=if okR p len then jK p len else 0
def rRound (p:Nat->Nat) (len:Nat):Int:=if okR p len then jRound p len else 0
def rEpoch (p:Nat->Nat) (len:Nat):Int:=if okR p len then jEpoch p len else 0
def rLeft (p:Nat->Nat) (len:Nat):Int:=if okR p len then jLeft p len else 0
theorem jE_ok {p:Nat->Nat} {len:Nat} (h:(jE p len).2=0):jE p len=(0,0):=by
 cases hok:headOk p len with
 | true=>
  have hj:jE p len=tailE p len (nCells p) (wholeK p len (nCells p)):=by unfold jE; rw [hok,if_pos rfl]
  rw [hj] at h ⊢
  unfold tailE at h ⊢
  split at h
  ·split at h <;> cases h
  ·rw [if_neg (by assumption)]
   split at h
   ·cases h
   ·rw [if_neg (by assumption)]
    split at h
    ·rw [if_pos (by assumption)]
     split at h
     ·cases h
     ·rw [if_neg (by assumption)]
    ·cases h
 | false=>
  exfalso
  have hj:jE p len=headE p len:=by unfold jE; rw [hok,if_neg (by simp)]
  rw [hj] at h
  have go:∀ k,k<=6->(headR p len k).2=0->∀ f,6 - k<=f->f < 6->startN (f+1)<=len/\wrongN p f=0:=by
   intro k
   induction k with
   | zero=>intro _ _ f h1 h2; omega
   | succ k ih=>
    intro hk h0 f h1 h2
    rw [headR] at h0
    split at h0
    ·cases h0
    ·split at h0
     ·rename_i w; exact absurd h0 w
     ·by_cases e:f=5 - k
      ·subst e
       rename_i a b
       exact ⟨by omega,by simpa using b⟩
      ·exact ih (by omega) h0 f (by omega) h2
  have all:=go 6 (Nat.le_refl _) h
  have ok:headOk p len=true:=(headOk_iff p len).2 ⟨(all 5 (by omega) (by omega)).1,fun f hf=>(all f (by omega) hf).2⟩
  rw [hok] at ok
  cases ok
theorem tailE_le {p:Nat->Nat} {len n k:Nat}:(tailE p len n k).2<=67:=by
 unfold tailE
 repeat' split
 all_goals simp
theorem jE_le (p:Nat->Nat) (len:Nat):(jE p len).2<=67:=by
 unfold jE
 split
 ·exact tailE_le
 ·unfold headE
  have go:∀ k,(headR p len k).2<=67:=by
   intro k
   induction k with
   | zero=>simp [headR]
   | succ k ih=>
    rw [headR]
    have:=wrongN_le p (5 - k)
    repeat' split
    ·simp
    ·show wrongN p (5 - k)<=67; omega
    ·exact ih
  exact go 6
theorem storeJ (w1:World) (c:Array Value) (hd:Bool) (rd ep lf:Int) (cv:Value) (pl er:Int):((w1.alloc (.cells c 105)).setRow w1.heap.size (jC hd rd ep lf cv pl er)).heap[w1.heap.size]?=some (.cells (jC hd rd ep lf cv pl er) 105)/\((w1.alloc (.cells c 105)).setRow w1.heap.size (jC hd rd ep lf cv pl er)).cell? ⟨w1.heap.size,4,none⟩=some cv/\((w1.alloc (.cells c 105)).setRow w1.heap.size (jC hd rd ep lf cv pl er)).cell? ⟨w1.heap.size,5,none⟩=some (.int .i64 pl)/\((w1.alloc (.cells c 105)).setRow w1.heap.size (jC hd rd ep lf cv pl er)).cell? ⟨w1.heap.size,6,none⟩=some (.int .i64 er)/\Below w1.heap.size w1 ((w1.alloc (.cells c 105)).setRow w1.heap.size (jC hd rd ep lf cv pl er)):=by
 have h:=setRow_heap _ _ _ (jC hd rd ep lf cv pl er) _ _ (heapNew w1 (.cells c 105))
 refine ⟨h,?_,?_,?_,below4 (belNew w1 _) (Nat.le_refl _) _⟩
 ·rw [cell_of_row _ _ _ _ _ _ h]; rfl
 ·rw [cell_of_row _ _ _ _ _ _ h]; rfl
 ·rw [cell_of_row _ _ _ _ _ _ h]; rfl
theorem cell_row_other {w:World} {g k f:Nat} {d:Array Value} (h:g < k):(w.setRow g d).cell? ⟨k,f,none⟩=w.cell? ⟨k,f,none⟩:=by
 have e:=setRow_other w g k d (by omega)
 unfold World.cell?
 simp only [e]
section
variable {o:Oper} {a:Act} {w:World}
theorem execB0 (ho:o.op=.build 54 #[]):(execOp a.eval o).run Tryz.prog w=.ok (.value (.agg (bC 0 0 0 (.slice none 0 0)))) w:=by
 unfold execOp
 simp only [ho]
 simp [go_sem,bC]
theorem execB2 {x y:Operand} {rd ep lf:Int} {ao:Option Addr} {n c:Nat} (ho:o.op=.build 54 #[(0,x),(1,y)]) (hx:a.eval x=.agg #[.int .i64 rd,.int .i64 ep,.int .i64 lf]) (hy:a.eval y=.slice ao n c):(execOp a.eval o).run Tryz.prog w=.ok (.value (.agg (bC rd ep lf (.slice ao n c)))) w:=by
 unfold execOp
 simp only [ho,List.map_toArray,List.map_cons,List.map_nil,hx,hy]
 simp [go_sem,bC]
theorem execFldP {x:Operand} {g:Nat} (ho:o.op=.fieldAddr 105 x 3) (hx:a.eval x=.pointer (some ⟨g,0,none⟩)):(execOp a.eval o).run Tryz.prog w=.ok (.value (.pointer (some ⟨g,5,none⟩))) w:=by
 unfold execOp
 simp only [ho,hx]
 simp [go_sem]
theorem execFldE {x:Operand} {g:Nat} (ho:o.op=.fieldAddr 105 x 4) (hx:a.eval x=.pointer (some ⟨g,0,none⟩)):(execOp a.eval o).run Tryz.prog w=.ok (.value (.pointer (some ⟨g,6,none⟩))) w:=by
 unfold execOp
 simp only [ho,hx]
 simp [go_sem]
theorem execStBt {x y:Operand} {g:Nat} {r0 e0 l0 rd ep lf:Int} {c0 cv:Value} {t:TypeId} (ho:o.op=.store 54 x y) (hx:a.eval x=.pointer (some ⟨g,0,none⟩)) (hy:a.eval y=.agg (bC rd ep lf cv)) (hg:w.heap[g]?=some (.cells (bC r0 e0 l0 c0) t)) (h1:cv.oneCell'=true) :
  (execOp a.eval o).run Tryz.prog w=.ok .skip (w.setRow g (bC rd ep lf cv)):=
 execStMid ho hx hy hg (by show 0+4<=4; decide) (sizeB _ _ _ _) (bC_one _ _ _ h1)
theorem execAsB {x:Operand} {v:Value} (ho:o.op=.assign x) (hx:a.eval x=v):(execOp a.eval o).run Tryz.prog w=.ok (.value v) w:=by
 unfold execOp
 simp only [ho,hx]
 simp [go_sem]
end
theorem ownL_shape {W:World} {B n:Nat} {v:Value} {xs:List Value} (h:W.ownsRow B 24 1 v n xs):∃ ao cap,v=.slice ao n cap:=by
 rcases h.2 with ⟨rfl,rfl⟩ | ⟨g,cap,cur,rfl,_⟩
 ·exact ⟨_,_,rfl⟩
 ·exact ⟨_,_,rfl⟩
theorem ownL_base {W:World} {B C n:Nat} {v:Value} {xs:List Value} (h:W.ownsRow C 24 1 v n xs) (hB:B<=C):W.ownsRow B 24 1 v n xs:=by
 refine ⟨h.1,?_⟩
 rcases h.2 with h | ⟨g,cap,cur,e,hb,h2⟩
 ·exact Or.inl h
 ·exact Or.inr ⟨g,cap,cur,e,by omega,h2⟩
theorem CL.base {B C k:Nat} {x:Nat->Value} {p:Nat->Nat} {cv:Value} {W:World} (h:CL C k x p cv W) (hB:B<=C):CL B k x p cv W:=⟨ownL_base h.own hB,⟨fun t ht=>own_base (h.fam.rows t ht) hB,h.fam.dis⟩⟩
theorem CL.rowT {B k:Nat} {x:Nat->Value} {p:Nat->Nat} {cv:Value} {W:World} (h:CL B k x p cv W) {R:Nat} {c:Array Value} {t:TypeId} (hr:W.heap[R]?=some (.cells c t)) (h1:t ≠ 24) (h2:t ≠ 5) (d:Array Value):CL B k x p cv (W.setRow R d):=
 ⟨ownL_row h.own hr h1 d,⟨fun t ht=>ownsRow_row (h.fam.rows t ht) hr h2 d,h.fam.dis⟩⟩
theorem readR (V w1:World) {W2:World} (c:Array Value) (hb1:Below (V.alloc (.cells c 54)).heap.size (V.alloc (.cells c 54)) w1) (qb:Below w1.heap.size w1 W2):W2.heap[V.heap.size]?=some (.cells c 54):=by
 rw [qb.block _ (by have:=hb1.size; simp at this; omega),hb1.block _ (by simp)]
 exact heapNew V _
theorem range_hd {W:World} {J:Nat} {hd:Bool} {rd ep lf:Int} {cv:Value} {pl er:Int} {t:TypeId} (h:W.heap[J]?=some (.cells (jC hd rd ep lf cv pl er) t)):W.rangeAt J 1 [.int .i64 rd,.int .i64 ep,.int .i64 lf]:=by
 intro j u hu
 rw [cell_of_row _ _ _ _ _ _ h]
 match j,hu with
 | 0,hu=>exact hu
 | 1,hu=>exact hu
 | 2,hu=>exact hu
def rfV (J:Nat) (pl er:Nat) (j:Nat):Value:=
 match j with
 | 0=>.agg (bC 0 0 0 (.slice none 0 0)) | 1=>.pointer (some ⟨J,5,none⟩) | 2=>.int .i64 pl | 3=>.pointer (some ⟨J,6,none⟩) | 4=>.int .i64 er | 5=>undef | 6=>.int .i64 pl | _=>.int .i64 er
set_option maxRecDepth 20000 in
set_option maxHeartbeats 1000000 in
theorem rread_any (p:Nat->Nat) (len:Nat) (v:Value) (V:World) (hv:SliceN V v len p) (hl:len<=140737488351232) :
  Calls Tryz.prog 20 #[v] V fun e w'=>∃ cv x,e=.returned (.tuple #[.agg (bC (rRound p len) (rEpoch p len) (rLeft p len) cv),.int .i64 (jE p len).1,.int .i64 (jE p len).2])/\CL V.heap.size (rK p len) x p cv w'/\Below V.heap.size V w':=by
 have z:=zeroJ
 have z2:=zeroB
 have JA:=judge_any p len v (V.alloc (.cells (bC 0 0 0 (.slice none 0 0)) 54)) (hv.on (belNew V _)) hl
 obtain ⟨E,hE⟩:∃ E,(jE p len).2=E:=⟨_,rfl⟩
 obtain ⟨PL,hP⟩:∃ PL,(jE p len).1=PL:=⟨_,rfl⟩
 have lE:=jE_le p len
 rw [hE] at lE
 by_cases h:E=0
 ·subst h
  have o1:okR p len=true:=by unfold okR; rw [hE]; rfl
  have e0:=jE_ok hE
  have p0:PL=0:=by rw [← hP,e0]
  subst p0
  have QQ:Hid (rRound p len=jRound p len/\rEpoch p len=jEpoch p len/\rLeft p len=jLeft p len/\rK p len=jK p len):=by
   refine ⟨?_,?_,?_,?_⟩
   ·unfold rRound; rw [o1]; rfl
   ·unfold rEpoch; rw [o1]; rfl
   ·unfold rLeft; rw [o1]; rfl
   ·unfold rK; rw [o1]; rfl
  rw [hE,hP] at JA ⊢
  obtain ⟨rd,hrd⟩:∃ rd,jRound p len=rd:=⟨_,rfl⟩
  obtain ⟨ep,hep⟩:∃ ep,jEpoch p len=ep:=⟨_,rfl⟩
  obtain ⟨lf,hlf⟩:∃ lf,jLeft p len=lf:=⟨_,rfl⟩
  rw [hrd,hep,hlf] at JA QQ
  clear o1 hE hP hv hrd hep hlf e0
  go_enter Tryz.func20,Tryz.ntmps20
  go_wp2_with (first
   | (go_at_call 39; refine JA.mono ?_; rintro e w1 ⟨cv,x,rfl,cl,hb1⟩; obtain ⟨ac,cc,rfl⟩:=ownL_shape cl.own)
   | (refine atStore 105 (.tmp 5) (.tmp 7) rfl ?_; go_must (refine wpList_store_row rfl 105 (.tmp 5) (.tmp 7) rfl w1.heap.size _ rfl rfl 105 _ (heapNew w1 _) (sizeJ _ _ _ _ _ _ _) rfl (jC_one _ _ _ _ _ _ cl.one) ?_; obtain ⟨q1,q4,q5,q6,qb⟩:=storeJ w1 (jC false 0 0 0 (.slice none 0 0) 0 0) (headOk p len) rd ep lf (.slice ac (jK p len) cc) 0 0; have r0:=readR V w1 _ hb1 qb))
   | (refine atLoad 52 (.tmp 16) rfl ?_; go_must (refine wpList_ex rfl (execLoadMid (cs:=[.int .i64 rd,.int .i64 ep,.int .i64 lf]) rfl rfl (range_hd q1) Tryz.underlying52 rfl (by kernel_rfl)) ?_))
   | (refine atStore 54 (.tmp 2) (.tmp 20) rfl ?_; go_must (refine wpList_exS rfl (execStBt (cv:=.slice ac (jK p len) cc) (rd:=rd) (ep:=ep) (lf:=lf) rfl rfl rfl r0 rfl) ?_)))
  refine bodyPost_ret (results_cell_tmp2 Tryz.results20 _ _ V.heap.size 54 _ (0,0) _ rfl (setRow_heap _ _ _ (bC rd ep lf (.slice ac (jK p len) cc)) _ _ r0) Tryz.underlying54 rfl (sizeB _ _ _ _)) rfl ?_
  obtain ⟨a1,a2,a3,a4⟩:=QQ.out
  rw [a1,a2,a3,a4]
  have b0:Below V.heap.size V w1:=(belNew V _).trans (hb1.mono (by simp))
  exact ⟨_,x,rfl,((cl.base (by simp)).on qb).rowT r0 (by decide) (by decide) _,below4 (b0.trans (qb.mono b0.size)) (Nat.le_refl _) _⟩
 ·have i1:((E:Int) != 0)=true:=by simp; omega
  have o1:okR p len=false:=by unfold okR; rw [hE]; simp; omega
  have QQ:Hid (rRound p len=0/\rEpoch p len=0/\rLeft p len=0/\rK p len=0):=by
   refine ⟨?_,?_,?_,?_⟩
   ·unfold rRound; rw [o1]; rfl
   ·unfold rEpoch; rw [o1]; rfl
   ·unfold rLeft; rw [o1]; rfl
   ·unfold rK; rw [o1]; rfl
  rw [hE,hP] at JA ⊢
  clear o1 hE hP h hv
  go_enter Tryz.func20,Tryz.ntmps20
  go_wp2_with (first
   | (go_at_call 39; refine JA.mono ?_; rintro e w1 ⟨cv,x,rfl,cl,hb1⟩)
   | (refine atStore 105 (.tmp 5) (.tmp 7) rfl ?_; go_must (refine wpList_store_row rfl 105 (.tmp 5) (.tmp 7) rfl w1.heap.size _ rfl rfl 105 _ (heapNew w1 _) (sizeJ _ _ _ _ _ _ _) rfl (jC_one _ _ _ _ _ _ cl.one) ?_; obtain ⟨q1,q4,q5,q6,qb⟩:=storeJ w1 (jC false 0 0 0 (.slice none 0 0) 0 0) (headOk p len) (jRound p len) (jEpoch p len) (jLeft p len) cv PL E)))
  have hb2:Below V.heap.size V ((w1.alloc (.cells (jC false 0 0 0 (.slice none 0 0) 0 0) 105)).setRow w1.heap.size (jC (headOk p len) (jRound p len) (jEpoch p len) (jLeft p len) cv PL E)):=by
   have b0:Below V.heap.size V w1:=(belNew V _).trans (hb1.mono (by simp))
   exact b0.trans (qb.mono b0.size)
  have r0:((w1.alloc (.cells (jC false 0 0 0 (.slice none 0 0) 0 0) 105)).setRow w1.heap.size (jC (headOk p len) (jRound p len) (jEpoch p len) (jLeft p len) cv PL E)).heap[V.heap.size]?=some (.cells (bC 0 0 0 (.slice none 0 0)) 54):=by
   rw [qb.block _ (by have:=hb1.size; simp at this; omega),hb1.block _ (by simp)]
   exact heapNew V _
  obtain ⟨W2,hW2⟩:∃ W2,(w1.alloc (.cells (jC false 0 0 0 (.slice none 0 0) 0 0) 105)).setRow w1.heap.size (jC (headOk p len) (jRound p len) (jEpoch p len) (jLeft p len) cv PL E)=W2:=⟨_,rfl⟩
  rw [hW2] at q1 q4 q5 q6 qb hb2 r0 ⊢
  clear hW2 JA
  refine wp_region_det 21 [(0,11),(1,12),(2,13),(3,14),(4,15),(6,3),(7,4)] (rfV w1.heap.size PL E) (fun _ W=>W.heap[V.heap.size]?=some (.cells (bC 0 0 0 (.slice none 0 0)) 54)/\W.cell? ⟨w1.heap.size,5,none⟩=some (.int .i64 PL)/\W.cell? ⟨w1.heap.size,6,none⟩=some (.int .i64 E)/\Below V.heap.size V W/\V.heap.size < w1.heap.size) (by kernel_rfl) (by kernel_rfl) rfl (by kernel_rfl) (by decide) (by decide) ?_ ?_ ?_
  ·exact ⟨r0,q5,q6,hb2.drew,by have:=hb1.size; simp at this; omega⟩
  ·intro j hj l a W hl hf hdep hl2 hcl _ hT
   match j,hj with
   | 0,_=>exact stepV rfl rfl (execB0 rfl) ⟨⟨_,rfl,rfl⟩,hT⟩
   | 1,_=>exact stepV rfl rfl (execFldP rfl (hf 5 (by decide))) ⟨⟨_,rfl,rfl⟩,hT⟩
   | 2,_=>exact stepV rfl rfl (execLdI rfl (hdep _ rfl 1 rfl _ rfl _ rfl) hT.2.1) ⟨⟨_,rfl,rfl⟩,hT⟩
   | 3,_=>exact stepV rfl rfl (execFldE rfl (hf 5 (by decide))) ⟨⟨_,rfl,rfl⟩,hT⟩
   | 4,_=>exact stepV rfl rfl (execLdI rfl (hdep _ rfl 3 rfl _ rfl _ rfl) hT.2.2.1) ⟨⟨_,rfl,rfl⟩,hT⟩
   | 5,_=>
    refine stepS rfl rfl (execStBt rfl (hf 2 (by decide)) (hdep _ rfl 0 rfl _ rfl _ rfl) hT.1 rfl) ⟨⟨_,rfl,rfl⟩,setRow_heap _ _ _ _ _ _ hT.1,?_,?_,below4 hT.2.2.2.1 (Nat.le_refl _) _,hT.2.2.2.2⟩
    ·rw [cell_row_other hT.2.2.2.2]; exact hT.2.1
    ·rw [cell_row_other hT.2.2.2.2]; exact hT.2.2.1
   | 6,_=>exact stepV rfl rfl (execAsB rfl (hdep _ rfl 2 rfl _ rfl _ rfl)) ⟨⟨_,rfl,rfl⟩,hT⟩
   | 7,_=>exact stepV rfl rfl (execAsB rfl (hdep _ rfl 4 rfl _ rfl _ rfl)) ⟨⟨_,rfl,rfl⟩,hT⟩
   | n+8,h=>exact absurd h (by simp)
  ·intro l W hall hT
   simp only [putP,rfV,Act.put,List.setIfInBounds_toArray,List.set_cons_succ,List.set_cons_zero]
   go_wp2
   refine bodyPost_ret (results_cell_tmp2 Tryz.results20 _ _ V.heap.size 54 _ (0,0) _ rfl hT.1 Tryz.underlying54 rfl (sizeB _ _ _ _)) rfl ?_
   obtain ⟨a1,a2,a3,a4⟩:=QQ.out
   rw [a1,a2,a3,a4]
   exact ⟨_,x,rfl,CL.none _ _ _ _,hT.2.2.2.1⟩
end Go.Proofs.YtjckkdjldnobmaaGreatDoor.Frm

namespace Go.Proofs.YtjckkdjldnobmaaGreatDoor.Frm
open Go.RowKit Gf8 Aes By8 Cel
/- The reference's Pack. -/
structure Cells (W:World) (cv:Value) (n:Nat) (xv:Nat->Value) (ln:Nat->Nat) (c:Nat->Nat->Nat):Prop where
 shape:∃ a cap,cv=.slice a n cap/\n<=cap/\cap < 9223372036854775808/\(0 < n->∃ b off,a=some ⟨b,off,none⟩/\b < W.heap.size/\∀ i,i < n->W.cell? ⟨b,off+i,none⟩=some (xv i))
 cell:∀ i,i < n->SliceN W (xv i) (ln i) (c i)
 nil:∀ i,i < n->∀ l cc,xv i=.slice none l cc->cc=0
 lens:∀ i,i < n->ln i<=140737488351232
theorem Cells.on {W W':World} {cv:Value} {n:Nat} {xv:Nat->Value} {ln:Nat->Nat} {c:Nat->Nat->Nat} (h:Cells W cv n xv ln c) (hb:Below W.heap.size W W'):Cells W' cv n xv ln c:=by
 obtain ⟨a,cap,e,h1,h2,h3⟩:=h.shape
 refine ⟨⟨a,cap,e,h1,h2,fun h0=>?_⟩,fun i hi=>(h.cell i hi).on hb,h.nil,h.lens⟩
 obtain ⟨b,off,e2,hl,hc⟩:=h3 h0
 exact ⟨b,off,e2,Nat.lt_of_lt_of_le hl hb.size,fun i hi=>by rw [cell_below hb hl]; exact hc i hi⟩
theorem Cells.one {W:World} {cv:Value} {n:Nat} {xv:Nat->Value} {ln:Nat->Nat} {c:Nat->Nat->Nat} (h:Cells W cv n xv ln c):cv.oneCell'=true:=by
 obtain ⟨a,cap,rfl,_⟩:=h.shape
 rfl
def hdOk (rd ep lf:Int):Bool:=decide (0<=lf) && decide (lf<=8) && decide (0<=rd) && decide (rd < 4611686018427387904) && decide (0<=ep) && decide (ep<=4611686018427387904)
def allC (n:Nat) (ln:Nat->Nat):Bool:=(List.range n).all fun i=>ln i == 320
theorem allC_iff (n:Nat) (ln:Nat->Nat):allC n ln=true ↔ ∀ i,i < n->ln i=320:=by
 unfold allC
 simp [List.all_eq_true]
def packE (rd ep lf:Int) (n:Nat) (ln:Nat->Nat):Nat:=if hdOk rd ep lf then (if n<=256 then (if allC n ln then 0 else 64) else 63) else 62
def packN (rd ep lf:Int) (n:Nat) (ln:Nat->Nat):Nat:=if packE rd ep lf n ln=0 then cellAt n+4 else 0
def packI (rd ep lf:Int) (n:Nat) (c:Nat->Nat->Nat):Nat->Nat:=packF rd.toNat ep.toNat lf.toNat n c
def hC (rd ep lf:Int):Array Value:=#[.int .i64 rd,.int .i64 ep,.int .i64 lf]
structure PS (A:Nat) (rd ep lf:Int) (cv:Value) (V W:World):Prop where
 b:W.heap[A]?=some (.cells (bC rd ep lf cv) 54)
 h:W.heap[A+1]?=some (.cells (hC rd ep lf) 52)
 bel:Below A V W
theorem PS.on {A:Nat} {rd ep lf:Int} {cv:Value} {V W W':World} (h:PS A rd ep lf cv V W) (hb:Below W.heap.size W W'):PS A rd ep lf cv V W':=by
 have l1:=(Array.getElem?_eq_some_iff.1 h.b).1
 have l2:=(Array.getElem?_eq_some_iff.1 h.h).1
 exact ⟨by rw [hb.block _ l1]; exact h.b,by rw [hb.block _ l2]; exact h.h,h.bel.trans (hb.mono (by omega))⟩
theorem PS.grown {A:Nat} {rd ep lf:Int} {cv:Value} {V W W':World} (h:PS A rd ep lf cv V W) {n:Nat} {v:Value} {xs:List Value} (own:W.ownsRow A 5 1 v n xs) (hg:W.grownBy W' v.ownBlock):PS A rd ep lf cv V W':=by
 have l1:=(Array.getElem?_eq_some_iff.1 h.b).1
 have l2:=(Array.getElem?_eq_some_iff.1 h.h).1
 exact ⟨by rw [hg.block _ l1 (own_ne own h.b (by decide))]; exact h.b,by rw [hg.block _ l2 (own_ne own h.h (by decide))]; exact h.h,h.bel.grown hg (by omega) (fun k hk=>(own.lt k hk).1)⟩
theorem PS.cells {A:Nat} {rd ep lf:Int} {cv:Value} {V W:World} (h:PS A rd ep lf cv V W):W.cell? ⟨A,3,none⟩=some cv/\W.cell? ⟨A+1,0,none⟩=some (.int .i64 rd)/\W.cell? ⟨A+1,1,none⟩=some (.int .i64 ep)/\W.cell? ⟨A+1,2,none⟩=some (.int .i64 lf):=by
 refine ⟨?_,?_,?_,?_⟩
 ·rw [cell_of_row _ _ _ _ _ _ h.b]; rfl
 ·rw [cell_of_row _ _ _ _ _ _ h.h]; rfl
 ·rw [cell_of_row _ _ _ _ _ _ h.h]; rfl
 ·rw [cell_of_row _ _ _ _ _ _ h.h]; rfl
theorem range_bh {W:World} {A:Nat} {rd ep lf:Int} {cv:Value} {t:TypeId} (h:W.heap[A]?=some (.cells (bC rd ep lf cv) t)):W.rangeAt A 0 [.int .i64 rd,.int .i64 ep,.int .i64 lf]:=by
 intro j u hu
 rw [cell_of_row _ _ _ _ _ _ h]
 match j,hu with
 | 0,hu=>exact hu
 | 1,hu=>exact hu
 | 2,hu=>exact hu
end Go.Proofs.YtjckkdjldnobmaaGreatDoor.Frm

namespace Go.Proofs.YtjckkdjldnobmaaGreatDoor.Frm
open Go.RowKit Gf8 Aes By8 Cel
/- Header, End, Read. -/
theorem FAt.hd {F:Nat} {s:FSt} {W:World} (h:FAt F s W):W.rangeAt F 325 [.int .i64 s.rd,.int .i64 s.ep,.int .i64 s.lf]:=by
 intro j v hv
 match j,hv with
 | 0,hv=>exact h.rd.trans hv
 | 1,hv=>exact h.ep.trans hv
 | 2,hv=>exact h.lf.trans hv
def endP (s:FSt):Nat × Nat:=if s.ft ≠ 0 then (s.pl,s.ft) else if s.f=9 then (0,0) else (s.pl+s.hv,67)
set_option maxRecDepth 20000 in
theorem end_any (F:Nat) (s:FSt) (V:World) (h:FAt F s V) (hl:s.ft=0->s.pl+s.hv<=140737488355328):Calls Tryz.prog 37 #[.pointer (some ⟨F,0,none⟩)] V fun e w'=>e=.returned (.tuple #[.int .i64 ((endP s).1:Nat),.int .i64 ((endP s).2:Nat)])/\Below V.heap.size V w':=by
 have c0:=h.c0
 have c1:=h.ft
 have c2:=h.pl
 have c3:=h.hv
 unfold endP
 by_cases h1:s.ft ≠ 0
 ·have i1:((s.ft:Int) != 0)=true:=by simp; omega
  rw [if_pos h1]
  clear h1 h hl
  go_enter Tryz.func37,Tryz.ntmps37
  go_wp2_with fail
  go_quiet (fail)
  go_wp2
  go_ret2
  exact ⟨rfl,belowD (Below.refl _ _) _⟩
 ·have i1:((s.ft:Int) != 0)=false:=by simp; omega
  rw [if_neg h1]
  by_cases h9:s.f=9
  ·have i2:(s.f:Int)=9:=by omega
   rw [if_pos h9]
   clear h1 h h9 hl
   go_enter Tryz.func37,Tryz.ntmps37
   go_wp2
   go_ret2
   exact ⟨rfl,Below.refl _ _⟩
  ·have i2:¬ (s.f:Int)=9:=by omega
   have i3:(s.pl:Int)+s.hv<=140737488355328:=by have:=hl (by omega); omega
   rw [if_neg h9]
   clear h1 h h9 hl
   go_enter Tryz.func37,Tryz.ntmps37
   go_wp2_with fail
   go_quiet (fail)
   go_wp2
   go_ret2
   exact ⟨rfl,belowD (Below.refl _ _) _⟩
theorem Took.ends {q:Nat->Nat} {n k:Nat} {s:FSt} (h:Took q n k s) (hb:∀ j,j < n->q j < 256):endP s=jE q n:=by
 obtain ⟨_,_,a,b,_,c⟩:=h.tells hb
 unfold endP
 by_cases e:s.ft ≠ 0
 ·rw [if_pos e,b e]
 ·rw [if_neg e,a (by omega),c (by omega)]
theorem Took.le {q:Nat->Nat} {n k:Nat} {s:FSt} (h:Took q n k s) (h0:s.ft=0):s.pl+s.hv=n:=by
 rcases h.or with ⟨_,h2,_⟩ | ⟨_,h3,_⟩
 ·exact h2
 ·exact absurd h0 h3
theorem end_took (F:Nat) (s:FSt) (q:Nat->Nat) (n k:Nat) (V:World) (h:FAt F s V) (tk:Took q n k s) (hb:∀ j,j < n->q j < 256) (hn:n<=140737488351232):Calls Tryz.prog 37 #[.pointer (some ⟨F,0,none⟩)] V fun e w'=>e=.returned (.tuple #[.int .i64 ((jE q n).1:Nat),.int .i64 ((jE q n).2:Nat)])/\Below V.heap.size V w':=by
 have:=end_any F s V h (fun e=>by have:=tk.le e; omega)
 rw [tk.ends hb] at this
 exact this
theorem saved_below {F B:Nat} {V W:World} (h:Saved (fun k=>k=F) V W) (hF:B<=F) (hB:B<=V.heap.size):Below B V W:=
 ⟨h.os,h.tape,h.output,h.size,fun k hk=>h.block k (by omega) (by omega)⟩
theorem CG.base {B C k:Nat} {x:Nat->Value} {cb:Nat->Nat->Nat} {cv:Value} {W:World} (h:CG C k x cb cv W) (hB:B<=C):CG B k x cb cv W:=⟨ownL_base h.own hB,⟨fun t ht=>own_base (h.fam.rows t ht) hB,h.fam.dis⟩⟩
theorem CG.sub {B k k':Nat} {x:Nat->Value} {p:Nat->Nat} {cv:Value} {W:World} (h:CG B k x (fun i=>cellB p (0+i)) cv W) (e:k=k'):CL B k' x p cv W:=by
 subst e
 refine ⟨h.own,⟨fun t ht=>?_,h.fam.dis⟩⟩
 have:=h.fam.rows t ht
 rw [Nat.zero_add] at this
 exact this
set_option maxRecDepth 20000 in
set_option maxHeartbeats 1000000 in
theorem pread_any (p:Nat->Nat) (len:Nat) (v:Value) (V:World) (g:Rules V) (hv:SliceN V v len p) (hl:len<=140737488351232) :
  Calls Tryz.prog 18 #[v] V fun e w'=>∃ cv x,e=.returned (.tuple #[.agg (bC (rRound p len) (rEpoch p len) (rLeft p len) cv),.int .i64 (jE p len).1,.int .i64 (jE p len).2])/\CL V.heap.size (rK p len) x p cv w'/\Below V.heap.size V w':=by
 have z:=zeroB
 have b0:=belNew V (.cells (bC 0 0 0 (.slice none 0 0)) 54)
 have h00:=heapNew V (.cells (bC 0 0 0 (.slice none 0 0)) 54)
 obtain ⟨V0,hV0⟩:∃ V0,V.alloc (.cells (bC 0 0 0 (.slice none 0 0)) 54)=V0:=⟨_,rfl⟩
 rw [hV0] at b0 h00
 have sz0:V.heap.size < V0.heap.size:=by rw [← hV0]; simp
 have HB:Hid (Rules V0/\SliceN V0 v len p/\(∀ j,j < len->p j < 256)/\len<=140737488351232/\V.heap.size < V0.heap.size/\Below V.heap.size V V0/\True/\V0.heap[V.heap.size]?=some (.cells (bC 0 0 0 (.slice none 0 0)) 54)):=⟨g.on b0 g.sz,hv.on b0,hv.bytes,hl,sz0,b0,trivial,h00⟩
 have HV:Hid (V.alloc (.cells (bC 0 0 0 (.slice none 0 0)) 54)=V0):=hV0
 clear g hv hl b0 h00 hV0 sz0
 obtain ⟨E,hE⟩:∃ E,jE p len=E:=⟨_,rfl⟩
 by_cases e0:E.2=0
 ·have i1:((E.2:Int) != 0)=false:=by simp; omega
  go_enter Tryz.func18,Tryz.ntmps18
  go_wp2_with (first
   | (go_at_call 35; rw [HV.out]; refine (new_any V0).mono ?_; rintro e w1 ⟨F,rfl,hF,fa,b1⟩; have N1:Hid (V0.heap.size<=F/\FAt F newS w1/\Below V0.heap.size V0 w1):=⟨hF,fa,b1⟩; clear hF fa b1)
   | (go_at_call 36; refine (put_any F newS p 0 len 0 v w1 N1.out.2.1 (HB.out.1.on N1.out.2.2 (by have:=HB.out.2.2.2.2.1; omega)) (by have:=HB.out.2.2.2.2.1; have:=N1.out.1; omega) (Took.begin p) (Nat.zero_le _) (sliceN_cg (HB.out.2.1.on N1.out.2.2) fun j _=>by rw [Nat.zero_add]) (off_of HB.out.2.1 N1.out.1) HB.out.2.2.1 HB.out.2.2.2.1).mono ?_; rintro e w2 ⟨cv,x,s,c,rfl,cg,ft,tk⟩; obtain ⟨ac,cc,rfl⟩:=ownL_shape cg.own; have P2:Hid (CG w1.heap.size c x (fun i=>cellB p (0+i)) (.slice ac c cc) w2/\FTo F s w1 w2/\Took p len (0+c) s):=⟨cg,ft,tk⟩; clear cg ft tk)
   | (go_at_call 37; refine (end_took F s p len (0+c) w2 P2.out.2.1.at' P2.out.2.2 HB.out.2.2.1 HB.out.2.2.2.1).mono ?_; rw [hE]; rintro e w3 ⟨rfl,b3⟩; have r0:w3.heap[V.heap.size]?=some (.cells (bC 0 0 0 (.slice none 0 0)) 54):=(by have l0:=HB.out.2.2.2.2.1; have l1:=N1.out.2.2.size; have l2:=P2.out.2.1.sv.size; rw [b3.block _ (by omega),P2.out.2.1.sv.block _ (by omega) (by have:=N1.out.1; omega),N1.out.2.2.block _ l0]; exact HB.out.2.2.2.2.2.2.2); have R0:Hid (_):=r0; have F3:Hid (FAt F s w3):=P2.out.2.1.at'.on b3; have B3:Hid (Below w2.heap.size w2 w3):=b3; clear r0 b3)
   | (refine atLoad 52 (.tmp 29) rfl ?_; go_must (refine wpList_ex rfl (execLoadMid (cs:=[.int .i64 s.rd,.int .i64 s.ep,.int .i64 s.lf]) rfl rfl F3.out.hd Tryz.underlying52 rfl (by kernel_rfl)) ?_))
   | (refine wpList_ex rfl (execB2 (rd:=s.rd) (ep:=s.ep) (lf:=s.lf) (ao:=ac) (n:=c) (c:=cc) rfl rfl rfl) ?_)
   | (refine atStore 54 (.tmp 2) (.tmp 32) rfl ?_; go_must (refine wpList_exS rfl (execStBt (cv:=.slice ac c cc) (rd:=s.rd) (ep:=s.ep) (lf:=s.lf) rfl rfl rfl R0.out rfl) ?_)))
  refine bodyPost_ret (results_cell_tmp2 Tryz.results18 _ _ V.heap.size 54 _ (0,0) _ rfl (setRow_heap _ _ _ (bC s.rd s.ep s.lf (.slice ac c cc)) _ _ R0.out) Tryz.underlying54 rfl (sizeB _ _ _ _)) rfl ?_
  obtain ⟨cg,ft,tk⟩:=P2.out
  have te:=tk.ends HB.out.2.2.1
  rw [hE] at te
  obtain ⟨h0,h9⟩:s.ft=0/\s.f=9:=by
   unfold endP at te
   by_cases q1:s.ft ≠ 0
   ·rw [if_pos q1] at te
    rw [← te] at e0
    exact absurd e0 q1
   ·rw [if_neg q1] at te
    by_cases q2:s.f=9
    ·exact ⟨by omega,q2⟩
    ·rw [if_neg q2] at te
     rw [← te] at e0
     cases e0
  obtain ⟨t1,t2,_⟩:=tk.tells HB.out.2.2.1
  rw [h9,decide_eq_true (by omega)] at t2
  have o1:okR p len=true:=by unfold okR; rw [hE,e0]; rfl
  have r1:rRound p len=s.rd:=by unfold rRound jRound; rw [if_pos o1,if_pos t2]; exact (tk.rd (by omega)).symm
  have r2:rEpoch p len=s.ep:=by unfold rEpoch jEpoch; rw [if_pos o1,if_pos t2]; exact (tk.ep (by omega)).symm
  have r3:rLeft p len=s.lf:=by unfold rLeft jLeft; rw [if_pos o1,if_pos t2]; exact (tk.lf (by omega)).symm
  have r4:rK p len=0+c:=by unfold rK; rw [if_pos o1]; exact t1
  have eE:E=(0,0):=by rw [← hE]; exact jE_ok (by rw [hE]; exact e0)
  rw [r1,r2,r3,r4,hE,eE]
  have l1:=N1.out.2.2.size
  have cl:CL V.heap.size (0+c) x p (.slice ac c cc) w2:=(cg.base (by have:=HB.out.2.2.2.2.1; omega)).sub (Nat.zero_add c).symm
  have b2:Below V.heap.size V w2:=HB.out.2.2.2.2.2.1.trans ((N1.out.2.2.mono (by have:=HB.out.2.2.2.2.1; omega)).trans (saved_below ft.sv (by have:=HB.out.2.2.2.2.1; have:=N1.out.1; omega) (by have:=HB.out.2.2.2.2.1; omega)))
  exact ⟨_,x,rfl,(cl.on B3.out).rowT R0.out (by decide) (by decide) _,below4 (b2.trans (B3.out.mono b2.size)) (Nat.le_refl _) _⟩
 ·have i1:((E.2:Int) != 0)=true:=by simp; omega
  go_enter Tryz.func18,Tryz.ntmps18
  go_wp2_with (first
   | (go_at_call 35; rw [HV.out]; refine (new_any V0).mono ?_; rintro e w1 ⟨F,rfl,hF,fa,b1⟩; have N1:Hid (V0.heap.size<=F/\FAt F newS w1/\Below V0.heap.size V0 w1):=⟨hF,fa,b1⟩; clear hF fa b1)
   | (go_at_call 36; refine (put_any F newS p 0 len 0 v w1 N1.out.2.1 (HB.out.1.on N1.out.2.2 (by have:=HB.out.2.2.2.2.1; omega)) (by have:=HB.out.2.2.2.2.1; have:=N1.out.1; omega) (Took.begin p) (Nat.zero_le _) (sliceN_cg (HB.out.2.1.on N1.out.2.2) fun j _=>by rw [Nat.zero_add]) (off_of HB.out.2.1 N1.out.1) HB.out.2.2.1 HB.out.2.2.2.1).mono ?_; rintro e w2 ⟨cv,x,s,c,rfl,cg,ft,tk⟩; obtain ⟨ac,cc,rfl⟩:=ownL_shape cg.own; have P2:Hid (CG w1.heap.size c x (fun i=>cellB p (0+i)) (.slice ac c cc) w2/\FTo F s w1 w2/\Took p len (0+c) s):=⟨cg,ft,tk⟩; clear cg ft tk)
   | (go_at_call 37; refine (end_took F s p len (0+c) w2 P2.out.2.1.at' P2.out.2.2 HB.out.2.2.1 HB.out.2.2.2.1).mono ?_; rw [hE]; rintro e w3 ⟨rfl,b3⟩; have r0:w3.heap[V.heap.size]?=some (.cells (bC 0 0 0 (.slice none 0 0)) 54):=(by have l0:=HB.out.2.2.2.2.1; have l1:=N1.out.2.2.size; have l2:=P2.out.2.1.sv.size; rw [b3.block _ (by omega),P2.out.2.1.sv.block _ (by omega) (by have:=N1.out.1; omega),N1.out.2.2.block _ l0]; exact HB.out.2.2.2.2.2.2.2); have R0:Hid (_):=r0; have F3:Hid (FAt F s w3):=P2.out.2.1.at'.on b3; have B3:Hid (Below w2.heap.size w2 w3):=b3; clear r0 b3)
   | (refine wpList_ex rfl (execB0 rfl) ?_)
   | (refine atStore 54 (.tmp 2) (.tmp 24) rfl ?_; go_must (refine wpList_exS rfl (execStBt (cv:=.slice none 0 0) (rd:=0) (ep:=0) (lf:=0) rfl rfl rfl R0.out rfl) ?_)))
  refine bodyPost_ret (results_cell_tmp2 Tryz.results18 _ _ V.heap.size 54 _ (0,0) _ rfl (setRow_heap _ _ _ (bC 0 0 0 (.slice none 0 0)) _ _ R0.out) Tryz.underlying54 rfl (sizeB _ _ _ _)) rfl ?_
  obtain ⟨cg,ft,tk⟩:=P2.out
  have o1:okR p len=false:=by unfold okR; rw [hE]; simp; omega
  have r1:rRound p len=0:=by unfold rRound; rw [o1]; rfl
  have r2:rEpoch p len=0:=by unfold rEpoch; rw [o1]; rfl
  have r3:rLeft p len=0:=by unfold rLeft; rw [o1]; rfl
  have r4:rK p len=0:=by unfold rK; rw [o1]; rfl
  rw [r1,r2,r3,r4,hE]
  have l1:=N1.out.2.2.size
  have b2:Below V.heap.size V w2:=HB.out.2.2.2.2.2.1.trans ((N1.out.2.2.mono (by have:=HB.out.2.2.2.2.1; omega)).trans (saved_below ft.sv (by have:=HB.out.2.2.2.2.1; have:=N1.out.1; omega) (by have:=HB.out.2.2.2.2.1; omega)))
  exact ⟨_,x,rfl,CL.none _ _ _ _,below4 (b2.trans (B3.out.mono b2.size)) (Nat.le_refl _) _⟩
end Go.Proofs.YtjckkdjldnobmaaGreatDoor.Frm

namespace Go.Proofs.YtjckkdjldnobmaaGreatDoor.Frm
open Go.RowKit Gf8 Aes By8 Cel
/- withNumber, sound, the closure of packed. -/
structure Grew (B:Nat) (v:Value) (W:World) (v':Value) (W':World):Prop where
 sv:Saved (fun k=>v.ownBlock=some k) W W'
 to:v'.ownBlock=v.ownBlock\/∃ k,v'.ownBlock=some k/\W.heap.size<=k
theorem Grew.refl (B:Nat) (v:Value) (W:World):Grew B v W v W:=⟨Saved.refl _ _,Or.inl rfl⟩
theorem Grew.new {B:Nat} {v v':Value} {W W':World} (h:Grew B v W v' W') (o:Obj):Grew B v W v' (W'.alloc o):=⟨h.sv.below (belNew W' o) h.sv.size,h.to⟩
theorem Grew.step {B:Nat} {v v' v'':Value} {W W' W'':World} (h:Grew B v W v' W') (hg:(v''.ownBlock=v'.ownBlock/\W'.grownBy W'' v'.ownBlock)\/(v''.ownBlock=some W'.heap.size/\W'.grownBy W'' none)):Grew B v W v'' W'':=by
 refine ⟨h.sv.grown (grown_row hg) fun k hk=>?_,?_⟩
 ·rcases h.to with e | ⟨k',e,hk'⟩
  ·exact Or.inr (by rw [← e]; exact hk)
  ·rw [e] at hk
   injection hk with hk
   exact Or.inl (by omega)
 ·rcases hg with ⟨e,_⟩ | ⟨e,_⟩
  ·rw [e]; exact h.to
  ·exact Or.inr ⟨_,e,h.sv.size⟩
theorem Grew.trans {B:Nat} {v v' v'':Value} {W W' W'':World} (h:Grew B v W v' W') (h':Grew B v' W' v'' W''):Grew B v W v'' W'':=by
 refine ⟨⟨h'.sv.os.trans h.sv.os,h'.sv.tape.trans h.sv.tape,h'.sv.output.trans h.sv.output,Nat.le_trans h.sv.size h'.sv.size,fun k hk hG=>?_⟩,?_⟩
 ·rw [h'.sv.block k (Nat.lt_of_lt_of_le hk h.sv.size) ?_,h.sv.block k hk hG]
  intro e
  rcases h.to with e1 | ⟨k',e1,hk'⟩
  ·exact hG (by rw [← e1]; exact e)
  ·rw [e1] at e
   injection e with e
   omega
 ·rcases h'.to with e | ⟨k,e,hk⟩
  ·rw [e]; exact h.to
  ·exact Or.inr ⟨k,e,Nat.le_trans h.sv.size hk⟩
set_option maxRecDepth 20000 in
set_option maxHeartbeats 400000 in
theorem with_any (n k m B:Nat) (p:Nat->Nat) (v:Value) (V:World) (hn:n < 18446744073709551616) (hk:k<=8) (hv:V.ownsRow B 5 1 v m (bytesL m p)) (hB:B<=V.heap.size) (hm:m<=100000000) (hp:∀ j,j < k->p (m+j)=numF n k j) :
  Calls Tryz.prog 54 #[v,.int .u64 n,.int .i64 k] V fun e w'=>∃ r,e=.returned r/\w'.ownsRow B 5 1 r (m+k) (bytesL (m+k) p)/\Grew B v V r w':=by
 have HN:Hid (n < 18446744073709551616/\k<=8/\m<=100000000/\B<=V.heap.size/\V.ownsRow B 5 1 v m (bytesL m p)/\∀ j,j < k->p (m+j)=numF n k j):=⟨hn,hk,hm,hB,hv,hp⟩
 have lk:(k:Int)<=8:=by omega
 have ln:(n:Int) < 18446744073709551616:=by omega
 clear hn hk hv hB hm hp
 go_enter Tryz.func54,Tryz.ntmps54
 go_wp2_with fail
 go_loopw [0,7] (fun u x W=>∃ j:Nat,j<=k/\x=.int .i64 ((k:Int) - 1 - j)/\W.ownsRow B 5 1 u (m+j) (bytesL (m+j) p)/\Grew B v V u W) (fun u _ _=>m+k - lenV u)
 case atStart=>exact ⟨0,Nat.zero_le _,by go_num,HN.out.2.2.2.2.1,Grew.refl _ _ _⟩
 case round=>
  obtain ⟨j,hj,rfl,own,gr⟩:=hrel
  obtain ⟨ao,cp,rfl⟩:=own_shapeJ own
  by_cases hlt:j < k
  ·obtain ⟨i,hi⟩:∃ i:Nat,k - 1 - j=i:=⟨_,rfl⟩
   have e1:(k:Int) - 1 - j=i:=by omega
   rw [e1]
   have i1:(i:Int) ≥ 0:=by omega
   have i2:(i:Int)<=7:=by omega
   have HK:Hid (j < k/\k - 1 - j=i):=⟨hlt,hi⟩
   have OW:Hid (_):=own
   have GR:Hid (Grew B v V _ wr):=gr
   clear own gr hj hlt hi e1
   have EQ:Hid ((n:Int) / 2 ^ (8 * i) % 256=(p (m+j):Nat)):=by
    show (n:Int) / 2 ^ (8 * i) % 256=(p (m+j):Nat)
    rw [HN.out.2.2.2.2.2 j HK.out.1]
    unfold numF
    rw [HK.out.2,show (256:Nat) ^ i=2 ^ (8 * i) by rw [show (256:Nat)=2 ^ 8 from rfl,← Nat.pow_mul]]
    simp
   go_wp2_with (refine atAppB (.tmp 14) (.tmp 20) rfl ?_; go_must (rw [EQ.out]; refine wpList_appP (B:=B) (n:=m+j) (g:=wr.heap.size) (p:=p) rfl (.tmp 14) (.tmp 20) rfl rfl rfl (ownsRow_below OW.out (belNew wr _)) (heapNew wr _) (by have:=HK.out; have:=HN.out; omega) (by have:=GR.out.sv.size; have:=HN.out.2.2.2.1; simp; omega) ?_; intro u2 W2 own2 g2; have G2:Hid (_):=(GR.out.new (.cells #[.int .u8 (p (m+j):Nat)] 5)).step g2; obtain ⟨a2,c2,rfl⟩:=own_shapeJ own2; clear g2))
   go_roundw
   case rel=>exact ⟨j+1,by have:=HK.out; omega,by have:=HK.out; have:=HN.out; go_num,own2,G2.out⟩
   case measure=>have:=HK.out; show m+k - (m+j+1) < m+k - (m+j); omega
  ·have ek:j=k:=by omega
   subst ek
   rw [show ((j:Int) - 1 - j)=-1 by omega]
   have OW:Hid (_):=own
   have GR:Hid (Grew B v V _ wr):=gr
   clear own gr
   go_wp2
   go_ret
   exact ⟨_,rfl,OW.out,GR.out⟩
set_option maxRecDepth 20000 in
set_option maxHeartbeats 400000 in
theorem sound_any (rd ep lf:Int) (V:World):Calls Tryz.prog 33 #[.agg (hC rd ep lf)] V fun e w'=>e=.returned (.bool (hdOk rd ep lf))/\Below V.heap.size V w':=by
 have h1:=heapNew V (.cells (hC rd ep lf) 52)
 have c0:(V.alloc (.cells (hC rd ep lf) 52)).cell? ⟨V.heap.size,0,none⟩=some (.int .i64 rd):=by rw [cell_of_row _ _ _ _ _ _ h1]; rfl
 have c1:(V.alloc (.cells (hC rd ep lf) 52)).cell? ⟨V.heap.size,1,none⟩=some (.int .i64 ep):=by rw [cell_of_row _ _ _ _ _ _ h1]; rfl
 have c2:(V.alloc (.cells (hC rd ep lf) 52)).cell? ⟨V.heap.size,2,none⟩=some (.int .i64 lf):=by rw [cell_of_row _ _ _ _ _ _ h1]; rfl
 clear h1
 go_enter Tryz.func33,Tryz.ntmps33
 have HO:Hid (hdOk rd ep lf=true ↔ 0<=lf/\lf<=8/\0<=rd/\rd<=4611686018427387903/\0<=ep/\ep<=4611686018427387904):=by
  show hdOk rd ep lf=true ↔ 0<=lf/\lf<=8/\0<=rd/\rd<=4611686018427387903/\0<=ep/\ep<=4611686018427387904
  unfold hdOk
  simp
  omega
 go_wp2
 all_goals
  go_ret
  refine ⟨?_,belNew _ _⟩
  show Ending.returned (Value.bool _)=_
  refine congrArg (fun b=>Ending.returned (Value.bool b)) ?_
  rw [Bool.eq_iff_iff,HO.out]
  simp
  try omega
end Go.Proofs.YtjckkdjldnobmaaGreatDoor.Frm
