import Derived.Test.YtjckkdjldnobmaaGreatDoorD2c
namespace Go.Proofs.YtjckkdjldnobmaaGreatDoor.Frm
open Go.RowKit Gf8 Aes By8 Cel
/- A Feed's small functions that write. -/
section
variable {o:Oper} {a:Act} {w:World}
theorem slicePartH (F n:Nat) (h2:n<=320) (W:World):(Instr.sliceAt 98 (.pointer (some ⟨F,1,none⟩)) none (some (.int .i64 (n:Int))) none).run Tryz.prog W=.ok (.slice (some ⟨F,1,none⟩) n 320) W:=by
 have a2:(n:Int)<=320:=by omega
 simp [go_sem,a2]
end
def emV (F:Nat) (s:FSt) (j:Nat):Value:=
 match j with
 | 0=>.pointer (some ⟨F,0,none⟩) | 1=>.pointer (some ⟨F,0,none⟩) | 2=>.pointer (some ⟨F,1,none⟩)
 | 3=>.pointer (some ⟨F,0,none⟩) | 4=>.pointer (some ⟨F,0,none⟩) | 5=>.pointer (some ⟨F,321,none⟩) | 6=>.int .i64 (s.hv:Int)
 | 7=>.slice (some ⟨F,1,none⟩) s.hv 320 | _=>undef
def emptyS (s:FSt):FSt:={ s with part:=spl s.part 0 s.hv fun _=>0,hv:=0 }
set_option maxRecDepth 20000 in
set_option maxHeartbeats 1000000 in
theorem empty_any (F:Nat) (s:FSt) (V:World) (h:FAt F s V) (h0:0 < s.hv) (hh:s.hv<=320) :
  Calls Tryz.prog 87 #[.pointer (some ⟨F,0,none⟩)] V fun e w'=>e=.returned (.tuple #[])/\FTo F (emptyS s) V w':=by
 have HB:Hid (FAt F s V/\0 < s.hv/\s.hv<=320):=⟨h,h0,hh⟩
 clear h h0 hh
 go_enter Tryz.func87,Tryz.ntmps87
 go_wp2_with fail
 refine wp_region_det 13 [(0,2),(1,3),(2,4),(3,5),(4,6),(5,7),(6,8),(7,9)] (emV F s) (fun l W=>∃ q,FTo F { s with part:=q } V W/\(l 8=false->q=s.part)/\(l 8=true->q=spl s.part 0 s.hv fun _=>0)) (by kernel_rfl) (by kernel_rfl) rfl (by kernel_rfl) (by decide) (by decide) ?_ ?_ ?_
 ·exact ⟨s.part,(FTo.refl HB.out.1).on ((Below.refl _ _).drew),fun _=>rfl,fun q=>by cases q⟩
 ·intro j hj l a W hl hf hdep hl2 hcl _ hT
  obtain ⟨_,h0,hh⟩:=HB.out
  have hT':=hT
  obtain ⟨q,ft,q1,q2⟩:=hT'
  match j,hj with
  | 0,_=>exact stepV rfl rfl (execMvB rfl (hf 0 (by decide))) ⟨⟨_,rfl,rfl⟩,hT⟩
  | 1,_=>exact stepV rfl rfl (execNil rfl (hdep _ rfl 0 rfl _ rfl _ rfl)) ⟨⟨_,rfl,rfl⟩,hT⟩
  | 2,_=>exact stepV rfl rfl (execFld (k:=1) (by decide) rfl (hdep _ rfl 1 rfl _ rfl _ rfl)) ⟨⟨_,rfl,rfl⟩,hT⟩
  | 3,_=>exact stepV rfl rfl (execMvB rfl (hf 0 (by decide))) ⟨⟨_,rfl,rfl⟩,hT⟩
  | 4,_=>exact stepV rfl rfl (execNil rfl (hdep _ rfl 3 rfl _ rfl _ rfl)) ⟨⟨_,rfl,rfl⟩,hT⟩
  | 5,_=>exact stepV rfl rfl (execFld (k:=2) (by decide) rfl (hdep _ rfl 4 rfl _ rfl _ rfl)) ⟨⟨_,rfl,rfl⟩,hT⟩
  | 6,_=>exact stepV rfl rfl (execLdI rfl (hdep _ rfl 5 rfl _ rfl _ rfl) ft.at'.hv) ⟨⟨_,rfl,rfl⟩,hT⟩
  | 7,_=>exact stepV rfl rfl (execSlH rfl (hdep _ rfl 2 rfl _ rfl _ rfl) (hdep _ rfl 6 rfl _ rfl _ rfl) (slicePartH F s.hv hh W)) ⟨⟨_,rfl,rfl⟩,hT⟩
  | 8,_=>
   have e:=q1 hl
   subst e
   exact stepV rfl rfl (execClearP rfl (hdep _ rfl 7 rfl _ rfl _ rfl) ft.at' h0 hh) ⟨⟨_,rfl,rfl⟩,⟨_,ft.set _,(fun q=>by cases q),fun _=>rfl⟩⟩
  | n+9,h=>exact absurd h (by simp)
 ·intro l W hall hT
  obtain ⟨q,ft,_,q2⟩:=hT
  have e:=q2 (hall 8 (by simp))
  subst e
  have FT:Hid (FTo F { s with part:=spl s.part 0 s.hv fun _=>0 } V W):=ft
  clear hall ft q2 HB
  simp only [putP,emV,Act.put,List.setIfInBounds_toArray,List.set_cons_succ,List.set_cons_zero]
  go_wp2_with (first
   | (refine atStore 3 (.tmp 12) (.const (.int .i64 0)) rfl ?_; go_must (refine wpList_exS rfl (execStV (c':=fC (emptyS s)) rfl rfl rfl FT.out.at'.row (by rw [fC_size]; decide) (by kernel_rfl) rfl (fC_set (j:=0) (by decide) rfl rfl rfl)) ?_)))
  go_end0
  exact ⟨rfl,FT.out.set _⟩
set_option maxRecDepth 20000 in
set_option maxHeartbeats 1000000 in
theorem refuse_any (F:Nat) (s:FSt) (V:World) (h:FAt F s V) (g:Rules V) (hf:s.f < 10) (h0:0 < s.hv) (hh:s.hv<=320) :
  Calls Tryz.prog 62 #[.pointer (some ⟨F,0,none⟩)] V fun e w'=>e=.returned (.tuple #[])/\FTo F (emptyS { s with ft:=flt s.f }) V w':=by
 have HB:Hid (FAt F s V/\0 < s.hv/\s.hv<=320):=⟨h,h0,hh⟩
 have c0:=h.c0
 have c2:=g.ft _ hf
 have FT:Hid (FTo F { s with ft:=flt s.f } V (V.setRow F (fC { s with ft:=flt s.f }))):=(FTo.refl h).set _
 have i1:(s.f:Int) < 10:=by omega
 clear h h0 hh g hf
 go_enter Tryz.func62,Tryz.ntmps62
 go_wp2_with (first
  | (refine atStore 30 (.tmp 11) (.tmp 9) rfl ?_; go_must (refine wpList_exS rfl (execStV (c':=fC { s with ft:=flt s.f }) rfl rfl rfl HB.out.1.row (by rw [fC_size]; decide) (by kernel_rfl) rfl (fC_set (j:=8) (by decide) rfl rfl rfl)) ?_))
  | (go_at_call 87; refine (empty_any F _ _ FT.out.at' HB.out.2.1 HB.out.2.2).mono ?_; rintro e w1 ⟨rfl,f1⟩))
 go_end0
 exact ⟨rfl,FT.out.trans f1⟩
def noteS (s:FSt) (n:Nat):FSt:=if s.f=2 then { s with lf:=n } else if s.f=3 then { s with cl:=n } else if s.f=4 then { s with rd:=n } else if s.f=5 then { s with ep:=n } else s
set_option maxRecDepth 20000 in
set_option maxHeartbeats 1000000 in
theorem note_any (F:Nat) (s:FSt) (V:World) (h:FAt F s V) (hf:s.f < 10) (hn:s.hv<=8) (hb:∀ j,j < s.hv->s.part j < 256) (hl:nb s.part s.hv < 9223372036854775808\/s.f < 2\/5 < s.f) :
  Calls Tryz.prog 63 #[.pointer (some ⟨F,0,none⟩)] V fun e w'=>e=.returned (.tuple #[])/\FTo F (noteS s (nb s.part s.hv)) V w':=by
 have HB:Hid (FAt F s V/\s.hv<=8/\(∀ j,j < s.hv->s.part j < 256)):=⟨h,hn,hb⟩
 obtain ⟨N,hN⟩:∃ N,nb s.part s.hv=N:=⟨_,rfl⟩
 rw [hN] at hl ⊢
 have HN:Hid (nb s.part s.hv=N):=hN
 have HF:Hid (s.f < 10):=hf
 clear h hn hb hN
 by_cases e2:s.f=2
 ·skip
  have i1:(s.f:Int)=2:=by omega
  have i2:(N:Int) < 9223372036854775808:=by omega
  unfold noteS
  rw [if_pos (by omega)]
  clear hf hl e2
  go_enter Tryz.func63,Tryz.ntmps63
  go_wp2_with (first
   | (go_at_call 86; refine (fnumber_any F s _ HB.out.1 HB.out.2.1 HB.out.2.2).mono ?_; rintro e w1 ⟨rfl,b1⟩; rw [HN.out]; have f1:=(FTo.refl HB.out.1).on b1; have c0:=f1.at'.c0; rw [i1] at c0; have F1:Hid (_):=f1; clear f1 b1)
   | (refine atStore 3 (.tmp 16) (.tmp 13) rfl ?_; go_must (refine wpList_exS rfl (execStV (c':=fC { s with lf:=(N:Int) }) rfl rfl rfl F1.out.at'.row (by rw [fC_size]; decide) (by kernel_rfl) rfl (fC_set (j:=6) (by decide) rfl rfl rfl)) ?_)))
  go_end0
  exact ⟨rfl,F1.out.set _⟩
 by_cases e3:s.f=3
 ·skip
  have i1:(s.f:Int)=3:=by omega
  have i2:(N:Int) < 9223372036854775808:=by omega
  unfold noteS
  rw [if_neg (by omega),if_pos (by omega)]
  clear hf hl e2 e3
  go_enter Tryz.func63,Tryz.ntmps63
  go_wp2_with (first
   | (go_at_call 86; refine (fnumber_any F s _ HB.out.1 HB.out.2.1 HB.out.2.2).mono ?_; rintro e w1 ⟨rfl,b1⟩; rw [HN.out]; have f1:=(FTo.refl HB.out.1).on b1; have c0:=f1.at'.c0; rw [i1] at c0; have F1:Hid (_):=f1; clear f1 b1)
   | (refine atStore 3 (.tmp 23) (.tmp 21) rfl ?_; go_must (refine wpList_exS rfl (execStV (c':=fC { s with cl:=(N:Int) }) rfl rfl rfl F1.out.at'.row (by rw [fC_size]; decide) (by kernel_rfl) rfl (fC_set (j:=7) (by decide) rfl rfl rfl)) ?_)))
  go_end0
  exact ⟨rfl,F1.out.set _⟩
 by_cases e4:s.f=4
 ·skip
  have i1:(s.f:Int)=4:=by omega
  have i2:(N:Int) < 9223372036854775808:=by omega
  unfold noteS
  rw [if_neg (by omega),if_neg (by omega),if_pos (by omega)]
  clear hf hl e2 e3 e4
  go_enter Tryz.func63,Tryz.ntmps63
  go_wp2_with (first
   | (go_at_call 86; refine (fnumber_any F s _ HB.out.1 HB.out.2.1 HB.out.2.2).mono ?_; rintro e w1 ⟨rfl,b1⟩; rw [HN.out]; have f1:=(FTo.refl HB.out.1).on b1; have c0:=f1.at'.c0; rw [i1] at c0; have F1:Hid (_):=f1; clear f1 b1)
   | (refine atStore 2 (.tmp 31) (.tmp 28) rfl ?_; go_must (refine wpList_exS rfl (execStV (c':=fC { s with rd:=(N:Int) }) rfl rfl rfl F1.out.at'.row (by rw [fC_size]; decide) (by kernel_rfl) rfl (fC_set (j:=4) (by decide) rfl rfl rfl)) ?_)))
  go_end0
  exact ⟨rfl,F1.out.set _⟩
 by_cases e5:s.f=5
 ·skip
  have i1:(s.f:Int)=5:=by omega
  have i2:(N:Int) < 9223372036854775808:=by omega
  unfold noteS
  rw [if_neg (by omega),if_neg (by omega),if_neg (by omega),if_pos (by omega)]
  clear hf hl e2 e3 e4 e5
  go_enter Tryz.func63,Tryz.ntmps63
  go_wp2_with (first
   | (go_at_call 86; refine (fnumber_any F s _ HB.out.1 HB.out.2.1 HB.out.2.2).mono ?_; rintro e w1 ⟨rfl,b1⟩; rw [HN.out]; have f1:=(FTo.refl HB.out.1).on b1; have c0:=f1.at'.c0; rw [i1] at c0; have F1:Hid (_):=f1; clear f1 b1)
   | (refine atStore 2 (.tmp 39) (.tmp 36) rfl ?_; go_must (refine wpList_exS rfl (execStV (c':=fC { s with ep:=(N:Int) }) rfl rfl rfl F1.out.at'.row (by rw [fC_size]; decide) (by kernel_rfl) rfl (fC_set (j:=5) (by decide) rfl rfl rfl)) ?_)))
  go_end0
  exact ⟨rfl,F1.out.set _⟩
 unfold noteS
 rw [if_neg e2,if_neg e3,if_neg e4,if_neg e5]
 have i2:¬ (s.f:Int)=2:=by omega
 have i3:¬ (s.f:Int)=3:=by omega
 have i4:¬ (s.f:Int)=4:=by omega
 have i5:¬ (s.f:Int)=5:=by omega
 clear hf hl e2 e3 e4 e5
 go_enter Tryz.func63,Tryz.ntmps63
 go_wp2_with (first
  | (go_at_call 86; refine (fnumber_any F s _ HB.out.1 HB.out.2.1 HB.out.2.2).mono ?_; rintro e w1 ⟨rfl,b1⟩; rw [HN.out]; have f1:=(FTo.refl HB.out.1).on b1; have c0:=f1.at'.c0; have F1:Hid (_):=f1; clear f1 b1))
 go_end0
 exact ⟨rfl,F1.out⟩
end Go.Proofs.YtjckkdjldnobmaaGreatDoor.Frm

namespace Go.Proofs.YtjckkdjldnobmaaGreatDoor.Frm
open Go.RowKit Gf8 Aes By8 Cel
/- A Feed's wrong, next, goOn. -/
theorem FAt.sums {F:Nat} {s:FSt} {W:World} (h:FAt F s W):W.rangeAt F 323 [.int .u32 (s.sa:Int),.int .u32 (s.sb:Int)]:=by
 intro j v hv
 match j,hv with
 | 0,hv=>exact h.sa.trans hv
 | 1,hv=>exact h.sb.trans hv
def wrongB (s:FSt):Bool:=if s.f=8 then decide (nb s.part s.hv ≠ s.sb * 65536+s.sa) else decide (nb s.part s.hv < low s.f\/high s.f < nb s.part s.hv)
set_option maxRecDepth 20000 in
set_option maxHeartbeats 1000000 in
theorem wrong_p (F:Nat) (s:FSt) (V:World) (h:FAt F s V) (g:Rules V) (hf:s.f < 10) (hn:s.hv<=8) (hb:∀ j,j < s.hv->s.part j < 256) (hsa:s.sa < 65521) (hsb:s.sb < 65521) :
  Calls Tryz.prog 61 #[.pointer (some ⟨F,0,none⟩)] V fun e w'=>e=.returned (.bool (wrongB s))/\Below V.heap.size V w':=by
 have HB:Hid (FAt F s V/\s.hv<=8/\(∀ j,j < s.hv->s.part j < 256)/\s.sa < 65521/\s.sb < 65521):=⟨h,hn,hb,hsa,hsb⟩
 have HR:Hid (Rules V/\0 < V.heap.size/\s.f < 10):=⟨g,g.sz,hf⟩
 obtain ⟨N,hN⟩:∃ N,nb s.part s.hv=N:=⟨_,rfl⟩
 have HN:Hid (nb s.part s.hv=N):=hN
 unfold wrongB
 rw [hN]
 clear h hn hb hN hsa hsb g
 by_cases e8:s.f=8
 ·have i1:(s.f:Int)=8:=by omega
  rw [if_pos e8]
  clear e8 hf
  go_enter Tryz.func61,Tryz.ntmps61
  go_wp2_with (first
   | (go_at_call 86; refine (fnumber_any F s _ HB.out.1 HB.out.2.1 HB.out.2.2.1).mono ?_; rintro e w1 ⟨rfl,b1⟩; rw [HN.out]; have f1:=HB.out.1.on b1; have c0:=f1.c0; rw [i1] at c0; have F1:Hid (FAt F s w1/\Below V.heap.size V w1):=⟨f1,b1⟩; clear f1 b1)
   | (refine atLoad 101 (.tmp 14) rfl ?_; go_must (refine wpList_ex rfl (execLoadMid rfl rfl F1.out.1.sums Tryz.underlying101 rfl (by kernel_rfl)) ?_; simp only [Act.put,List.setIfInBounds_toArray,List.set_cons_succ,List.set_cons_zero]))
   | (go_at_call 57; refine (snumber_any s.sa s.sb _ HB.out.2.2.2.1 HB.out.2.2.2.2).mono ?_; rintro e w2 ⟨rfl,b2⟩))
  go_ret
  refine ⟨?_,F1.out.2.trans (b2.mono F1.out.2.size)⟩
  show Ending.returned (Value.bool ((N:Int) != (s.sb:Int) * 65536+s.sa))=_
  congr 2
  rw [Bool.eq_iff_iff]
  simp
  omega
 ·rw [if_neg e8]
  have i1:¬ (s.f:Int)=8:=by omega
  have i0:(s.f:Int) < 10:=by omega
  clear hf e8
  obtain ⟨f,ef⟩:∃ f,s.f=f:=⟨_,rfl⟩
  rw [ef] at i1 i0 HR ⊢
  by_cases h1:N < low f
  ·have j1:(N:Int) < low f:=by omega
   rw [decide_eq_true (Or.inl h1)]
   clear h1
   go_enter Tryz.func61,Tryz.ntmps61
   go_wp2_with (first
    | (go_at_call 86; refine (fnumber_any F s _ HB.out.1 HB.out.2.1 HB.out.2.2.1).mono ?_; rintro e w1 ⟨rfl,b1⟩; rw [HN.out]; have f1:=HB.out.1.on b1; have c0:=f1.c0; rw [ef] at c0; have g1:=HR.out.1.on b1 HR.out.2.1; have c1:=g1.lo f HR.out.2.2; have F1:Hid (FAt F s w1/\Below V.heap.size V w1):=⟨f1,b1⟩; clear f1 b1 g1))
   go_ret
   exact ⟨rfl,F1.out.2⟩
  ·have j1:¬ (N:Int) < low f:=by omega
   by_cases h2:high f < N
   ·have j2:(N:Int) > high f:=by omega
    rw [decide_eq_true (Or.inr h2)]
    clear h1 h2
    go_enter Tryz.func61,Tryz.ntmps61
    go_wp2_with (first
     | (go_at_call 86; refine (fnumber_any F s _ HB.out.1 HB.out.2.1 HB.out.2.2.1).mono ?_; rintro e w1 ⟨rfl,b1⟩; rw [HN.out]; have f1:=HB.out.1.on b1; have c0:=f1.c0; rw [ef] at c0; have g1:=HR.out.1.on b1 HR.out.2.1; have c1:=g1.lo f HR.out.2.2; have c2:=g1.hi f HR.out.2.2; have F1:Hid (FAt F s w1/\Below V.heap.size V w1):=⟨f1,b1⟩; clear f1 b1 g1))
    go_ret
    exact ⟨rfl,F1.out.2⟩
   ·have j2:¬ (N:Int) > high f:=by omega
    rw [decide_eq_false (fun q=>q.elim h1 h2)]
    have H12:Hid (¬ N < low f/\¬ high f < N):=⟨h1,h2⟩
    clear h1 h2
    go_enter Tryz.func61,Tryz.ntmps61
    go_wp2_with (first
     | (go_at_call 86; refine (fnumber_any F s _ HB.out.1 HB.out.2.1 HB.out.2.2.1).mono ?_; rintro e w1 ⟨rfl,b1⟩; rw [HN.out]; have f1:=HB.out.1.on b1; have c0:=f1.c0; rw [ef] at c0; have g1:=HR.out.1.on b1 HR.out.2.1; have c1:=g1.lo f HR.out.2.2; have c2:=g1.hi f HR.out.2.2; have F1:Hid (FAt F s w1/\Below V.heap.size V w1):=⟨f1,b1⟩; clear f1 b1 g1))
    go_ret
    refine ⟨?_,F1.out.2⟩
    show Ending.returned (Value.bool (decide (N < low f) || decide (high f < N)))=_
    rw [decide_eq_false H12.out.1,decide_eq_false H12.out.2]
    rfl
set_option maxRecDepth 20000 in
set_option maxHeartbeats 1000000 in
theorem next_any (F:Nat) (s:FSt) (V:World) (h:FAt F s V) (hf:s.f < 10) (n:Nat) (hc:s.cl=n\/(s.f ≠ 5/\s.f ≠ 7)) :
  Calls Tryz.prog 88 #[.pointer (some ⟨F,0,none⟩)] V fun e w'=>e=.returned (.int .i64 (nextF s.f n:Nat))/\w'=V:=by
 have c0:=h.c0
 have c1:=h.cl
 obtain ⟨f,ef⟩:∃ f,s.f=f:=⟨_,rfl⟩
 rw [ef] at c0 hc hf ⊢
 unfold nextF
 clear h
 by_cases e5:f=5
 ·have i5:(f:Int)=5:=by omega
  rw [if_neg (by omega)]
  have ec:s.cl=n:=hc.resolve_right (by omega)
  rw [ec] at c1
  rw [i5] at c0
  clear hc ec
  by_cases h0:0 < n
  ·have i0:(n:Int) > 0:=by omega
   rw [if_pos h0]
   clear h0
   go_enter Tryz.func88,Tryz.ntmps88
   go_wp2
   go_ret
   exact ⟨rfl,rfl⟩
  ·have i0:¬ (n:Int) > 0:=by omega
   rw [if_neg h0]
   clear h0
   go_enter Tryz.func88,Tryz.ntmps88
   go_wp2
   go_ret
   exact ⟨rfl,rfl⟩
 ·by_cases e7:f=7
  ·have i7:(f:Int)=7:=by omega
   rw [if_neg (by omega)]
   have ec:s.cl=n:=hc.resolve_right (by omega)
   rw [ec] at c1
   rw [i7] at c0
   clear hc ec e5
   by_cases h0:0 < n
   ·have i0:(n:Int) > 0:=by omega
    rw [if_pos h0]
    clear h0
    go_enter Tryz.func88,Tryz.ntmps88
    go_wp2
    go_ret
    exact ⟨rfl,rfl⟩
   ·have i0:¬ (n:Int) > 0:=by omega
    rw [if_neg h0]
    clear h0
    go_enter Tryz.func88,Tryz.ntmps88
    go_wp2
    go_ret
    exact ⟨rfl,rfl⟩
  ·have i5:¬ (f:Int)=5:=by omega
   have i7:¬ (f:Int)=7:=by omega
   have i8:(f:Int) < 10:=by omega
   have k5:((f:Int) != 5)=true:=by simpa using i5
   have k7:((f:Int) != 7)=true:=by simpa using i7
   rw [if_pos ⟨e5,e7⟩]
   clear hc e5 e7
   go_enter Tryz.func88,Tryz.ntmps88
   go_wp2
   go_ret
   exact ⟨rfl,rfl⟩
end Go.Proofs.YtjckkdjldnobmaaGreatDoor.Frm

namespace Go.Proofs.YtjckkdjldnobmaaGreatDoor.Frm
open Go.RowKit Gf8 Aes By8 Cel
/- A Feed's goOn. -/
theorem fC_sums (s:FSt) (a b:Nat):((fC s).toList.take 323 ++ [Value.int .u32 (a:Int),Value.int .u32 (b:Int)] ++ (fC s).toList.drop 325).toArray=fC { s with sa:=a,sb:=b }:=by
 have l1:(List.take 323 (fC s).toList).length=323:=by rw [List.length_take,Array.length_toList,fC_size]; omega
 have e9:=fT_len s
 refine fC_ext ?_ ?_ ?_ ?_
 ·have l2:(fC s).toList.length=330:=by rw [Array.length_toList,fC_size]
  have l3:(List.drop 325 (fC s).toList).length=5:=by rw [List.length_drop,l2]
  have l4:[Value.int .u32 (a:Int),Value.int .u32 (b:Int)].length=2:=rfl
  rw [List.size_toArray,List.length_append,List.length_append,l1,l3,l4]
 ·rw [List.getElem?_toArray,List.append_assoc,List.getElem?_append_left (by omega),List.getElem?_take,if_pos (by omega),Array.getElem?_toList,fC_0]
 ·intro i hi
  rw [List.getElem?_toArray,List.append_assoc,List.getElem?_append_left (by omega),List.getElem?_take,if_pos (by omega),Array.getElem?_toList,fC_p s hi]
 ·intro i hi
  rw [List.getElem?_toArray,List.append_assoc]
  by_cases h2:i < 2
  ·rw [List.getElem?_append_left (by omega),List.getElem?_take,if_pos (by omega),Array.getElem?_toList,fC_t]
   match i,h2 with
   | 0,_=>rfl
   | 1,_=>rfl
  ·rw [List.getElem?_append_right (by omega),l1]
   by_cases h4:i < 4
   ·rw [List.getElem?_append_left (by simp; omega)]
    match i,h2,h4 with
    | 2,_,_=>rfl
    | 3,_,_=>rfl
   ·rw [List.getElem?_append_right (by simp; omega),List.getElem?_drop,Array.getElem?_toList,show 325+(321+i - 323 - [Value.int .u32 (a:Int),Value.int .u32 (b:Int)].length)=321+i by simp; omega,fC_t]
    match i,h4,hi with
    | 4,_,_=>rfl
    | 5,_,_=>rfl
    | 6,_,_=>rfl
    | 7,_,_=>rfl
    | 8,_,_=>rfl
section
variable {o:Oper} {a:Act} {w:World}
theorem execLdSm {x:Operand} {F:Nat} {s:FSt} (ho:o.op=.load 101 x) (hx:a.eval x=.pointer (some ⟨F,323,none⟩)) (h:FAt F s w):(execOp a.eval o).run Tryz.prog w=.ok (.value (smV s.sa s.sb)) w:=
 execLoadMid ho hx h.sums Tryz.underlying101 rfl (by kernel_rfl)
set_option maxRecDepth 8000 in
theorem execStSm {x y:Operand} {F:Nat} {s:FSt} {b c:Nat} (ho:o.op=.store 101 x y) (hx:a.eval x=.pointer (some ⟨F,323,none⟩)) (hy:a.eval y=smV b c) (h:FAt F s w):(execOp a.eval o).run Tryz.prog w=.ok .skip (w.setRow F (fC { s with sa:=b,sb:=c })):=by
 have:=execStMid (P:=Tryz.prog) (t:=103) ho hx hy h.row (by rw [fC_size]; show 323+2<=330; decide) (by kernel_rfl) (by simp [Value.oneCell'])
 rw [← fC_sums s b c]
 exact this
theorem execStI {x y:Operand} {F:Nat} {s:FSt} {v:Nat} (ho:o.op=.store 3 x y) (hx:a.eval x=.pointer (some ⟨F,322,none⟩)) (hy:a.eval y=.int .i64 (v:Int)) (h:FAt F s w):(execOp a.eval o).run Tryz.prog w=.ok .skip (w.setRow F (fC { s with pl:=v })):=
 execStV ho hx hy h.row (by rw [fC_size]; decide) (by kernel_rfl) rfl (fC_set (j:=1) (by decide) rfl rfl rfl)
end
def goV (F:Nat) (s:FSt) (q:Nat->Nat) (j:Nat):Value:=
 match j with
 | 0=>.pointer (some ⟨F,0,none⟩) | 1=>.pointer (some ⟨F,0,none⟩) | 2=>.pointer (some ⟨F,0,none⟩) | 3=>.pointer (some ⟨F,323,none⟩) | 4=>smV s.sa s.sb
 | 5=>.pointer (some ⟨F,0,none⟩) | 6=>.pointer (some ⟨F,0,none⟩) | 7=>.pointer (some ⟨F,1,none⟩) | 8=>.pointer (some ⟨F,0,none⟩) | 9=>.pointer (some ⟨F,0,none⟩) | 10=>.pointer (some ⟨F,321,none⟩)
 | 11=>.int .i64 (s.hv:Int) | 12=>.slice (some ⟨F,1,none⟩) s.hv 320 | 13=>smV (adl q (s.pl+s.hv)).1 (adl q (s.pl+s.hv)).2 | 14=>.pointer (some ⟨F,0,none⟩) | 15=>.pointer (some ⟨F,323,none⟩) | _=>undef
def goW (F:Nat) (s:FSt) (j:Nat):Value:=
 match j with
 | 0=>.pointer (some ⟨F,0,none⟩) | 1=>.pointer (some ⟨F,0,none⟩) | 2=>.pointer (some ⟨F,322,none⟩) | 3=>.int .i64 (s.pl:Int)
 | 4=>.pointer (some ⟨F,0,none⟩) | 5=>.pointer (some ⟨F,0,none⟩) | 6=>.pointer (some ⟨F,321,none⟩) | 7=>.int .i64 (s.hv:Int) | 8=>.int .i64 ((s.pl+s.hv:Nat):Int)
 | 9=>.pointer (some ⟨F,0,none⟩) | 10=>.pointer (some ⟨F,322,none⟩) | _=>undef
def goS (s:FSt) (q:Nat->Nat) (n:Nat):FSt:={ emptyS { s with sa:=(adl q (s.pl+s.hv)).1,sb:=(adl q (s.pl+s.hv)).2,pl:=s.pl+s.hv } with f:=nextF s.f n }
set_option maxRecDepth 20000 in
set_option maxHeartbeats 1000000 in
theorem goOn_any (F:Nat) (s:FSt) (q:Nat->Nat) (n:Nat) (V:World) (h:FAt F s V) (hf:s.f < 10) (h0:0 < s.hv) (hh:s.hv<=320) (hpl:s.pl<=140737488351232) (hc:s.cl=n\/(s.f ≠ 5/\s.f ≠ 7)) (hsa:s.sa=(adl q s.pl).1) (hsb:s.sb=(adl q s.pl).2) (hp:∀ j,j < s.hv->s.part j=q (s.pl+j)) (hb:∀ j,j < s.hv->q (s.pl+j) < 256) :
  Calls Tryz.prog 64 #[.pointer (some ⟨F,0,none⟩)] V fun e w'=>e=.returned (.tuple #[])/\FTo F (goS s q n) V w':=by
 have HB:Hid (FAt F s V/\0 < s.hv/\s.hv<=320/\s.pl<=140737488351232/\s.f < 10/\(s.cl=n\/(s.f ≠ 5/\s.f ≠ 7))):=⟨h,h0,hh,hpl,hf,hc⟩
 have HQ:Hid (s.sa=(adl q s.pl).1/\s.sb=(adl q s.pl).2/\(∀ j,j < s.hv->s.part j=q (s.pl+j))/\∀ j,j < s.hv->q (s.pl+j) < 256):=⟨hsa,hsb,hp,hb⟩
 clear h h0 hh hpl hf hc hsa hsb hp hb
 go_enter Tryz.func64,Tryz.ntmps64
 go_wp2_with fail
 refine wp_region_det 36 [(0,2),(1,3),(2,4),(3,5),(4,6),(5,7),(6,8),(7,9),(8,10),(9,11),(10,12),(11,13),(12,14),(13,15),(14,16),(15,17)] (goV F s q) (fun l W=>∃ x y,FTo F { s with sa:=x,sb:=y } V W/\(l 16=false->x=s.sa/\y=s.sb)/\(l 16=true->x=(adl q (s.pl+s.hv)).1/\y=(adl q (s.pl+s.hv)).2)) (by kernel_rfl) (by kernel_rfl) rfl (by kernel_rfl) (by decide) (by decide) ?_ ?_ ?_
 ·exact ⟨s.sa,s.sb,(FTo.refl HB.out.1).on ((Below.refl _ _).drew),fun _=>⟨rfl,rfl⟩,fun q=>by cases q⟩
 ·intro j hj l a W hl hf hdep hl2 hcl _ hT
  obtain ⟨_,h0,hh,hpl,_,_⟩:=HB.out
  obtain ⟨hsa,hsb,hp,hb⟩:=HQ.out
  have hT':=hT
  obtain ⟨x,y,ft,q1,q2⟩:=hT'
  match j,hj with
  | 0,_=>exact stepV rfl rfl (execMvB rfl (hf 0 (by decide))) ⟨⟨_,rfl,rfl⟩,hT⟩
  | 1,_=>exact stepV rfl rfl (execMvB rfl (hf 0 (by decide))) ⟨⟨_,rfl,rfl⟩,hT⟩
  | 2,_=>exact stepV rfl rfl (execNil rfl (hdep _ rfl 1 rfl _ rfl _ rfl)) ⟨⟨_,rfl,rfl⟩,hT⟩
  | 3,_=>exact stepV rfl rfl (execFld (k:=4) (by decide) rfl (hdep _ rfl 2 rfl _ rfl _ rfl)) ⟨⟨_,rfl,rfl⟩,hT⟩
  | 4,_=>
   have n16:l 16=false:=by
    cases h:l 16 with
    | false=>rfl
    | true=>
     have:=hcl 13 _ rfl (hcl 16 _ rfl h 13 rfl) 4 rfl
     rw [hl] at this
     cases this
   obtain ⟨rfl,rfl⟩:=q1 n16
   exact stepV rfl rfl (execLdSm rfl (hdep _ rfl 3 rfl _ rfl _ rfl) ft.at') ⟨⟨_,rfl,rfl⟩,hT⟩
  | 5,_=>exact stepV rfl rfl (execMvB rfl (hf 0 (by decide))) ⟨⟨_,rfl,rfl⟩,hT⟩
  | 6,_=>exact stepV rfl rfl (execNil rfl (hdep _ rfl 5 rfl _ rfl _ rfl)) ⟨⟨_,rfl,rfl⟩,hT⟩
  | 7,_=>exact stepV rfl rfl (execFld (k:=1) (by decide) rfl (hdep _ rfl 6 rfl _ rfl _ rfl)) ⟨⟨_,rfl,rfl⟩,hT⟩
  | 8,_=>exact stepV rfl rfl (execMvB rfl (hf 0 (by decide))) ⟨⟨_,rfl,rfl⟩,hT⟩
  | 9,_=>exact stepV rfl rfl (execNil rfl (hdep _ rfl 8 rfl _ rfl _ rfl)) ⟨⟨_,rfl,rfl⟩,hT⟩
  | 10,_=>exact stepV rfl rfl (execFld (k:=2) (by decide) rfl (hdep _ rfl 9 rfl _ rfl _ rfl)) ⟨⟨_,rfl,rfl⟩,hT⟩
  | 11,_=>exact stepV rfl rfl (execLdI rfl (hdep _ rfl 10 rfl _ rfl _ rfl) ft.at'.hv) ⟨⟨_,rfl,rfl⟩,hT⟩
  | 12,_=>exact stepV rfl rfl (execSlH rfl (hdep _ rfl 7 rfl _ rfl _ rfl) (hdep _ rfl 11 rfl _ rfl _ rfl) (slicePartH F s.hv hh W)) ⟨⟨_,rfl,rfl⟩,hT⟩
  | 13,_=>
   have sl:SliceN W (.slice (some ⟨F,1,none⟩) s.hv 320) s.hv fun j=>q (s.pl+j):=sliceN_cg (ft.at'.slice hh fun j hj=>by show s.part j < 256; rw [hp j hj]; exact hb j hj) hp
   have ov:=over_any q s.pl s.hv _ W sl (by omega)
   rw [← hsa,← hsb] at ov
   exact stepC rfl rfl (execCall2 Tryz.func56 (by kernel_rfl) (by kernel_rfl) rfl (hdep _ rfl 4 rfl _ rfl _ rfl) (hdep _ rfl 12 rfl _ rfl _ rfl)) ov fun e w' h=>⟨_,h.1,⟨_,rfl,rfl⟩,⟨x,y,ft.on h.2,q1,q2⟩⟩
  | 14,_=>exact stepV rfl rfl (execNil rfl (hdep _ rfl 0 rfl _ rfl _ rfl)) ⟨⟨_,rfl,rfl⟩,hT⟩
  | 15,_=>exact stepV rfl rfl (execFld (k:=4) (by decide) rfl (hdep _ rfl 14 rfl _ rfl _ rfl)) ⟨⟨_,rfl,rfl⟩,hT⟩
  | 16,_=>exact stepS rfl rfl (execStSm rfl (hdep _ rfl 15 rfl _ rfl _ rfl) (hdep _ rfl 13 rfl _ rfl _ rfl) ft.at') ⟨⟨_,rfl,rfl⟩,⟨_,_,ft.set _,(fun q=>by cases q),fun _=>⟨rfl,rfl⟩⟩⟩
  | n+17,h=>exact absurd h (by simp)
 ·intro l W hall hT
  obtain ⟨x,y,ft,_,q2⟩:=hT
  obtain ⟨rfl,rfl⟩:=q2 (hall 16 (by simp))
  obtain ⟨s1,e1⟩:∃ s1:FSt,s1={ s with sa:=(adl q (s.pl+s.hv)).1,sb:=(adl q (s.pl+s.hv)).2 }:=⟨_,rfl⟩
  have E:Hid (s1.pl=s.pl/\s1.hv=s.hv/\s1.f=s.f/\s1.cl=s.cl/\goS s q n={ emptyS { s1 with pl:=s.pl+s.hv } with f:=nextF s.f n }):=by rw [e1]; exact ⟨rfl,rfl,rfl,rfl,rfl⟩
  rw [← e1] at ft
  have FT:Hid (FTo F s1 V W):=ft
  clear hall ft q2 HQ e1
  simp only [putP,goV,Act.put,List.setIfInBounds_toArray,List.set_cons_succ,List.set_cons_zero]
  go_wp2_with fail
  refine wp_region_det 36 [(0,18),(1,19),(2,20),(3,21),(4,22),(5,23),(6,24),(7,25),(8,26),(9,27),(10,28)] (goW F s) (fun l W=>∃ x,FTo F { s1 with pl:=x } V W/\(l 11=false->x=s.pl)/\(l 11=true->x=s.pl+s.hv)) (by kernel_rfl) (by kernel_rfl) rfl (by kernel_rfl) (by decide) (by decide) ?_ ?_ ?_
  ·refine ⟨s.pl,?_,fun _=>rfl,fun q=>by cases q⟩
   have:=FT.out.on ((Below.refl _ _).drew)
   rw [← E.out.1]
   exact this
  ·intro j hj l a W hl hf hdep hl2 hcl _ hT
   obtain ⟨_,h0,hh,hpl,_,_⟩:=HB.out
   have hT':=hT
   obtain ⟨x,ft,q1,q2⟩:=hT'
   have eh:=E.out.2.1
   match j,hj with
   | 0,_=>exact stepV rfl rfl (execMvB rfl (hf 0 (by decide))) ⟨⟨_,rfl,rfl⟩,hT⟩
   | 1,_=>exact stepV rfl rfl (execNil rfl (hdep _ rfl 0 rfl _ rfl _ rfl)) ⟨⟨_,rfl,rfl⟩,hT⟩
   | 2,_=>exact stepV rfl rfl (execFld (k:=3) (by decide) rfl (hdep _ rfl 1 rfl _ rfl _ rfl)) ⟨⟨_,rfl,rfl⟩,hT⟩
   | 3,_=>
    have n16:l 11=false:=by
     cases h:l 11 with
     | false=>rfl
     | true=>
      have:=hcl 8 _ rfl (hcl 11 _ rfl h 8 rfl) 3 rfl
      rw [hl] at this
      cases this
    have e:=q1 n16
    subst e
    exact stepV rfl rfl (execLdI rfl (hdep _ rfl 2 rfl _ rfl _ rfl) ft.at'.pl) ⟨⟨_,rfl,rfl⟩,hT⟩
   | 4,_=>exact stepV rfl rfl (execMvB rfl (hf 0 (by decide))) ⟨⟨_,rfl,rfl⟩,hT⟩
   | 5,_=>exact stepV rfl rfl (execNil rfl (hdep _ rfl 4 rfl _ rfl _ rfl)) ⟨⟨_,rfl,rfl⟩,hT⟩
   | 6,_=>exact stepV rfl rfl (execFld (k:=2) (by decide) rfl (hdep _ rfl 5 rfl _ rfl _ rfl)) ⟨⟨_,rfl,rfl⟩,hT⟩
   | 7,_=>
    have c:=ft.at'.hv
    have c':W.cell? ⟨F,321,none⟩=some (.int .i64 (s.hv:Int)):=by rw [← eh]; exact c
    exact stepV rfl rfl (execLdI rfl (hdep _ rfl 6 rfl _ rfl _ rfl) c') ⟨⟨_,rfl,rfl⟩,hT⟩
   | 8,_=>exact stepV rfl rfl (execAddI rfl (hdep _ rfl 3 rfl _ rfl _ rfl) (hdep _ rfl 7 rfl _ rfl _ rfl) (by omega)) ⟨⟨_,rfl,rfl⟩,hT⟩
   | 9,_=>exact stepV rfl rfl (execNil rfl (hdep _ rfl 0 rfl _ rfl _ rfl)) ⟨⟨_,rfl,rfl⟩,hT⟩
   | 10,_=>exact stepV rfl rfl (execFld (k:=3) (by decide) rfl (hdep _ rfl 9 rfl _ rfl _ rfl)) ⟨⟨_,rfl,rfl⟩,hT⟩
   | 11,_=>exact stepS rfl rfl (execStI rfl (hdep _ rfl 10 rfl _ rfl _ rfl) (hdep _ rfl 8 rfl _ rfl _ rfl) ft.at') ⟨⟨_,rfl,rfl⟩,⟨_,ft.set _,(fun q=>by cases q),fun _=>rfl⟩⟩
   | n+12,h=>exact absurd h (by simp)
  ·intro l W' hall hT
   obtain ⟨x,ft,_,q2⟩:=hT
   have e:=q2 (hall 11 (by simp))
   subst e
   clear FT hall q2
   have F2:Hid (FTo F { s1 with pl:=s.pl+s.hv } V W'):=ft
   clear ft
   simp only [putP,goW,Act.put,List.setIfInBounds_toArray,List.set_cons_succ,List.set_cons_zero]
   go_wp2_with (first
    | (go_at_call 87; refine (empty_any F _ _ F2.out.at' (by show 0 < s1.hv; rw [E.out.2.1]; exact HB.out.2.1) (by show s1.hv<=320; rw [E.out.2.1]; exact HB.out.2.2.1)).mono ?_; rintro e w1 ⟨rfl,f1⟩; have F3:Hid (FTo F (emptyS { s1 with pl:=s.pl+s.hv }) V w1):=F2.out.trans f1; clear f1)
    | (go_at_call 88; refine (next_any F _ _ F3.out.at' (by show s1.f < 10; rw [E.out.2.2.1]; exact HB.out.2.2.2.2.1) n (by show s1.cl=n\/(s1.f ≠ 5/\s1.f ≠ 7); rw [E.out.2.2.1,E.out.2.2.2.1]; exact HB.out.2.2.2.2.2)).mono ?_; rintro e w2 ⟨rfl,rfl⟩)
    | (refine atStore 97 (.tmp 35) (.tmp 33) rfl ?_; go_must (refine wpList_exS rfl (execStV (c':=fC { emptyS { s1 with pl:=s.pl+s.hv } with f:=nextF s1.f n }) rfl rfl rfl F3.out.at'.row (by rw [fC_size]; decide) (by kernel_rfl) rfl (fC_setF _ _)) ?_)))
   go_end0
   refine ⟨rfl,?_⟩
   rw [E.out.2.2.2.2,← E.out.2.2.1]
   exact F3.out.set _
end Go.Proofs.YtjckkdjldnobmaaGreatDoor.Frm

namespace Go.Proofs.YtjckkdjldnobmaaGreatDoor.Frm
open Go.RowKit Gf8 Aes By8 Cel
/- What a Feed holds behind n bytes. -/
structure Took (q:Nat->Nat) (n k:Nat) (s:FSt):Prop where
 pos:Pos q s.f s.pl k
 lf:3<=s.f->s.lf=(q 5:Nat)
 cl:4<=s.f->s.cl=(nCells q - k:Nat)
 rd:5<=s.f->s.rd=rdN q 8 8
 ep:6<=s.f->s.ep=rdN q 16 8
 or:(s.ft=0/\s.pl+s.hv=n/\s.hv < fsz s.f/\s.sa=(adl q s.pl).1/\s.sb=(adl q s.pl).2/\∀ j,j < s.hv->s.part j=q (s.pl+j))\/(s.ft=bad q s.f s.pl/\s.ft ≠ 0/\s.pl+fsz s.f<=n)
theorem bad_ne (q:Nat->Nat) (f t:Nat):bad q f t ≠ 67/\bad q f t<=66:=by
 have h:flt f<=66:=by unfold flt; split <;> omega
 unfold bad
 split
 ·omega
 ·split
  ·split <;> omega
  ·split <;> omega
theorem Took.tells {q:Nat->Nat} {n k:Nat} {s:FSt} (h:Took q n k s) (hb:∀ j,j < n->q j < 256) :
  jK q n=k/\headOk q n=decide (6<=s.f)/\(s.ft=0->jE q n=if s.f=9 then (0,0) else (n,67))/\(s.ft ≠ 0->jE q n=(s.pl,s.ft))/\feedE q n=s.ft/\(s.ft=0->s.pl+s.hv=n):=by
 rcases h.or with ⟨h1,h2,h3,_⟩ | ⟨h1,h2,h3⟩
 ·obtain ⟨a,b,c⟩:=h.pos.short (n:=n) (by omega) (by omega)
  refine ⟨a,c,fun _=>b,fun q=>absurd h1 q,?_,fun _=>h2⟩
  unfold feedE
  rw [b,h1]
  split <;> rfl
 ·obtain ⟨a,b,c⟩:=h.pos.fault (n:=n) hb h3 (by rw [← h1]; exact h2)
  refine ⟨a,c,fun q=>absurd q h2,fun _=>by rw [b,h1],?_,fun q=>absurd q h2⟩
  unfold feedE
  rw [b]
  show (if bad q s.f s.pl=67 then 0 else bad q s.f s.pl)=_
  rw [if_neg (bad_ne _ _ _).1,h1]
theorem Took.later {q:Nat->Nat} {n k n':Nat} {s:FSt} (h:Took q n k s) (hf:s.ft ≠ 0) (hn:n<=n'):Took q n' k s:=
 ⟨h.pos,h.lf,h.cl,h.rd,h.ep,Or.inr (by
  rcases h.or with ⟨h1,_⟩ | ⟨h1,h2,h3⟩
  ·exact absurd h1 hf
  ·exact ⟨h1,h2,by omega⟩)⟩
def newS:FSt:=⟨0,fun _=>0,0,0,1,0,0,0,0,0,0⟩
theorem Took.begin (q:Nat->Nat):Took q 0 0 newS:=
 ⟨Pos.begin q,fun h=>absurd h (by decide),fun h=>absurd h (by decide),fun h=>absurd h (by decide),fun h=>absurd h (by decide),Or.inl ⟨rfl,rfl,by decide,rfl,rfl,fun j h=>absurd h (by show ¬ j < 0; omega)⟩⟩
structure Filled (q:Nat->Nat) (t k:Nat) (s s1:FSt) (c:Nat):Prop where
 f:s1.f=s.f
 pl:s1.pl=s.pl
 hv:s1.hv=s.hv+c
 sa:s1.sa=(adl q s1.pl).1
 sb:s1.sb=(adl q s1.pl).2
 part:∀ j,j < s1.hv->s1.part j=q (s1.pl+j)
 lf:s1.lf=s.lf
 cl:s1.cl=s.cl
 rd:s1.rd=s.rd
 ep:s1.ep=s.ep
 ft:s1.ft=0
 at':s1.pl+s1.hv=t+c
 le:s1.hv<=fsz s1.f
theorem Took.fill {q:Nat->Nat} {t k m:Nat} {s:FSt} (h:Took q t k s) (h0:s.ft=0):Filled q t k s (fillS s (fun j=>q (t+j)) m) (min m (fsz s.f - s.hv)):=by
 rcases h.or with ⟨_,h2,h3,h4,h5,h6⟩ | ⟨_,h2,_⟩
 ·refine ⟨rfl,rfl,rfl,h4,h5,?_,rfl,rfl,rfl,rfl,h0,?_,?_⟩
  ·intro j hj
   show spl s.part s.hv (min m (fsz s.f - s.hv)) (fun j=>q (t+j)) j=q (s.pl+j)
   have hj':j < s.hv+min m (fsz s.f - s.hv):=hj
   unfold spl
   by_cases e:j < s.hv
   ·rw [if_neg (by omega)]
    exact h6 j e
   ·rw [if_pos (by omega)]
    show q (t+(j - s.hv))=_
    rw [show t+(j - s.hv)=s.pl+j by omega]
  ·show s.pl+(s.hv+min m (fsz s.f - s.hv))=t+min m (fsz s.f - s.hv)
   omega
  ·show s.hv+min m (fsz s.f - s.hv)<=fsz s.f
   omega
 ·exact absurd h0 h2
theorem Took.wait {q:Nat->Nat} {t k c:Nat} {s s1:FSt} (h:Took q t k s) (hf:Filled q t k s s1 c) (hw:s1.hv ≠ fsz s1.f):Took q (t+c) k s1:=by
 have e:=hf.f
 have e2:=hf.pl
 refine ⟨by rw [e,e2]; exact h.pos,fun q=>?_,fun q=>?_,fun q=>?_,fun q=>?_,Or.inl ⟨hf.ft,hf.at',by have:=hf.le; omega,hf.sa,hf.sb,hf.part⟩⟩
 ·rw [hf.lf]; exact h.lf (by omega)
 ·rw [hf.cl]; exact h.cl (by omega)
 ·rw [hf.rd]; exact h.rd (by omega)
 ·rw [hf.ep]; exact h.ep (by omega)
theorem Filled.num {q:Nat->Nat} {t k c:Nat} {s s1:FSt} (hf:Filled q t k s s1 c) (hw:s1.hv=fsz s1.f):nb s1.part s1.hv=fnum q s1.f s1.pl:=by
 unfold fnum
 rw [← hw]
 exact nb_congr hf.part
theorem Filled.wrong {q:Nat->Nat} {t k c:Nat} {s s1:FSt} (hf:Filled q t k s s1 c) (hw:s1.hv=fsz s1.f) (h7:s1.f ≠ 7):wrongB s1=decide (bad q s1.f s1.pl ≠ 0):=by
 unfold wrongB bad
 rw [if_neg h7,hf.num hw,hf.sa,hf.sb]
 by_cases e:s1.f=8
 ·rw [if_pos e,if_pos e]
  by_cases g:fnum q s1.f s1.pl=(adl q s1.pl).2 * 65536+(adl q s1.pl).1
  ·rw [if_pos g,decide_eq_false (fun z=>z g),decide_eq_false (fun z=>z rfl)]
  ·rw [if_neg g,decide_eq_true g,decide_eq_true (by omega)]
 ·rw [if_neg e,if_neg e]
  by_cases g:fnum q s1.f s1.pl < low s1.f\/high s1.f < fnum q s1.f s1.pl
  ·have:flt s1.f ≠ 0:=by
    unfold flt
    split <;> first | omega | (rename_i e7; exact absurd e7 h7) | skip
   rw [if_pos g,decide_eq_true g,decide_eq_true this]
  ·rw [if_neg g,decide_eq_false g,decide_eq_false (fun z=>z rfl)]
theorem bad_flt {q:Nat->Nat} {f t:Nat} (h:bad q f t ≠ 0):bad q f t=flt f:=by
 unfold bad at h ⊢
 split at h
 ·exact absurd rfl h
 ·rename_i h7
  rw [if_neg h7]
  split at h
  ·rename_i h8
   rw [if_pos h8]
   split at h
   ·exact absurd rfl h
   ·rename_i g
    rw [if_neg g,h8]
    rfl
  ·rename_i h8
   rw [if_neg h8]
   split at h
   ·rename_i g
    rw [if_pos g]
   ·exact absurd rfl h
theorem Took.refuse {q:Nat->Nat} {t k c n:Nat} {s s1:FSt} (h:Took q t k s) (hf:Filled q t k s s1 c) (hw:s1.hv=fsz s1.f) (hb:bad q s1.f s1.pl ≠ 0) (hn:t+c<=n):Took q n k (emptyS { s1 with ft:=flt s1.f }):=by
 have e:=hf.f
 have e2:=hf.pl
 refine ⟨by show Pos q s1.f s1.pl k; rw [e,e2]; exact h.pos,fun q=>?_,fun q=>?_,fun q=>?_,fun q=>?_,Or.inr ⟨(bad_flt hb).symm,?_,?_⟩⟩
 ·show s1.lf=_; rw [hf.lf]; exact h.lf (by rw [← e]; exact q)
 ·show s1.cl=_; rw [hf.cl]; exact h.cl (by rw [← e]; exact q)
 ·show s1.rd=_; rw [hf.rd]; exact h.rd (by rw [← e]; exact q)
 ·show s1.ep=_; rw [hf.ep]; exact h.ep (by rw [← e]; exact q)
 ·show flt s1.f ≠ 0; rw [← bad_flt hb]; exact hb
 ·show s1.pl+fsz s1.f<=n; have:=hf.at'; omega
def tookS (s:FSt) (N:Nat):FSt:=if s.f=7 then { s with cl:=s.cl - 1 } else noteS s N
theorem tookS_same (s:FSt) (N:Nat):(tookS s N).f=s.f/\(tookS s N).pl=s.pl/\(tookS s N).hv=s.hv/\(tookS s N).sa=s.sa/\(tookS s N).sb=s.sb/\(tookS s N).part=s.part/\(tookS s N).ft=s.ft:=by
 unfold tookS noteS
 split
 ·exact ⟨rfl,rfl,rfl,rfl,rfl,rfl,rfl⟩
 ·split
  ·exact ⟨rfl,rfl,rfl,rfl,rfl,rfl,rfl⟩
  ·split
   ·exact ⟨rfl,rfl,rfl,rfl,rfl,rfl,rfl⟩
   ·split
    ·exact ⟨rfl,rfl,rfl,rfl,rfl,rfl,rfl⟩
    ·split <;> exact ⟨rfl,rfl,rfl,rfl,rfl,rfl,rfl⟩
theorem nextF_ge {f n g:Nat} (hg:g<=6) (h:g<=nextF f n):g<=f+1:=by
 unfold nextF at h
 split at h
 ·omega
 ·rename_i e
  omega
theorem Took.goOn {q:Nat->Nat} {t k c:Nat} {s s1:FSt} (h:Took q t k s) (hf:Filled q t k s s1 c) (hw:s1.hv=fsz s1.f) (hbad:bad q s1.f s1.pl=0) (hb:∀ j,j < t+c->q j < 256) :
  Took q (t+c) (nextK s.f k) (goS (tookS s1 (nb s1.part s1.hv)) q (nCells q - nextK s.f k)):=by
 have e:=hf.f
 have e2:=hf.pl
 have num:=hf.num hw
 obtain ⟨N,hN⟩:∃ N,nb s1.part s1.hv=N:=⟨_,rfl⟩
 rw [hN] at num ⊢
 have at':=hf.at'
 rw [hw] at at'
 obtain ⟨t1,t2,t3,t4,t5,t6,t7⟩:=tookS_same s1 N
 have pos:Pos q (nextF s.f (nCells q - nextK s.f k)) (s.pl+fsz s.f) (nextK s.f k):=by
  refine h.pos.step ?_ ?_
  ·rw [← e,← e2,at']; exact hb
  ·rw [← e,← e2]; exact hbad
 have lt:=h.pos.lt
 have place:=h.pos.place
 rw [e,e2] at num hbad
 have ff:(goS (tookS s1 N) q (nCells q - nextK s.f k)).f=nextF s.f (nCells q - nextK s.f k):=by
  show nextF (tookS s1 N).f _=_
  rw [t1,e]
 have fpl:(goS (tookS s1 N) q (nCells q - nextK s.f k)).pl=s.pl+fsz s.f:=by
  show (tookS s1 N).pl+(tookS s1 N).hv=_
  rw [t2,t3,hw,e,e2]
 refine ⟨by rw [ff,fpl]; exact pos,?_,?_,?_,?_,Or.inl ⟨?_,?_,?_,?_,?_,?_⟩⟩
 ·intro h3
  rw [ff] at h3
  have h3':=nextF_ge (by omega) h3
  show (tookS s1 N).lf=_
  unfold tookS noteS
  by_cases f2:s.f=2
  ·rw [if_neg (by omega),if_pos (by omega)]
   rw [f2] at num place
   rw [if_pos (by omega)] at place
   show (N:Int)=_
   rw [num,place]
   show ((0 * 256+q (5+0):Nat):Int)=_
   rw [Nat.zero_mul,Nat.zero_add]
  ·have:=h.lf (by omega)
   rw [← hf.lf] at this
   split
   ·exact this
   ·rw [if_neg (by omega)]
    split
    ·exact this
    ·split
     ·exact this
     ·split <;> exact this
 ·intro h3
  rw [ff] at h3
  have h3':=nextF_ge (by omega) h3
  show (tookS s1 N).cl=_
  unfold tookS noteS
  by_cases f3:s.f=3
  ·rw [if_neg (by omega),if_neg (by omega),if_pos (by omega)]
   rw [f3] at num place
   rw [if_pos (by omega)] at place
   have k0:=h.pos.zero (by omega)
   show (N:Int)=_
   have nk:nextK s.f k=0:=by unfold nextK; rw [if_neg (by omega),k0]
   have lt2:=nb_lt (p:=fun j=>q (6+j)) (k:=2) fun j hj=>hb _ (by rw [← at',e,e2,f3,place]; show 6+j < 6+2; omega)
   have e2':(256:Nat) ^ 2=65536:=by decide
   rw [e2'] at lt2
   have er:=rd_nb q 6 2 (by omega) fun j hj=>hb _ (by rw [← at',e,e2,f3,place]; show 6+j < 6+2; omega)
   rw [if_pos (by omega)] at er
   rw [nk,num,place]
   unfold nCells
   rw [er]
   show ((nb (fun j=>q (6+j)) 2:Nat):Int)=_
   omega
  ·have:=h.cl (by omega)
   rw [← hf.cl] at this
   by_cases f7:s.f=7
   ·rw [if_pos (by omega)]
    show s1.cl - 1=_
    have m:=h.pos.more (by omega) (by omega)
    rw [this,show nextK s.f k=k+1 from if_pos f7]
    omega
   ·have nk:nextK s.f k=k:=if_neg f7
    rw [nk,if_neg (by omega)]
    rw [if_neg (by omega),if_neg (by omega)]
    split
    ·exact this
    ·split <;> exact this
 ·intro h3
  rw [ff] at h3
  have h3':=nextF_ge (by omega) h3
  show (tookS s1 N).rd=_
  unfold tookS noteS
  by_cases f4:s.f=4
  ·rw [if_neg (by omega),if_neg (by omega),if_neg (by omega),if_pos (by omega)]
   rw [f4] at num place hbad
   rw [if_pos (by omega)] at place
   show (N:Int)=_
   have er:=rd_nb q 8 8 (by omega) fun j hj=>hb _ (by rw [← at',e,e2,f4,place]; show 8+j < 8+8; omega)
   have nn:N=nb (fun j=>q (8+j)) 8:=by rw [num,place]; rfl
   rw [place] at hbad
   unfold bad at hbad
   rw [if_neg (by omega),if_neg (by omega)] at hbad
   have hi:N<=4611686018427387903:=by
    apply Classical.byContradiction
    intro z
    have nn':N=fnum q 4 (startN 4):=nn
    rw [if_pos (Or.inr (by rw [← nn']; show 4611686018427387903 < N; omega))] at hbad
    exact absurd hbad (by decide)
   rw [er,← nn,if_pos (by omega)]
  ·have:=h.rd (by omega)
   rw [← hf.rd] at this
   split
   ·exact this
   ·rw [if_neg (by omega),if_neg (by omega),if_neg (by omega)]
    split <;> exact this
 ·intro h3
  rw [ff] at h3
  have h3':=nextF_ge (by omega) h3
  show (tookS s1 N).ep=_
  unfold tookS noteS
  by_cases f5:s.f=5
  ·rw [if_neg (by omega),if_neg (by omega),if_neg (by omega),if_neg (by omega),if_pos (by omega)]
   rw [f5] at num place hbad
   rw [if_pos (by omega)] at place
   show (N:Int)=_
   have er:=rd_nb q 16 8 (by omega) fun j hj=>hb _ (by rw [← at',e,e2,f5,place]; show 16+j < 16+8; omega)
   have nn:N=nb (fun j=>q (16+j)) 8:=by rw [num,place]; rfl
   rw [place] at hbad
   unfold bad at hbad
   rw [if_neg (by omega),if_neg (by omega)] at hbad
   have hi:N<=4611686018427387904:=by
    apply Classical.byContradiction
    intro z
    have nn':N=fnum q 5 (startN 5):=nn
    rw [if_pos (Or.inr (by rw [← nn']; show 4611686018427387904 < N; omega))] at hbad
    exact absurd hbad (by decide)
   rw [er,← nn,if_pos (by omega)]
  ·have:=h.ep (by omega)
   rw [← hf.ep] at this
   split
   ·exact this
   ·rw [if_neg (by omega),if_neg (by omega),if_neg (by omega),if_neg (by omega)]
    exact this
 ·show (tookS s1 N).ft=0
  rw [t7,hf.ft]
 ·show (tookS s1 N).pl+(tookS s1 N).hv+0=t+c
  rw [t2,t3,hw]
  omega
 ·show 0 < fsz _
  exact fsz_pos _
 ·rw [fpl]
  show (adl q ((tookS s1 N).pl+(tookS s1 N).hv)).1=_
  rw [t2,t3,hw,e,e2]
 ·rw [fpl]
  show (adl q ((tookS s1 N).pl+(tookS s1 N).hv)).2=_
  rw [t2,t3,hw,e,e2]
 ·intro j hj
  exact absurd hj (by show ¬ j < 0; omega)
end Go.Proofs.YtjckkdjldnobmaaGreatDoor.Frm
