import Derived.Test.YtmjpneaccjlpkaaF9c
import Derived.Test.YtmjpneaccjlpkaaF9b
import Derived.Test.YtmjpneaccjlpkaaX9b
namespace Go.Proofs.Ytmjpneaccjlpkaa.Rif
open Go.RowKit Gf8 Aes By8 Cel Cf Tap Drw Prm Brd
/- math/bits.Mul of 1, slices.Repeat of a list of one, package riffle's laid. Written by tools/mkX9c.py. -/
theorem ofInt_u64 {a:Nat} (ha:a < 18446744073709551616):(BitVec.ofInt 64 (a:Int)).toNat=a:=by
 rw [BitVec.toNat_ofInt]
 omega
theorem and_u64 {a b:Nat} (ha:a < 18446744073709551616) (hb:b < 18446744073709551616):bits .and .u64 (a:Int) (b:Int)=((a &&& b:Nat):Int):=by
 show IntKind.u64.wrap ((BitVec.ofInt 64 (a:Int) &&& BitVec.ofInt 64 (b:Int)).toNat:Int)=_
 rw [BitVec.toNat_and,ofInt_u64 ha,ofInt_u64 hb]
 have:a &&& b < 18446744073709551616:=Nat.and_lt_two_pow (n:=64) _ hb
 simp [IntKind.wrap,IntKind.bits,IntKind.signed]
 omega
theorem and_lo {m:Nat} (hm:m<=256):bits .and .u64 (m:Int) 4294967295=(m:Int):=by
 have h:=and_u64 (a:=m) (b:=4294967295) (by omega) (by omega)
 have e:m &&& 4294967295=m:=by
  have h2:=Nat.and_two_pow_sub_one_eq_mod m 32
  have h3:2 ^ 32 - 1=4294967295:=by decide
  rw [h3] at h2
  rw [h2]
  exact Nat.mod_eq_of_lt (by omega)
 rw [e] at h
 exact h
theorem wrap_u64 {m:Nat} (hm:m<=256):IntKind.u64.wrap (m:Int)=(m:Int):=by
 simp [IntKind.wrap,IntKind.bits,IntKind.signed]
 omega
set_option maxRecDepth 20000 in
set_option maxHeartbeats 1000000 in
theorem mul64_1 (m:Nat) (w:World) (hm:m<=256) :
  Calls Try.prog 90 #[.int .u64 ((1:Nat):Int),.int .u64 ((m:Nat):Int)] w fun e w'=>e=.returned (.tuple #[.int .u64 ((0:Nat):Int),.int .u64 ((m:Nat):Int)])/\w'=w:=by
 have e1:bits .and .u64 1 4294967295=1:=and_lo (m:=1) (by omega)
 have e2:=and_lo hm
 have e0:bits .and .u64 0 4294967295=0:=and_lo (m:=0) (by omega)
 have e3:(m:Int) / 4294967296=0:=by omega
 have e4:=wrap_u64 hm
 have e5:IntKind.u64.wrap 0=0:=wrap_u64 (m:=0) (by omega)
 go_enter Try.func90,Try.ntmps90
 go_wp2
 refine bodyPost_ret (results_tmp2 rfl _ _ _) rfl ⟨?_,rfl⟩
 simp
set_option maxRecDepth 20000 in
theorem mul_1 (m:Nat) (w:World) (hm:m<=256) :
  Calls Try.prog 86 #[.int .u64 ((1:Nat):Int),.int .u64 ((m:Nat):Int)] w fun e w'=>e=.returned (.tuple #[.int .u64 ((0:Nat):Int),.int .u64 ((m:Nat):Int)])/\w'=w:=by
 go_enter Try.func86,Try.ntmps86
 go_wp2_with (go_at_call 90; refine (mul64_1 m _ hm).mono ?_; rintro e w' ⟨rfl,rfl⟩)
 refine bodyPost_ret (results_tmp2 rfl _ _ _) rfl ⟨rfl,rfl⟩
section
variable {o:Oper} {a:Act} {w:World}
theorem execCU13 {x:Operand} {n:Nat} (ho:o.op=.convert 3 33 x) (hx:a.eval x=.int .i64 (n:Int)) (hn:n < 9223372036854775808):(execOp a.eval o).run Try.prog w=.ok (.value (.int .u64 (n:Int))) w:=by
 unfold execOp
 simp only [ho,hx]
 simp [go_sem,IntKind.wrap,IntKind.bits,IntKind.signed]
 omega
theorem execUC13 {x:Operand} {p:Nat} (ho:o.op=.convert 33 3 x) (hx:a.eval x=.int .u64 (p:Int)) (hn:p < 9223372036854775808):(execOp a.eval o).run Try.prog w=.ok (.value (.int .i64 (p:Int))) w:=by
 unfold execOp
 simp only [ho,hx]
 simp [go_sem,IntKind.wrap,IntKind.bits,IntKind.signed]
 omega
theorem execGtU13 {x:Operand} {p:Nat} {q:Int} (ho:o.op=.binOp .gtr 33 x (.const (.int .u64 q)) 33) (hx:a.eval x=.int .u64 (p:Int)) (h:(p:Int)<=q):(execOp a.eval o).run Try.prog w=.ok (.value (.bool false)) w:=by
 unfold execOp
 have hc:a.eval (.const (.int .u64 q))=.int .u64 q:=rfl
 simp only [ho,hx,hc]
 simp [go_sem]
 omega
theorem sl_l13 (g m n:Nat) (h1:n < m) (W:World):(Instr.sliceAt 24 (.slice (some ⟨g,0,none⟩) m m) (some (.int .i64 (n:Int))) none none).run Try.prog W=.ok (.slice (some ⟨g,n,none⟩) (m - n) (m - n)) W:=by
 have h2:=sl_lIg g m m n (by omega) W
 have e:sliced (some ⟨g,0,none⟩) n m m 1=.slice (some ⟨g,n,none⟩) (m - n) (m - n):=by
  unfold sliced
  rw [if_neg (by omega)]
  simp [Addr.add_mid]
 rw [e] at h2
 exact h2
theorem execCopy0 {x y:Operand} {dp sp:Option Addr} {dl dc sl sc:Nat} (ho:o.op=.call { callee:=.builtin .copy,args:=#[x,y],argTypes:=#[24,24] }) (hx:a.eval x=.slice dp dl dc) (hy:a.eval y=.slice sp sl sc) (h0:Nat.min sl dl=0):(execOp a.eval o).run Try.prog w=.ok (.value (.int .i64 ((0:Nat):Int))) w:=by
 obtain ⟨i,i1,i2,i3,i4⟩:=infoI
 have hrun:=run_copy_none (P:=Try.prog) w 24 24 o.type 3 dp sp dl dc sl sc Try.underlying24 (by rw [i1]; simp [i3]) h0
 unfold execOp
 simp only [ho,resolve,invoke,builtin,Sem.run_bind,Sem.run_pure,Result.andThen_ok,List.map_toArray,List.map_cons,List.map_nil,hx,hy,hrun]
 rfl
theorem copyZ {x y:Operand} {B g m n k dl dc sl sc:Nat} {z:Int} {ad:Addr} (ho:o.op=.call { callee:=.builtin .copy,args:=#[x,y],argTypes:=#[24,24] }) (hx:a.eval x=.slice (some ⟨g,n,none⟩) dl dc) (hy:a.eval y=.slice (some ad) sl sc)
  (own:w.ownsRow B 3 1 (.slice (some ⟨g,0,none⟩) m m) m (intsL m (fun j=>if j < n then z else 0))) (hk:min sl dl=k) (hs:∀ j,j < k->w.cell? (ad.add j)=some (.int .i64 z)) (hnk:n+k<=m) :
  ∃ w',(execOp a.eval o).run Try.prog w=.ok (.value (.int .i64 (k:Int))) w'/\w'.ownsRow B 3 1 (.slice (some ⟨g,0,none⟩) m m) m (intsL m (fun j=>if j < n+k then z else 0))/\∃ cs,w'=w.setRow g cs:=by
 obtain ⟨i,i1,i2,i3,i4⟩:=infoI
 rcases own.2 with ⟨e,_⟩ | ⟨g',cap',cur,e,hB,hg,h1,h2,h3,h4⟩
 ·cases e
 injection e with e1 e2 e3
 injection e1 with e1
 injection e1 with e1 _ _
 subst e1
 subst e3
 have hl:(intsL k (fun _=>z)).length=k:=intsL_len _ _
 have hsz:cur.size=m:=by omega
 have hrun:=run_copy_row Try.prog w 24 24 o.type 3 g n dl dc ad sl sc cur 3 (intsL k (fun _=>z)) Try.underlying24 (by rw [i1]; simp [i3]) hg (by rw [hl]; exact hk.symm) (fun j v hv=>by
  have hj:j < k:=by have:=(List.getElem?_eq_some_iff.1 hv).1; omega
  rw [intsL_get hj] at hv
  rw [hs j hj]
  exact hv) (by omega) (intsL_one _ _)
 refine ⟨w.setRow g (cur.toList.take n ++ intsL k (fun _=>z) ++ cur.toList.drop (n+(intsL k (fun _=>z)).length)).toArray,?_,?_,_,rfl⟩
 ·unfold execOp
  simp only [ho,resolve,invoke,builtin,Sem.run_bind,Sem.run_pure,Result.andThen_ok,List.map_toArray,List.map_cons,List.map_nil,hx,hy,hrun,hl]
  rfl
 ·have hc:cur.toList=intsL m (fun j=>if j < n then z else 0):=by
   rw [Nat.mul_one,List.take_of_length_le (by rw [Array.length_toList]; omega)] at h4
   exact h4
  refine ⟨by rw [intsL_len,Nat.mul_one],Or.inr ⟨g,m,_,rfl,hB,setRow_heap _ _ _ _ _ _ hg,Nat.le_refl _,h2,?_,?_⟩⟩
  ·simp [hl]
   omega
  ·apply List.ext_getElem?
   intro j
   by_cases hj:j < m
   ·rw [intsL_get hj,List.getElem?_take_of_lt (by omega),hl,hc,List.append_assoc]
    have hl2:((intsL m (fun j=>if j < n then z else 0)).take n).length=n:=by rw [List.length_take,intsL_len]; omega
    by_cases q1:j < n
    ·rw [List.getElem?_append_left (by omega),List.getElem?_take_of_lt q1,intsL_get hj,if_pos q1,if_pos (by omega)]
    ·rw [List.getElem?_append_right (by omega),hl2]
     by_cases q2:j < n+k
     ·rw [List.getElem?_append_left (by rw [hl]; omega),intsL_get (by omega),if_pos q2]
     ·rw [List.getElem?_append_right (by rw [hl]; omega),hl,List.getElem?_drop,show n+k+(j - n - k)=j by omega,intsL_get hj,if_neg q1,if_neg q2]
   ·rw [List.getElem?_eq_none (by rw [List.length_take]; omega),List.getElem?_eq_none (by rw [intsL_len]; omega)]
end
theorem stepCopyZ {ops:Array Oper} {Q:Exit->Act->World->Prop} {K:Act->World->Prop} {j0:Nat} {o:Oper} {a:Act} {w:World} {x y:Operand} {B g m n k dl dc sl sc:Nat} {z:Int} {ad:Addr} (hos:ops[j0]?=some o) (hgd:Region.wanted o (yielded ops a.tmps)=true) (ho:o.op=.call { callee:=.builtin .copy,args:=#[x,y],argTypes:=#[24,24] }) (hx:a.eval x=.slice (some ⟨g,n,none⟩) dl dc) (hy:a.eval y=.slice (some ad) sl sc)
  (own:w.ownsRow B 3 1 (.slice (some ⟨g,0,none⟩) m m) m (intsL m (fun j=>if j < n then z else 0))) (hk:min sl dl=k) (hs:∀ j,j < k->w.cell? (ad.add j)=some (.int .i64 z)) (hnk:n+k<=m)
  (hK:∀ W',W'.ownsRow B 3 1 (.slice (some ⟨g,0,none⟩) m m) m (intsL m (fun j=>if j < n+k then z else 0))->(∃ cs,W'=w.setRow g cs)->K (a.put o.dst (.int .i64 (k:Int))) W'):wpOp Try.prog ops Q j0 K a w:=by
 obtain ⟨W',run,o1,o2⟩:=copyZ ho hx hy own hk hs hnk
 exact stepV hos hgd run (hK W' o1 o2)
theorem run_app2M (W:World) (ty:TypeId) (B n m:Nat) (v u:Value) (f q:Nat->Int) (hown:W.ownsRow B 3 1 v n (intsL n f)) (hu:SliceI W u m q) (hsome:∃ ad c',u=.slice (some ad) m c') (hn:n+m<=17592186044416) (hB:B<=W.heap.size) :
  ∃ v' W',(Builtin.append_ #[24,24] ty #[v,u]).run Try.prog W=.ok v' W'/\W'.ownsRow B 3 1 v' (n+m) (intsL (n+m) (catI n f q)) ∧
   ((∃ b c,v=.slice (some ⟨b,0,none⟩) n c/\v'=.slice (some ⟨b,0,none⟩) (n+m) c/\W.grownBy W' (some b))\/(Below W.heap.size W W'/\∀ k,v'.ownBlock=some k->W.heap.size<=k)):=by
 by_cases hm:0 < m
 ·exact run_app2L W ty B n m v u f q hown hu hsome hm hn hB
 have hm0:m=0:=by omega
 subst hm0
 obtain ⟨i,i1,i2,i3,i4⟩:=infoI
 obtain ⟨ad,c',rfl⟩:=hsome
 have e0:intsL 0 q=[]:=rfl
 obtain ⟨v',W',hr,q1,q2,q3⟩:=run_append_own (P:=Try.prog) W B 24 ty 3 i (.int .i64 0) 1 8 Try.underlying24 i1 i2 i3 i4 rfl (by decide) v n (intsL n f) hown ad 0 c' (intsL 0 q) rfl (fun j z hz=>by rw [e0] at hz; cases hz) (intsL_one _ _) (by unfold maxLen; omega) (by omega) hB
 rw [intsL_app] at q1
 refine ⟨v',W',hr,q1,?_⟩
 have hown2:=hown.2
 rcases hown2 with ⟨rfl,rfl⟩ | ⟨g',cap2,cur,rfl,hB',hg',hnc,hcm,hcs,htake⟩
 ·have hv:=q3.2 ⟨rfl,rfl⟩
  subst hv
  exact Or.inr ⟨⟨q2.1,q2.2,q2.3,q2.4,fun k hk=>q2.5 k hk (fun e=>by cases e)⟩,fun k e=>by cases e⟩
 ·have hr2:=run_append_room (P:=Try.prog) W 24 ty 3 i Try.underlying24 i1 g' n cap2 cur hg' ad 0 c' (intsL 0 q) (by rw [e0,Nat.zero_mul]; rfl) (fun j z hz=>by rw [e0] at hz; cases hz) (intsL_one _ _) (by omega) (by rw [hcs,i3,intsL_len]; omega)
  have r4:=hr.symm.trans hr2
  injection r4 with e1 e2
  subst e1
  exact Or.inl ⟨g',cap2,rfl,rfl,q2⟩
theorem stepFmM {W:World} {B k t l:Nat} {x:Nat->Value} {nn:Nat->Nat} {ff:Nat->Nat->Int} {u:Value} {q:Nat->Int} {ops:Array Oper} {Q:Exit->Act->World->Prop} {K:Act->World->Prop} {j:Nat} {o:Oper} {a:Act} {s z:Operand} (hos:ops[j]?=some o) (hgd:Region.wanted o (yielded ops a.tmps)=true)
  (ho:o.op=.call { callee:=.builtin .append,args:=#[s,z],argTypes:=#[24,24] }) (hs:a.eval s=x t) (hx:a.eval z=u) (h:FmI B k x nn ff W) (ht:t < k) (hu:SliceI W u l q) (hsome:∃ ad c',u=.slice (some ad) l c') (hn:nn t+l<=17592186044416) (hB:B<=W.heap.size)
  (hK:∀ v' W',FmI B k (updX x t v') (updD nn t l) (updG ff t (catI (nn t) (ff t) q)) W'->W.grownBy W' (x t).ownBlock->K (a.put o.dst v') W'):wpOp Try.prog ops Q j K a W:=by
 obtain ⟨v',W',hr,q1,q3⟩:=run_app2M W o.type _ (nn t) l (x t) u (ff t) q (h.rows t ht) hu hsome hn hB
 refine stepV hos hgd (v:=v') (w':=W') ?_ (hK v' W' (Brd.FmI.push h ht q1 q3) ?_)
 ·unfold execOp
  simp only [ho,resolve,invoke,builtin,Sem.run_bind,Sem.run_pure,Result.andThen_ok,List.map_toArray,List.map_cons,List.map_nil,hs,hx,hr]
 ·rcases q3 with ⟨b,c,e1,_,gr⟩ | ⟨hb,_⟩
  ·rw [e1]
   exact gr
  ·exact ⟨hb.os,hb.tape,hb.output,hb.size,fun j hj _=>hb.block j hj⟩
def n2 (a b t:Nat):Nat:=if t=0 then a else b
def ffL (N J t:Nat):Nat->Int:=if t=0 then fun i=>(pj (szF N J) i J:Int) else fun c=>(sumN (szF N J) c:Int)
theorem n2_zero {s:Nat->Nat} (t:Nat):(fun _=>0:Nat->Nat) t=n2 (sumN s 0) 0 t:=by
 unfold n2
 by_cases h:t=0
 ·rw [if_pos h]; rfl
 ·rw [if_neg h]
theorem n2_b {a j t:Nat} (ht:t < 2):updD (n2 a j) 1 1 t=n2 a (j+1) t:=by
 match t,ht with
 | 0,_=>rfl
 | 1,_=>rfl
 | t+2,h=>omega
theorem fm_x2 {B:Nat} {x:Nat->Value} {nn:Nat->Nat} {ff:Nat->Nat->Int} {W:World} (h:FmI B 2 x nn ff W):FmI B 2 (x2 (x 0) (x 1)) nn ff W:=by
 have e:∀ t,t < 2->x2 (x 0) (x 1) t=x t:=fun t ht=>by
  match t,ht with
  | 0,_=>rfl
  | 1,_=>rfl
  | t+2,h=>omega
 exact ⟨fun t ht=>by rw [e t ht]; exact h.rows t ht,fun s t hs ht hst b=>by rw [e s hs,e t ht]; exact h.dis s t hs ht hst b⟩
theorem n2_c {s:Nat->Nat} {j m k:Nat} (em:s j=m) (t:Nat):updD (n2 (sumN s j) k) 0 m t=n2 (sumN s (j+1)) k t:=by
 unfold updD n2
 by_cases h:t=0
 ·subst h
  show sumN s j+m=sumN s j+s j
  rw [em]
 ·rw [if_neg h,if_neg h,if_neg h]
theorem ffL_c {N J j:Nat} (hj:j < J):∀ t,t < 2->∀ i,i < n2 (sumN (szF N J) (j+1)) (j+1) t->updG (ffL N J) 0 (catI (n2 (sumN (szF N J) j) (j+1) 0) (ffL N J 0) (fun _=>((j:Nat):Int))) t i=ffL N J t i:=fun t ht i hi=>by
 match t,ht,hi with
 | 0,_,hi=>
  show catI (sumN (szF N J) j) (ffL N J 0) (fun _=>((j:Nat):Int)) i=ffL N J 0 i
  unfold catI
  by_cases q:i < sumN (szF N J) j
  ·rw [if_pos q]
  ·rw [if_neg q]
   have hi':i < sumN (szF N J) j+szF N J j:=hi
   show ((j:Nat):Int)=((pj (szF N J) i J:Nat):Int)
   rw [pj_is hj (by omega) hi']
 | 1,_,_=>rfl
 | t+2,h,_=>omega
set_option maxRecDepth 100000 in
set_option maxHeartbeats 4000000 in
theorem prepeat (z:Int) (m gx:Nat) (V:World) (FX:V.heap[gx]?=some (.cells #[.int .i64 z] 3)) (hm:m<=256) :
  Calls Try.prog 81 #[.slice (some ⟨gx,0,none⟩) 1 1,.int .i64 ((m:Nat):Int)] V fun e w'=>∃ r,e=.returned r/\w'.ownsRow V.heap.size 3 1 r m (intsL m (fun _=>z))/\(∃ ad c,r=.slice (some ad) m c)/\Below V.heap.size V w':=by
 go_enter Try.func81,Try.ntmps81
 refine wp_seq ?_
 refine wo_ 48 [(0,.slice (some ⟨gx,0,none⟩) 1 1),(1,.int .i64 ((m:Nat):Int))] ?_
 rintro a A ⟨t0,t1,-⟩
 refine wi_ A (h2_ t0 t1) (rf_ [] (h2_ t0 t1) ?_)
 rintro a A - ⟨t0,t1,-⟩
 have BW:Below V.heap.size V V:=Below.refl _ _
 have BB:=BW
 refine wp_seq (wp_seq ?_)
 refine wi_ A (h2_ t0 t1) (rv_ 1 (.bool false) (fun a e=>execDec (execLtW (p:=m) (q:=0) rfl (e _) rfl) (decide_eq_false (by omega))) (rf_ [(10,.bool false)] (h2_ t0 t1) ?_))
 rintro a A ⟨t10,-⟩ ⟨t0,t1,-⟩
 refine wp_cond_false t10 (wp_skip ?_)
 clear t10
 refine wp_seq ?_
 refine wi_ A (h2_ t0 t1) (rv_ 1 (.int .i64 ((1:Nat):Int)) (fun a e=>execLenI (len:=1) rfl (e _) ⟨_,_,rfl⟩) (rv_ 2 (.int .u64 ((1:Nat):Int)) (fun a e=>execCU13 rfl (e _) (by omega)) (rv_ 4 (.int .u64 ((m:Nat):Int)) (fun a e=>execCU13 rfl (e _) (by omega)) (rc_ 5 (mul_1 m V hm) (cs_ (rf_ [(5,.int .u64 ((0:Nat):Int)),(6,.int .u64 ((m:Nat):Int))] (h1_ t0) ?_))))))
 rintro a A ⟨t5,t6,-⟩ ⟨t0,-⟩
 refine wp_seq (wp_seq ?_)
 refine wi_ A (h3_ t0 t5 t6) (rv_ 1 (.bool false) (fun a e=>execGtU13 (p:=0) (q:=0) rfl (e _) (by omega)) (rv_ 4 (.bool false) (fun a e=>execGtU13 (p:=m) (q:=9223372036854775807) rfl (e _) (by omega)) (rf_ [(26,.bool false)] (h2_ t0 t6) ?_)))
 rintro a A ⟨t26,-⟩ ⟨t0,t6,-⟩
 refine wp_cond_false t26 (wp_skip ?_)
 clear t26
 refine wp_seq ?_
 obtain ⟨g30,egg30⟩:∃ z_:Nat,V.heap.size=z_:=⟨_,rfl⟩
 refine wi_ A (h2_ t0 t6) (rv_ 1 (.int .i64 ((m:Nat):Int)) (fun a e=>execUC13 (p:=m) rfl (e _) (by omega)) (rs_ 2 (fun a e=>?_)))
 refine stepV rfl rfl (execMkN rfl (e _) (e _) (by omega)) ⟨.slice (some ⟨g30,0,none⟩) m m,⟨_,rfl,by subst egg30; rfl⟩,fun X6 hX=>?_⟩
 have bQ:Below V.heap.size V X6:=by subst hX egg30; exact (belNew V _)
 have FO:(X6.ownsRow V.heap.size 3 1 (.slice (some ⟨g30,0,none⟩) m m) (m) (intsL (m) (fun j=>if j < 0 then z else 0))):=by subst hX egg30; exact ownD_base (own_mkZ V m _ (by omega) (fun j_ _=>if_neg (Nat.not_lt_zero _))) (BB).size
 have Fg:(V.heap.size<=g30):=by subst hX egg30; exact (BB).size
 replace BB:=BB.trans (bQ.mono BB.size)
 clear bQ hX egg30 e a
 refine rf_ [(7,.slice (some ⟨g30,0,none⟩) m m)] (h1_ t0) ?_
 rintro a A ⟨t7,-⟩ ⟨t0,-⟩
 have hne:gx ≠ g30:=fun q=>by have h_:=(Array.getElem?_eq_some_iff.1 FX).1; omega
 refine wp_seq ?_
 by_cases h0:m=0
 ·refine wi_ A (h2_ t0 t7) (rv_ 2 (.int .i64 ((0:Nat):Int)) (fun a e=>execCopy0 rfl (e _) (e _) (by rw [h0]; rfl)) (rf_ [(8,.int .i64 ((0:Nat):Int))] (h1_ t7) ?_))
  rintro a A ⟨t8,-⟩ ⟨t7,-⟩
  have hn0:0<=m:=by omega
  have hp0:0 < m->0 < 0:=fun _=>by omega
  refine wp_seq (wp_block ?_)
  refine wp_loop (fun a W=>∃ (n:Nat),n<=m/\(0 < m->0 < n)/\(a.tmps.size=48/\a.defers=[])/\a.eval (.tmp 7)=.slice (some ⟨g30,0,none⟩) m m/\a.eval (.tmp 8)=.int .i64 ((n:Nat):Int)/\Below V.heap.size V W/\(W.ownsRow V.heap.size 3 1 (.slice (some ⟨g30,0,none⟩) m m) (m) (intsL (m) (fun j=>if j < n then z else 0)))) (fun a _=>m - (intOf (a.eval (.tmp 8))).toNat) ⟨0,hn0,hp0,A,t7,t8,BB,FO⟩ ?_
  rintro a XL ⟨n,hn,hp,A,t7,t8,BB,FO⟩
  have es:=t8
  refine wp_seq (wp_seq ?_)
  refine wi_ A (h2_ t7 t8) (rv_ 2 (.int .i64 ((m:Nat):Int)) (fun a e=>execLenI (len:=m) rfl (e _) ⟨_,_,rfl⟩) (rv_ 3 (.bool (decide (n < m))) (fun a e=>execLtW (p:=n) (q:=m) rfl (e _) (e _)) (rf_ [(37,.bool (decide (n < m)))] (h2_ t7 t8) ?_)))
  rintro a A ⟨t37,-⟩ ⟨t7,t8,-⟩
  by_cases lt:n < m
  ·rw [decide_eq_true lt] at t37
   refine wp_cond_true t37 (wp_skip ?_)
   clear t37
   have hn1:0 < n:=hp (by omega)
   obtain ⟨k,ek⟩:∃ k,min n (m - n)=k:=⟨_,rfl⟩
   refine wp_block ?_
   refine wj_ [0,1,2,3,4,5,6,7,8,9] [7] [] [7] A (h2_ t7 t8) (fun X9_0 bD=>?_)
   refine dw_ 3 (.slice (some ⟨g30,n,none⟩) (m - n) (m - n)) (fun a X e=>execSlLg rfl (e _) (e _) (sl_l13 g30 m n lt X)) (dw_ 6 (.slice (some ⟨g30,0,none⟩) n m) (fun a X e=>By8.execSlH rfl (e _) (e _) (sl_hI g30 m m n (by omega) X)) (ds_ 7 (fun a e=>?_)))
   refine stepCopyZ (B:=V.heap.size) (k:=k) rfl rfl rfl (e _) (e _) (ownD_below FO bD) ek (fun j hj=>by rw [Go.WideShapes.add_plain]; exact (own_cellI (ownD_below FO bD) (show j < m by omega)).1.trans (by rw [if_pos (by omega)])) (by omega) fun X9 own' ew_=>⟨_,⟨_,rfl,rfl⟩,eqw ?_⟩
   obtain ⟨BB,FO2⟩:Below V.heap.size V X9/\(X9.ownsRow V.heap.size 3 1 (.slice (some ⟨g30,0,none⟩) m m) (m) (intsL (m) (fun j=>if j < (n+k) then z else 0))):=⟨(by obtain ⟨cs_,rfl⟩:=ew_; exact below4 (BB.trans (bD.mono BB.size)) Fg _),own'⟩
   clear bD FO
   refine ⟨Or.inl rfl,?_⟩
   refine dw_ 8 (.int .i64 ((n+k:Nat):Int)) (fun a X e=>execAd8 (p:=n) (q:=k) rfl (e _) (e _) (by omega)) (dz_ [(8,.int .i64 ((n+k:Nat):Int))] (h1_ t7) ?_)
   rintro a A ⟨t8,-⟩ ⟨t7,-⟩
   exact ⟨⟨n+k,by omega,fun _=>by omega,A,t7,t8,BB,FO2⟩,by show m - (intOf (a.eval (.tmp 8))).toNat < m - (intOf (Act.eval _ (.tmp 8))).toNat; rw [t8,es]; show m - (n+k) < m - n; omega⟩
  ·rw [decide_eq_false lt] at t37
   refine wp_cond_false t37 ?_
   refine wp_exit ?_
   first | with_reducible refine exit_in ?_ | with_reducible refine exit_then (exit_in ?_) | with_reducible refine exit_then (exit_then (exit_in ?_)) | refine exit_in ?_ | refine exit_then (exit_in ?_) | refine exit_then (exit_then (exit_in ?_))
   clear t37 es
   have hnm:n=m:=by omega
   rw [hnm,intsL_congr (g:=fun _=>z) (fun j hj=>if_pos hj)] at FO
   clear t8
   refine wp_seq ?_
   refine wi_ A (h1_ t7) (rg_ [(4,.slice (some ⟨g30,0,none⟩) m m)] ?_)
   rintro a A ⟨t4,-⟩
   refine wp_ret ?_
   refine bodyPost_ret (results_tmp rfl _ _ _) A.2 ⟨_,?_,FO,⟨_,_,rfl⟩,BB⟩
   show Ending.returned (a.eval (.tmp 4))=_
   rw [t4]
 ·refine wi_ A (h2_ t0 t7) (rs_ 2 (fun a e=>?_))
  refine stepCopyZ (B:=V.heap.size) (k:=1) rfl rfl rfl (e _) (e _) FO (by omega) (fun j hj=>by rw [Go.WideShapes.add_plain,show j=0 by omega,Nat.add_zero]; exact cell_of_row _ _ _ _ _ _ (on9 FX BB)) (by omega) fun X7 own' ew_=>⟨_,⟨_,rfl,rfl⟩,eqw ?_⟩
  obtain ⟨BB,FO1⟩:Below V.heap.size V X7/\(X7.ownsRow V.heap.size 3 1 (.slice (some ⟨g30,0,none⟩) m m) (m) (intsL (m) (fun j=>if j < (0+1) then z else 0))):=⟨(by obtain ⟨cs_,rfl⟩:=ew_; exact below4 BB Fg _),own'⟩
  clear FO
  refine rf_ [(8,.int .i64 ((1:Nat):Int))] (h1_ t7) ?_
  rintro a A ⟨t8,-⟩ ⟨t7,-⟩
  have FO:=FO1
  clear FO1
  have hn0:1<=m:=by omega
  have hp0:0 < m->0 < 1:=fun _=>by omega
  refine wp_seq (wp_block ?_)
  refine wp_loop (fun a W=>∃ (n:Nat),n<=m/\(0 < m->0 < n)/\(a.tmps.size=48/\a.defers=[])/\a.eval (.tmp 7)=.slice (some ⟨g30,0,none⟩) m m/\a.eval (.tmp 8)=.int .i64 ((n:Nat):Int)/\Below V.heap.size V W/\(W.ownsRow V.heap.size 3 1 (.slice (some ⟨g30,0,none⟩) m m) (m) (intsL (m) (fun j=>if j < n then z else 0)))) (fun a _=>m - (intOf (a.eval (.tmp 8))).toNat) ⟨1,hn0,hp0,A,t7,t8,BB,by rw [Nat.zero_add] at FO; exact FO⟩ ?_
  rintro a XL ⟨n,hn,hp,A,t7,t8,BB,FO⟩
  have es:=t8
  refine wp_seq (wp_seq ?_)
  refine wi_ A (h2_ t7 t8) (rv_ 2 (.int .i64 ((m:Nat):Int)) (fun a e=>execLenI (len:=m) rfl (e _) ⟨_,_,rfl⟩) (rv_ 3 (.bool (decide (n < m))) (fun a e=>execLtW (p:=n) (q:=m) rfl (e _) (e _)) (rf_ [(37,.bool (decide (n < m)))] (h2_ t7 t8) ?_)))
  rintro a A ⟨t37,-⟩ ⟨t7,t8,-⟩
  by_cases lt:n < m
  ·rw [decide_eq_true lt] at t37
   refine wp_cond_true t37 (wp_skip ?_)
   clear t37
   have hn1:0 < n:=hp (by omega)
   obtain ⟨k,ek⟩:∃ k,min n (m - n)=k:=⟨_,rfl⟩
   refine wp_block ?_
   refine wj_ [0,1,2,3,4,5,6,7,8,9] [7] [] [7] A (h2_ t7 t8) (fun X9_0 bD=>?_)
   refine dw_ 3 (.slice (some ⟨g30,n,none⟩) (m - n) (m - n)) (fun a X e=>execSlLg rfl (e _) (e _) (sl_l13 g30 m n lt X)) (dw_ 6 (.slice (some ⟨g30,0,none⟩) n m) (fun a X e=>By8.execSlH rfl (e _) (e _) (sl_hI g30 m m n (by omega) X)) (ds_ 7 (fun a e=>?_)))
   refine stepCopyZ (B:=V.heap.size) (k:=k) rfl rfl rfl (e _) (e _) (ownD_below FO bD) ek (fun j hj=>by rw [Go.WideShapes.add_plain]; exact (own_cellI (ownD_below FO bD) (show j < m by omega)).1.trans (by rw [if_pos (by omega)])) (by omega) fun X9 own' ew_=>⟨_,⟨_,rfl,rfl⟩,eqw ?_⟩
   obtain ⟨BB,FO2⟩:Below V.heap.size V X9/\(X9.ownsRow V.heap.size 3 1 (.slice (some ⟨g30,0,none⟩) m m) (m) (intsL (m) (fun j=>if j < (n+k) then z else 0))):=⟨(by obtain ⟨cs_,rfl⟩:=ew_; exact below4 (BB.trans (bD.mono BB.size)) Fg _),own'⟩
   clear bD FO
   refine ⟨Or.inl rfl,?_⟩
   refine dw_ 8 (.int .i64 ((n+k:Nat):Int)) (fun a X e=>execAd8 (p:=n) (q:=k) rfl (e _) (e _) (by omega)) (dz_ [(8,.int .i64 ((n+k:Nat):Int))] (h1_ t7) ?_)
   rintro a A ⟨t8,-⟩ ⟨t7,-⟩
   exact ⟨⟨n+k,by omega,fun _=>by omega,A,t7,t8,BB,FO2⟩,by show m - (intOf (a.eval (.tmp 8))).toNat < m - (intOf (Act.eval _ (.tmp 8))).toNat; rw [t8,es]; show m - (n+k) < m - n; omega⟩
  ·rw [decide_eq_false lt] at t37
   refine wp_cond_false t37 ?_
   refine wp_exit ?_
   first | with_reducible refine exit_in ?_ | with_reducible refine exit_then (exit_in ?_) | with_reducible refine exit_then (exit_then (exit_in ?_)) | refine exit_in ?_ | refine exit_then (exit_in ?_) | refine exit_then (exit_then (exit_in ?_))
   clear t37 es
   have hnm:n=m:=by omega
   rw [hnm,intsL_congr (g:=fun _=>z) (fun j hj=>if_pos hj)] at FO
   clear t8
   refine wp_seq ?_
   refine wi_ A (h1_ t7) (rg_ [(4,.slice (some ⟨g30,0,none⟩) m m)] ?_)
   rintro a A ⟨t4,-⟩
   refine wp_ret ?_
   refine bodyPost_ret (results_tmp rfl _ _ _) A.2 ⟨_,?_,FO,⟨_,_,rfl⟩,BB⟩
   show Ending.returned (a.eval (.tmp 4))=_
   rw [t4]
set_option maxRecDepth 100000 in
set_option maxHeartbeats 4000000 in
theorem plaid (N J:Nat) (sv:Value) (V:World) (FXs:SliceI V sv J (sI N J)) (hN:N<=256) (h1:1<=J) (h2:J<=64) :
  Calls Try.prog 60 #[sv] V fun e w'=>∃ r1 r2,e=.returned (.tuple #[r1,r2])/\FmI V.heap.size 2 (x2 r1 r2) (n2 N J) (ffL N J) w'/\Below V.heap.size V w':=by
 go_enter Try.func60,Try.ntmps60
 refine wp_seq ?_
 refine wo_ 27 [(0,sv)] ?_
 rintro a A ⟨t0,-⟩
 refine wi_ A (h1_ t0) (rf_ [(2,.slice none 0 0),(3,.slice none 0 0)] (h1_ t0) ?_)
 rintro a A ⟨t2,t3,-⟩ ⟨t0,-⟩
 have BW:Below V.heap.size V V:=Below.refl _ _
 have BB:=BW
 refine wp_seq (wp_seq ?_)
 refine wi_ A (h3_ t0 t2 t3) (rv_ 1 (.int .i64 ((J:Nat):Int)) (fun a e=>execLenI (len:=J) rfl (e _) ((FXs.on BB)).shp) (rf_ [(6,sv),(7,.int .i64 ((J:Nat):Int)),(8,.int .i64 ((0:Nat):Int))] (h2_ t2 t3) ?_))
 rintro a A ⟨t6,t7,t8,-⟩ ⟨t2,t3,-⟩
 have FM:(FmI V.heap.size 2 (fun _=>.slice none 0 0) (n2 (sumN (szF N J) 0) 0) (ffL N J) V):=FmI.cgN (FmI.nils _ _ _ _) (fun t ht=>n2_zero t)
 refine wp_block ?_
 refine wp_loop (fun a W=>∃ (j:Nat) (x:Nat->Value),j<=J/\(a.tmps.size=27/\a.defers=[])/\a.eval (.tmp 2)=x 0/\a.eval (.tmp 3)=x 1/\a.eval (.tmp 6)=sv/\a.eval (.tmp 7)=.int .i64 ((J:Nat):Int)/\a.eval (.tmp 8)=.int .i64 ((j:Nat):Int)/\Below V.heap.size V W/\(FmI V.heap.size 2 (x) (n2 (sumN (szF N J) j) j) (ffL N J) W)) (fun a _=>J - (intOf (a.eval (.tmp 8))).toNat) ⟨0,fun _=>.slice none 0 0,Nat.zero_le _,A,t2,t3,t6,t7,t8,BB,FM⟩ ?_
 rintro a XL2 ⟨j,x,hj,A,t2,t3,t6,t7,t8,BB,FM⟩
 have esj:=t8
 refine wp_seq ?_
 refine wi_ A (h5_ t2 t3 t6 t7 t8) (rv_ 0 (.bool (decide (j < J))) (fun a e=>execLtW (p:=j) (q:=J) rfl (e _) (e _)) (rf_ [(9,.bool (decide (j < J)))] (h5_ t2 t3 t6 t7 t8) ?_))
 rintro a A ⟨t9,-⟩ ⟨t2,t3,t6,t7,t8,-⟩
 refine wp_seq ?_
 by_cases ltj:j < J
 ·rw [decide_eq_true ltj] at t9
  refine wp_cond_true t9 (wp_skip ?_)
  clear t9
  refine wp_seq (wp_block ?_)
  obtain ⟨ssb,sso,ssc,ess,hssb,hssc⟩:=open_sl FXs (by omega)
  have css:∀ k,k < J->∀ X,Below V.heap.size V X->X.cell? ⟨ssb,sso+k,none⟩=some (.int .i64 ((sI N J) k)):=fun k hk X hX=>by rw [cell_below hX hssb]; exact hssc k hk
  obtain ⟨m,em⟩:∃ m,szF N J j=m:=⟨_,rfl⟩
  have hm:m<=N:=by rw [← em]; exact szF_le N ltj
  have hsj:=sumN_at (r:=szF N J) ltj
  rw [szF_sum N h1,em] at hsj
  refine wp_seq ?_
  refine wi_ A (h5_ t2 t3 t6 t7 t8) (rv_ 1 (.pointer (some ⟨ssb,sso+j,none⟩)) (fun a e=>execIdxN (k:=j) rfl ((e _).trans ess) (e _) ltj) (rv_ 2 (.int .i64 ((m:Nat):Int)) (fun a e=>execLd3 rfl (e _) ((css j ltj XL2 BB).trans (by rw [← em]; rfl))) (rf_ [(4,.int .i64 ((j:Nat):Int)),(5,.int .i64 ((m:Nat):Int))] (h5_ t2 t3 t6 t7 t8) ?_)))
  rintro a A ⟨t4,t5,-⟩ ⟨t2,t3,t6,t7,t8,-⟩
  refine wp_seq ?_
  obtain ⟨g16,egg16⟩:∃ z_:Nat,XL2.heap.size=z_:=⟨_,rfl⟩
  refine wi_ A (h7_ t2 t3 t6 t7 t8 t4 t5) (rv_ 2 (.int .i64 ((sumN (szF N J) j:Nat):Int)) (fun a e=>execLenI (len:=sumN (szF N J) j) rfl (e _) (shpO (FM.rows 0 (by omega)))) (rs_ 3 (fun a e=>?_)))
  refine stepV rfl rfl (execBsI (z:=((sumN (szF N J) j:Nat):Int)) rfl (e _)) ⟨.slice (some ⟨g16,0,none⟩) 1 1,⟨_,rfl,by subst egg16; rfl⟩,fun X4_1 hX=>?_⟩
  have bQ:Below XL2.heap.size XL2 X4_1:=by subst hX egg16; exact (belNew XL2 _)
  have Fg16:(SliceI X4_1 (.slice (some ⟨g16,0,none⟩) 1 1) (1) (fun _=>((sumN (szF N J) j:Nat):Int))):=by subst hX egg16; exact oneI XL2 (by omega)
  have FGg16:X4_1.heap[g16]?=some (.cells (#[.int .i64 ((sumN (szF N J) j:Nat):Int)]) 3):=by subst hX egg16; exact heapNew XL2 _
  replace FM:=(FM.on bQ)
  replace BB:=BB.trans (bQ.mono BB.size)
  clear bQ hX egg16 e a
  refine rs_ 4 (fun a e=>?_)
  refine stepFmM (x:=x) (t:=1) (l:=1) (q:=fun _=>((sumN (szF N J) j:Nat):Int)) rfl rfl rfl (e _) (e _) FM (by omega) Fg16 ⟨_,_,rfl⟩ (by show j+1<=_; omega) (BB).size fun v17 X4 fm' gr=>⟨_,⟨_,rfl,rfl⟩,eqw ?_⟩
  obtain ⟨BB,FM1⟩:Below V.heap.size V X4/\(FmI V.heap.size 2 (updX x 1 v17) (updD (n2 (sumN (szF N J) j) j) 1 1) (updG (ffL N J) 1 (catI (n2 (sumN (szF N J) j) j 1) (ffL N J 1) (fun _=>((sumN (szF N J) j:Nat):Int)))) X4):=⟨(BB).grown gr (BB).size (fun k hk=>((FM.rows 1 (by omega)).lt k hk).1),fm'⟩
  clear FM Fg16 FGg16 e a
  refine rf_ [(3,v17)] (h6_ t2 t6 t7 t8 t4 t5) ?_
  rintro a A ⟨t3,-⟩ ⟨t2,t6,t7,t8,t4,t5,-⟩
  have FM2:(FmI V.heap.size 2 (updX x 1 v17) (n2 (sumN (szF N J) j) (j+1)) (ffL N J) X4):=FmI.cgN (FmI.app1 FM1 rfl) (fun t ht=>n2_b ht)
  clear FM1
  obtain ⟨g20,egg20⟩:∃ z_:Nat,X4.heap.size=z_:=⟨_,rfl⟩
  refine wi_ A (h7_ t2 t3 t6 t7 t8 t4 t5) (rs_ 2 (fun a e=>?_))
  refine stepV rfl rfl (execBsI (z:=((j:Nat):Int)) rfl (e _)) ⟨.slice (some ⟨g20,0,none⟩) 1 1,⟨_,rfl,by subst egg20; rfl⟩,fun X5_1 hX=>?_⟩
  have bQ:Below X4.heap.size X4 X5_1:=by subst hX egg20; exact (belNew X4 _)
  have Fg20:(SliceI X5_1 (.slice (some ⟨g20,0,none⟩) 1 1) (1) (fun _=>((j:Nat):Int))):=by subst hX egg20; exact oneI X4 (by omega)
  have FGg20:X5_1.heap[g20]?=some (.cells (#[.int .i64 ((j:Nat):Int)]) 3):=by subst hX egg20; exact heapNew X4 _
  replace FM2:=(FM2.on bQ)
  replace BB:=BB.trans (bQ.mono BB.size)
  clear bQ hX egg20 e a
  refine rc_ 4 (prepeat ((j:Nat):Int) m g20 X5_1 FGg20 (by omega)) fun e X5_2 hh=>?_
  obtain ⟨r22,he,hk,hs_,hb⟩:=hh
  refine ⟨_,he,?_⟩
  have bQ:Below X5_1.heap.size X5_1 X5_2:=hb
  have FR:(SliceI X5_2 r22 (m) (fun _=>((j:Nat):Int))):=own_ints hk (fun _ _=>by omega)
  have FRs:(∃ ad c,r22=.slice (some ad) m c):=hs_
  replace FM2:=(FM2.on bQ)
  replace Fg20:=(Fg20.on bQ)
  replace FGg20:=(on9 FGg20 bQ)
  replace BB:=BB.trans (bQ.mono BB.size)
  clear bQ
  refine rs_ 5 (fun a e=>?_)
  refine stepFmM (x:=updX x 1 v17) (t:=0) (l:=m) (q:=fun _=>((j:Nat):Int)) rfl rfl rfl (e _) (e _) FM2 (by omega) FR FRs (by show sumN (szF N J) j+m<=_; omega) (BB).size fun v23 X5 fm' gr=>⟨_,⟨_,rfl,rfl⟩,eqw ?_⟩
  obtain ⟨BB,FM3⟩:Below V.heap.size V X5/\(FmI V.heap.size 2 (updX (updX x 1 v17) 0 v23) (updD (n2 (sumN (szF N J) j) (j+1)) 0 m) (updG (ffL N J) 0 (catI (n2 (sumN (szF N J) j) (j+1) 0) (ffL N J 0) (fun _=>((j:Nat):Int)))) X5):=⟨(BB).grown gr (BB).size (fun k hk=>((FM2.rows 0 (by omega)).lt k hk).1),fm'⟩
  clear FM2 Fg20 FGg20 FR FRs e a
  refine rf_ [(2,v23)] (h4_ t3 t6 t7 t8) ?_
  rintro a A ⟨t2,-⟩ ⟨t3,t6,t7,t8,-⟩
  have FM4:(FmI V.heap.size 2 (updX (updX x 1 v17) 0 v23) (n2 (sumN (szF N J) (j+1)) (j+1)) (ffL N J) X5):=FmI.cgF (FmI.cgN FM3 (fun t ht=>n2_c em t)) (ffL_c ltj)
  clear FM3
  refine wi_ A (h5_ t2 t3 t6 t7 t8) (rv_ 0 (.int .i64 ((j+1:Nat):Int)) (fun a e=>execAd8 (p:=j) (q:=1) rfl (e _) rfl (by omega)) (rf_ [(8,.int .i64 ((j+1:Nat):Int))] (h4_ t2 t3 t6 t7) ?_))
  rintro a A ⟨t8,-⟩ ⟨t2,t3,t6,t7,-⟩
  exact ⟨⟨j+1,updX (updX x 1 v17) 0 v23,ltj,A,t2,t3,t6,t7,t8,BB,FM4⟩,by show J - (intOf (a.eval (.tmp 8))).toNat < J - (intOf (Act.eval _ (.tmp 8))).toNat; rw [t8,esj]; show J - (j+1) < J - j; omega⟩
 ·rw [decide_eq_false ltj] at t9
  refine wp_cond_false t9 ?_
  refine wp_exit ?_
  first | with_reducible refine exit_in ?_ | with_reducible refine exit_then (exit_in ?_) | with_reducible refine exit_then (exit_then (exit_in ?_)) | refine exit_in ?_ | refine exit_then (exit_in ?_) | refine exit_then (exit_then (exit_in ?_))
  clear t9 esj
  have hjJ:j=J:=by omega
  rw [hjJ,szF_sum N h1] at FM
  clear t6 t7 t8
  refine wp_seq ?_
  refine wi_ A (h2_ t2 t3) (rg_ [(2,x 0),(3,x 1)] ?_)
  rintro a A ⟨t2,t3,-⟩
  refine wp_ret ?_
  refine bodyPost_ret (results_tmp2 rfl _ _ _) A.2 ⟨_,_,?_,fm_x2 FM,BB⟩
  show Ending.returned (.tuple #[a.eval (.tmp 2),a.eval (.tmp 3)])=_
  rw [t2,t3]
end Go.Proofs.Ytmjpneaccjlpkaa.Rif
