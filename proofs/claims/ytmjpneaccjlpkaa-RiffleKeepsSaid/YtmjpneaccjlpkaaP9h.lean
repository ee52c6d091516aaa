import Derived.Test.YtmjpneaccjlpkaaP9d
import Derived.Test.YtmjpneaccjlpkaaF9c
import Derived.Test.YtmjpneaccjlpkaaF9b
namespace Go.Proofs.Ytmjpneaccjlpkaa.Prm
open Go.RowKit Gf8 Aes By8 Cel Cf Tap Drw
/- Stage 11's reference: find, Rank. Written by tools/mkP9e.py. -/
theorem execSlLg {o:Oper} {a:Act} {w:World} {x l:Operand} {ty:TypeId} {v vl r:Value} (ho:o.op=.slice ty x (some l) none none) (hx:a.eval x=v) (hl:a.eval l=vl)
  (hr:(Instr.sliceAt ty v (some vl) none none).run Try.prog w=.ok r w):(execOp a.eval o).run Try.prog w=.ok (.value r) w:=by
 unfold execOp
 simp only [ho,hx,hl,Option.map_some,Option.map_none,Sem.run_bind,hr,Result.andThen_ok,Sem.run_pure]
theorem sl_lIg (g len cap l:Nat) (h1:l<=len) (W:World):(Instr.sliceAt 24 (.slice (some ⟨g,0,none⟩) len cap) (some (.int .i64 (l:Int))) none none).run Try.prog W=.ok (sliced (some ⟨g,0,none⟩) l len cap 1) W:=by
 have e1:(l:Int)<=len:=by omega
 obtain ⟨i,i1,_,i3,_⟩:=infoI
 simp [Instr.sliceAt,Instr.slice,run_underlying Try.underlying24,Instr.sliceBounds,run_sliceBound,sliced,h1,sizeOf,typeInfo,i1,i3]
theorem sl_no {A:Addr} {l h m x y:Nat} (e:sliced (some A) l h m 1=.slice none x y):y=0:=by
 unfold sliced at e
 by_cases q:m=l
 ·rw [if_pos q] at e; cases e
 ·rw [if_neg q] at e; cases e
theorem SliceI.sub {w:World} {a:Option Addr} {len cap:Nat} {p:Nat->Int} (hv:SliceI w (.slice a len cap) len p) (l h:Nat) (h1:l<=h) (h2:h<=len) :
  SliceI w (sliced a l h cap 1) (h - l) (fun j=>p (l+j)):=by
 obtain ⟨⟨a',cap',e,e1,e2,e3⟩,hp⟩:=hv
 obtain ⟨rfl,_,rfl⟩:a=a'/\len=len/\cap=cap':=by
  injection e with x y z
  exact ⟨x,rfl,z⟩
 refine ⟨⟨_,cap - l,rfl,by omega,by omega,fun h0=>?_⟩,fun j hj=>hp (l+j) (by omega)⟩
 obtain ⟨b,off,rfl,hb,hc⟩:=e3 (by omega)
 rw [if_neg (by omega)]
 refine ⟨b,off+l,?_,hb,fun j hj=>?_⟩
 ·simp [Addr.add]
 ·rw [Nat.add_assoc]; exact hc (l+j) (by omega)
structure Two (V W:World) (u:Value) (nu:Nat) (fu:Nat->Int) (lv:Value) (nl:Nat) (fl:Nat->Int):Prop where
 ru:W.ownsRow V.heap.size 3 1 u nu (intsL nu fu)
 rl:W.ownsRow V.heap.size 3 1 lv nl (intsL nl fl)
 ap:∀ k,u.ownBlock=some k->lv.ownBlock ≠ some k
section
variable {V W W':World} {u lv:Value} {nu nl:Nat} {fu fl:Nat->Int}
theorem Two.on (h:Two V W u nu fu lv nl fl) (b:Below W.heap.size W W'):Two V W' u nu fu lv nl fl:=⟨ownD_below h.ru b,ownD_below h.rl b,h.ap⟩
theorem Two.over {C m:Nat} {v2:Value} {ys:List Value} (h:Two V W u nu fu lv nl fl) (hu:∀ k,u.ownBlock=some k->k < C) (hl:∀ k,lv.ownBlock=some k->k < C) (h2:W.ownsRow C 3 1 v2 m ys) (gr:W.grownBy W' v2.ownBlock):Two V W' u nu fu lv nl fl:=
 ⟨own_overB h.ru hu h2 gr,own_overB h.rl hl h2 gr,h.ap⟩
theorem Two.new {C m nl':Nat} {v':Value} {f' fl':Nat->Int} (h:Two V W u nu fu lv nl fl) (hu:∀ k,u.ownBlock=some k->k < C) (own:W.ownsRow C 3 1 v' m (intsL m f')) (hC:V.heap.size<=C) (em:m=nl') (ef:∀ j,j < nl'->f' j=fl' j):Two V W u nu fu v' nl' fl':=by
 subst em
 refine ⟨h.ru,?_,fun k e q=>?_⟩
 ·rw [← intsL_congr ef]
  exact ownD_base own hC
 ·have a1:=hu k e
  have a2:=(own.lt k q).1
  omega
theorem Two.lo {g c k:Nat} (h:Two V W u nu fu (.slice (some ⟨g,0,none⟩) nl c) nl fl) (hf:∀ j,j < nl->-9223372036854775808<=fl j/\fl j < 9223372036854775808) (hk:k < nl):SliceI W (.slice (some ⟨g,0,none⟩) k c) k fl:=by
 have h2:=SliceI.sub (own_ints h.rl hf) 0 k (Nat.zero_le _) (by omega)
 rw [sliced_0,Nat.sub_zero] at h2
 exact h2.cg fun j _=>by rw [Nat.zero_add]
theorem Two.hi {g c k:Nat} (h:Two V W u nu fu (.slice (some ⟨g,0,none⟩) nl c) nl fl) (hf:∀ j,j < nl->-9223372036854775808<=fl j/\fl j < 9223372036854775808) (hk:k < nl):SliceI W (sliced (some ⟨g,0,none⟩) (k+1) nl c 1) (nl - (k+1)) (fun j=>fl (k+1+j)):=
 SliceI.sub (own_ints h.rl hf) (k+1) nl hk (Nat.le_refl _)
end
end Go.Proofs.Ytmjpneaccjlpkaa.Prm

namespace Go.Proofs.Ytmjpneaccjlpkaa.Prm
open Go.RowKit Gf8 Aes By8 Cel Cf Tap Drw
/- Stage 11's reference: Unrank; From of any number. Written by tools/mkP9f.py. -/
set_option maxRecDepth 20000 in
theorem rfrom (n:Int) (d:Nat->Int) (m:Nat) (v:Value) (V:World) (hv:SliceI V v m d) (hm17:m<=17592186043904) :
  Calls Try.prog 53 #[.int .i64 n,v] V fun e w'=>∃ r,e=.returned (.tuple #[r,.int .i64 ((frE n d m:Nat):Int)])/\w'.ownsRow V.heap.size 3 1 r (zl (frE n d m) n.toNat) (intsL (zl (frE n d m) n.toNat) (fun j=>(frA n.toNat (gN d) m j:Int)))/\Below V.heap.size V w':=by
 by_cases h:n < 0
 ·have hE:frE n d m=2:=if_pos h
  rw [hE,zl_no (by decide)]
  clear hv hm17 hE
  go_enter Try.func53,Try.ntmps53
  go_wp2
  refine bodyPost_ret (results_tmp2 rfl _ _ _) rfl ⟨_,rfl,World.ownsRow_nil _ _ _ _,Below.refl _ _⟩
 ·obtain ⟨N,rfl⟩:∃ N:Nat,n=N:=⟨n.toNat,by omega⟩
  refine (rfrom_nat N d m v V hv hm17).mono ?_
  rintro e w' ⟨r,h1,h2,h3⟩
  rw [Int.toNat_natCast] at h2 ⊢
  exact ⟨r,h1,h2,h3⟩
end Go.Proofs.Ytmjpneaccjlpkaa.Prm

namespace Go.Proofs.Ytmjpneaccjlpkaa.Prm
open Go.RowKit Gf8 Aes By8 Cel Cf Tap Drw
/- Stage 11's reference: Draws. Written by tools/mkP9g.py. -/
theorem own_offB {W:World} {B n s g k:Nat} {t:TypeId} {v z:Value} {xs:List Value} (h:W.ownsRow B t s v n xs) (hv:v.ownBlock ≠ some g):(W.setCell ⟨g,k,none⟩ z).ownsRow B t s v n xs:=by
 refine ⟨h.1,?_⟩
 rcases h.2 with h | ⟨g1,cap,cur,e,hB,h1,hr⟩
 ·exact Or.inl h
 ·refine Or.inr ⟨g1,cap,cur,e,hB,?_,hr⟩
  subst e
  rw [Below.heap_setCell _ _ _ _ (fun q=>hv (by show some g1=some g; have q2:g1=g:=q; rw [q2]))]
  exact h1
structure Thr (V W:World) (va vt:Value) (n:Nat) (fa ft:Nat->Int) (u:Value) (nu:Nat) (fu:Nat->Int):Prop where
 ra:W.ownsRow V.heap.size 3 1 va n (intsL n fa)
 rt:W.ownsRow V.heap.size 3 1 vt n (intsL n ft)
 ru:W.ownsRow V.heap.size 3 1 u nu (intsL nu fu)
 nat:∀ k,va.ownBlock=some k->vt.ownBlock ≠ some k
 nau:∀ k,u.ownBlock=some k->va.ownBlock ≠ some k/\vt.ownBlock ≠ some k
section
variable {V W W':World} {va vt u:Value} {n nu g c:Nat} {fa ft fu:Nat->Int}
theorem Thr.on (h:Thr V W va vt n fa ft u nu fu) (b:Below W.heap.size W W'):Thr V W' va vt n fa ft u nu fu:=⟨ownD_below h.ra b,ownD_below h.rt b,ownD_below h.ru b,h.nat,h.nau⟩
theorem Thr.atA {j:Nat} (h:Thr V W va vt n fa ft u nu fu) (e:va=.slice (some ⟨g,0,none⟩) n c) (hj:j < n):W.cell? ⟨g,0+j,none⟩=some (.int .i64 (fa j))/\W.frozen? ⟨g,0+j,none⟩=false:=by
 have h1:=h.ra
 rw [e] at h1
 exact own_cellI h1 hj
theorem Thr.atT {j:Nat} (h:Thr V W va vt n fa ft u nu fu) (e:vt=.slice (some ⟨g,0,none⟩) n c) (hj:j < n):W.cell? ⟨g,0+j,none⟩=some (.int .i64 (ft j))/\W.frozen? ⟨g,0+j,none⟩=false:=by
 have h1:=h.rt
 rw [e] at h1
 exact own_cellI h1 hj
theorem Thr.setA {j:Nat} (h:Thr V W va vt n fa ft u nu fu) (e:va=.slice (some ⟨g,0,none⟩) n c) (z:Int):Thr V (W.setCell ⟨g,0+j,none⟩ (.int .i64 z)) va vt n (fun i=>if i=j then z else fa i) ft u nu fu:=by
 have hb:va.ownBlock=some g:=by rw [e]; rfl
 refine ⟨?_,own_offB h.rt (h.nat g hb),own_offB h.ru (fun q=>(h.nau g q).1 hb),h.nat,h.nau⟩
 have h1:=h.ra
 rw [e] at h1 ⊢
 exact own_setF z h1
theorem Thr.setT {j:Nat} (h:Thr V W va vt n fa ft u nu fu) (e:vt=.slice (some ⟨g,0,none⟩) n c) (z:Int):Thr V (W.setCell ⟨g,0+j,none⟩ (.int .i64 z)) va vt n fa (fun i=>if i=j then z else ft i) u nu fu:=by
 have hb:vt.ownBlock=some g:=by rw [e]; rfl
 refine ⟨own_offB h.ra (fun q=>h.nat g q hb),?_,own_offB h.ru (fun q=>(h.nau g q).2 hb),h.nat,h.nau⟩
 have h1:=h.rt
 rw [e] at h1 ⊢
 exact own_setF z h1
theorem Thr.cgA {fa':Nat->Int} (h:Thr V W va vt n fa ft u nu fu) (e:∀ j,j < n->fa j=fa' j):Thr V W va vt n fa' ft u nu fu:=⟨by rw [← intsL_congr e]; exact h.ra,h.rt,h.ru,h.nat,h.nau⟩
theorem Thr.cgT {ft':Nat->Int} (h:Thr V W va vt n fa ft u nu fu) (e:∀ j,j < n->ft j=ft' j):Thr V W va vt n fa ft' u nu fu:=⟨h.ra,by rw [← intsL_congr e]; exact h.rt,h.ru,h.nat,h.nau⟩
end
theorem stepAppT {V W:World} {va vt u:Value} {n nu g:Nat} {fa ft fu:Nat->Int} {ops:Array Oper} {Q:Exit->Act->World->Prop} {K:Act->World->Prop} {j:Nat} {o:Oper} {a:Act} {s x:Operand} (hos:ops[j]?=some o) (hgd:Region.wanted o (yielded ops a.tmps)=true)
  (ho:o.op=.call { callee:=.builtin .append,args:=#[s,x],argTypes:=#[24,24] }) (hs:a.eval s=u) (hx:a.eval x=.slice (some ⟨g,0,none⟩) 1 1) (h:Thr V W va vt n fa ft u nu fu) (hg:W.heap[g]?=some (.cells #[.int .i64 (fu nu)] 3)) (hn:nu+1<=17592186044416) (hB:V.heap.size<=W.heap.size)
  (hK:∀ v' W',Thr V W' va vt n fa ft v' (nu+1) fu->W.grownBy W' u.ownBlock->K (a.put o.dst v') W'):wpOp Try.prog ops Q j K a W:=by
 obtain ⟨i,i1,i2,i3,i4⟩:=infoI
 obtain ⟨v',W',run,q1,q2⟩:=execAppO (W:=W) (news:=[.int .i64 (fu nu)]) ho Try.underlying24 i1 i2 i3 i4 rfl (by decide) hs h.ru hx rfl (fun j u hu=>by
  rw [Go.WideShapes.add_plain,cell_of_row _ _ _ _ _ _ hg,Nat.zero_add,← Array.getElem?_toList]
  exact hu) (fun u hu=>by
  obtain rfl:=List.mem_singleton.1 hu
  rfl) (by unfold maxLen; omega) (by omega) hB
 obtain ⟨v2,W2,r2,pl⟩:=run_placeI W o.type _ nu g u fu (fu nu) h.ru hg hn
 have r3:(execOp a.eval o).run Try.prog W=.ok (.value v2) W2:=by
  unfold execOp
  simp only [ho,resolve,invoke,builtin,Sem.run_bind,Sem.run_pure,Result.andThen_ok,List.map_toArray,List.map_cons,List.map_nil,hs,hx,r2]
 have r4:=run.symm.trans r3
 injection r4 with e1 e2
 injection e1 with e1
 subst e1
 rw [← intsL_succ] at q1
 refine stepV hos hgd run (hK v' W' ⟨ownW_grown h.ra q2 (fun k e q=>(h.nau k q).1 e),ownW_grown h.rt q2 (fun k e q=>(h.nau k q).2 e),q1,h.nat,fun k e=>?_⟩ q2)
 rcases pl k e with e3 | e3
 ·exact h.nau k e3
 ·exact ⟨fun q=>by have:=(h.ra.lt k q).2; omega,fun q=>by have:=(h.rt.lt k q).2; omega⟩
theorem dr_a {n I J w Y k:Nat} {g:Nat->Nat} (hnext:drA n g (k+1)=swp (drA n g k) I J) (eY:drA n g k I=Y) (hAJ:drA n g k J=w) (j:Nat):(fun i=>if i=J then ((Y:Nat):Int) else (fun j=>if j=I then ((w:Nat):Int) else (fun j=>(drA n g k j:Int)) j) i) j=(fun j=>(drA n g (k+1) j:Int)) j:=by
 show (if j=J then ((Y:Nat):Int) else if j=I then ((w:Nat):Int) else (drA n g k j:Int))=((drA n g (k+1) j:Nat):Int)
 rw [hnext]
 by_cases q:j=J
 ·subst q
  rw [if_pos rfl,swp_j,eY]
 ·rw [if_neg q]
  by_cases q2:j=I
  ·subst q2
   rw [if_pos rfl,swp_i,hAJ]
  ·rw [if_neg q2,swp_o q2 q]
theorem dr_t {n I J w Y k:Nat} {g:Nat->Nat} (hP:IsP (drA n g k) n) (hI:I < n) (hJ:J < n) (hnext:drA n g (k+1)=swp (drA n g k) I J) (eY:drA n g k I=Y) (hAJ:drA n g k J=w) {j:Nat} (hj:j < n):(fun i=>if i=w then ((I:Nat):Int) else (fun j=>if j=Y then ((J:Nat):Int) else (fun j=>(posN (drA n g k) j n:Int)) j) i) j=(fun j=>(posN (drA n g (k+1)) j n:Int)) j:=by
 show (if j=w then ((I:Nat):Int) else if j=Y then ((J:Nat):Int) else (posN (drA n g k) j n:Int))=((posN (drA n g (k+1)) j n:Nat):Int)
 rw [hnext]
 have hB:=isP_swp hP hI hJ
 by_cases q:j=w
 ·subst q
  have h1:posN (swp (drA n g k) I J) (swp (drA n g k) I J I) n=I:=inv_of hB hI
  rw [swp_i,hAJ] at h1
  rw [if_pos rfl,h1]
 ·rw [if_neg q]
  by_cases q2:j=Y
  ·subst q2
   have h1:posN (swp (drA n g k) I J) (swp (drA n g k) I J J) n=J:=inv_of hB hJ
   rw [swp_j,eY] at h1
   rw [if_pos rfl,h1]
  ·rw [if_neg q2]
   obtain ⟨i,hi,e⟩:=surj hP j hj
   have h1:posN (drA n g k) (drA n g k i) n=i:=inv_of hP hi
   have h2:posN (swp (drA n g k) I J) (swp (drA n g k) I J i) n=i:=inv_of hB hi
   have n1:i ≠ I:=fun z=>q2 (by rw [← e,z]; exact eY)
   have n2:i ≠ J:=fun z=>q (by rw [← e,z]; exact hAJ)
   rw [swp_o n1 n2,e] at h2
   rw [e] at h1
   rw [h1,h2]
set_option maxRecDepth 100000 in
set_option maxHeartbeats 4000000 in
theorem rdraws (f:Nat->Int) (n:Nat) (v:Value) (V:World) (hv:SliceI V v n f) (hn17:n<=17592186044416) :
  Calls Try.prog 33 #[v] V fun e w'=>∃ r,e=.returned (.tuple #[r,.int .i64 ((pE f n:Nat):Int)])/\w'.ownsRow V.heap.size 3 1 r (zl (pE f n) (n - 1)) (intsL (zl (pE f n) (n - 1)) (fun j=>(drD n (gN f) j:Int)))/\Below V.heap.size V w':=by
 obtain ⟨ia,ic,rfl,-,-,hsh⟩:=id hv.shape
 have FI:=hv
 go_enter Try.func33,Try.ntmps33
 refine wp_seq ?_
 refine wo_ 63 [(0,.slice ia n ic)] ?_
 rintro a A ⟨t0,-⟩
 refine wi_ A (h1_ t0) (rf_ [] (h1_ t0) ?_)
 rintro a A - ⟨t0,-⟩
 have BW:Below V.heap.size V V:=Below.refl _ _
 have BB:=BW
 refine wp_seq (wp_seq ?_)
 by_cases hok:okQ f n n=true
 ·refine wi_ A (h1_ t0) (rc_ 1 (rcheck f n _ V (FI.on BB) hn17) (cb_ fun X1 bQ=>?_))
  replace BB:=BB.trans (bQ.mono BB.size)
  clear bQ
  refine rv_ 2 (.bool false) (fun a e=>execDec (execNeN (p:=pE f n) (q:=0) rfl (e _) rfl) (decide_eq_false (by have:=pE_ok hok; omega))) (rf_ [(13,.bool false)] (h1_ t0) ?_)
  rintro a A ⟨t13,-⟩ ⟨t0,-⟩
  refine wp_cond_false t13 (wp_skip ?_)
  clear t13
  obtain ⟨hrange,_⟩:=okQ_iff.1 hok
  have hP:IsP (gN f) n:=isP_of hok
  refine wp_seq ?_
  refine wi_ A (h1_ t0) (rv_ 1 (.int .i64 ((n:Nat):Int)) (fun a e=>execLenI (len:=n) rfl (e _) ((FI.on BB)).shp) (rc_ 2 (rident (n:Int) X1 (by omega)) fun e X3_1 hh=>?_))
  obtain ⟨v16,he,hk,hb⟩:=hh
  rw [Int.toNat_natCast] at hk
  refine ⟨_,he,?_⟩
  have bQ:Below X1.heap.size X1 X3_1:=hb
  have Fv16:(X3_1.ownsRow V.heap.size 3 1 v16 (n) (intsL (n) (fun j=>(j:Int)))):=ownD_base hk (BB).size
  replace BB:=BB.trans (bQ.mono BB.size)
  clear bQ
  refine rv_ 4 (.int .i64 ((n:Nat):Int)) (fun a e=>execLenI (len:=n) rfl (e _) ((FI.on BB)).shp) (rc_ 5 (rident (n:Int) X3_1 (by omega)) fun e X3 hh=>?_)
  obtain ⟨v19,he,hk,hb⟩:=hh
  rw [Int.toNat_natCast] at hk
  refine ⟨_,he,?_⟩
  have bQ:Below X3_1.heap.size X3_1 X3:=hb
  have Fv19:(X3.ownsRow V.heap.size 3 1 v19 (n) (intsL (n) (fun j=>(j:Int)))):=ownD_base hk (BB).size
  have Fnat:(∀ k,v16.ownBlock=some k->v19.ownBlock ≠ some k):=fun k e q=>by have a1:=(Fv16.lt k e).2; have a2:=(hk.lt k q).1; omega
  replace Fv16:=(ownD_below Fv16 bQ)
  replace BB:=BB.trans (bQ.mono BB.size)
  clear bQ
  refine rf_ [(4,v16),(5,v19)] (h1_ t0) ?_
  rintro a A ⟨t4,t5,-⟩ ⟨t0,-⟩
  refine wp_seq ?_
  refine wi_ A (h3_ t0 t4 t5) (rf_ [(6,.slice none 0 0)] (h3_ t0 t4 t5) ?_)
  rintro a A ⟨t6,-⟩ ⟨t0,t4,t5,-⟩
  have FT:Thr V X3 v16 v19 n (fun j=>(drA n (gN f) 0 j:Int)) (fun j=>(posN (drA n (gN f) 0) j n:Int)) (.slice none 0 0) 0 (fun j=>(drD n (gN f) j:Int)):=⟨Fv16,by rw [intsL_congr (g:=fun j=>(j:Int)) (fun j hj=>by rw [show posN (drA n (gN f) 0) j n=j from inv_of (isP_id n) hj])]; exact Fv19,World.ownsRow_nil _ _ _ _,Fnat,fun k e=>by cases e⟩
  clear Fv16 Fv19 Fnat
  refine wp_seq (wp_seq ?_)
  refine wi_ A (h4_ t0 t4 t5 t6) (rv_ 1 (.int .i64 ((n:Nat):Int)) (fun a e=>execLenI (len:=n) rfl (e _) ((FI.on BB)).shp) (rv_ 2 (.int .i64 ((n:Int) - 1 - ((0:Nat):Int))) (fun a e=>execSubIg (z:=(n:Int) - 1 - ((0:Nat):Int)) rfl (e _) rfl (by omega) (by omega) (by omega)) (rf_ [(7,.int .i64 ((n:Int) - 1 - ((0:Nat):Int)))] (h4_ t0 t4 t5 t6) ?_)))
  rintro a A ⟨t7,-⟩ ⟨t0,t4,t5,t6,-⟩
  refine wp_block ?_
  refine wp_loop (fun a W=>∃ (k:Nat) (u:Value),k<=n - 1/\(a.tmps.size=63/\a.defers=[])/\a.eval (.tmp 0)=.slice ia n ic/\a.eval (.tmp 4)=v16/\a.eval (.tmp 5)=v19/\a.eval (.tmp 6)=u/\a.eval (.tmp 7)=.int .i64 ((n:Int) - 1 - (k:Int))/\Below V.heap.size V W/\(Thr V W v16 v19 n (fun j=>(drA n (gN f) k j:Int)) (fun j=>(posN (drA n (gN f) k) j n:Int)) u k (fun j=>(drD n (gN f) j:Int)))) (fun a _=>(intOf (a.eval (.tmp 7))).toNat) ⟨0,_,Nat.zero_le _,A,t0,t4,t5,t6,t7,BB,FT⟩ ?_
  rintro a XL ⟨k,u,hk,A,t0,t4,t5,t6,t7,BB,FT⟩
  have es:=t7
  refine wp_seq (wp_seq ?_)
  refine wi_ A (h5_ t0 t4 t5 t6 t7) (rv_ 1 (.bool (decide (0 < (n:Int) - 1 - (k:Int)))) (fun a e=>execGtIg (q:=0) rfl (e _) rfl) (rf_ [(24,.bool (decide (0 < (n:Int) - 1 - (k:Int))))] (h5_ t0 t4 t5 t6 t7) ?_))
  rintro a A ⟨t24,-⟩ ⟨t0,t4,t5,t6,t7,-⟩
  by_cases hlt:0 < (n:Int) - 1 - (k:Int)
  ·rw [decide_eq_true hlt] at t24
   refine wp_cond_true t24 (wp_skip ?_)
   clear t24
   refine wp_seq (wp_block ?_)
   obtain ⟨I,eI⟩:∃ I:Nat,n - 1 - k=I:=⟨_,rfl⟩
   have eI2:(n:Int) - 1 - (k:Int)=(I:Int):=by omega
   rw [eI2] at t7
   have hI:I < n:=by omega
   have hIk:I=n - k - 1:=by omega
   obtain ⟨w,ew⟩:∃ w:Nat,f I=w:=⟨(f I).toNat,by have:=hrange I hI; omega⟩
   have hw:w < n:=by have:=hrange I hI; omega
   have hg:gN f I=w:=by show (f I).toNat=w; omega
   obtain ⟨hPA,hdone⟩:=drA_done hP (k:=k) (by omega)
   obtain ⟨J,eJ⟩:∃ J,posN (drA n (gN f) k) w n=J:=⟨_,rfl⟩
   have hinv:=inv_at hPA hw
   have hJn:J < n:=by rw [← eJ]; exact hinv.1
   have hAJ:drA n (gN f) k J=w:=by rw [← eJ]; exact hinv.2
   have hdr:drD n (gN f) k=J:=by
    have h1:=drD_lt (f:=gN f) (n:=n) (k:=k) (by omega)
    have h2:drA n (gN f) k (drD n (gN f) k)=w:=by
     unfold drD
     rw [eI,hg]
     refine posN_at (j:=J) ?_ hAJ
     rcases Nat.lt_or_ge J (n - k) with q | q
     ·exact q
     ·have h3:=hdone J q hJn
      rw [hAJ,← hg] at h3
      have:=hP.inj I J hI hJn h3
      omega
    exact hPA.inj _ _ (by omega) hJn (h2.trans hAJ.symm)
   have hnext:drA n (gN f) (k+1)=swp (drA n (gN f) k) I J:=by
    show swp (drA n (gN f) k) (n - 1 - k) (drD n (gN f) k)=_
    rw [eI,hdr]
   obtain ⟨Y,eY⟩:∃ Y,drA n (gN f) k I=Y:=⟨_,rfl⟩
   have hY:Y < n:=by rw [← eY]; exact hPA.lt I hI
   obtain ⟨ib,io,rfl,hib,hcell⟩:=hsh (by omega)
   have cW:∀ X,Below V.heap.size V X->X.cell? ⟨ib,io+I,none⟩=some (.int .i64 ((w:Nat):Int)):=fun X hX=>by rw [cell_below hX hib,hcell I hI,ew]
   obtain ⟨ga,ca,ea,hga,_⟩:=ownL_some9 FT.ra (by omega)
   obtain ⟨gt,ct,et,hgt,_⟩:=ownL_some9 FT.rt (by omega)
   refine wp_seq ?_
   refine wi_ A (h5_ t0 t4 t5 t6 t7) (rv_ 3 (.pointer (some ⟨ib,io+I,none⟩)) (fun a e=>execIdxN (k:=I) rfl (e _) (e _) hI) (rv_ 4 (.int .i64 ((w:Nat):Int)) (fun a e=>execLd3 rfl (e _) (cW XL BB)) (rv_ 5 (.pointer (some ⟨gt,0+w,none⟩)) (fun a e=>execIdxN (k:=w) rfl ((e _).trans et) (e _) hw) (rv_ 6 (.int .i64 ((J:Nat):Int)) (fun a e=>execLd3 rfl (e _) (by rw [(FT.atT et hw).1,eJ])) (rf_ [(8,.int .i64 ((J:Nat):Int))] (h5_ t0 t4 t5 t6 t7) ?_)))))
   rintro a A ⟨t8,-⟩ ⟨t0,t4,t5,t6,t7,-⟩
   refine wp_seq ?_
   obtain ⟨g36,egg36⟩:∃ z_:Nat,XL.heap.size=z_:=⟨_,rfl⟩
   refine wi_ A (h6_ t0 t4 t5 t6 t7 t8) (rs_ 2 (fun a e=>?_))
   refine stepV rfl rfl (execBsI (z:=((drD n (gN f) k:Nat):Int)) rfl (by rw [hdr]; exact (e _))) ⟨.slice (some ⟨g36,0,none⟩) 1 1,⟨_,rfl,by subst egg36; rfl⟩,fun X9_1 hX=>?_⟩
   have bQ:Below XL.heap.size XL X9_1:=by subst hX egg36; exact (belNew XL _)
   have Fg36:(X9_1.heap[g36]?=some (.cells #[.int .i64 ((drD n (gN f) k:Nat):Int)] 3)):=by subst hX egg36; exact heapNew XL _
   replace FT:=(FT.on bQ)
   replace BB:=BB.trans (bQ.mono BB.size)
   clear bQ hX egg36 e a
   refine rs_ 3 (fun a e=>?_)
   refine stepAppT rfl rfl rfl (e _) (e _) FT Fg36 (by omega) (BB).size fun v37 X9 t' gr=>⟨_,⟨_,rfl,rfl⟩,eqw ?_⟩
   obtain ⟨BB,FT2⟩:Below V.heap.size V X9/\(Thr V X9 v16 v19 n (fun j=>(drA n (gN f) k j:Int)) (fun j=>(posN (drA n (gN f) k) j n:Int)) v37 (k+1) (fun j=>(drD n (gN f) j:Int))):=⟨(BB).grown gr (BB).size (fun k hk=>(FT.ru.lt k hk).1),t'⟩
   clear FT Fg36 e a
   refine rf_ [(6,v37)] (h5_ t0 t4 t5 t7 t8) ?_
   rintro a A ⟨t6,-⟩ ⟨t0,t4,t5,t7,t8,-⟩
   refine wp_seq ?_
   refine wj_ [0,1,2,3,4,5,6,7,8,9] [] [3,7] [] A (h6_ t0 t4 t5 t6 t7 t8) (fun X10 bD=>?_)
   refine dw_ 2 (.pointer (some ⟨ga,0+I,none⟩)) (fun a X e=>execIdxN (k:=I) rfl ((e _).trans ea) (e _) hI) (dv_ 3 (.int .i64 ((Y:Nat):Int)) (fun a X e hb=>execLd3 rfl (e _) (by rw [((FT2.on hb).atA ea hI).1,eY])) (dw_ 6 (.pointer (some ⟨ga,0+J,none⟩)) (fun a X e=>execIdxN (k:=J) rfl ((e _).trans ea) (e _) hJn) (dv_ 7 (.int .i64 ((w:Nat):Int)) (fun a X e hb=>execLd3 rfl (e _) (by rw [((FT2.on hb).atA ea hJn).1,hAJ])) (dz_ [(9,.int .i64 ((Y:Nat):Int)),(10,.int .i64 ((w:Nat):Int))] (h6_ t0 t4 t5 t6 t7 t8) ?_))))
   rintro a A ⟨t9,t10,-⟩ ⟨t0,t4,t5,t6,t7,t8,-⟩
   replace FT2:=(FT2.on bD)
   replace BB:=BB.trans (bD.mono BB.size)
   clear bD
   refine wp_seq ?_
   refine wi_ A (h8_ t0 t4 t5 t6 t7 t8 t9 t10) (rv_ 6 (.pointer (some ⟨ga,0+I,none⟩)) (fun a e=>execIdxN (k:=I) rfl ((e _).trans ea) (e _) hI) (rs_ 7 (fun a e=>?_)))
   obtain ⟨hc_,hf_⟩:=FT2.atA ea hI
   refine stepS rfl rfl (execStI9 rfl (e _) (e _) hc_ hf_) ⟨_,⟨_,rfl,rfl⟩,fun X11_1 hX=>?_⟩
   obtain ⟨BB,FT3⟩:Below V.heap.size V X11_1/\(Thr V X11_1 v16 v19 n (fun j=>if j=I then ((w:Nat):Int) else (fun j=>(drA n (gN f) k j:Int)) j) (fun j=>(posN (drA n (gN f) k) j n:Int)) v37 (k+1) (fun j=>(drD n (gN f) j:Int))):=by subst hX; exact ⟨(BB).setCell hga _,FT2.setA ea ((w:Nat):Int)⟩
   clear FT2 hX e a
   refine rv_ 8 (.pointer (some ⟨ga,0+J,none⟩)) (fun a e=>execIdxN (k:=J) rfl ((e _).trans ea) (e _) hJn) (rs_ 9 (fun a e=>?_))
   obtain ⟨hc_,hf_⟩:=FT3.atA ea hJn
   refine stepS rfl rfl (execStI9 rfl (e _) (e _) hc_ hf_) ⟨_,⟨_,rfl,rfl⟩,fun X11 hX=>?_⟩
   obtain ⟨BB,FT4⟩:Below V.heap.size V X11/\(Thr V X11 v16 v19 n (fun j=>(drA n (gN f) (k+1) j:Int)) (fun j=>(posN (drA n (gN f) k) j n:Int)) v37 (k+1) (fun j=>(drD n (gN f) j:Int))):=by subst hX; exact ⟨(BB).setCell hga _,(FT3.setA ea ((Y:Nat):Int)).cgA (fun j _=>dr_a hnext eY hAJ j)⟩
   clear FT3 hX e a
   refine rf_ [] (h8_ t0 t4 t5 t6 t7 t8 t9 t10) ?_
   rintro a A - ⟨t0,t4,t5,t6,t7,t8,t9,t10,-⟩
   refine wi_ A (h8_ t0 t4 t5 t6 t7 t8 t9 t10) (rv_ 6 (.pointer (some ⟨gt,0+Y,none⟩)) (fun a e=>execIdxN (k:=Y) rfl ((e _).trans et) (e _) hY) (rs_ 7 (fun a e=>?_)))
   obtain ⟨hc_,hf_⟩:=FT4.atT et hY
   refine stepS rfl rfl (execStI9 rfl (e _) (e _) hc_ hf_) ⟨_,⟨_,rfl,rfl⟩,fun X12_1 hX=>?_⟩
   obtain ⟨BB,FT5⟩:Below V.heap.size V X12_1/\(Thr V X12_1 v16 v19 n (fun j=>(drA n (gN f) (k+1) j:Int)) (fun j=>if j=Y then ((J:Nat):Int) else (fun j=>(posN (drA n (gN f) k) j n:Int)) j) v37 (k+1) (fun j=>(drD n (gN f) j:Int))):=by subst hX; exact ⟨(BB).setCell hgt _,FT4.setT et ((J:Nat):Int)⟩
   clear FT4 hX e a
   refine rv_ 8 (.pointer (some ⟨gt,0+w,none⟩)) (fun a e=>execIdxN (k:=w) rfl ((e _).trans et) (e _) hw) (rs_ 9 (fun a e=>?_))
   obtain ⟨hc_,hf_⟩:=FT5.atT et hw
   refine stepS rfl rfl (execStI9 rfl (e _) (e _) hc_ hf_) ⟨_,⟨_,rfl,rfl⟩,fun X12 hX=>?_⟩
   obtain ⟨BB,FT6⟩:Below V.heap.size V X12/\(Thr V X12 v16 v19 n (fun j=>(drA n (gN f) (k+1) j:Int)) (fun j=>(posN (drA n (gN f) (k+1)) j n:Int)) v37 (k+1) (fun j=>(drD n (gN f) j:Int))):=by subst hX; exact ⟨(BB).setCell hgt _,(FT5.setT et ((I:Nat):Int)).cgT (fun j hj=>dr_t hPA hI hJn hnext eY hAJ hj)⟩
   clear FT5 hX e a
   refine rf_ [] (h5_ t0 t4 t5 t6 t7) ?_
   rintro a A - ⟨t0,t4,t5,t6,t7,-⟩
   refine wi_ A (h5_ t0 t4 t5 t6 t7) (rv_ 1 (.int .i64 ((n:Int) - 1 - ((k+1:Nat):Int))) (fun a e=>execSubIg (z:=(n:Int) - 1 - ((k+1:Nat):Int)) rfl (e _) rfl (by omega) (by omega) (by omega)) (rf_ [(7,.int .i64 ((n:Int) - 1 - ((k+1:Nat):Int)))] (h4_ t0 t4 t5 t6) ?_))
   rintro a A ⟨t7,-⟩ ⟨t0,t4,t5,t6,-⟩
   refine ⟨⟨k+1,_,by omega,A,t0,t4,t5,t6,t7,BB,FT6⟩,?_⟩
   show (intOf (a.eval (.tmp 7))).toNat < (intOf (Act.eval _ (.tmp 7))).toNat
   rw [t7,es]
   show ((n:Int) - 1 - ((k+1:Nat):Int)).toNat < ((n:Int) - 1 - (k:Int)).toNat
   omega
  ·rw [decide_eq_false hlt] at t24
   refine wp_cond_false t24 ?_
   refine wp_exit ?_
   first | with_reducible refine exit_in ?_ | with_reducible refine exit_then (exit_in ?_) | with_reducible refine exit_then (exit_then (exit_in ?_)) | refine exit_in ?_ | refine exit_then (exit_in ?_) | refine exit_then (exit_then (exit_in ?_))
   clear t24 es t7
   have hin:k=n - 1:=by omega
   have FO:=FT.ru
   clear FT
   rw [hin] at FO
   refine wp_seq ?_
   refine wi_ A (h4_ t0 t4 t5 t6) (rg_ [(2,u),(3,.int .i64 ((0:Nat):Int))] ?_)
   rintro a A ⟨t2,t3,-⟩
   have hE:pE f n=0:=pE_ok hok
   rw [hE,zl_ok]
   refine wp_ret ?_
   refine bodyPost_ret (results_tmp2 rfl _ _ _) A.2 ⟨_,?_,FO,BB⟩
   show Ending.returned (.tuple #[a.eval (.tmp 2),a.eval (.tmp 3)])=_
   rw [t2,t3]
 ·refine wi_ A (h1_ t0) (rc_ 1 (rcheck f n _ V (FI.on BB) hn17) (cb_ fun X1 bQ=>?_))
  replace BB:=BB.trans (bQ.mono BB.size)
  clear bQ
  refine rv_ 2 (.bool true) (fun a e=>execDec (execNeN (p:=pE f n) (q:=0) rfl (e _) rfl) (decide_eq_true (by have:=pE_no hok; omega))) (rf_ [(13,.bool true)] (h1_ t0) ?_)
  rintro a A ⟨t13,-⟩ ⟨t0,-⟩
  refine wp_cond_true t13 ?_
  refine wp_seq ?_
  refine wi_ A (h1_ t0) (rg_ [(2,.slice none 0 0),(3,.int .i64 ((110:Nat):Int))] ?_)
  rintro a A ⟨t2,t3,-⟩
  have hE:pE f n=110:=pE_no hok
  rw [hE,zl_no (by decide)]
  refine wp_ret ?_
  repeat (first | with_reducible refine ret_in ?_ | with_reducible refine ret_then ?_)
  refine bodyPost_ret (results_tmp2 rfl _ _ _) A.2 ⟨_,?_,World.ownsRow_nil _ _ _ _,BB⟩
  show Ending.returned (.tuple #[a.eval (.tmp 2),a.eval (.tmp 3)])=_
  rw [t2,t3]
end Go.Proofs.Ytmjpneaccjlpkaa.Prm

namespace Go.Proofs.Ytmjpneaccjlpkaa.Prm
open Go.RowKit Gf8 Aes By8 Cel Cf Tap Drw
/- What the program's package keeps (Impl); the laws' same, awake; PermChecks, PermMakes, PermPairs over any Impl. Written by tools/mkP9h.py. -/
theorem zl_le (E L:Nat):zl E L<=L:=by
 unfold zl
 by_cases h:E=0
 ·rw [if_pos h]; exact Nat.le_refl _
 ·rw [if_neg h]; exact Nat.zero_le _
end Go.Proofs.Ytmjpneaccjlpkaa.Prm
