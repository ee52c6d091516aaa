import Derived.Test.YtjckkdjldnobmaaGreatDoorC8a
import Derived.Test.YtjckkdjldnobmaaGreatDoorB7m
namespace Go.Proofs.YtjckkdjldnobmaaGreatDoor.Cas
open Go.RowKit Gf8 Aes By8 Cel Cf Tap Drw Dro Oni Rou
/- What a package of cascades keeps; CascadeSubmits. Written by tools/mkC8b.py. -/
structure Aw (G:World->Prop):Prop where
 new0:∀ V:World,Calls Tryz.prog 11 #[.slice none 0 0] V fun e w'=>e=.returned (.tuple #[.pointer none,.int .i64 ((80:Nat):Int)])/\Below V.heap.size V w'
 round0:∀ V:World,Calls Tryz.prog 12 #[.pointer none,.int .i64 ((0:Nat):Int),.slice none 0 0,.slice none 0 0,.slice none 0 0] V fun e w'=>e=.returned (.slice none 0 0)/\Below V.heap.size V w'
 pay0:∀ V:World,G V->Calls Tryz.prog 9 #[.slice none 0 0] V fun e w'=>(∃ (r:Value) (x:Nat),e=.returned (.tuple #[r,.int .i64 (x:Int)])/\x ≠ 0)/\Below V.heap.size V w'
 sub0:∀ V:World,Calls Tryz.prog 6 #[.slice none 0 0,.int .i64 ((0:Nat):Int),.slice none 0 0,.slice none 0 0] V fun e w'=>(∃ (r:Value) (x:Nat),e=.returned (.tuple #[r,.int .i64 (x:Int)])/\x ≠ 0)/\Below V.heap.size V w'
structure Impl (G:World->Prop):Prop extends Aw G where
 submit:∀ (h hn n:Nat) (ep:Int) (mv nv pv:Value) (xv:Nat->Value) (lk:Nat->Nat) (mk q:Nat->Nat->Nat) (p:Nat->Nat) (V:World),G V->Ls V mv h xv lk mk->Nons V nv hn q->SliceZ V pv n p->h * 24<=140737488351232->hn<=140737488351232->n<=140737488351232->
  Calls Tryz.prog 6 #[mv,.int .i64 ep,nv,pv] V fun e w'=>(∃ r,e=.returned (.tuple #[r,.int .i64 ((suE h hn lk ep n:Nat):Int)])/\w'.ownsRow V.heap.size 5 1 r (suN h hn lk ep n) (bytesL (suN h hn lk ep n) (suF h mk ep q n p)))/\Below V.heap.size V w'
theorem suF_lt {h hn n:Nat} {ep:Int} {lk:Nat->Nat} {mk q:Nat->Nat->Nat} {p:Nat->Nat} (hq:∀ i,i < hn->By (q i)) (hp:∀ j,j < n->p j < 256):∀ j,j < suN h hn lk ep n->suF h mk ep q n p j < 256:=fun j hj=>by
 by_cases h0:kyE lk ep h=0
 ·rw [suN_on h0] at hj
  exact rwF_lt hq hp j hj
 ·rw [suN_no (by unfold suE; rw [if_neg h0]; exact h0)] at hj
  exact absurd hj (Nat.not_lt_zero j)
theorem rsuS (h hn n:Nat) (ep:Int) (mv nv pv:Value) (xv:Nat->Value) (lk:Nat->Nat) (mk q:Nat->Nat->Nat) (p:Nat->Nat) (V:World) (hL:Ls V mv h xv lk mk) (hq:Nons V nv hn q) (hp:SliceZ V pv n p) (hb1:h * 24<=140737488351232) (hb2:hn<=140737488351232) (hb3:n<=140737488351232) :
  Calls Tryz.prog 5 #[mv,.int .i64 ep,nv,pv] V fun e w'=>∃ r,e=.returned (.tuple #[r,.int .i64 ((suE h hn lk ep n:Nat):Int)])/\SliceN w' r (suN h hn lk ep n) (suF h mk ep q n p)/\Below V.heap.size V w':=
 (rsubmit25 h hn n ep mv nv pv xv lk mk q p V hL hq hp hb1 hb2 hb3).mono fun _ _ ⟨⟨r,he,hr⟩,hb⟩=>⟨r,he,own_slice hr (suF_lt hq.by_ hp.sl.bytes),hb⟩
section
variable {o:Oper} {a:Act} {w:World}
theorem execPqC {x:Operand} (ho:o.op=.binOp .eql 41 x (.const (.pointer none)) 41) (hx:a.eval x=.pointer none):(execOp a.eval o).run Tryz.prog w=.ok (.value (.bool true)) w:=by
 unfold execOp
 simp only [ho,hx]
 simp [go_sem]
theorem execLenOc {x:Operand} (ho:o.op=.call { callee:=.builtin .len,args:=#[x],argTypes:=#[44] }) (hx:a.eval x=.slice none 0 0):(execOp a.eval o).run Tryz.prog w=.ok (.value (.int .i64 ((0:Nat):Int))) w:=by
 unfold execOp
 simp only [ho,resolve,invoke,builtin,List.map_toArray,List.map_cons,List.map_nil,hx]
 simp [go_sem]
theorem execBxCl {x:Operand} {mv nv pv:Value} {ep:Int} (ho:o.op=.box 26 x) (hx:a.eval x=.agg #[mv,.int .i64 ep,nv,pv]):(execOp a.eval o).run Tryz.prog w=.ok (.value (.pointer (some ⟨w.heap.size,0,none⟩))) (w.alloc (.cells #[mv,.int .i64 ep,nv,pv] 26)):=by
 unfold execOp
 simp only [ho,hx]
 simp [go_sem]
theorem execFdCl {x:Operand} {b k:Nat} (ho:o.op=.fieldAddr 26 x k) (hx:a.eval x=.pointer (some ⟨b,0,none⟩)) (hk:k < 4):(execOp a.eval o).run Tryz.prog w=.ok (.value (.pointer (some ⟨b,k,none⟩))) w:=by
 unfold execOp
 simp only [ho,hx]
 match k,hk with
 | 0,_=>simp [go_sem]
 | 1,_=>simp [go_sem]
 | 2,_=>simp [go_sem]
 | 3,_=>simp [go_sem]
theorem execLdCl {x:Operand} {b k:Nat} {v:Value} {t:TypeId} (ho:o.op=.load t x) (ht:t=2\/t=22\/t=23\/t=24) (hx:a.eval x=.pointer (some ⟨b,k,none⟩)) (hc:w.cell? ⟨b,k,none⟩=some v):(execOp a.eval o).run Tryz.prog w=.ok (.value v) w:=by
 unfold execOp
 rcases ht with rfl | rfl | rfl | rfl <;> (simp only [ho,hx]; simp [go_sem,hc])
theorem at_cl {W:World} {g k:Nat} {c:Array Value} {t:TypeId} {z:Value} (h:W.heap[g]?=some (.cells c t)) (hz:c[k]?=some z):W.cell? ⟨g,k,none⟩=some z:=by rw [cell_of_row _ _ _ _ _ _ h]; exact hz
end
set_option maxRecDepth 100000 in
set_option maxHeartbeats 4000000 in
theorem awake25 {G:World->Prop} (I:Aw G) (V:World) (hg:∀ W,Below V.heap.size V W->G W) :
  Calls Tryz.prog 4 #[] V fun e w'=>e=.returned (.bool true)/\Below V.heap.size V w':=by
 go_enter Tryz.func4,Tryz.ntmps4
 refine wo_ 39 [] ?_
 rintro a A -
 have BW:Below V.heap.size V V:=Below.refl _ _
 have BB:=BW
 refine wp_seq ?_
 refine wi_ A h0_ (rg_ [] ?_)
 rintro a A -
 refine wp_seq ?_
 refine wi_ A h0_ (rc_ 0 (I.new0 V) (cb_ fun X1 bQ=>?_))
 replace BB:=BB.trans (bQ.mono BB.size)
 clear bQ
 refine rg_ [(1,.pointer none),(2,.int .i64 ((80:Nat):Int))] ?_
 rintro a A ⟨t1,t2,-⟩
 refine wp_seq ?_
 refine wi_ A (h2_ t1 t2) (rc_ 0 (I.sub0 X1) fun e X2 hh=>?_)
 obtain ⟨⟨v12,e4,he,hx_⟩,hb⟩:=hh
 refine ⟨_,he,?_⟩
 have bQ:Below X1.heap.size X1 X2:=hb
 have FQe4:(e4 ≠ 0):=hx_
 replace BB:=BB.trans (bQ.mono BB.size)
 clear bQ
 refine rf_ [(4,.int .i64 ((e4:Nat):Int))] (h2_ t1 t2) ?_
 rintro a A ⟨t4,-⟩ ⟨t1,t2,-⟩
 refine wp_seq ?_
 refine wi_ A (h3_ t1 t2 t4) (rc_ 0 (I.pay0 X2 (hg X2 BB)) fun e X3 hh=>?_)
 obtain ⟨⟨v16,e6,he,hx_⟩,hb⟩:=hh
 refine ⟨_,he,?_⟩
 have bQ:Below X2.heap.size X2 X3:=hb
 have FQe6:(e6 ≠ 0):=hx_
 replace BB:=BB.trans (bQ.mono BB.size)
 clear bQ
 refine rf_ [(6,.int .i64 ((e6:Nat):Int))] (h3_ t1 t2 t4) ?_
 rintro a A ⟨t6,-⟩ ⟨t1,t2,t4,-⟩
 refine wp_seq ?_
 refine wi_ A (h4_ t1 t2 t4 t6) (rv_ 1 (.bool true) (fun a E=>execPqC rfl (E _)) (rv_ 4 (.bool true) (fun a E=>execDec (execEqE (p:=80) (q:=80) rfl (E _) rfl) (decide_eq_true (by omega))) (rv_ 8 (.bool true) (fun a E=>execDec (execNeE (p:=e4) (q:=0) rfl (E _) rfl) (decide_eq_true (by omega))) (rv_ 12 (.bool true) (fun a E=>execDec (execNeE (p:=e6) (q:=0) rfl (E _) rfl) (decide_eq_true (by omega))) (rc_ 16 (I.round0 X3) (cb_ fun X4 bQ=>?_))))))
 replace BB:=BB.trans (bQ.mono BB.size)
 clear bQ
 refine rv_ 17 (.int .i64 ((0:Nat):Int)) (fun a E=>execLenOc rfl (E _)) (rv_ 18 (.bool true) (fun a E=>execDec (execEqN (p:=0) (q:=0) rfl (E _) rfl) (decide_eq_true (by omega))) (rg_ [(0,.bool true)] ?_))
 rintro a A ⟨t0,-⟩
 refine wp_ret ?_
 repeat (first | with_reducible refine ret_in ?_ | with_reducible refine ret_then ?_)
 refine bodyPost_ret (results_tmp rfl _ _ _) A.2 ⟨?_,BB⟩
 show Ending.returned (a.eval (.tmp 0))=_
 rw [t0]
end Go.Proofs.YtjckkdjldnobmaaGreatDoor.Cas
