import Derived.Test.YthmlfglllhmimaaGreatDoorC8a
import Derived.Test.YthmlfglllhmimaaGreatDoorB7h
import Derived.Test.YthmlfglllhmimaaGreatDoorB7k
import Derived.Test.YthmlfglllhmimaaGreatDoorB7f
import Derived.Test.YthmlfglllhmimaaGreatDoorX5c
import Derived.Test.YthmlfglllhmimaaGreatDoorC6
import Derived.Test.YthmlfglllhmimaaGreatDoorZ1
import Derived.Test.YthmlfglllhmimaaGreatDoorI3
import Derived.Test.YthmlfglllhmimaaGreatDoorI2
import Derived.Test.YthmlfglllhmimaaGreatDoorY3
import Derived.Test.YthmlfglllhmimaaGreatDoorX7f
import Derived.Lib.Bytes
import Derived.Deep.RegionWith
import Derived.Test.YthmlfglllhmimaaGreatDoorC8d
namespace Go.Proofs.YthmlfglllhmimaaGreatDoor.Cas
open Go.RowKit Gf8 Aes By8 Cel Cf Tap Drw Dro Oni Rou
/- What a package of cascades keeps; CascadeSubmits. Written by tools/mkC8b.py. -/

/-- What a package of cascades keeps: what a nil one and no bytes are answered; Submit. -/
structure Aw (G : World → Prop) : Prop where
  new0 : ∀ V : World, Calls Tryz.prog 10 #[.slice none 0 0] V fun e w' => e = .returned (.tuple #[.pointer none, .int .i64 ((80 : Nat) : Int)]) ∧ Below V.heap.size V w'
  round0 : ∀ V : World, Calls Tryz.prog 12 #[.pointer none, .int .i64 ((0 : Nat) : Int), .slice none 0 0, .slice none 0 0, .slice none 0 0] V fun e w' => e = .returned (.slice none 0 0) ∧ Below V.heap.size V w'
  pay0 : ∀ V : World, G V → Calls Tryz.prog 8 #[.slice none 0 0] V fun e w' => (∃ (r : Value) (x : Nat), e = .returned (.tuple #[r, .int .i64 (x : Int)]) ∧ x ≠ 0) ∧ Below V.heap.size V w'
  sub0 : ∀ V : World, Calls Tryz.prog 11 #[.slice none 0 0, .int .i64 ((0 : Nat) : Int), .slice none 0 0, .slice none 0 0] V fun e w' => (∃ (r : Value) (x : Nat), e = .returned (.tuple #[r, .int .i64 (x : Int)]) ∧ x ≠ 0) ∧ Below V.heap.size V w'
section
variable {o : Oper} {a : Act} {w : World}
theorem execPqC {x : Operand} (ho : o.op = .binOp .eql 38 x (.const (.pointer none)) 38) (hx : a.eval x = .pointer none) : (execOp a.eval o).run Tryz.prog w = .ok (.value (.bool true)) w := by
  unfold execOp
  simp only [ho, hx]
  simp [go_sem]
theorem execLenOc {x : Operand} (ho : o.op = .call { callee := .builtin .len, args := #[x], argTypes := #[42] }) (hx : a.eval x = .slice none 0 0) : (execOp a.eval o).run Tryz.prog w = .ok (.value (.int .i64 ((0 : Nat) : Int))) w := by
  unfold execOp
  simp only [ho, resolve, invoke, builtin, List.map_toArray, List.map_cons, List.map_nil, hx]
  simp [go_sem]
end
set_option maxRecDepth 100000 in
set_option maxHeartbeats 4000000 in
/-- The laws' awake. -/
theorem awake25 {G : World → Prop} (I : Aw G) (V : World) (hg : ∀ W, Below V.heap.size V W → G W) :
    Calls Tryz.prog 4 #[] V fun e w' => e = .returned (.bool true) ∧ Below V.heap.size V w' := by
  go_enter Tryz.func4, Tryz.ntmps4
  refine wo_ 39 [] ?_
  rintro a A -
  have BW : Below V.heap.size V V := Below.refl _ _
  have BB := BW
  refine wp_seq ?_
  refine wi_ A h0_ (rg_ [] ?_)
  rintro a A -
  refine wp_seq ?_
  refine wi_ A h0_ (rc_ 0 (I.new0 V) (cb_ fun X1 bQ => ?_))
  replace BB := BB.trans (bQ.mono BB.size)
  clear bQ
  refine rg_ [(1, .pointer none), (2, .int .i64 ((80 : Nat) : Int))] ?_
  rintro a A ⟨t1, t2, -⟩
  refine wp_seq ?_
  refine wi_ A (h2_ t1 t2) (rc_ 0 (I.sub0 X1) fun e X2 hh => ?_)
  obtain ⟨⟨v12, e4, he, hx_⟩, hb⟩ := hh
  refine ⟨_, he, ?_⟩
  have bQ : Below X1.heap.size X1 X2 := hb
  have FQe4 : (e4 ≠ 0) := hx_
  replace BB := BB.trans (bQ.mono BB.size)
  clear bQ
  refine rf_ [(4, .int .i64 ((e4 : Nat) : Int))] (h2_ t1 t2) ?_
  rintro a A ⟨t4, -⟩ ⟨t1, t2, -⟩
  refine wp_seq ?_
  refine wi_ A (h3_ t1 t2 t4) (rc_ 0 (I.pay0 X2 (hg X2 BB)) fun e X3 hh => ?_)
  obtain ⟨⟨v16, e6, he, hx_⟩, hb⟩ := hh
  refine ⟨_, he, ?_⟩
  have bQ : Below X2.heap.size X2 X3 := hb
  have FQe6 : (e6 ≠ 0) := hx_
  replace BB := BB.trans (bQ.mono BB.size)
  clear bQ
  refine rf_ [(6, .int .i64 ((e6 : Nat) : Int))] (h3_ t1 t2 t4) ?_
  rintro a A ⟨t6, -⟩ ⟨t1, t2, t4, -⟩
  refine wp_seq ?_
  refine wi_ A (h4_ t1 t2 t4 t6) (rv_ 1 (.bool true) (fun a ee => execPqC rfl (ee _)) (rv_ 4 (.bool true) (fun a ee => execDec (execEqE (p := 80) (q := 80) rfl (ee _) rfl) (decide_eq_true (by omega))) (rv_ 8 (.bool true) (fun a ee => execDec (execNeE (p := e4) (q := 0) rfl (ee _) rfl) (decide_eq_true (by omega))) (rv_ 12 (.bool true) (fun a ee => execDec (execNeE (p := e6) (q := 0) rfl (ee _) rfl) (decide_eq_true (by omega))) (rc_ 16 (I.round0 X3) (cb_ fun X4 bQ => ?_))))))
  replace BB := BB.trans (bQ.mono BB.size)
  clear bQ
  refine rv_ 17 (.int .i64 ((0 : Nat) : Int)) (fun a ee => execLenOc rfl (ee _)) (rv_ 18 (.bool true) (fun a ee => execDec (execEqN (p := 0) (q := 0) rfl (ee _) rfl) (decide_eq_true (by omega))) (rg_ [(0, .bool true)] ?_))
  rintro a A ⟨t0, -⟩
  refine wp_ret ?_
  repeat (first | with_reducible refine ret_in ?_ | with_reducible refine ret_then ?_)
  refine bodyPost_ret (results_tmp rfl _ _ _) A.2 ⟨?_, BB⟩
  show Ending.returned (a.eval (.tmp 0)) = _
  rw [t0]
end Go.Proofs.YthmlfglllhmimaaGreatDoor.Cas

namespace Go.Proofs.YthmlfglllhmimaaGreatDoor.Cas
open Go.RowKit Gf8 Aes By8 Cel Cf Tap Drw Dro Oni Rou
/- CascadeEntries. Written by tools/mkC8e.py. -/

/-- What a package of cascades keeps, Entry and Payloads too. -/
structure ImplE (G : World → Prop) : Prop extends Aw G where
  entry : ∀ (rd ep lf : Int) (n : Nat) (cv : Value) (xv : Nat → Value) (ln : Nat → Nat) (c : Nat → Nat → Nat) (V : World), G V → Frm.Cells V cv n xv ln c → n ≤ 140737488351232 →
    Calls Tryz.prog 6 #[.int .i64 rd, .int .i64 ep, .int .i64 lf, cv] V fun e w' => (∃ r, e = .returned (.tuple #[r, .int .i64 ((Frm.packE rd ep lf n ln : Nat) : Int)]) ∧ w'.ownsRow V.heap.size 5 1 r (Frm.packN rd ep lf n ln) (bytesL (Frm.packN rd ep lf n ln) (Frm.packI rd ep lf n c))) ∧ Below V.heap.size V w'
  payloads : ∀ (p : Nat → Nat) (len : Nat) (v : Value) (V : World), G V → SliceN V v len p → (∀ l c, v = .slice none l c → c = 0) → len ≤ 140737488351232 →
    Calls Tryz.prog 8 #[v] V fun e w' => (∃ r y, e = .returned (.tuple #[r, .int .i64 ((paE p len : Nat) : Int)]) ∧ Ls w' r (paN p len) y (paL p len) (paF p len)) ∧ Below V.heap.size V w'
def xw (u v : Value) (i : Nat) : Value := if i = 0 then u else v
def lw (a b i : Nat) : Nat := if i = 0 then a else b
def cw (f g : Nat → Nat) (i : Nat) : Nat → Nat := if i = 0 then f else g
theorem two_i {i : Nat} (h : i < 2) : i = 0 ∨ i = 1 := by omega
theorem ls2 {W : World} {g a b : Nat} {u v : Value} {f k : Nat → Nat} (h : W.heap[g]? = some (.cells #[u, v] 25)) (hu : SliceN W u a f) (hv : SliceN W v b k) (nu : ∀ l c, u = .slice none l c → c = 0) (nv : ∀ l c, v = .slice none l c → c = 0) (la : a ≤ 140737488351232) (lb : b ≤ 140737488351232) : Ls W (.slice (some ⟨g, 0, none⟩) 2 2) 2 (xw u v) (lw a b) (cw f k) := by
  refine ⟨⟨_, 2, rfl, Nat.le_refl _, by omega, fun _ => ⟨g, 0, rfl, (Array.getElem?_eq_some_iff.1 h).1, fun i hi => ?_⟩⟩, fun i hi => ?_, fun i hi => ?_, fun i hi => ?_⟩
  · rw [Nat.zero_add, cell_of_row _ _ _ _ _ _ h]
    rcases two_i hi with rfl | rfl <;> rfl
  · rcases two_i hi with rfl | rfl
    · exact hu
    · exact hv
  · rcases two_i hi with rfl | rfl
    · exact nu
    · exact nv
  · rcases two_i hi with rfl | rfl
    · exact la
    · exact lb
theorem packN_le (rd ep lf : Int) (n : Nat) (ln : Nat → Nat) : Frm.packN rd ep lf n ln ≤ 140737488351232 := by
  unfold Frm.packN
  split
  · rename_i h
    have hn : n ≤ 256 := by
      unfold Frm.packE at h
      by_cases q : n ≤ 256
      · exact q
      · rw [if_neg q] at h
        split at h <;> exact absurd h (by decide)
    unfold Frm.cellAt
    omega
  · omega
section
variable {o : Oper} {a : Act} {w : World}
theorem execBxH25 {x : Operand} {rd ep lf : Int} (ho : o.op = .box 23 x) (hx : a.eval x = .agg (Frm.hC rd ep lf)) : (execOp a.eval o).run Tryz.prog w = .ok (.value (.pointer (some ⟨w.heap.size, 0, none⟩))) (w.alloc (.cells (Frm.hC rd ep lf) 23)) := by
  unfold execOp
  simp only [ho, hx]
  simp [go_sem, Frm.hC]
theorem execFHk {x : Operand} {b k : Nat} (ho : o.op = .fieldAddr 23 x k) (hx : a.eval x = .pointer (some ⟨b, 0, none⟩)) (hk : k < 3) : (execOp a.eval o).run Tryz.prog w = .ok (.value (.pointer (some ⟨b, k, none⟩))) w := by
  unfold execOp
  simp only [ho, hx]
  match k, hk with
  | 0, _ => simp [go_sem]
  | 1, _ => simp [go_sem]
  | 2, _ => simp [go_sem]
theorem execLdi25 {x : Operand} {b k : Nat} {v : Value} {t : TypeId} (ho : o.op = .load t x) (ht : t = 2 ∨ t = 3) (hx : a.eval x = .pointer (some ⟨b, k, none⟩)) (hc : w.cell? ⟨b, k, none⟩ = some v) : (execOp a.eval o).run Tryz.prog w = .ok (.value v) w := by
  unfold execOp
  rcases ht with rfl | rfl <;> (simp only [ho, hx]; simp [go_sem, hc])
end
set_option maxRecDepth 100000 in
set_option maxHeartbeats 4000000 in
/-- CascadeEntries. -/
theorem entries25 {G : World → Prop} (I : ImplE G) (rd ep lf : Int) (n : Nat) (cv : Value) (xv : Nat → Value) (ln : Nat → Nat) (c : Nat → Nat → Nat) (lr : Nat) (rv : Value) (r : Nat → Nat) (V : World) (hg : ∀ W, Below V.heap.size V W → G W) (hc : Frm.Cells V cv n xv ln c) (hn : n ≤ 140737488351232) (hr : SliceN V rv lr r) (hrz : ∀ l c, rv = .slice none l c → c = 0) (hrl : lr ≤ 140737488351232) :
    Calls Tryz.prog 3 #[.agg (Frm.hC rd ep lf), cv, rv] V fun e w' => e = .returned (.bool true) ∧ Below V.heap.size V w' := by
  go_enter Tryz.func3, Tryz.ntmps3
  refine wo_ 79 [(0, .agg (Frm.hC rd ep lf)), (1, cv), (2, rv)] ?_
  rintro a A ⟨t0, t1, t2, -⟩
  have BW : Below V.heap.size V V := Below.refl _ _
  have BB := BW
  refine wp_seq ?_
  obtain ⟨g3, egg3⟩ : ∃ z_ : Nat, V.heap.size = z_ := ⟨_, rfl⟩
  refine wi_ A (h3_ t0 t1 t2) (rs_ 0 (fun a ee => ?_))
  refine stepV rfl rfl (execBxH25 rfl (ee _)) ⟨.pointer (some ⟨g3, 0, none⟩), ⟨_, rfl, by subst egg3; rfl⟩, fun X0 hX => ?_⟩
  have bQ : Below V.heap.size V X0 := by subst hX egg3; exact (belNew V _)
  have Fg3 : (X0.heap[g3]? = some (.cells (Frm.hC rd ep lf) 23)) := by subst hX egg3; exact heapNew V _
  replace BB := BB.trans (bQ.mono BB.size)
  clear bQ hX egg3 ee a
  refine rf_ [(3, .pointer (some ⟨g3, 0, none⟩))] (h2_ t1 t2) ?_
  rintro a A ⟨t3, -⟩ ⟨t1, t2, -⟩
  refine wp_seq ?_
  refine wp_seq ?_
  refine wi_ A (h3_ t1 t2 t3) (rc_ 0 (awake25 I.toAw X0 (fun W h => hg W ((BB).trans (h.mono (BB).size)))) (cb_ fun X1 bQ => ?_))
  replace Fg3 := (on9 Fg3 bQ)
  replace BB := BB.trans (bQ.mono BB.size)
  clear bQ
  refine rv_ 1 (.bool false) (fun a ee => execNot8 (b := true) rfl (ee _)) (rf_ [(18, .bool false)] (h3_ t1 t2 t3) ?_)
  rintro a A ⟨t18, -⟩ ⟨t1, t2, t3, -⟩
  refine wp_cond_false t18 ?_
  refine wp_skip ?_
  clear t18
  refine wp_seq ?_
  refine wi_ A (h3_ t1 t2 t3) (rv_ 0 (.pointer (some ⟨g3, 0, none⟩)) (fun a ee => execFHk (k := 0) rfl (ee _) (by decide)) (rv_ 1 (.int .i64 rd) (fun a ee => execLdi25 rfl (Or.inl rfl) (ee _) (at25 Fg3 rfl)) (rv_ 2 (.pointer (some ⟨g3, 1, none⟩)) (fun a ee => execFHk (k := 1) rfl (ee _) (by decide)) (rv_ 3 (.int .i64 ep) (fun a ee => execLdi25 rfl (Or.inl rfl) (ee _) (at25 Fg3 rfl)) (rv_ 4 (.pointer (some ⟨g3, 2, none⟩)) (fun a ee => execFHk (k := 2) rfl (ee _) (by decide)) (rv_ 5 (.int .i64 lf) (fun a ee => execLdi25 rfl (Or.inr rfl) (ee _) (at25 Fg3 rfl)) (rc_ 7 (rentry25 rd ep lf n cv xv ln c X1 (hc.on BB) hn) fun e X3 hh => ?_)))))))
  obtain ⟨⟨v28, he, hk⟩, hb⟩ := hh
  refine ⟨_, he, ?_⟩
  have bQ : Below X1.heap.size X1 X3 := hb
  have FA : (X3.ownsRow V.heap.size 5 1 v28 (Frm.packN rd ep lf n ln) (bytesL (Frm.packN rd ep lf n ln) (Frm.packI rd ep lf n c))) := own_base hk (BB).size
  replace Fg3 := (on9 Fg3 bQ)
  replace BB := BB.trans (bQ.mono BB.size)
  clear bQ
  refine rf_ [(7, v28), (8, .int .i64 ((Frm.packE rd ep lf n ln : Nat) : Int))] (h3_ t1 t2 t3) ?_
  rintro a A ⟨t7, t8, -⟩ ⟨t1, t2, t3, -⟩
  refine wp_seq ?_
  refine wi_ A (h5_ t1 t2 t3 t7 t8) (rv_ 0 (.pointer (some ⟨g3, 0, none⟩)) (fun a ee => execFHk (k := 0) rfl (ee _) (by decide)) (rv_ 1 (.int .i64 rd) (fun a ee => execLdi25 rfl (Or.inl rfl) (ee _) (at25 Fg3 rfl)) (rv_ 2 (.pointer (some ⟨g3, 1, none⟩)) (fun a ee => execFHk (k := 1) rfl (ee _) (by decide)) (rv_ 3 (.int .i64 ep) (fun a ee => execLdi25 rfl (Or.inl rfl) (ee _) (at25 Fg3 rfl)) (rv_ 4 (.pointer (some ⟨g3, 2, none⟩)) (fun a ee => execFHk (k := 2) rfl (ee _) (by decide)) (rv_ 5 (.int .i64 lf) (fun a ee => execLdi25 rfl (Or.inr rfl) (ee _) (at25 Fg3 rfl)) (rc_ 7 (I.entry rd ep lf n cv xv ln c X3 (hg X3 BB) (hc.on BB) hn) fun e X4 hh => ?_)))))))
  obtain ⟨⟨v39, he, hk⟩, hb⟩ := hh
  refine ⟨_, he, ?_⟩
  have bQ : Below X3.heap.size X3 X4 := hb
  have FB : (X4.ownsRow V.heap.size 5 1 v39 (Frm.packN rd ep lf n ln) (bytesL (Frm.packN rd ep lf n ln) (Frm.packI rd ep lf n c))) := own_base hk (BB).size
  replace Fg3 := (on9 Fg3 bQ)
  replace FA := (ownsRow_below FA bQ)
  replace BB := BB.trans (bQ.mono BB.size)
  clear bQ
  refine rf_ [(9, v39), (10, .int .i64 ((Frm.packE rd ep lf n ln : Nat) : Int))] (h3_ t2 t7 t8) ?_
  rintro a A ⟨t9, t10, -⟩ ⟨t2, t7, t8, -⟩
  have hpb : ∀ j, j < Frm.packN rd ep lf n ln → Frm.packI rd ep lf n c j < 256 := Frm.pack_lt (fun i j hi hj => (hc.cell i hi).bytes j hj)
  refine wp_seq ?_
  refine wp_seq ?_
  refine wi_ A (h5_ t2 t7 t8 t9 t10) (rv_ 2 (.bool false) (fun a ee => by exact execDec (execNeN (p := Frm.packE rd ep lf n ln) (q := Frm.packE rd ep lf n ln) rfl (ee _) (ee _)) (decide_eq_false (by omega))) (rv_ 5 (.string (strN (Frm.packI rd ep lf n c) (Frm.packN rd ep lf n ln))) (fun a ee => execStr rfl (ee _) (own_slice FB hpb)) (rv_ 7 (.string (strN (Frm.packI rd ep lf n c) (Frm.packN rd ep lf n ln))) (fun a ee => execStr rfl (ee _) (own_slice FA hpb)) (rv_ 8 (.bool false) (fun a ee => By8.execNeqS rfl (ee _) (ee _)) (rf_ [(50, .bool false)] (h2_ t2 t7) ?_)))))
  rintro a A ⟨t50, -⟩ ⟨t2, t7, -⟩
  refine wp_cond_false t50 ?_
  refine wp_skip ?_
  clear t50
  clear FB Fg3
  refine wp_seq ?_
  refine wp_seq ?_
  obtain ⟨g53, egg53⟩ : ∃ z_ : Nat, X4.heap.size = z_ := ⟨_, rfl⟩
  refine wi_ A (h2_ t2 t7) (rs_ 2 (fun a ee => ?_))
  refine stepV rfl rfl (execBsL2 rfl (ee _) (ee _) (by obtain ⟨a_, c_, e_, _⟩ := hr.shape; exact ⟨a_, lr, c_, e_⟩) (by obtain ⟨a_, c_, e_⟩ := ownQ_shape FA; exact ⟨a_, _, c_, e_⟩)) ⟨.slice (some ⟨g53, 0, none⟩) 2 2, ⟨_, rfl, by subst egg53; rfl⟩, fun X7 hX => ?_⟩
  have bQ : Below X4.heap.size X4 X7 := by subst hX egg53; exact (belNew X4 _)
  have F53 : (X7.heap[g53]? = some (.cells #[rv, v28] 25)) := by subst hX egg53; exact heapNew X4 _
  replace FA := (ownsRow_below FA bQ)
  replace BB := BB.trans (bQ.mono BB.size)
  clear bQ hX egg53 ee a
  refine rv_ 3 (.int .i64 ((2 : Nat) : Int)) (fun a ee => execLenLL rfl (ee _) ⟨_, _, rfl⟩) (rg_ [(53, .slice (some ⟨g53, 0, none⟩) 2 2), (54, .int .i64 ((2 : Nat) : Int)), (55, .int .i64 ((0 : Nat) : Int))] ?_)
  rintro a A ⟨t53, t54, t55, -⟩
  have FL : Ls X7 (.slice (some ⟨g53, 0, none⟩) 2 2) 2 (xw rv v28) (lw lr (Frm.packN rd ep lf n ln)) (cw r (Frm.packI rd ep lf n c)) := ls2 F53 (hr.on BB) (own_slice FA hpb) hrz (own_nilI FA) hrl (packN_le _ _ _ _ _)
  clear F53 FA
  refine wp_block ?_
  refine wp_loop (fun a W => ∃ (i : Nat), i ≤ 2 ∧ (a.tmps.size = 79 ∧ a.defers = []) ∧ a.eval (.tmp 53) = .slice (some ⟨g53, 0, none⟩) 2 2 ∧ a.eval (.tmp 54) = .int .i64 ((2 : Nat) : Int) ∧ a.eval (.tmp 55) = .int .i64 ((i : Nat) : Int) ∧ Below V.heap.size V W ∧ (Ls W (.slice (some ⟨g53, 0, none⟩) 2 2) 2 (xw rv v28) (lw lr (Frm.packN rd ep lf n ln)) (cw r (Frm.packI rd ep lf n c)))) (fun a _ => 2 - (intOf (a.eval (.tmp 55))).toNat) ⟨0, Nat.zero_le _, A, t53, t54, t55, BB, FL⟩ ?_
  clear A t53 t54 t55 BB FL a
  rintro a XL8 ⟨i, hi, A, t53, t54, t55, BB, FL⟩
  have esi := t55
  refine wp_seq ?_
  refine wi_ A (h3_ t53 t54 t55) (rv_ 0 (.bool (decide (i < 2))) (fun a ee => execLtW (p := i) (q := 2) rfl (ee _) (ee _)) (rf_ [(56, .bool (decide (i < 2)))] (h3_ t53 t54 t55) ?_))
  rintro a A ⟨t56, -⟩ ⟨t53, t54, t55, -⟩
  refine wp_seq ?_
  by_cases lti : i < 2
  · rw [decide_eq_true lti] at t56
    refine wp_cond_true t56 ?_
    refine wp_skip ?_
    clear t56
    refine wp_seq ?_
    refine wp_block ?_
    refine wp_seq ?_
    refine wi_ A (h3_ t53 t54 t55) (rv_ 0 (.pointer (some ⟨adB (.slice (some ⟨g53, 0, none⟩) 2 2), adO (.slice (some ⟨g53, 0, none⟩) 2 2) + i, none⟩)) (fun a ee => execIdxLs (k := i) (FL) rfl (ee _) (ee _) lti) (rv_ 1 ((xw rv v28) i) (fun a ee => execLdLs (k := i) (FL) rfl (ee _) lti) (rf_ [(12, (xw rv v28) i)] (h3_ t53 t54 t55) ?_)))
    rintro a A ⟨t12, -⟩ ⟨t53, t54, t55, -⟩
    refine wp_seq ?_
    refine wi_ A (h4_ t53 t54 t55 t12) (rc_ 1 (rpay25 ((cw r (Frm.packI rd ep lf n c)) i) ((lw lr (Frm.packN rd ep lf n ln)) i) ((xw rv v28) i) XL8 (FL.cell i lti) (FL.lens i lti)) fun e X10 hh => ?_)
    obtain ⟨⟨v62, y62, he, hk⟩, hb⟩ := hh
    refine ⟨_, he, ?_⟩
    have bQ : Below XL8.heap.size XL8 X10 := hb
    have FA : (Ls X10 v62 (paN ((cw r (Frm.packI rd ep lf n c)) i) ((lw lr (Frm.packN rd ep lf n ln)) i)) y62 (paL ((cw r (Frm.packI rd ep lf n c)) i) ((lw lr (Frm.packN rd ep lf n ln)) i)) (paF ((cw r (Frm.packI rd ep lf n c)) i) ((lw lr (Frm.packN rd ep lf n ln)) i))) := hk
    replace FL := (FL.on bQ)
    replace BB := BB.trans (bQ.mono BB.size)
    clear bQ
    refine rf_ [(13, v62), (14, .int .i64 ((paE ((cw r (Frm.packI rd ep lf n c)) i) ((lw lr (Frm.packN rd ep lf n ln)) i) : Nat) : Int))] (h4_ t53 t54 t55 t12) ?_
    rintro a A ⟨t13, t14, -⟩ ⟨t53, t54, t55, t12, -⟩
    refine wp_seq ?_
    refine wi_ A (h6_ t53 t54 t55 t12 t13 t14) (rc_ 1 (I.payloads ((cw r (Frm.packI rd ep lf n c)) i) ((lw lr (Frm.packN rd ep lf n ln)) i) ((xw rv v28) i) X10 (hg X10 BB) (FL.cell i lti) (FL.nil i lti) (FL.lens i lti)) fun e X11 hh => ?_)
    obtain ⟨⟨v67, y67, he, hk⟩, hb⟩ := hh
    refine ⟨_, he, ?_⟩
    have bQ : Below X10.heap.size X10 X11 := hb
    have FB : (Ls X11 v67 (paN ((cw r (Frm.packI rd ep lf n c)) i) ((lw lr (Frm.packN rd ep lf n ln)) i)) y67 (paL ((cw r (Frm.packI rd ep lf n c)) i) ((lw lr (Frm.packN rd ep lf n ln)) i)) (paF ((cw r (Frm.packI rd ep lf n c)) i) ((lw lr (Frm.packN rd ep lf n ln)) i))) := hk
    replace FL := (FL.on bQ)
    replace FA := (FA.on bQ)
    replace BB := BB.trans (bQ.mono BB.size)
    clear bQ
    refine rf_ [(15, v67), (16, .int .i64 ((paE ((cw r (Frm.packI rd ep lf n c)) i) ((lw lr (Frm.packN rd ep lf n ln)) i) : Nat) : Int))] (h5_ t53 t54 t55 t13 t14) ?_
    rintro a A ⟨t15, t16, -⟩ ⟨t53, t54, t55, t13, t14, -⟩
    refine wp_seq ?_
    refine wi_ A (h7_ t53 t54 t55 t13 t14 t15 t16) (rv_ 2 (.bool false) (fun a ee => by exact execDec (execNeN (p := paE ((cw r (Frm.packI rd ep lf n c)) i) ((lw lr (Frm.packN rd ep lf n ln)) i)) (q := paE ((cw r (Frm.packI rd ep lf n c)) i) ((lw lr (Frm.packN rd ep lf n ln)) i)) rfl (ee _) (ee _)) (decide_eq_false (by omega))) (rc_ 6 (same25 (paN ((cw r (Frm.packI rd ep lf n c)) i) ((lw lr (Frm.packN rd ep lf n ln)) i)) v62 v67 y62 y67 (paL ((cw r (Frm.packI rd ep lf n c)) i) ((lw lr (Frm.packN rd ep lf n ln)) i)) (paF ((cw r (Frm.packI rd ep lf n c)) i) ((lw lr (Frm.packN rd ep lf n ln)) i)) X11 FA FB) (cb_ fun X12 bQ => ?_)))
    replace FL := (FL.on bQ)
    replace FA := (FA.on bQ)
    replace FB := (FB.on bQ)
    replace BB := BB.trans (bQ.mono BB.size)
    clear bQ
    refine rv_ 7 (.bool false) (fun a ee => execNot8 (b := true) rfl (ee _)) (rf_ [(77, .bool false)] (h3_ t53 t54 t55) ?_)
    rintro a A ⟨t77, -⟩ ⟨t53, t54, t55, -⟩
    refine wp_cond_false t77 ?_
    refine wp_skip ?_
    clear t77
    clear FA FB
    refine wi_ A (h3_ t53 t54 t55) (rv_ 0 (.int .i64 ((i + 1 : Nat) : Int)) (fun a ee => execAd8 (p := i) (q := 1) rfl (ee _) rfl (by omega)) (rf_ [(55, .int .i64 ((i + 1 : Nat) : Int))] (h2_ t53 t54) ?_))
    rintro a A ⟨t55, -⟩ ⟨t53, t54, -⟩
    exact ⟨⟨i + 1, lti, A, t53, t54, t55, BB, FL⟩, by show 2 - (intOf (a.eval (.tmp 55))).toNat < 2 - (intOf (Act.eval _ (.tmp 55))).toNat; rw [t55, esi]; show 2 - (i + 1) < 2 - i; omega⟩
  · rw [decide_eq_false lti] at t56
    refine wp_cond_false t56 ?_
    refine wp_exit ?_
    first | with_reducible refine exit_in ?_ | with_reducible refine exit_then (exit_in ?_) | with_reducible refine exit_then (exit_then (exit_in ?_)) | refine exit_in ?_ | refine exit_then (exit_in ?_) | refine exit_then (exit_then (exit_in ?_))
    clear t56 esi
    refine wp_seq ?_
    refine wi_ A (h3_ t53 t54 t55) (rg_ [(6, .bool true)] ?_)
    rintro a A ⟨t6, -⟩
    refine wp_ret ?_
    repeat (first | with_reducible refine ret_in ?_ | with_reducible refine ret_then ?_)
    refine bodyPost_ret (results_tmp rfl _ _ _) A.2 ⟨?_, BB⟩
    show Ending.returned (a.eval (.tmp 6)) = _
    rw [t6]
end Go.Proofs.YthmlfglllhmimaaGreatDoor.Cas
