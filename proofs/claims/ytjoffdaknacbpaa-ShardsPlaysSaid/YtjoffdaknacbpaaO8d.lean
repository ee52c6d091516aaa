import Derived.Test.YtjoffdaknacbpaaO8c
import Derived.Test.YtjoffdaknacbpaaC9i
namespace Go.Proofs.Ytjoffdaknacbpaa.Sha
open Go.RowKit Gf8 Aes By8 Cel Cf Win
open Go.ChangeMaps Go.MapKept
/- The program's find, size, offer. Written by tools/mkO8d.py. -/

theorem grC {W : World} {g k : Nat} {u : Value} : W.grownBy (W.setCell ⟨g, k, none⟩ u) (some g) := by
  have hb : Below g W (W.setCell ⟨g, k, none⟩ u) := (Below.refl _ _).setCell (p := ⟨g, k, none⟩) (Nat.le_refl _) u
  refine ⟨hb.os, hb.tape, hb.output, hb.size, fun b hbs hne => ?_⟩
  have hn : b ≠ g := fun e => hne (by rw [e])
  simp [World.setCell, Array.getElem?_modify, hn.symm]
theorem cell_lk0 {W : World} {sb q : Nat} {c : Array Value} {t : TypeId} {v : Value} (hs : W.heap[sb]? = some (.cells c t)) (h0 : c[q]? = some v) : W.cell? ⟨sb, q, none⟩ = some v := by
  rw [cell_of_row _ _ _ _ _ _ hs]
  exact h0
theorem cell_lk {W : World} {sb q : Nat} {c : Array Value} {t : TypeId} (hs : W.heap[sb]? = some (.cells (c.setIfInBounds q (.int .i32 1)) t)) (h0 : c[q]? = some (.int .i32 0)) : W.cell? ⟨sb, q, none⟩ = some (.int .i32 1) := by
  refine cell_lk0 hs ?_
  rw [Array.getElem?_setIfInBounds_self_of_lt (Array.getElem?_eq_some_iff.1 h0).1]
theorem plock (sb q : Nat) (c : Array Value) (W : World) (hs : W.heap[sb]? = some (.cells c 67)) (h0 : c[q]? = some (.int .i32 0)) : Calls Try.prog 28 #[.pointer (some ⟨sb, q, none⟩)] W fun e w' => e = .returned (.tuple #[]) ∧ w' = W.setCell ⟨sb, q, none⟩ (.int .i32 1) :=
  Go.MuLone.lock_free muLib ⟨sb, q, none⟩ W (cell_lk0 hs h0) (frozen4 hs)
theorem mp_ne {W : World} {b sb : Nat} {S : List Off} {c : Array Value} {t : TypeId} (h : MP W b S) (hs : W.heap[sb]? = some (.cells c t)) : b ≠ sb := by
  obtain ⟨es, clock, hb, -⟩ := h.map
  rintro rfl
  rw [hs] at hb
  cases hb
theorem mp_at {W : World} {sb q : Nat} {c : Array Value} {t : TypeId} {u v : Value} (hs : W.heap[sb]? = some (.cells (c.setIfInBounds q u) t)) (h2 : c[q + 2]? = some v) : W.cell? ⟨sb, q + 2, none⟩ = some v := by
  refine cell_lk0 hs ?_
  rw [Array.getElem?_setIfInBounds_ne (by omega)]
  exact h2
theorem set_off {W : World} {b k : Nat} {o : Obj} (h : b ≠ k) : (setBlock W b o).heap[k]? = W.heap[k]? := by
  show (W.heap.setIfInBounds b o)[k]? = _
  rw [Array.getElem?_setIfInBounds_ne h]
theorem set_back {c : Array Value} {q : Nat} {u v : Value} (h : c[q]? = some v) : (c.setIfInBounds q u).setIfInBounds q v = c := by
  obtain ⟨hl, rfl⟩ := Array.getElem?_eq_some_iff.1 h
  apply Array.ext_getElem?
  intro i
  by_cases e : q = i
  · subst e
    rw [Array.getElem?_setIfInBounds_self_of_lt (by simpa using hl), Array.getElem?_eq_getElem hl]
  · rw [Array.getElem?_setIfInBounds_ne e, Array.getElem?_setIfInBounds_ne e]
/-- The lock taken and let go: all lies as it lay. -/
theorem lock_back {V X0 X1 Xn : World} {sb q : Nat} {c : Array Value} {t : TypeId} (hs : V.heap[sb]? = some (.cells c t)) (h0 : c[q]? = some (.int .i32 0)) (b1 : Below V.heap.size V X0) (e1 : X1 = X0.setCell ⟨sb, q, none⟩ (.int .i32 1)) (b2 : Below X1.heap.size X1 Xn) :
    Below V.heap.size V (Xn.setCell ⟨sb, q, none⟩ (.int .i32 0)) := by
  have s0 := on9 hs b1
  have s1 : X1.heap[sb]? = some (.cells (c.setIfInBounds q (.int .i32 1)) t) := by rw [e1]; exact heap4 _ s0
  have s2 := on9 s1 b2
  have g1 : X0.grownBy X1 (some sb) := by rw [e1]; exact grC
  have g2 : Xn.grownBy (Xn.setCell ⟨sb, q, none⟩ (.int .i32 0)) (some sb) := grC
  refine ⟨g2.os.trans (b2.os.trans (g1.os.trans b1.os)), g2.tape.trans (b2.tape.trans (g1.tape.trans b1.tape)), g2.output.trans (b2.output.trans (g1.output.trans b1.output)), Nat.le_trans b1.size (Nat.le_trans g1.size (Nat.le_trans b2.size g2.size)), fun k hk => ?_⟩
  by_cases e : k = sb
  · subst e
    rw [heap4 _ s2, set_back h0, hs]
  · have k0 : k < X0.heap.size := Nat.lt_of_lt_of_le hk b1.size
    rw [heap4o _ s2 e, b2.block k (Nat.lt_of_lt_of_le k0 g1.size), e1, heap4o _ s0 e, b1.block k hk]
theorem lock_back2 {V X0 X1 Xn Xm : World} {sb q b : Nat} {c : Array Value} {t : TypeId} {o : Obj} (hs : V.heap[sb]? = some (.cells c t)) (h0 : c[q]? = some (.int .i32 0)) (b1 : Below V.heap.size V X0) (e1 : X1 = X0.setCell ⟨sb, q, none⟩ (.int .i32 1)) (b2 : Below X1.heap.size X1 Xn) (e2 : Xm = setBlock Xn b o) (hb : b ≠ sb) :
    V.grownBy (Xm.setCell ⟨sb, q, none⟩ (.int .i32 0)) (some b) := by
  have s0 := on9 hs b1
  have s1 : X1.heap[sb]? = some (.cells (c.setIfInBounds q (.int .i32 1)) t) := by rw [e1]; exact heap4 _ s0
  have s2 := on9 s1 b2
  have s3 : Xm.heap[sb]? = some (.cells (c.setIfInBounds q (.int .i32 1)) t) := by rw [e2, set_off hb]; exact s2
  have g1 : X0.grownBy X1 (some sb) := by rw [e1]; exact grC
  have g2 : Xm.grownBy (Xm.setCell ⟨sb, q, none⟩ (.int .i32 0)) (some sb) := grC
  have z3 : Xm.heap.size = Xn.heap.size := by rw [e2]; exact Array.size_setIfInBounds
  refine ⟨g2.os.trans ((by rw [e2]; exact b2.os : Xm.os = X1.os).trans (g1.os.trans b1.os)), g2.tape.trans ((by rw [e2]; exact b2.tape : Xm.tape = X1.tape).trans (g1.tape.trans b1.tape)), g2.output.trans ((by rw [e2]; exact b2.output : Xm.output = X1.output).trans (g1.output.trans b1.output)), Nat.le_trans b1.size (Nat.le_trans g1.size (Nat.le_trans b2.size (Nat.le_trans (Nat.le_of_eq z3.symm) g2.size))), fun k hk hne => ?_⟩
  by_cases e : k = sb
  · subst e
    rw [heap4 _ s3, set_back h0, hs]
  · have k0 : k < X0.heap.size := Nat.lt_of_lt_of_le hk b1.size
    rw [heap4o _ s3 e, e2, set_off (fun w => hne (by rw [w])), b2.block k (Nat.lt_of_lt_of_le k0 g1.size), e1, heap4o _ s0 e, b1.block k hk]
section
variable {o : Oper} {a : Act} {w : World}
theorem execLkN {x y : Operand} {b : Nat} {f : Nat → Nat} {S : List Off} (ho : o.op = .lookup 58 x y true) (hx : a.eval x = .map (some b)) (hy : a.eval y = .agg (bA 16 f)) (h : MP w b S) (hf : ∀ i, i < 16 → f i < 256) (hF : fnd S (tv f 16) = none) : (execOp a.eval o).run Try.prog w = .ok (.value (.tuple #[.int .i64 0, .bool false])) w := by
  rw [execLkMp ho hx hy h hf, hF]
  rfl
theorem execLkY {x y : Operand} {b : Nat} {f : Nat → Nat} {S : List Off} {z : Int} (ho : o.op = .lookup 58 x y true) (hx : a.eval x = .map (some b)) (hy : a.eval y = .agg (bA 16 f)) (h : MP w b S) (hf : ∀ i, i < 16 → f i < 256) (hF : fnd S (tv f 16) = some z) : (execOp a.eval o).run Try.prog w = .ok (.value (.tuple #[.int .i64 z, .bool true])) w := by
  rw [execLkMp ho hx hy h hf, hF]
  rfl
end
set_option maxRecDepth 100000 in
set_option maxHeartbeats 4000000 in
/-- The program's find. -/
theorem pfind (sb q b : Nat) (c : Array Value) (S : List Off) (f : Nat → Nat) (V : World) (hs : V.heap[sb]? = some (.cells c 67)) (h0 : c[q]? = some (.int .i32 0)) (h2 : c[q + 2]? = some (.map (some b))) (hM : MP V b S) (hf : ∀ i, i < 16 → f i < 256) :
    Calls Try.prog 25 #[.pointer (some ⟨sb, q, none⟩), .agg (bA 16 f)] V fun e w' => e = .returned (.tuple #[.int .i64 ((fnd S (tv f 16)).getD 0), .bool (fnd S (tv f 16)).isSome]) ∧ Below V.heap.size V w' := by
  go_enter_defers Try.func25, Try.ntmps25
  refine wo_ 26 [(0, .pointer (some ⟨sb, q, none⟩)), (1, .agg (bA 16 f))] ?_
  rintro a A ⟨t0, t1, -⟩
  have BW : Below V.heap.size V V := Below.refl _ _
  refine wp_seq ?_
  obtain ⟨g3, egg3⟩ : ∃ z_ : Nat, V.heap.size = z_ := ⟨_, rfl⟩
  refine wi_ A (h2_ t0 t1) (rs_ 0 (fun a ee => ?_))
  refine stepV rfl rfl (execBox16 rfl (ee _)) ⟨.pointer (some ⟨g3, 0, none⟩), ⟨_, rfl, by subst egg3; rfl⟩, fun X0 hX => ?_⟩
  have bQ : Below V.heap.size V X0 := by subst hX egg3; exact (belNew V _)
  have Fg3 : (X0.heap[g3]? = some (.cells (bA 16 f) 31)) := by subst hX egg3; exact heapNew V _
  have Fgeg3 : (V.heap.size ≤ g3) := by subst hX egg3; exact ((Below.refl V.heap.size V)).size
  have bX := bQ
  clear bQ hX egg3 ee a
  refine rf_ [(3, .pointer (some ⟨g3, 0, none⟩))] (h1_ t0) ?_
  rintro a A ⟨t3, -⟩ ⟨t0, -⟩
  have ZX0 := bX.size
  replace BW := BW.trans (bX.mono BW.size)
  clear bX
  have s0 := on9 hs BW
  have M0 := hM.on BW
  have b0 := BW
  refine wp_seq ?_
  refine wi_ A (h2_ t0 t3) (rv_ 1 (.pointer (some ⟨sb, q, none⟩)) (fun a ee => execNilC rfl (ee _)) (rv_ 2 (.pointer (some ⟨sb, q, none⟩)) (fun a ee => execFldS0 rfl (ee _)) (rc_ 3 (plock sb q c X0 s0 h0) fun e w' hh => ?_)))
  obtain ⟨he, eX⟩ := hh
  refine ⟨_, he, rf_ [] (h2_ t0 t3) ?_⟩
  rintro a A - ⟨t0, t3, -⟩
  obtain ⟨X1, eX1⟩ : ∃ X1, X1 = X0.setCell ⟨sb, q, none⟩ (.int .i32 1) := ⟨_, rfl⟩
  obtain rfl : w' = X1 := eX.trans eX1.symm
  have s1 : w'.heap[sb]? = some (.cells (c.setIfInBounds q (.int .i32 1)) 67) := by rw [eX1]; exact heap4 _ s0
  have M1 : MP w' b S := M0.keep (by rw [eX1]; exact heap4o _ s0 (mp_ne M0 s0))
  have G1 : w'.heap[g3]? = some (.cells (bA 16 f) 31) := by rw [eX1, heap4o _ s0 (show g3 ≠ sb from by have := (Array.getElem?_eq_some_iff.1 hs).1; omega)]; exact Fg3
  clear Fg3 Fgeg3
  clear BW
  have BW : Below w'.heap.size w' w' := Below.refl _ _
  refine wp_seq ?_
  refine wi_ A (h2_ t0 t3) (rv_ 1 (.pointer (some ⟨sb, q, none⟩)) (fun a ee => execNilC rfl (ee _)) (rv_ 2 (.pointer (some ⟨sb, q, none⟩)) (fun a ee => execFldS0 rfl (ee _)) (re_ 3 { target := .fn (.func 29) #[], args := #[.pointer (some ⟨sb, q, none⟩)] } (h2_ t0 t3) (fun a ee => execDefU rfl (ee _)) ?_)))
  rintro a A ⟨t0, t3, -⟩
  refine wp_seq ?_
  refine wj_ [0, 1, 2, 3, 4, 5, 6, 7, 8, 9, 10] [] [3, 4, 5] [] A (h2_ t0 t3) (fun X3 bD => ?_)
  refine dw_ 1 (.pointer (some ⟨sb, q, none⟩)) (fun a X ee => execNilC rfl (ee _)) (dw_ 2 (.pointer (some ⟨sb, q + 2, none⟩)) (fun a X ee => execFldS1 rfl (ee _)) (dv_ 3 (.map (some b)) (fun a X ee hb => execLdMp rfl (ee _) (mp_at (on9 s1 hb) h2)) (dv_ 4 (.agg (bA 16 f)) (fun a X ee hb => execLdT rfl (ee _) (fun j_ hj_ => at16 (on9 G1 hb) hj_)) (dv_ 5 (.tuple #[.int .i64 ((fnd S (tv f 16)).getD 0), .bool (fnd S (tv f 16)).isSome]) (fun a X ee hb => execLkMp rfl (ee _) (ee _) (M1.on hb) hf) (dy_ [(6, .int .i64 ((fnd S (tv f 16)).getD 0)), (7, .bool (fnd S (tv f 16)).isSome)] ?_)))))
  rintro a A ⟨t6, t7, -⟩
  replace s1 := (on9 s1 bD)
  replace M1 := (M1.on bD)
  replace G1 := (on9 G1 bD)
  have ZX3 := bD.size
  replace BW := BW.trans (bD.mono BW.size)
  clear bD
  refine wp_seq ?_
  refine wi_ A (h2_ t6 t7) (rg_ [(4, .int .i64 ((fnd S (tv f 16)).getD 0)), (5, .bool (fnd S (tv f 16)).isSome)] ?_)
  rintro a A ⟨t4, t5, -⟩
  refine wp_ret ?_
  repeat (first | with_reducible refine ret_in ?_ | with_reducible refine ret_then ?_)
  show Leaves _ _ _ _ _ _ _
  rw [A.2]
  refine leaves_cons (f := 29) (args := #[.pointer (some ⟨sb, q, none⟩)]) (by simp) (by simp [go_sem]) ?_
  refine (Go.MuLone.unlock_deferred muLib ⟨sb, q, none⟩ .returning _ (cell_lk s1 h0) (frozen4 s1)).mono ?_
  rintro e u2 w2 ⟨rfl, rfl, rfl⟩
  refine ⟨_, results_tmp2 rfl _ _ _, ?_, lock_back hs h0 b0 eX1 BW⟩
  show Ending.returned (.tuple #[a.eval (.tmp 4), a.eval (.tmp 5)]) = _
  rw [t4, t5]
set_option maxRecDepth 100000 in
set_option maxHeartbeats 4000000 in
/-- The program's size. -/
theorem psize (sb q b : Nat) (c : Array Value) (S : List Off) (V : World) (hs : V.heap[sb]? = some (.cells c 67)) (h0 : c[q]? = some (.int .i32 0)) (h2 : c[q + 2]? = some (.map (some b))) (hM : MP V b S) :
    Calls Try.prog 26 #[.pointer (some ⟨sb, q, none⟩)] V fun e w' => e = .returned (.int .i64 ((S.length : Nat) : Int)) ∧ Below V.heap.size V w' := by
  go_enter_defers Try.func26, Try.ntmps26
  refine wo_ 15 [(0, .pointer (some ⟨sb, q, none⟩))] ?_
  rintro a A ⟨t0, -⟩
  have BW : Below V.heap.size V V := Below.refl _ _
  refine wp_seq ?_
  refine wi_ A (h1_ t0) (rf_ [] (h1_ t0) ?_)
  rintro a A - ⟨t0, -⟩
  have s0 := on9 hs BW
  have M0 := hM.on BW
  have b0 := BW
  refine wp_seq ?_
  refine wi_ A (h1_ t0) (rv_ 1 (.pointer (some ⟨sb, q, none⟩)) (fun a ee => execNilC rfl (ee _)) (rv_ 2 (.pointer (some ⟨sb, q, none⟩)) (fun a ee => execFldS0 rfl (ee _)) (rc_ 3 (plock sb q c V s0 h0) fun e w' hh => ?_)))
  obtain ⟨he, eX⟩ := hh
  refine ⟨_, he, rf_ [] (h1_ t0) ?_⟩
  rintro a A - ⟨t0, -⟩
  obtain ⟨X1, eX1⟩ : ∃ X1, X1 = V.setCell ⟨sb, q, none⟩ (.int .i32 1) := ⟨_, rfl⟩
  obtain rfl : w' = X1 := eX.trans eX1.symm
  have s1 : w'.heap[sb]? = some (.cells (c.setIfInBounds q (.int .i32 1)) 67) := by rw [eX1]; exact heap4 _ s0
  have M1 : MP w' b S := M0.keep (by rw [eX1]; exact heap4o _ s0 (mp_ne M0 s0))
  clear BW
  have BW : Below w'.heap.size w' w' := Below.refl _ _
  refine wp_seq ?_
  refine wi_ A (h1_ t0) (rv_ 1 (.pointer (some ⟨sb, q, none⟩)) (fun a ee => execNilC rfl (ee _)) (rv_ 2 (.pointer (some ⟨sb, q, none⟩)) (fun a ee => execFldS0 rfl (ee _)) (re_ 3 { target := .fn (.func 29) #[], args := #[.pointer (some ⟨sb, q, none⟩)] } (h1_ t0) (fun a ee => execDefU rfl (ee _)) ?_)))
  rintro a A ⟨t0, -⟩
  refine wp_seq ?_
  refine wi_ A (h1_ t0) (rv_ 1 (.pointer (some ⟨sb, q, none⟩)) (fun a ee => execNilC rfl (ee _)) (rv_ 2 (.pointer (some ⟨sb, q + 2, none⟩)) (fun a ee => execFldS1 rfl (ee _)) (rv_ 3 (.map (some b)) (fun a ee => execLdMp rfl (ee _) (mp_at s1 h2)) (rv_ 4 (.int .i64 ((S.length : Nat) : Int)) (fun a ee => execLenMp rfl (ee _) M1) (rg_ [(2, .int .i64 ((S.length : Nat) : Int))] ?_)))))
  rintro a A ⟨t2, -⟩
  refine wp_ret ?_
  repeat (first | with_reducible refine ret_in ?_ | with_reducible refine ret_then ?_)
  show Leaves _ _ _ _ _ _ _
  rw [A.2]
  refine leaves_cons (f := 29) (args := #[.pointer (some ⟨sb, q, none⟩)]) (by simp) (by simp [go_sem]) ?_
  refine (Go.MuLone.unlock_deferred muLib ⟨sb, q, none⟩ .returning _ (cell_lk s1 h0) (frozen4 s1)).mono ?_
  rintro e u2 w2 ⟨rfl, rfl, rfl⟩
  refine ⟨_, results_tmp rfl _ _ _, ?_, lock_back hs h0 b0 eX1 BW⟩
  show Ending.returned (a.eval (.tmp 2)) = _
  rw [t2]
set_option maxRecDepth 100000 in
set_option maxHeartbeats 4000000 in
/-- The program's offer. -/
theorem poffer (sb q b : Nat) (c : Array Value) (S : List Off) (f : Nat → Nat) (z : Int) (V : World) (hs : V.heap[sb]? = some (.cells c 67)) (h0 : c[q]? = some (.int .i32 0)) (h2 : c[q + 2]? = some (.map (some b))) (hM : MP V b S) (hf : ∀ i, i < 16 → f i < 256) :
    Calls Try.prog 24 #[.pointer (some ⟨sb, q, none⟩), .agg (bA 16 f), .int .i64 z] V fun e w' => e = .returned (.tuple #[]) ∧ (((∀ y, fnd S (tv f 16) = some y → z < y) ∧ MP w' b (putM S f z) ∧ V.grownBy w' (some b)) ∨ ((∃ y, fnd S (tv f 16) = some y ∧ ¬ z < y) ∧ Below V.heap.size V w')) := by
  go_enter_defers Try.func24, Try.ntmps24
  refine wo_ 37 [(0, .pointer (some ⟨sb, q, none⟩)), (1, .agg (bA 16 f)), (2, .int .i64 z)] ?_
  rintro a A ⟨t0, t1, t2, -⟩
  have BW : Below V.heap.size V V := Below.refl _ _
  refine wp_seq ?_
  obtain ⟨g4, egg4⟩ : ∃ z_ : Nat, V.heap.size = z_ := ⟨_, rfl⟩
  refine wi_ A (h3_ t0 t1 t2) (rs_ 0 (fun a ee => ?_))
  refine stepV rfl rfl (execBox16 rfl (ee _)) ⟨.pointer (some ⟨g4, 0, none⟩), ⟨_, rfl, by subst egg4; rfl⟩, fun X0 hX => ?_⟩
  have bQ : Below V.heap.size V X0 := by subst hX egg4; exact (belNew V _)
  have Fg4 : (X0.heap[g4]? = some (.cells (bA 16 f) 31)) := by subst hX egg4; exact heapNew V _
  have Fgeg4 : (V.heap.size ≤ g4) := by subst hX egg4; exact ((Below.refl V.heap.size V)).size
  have bX := bQ
  clear bQ hX egg4 ee a
  refine rf_ [(4, .pointer (some ⟨g4, 0, none⟩))] (h2_ t0 t2) ?_
  rintro a A ⟨t4, -⟩ ⟨t0, t2, -⟩
  have ZX0 := bX.size
  replace BW := BW.trans (bX.mono BW.size)
  clear bX
  have s0 := on9 hs BW
  have M0 := hM.on BW
  have b0 := BW
  refine wp_seq ?_
  refine wi_ A (h3_ t0 t2 t4) (rv_ 1 (.pointer (some ⟨sb, q, none⟩)) (fun a ee => execNilC rfl (ee _)) (rv_ 2 (.pointer (some ⟨sb, q, none⟩)) (fun a ee => execFldS0 rfl (ee _)) (rc_ 3 (plock sb q c X0 s0 h0) fun e w' hh => ?_)))
  obtain ⟨he, eX⟩ := hh
  refine ⟨_, he, rf_ [] (h3_ t0 t2 t4) ?_⟩
  rintro a A - ⟨t0, t2, t4, -⟩
  obtain ⟨X1, eX1⟩ : ∃ X1, X1 = X0.setCell ⟨sb, q, none⟩ (.int .i32 1) := ⟨_, rfl⟩
  obtain rfl : w' = X1 := eX.trans eX1.symm
  have s1 : w'.heap[sb]? = some (.cells (c.setIfInBounds q (.int .i32 1)) 67) := by rw [eX1]; exact heap4 _ s0
  have M1 : MP w' b S := M0.keep (by rw [eX1]; exact heap4o _ s0 (mp_ne M0 s0))
  have G1 : w'.heap[g4]? = some (.cells (bA 16 f) 31) := by rw [eX1, heap4o _ s0 (show g4 ≠ sb from by have := (Array.getElem?_eq_some_iff.1 hs).1; omega)]; exact Fg4
  clear Fg4 Fgeg4
  clear BW
  have BW : Below w'.heap.size w' w' := Below.refl _ _
  refine wp_seq ?_
  refine wi_ A (h3_ t0 t2 t4) (rv_ 1 (.pointer (some ⟨sb, q, none⟩)) (fun a ee => execNilC rfl (ee _)) (rv_ 2 (.pointer (some ⟨sb, q, none⟩)) (fun a ee => execFldS0 rfl (ee _)) (re_ 3 { target := .fn (.func 29) #[], args := #[.pointer (some ⟨sb, q, none⟩)] } (h3_ t0 t2 t4) (fun a ee => execDefU rfl (ee _)) ?_)))
  rintro a A ⟨t0, t2, t4, -⟩
  refine wp_seq ?_
  cases hF : fnd S (tv f 16) with
  | none =>
    refine wj_ [0, 1, 2, 3, 4, 5, 6, 7, 8, 9, 10] [] [3, 4, 5] [] A (h3_ t0 t2 t4) (fun X3 bD => ?_)
    refine dw_ 1 (.pointer (some ⟨sb, q, none⟩)) (fun a X ee => execNilC rfl (ee _)) (dw_ 2 (.pointer (some ⟨sb, q + 2, none⟩)) (fun a X ee => execFldS1 rfl (ee _)) (dv_ 3 (.map (some b)) (fun a X ee hb => execLdMp rfl (ee _) (mp_at (on9 s1 hb) h2)) (dv_ 4 (.agg (bA 16 f)) (fun a X ee hb => execLdT rfl (ee _) (fun j_ hj_ => at16 (on9 G1 hb) hj_)) (dv_ 5 (.tuple #[.int .i64 0, .bool false]) (fun a X ee hb => execLkN rfl (ee _) (ee _) (M1.on hb) hf hF) (dz_ [(6, .int .i64 0), (7, .bool false)] (h3_ t0 t2 t4) ?_)))))
    rintro a A ⟨t6, t7, -⟩ ⟨t0, t2, t4, -⟩
    replace s1 := (on9 s1 bD)
    replace M1 := (M1.on bD)
    replace G1 := (on9 G1 bD)
    have ZX3 := bD.size
    replace BW := BW.trans (bD.mono BW.size)
    clear bD
    refine wp_seq ?_
    refine wi_ A (h5_ t0 t2 t4 t6 t7) (rv_ 1 (.bool true) (fun a ee => execNot8 (b := false) rfl (ee _)) (rf_ [(30, .bool true)] (h3_ t0 t2 t4) ?_))
    rintro a A ⟨t30, -⟩ ⟨t0, t2, t4, -⟩
    refine wp_cond_true t30 ?_
    clear t30
    refine wj_ [0, 1, 2, 3, 4, 5, 6] [6] [3, 4] [6] A (h3_ t0 t2 t4) fun X5 bD => ?_
    refine dw_ 1 (.pointer (some ⟨sb, q, none⟩)) (fun a X ee => execNilC rfl (ee _)) (dw_ 2 (.pointer (some ⟨sb, q + 2, none⟩)) (fun a X ee => execFldS1 rfl (ee _)) (dv_ 3 (.map (some b)) (fun a X ee hb => execLdMp rfl (ee _) (mp_at (on9 s1 hb) h2)) (dv_ 4 (.agg (bA 16 f)) (fun a X ee hb => execLdT rfl (ee _) (fun j_ hj_ => at16 (on9 G1 hb) hj_)) (ds_ 6 (fun a ee => ?_)))))
    obtain ⟨o_, ho_, hM_⟩ := (M1.on bD).put hf z
    refine stepS rfl rfl (execMUp rfl (ee _) (ee _) (ee _) ho_) ⟨_, ⟨_, rfl, rfl⟩, fun X6 hX => ?_⟩
    refine ⟨Or.inl rfl, ?_⟩
    refine dy_ [] ?_
    rintro a A -
    have hbs : b ≠ sb := mp_ne M1 s1
    have s6 : X6.heap[sb]? = some (.cells (c.setIfInBounds q (.int .i32 1)) 67) := by rw [hX, set_off hbs]; exact on9 s1 bD
    have M6 : MP X6 b (putM S f z) := by rw [hX]; exact hM_
    replace BW := BW.trans (bD.mono BW.size)
    show Leaves _ _ _ _ _ _ _
    rw [A.2]
    refine leaves_cons (f := 29) (args := #[.pointer (some ⟨sb, q, none⟩)]) (by simp) (by simp [go_sem]) ?_
    refine (Go.MuLone.unlock_deferred muLib ⟨sb, q, none⟩ .returning _ (cell_lk s6 h0) (frozen4 s6)).mono ?_
    rintro e u2 w2 ⟨rfl, rfl, rfl⟩
    exact ⟨_, results_none rfl _ _ _, rfl, Or.inl ⟨(fun y hy => by cases hy), M6.keep (heap4o _ s6 hbs), lock_back2 hs h0 b0 eX1 BW hX hbs⟩⟩
  | some y =>
    by_cases hl : z < y
    · refine wj_ [0, 1, 2, 3, 4, 5, 6, 7, 8, 9, 10] [] [3, 4, 5] [] A (h3_ t0 t2 t4) (fun X3 bD => ?_)
      refine dw_ 1 (.pointer (some ⟨sb, q, none⟩)) (fun a X ee => execNilC rfl (ee _)) (dw_ 2 (.pointer (some ⟨sb, q + 2, none⟩)) (fun a X ee => execFldS1 rfl (ee _)) (dv_ 3 (.map (some b)) (fun a X ee hb => execLdMp rfl (ee _) (mp_at (on9 s1 hb) h2)) (dv_ 4 (.agg (bA 16 f)) (fun a X ee hb => execLdT rfl (ee _) (fun j_ hj_ => at16 (on9 G1 hb) hj_)) (dv_ 5 (.tuple #[.int .i64 y, .bool true]) (fun a X ee hb => execLkY rfl (ee _) (ee _) (M1.on hb) hf hF) (dz_ [(6, .int .i64 y), (7, .bool true)] (h3_ t0 t2 t4) ?_)))))
      rintro a A ⟨t6, t7, -⟩ ⟨t0, t2, t4, -⟩
      replace s1 := (on9 s1 bD)
      replace M1 := (M1.on bD)
      replace G1 := (on9 G1 bD)
      have ZX3 := bD.size
      replace BW := BW.trans (bD.mono BW.size)
      clear bD
      refine wp_seq ?_
      refine wi_ A (h5_ t0 t2 t4 t6 t7) (rv_ 1 (.bool false) (fun a ee => execNot8 (b := true) rfl (ee _)) (rv_ 5 (.bool true) (fun a ee => execDec (exIlss3 (p := z) (q := y) rfl (ee _) (ee _)) (decide_eq_true hl)) (rf_ [(30, .bool true)] (h3_ t0 t2 t4) ?_)))
      rintro a A ⟨t30, -⟩ ⟨t0, t2, t4, -⟩
      refine wp_cond_true t30 ?_
      clear t30
      refine wj_ [0, 1, 2, 3, 4, 5, 6] [6] [3, 4] [6] A (h3_ t0 t2 t4) fun X5 bD => ?_
      refine dw_ 1 (.pointer (some ⟨sb, q, none⟩)) (fun a X ee => execNilC rfl (ee _)) (dw_ 2 (.pointer (some ⟨sb, q + 2, none⟩)) (fun a X ee => execFldS1 rfl (ee _)) (dv_ 3 (.map (some b)) (fun a X ee hb => execLdMp rfl (ee _) (mp_at (on9 s1 hb) h2)) (dv_ 4 (.agg (bA 16 f)) (fun a X ee hb => execLdT rfl (ee _) (fun j_ hj_ => at16 (on9 G1 hb) hj_)) (ds_ 6 (fun a ee => ?_)))))
      obtain ⟨o_, ho_, hM_⟩ := (M1.on bD).put hf z
      refine stepS rfl rfl (execMUp rfl (ee _) (ee _) (ee _) ho_) ⟨_, ⟨_, rfl, rfl⟩, fun X6 hX => ?_⟩
      refine ⟨Or.inl rfl, ?_⟩
      refine dy_ [] ?_
      rintro a A -
      have hbs : b ≠ sb := mp_ne M1 s1
      have s6 : X6.heap[sb]? = some (.cells (c.setIfInBounds q (.int .i32 1)) 67) := by rw [hX, set_off hbs]; exact on9 s1 bD
      have M6 : MP X6 b (putM S f z) := by rw [hX]; exact hM_
      replace BW := BW.trans (bD.mono BW.size)
      show Leaves _ _ _ _ _ _ _
      rw [A.2]
      refine leaves_cons (f := 29) (args := #[.pointer (some ⟨sb, q, none⟩)]) (by simp) (by simp [go_sem]) ?_
      refine (Go.MuLone.unlock_deferred muLib ⟨sb, q, none⟩ .returning _ (cell_lk s6 h0) (frozen4 s6)).mono ?_
      rintro e u2 w2 ⟨rfl, rfl, rfl⟩
      exact ⟨_, results_none rfl _ _ _, rfl, Or.inl ⟨fun y2 hy => (Option.some.inj hy) ▸ hl, M6.keep (heap4o _ s6 hbs), lock_back2 hs h0 b0 eX1 BW hX hbs⟩⟩
    · refine wj_ [0, 1, 2, 3, 4, 5, 6, 7, 8, 9, 10] [] [3, 4, 5] [] A (h3_ t0 t2 t4) (fun X3 bD => ?_)
      refine dw_ 1 (.pointer (some ⟨sb, q, none⟩)) (fun a X ee => execNilC rfl (ee _)) (dw_ 2 (.pointer (some ⟨sb, q + 2, none⟩)) (fun a X ee => execFldS1 rfl (ee _)) (dv_ 3 (.map (some b)) (fun a X ee hb => execLdMp rfl (ee _) (mp_at (on9 s1 hb) h2)) (dv_ 4 (.agg (bA 16 f)) (fun a X ee hb => execLdT rfl (ee _) (fun j_ hj_ => at16 (on9 G1 hb) hj_)) (dv_ 5 (.tuple #[.int .i64 y, .bool true]) (fun a X ee hb => execLkY rfl (ee _) (ee _) (M1.on hb) hf hF) (dz_ [(6, .int .i64 y), (7, .bool true)] (h3_ t0 t2 t4) ?_)))))
      rintro a A ⟨t6, t7, -⟩ ⟨t0, t2, t4, -⟩
      replace s1 := (on9 s1 bD)
      replace M1 := (M1.on bD)
      replace G1 := (on9 G1 bD)
      have ZX3 := bD.size
      replace BW := BW.trans (bD.mono BW.size)
      clear bD
      refine wp_seq ?_
      refine wi_ A (h5_ t0 t2 t4 t6 t7) (rv_ 1 (.bool false) (fun a ee => execNot8 (b := true) rfl (ee _)) (rv_ 5 (.bool false) (fun a ee => execDec (exIlss3 (p := z) (q := y) rfl (ee _) (ee _)) (decide_eq_false hl)) (rf_ [(30, .bool false)] (h3_ t0 t2 t4) ?_)))
      rintro a A ⟨t30, -⟩ ⟨t0, t2, t4, -⟩
      refine wp_cond_false t30 ?_
      refine wp_skip ?_
      clear t30
      show Leaves _ _ _ _ _ _ _
      rw [A.2]
      refine leaves_cons (f := 29) (args := #[.pointer (some ⟨sb, q, none⟩)]) (by simp) (by simp [go_sem]) ?_
      refine (Go.MuLone.unlock_deferred muLib ⟨sb, q, none⟩ .returning _ (cell_lk s1 h0) (frozen4 s1)).mono ?_
      rintro e u2 w2 ⟨rfl, rfl, rfl⟩
      exact ⟨_, results_none rfl _ _ _, rfl, Or.inr ⟨⟨y, rfl, hl⟩, lock_back hs h0 b0 eX1 BW⟩⟩
end Go.Proofs.Ytjoffdaknacbpaa.Sha
