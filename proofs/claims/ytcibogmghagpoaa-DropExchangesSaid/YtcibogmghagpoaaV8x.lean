import Derived.Test.YtcibogmghagpoaaV8w
import Derived.Test.YtcibogmghagpoaaV8e
namespace Go.Proofs.Ytcibogmghagpoaa.Dro
open Go.RowKit Gf8 Aes By8 Cel Cf Tap Drw
/- Stage 28: the landed Request, Answer. Written by tools/mkV8x.py. -/

open Brd
theorem shp3 {W : World} {v : Value} {n : Nat} {p : Nat → Nat} (h : SliceN W v n p) : ∃ g n c, v = .slice g n c := by
  obtain ⟨a, cap, e⟩ := shp h
  exact ⟨a, n, cap, e⟩
/-- Concat of two lists. -/
theorem pcat2 {g n0 n1 : Nat} {a0 a1 : Value} {f0 f1 F : Nat → Nat} (V : World) (h : V.heap[g]? = some (.cells #[a0, a1] 23)) (h0 : SliceN V a0 n0 f0) (h1 : SliceN V a1 n1 f1) (z0 : ∀ l c, a0 = .slice none l c → c = 0) (z1 : ∀ l c, a1 = .slice none l c → c = 0) (e0 : ∀ k, k < n0 → F k = f0 k) (e1 : ∀ k, k < n1 → F (n0 + k) = f1 k) (hp : 0 < n0 + n1) (hm : n0 + n1 ≤ 140737488351232) :
    Calls Try.prog 22 #[.slice (some ⟨g, 0, none⟩) 2 2] V fun e w' => ∃ r, e = .returned r ∧ w'.ownsRow V.heap.size 5 1 r (n0 + n1) (bytesL (n0 + n1) F) ∧ Below V.heap.size V w' := by
  have es : sumN (fun j => if j = 0 then n0 else n1) 2 = n0 + n1 := by show (0 + n0) + n1 = _; omega
  have := pconcat 2 (fun j => if j = 0 then a0 else a1) (fun j => if j = 0 then n0 else n1) (fun j => if j = 0 then f0 else f1) F (.slice (some ⟨g, 0, none⟩) 2 2) V ⟨⟨_, 2, rfl, fun _ => ⟨g, 0, rfl, (Array.getElem?_eq_some_iff.1 h).1, fun j hj => ?_⟩⟩, fun j hj => ?_, fun j hj => ?_⟩ (by omega) (fun i hi k hk => ?_) (by rw [es]; exact hp) (by rw [es]; exact hm)
  · rw [es] at this
    exact this
  · rw [Nat.zero_add, cell_of_row _ _ _ _ _ _ h]
    match j, hj with
    | 0, _ => rfl
    | 1, _ => rfl
  · match j, hj with
    | 0, _ => exact h0
    | 1, _ => exact h1
  · match j, hj with
    | 0, _ => exact z0
    | 1, _ => exact z1
  · match i, hi, hk with
    | 0, _, hk => exact (congrArg F (Nat.zero_add k)).trans (e0 k hk)
    | 1, _, hk => exact (congrArg F (show (0 + n0) + k = n0 + k by omega)).trans (e1 k hk)
theorem pans28 (f : Nat → Nat) (m : Nat) (v : Value) (V : World) (hv : SliceN V v m f) : Calls Try.prog 23 #[v] V fun e w' => e = .returned (.bool (anQ m f)) ∧ Below V.heap.size V w' :=
  (pans f m v V hv).mono (by rintro e w' ⟨h, rfl⟩; exact ⟨h, Below.refl _ _⟩)
theorem prgt28 (f : Nat → Nat) (m : Nat) (v : Value) (V : World) (hv : SliceN V v m f) : Calls Try.prog 28 #[v] V fun e w' => e = .returned (.bool (rgt m)) ∧ Below V.heap.size V w' := by
  obtain ⟨a, cap, rfl⟩ := shp hv
  exact (prgt a m cap V).mono (by rintro e w' ⟨h, rfl⟩; exact ⟨h, Below.refl _ _⟩)
theorem pname28 (f : Nat → Nat) (m : Nat) (v : Value) (V : World) (hv : SliceN V v m f) (h8 : 8 ≤ m) : Calls Try.prog 30 #[v] V fun e w' => e = .returned (.agg (bA 8 f)) ∧ Below V.heap.size V w' := by
  obtain ⟨a, cap, rfl, h1, -, hs⟩ := hv.shape
  obtain ⟨b, off, rfl, hb, hc⟩ := hs (by omega)
  exact pname b off m cap f V h8 h1 hb fun j hj => hc j (by omega)
theorem pother28 (p : Nat → Bool) (n i : Nat) (V : World) : Calls Try.prog 33 #[ltV p n, .int .i64 ((i : Nat) : Int)] V fun e w' => e = .returned (.int .i64 ((othN p n i : Nat) : Int)) ∧ Below V.heap.size V w' := pother _ _ _ _ V
theorem pwith28 (p : Nat → Bool) (n : Nat) (V : World) (hp : p n = true) (hn : n < 1000000) : Calls Try.prog 32 #[ltV p n, .int .i64 ((n : Nat) : Int)] V fun e w' => e = .returned (ltV p (n + 1)) ∧ Below V.heap.size V w' := by
  have hl := cnt_le (p := p) (n := n)
  unfold ltV ltC
  rw [show cnt p (n + 1) = cnt p n + 1 by rw [cnt_succ, hp]; rfl]
  by_cases h0 : cnt p n = 0
  · rw [show ltA p (n + 1) = n from if_pos ⟨hp, h0⟩, show ltB p (n + 1) = ltB p n from if_neg (fun h => by omega), h0]
    exact pwith0 _ _ _ V
  · rw [show ltA p (n + 1) = ltA p n from if_neg (fun h => h0 h.2)]
    by_cases h1 : cnt p n = 1
    · rw [show ltB p (n + 1) = n from if_pos ⟨hp, h1⟩, h1]
      exact pwith1 _ _ _ V
    · rw [show ltB p (n + 1) = ltB p n from if_neg (fun h => h1 h.2)]
      exact pwith2 _ _ _ _ V (by omega) (by omega)
section
variable {o : Oper} {a : Act} {w W : World} {x y z : Operand} {u v : Value} {g b n k B C m : Nat} {xs ys : List Value} {yv : Nat → Value}
theorem execBs2C (ho : o.op = .buildSlice 29 2 #[(0, x), (1, y)]) (hx : a.eval x = u) (hy : a.eval y = v) (hu : ∃ g n c, u = .slice g n c) (hv : ∃ g n c, v = .slice g n c) : (execOp a.eval o).run Try.prog w = .ok (.value (.slice (some ⟨w.heap.size, 0, none⟩) 2 2)) (w.alloc (.cells #[u, v] 23)) := by
  obtain ⟨_, _, _, rfl⟩ := hu
  obtain ⟨_, _, _, rfl⟩ := hv
  unfold execOp
  simp only [ho, List.map_toArray, List.map_cons, List.map_nil, hx, hy]
  simp [go_sem]
end
set_option maxRecDepth 100000 in
set_option maxHeartbeats 4000000 in
/-- Request. -/
theorem prequest (nm f : Nat → Nat) (m : Nat) (v : Value) (V : World) (hn : ∀ j, j < 8 → nm j < 256) (hv : SliceN V v m f) (hz : ∀ l c, v = .slice none l c → c = 0) :
    Calls Try.prog 12 #[.agg (bA 8 nm), v] V fun e w' => (∃ r, e = .returned (.tuple #[r, .int .i64 ((rqE m : Nat) : Int)]) ∧ w'.ownsRow V.heap.size 5 1 r (rqN m) (bytesL (rqN m) (rqF nm f))) ∧ Below V.heap.size V w' := by
  go_enter Try.func12, Try.ntmps12
  refine wo_ 13 [(0, .agg (bA 8 nm)), (1, v)] ?_
  rintro a A ⟨t0, t1, -⟩
  have BW : Below V.heap.size V V := Below.refl _ _
  have BB := BW
  refine wp_seq ?_
  obtain ⟨g2, egg2⟩ : ∃ z_ : Nat, V.heap.size = z_ := ⟨_, rfl⟩
  refine wi_ A (h2_ t0 t1) (rs_ 0 (fun a ee => ?_))
  refine stepV rfl rfl (execBx8 rfl (ee _)) ⟨.pointer (some ⟨g2, 0, none⟩), ⟨_, rfl, by subst egg2; rfl⟩, fun X0 hX => ?_⟩
  have bQ : Below V.heap.size V X0 := by subst hX egg2; exact (belNew V _)
  have Fg2 : (X0.heap[g2]? = some (.cells (bA 8 nm) 22)) := by subst hX egg2; exact heapNew V _
  replace BB := BB.trans (bQ.mono BB.size)
  clear bQ hX egg2 ee a
  refine rf_ [(2, .pointer (some ⟨g2, 0, none⟩)), (4, .slice none 0 0), (5, .int .i64 ((0 : Nat) : Int))] (h1_ t1) ?_
  rintro a A ⟨t2, t4, t5, -⟩ ⟨t1, -⟩
  refine wp_seq ?_
  refine wp_seq ?_
  by_cases h1 : 40 < m
  · refine wi_ A (h4_ t1 t2 t4 t5) (rv_ 1 (.int .i64 ((m : Nat) : Int)) (fun a ee => execLenV (len := m) rfl (ee _) (shp (hv.on BB))) (rv_ 2 (.bool true) (fun a ee => execDec (execGtN (p := m) (q := 40) rfl (ee _) rfl) (decide_eq_true (by omega))) (rf_ [(8, .bool true)] (h4_ t1 t2 t4 t5) ?_)))
    rintro a A ⟨t8, -⟩ ⟨t1, t2, t4, t5, -⟩
    refine wp_cond_true t8 ?_
    clear t8
    refine wp_seq ?_
    refine wi_ A (h4_ t1 t2 t4 t5) (rg_ [(4, .slice none 0 0), (5, .int .i64 ((1 : Nat) : Int))] ?_)
    rintro a A ⟨t4, t5, -⟩
    rw [show rqE m = 1 from if_pos h1, show rqN m = 0 from if_pos h1]
    refine wp_ret ?_
    repeat (first | with_reducible refine ret_in ?_ | with_reducible refine ret_then ?_)
    refine bodyPost_ret (results_tmp2 rfl _ _ _) A.2 ⟨⟨_, ?_, World.ownsRow_nil _ _ _ _⟩, BB⟩
    show Ending.returned (.tuple #[a.eval (.tmp 4), a.eval (.tmp 5)]) = _
    rw [t4, t5]
  · refine wi_ A (h4_ t1 t2 t4 t5) (rv_ 1 (.int .i64 ((m : Nat) : Int)) (fun a ee => execLenV (len := m) rfl (ee _) (shp (hv.on BB))) (rv_ 2 (.bool false) (fun a ee => execDec (execGtN (p := m) (q := 40) rfl (ee _) rfl) (decide_eq_false (by omega))) (rf_ [(8, .bool false)] (h4_ t1 t2 t4 t5) ?_)))
    rintro a A ⟨t8, -⟩ ⟨t1, t2, t4, t5, -⟩
    refine wp_cond_false t8 ?_
    refine wp_skip ?_
    clear t8
    refine wp_seq ?_
    obtain ⟨g11, egg11⟩ : ∃ z_ : Nat, X0.heap.size = z_ := ⟨_, rfl⟩
    refine wi_ A (h4_ t1 t2 t4 t5) (rv_ 0 (.slice (some ⟨g2, 0, none⟩) 8 8) (fun a ee => execSl8 rfl (ee _)) (rs_ 2 (fun a ee => ?_)))
    refine stepV rfl rfl (execBs2C rfl (ee _) (ee _) ⟨_, _, _, rfl⟩ (shp3 hv)) ⟨.slice (some ⟨g11, 0, none⟩) 2 2, ⟨_, rfl, by subst egg11; rfl⟩, fun X3_1 hX => ?_⟩
    have bQ : Below X0.heap.size X0 X3_1 := by subst hX egg11; exact (belNew X0 _)
    have Fg11 : (X3_1.heap[g11]? = some (.cells #[.slice (some ⟨g2, 0, none⟩) 8 8, v] 23)) := by subst hX egg11; exact heapNew X0 _
    replace Fg2 := (on9 Fg2 bQ)
    replace BB := BB.trans (bQ.mono BB.size)
    clear bQ hX egg11 ee a
    refine rc_ 3 (pcat2 (f0 := nm) (f1 := f) (F := rqF nm f) X3_1 Fg11 (slice8 Fg2 hn) (hv.on BB) (fun _ _ h => by cases h) hz (fun k hk => if_pos hk) (fun k hk => by unfold rqF; rw [if_neg (by omega), Nat.add_sub_cancel_left]) (by omega) (by omega)) fun e X3 hh => ?_
    obtain ⟨v12, he, hk, hb⟩ := hh
    refine ⟨_, he, ?_⟩
    have bQ : Below X3_1.heap.size X3_1 X3 := hb
    have FO : (X3.ownsRow V.heap.size 5 1 v12 (8 + m) (bytesL (8 + m) (rqF nm f))) := own_base hk (BB).size
    replace Fg2 := (on9 Fg2 bQ)
    replace Fg11 := (on9 Fg11 bQ)
    replace BB := BB.trans (bQ.mono BB.size)
    clear bQ
    refine rg_ [(4, v12), (5, .int .i64 ((0 : Nat) : Int))] ?_
    rintro a A ⟨t4, t5, -⟩
    rw [show rqE m = 0 from if_neg h1, show rqN m = 8 + m from if_neg h1]
    refine wp_ret ?_
    repeat (first | with_reducible refine ret_in ?_ | with_reducible refine ret_then ?_)
    refine bodyPost_ret (results_tmp2 rfl _ _ _) A.2 ⟨⟨_, ?_, FO⟩, BB⟩
    show Ending.returned (.tuple #[a.eval (.tmp 4), a.eval (.tmp 5)]) = _
    rw [t4, t5]
set_option maxRecDepth 100000 in
set_option maxHeartbeats 4000000 in
/-- Answer. -/
theorem panswer (f : Nat → Nat) (m : Nat) (v : Value) (V : World) (hv : SliceN V v m f) :
    Calls Try.prog 13 #[v] V fun e w' => (∃ r, e = .returned (.tuple #[.int .i64 ((anH m f : Nat) : Int), r, .int .i64 ((anE m f : Nat) : Int)]) ∧ w'.ownsRow V.heap.size 5 1 r (anN m f) (bytesL (anN m f) (anF f))) ∧ Below V.heap.size V w' := by
  go_enter Try.func13, Try.ntmps13
  refine wo_ 15 [(0, v)] ?_
  rintro a A ⟨t0, -⟩
  have BW : Below V.heap.size V V := Below.refl _ _
  have BB := BW
  have hfb : ∀ j, j < m → f j < 256 := hv.bytes
  refine wp_seq ?_
  refine wi_ A (h1_ t0) (rf_ [] (h1_ t0) ?_)
  rintro a A - ⟨t0, -⟩
  refine wp_seq ?_
  refine wp_seq ?_
  cases hq : anQ m f
  · refine wi_ A (h1_ t0) (rc_ 1 ((hq ▸ pans28 f m v V (hv.on BB))) (cb_ fun X1 bQ => ?_))
    replace BB := BB.trans (bQ.mono BB.size)
    clear bQ
    refine rv_ 2 (.bool true) (fun a ee => execNot8 (b := false) rfl (ee _)) (rf_ [(7, .bool true)] (h1_ t0) ?_)
    rintro a A ⟨t7, -⟩ ⟨t0, -⟩
    refine wp_cond_true t7 ?_
    clear t7
    refine wp_seq ?_
    refine wi_ A (h1_ t0) (rg_ [(2, .int .i64 ((0 : Nat) : Int)), (3, .slice none 0 0), (4, .int .i64 ((280 : Nat) : Int))] ?_)
    rintro a A ⟨t2, t3, t4, -⟩
    rw [show anH m f = 0 by unfold anH; rw [hq]; rfl, show anE m f = 280 by unfold anE; rw [hq]; rfl, show anN m f = 0 by unfold anN; rw [hq]; rfl]
    refine wp_ret ?_
    repeat (first | with_reducible refine ret_in ?_ | with_reducible refine ret_then ?_)
    refine bodyPost_ret (res3 rfl _ _ _) A.2 ⟨⟨_, ?_, World.ownsRow_nil _ _ _ _⟩, BB⟩
    show Ending.returned (.tuple #[a.eval (.tmp 2), a.eval (.tmp 3), a.eval (.tmp 4)]) = _
    rw [t2, t3, t4]
  · refine wi_ A (h1_ t0) (rc_ 1 ((hq ▸ pans28 f m v V (hv.on BB))) (cb_ fun X1 bQ => ?_))
    replace BB := BB.trans (bQ.mono BB.size)
    clear bQ
    refine rv_ 2 (.bool false) (fun a ee => execNot8 (b := true) rfl (ee _)) (rf_ [(7, .bool false)] (h1_ t0) ?_)
    rintro a A ⟨t7, -⟩ ⟨t0, -⟩
    refine wp_cond_false t7 ?_
    refine wp_skip ?_
    clear t7
    have hq1 := an_iff.1 hq
    have hf0 := hfb 0 (by omega)
    refine wp_seq ?_
    refine wj_ [0, 1, 2, 3, 4, 5, 6, 7, 8, 9] [6] [1, 2, 5] [] A (h1_ t0) (fun X3_0 bD => ?_)
    refine dv_ 1 (.pointer (some ⟨adB v, adO v + 0, none⟩)) (fun a X ee hb => execIdxSb (k := 0) (hv.on (BB.trans (hb.mono BB.size))) rfl (ee _) rfl (by omega)) (dv_ 2 (.int .u8 ((f 0 : Nat) : Int)) (fun a X ee hb => execLdSb (k := 0) (hv.on (BB.trans (hb.mono BB.size))) rfl (ee _) (by omega)) (dw_ 3 (.int .i64 ((f 0 : Nat) : Int)) (fun a X ee => execCv53 (p := f 0) rfl (ee _) hf0) (dv_ 5 (cutL v 1) (fun a X ee hb => execCutL (k := 1) (hv.on (BB.trans (hb.mono BB.size))) rfl (ee _) rfl (by omega)) (dc_ 6 (clone9 (fun j => f (1 + j)) (m - 1) (cutL v 1) X3_0 (cutL_is (hv.on (BB.trans (bD.mono BB.size))) (by omega)) (by omega)) fun e X3 hh => ?_))))
    obtain ⟨v14, he, hk, hb⟩ := hh
    refine ⟨_, he, ?_⟩
    have bQ : Below X3_0.heap.size X3_0 X3 := hb
    have FO : (X3.ownsRow V.heap.size 5 1 v14 (m - 1) (bytesL (m - 1) (fun j => f (1 + j)))) := own_base hk ((BB.trans (bD.mono BB.size))).size
    replace bD := bD.trans (bQ.mono bD.size)
    clear bQ
    refine ⟨Or.inr bD, ?_⟩
    refine dy_ [(2, .int .i64 ((f 0 : Nat) : Int)), (3, v14), (4, .int .i64 ((0 : Nat) : Int))] ?_
    rintro a A ⟨t2, t3, t4, -⟩
    replace BB := BB.trans (bD.mono BB.size)
    clear bD
    rw [show anH m f = f 0 by unfold anH; rw [hq]; rfl, show anE m f = 0 by unfold anE; rw [hq]; rfl, show anN m f = m - 1 by unfold anN; rw [hq]; rfl]
    refine wp_ret ?_
    repeat (first | with_reducible refine ret_in ?_ | with_reducible refine ret_then ?_)
    refine bodyPost_ret (res3 rfl _ _ _) A.2 ⟨⟨_, ?_, FO⟩, BB⟩
    show Ending.returned (.tuple #[a.eval (.tmp 2), a.eval (.tmp 3), a.eval (.tmp 4)]) = _
    rw [t2, t3, t4]
end Go.Proofs.Ytcibogmghagpoaa.Dro
