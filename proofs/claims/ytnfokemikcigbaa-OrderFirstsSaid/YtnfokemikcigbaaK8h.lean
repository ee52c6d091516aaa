import Derived.Test.YtnfokemikcigbaaK8g
namespace Go.Proofs.Ytnfokemikcigbaa.Ord
open Go.RowKit Gf8 Aes By8 Cel Cf Win Drw Prm
open Go.ChangeMaps Go.MapKept
/- OrderNotes, OrderFirsts. Written by tools/mkK8h.py. -/

/-- A fault behind the first k notes. -/
def ntk (p q : Nat → Int) : Nat → Int × Int
  | 0 => (0, 0)
  | k + 1 => nt (ntk p q k) (p k) (q k)
theorem ntk_inv (p q : Nat → Int) (k : Nat) : ((ntk p q k).2 = 0 → ∀ j, j < k → p j < 0 ∨ q j = 0) ∧ ((ntk p q k).2 ≠ 0 → 0 ≤ (ntk p q k).1 ∧ (∃ j, j < k ∧ p j = (ntk p q k).1 ∧ q j = (ntk p q k).2) ∧ ∀ j, j < k → 0 ≤ p j → q j ≠ 0 → (ntk p q k).1 ≤ p j) := by
  induction k with
  | zero => exact ⟨fun _ j hj => absurd hj (Nat.not_lt_zero j), fun h => absurd rfl h⟩
  | succ k ih =>
    show ((nt (ntk p q k) (p k) (q k)).2 = 0 → _) ∧ ((nt (ntk p q k) (p k) (q k)).2 ≠ 0 → 0 ≤ (nt (ntk p q k) (p k) (q k)).1 ∧ (∃ j, j < k + 1 ∧ p j = (nt (ntk p q k) (p k) (q k)).1 ∧ q j = (nt (ntk p q k) (p k) (q k)).2) ∧ ∀ j, j < k + 1 → 0 ≤ p j → q j ≠ 0 → (nt (ntk p q k) (p k) (q k)).1 ≤ p j)
    obtain ⟨s, hs⟩ : ∃ s, ntk p q k = s := ⟨_, rfl⟩
    rw [hs] at ih ⊢
    unfold nt
    have lt : ∀ j, j < k + 1 → j < k ∨ j = k := fun j hj => by omega
    by_cases h1 : p k < 0 ∨ q k = 0
    · rw [if_pos h1]
      refine ⟨fun h j hj => ?_, fun h => ?_⟩
      · rcases lt j hj with w | rfl
        · exact ih.1 h j w
        · exact h1
      · obtain ⟨a1, ⟨j0, b1, b2, b3⟩, a3⟩ := ih.2 h
        refine ⟨a1, ⟨j0, by omega, b2, b3⟩, fun j hj c1 c2 => ?_⟩
        rcases lt j hj with w | rfl
        · exact a3 j w c1 c2
        · rcases h1 with h1 | h1
          · omega
          · exact absurd h1 c2
    · rw [if_neg h1]
      rw [not_or] at h1
      by_cases h2 : s.2 = 0 ∨ p k < s.1
      · rw [if_pos h2]
        refine ⟨fun h => absurd h h1.2, fun _ => ⟨by show 0 ≤ p k; omega, ⟨k, by omega, rfl, rfl⟩, fun j hj c1 c2 => ?_⟩⟩
        show p k ≤ p j
        rcases lt j hj with w | rfl
        · by_cases h3 : s.2 = 0
          · rcases ih.1 h3 j w with q1 | q1
            · omega
            · exact absurd q1 c2
          · have := (ih.2 h3).2.2 j w c1 c2
            rcases h2 with h2 | h2
            · exact absurd h2 h3
            · omega
        · omega
      · rw [if_neg h2]
        rw [not_or] at h2
        obtain ⟨a1, ⟨j0, b1, b2, b3⟩, a3⟩ := ih.2 h2.1
        refine ⟨fun h => absurd h h2.1, fun _ => ⟨a1, ⟨j0, by omega, b2, b3⟩, fun j hj c1 c2 => ?_⟩⟩
        rcases lt j hj with w | rfl
        · exact a3 j w c1 c2
        · omega
/-- Forwards and backwards. -/
theorem two_ways (q : Nat → Int) (l : Nat) : fs (ntk (fun j => ((j : Nat) : Int)) q l) = fs (ntk (fun j => ((l - 1 - j : Nat) : Int)) (fun j => q (l - 1 - j)) l) := by
  have a := ntk_inv (fun j => ((j : Nat) : Int)) q l
  have b := ntk_inv (fun j => ((l - 1 - j : Nat) : Int)) (fun j => q (l - 1 - j)) l
  obtain ⟨s, hs⟩ : ∃ s, ntk (fun j => ((j : Nat) : Int)) q l = s := ⟨_, rfl⟩
  obtain ⟨t, ht⟩ : ∃ t, ntk (fun j => ((l - 1 - j : Nat) : Int)) (fun j => q (l - 1 - j)) l = t := ⟨_, rfl⟩
  rw [hs] at a ⊢
  rw [ht] at b ⊢
  by_cases h1 : s.2 = 0
  · by_cases h2 : t.2 = 0
    · unfold fs
      rw [if_pos h1, if_pos h2]
    · obtain ⟨-, ⟨j, j1, -, j3⟩, -⟩ := b.2 h2
      rcases a.1 h1 (l - 1 - j) (by omega) with w | w
      · omega
      · exact absurd (j3.symm.trans w) h2
  · obtain ⟨-, ⟨i, i1, i2, i3⟩, i4⟩ := a.2 h1
    by_cases h2 : t.2 = 0
    · rcases b.1 h2 (l - 1 - i) (by omega) with w | w
      · omega
      · rw [show l - 1 - (l - 1 - i) = i by omega] at w
        exact absurd (i3.symm.trans w) h1
    · obtain ⟨-, ⟨j, j1, j2, j3⟩, j4⟩ := b.2 h2
      have e1 := i4 (l - 1 - j) (by omega) (by omega) (fun w => h2 (j3.symm.trans w))
      have e2 := j4 (l - 1 - i) (by omega) (by omega) (fun w => h1 (by rw [← i3]; rw [show l - 1 - (l - 1 - i) = i by omega] at w; exact w))
      have e3 : i = l - 1 - j := by omega
      unfold fs
      rw [if_neg h1, if_neg h2]
      refine Prod.ext (by rw [← i2, ← j2, e3]) ?_
      rw [← i3, ← j3, e3]
theorem fs_zero {s : Int × Int} (h : s.2 = 0) : fs s = (-1, 0) := if_pos h
theorem fs_some {s : Int × Int} (h : s.2 ≠ 0) : fs s = s := if_neg h
theorem first_at {q : Nat → Int} {l : Nat} (h : ¬ ∀ j, j < l → q j = 0) : ∃ j0, j0 < l ∧ q j0 ≠ 0 ∧ ∀ k, k < j0 → q k = 0 := by
  induction l with
  | zero => exact absurd (fun j hj => absurd hj (Nat.not_lt_zero j)) h
  | succ l ih =>
    by_cases h2 : ∀ j, j < l → q j = 0
    · refine ⟨l, by omega, fun e => h fun j hj => ?_, h2⟩
      by_cases e2 : j = l
      · rw [e2]; exact e
      · exact h2 j (by omega)
    · obtain ⟨j0, a, b, c⟩ := ih h2
      exact ⟨j0, by omega, b, c⟩
theorem execEqBB20 {o : Oper} {a : Act} {w : World} {x y : Operand} {b : Bool} (ho : o.op = .binOp .eql 4 x y 4) (hx : a.eval x = .bool b) (hy : a.eval y = .bool b) : (execOp a.eval o).run Try.prog w = .ok (.value (.bool true)) w := by
  unfold execOp
  simp only [ho, hx, hy]
  simp [go_sem]
theorem first_is {g : Nat} {s : Int × Int} {V : World} {x y : Int} (hg : V.heap[g]? = some (.cells (fC s.1 s.2) 46)) (h : fs s = (x, y)) : Calls Try.prog 16 #[.pointer (some ⟨g, 0, none⟩)] V fun e w' => e = .returned (.tuple #[.int .i64 x, .int .i64 y]) ∧ Below V.heap.size V w' := by
  have := pfirst (s := s) hg
  rw [h] at this
  exact this
set_option maxRecDepth 100000 in
set_option maxHeartbeats 4000000 in
/-- OrderFirsts. -/
theorem firsts_z (v : Value) (l : Nat) (p q : Nat → Int) (V : World) (hP : SliceP V v l p q) (hl : l ≤ 8796093021952) (hA : (ntk p q l).2 = 0) (x y : Int) (hx : fs (ntk (fun j => ((j : Nat) : Int)) q l) = (x, y)) (hy : y = 0) (h0 : ∀ j, j < l → q j = 0) :
    Calls Try.prog 6 #[v] V fun e w' => e = .returned (.bool true) ∧ Below V.heap.size V w' := by
  go_enter Try.func6, Try.ntmps6
  refine wo_ 151 [(0, v)] ?_
  rintro a A ⟨t0, -⟩
  have BW : Below V.heap.size V V := Below.refl _ _
  have BB : Below V.heap.size V V := Below.refl _ _
  refine wp_seq ?_
  refine wi_ A (h1_ t0) (rf_ [] (h1_ t0) ?_)
  rintro a A - ⟨t0, -⟩
  refine wp_seq ?_
  obtain ⟨g3, egg3⟩ : ∃ z_ : Nat, V.heap.size = z_ := ⟨_, rfl⟩
  refine wi_ A (h1_ t0) (rs_ 0 (fun a ee => ?_))
  refine stepV rfl rfl (execAl2 rfl (Or.inr rfl)) ⟨.pointer (some ⟨g3, 0, none⟩), ⟨_, rfl, by subst egg3; rfl⟩, fun X1_1 hX => ?_⟩
  have bQ : Below V.heap.size V X1_1 := by subst hX egg3; exact (belNew V _)
  have Fg3 : (X1_1.heap[g3]? = some (.cells (fC 0 0) 46)) := by subst hX egg3; exact heapNew V _
  have Fgeg3 : (V.heap.size ≤ g3) := by subst hX egg3; exact (BB).size
  replace BB := BB.trans (bQ.mono BB.size)
  clear bQ hX egg3 ee a
  obtain ⟨g4, egg4⟩ : ∃ z_ : Nat, X1_1.heap.size = z_ := ⟨_, rfl⟩
  refine rs_ 1 (fun a ee => ?_)
  refine stepV rfl rfl (execAl2 rfl (Or.inr rfl)) ⟨.pointer (some ⟨g4, 0, none⟩), ⟨_, rfl, by subst egg4; rfl⟩, fun X1 hX => ?_⟩
  have bQ : Below X1_1.heap.size X1_1 X1 := by subst hX egg4; exact (belNew X1_1 _)
  have Fg4 : (X1.heap[g4]? = some (.cells (fC 0 0) 46)) := by subst hX egg4; exact heapNew X1_1 _
  have Fgeg4 : (V.heap.size ≤ g4) := by subst hX egg4; exact (BB).size
  have Fng4g3 : (g3 ≠ g4) := by subst hX egg4; exact Nat.ne_of_lt (Array.getElem?_eq_some_iff.1 Fg3).1
  replace Fg3 := (on9 Fg3 bQ)
  replace BB := BB.trans (bQ.mono BB.size)
  clear bQ hX egg4 ee a
  refine rf_ [(3, .pointer (some ⟨g3, 0, none⟩)), (4, .pointer (some ⟨g4, 0, none⟩))] (h1_ t0) ?_
  rintro a A ⟨t3, t4, -⟩ ⟨t0, -⟩
  refine wp_seq ?_
  refine wi_ A (h3_ t0 t3 t4) (rc_ 0 (pnote (s := ((0, 0) : Int × Int)) (4) (7) Fg4) fun e X2 hh => ?_)
  obtain ⟨he, hk, hs⟩ := hh
  refine ⟨_, he, ?_⟩
  obtain ⟨BB, Fg3, Fg4n1⟩ : Below V.heap.size V X2 ∧ (X2.heap[g3]? = some (.cells (fC 0 0) 46)) ∧ (X2.heap[g4]? = some (.cells (fC (nt ((0, 0) : Int × Int) (4) (7)).1 (nt ((0, 0) : Int × Int) (4) (7)).2) 46)) := ⟨sv_bel BB hs (fun q hq => hq ▸ Fgeg4), (bk_saved Fg3 hs (fun e => (Ne.symm Fng4g3) e.symm)), hk⟩
  clear Fg4
  refine rf_ [] (h3_ t0 t3 t4) ?_
  rintro a A - ⟨t0, t3, t4, -⟩
  refine wp_seq ?_
  refine wp_seq ?_
  refine wi_ A (h3_ t0 t3 t4) (rc_ 0 (pfirst (s := (nt ((0, 0) : Int × Int) (4) (7))) Fg4n1) (cb_ fun X3 bQ => ?_))
  replace Fg3 := (on9 Fg3 bQ)
  replace Fg4n1 := (on9 Fg4n1 bQ)
  replace BB := BB.trans (bQ.mono BB.size)
  clear bQ
  refine rf_ [(5, .int .i64 (fs (nt ((0, 0) : Int × Int) (4) (7))).1), (6, .int .i64 (fs (nt ((0, 0) : Int × Int) (4) (7))).2)] (h2_ t0 t3) ?_
  rintro a A ⟨t5, t6, -⟩ ⟨t0, t3, -⟩
  refine wp_seq ?_
  refine wi_ A (h4_ t0 t3 t5 t6) (rv_ 1 (.bool false) (fun a ee => execDec (exIneq3 (p := (fs (nt ((0, 0) : Int × Int) (4) (7))).1) (q := 4) rfl (ee _) rfl) (decide_eq_false (by decide))) (rv_ 4 (.bool false) (fun a ee => execDec (exIneqE (p := (fs (nt ((0, 0) : Int × Int) (4) (7))).2) (q := 7) rfl (ee _) rfl) (decide_eq_false (by decide))) (rf_ [(29, .bool false)] (h2_ t0 t3) ?_)))
  rintro a A ⟨t29, -⟩ ⟨t0, t3, -⟩
  refine wp_cond_false t29 ?_
  refine wp_skip ?_
  clear t29
  clear Fgeg4
  clear Fg4n1
  refine wp_seq ?_
  obtain ⟨g7, egg7⟩ : ∃ z_ : Nat, X3.heap.size = z_ := ⟨_, rfl⟩
  refine wi_ A (h2_ t0 t3) (rs_ 0 (fun a ee => ?_))
  refine stepV rfl rfl (execAl2 rfl (Or.inr rfl)) ⟨.pointer (some ⟨g7, 0, none⟩), ⟨_, rfl, by subst egg7; rfl⟩, fun X6_1 hX => ?_⟩
  have bQ : Below X3.heap.size X3 X6_1 := by subst hX egg7; exact (belNew X3 _)
  have Fg7 : (X6_1.heap[g7]? = some (.cells (fC 0 0) 46)) := by subst hX egg7; exact heapNew X3 _
  have Fgeg7 : (V.heap.size ≤ g7) := by subst hX egg7; exact (BB).size
  have Fng7g3 : (g3 ≠ g7) := by subst hX egg7; exact Nat.ne_of_lt (Array.getElem?_eq_some_iff.1 Fg3).1
  replace Fg3 := (on9 Fg3 bQ)
  replace BB := BB.trans (bQ.mono BB.size)
  clear bQ hX egg7 ee a
  obtain ⟨g8, egg8⟩ : ∃ z_ : Nat, X6_1.heap.size = z_ := ⟨_, rfl⟩
  refine rs_ 1 (fun a ee => ?_)
  refine stepV rfl rfl (execAl2 rfl (Or.inr rfl)) ⟨.pointer (some ⟨g8, 0, none⟩), ⟨_, rfl, by subst egg8; rfl⟩, fun X6 hX => ?_⟩
  have bQ : Below X6_1.heap.size X6_1 X6 := by subst hX egg8; exact (belNew X6_1 _)
  have Fg8 : (X6.heap[g8]? = some (.cells (fC 0 0) 46)) := by subst hX egg8; exact heapNew X6_1 _
  have Fgeg8 : (V.heap.size ≤ g8) := by subst hX egg8; exact (BB).size
  have Fng8g3 : (g3 ≠ g8) := by subst hX egg8; exact Nat.ne_of_lt (Array.getElem?_eq_some_iff.1 Fg3).1
  have Fng8g7 : (g7 ≠ g8) := by subst hX egg8; exact Nat.ne_of_lt (Array.getElem?_eq_some_iff.1 Fg7).1
  replace Fg3 := (on9 Fg3 bQ)
  replace Fg7 := (on9 Fg7 bQ)
  replace BB := BB.trans (bQ.mono BB.size)
  clear bQ hX egg8 ee a
  refine rf_ [(7, .pointer (some ⟨g7, 0, none⟩)), (8, .pointer (some ⟨g8, 0, none⟩))] (h2_ t0 t3) ?_
  rintro a A ⟨t7, t8, -⟩ ⟨t0, t3, -⟩
  have Fa : X6.heap[g7]? = some (.cells (fC (ntk p q 0).1 (ntk p q 0).2) 46) := Fg7
  have Ff : X6.heap[g3]? = some (.cells (fC (ntk (fun j => ((j : Nat) : Int)) q 0).1 (ntk (fun j => ((j : Nat) : Int)) q 0).2) 46) := Fg3
  have Fb : X6.heap[g8]? = some (.cells (fC (ntk (fun j => ((l - 1 - j : Nat) : Int)) (fun j => q (l - 1 - j)) 0).1 (ntk (fun j => ((l - 1 - j : Nat) : Int)) (fun j => q (l - 1 - j)) 0).2) 46) := Fg8
  refine wp_seq ?_
  refine wp_seq ?_
  refine wi_ A (h4_ t0 t3 t7 t8) (rv_ 1 (.int .i64 ((l : Nat) : Int)) (fun a ee => execLnP (len := l) rfl (Or.inr (Or.inr (Or.inl rfl))) (ee _) hP.shp) (rf_ [(30, v), (31, .int .i64 ((l : Nat) : Int)), (32, .int .i64 ((0 : Nat) : Int))] (h4_ t0 t3 t7 t8) ?_))
  rintro a A ⟨t30, t31, t32, -⟩ ⟨t0, t3, t7, t8, -⟩
  refine wp_block ?_
  refine wp_loop (fun a W => ∃ (i : Nat), i ≤ l ∧ (a.tmps.size = 151 ∧ a.defers = []) ∧ a.eval (.tmp 0) = v ∧ a.eval (.tmp 3) = .pointer (some ⟨g3, 0, none⟩) ∧ a.eval (.tmp 7) = .pointer (some ⟨g7, 0, none⟩) ∧ a.eval (.tmp 8) = .pointer (some ⟨g8, 0, none⟩) ∧ a.eval (.tmp 30) = v ∧ a.eval (.tmp 31) = .int .i64 ((l : Nat) : Int) ∧ a.eval (.tmp 32) = .int .i64 ((i : Nat) : Int) ∧ Below V.heap.size V W ∧ (W.heap[g7]? = some (.cells (fC (ntk p q i).1 (ntk p q i).2) 46)) ∧ (W.heap[g3]? = some (.cells (fC (ntk (fun j => ((j : Nat) : Int)) q i).1 (ntk (fun j => ((j : Nat) : Int)) q i).2) 46)) ∧ (W.heap[g8]? = some (.cells (fC (ntk (fun j => ((l - 1 - j : Nat) : Int)) (fun j => q (l - 1 - j)) i).1 (ntk (fun j => ((l - 1 - j : Nat) : Int)) (fun j => q (l - 1 - j)) i).2) 46))) (fun a _ => l - (intOf (a.eval (.tmp 32))).toNat) ⟨0, Nat.zero_le _, A, t0, t3, t7, t8, t30, t31, t32, BB, Fa, Ff, Fb⟩ ?_
  clear A t0 t3 t7 t8 t30 t31 t32 BB Fa Ff Fb a
  rintro a XL8 ⟨i, hi, A, t0, t3, t7, t8, t30, t31, t32, BB, Fa, Ff, Fb⟩
  have esi := t32
  refine wp_seq ?_
  refine wi_ A (h7_ t0 t3 t7 t8 t30 t31 t32) (rv_ 0 (.bool (decide (i < l))) (fun a ee => execLtW (p := i) (q := l) rfl (ee _) (ee _)) (rf_ [(33, .bool (decide (i < l)))] (h7_ t0 t3 t7 t8 t30 t31 t32) ?_))
  rintro a A ⟨t33, -⟩ ⟨t0, t3, t7, t8, t30, t31, t32, -⟩
  refine wp_seq ?_
  by_cases lti : i < l
  · rw [decide_eq_true lti] at t33
    refine wp_cond_true t33 ?_
    refine wp_skip ?_
    clear t33
    refine wp_seq ?_
    refine wp_block ?_
    obtain ⟨pb, po, pc, ep_, hpb, hpc⟩ := hP.at (show 0 < l by omega)
    have cP : ∀ X, Below V.heap.size V X → ∀ j, j < l → X.cell? ⟨pb, po + j * 2, none⟩ = some (.int .i64 (p j)) ∧ X.cell? ⟨pb, po + j * 2 + 1, none⟩ = some (.int .i64 (q j)) := fun X hX j hj => ⟨by rw [cell_below hX hpb]; exact (hpc j hj).1, by rw [cell_below hX hpb]; exact (hpc j hj).2⟩
    have hr : l - 1 - i < l := by omega
    refine wp_seq ?_
    refine wi_ A (h7_ t0 t3 t7 t8 t30 t31 t32) (rf_ [(9, .int .i64 ((i : Nat) : Int))] (h7_ t0 t3 t7 t8 t30 t31 t32) ?_)
    rintro a A ⟨t9, -⟩ ⟨t0, t3, t7, t8, t30, t31, t32, -⟩
    refine wp_seq ?_
    refine wj_ [0, 1, 2, 3, 4, 5, 6, 7, 8, 9, 10] [10] [4, 9] [10] A (h8_ t0 t3 t7 t8 t30 t31 t32 t9) (fun X10_0 bD => ?_)
    refine dw_ 2 (.pointer (some ⟨pb, po + i * 2, none⟩)) (fun a X ee => execIxP (k := i) rfl (Or.inr (Or.inr (rfl))) ((ee _).trans ep_) (ee _) lti) (dw_ 3 (.pointer (some ⟨pb, po + i * 2, none⟩)) (fun a X ee => execFqN0 rfl (ee _)) (dv_ 4 (.int .i64 (p i)) (fun a X ee hb => execL20 rfl (Or.inl rfl) (ee _) (cP X (BB.trans (hb.mono BB.size)) i lti).1) (dw_ 7 (.pointer (some ⟨pb, po + i * 2, none⟩)) (fun a X ee => execIxP (k := i) rfl (Or.inr (Or.inr (rfl))) ((ee _).trans ep_) (ee _) lti) (dw_ 8 (.pointer (some ⟨pb, po + i * 2 + 1, none⟩)) (fun a X ee => execFqN1 rfl (ee _)) (dv_ 9 (.int .i64 (q i)) (fun a X ee hb => execL20 rfl (Or.inr (Or.inl rfl)) (ee _) (cP X (BB.trans (hb.mono BB.size)) i lti).2) (dc_ 10 (pnote (s := (ntk p q i)) (p i) (q i) (on9 Fa bD)) fun e X10 hh => ?_))))))
    obtain ⟨he, hk, hs⟩ := hh
    refine ⟨_, he, ?_⟩
    obtain ⟨BB, Ff, Fb, Fg7n2⟩ : Below V.heap.size V X10 ∧ (X10.heap[g3]? = some (.cells (fC (ntk (fun j => ((j : Nat) : Int)) q i).1 (ntk (fun j => ((j : Nat) : Int)) q i).2) 46)) ∧ (X10.heap[g8]? = some (.cells (fC (ntk (fun j => ((l - 1 - j : Nat) : Int)) (fun j => q (l - 1 - j)) i).1 (ntk (fun j => ((l - 1 - j : Nat) : Int)) (fun j => q (l - 1 - j)) i).2) 46)) ∧ (X10.heap[g7]? = some (.cells (fC (nt (ntk p q i) (p i) (q i)).1 (nt (ntk p q i) (p i) (q i)).2) 46)) := ⟨sv_bel (BB.trans (bD.mono BB.size)) hs (fun q hq => hq ▸ Fgeg7), (bk_saved (on9 Ff bD) hs (fun e => (Ne.symm Fng7g3) e.symm)), (bk_saved (on9 Fb bD) hs (fun e => Fng8g7 e.symm)), hk⟩
    clear bD Fa
    refine ⟨Or.inl rfl, ?_⟩
    refine dz_ [] (h8_ t0 t3 t7 t8 t30 t31 t32 t9) ?_
    rintro a A - ⟨t0, t3, t7, t8, t30, t31, t32, t9, -⟩
    refine wp_seq ?_
    refine wi_ A (h8_ t0 t3 t7 t8 t30 t31 t32 t9) (rv_ 3 (.pointer (some ⟨pb, po + i * 2, none⟩)) (fun a ee => execIxP (k := i) rfl (Or.inr (Or.inr (rfl))) ((ee _).trans ep_) (ee _) lti) (rv_ 4 (.pointer (some ⟨pb, po + i * 2 + 1, none⟩)) (fun a ee => execFqN1 rfl (ee _)) (rv_ 5 (.int .i64 (q i)) (fun a ee => execL20 rfl (Or.inr (Or.inl rfl)) (ee _) (cP X10 BB i lti).2) (rc_ 6 (pnote (s := (ntk (fun j => ((j : Nat) : Int)) q i)) ((i : Nat) : Int) (q i) Ff) fun e X11 hh => ?_))))
    obtain ⟨he, hk, hs⟩ := hh
    refine ⟨_, he, ?_⟩
    obtain ⟨BB, Fb, Fg7n2, Fg3n3⟩ : Below V.heap.size V X11 ∧ (X11.heap[g8]? = some (.cells (fC (ntk (fun j => ((l - 1 - j : Nat) : Int)) (fun j => q (l - 1 - j)) i).1 (ntk (fun j => ((l - 1 - j : Nat) : Int)) (fun j => q (l - 1 - j)) i).2) 46)) ∧ (X11.heap[g7]? = some (.cells (fC (nt (ntk p q i) (p i) (q i)).1 (nt (ntk p q i) (p i) (q i)).2) 46)) ∧ (X11.heap[g3]? = some (.cells (fC (nt (ntk (fun j => ((j : Nat) : Int)) q i) ((i : Nat) : Int) (q i)).1 (nt (ntk (fun j => ((j : Nat) : Int)) q i) ((i : Nat) : Int) (q i)).2) 46)) := ⟨sv_bel BB hs (fun q hq => hq ▸ Fgeg3), (bk_saved Fb hs (fun e => Fng8g3 e.symm)), (bk_saved Fg7n2 hs (fun e => Fng7g3 e.symm)), hk⟩
    clear Ff
    refine rf_ [] (h8_ t0 t3 t7 t8 t30 t31 t32 t9) ?_
    rintro a A - ⟨t0, t3, t7, t8, t30, t31, t32, t9, -⟩
    refine wi_ A (h8_ t0 t3 t7 t8 t30 t31 t32 t9) (rv_ 1 (.int .i64 ((l : Nat) : Int)) (fun a ee => execLnP (len := l) rfl (Or.inr (Or.inr (Or.inl rfl))) (ee _) hP.shp) (rv_ 2 (.int .i64 ((l - 1 : Nat) : Int)) (fun a ee => By8.execSubI (p := l) (q := 1) rfl (ee _) rfl (by omega) (by omega)) (rv_ 4 (.int .i64 ((l - 1 - i : Nat) : Int)) (fun a ee => By8.execSubI (p := l - 1) (q := i) rfl (ee _) (ee _) (by omega) (by omega)) (rv_ 7 (.int .i64 ((l : Nat) : Int)) (fun a ee => execLnP (len := l) rfl (Or.inr (Or.inr (Or.inl rfl))) (ee _) hP.shp) (rv_ 8 (.int .i64 ((l - 1 : Nat) : Int)) (fun a ee => By8.execSubI (p := l) (q := 1) rfl (ee _) rfl (by omega) (by omega)) (rv_ 10 (.int .i64 ((l - 1 - i : Nat) : Int)) (fun a ee => By8.execSubI (p := l - 1) (q := i) rfl (ee _) (ee _) (by omega) (by omega)) (rv_ 11 (.pointer (some ⟨pb, po + (l - 1 - i) * 2, none⟩)) (fun a ee => execIxP (k := l - 1 - i) rfl (Or.inr (Or.inr (rfl))) ((ee _).trans ep_) (ee _) hr) (rv_ 12 (.pointer (some ⟨pb, po + (l - 1 - i) * 2 + 1, none⟩)) (fun a ee => execFqN1 rfl (ee _)) (rv_ 13 (.int .i64 (q (l - 1 - i))) (fun a ee => execL20 rfl (Or.inr (Or.inl rfl)) (ee _) (cP X11 BB (l - 1 - i) hr).2) (rc_ 14 (pnote (s := (ntk (fun j => ((l - 1 - j : Nat) : Int)) (fun j => q (l - 1 - j)) i)) ((l - 1 - i : Nat) : Int) (q (l - 1 - i)) Fb) fun e X12 hh => ?_))))))))))
    obtain ⟨he, hk, hs⟩ := hh
    refine ⟨_, he, ?_⟩
    obtain ⟨BB, Fg7n2, Fg3n3, Fg8n4⟩ : Below V.heap.size V X12 ∧ (X12.heap[g7]? = some (.cells (fC (nt (ntk p q i) (p i) (q i)).1 (nt (ntk p q i) (p i) (q i)).2) 46)) ∧ (X12.heap[g3]? = some (.cells (fC (nt (ntk (fun j => ((j : Nat) : Int)) q i) ((i : Nat) : Int) (q i)).1 (nt (ntk (fun j => ((j : Nat) : Int)) q i) ((i : Nat) : Int) (q i)).2) 46)) ∧ (X12.heap[g8]? = some (.cells (fC (nt (ntk (fun j => ((l - 1 - j : Nat) : Int)) (fun j => q (l - 1 - j)) i) ((l - 1 - i : Nat) : Int) (q (l - 1 - i))).1 (nt (ntk (fun j => ((l - 1 - j : Nat) : Int)) (fun j => q (l - 1 - j)) i) ((l - 1 - i : Nat) : Int) (q (l - 1 - i))).2) 46)) := ⟨sv_bel BB hs (fun q hq => hq ▸ Fgeg8), (bk_saved Fg7n2 hs (fun e => (Ne.symm Fng8g7) e.symm)), (bk_saved Fg3n3 hs (fun e => (Ne.symm Fng8g3) e.symm)), hk⟩
    clear Fb
    refine rf_ [] (h7_ t0 t3 t7 t8 t30 t31 t32) ?_
    rintro a A - ⟨t0, t3, t7, t8, t30, t31, t32, -⟩
    have Fa : X12.heap[g7]? = some (.cells (fC (ntk p q (i + 1)).1 (ntk p q (i + 1)).2) 46) := Fg7n2
    have Ff : X12.heap[g3]? = some (.cells (fC (ntk (fun j => ((j : Nat) : Int)) q (i + 1)).1 (ntk (fun j => ((j : Nat) : Int)) q (i + 1)).2) 46) := Fg3n3
    have Fb : X12.heap[g8]? = some (.cells (fC (ntk (fun j => ((l - 1 - j : Nat) : Int)) (fun j => q (l - 1 - j)) (i + 1)).1 (ntk (fun j => ((l - 1 - j : Nat) : Int)) (fun j => q (l - 1 - j)) (i + 1)).2) 46) := Fg8n4
    refine wi_ A (h7_ t0 t3 t7 t8 t30 t31 t32) (rv_ 0 (.int .i64 ((i + 1 : Nat) : Int)) (fun a ee => execAd8 (p := i) (q := 1) rfl (ee _) rfl (by omega)) (rf_ [(32, .int .i64 ((i + 1 : Nat) : Int))] (h6_ t0 t3 t7 t8 t30 t31) ?_))
    rintro a A ⟨t32, -⟩ ⟨t0, t3, t7, t8, t30, t31, -⟩
    exact ⟨⟨i + 1, lti, A, t0, t3, t7, t8, t30, t31, t32, BB, Fa, Ff, Fb⟩, by show l - (intOf (a.eval (.tmp 32))).toNat < l - (intOf (Act.eval _ (.tmp 32))).toNat; rw [t32, esi]; show l - (i + 1) < l - i; omega⟩
  rw [decide_eq_false lti] at t33
  refine wp_cond_false t33 ?_
  refine wp_exit ?_
  first | with_reducible refine exit_in ?_ | with_reducible refine exit_then (exit_in ?_) | with_reducible refine exit_then (exit_then (exit_in ?_)) | refine exit_in ?_ | refine exit_then (exit_in ?_) | refine exit_then (exit_then (exit_in ?_))
  clear t33 esi
  obtain rfl : l = i := by omega
  refine wp_seq ?_
  refine wi_ A (h7_ t0 t3 t7 t8 t30 t31 t32) (rc_ 0 (first_is (s := (ntk p q l)) (x := (-1)) (y := 0) Fa (fs_zero hA)) (cb_ fun X14 bQ => ?_))
  replace Fa := (on9 Fa bQ)
  replace Ff := (on9 Ff bQ)
  replace Fb := (on9 Fb bQ)
  replace BB := BB.trans (bQ.mono BB.size)
  clear bQ
  refine rf_ [(10, .int .i64 (-1)), (11, .int .i64 0)] (h3_ t0 t3 t8) ?_
  rintro a A ⟨t10, t11, -⟩ ⟨t0, t3, t8, -⟩
  refine wp_seq ?_
  refine wi_ A (h5_ t0 t3 t8 t10 t11) (rv_ 1 (.bool true) (fun a ee => execDec (exIeql3 (p := (-1)) (q := (-1)) rfl (ee _) rfl) (decide_eq_true (by decide))) (rv_ 4 (.bool true) (fun a ee => execDec (exIeqlE (p := 0) (q := 0) rfl (ee _) rfl) (decide_eq_true (by decide))) (rf_ [(12, .bool true)] (h5_ t0 t3 t8 t10 t11) ?_)))
  rintro a A ⟨t12, -⟩ ⟨t0, t3, t8, t10, t11, -⟩
  refine wp_seq ?_
  refine wp_seq ?_
  refine wi_ A (h6_ t0 t3 t8 t10 t11 t12) (rv_ 1 (.int .i64 ((l : Nat) : Int)) (fun a ee => execLnP (len := l) rfl (Or.inr (Or.inr (Or.inl rfl))) (ee _) hP.shp) (rf_ [(79, v), (80, .int .i64 ((l : Nat) : Int)), (81, .int .i64 ((0 : Nat) : Int))] (h6_ t0 t3 t8 t10 t11 t12) ?_))
  rintro a A ⟨t79, t80, t81, -⟩ ⟨t0, t3, t8, t10, t11, t12, -⟩
  refine wp_block ?_
  refine wp_loop (fun a W => ∃ (i : Nat), i ≤ l ∧ (a.tmps.size = 151 ∧ a.defers = []) ∧ a.eval (.tmp 0) = v ∧ a.eval (.tmp 3) = .pointer (some ⟨g3, 0, none⟩) ∧ a.eval (.tmp 8) = .pointer (some ⟨g8, 0, none⟩) ∧ a.eval (.tmp 10) = .int .i64 (-1) ∧ a.eval (.tmp 11) = .int .i64 0 ∧ a.eval (.tmp 12) = .bool true ∧ a.eval (.tmp 79) = v ∧ a.eval (.tmp 80) = .int .i64 ((l : Nat) : Int) ∧ a.eval (.tmp 81) = .int .i64 ((i : Nat) : Int) ∧ Below V.heap.size V W ∧ (W.heap[g3]? = some (.cells (fC (ntk (fun j => ((j : Nat) : Int)) q l).1 (ntk (fun j => ((j : Nat) : Int)) q l).2) 46)) ∧ (W.heap[g8]? = some (.cells (fC (ntk (fun j => ((l - 1 - j : Nat) : Int)) (fun j => q (l - 1 - j)) l).1 (ntk (fun j => ((l - 1 - j : Nat) : Int)) (fun j => q (l - 1 - j)) l).2) 46))) (fun a _ => l - (intOf (a.eval (.tmp 81))).toNat) ⟨0, Nat.zero_le _, A, t0, t3, t8, t10, t11, t12, t79, t80, t81, BB, Ff, Fb⟩ ?_
  clear A t0 t3 t8 t10 t11 t12 t79 t80 t81 BB Ff Fb a
  rintro a XL17 ⟨i, hi, A, t0, t3, t8, t10, t11, t12, t79, t80, t81, BB, Ff, Fb⟩
  have esi := t81
  refine wp_seq ?_
  refine wi_ A (h9_ t0 t3 t8 t10 t11 t12 t79 t80 t81) (rv_ 0 (.bool (decide (i < l))) (fun a ee => execLtW (p := i) (q := l) rfl (ee _) (ee _)) (rf_ [(82, .bool (decide (i < l)))] (h9_ t0 t3 t8 t10 t11 t12 t79 t80 t81) ?_))
  rintro a A ⟨t82, -⟩ ⟨t0, t3, t8, t10, t11, t12, t79, t80, t81, -⟩
  refine wp_seq ?_
  by_cases lti : i < l
  · rw [decide_eq_true lti] at t82
    refine wp_cond_true t82 ?_
    refine wp_skip ?_
    clear t82
    refine wp_seq ?_
    refine wp_block ?_
    obtain ⟨pb, po, pc, ep_, hpb, hpc⟩ := hP.at (show 0 < l by omega)
    have cP : ∀ X, Below V.heap.size V X → ∀ j, j < l → X.cell? ⟨pb, po + j * 2, none⟩ = some (.int .i64 (p j)) ∧ X.cell? ⟨pb, po + j * 2 + 1, none⟩ = some (.int .i64 (q j)) := fun X hX j hj => ⟨by rw [cell_below hX hpb]; exact (hpc j hj).1, by rw [cell_below hX hpb]; exact (hpc j hj).2⟩
    refine wp_seq ?_
    obtain ⟨g14, egg14⟩ : ∃ z_ : Nat, XL17.heap.size = z_ := ⟨_, rfl⟩
    refine wi_ A (h9_ t0 t3 t8 t10 t11 t12 t79 t80 t81) (rv_ 0 (.pointer (some ⟨pb, po + i * 2, none⟩)) (fun a ee => execIxP (k := i) rfl (Or.inr (Or.inr (rfl))) ((ee _).trans ep_) (ee _) lti) (rv_ 1 (.agg (fC (p i) (q i))) (fun a ee => execLdN rfl (ee _) (cP XL17 BB i lti).1 (cP XL17 BB i lti).2) (rs_ 2 (fun a ee => ?_))))
    refine stepV rfl rfl (execAl2 rfl (Or.inl rfl)) ⟨.pointer (some ⟨g14, 0, none⟩), ⟨_, rfl, by subst egg14; rfl⟩, fun X18_1 hX => ?_⟩
    have bQ : Below XL17.heap.size XL17 X18_1 := by subst hX egg14; exact (belNew XL17 _)
    have Fg14 : (X18_1.heap[g14]? = some (.cells (fC 0 0) 53)) := by subst hX egg14; exact heapNew XL17 _
    have Fgeg14 : (V.heap.size ≤ g14) := by subst hX egg14; exact (BB).size
    replace Ff := (on9 Ff bQ)
    replace Fb := (on9 Fb bQ)
    replace BB := BB.trans (bQ.mono BB.size)
    clear bQ hX egg14 ee a
    refine rs_ 3 (fun a ee => ?_)
    refine stepS rfl rfl (execStN rfl (ee _) (ee _) Fg14) ⟨_, ⟨_, rfl, rfl⟩, fun X18 hX => ?_⟩
    obtain ⟨BB, Ff, Fb, Fg14s5⟩ : Below V.heap.size V X18 ∧ (X18.heap[g3]? = some (.cells (fC (ntk (fun j => ((j : Nat) : Int)) q l).1 (ntk (fun j => ((j : Nat) : Int)) q l).2) 46)) ∧ (X18.heap[g8]? = some (.cells (fC (ntk (fun j => ((l - 1 - j : Nat) : Int)) (fun j => q (l - 1 - j)) l).1 (ntk (fun j => ((l - 1 - j : Nat) : Int)) (fun j => q (l - 1 - j)) l).2) 46)) ∧ (X18.heap[g14]? = some (.cells (fC (p i) (q i)) 53)) := by subst hX; exact ⟨below4 BB Fgeg14 _, (keepT Ff Fg14 (by decide) Duc.grR18), (keepT Fb Fg14 (by decide) Duc.grR18), setRow_heap _ _ _ _ _ _ Fg14⟩
    clear Fg14 hX ee a
    refine rf_ [(14, .pointer (some ⟨g14, 0, none⟩))] (h9_ t0 t3 t8 t10 t11 t12 t79 t80 t81) ?_
    rintro a A ⟨t14, -⟩ ⟨t0, t3, t8, t10, t11, t12, t79, t80, t81, -⟩
    by_cases c1 : p i ≥ 0
    · by_cases c2 : q i ≠ 0
      · exact ((ntk_inv p q l).1 hA i lti).elim (fun w => by omega) (fun w => absurd w c2)
      · refine wp_seq ?_
        refine wp_seq ?_
        refine wi_ A (h10_ t0 t3 t8 t10 t11 t12 t79 t80 t81 t14) (rv_ 0 (.pointer (some ⟨g14, 0, none⟩)) (fun a ee => execFzN0 rfl (ee _)) (rv_ 1 (.int .i64 (p i)) (fun a ee => execL20 rfl (Or.inl rfl) (ee _) (fC_at Fg14s5).1) (rv_ 2 (.bool true) (fun a ee => execDec (exIgeq3 (p := (p i)) (q := 0) rfl (ee _) rfl) (decide_eq_true c1)) (rv_ 4 (.pointer (some ⟨g14, 1, none⟩)) (fun a ee => execFzN1 rfl (ee _)) (rv_ 5 (.int .i64 (q i)) (fun a ee => execL20 rfl (Or.inr (Or.inl rfl)) (ee _) (fC_at Fg14s5).2) (rv_ 6 (.bool false) (fun a ee => execDec (exIneqE (p := (q i)) (q := 0) rfl (ee _) rfl) (decide_eq_false c2)) (rf_ [(102, .bool false)] (h10_ t0 t3 t8 t10 t11 t12 t79 t80 t81 t14) ?_)))))))
        rintro a A ⟨t102, -⟩ ⟨t0, t3, t8, t10, t11, t12, t79, t80, t81, t14, -⟩
        refine wp_cond_false t102 ?_
        refine wp_skip ?_
        clear t102
        refine wi_ A (h10_ t0 t3 t8 t10 t11 t12 t79 t80 t81 t14) (rf_ [(12, .bool true)] (h8_ t0 t3 t8 t10 t11 t79 t80 t81) ?_)
        rintro a A ⟨t12, -⟩ ⟨t0, t3, t8, t10, t11, t79, t80, t81, -⟩
        refine wi_ A (h9_ t0 t3 t8 t10 t11 t12 t79 t80 t81) (rv_ 0 (.int .i64 ((i + 1 : Nat) : Int)) (fun a ee => execAd8 (p := i) (q := 1) rfl (ee _) rfl (by omega)) (rf_ [(81, .int .i64 ((i + 1 : Nat) : Int))] (h8_ t0 t3 t8 t10 t11 t12 t79 t80) ?_))
        rintro a A ⟨t81, -⟩ ⟨t0, t3, t8, t10, t11, t12, t79, t80, -⟩
        exact ⟨⟨i + 1, lti, A, t0, t3, t8, t10, t11, t12, t79, t80, t81, BB, Ff, Fb⟩, by show l - (intOf (a.eval (.tmp 81))).toNat < l - (intOf (Act.eval _ (.tmp 81))).toNat; rw [t81, esi]; show l - (i + 1) < l - i; omega⟩
    · refine wp_seq ?_
      refine wp_seq ?_
      refine wi_ A (h10_ t0 t3 t8 t10 t11 t12 t79 t80 t81 t14) (rv_ 0 (.pointer (some ⟨g14, 0, none⟩)) (fun a ee => execFzN0 rfl (ee _)) (rv_ 1 (.int .i64 (p i)) (fun a ee => execL20 rfl (Or.inl rfl) (ee _) (fC_at Fg14s5).1) (rv_ 2 (.bool false) (fun a ee => execDec (exIgeq3 (p := (p i)) (q := 0) rfl (ee _) rfl) (decide_eq_false c1)) (rf_ [(102, .bool false)] (h10_ t0 t3 t8 t10 t11 t12 t79 t80 t81 t14) ?_))))
      rintro a A ⟨t102, -⟩ ⟨t0, t3, t8, t10, t11, t12, t79, t80, t81, t14, -⟩
      refine wp_cond_false t102 ?_
      refine wp_skip ?_
      clear t102
      refine wi_ A (h10_ t0 t3 t8 t10 t11 t12 t79 t80 t81 t14) (rf_ [(12, .bool true)] (h8_ t0 t3 t8 t10 t11 t79 t80 t81) ?_)
      rintro a A ⟨t12, -⟩ ⟨t0, t3, t8, t10, t11, t79, t80, t81, -⟩
      refine wi_ A (h9_ t0 t3 t8 t10 t11 t12 t79 t80 t81) (rv_ 0 (.int .i64 ((i + 1 : Nat) : Int)) (fun a ee => execAd8 (p := i) (q := 1) rfl (ee _) rfl (by omega)) (rf_ [(81, .int .i64 ((i + 1 : Nat) : Int))] (h8_ t0 t3 t8 t10 t11 t12 t79 t80) ?_))
      rintro a A ⟨t81, -⟩ ⟨t0, t3, t8, t10, t11, t12, t79, t80, -⟩
      exact ⟨⟨i + 1, lti, A, t0, t3, t8, t10, t11, t12, t79, t80, t81, BB, Ff, Fb⟩, by show l - (intOf (a.eval (.tmp 81))).toNat < l - (intOf (Act.eval _ (.tmp 81))).toNat; rw [t81, esi]; show l - (i + 1) < l - i; omega⟩
  rw [decide_eq_false lti] at t82
  refine wp_cond_false t82 ?_
  refine wp_exit ?_
  first | with_reducible refine exit_in ?_ | with_reducible refine exit_then (exit_in ?_) | with_reducible refine exit_then (exit_then (exit_in ?_)) | refine exit_in ?_ | refine exit_then (exit_in ?_) | refine exit_then (exit_then (exit_in ?_))
  clear t82 esi
  obtain rfl : l = i := by omega
  refine wp_seq ?_
  refine wi_ A (h9_ t0 t3 t8 t10 t11 t12 t79 t80 t81) (rc_ 0 (first_is (s := (ntk (fun j => ((j : Nat) : Int)) q l)) (x := x) (y := y) Ff hx) (cb_ fun X23 bQ => ?_))
  replace Ff := (on9 Ff bQ)
  replace Fb := (on9 Fb bQ)
  replace BB := BB.trans (bQ.mono BB.size)
  clear bQ
  refine rf_ [(15, .int .i64 x), (16, .int .i64 y)] (h4_ t0 t8 t11 t12) ?_
  rintro a A ⟨t15, t16, -⟩ ⟨t0, t8, t11, t12, -⟩
  refine wp_seq ?_
  refine wi_ A (h6_ t0 t8 t11 t12 t15 t16) (rc_ 0 (first_is (s := (ntk (fun j => ((l - 1 - j : Nat) : Int)) (fun j => q (l - 1 - j)) l)) (x := x) (y := y) Fb (two_ways q l ▸ hx)) (cb_ fun X24 bQ => ?_))
  replace Ff := (on9 Ff bQ)
  replace Fb := (on9 Fb bQ)
  replace BB := BB.trans (bQ.mono BB.size)
  clear bQ
  refine rf_ [(17, .int .i64 x), (18, .int .i64 y)] (h5_ t0 t11 t12 t15 t16) ?_
  rintro a A ⟨t17, t18, -⟩ ⟨t0, t11, t12, t15, t16, -⟩
  refine wp_seq ?_
  refine wi_ A (h7_ t0 t11 t12 t15 t16 t17 t18) (rv_ 4 (.bool true) (fun a ee => execDec (exIeql3 (p := x) (q := x) rfl (ee _) (ee _)) (decide_eq_true rfl)) (rv_ 9 (.bool true) (fun a ee => execDec (exIeqlE (p := y) (q := y) rfl (ee _) (ee _)) (decide_eq_true rfl)) (rv_ 13 (.bool true) (fun a ee => execDec (exIeqlE (p := y) (q := 0) rfl (ee _) rfl) (decide_eq_true hy)) (rv_ 15 (.bool true) (fun a ee => execDec (exIeqlE (p := 0) (q := 0) rfl (ee _) rfl) (decide_eq_true rfl)) (rc_ 18 (allb_t _ l p q X24 (hP.on BB) h0 (by omega)) (cb_ fun X25 bQ => ?_))))))
  replace Ff := (on9 Ff bQ)
  replace Fb := (on9 Fb bQ)
  replace BB := BB.trans (bQ.mono BB.size)
  clear bQ
  refine rv_ 20 (.bool true) (fun a ee => execEqBB20 rfl (ee _) (ee _)) (rg_ [(2, .bool true)] ?_)
  rintro a A ⟨t2, -⟩
  refine wp_ret ?_
  refine bodyPost_ret (results_tmp rfl _ _ _) A.2 ⟨?_, BB⟩
  show Ending.returned (a.eval (.tmp 2)) = _
  rw [t2]
set_option maxRecDepth 100000 in
set_option maxHeartbeats 4000000 in
/-- OrderFirsts. -/
theorem firsts_w (v : Value) (l : Nat) (p q : Nat → Int) (V : World) (hP : SliceP V v l p q) (hl : l ≤ 8796093021952) (hA : (ntk p q l).2 = 0) (x y : Int) (hx : fs (ntk (fun j => ((j : Nat) : Int)) q l) = (x, y)) (hy : ¬ y = 0) (j0 : Nat) (j1 : j0 < l) (j2 : q j0 ≠ 0) (j3 : ∀ k, k < j0 → q k = 0) :
    Calls Try.prog 6 #[v] V fun e w' => e = .returned (.bool true) ∧ Below V.heap.size V w' := by
  go_enter Try.func6, Try.ntmps6
  refine wo_ 151 [(0, v)] ?_
  rintro a A ⟨t0, -⟩
  have BW : Below V.heap.size V V := Below.refl _ _
  have BB : Below V.heap.size V V := Below.refl _ _
  refine wp_seq ?_
  refine wi_ A (h1_ t0) (rf_ [] (h1_ t0) ?_)
  rintro a A - ⟨t0, -⟩
  refine wp_seq ?_
  obtain ⟨g3, egg3⟩ : ∃ z_ : Nat, V.heap.size = z_ := ⟨_, rfl⟩
  refine wi_ A (h1_ t0) (rs_ 0 (fun a ee => ?_))
  refine stepV rfl rfl (execAl2 rfl (Or.inr rfl)) ⟨.pointer (some ⟨g3, 0, none⟩), ⟨_, rfl, by subst egg3; rfl⟩, fun X1_1 hX => ?_⟩
  have bQ : Below V.heap.size V X1_1 := by subst hX egg3; exact (belNew V _)
  have Fg3 : (X1_1.heap[g3]? = some (.cells (fC 0 0) 46)) := by subst hX egg3; exact heapNew V _
  have Fgeg3 : (V.heap.size ≤ g3) := by subst hX egg3; exact (BB).size
  replace BB := BB.trans (bQ.mono BB.size)
  clear bQ hX egg3 ee a
  obtain ⟨g4, egg4⟩ : ∃ z_ : Nat, X1_1.heap.size = z_ := ⟨_, rfl⟩
  refine rs_ 1 (fun a ee => ?_)
  refine stepV rfl rfl (execAl2 rfl (Or.inr rfl)) ⟨.pointer (some ⟨g4, 0, none⟩), ⟨_, rfl, by subst egg4; rfl⟩, fun X1 hX => ?_⟩
  have bQ : Below X1_1.heap.size X1_1 X1 := by subst hX egg4; exact (belNew X1_1 _)
  have Fg4 : (X1.heap[g4]? = some (.cells (fC 0 0) 46)) := by subst hX egg4; exact heapNew X1_1 _
  have Fgeg4 : (V.heap.size ≤ g4) := by subst hX egg4; exact (BB).size
  have Fng4g3 : (g3 ≠ g4) := by subst hX egg4; exact Nat.ne_of_lt (Array.getElem?_eq_some_iff.1 Fg3).1
  replace Fg3 := (on9 Fg3 bQ)
  replace BB := BB.trans (bQ.mono BB.size)
  clear bQ hX egg4 ee a
  refine rf_ [(3, .pointer (some ⟨g3, 0, none⟩)), (4, .pointer (some ⟨g4, 0, none⟩))] (h1_ t0) ?_
  rintro a A ⟨t3, t4, -⟩ ⟨t0, -⟩
  refine wp_seq ?_
  refine wi_ A (h3_ t0 t3 t4) (rc_ 0 (pnote (s := ((0, 0) : Int × Int)) (4) (7) Fg4) fun e X2 hh => ?_)
  obtain ⟨he, hk, hs⟩ := hh
  refine ⟨_, he, ?_⟩
  obtain ⟨BB, Fg3, Fg4n1⟩ : Below V.heap.size V X2 ∧ (X2.heap[g3]? = some (.cells (fC 0 0) 46)) ∧ (X2.heap[g4]? = some (.cells (fC (nt ((0, 0) : Int × Int) (4) (7)).1 (nt ((0, 0) : Int × Int) (4) (7)).2) 46)) := ⟨sv_bel BB hs (fun q hq => hq ▸ Fgeg4), (bk_saved Fg3 hs (fun e => (Ne.symm Fng4g3) e.symm)), hk⟩
  clear Fg4
  refine rf_ [] (h3_ t0 t3 t4) ?_
  rintro a A - ⟨t0, t3, t4, -⟩
  refine wp_seq ?_
  refine wp_seq ?_
  refine wi_ A (h3_ t0 t3 t4) (rc_ 0 (pfirst (s := (nt ((0, 0) : Int × Int) (4) (7))) Fg4n1) (cb_ fun X3 bQ => ?_))
  replace Fg3 := (on9 Fg3 bQ)
  replace Fg4n1 := (on9 Fg4n1 bQ)
  replace BB := BB.trans (bQ.mono BB.size)
  clear bQ
  refine rf_ [(5, .int .i64 (fs (nt ((0, 0) : Int × Int) (4) (7))).1), (6, .int .i64 (fs (nt ((0, 0) : Int × Int) (4) (7))).2)] (h2_ t0 t3) ?_
  rintro a A ⟨t5, t6, -⟩ ⟨t0, t3, -⟩
  refine wp_seq ?_
  refine wi_ A (h4_ t0 t3 t5 t6) (rv_ 1 (.bool false) (fun a ee => execDec (exIneq3 (p := (fs (nt ((0, 0) : Int × Int) (4) (7))).1) (q := 4) rfl (ee _) rfl) (decide_eq_false (by decide))) (rv_ 4 (.bool false) (fun a ee => execDec (exIneqE (p := (fs (nt ((0, 0) : Int × Int) (4) (7))).2) (q := 7) rfl (ee _) rfl) (decide_eq_false (by decide))) (rf_ [(29, .bool false)] (h2_ t0 t3) ?_)))
  rintro a A ⟨t29, -⟩ ⟨t0, t3, -⟩
  refine wp_cond_false t29 ?_
  refine wp_skip ?_
  clear t29
  clear Fgeg4
  clear Fg4n1
  refine wp_seq ?_
  obtain ⟨g7, egg7⟩ : ∃ z_ : Nat, X3.heap.size = z_ := ⟨_, rfl⟩
  refine wi_ A (h2_ t0 t3) (rs_ 0 (fun a ee => ?_))
  refine stepV rfl rfl (execAl2 rfl (Or.inr rfl)) ⟨.pointer (some ⟨g7, 0, none⟩), ⟨_, rfl, by subst egg7; rfl⟩, fun X6_1 hX => ?_⟩
  have bQ : Below X3.heap.size X3 X6_1 := by subst hX egg7; exact (belNew X3 _)
  have Fg7 : (X6_1.heap[g7]? = some (.cells (fC 0 0) 46)) := by subst hX egg7; exact heapNew X3 _
  have Fgeg7 : (V.heap.size ≤ g7) := by subst hX egg7; exact (BB).size
  have Fng7g3 : (g3 ≠ g7) := by subst hX egg7; exact Nat.ne_of_lt (Array.getElem?_eq_some_iff.1 Fg3).1
  replace Fg3 := (on9 Fg3 bQ)
  replace BB := BB.trans (bQ.mono BB.size)
  clear bQ hX egg7 ee a
  obtain ⟨g8, egg8⟩ : ∃ z_ : Nat, X6_1.heap.size = z_ := ⟨_, rfl⟩
  refine rs_ 1 (fun a ee => ?_)
  refine stepV rfl rfl (execAl2 rfl (Or.inr rfl)) ⟨.pointer (some ⟨g8, 0, none⟩), ⟨_, rfl, by subst egg8; rfl⟩, fun X6 hX => ?_⟩
  have bQ : Below X6_1.heap.size X6_1 X6 := by subst hX egg8; exact (belNew X6_1 _)
  have Fg8 : (X6.heap[g8]? = some (.cells (fC 0 0) 46)) := by subst hX egg8; exact heapNew X6_1 _
  have Fgeg8 : (V.heap.size ≤ g8) := by subst hX egg8; exact (BB).size
  have Fng8g3 : (g3 ≠ g8) := by subst hX egg8; exact Nat.ne_of_lt (Array.getElem?_eq_some_iff.1 Fg3).1
  have Fng8g7 : (g7 ≠ g8) := by subst hX egg8; exact Nat.ne_of_lt (Array.getElem?_eq_some_iff.1 Fg7).1
  replace Fg3 := (on9 Fg3 bQ)
  replace Fg7 := (on9 Fg7 bQ)
  replace BB := BB.trans (bQ.mono BB.size)
  clear bQ hX egg8 ee a
  refine rf_ [(7, .pointer (some ⟨g7, 0, none⟩)), (8, .pointer (some ⟨g8, 0, none⟩))] (h2_ t0 t3) ?_
  rintro a A ⟨t7, t8, -⟩ ⟨t0, t3, -⟩
  have Fa : X6.heap[g7]? = some (.cells (fC (ntk p q 0).1 (ntk p q 0).2) 46) := Fg7
  have Ff : X6.heap[g3]? = some (.cells (fC (ntk (fun j => ((j : Nat) : Int)) q 0).1 (ntk (fun j => ((j : Nat) : Int)) q 0).2) 46) := Fg3
  have Fb : X6.heap[g8]? = some (.cells (fC (ntk (fun j => ((l - 1 - j : Nat) : Int)) (fun j => q (l - 1 - j)) 0).1 (ntk (fun j => ((l - 1 - j : Nat) : Int)) (fun j => q (l - 1 - j)) 0).2) 46) := Fg8
  refine wp_seq ?_
  refine wp_seq ?_
  refine wi_ A (h4_ t0 t3 t7 t8) (rv_ 1 (.int .i64 ((l : Nat) : Int)) (fun a ee => execLnP (len := l) rfl (Or.inr (Or.inr (Or.inl rfl))) (ee _) hP.shp) (rf_ [(30, v), (31, .int .i64 ((l : Nat) : Int)), (32, .int .i64 ((0 : Nat) : Int))] (h4_ t0 t3 t7 t8) ?_))
  rintro a A ⟨t30, t31, t32, -⟩ ⟨t0, t3, t7, t8, -⟩
  refine wp_block ?_
  refine wp_loop (fun a W => ∃ (i : Nat), i ≤ l ∧ (a.tmps.size = 151 ∧ a.defers = []) ∧ a.eval (.tmp 0) = v ∧ a.eval (.tmp 3) = .pointer (some ⟨g3, 0, none⟩) ∧ a.eval (.tmp 7) = .pointer (some ⟨g7, 0, none⟩) ∧ a.eval (.tmp 8) = .pointer (some ⟨g8, 0, none⟩) ∧ a.eval (.tmp 30) = v ∧ a.eval (.tmp 31) = .int .i64 ((l : Nat) : Int) ∧ a.eval (.tmp 32) = .int .i64 ((i : Nat) : Int) ∧ Below V.heap.size V W ∧ (W.heap[g7]? = some (.cells (fC (ntk p q i).1 (ntk p q i).2) 46)) ∧ (W.heap[g3]? = some (.cells (fC (ntk (fun j => ((j : Nat) : Int)) q i).1 (ntk (fun j => ((j : Nat) : Int)) q i).2) 46)) ∧ (W.heap[g8]? = some (.cells (fC (ntk (fun j => ((l - 1 - j : Nat) : Int)) (fun j => q (l - 1 - j)) i).1 (ntk (fun j => ((l - 1 - j : Nat) : Int)) (fun j => q (l - 1 - j)) i).2) 46))) (fun a _ => l - (intOf (a.eval (.tmp 32))).toNat) ⟨0, Nat.zero_le _, A, t0, t3, t7, t8, t30, t31, t32, BB, Fa, Ff, Fb⟩ ?_
  clear A t0 t3 t7 t8 t30 t31 t32 BB Fa Ff Fb a
  rintro a XL8 ⟨i, hi, A, t0, t3, t7, t8, t30, t31, t32, BB, Fa, Ff, Fb⟩
  have esi := t32
  refine wp_seq ?_
  refine wi_ A (h7_ t0 t3 t7 t8 t30 t31 t32) (rv_ 0 (.bool (decide (i < l))) (fun a ee => execLtW (p := i) (q := l) rfl (ee _) (ee _)) (rf_ [(33, .bool (decide (i < l)))] (h7_ t0 t3 t7 t8 t30 t31 t32) ?_))
  rintro a A ⟨t33, -⟩ ⟨t0, t3, t7, t8, t30, t31, t32, -⟩
  refine wp_seq ?_
  by_cases lti : i < l
  · rw [decide_eq_true lti] at t33
    refine wp_cond_true t33 ?_
    refine wp_skip ?_
    clear t33
    refine wp_seq ?_
    refine wp_block ?_
    obtain ⟨pb, po, pc, ep_, hpb, hpc⟩ := hP.at (show 0 < l by omega)
    have cP : ∀ X, Below V.heap.size V X → ∀ j, j < l → X.cell? ⟨pb, po + j * 2, none⟩ = some (.int .i64 (p j)) ∧ X.cell? ⟨pb, po + j * 2 + 1, none⟩ = some (.int .i64 (q j)) := fun X hX j hj => ⟨by rw [cell_below hX hpb]; exact (hpc j hj).1, by rw [cell_below hX hpb]; exact (hpc j hj).2⟩
    have hr : l - 1 - i < l := by omega
    refine wp_seq ?_
    refine wi_ A (h7_ t0 t3 t7 t8 t30 t31 t32) (rf_ [(9, .int .i64 ((i : Nat) : Int))] (h7_ t0 t3 t7 t8 t30 t31 t32) ?_)
    rintro a A ⟨t9, -⟩ ⟨t0, t3, t7, t8, t30, t31, t32, -⟩
    refine wp_seq ?_
    refine wj_ [0, 1, 2, 3, 4, 5, 6, 7, 8, 9, 10] [10] [4, 9] [10] A (h8_ t0 t3 t7 t8 t30 t31 t32 t9) (fun X10_0 bD => ?_)
    refine dw_ 2 (.pointer (some ⟨pb, po + i * 2, none⟩)) (fun a X ee => execIxP (k := i) rfl (Or.inr (Or.inr (rfl))) ((ee _).trans ep_) (ee _) lti) (dw_ 3 (.pointer (some ⟨pb, po + i * 2, none⟩)) (fun a X ee => execFqN0 rfl (ee _)) (dv_ 4 (.int .i64 (p i)) (fun a X ee hb => execL20 rfl (Or.inl rfl) (ee _) (cP X (BB.trans (hb.mono BB.size)) i lti).1) (dw_ 7 (.pointer (some ⟨pb, po + i * 2, none⟩)) (fun a X ee => execIxP (k := i) rfl (Or.inr (Or.inr (rfl))) ((ee _).trans ep_) (ee _) lti) (dw_ 8 (.pointer (some ⟨pb, po + i * 2 + 1, none⟩)) (fun a X ee => execFqN1 rfl (ee _)) (dv_ 9 (.int .i64 (q i)) (fun a X ee hb => execL20 rfl (Or.inr (Or.inl rfl)) (ee _) (cP X (BB.trans (hb.mono BB.size)) i lti).2) (dc_ 10 (pnote (s := (ntk p q i)) (p i) (q i) (on9 Fa bD)) fun e X10 hh => ?_))))))
    obtain ⟨he, hk, hs⟩ := hh
    refine ⟨_, he, ?_⟩
    obtain ⟨BB, Ff, Fb, Fg7n2⟩ : Below V.heap.size V X10 ∧ (X10.heap[g3]? = some (.cells (fC (ntk (fun j => ((j : Nat) : Int)) q i).1 (ntk (fun j => ((j : Nat) : Int)) q i).2) 46)) ∧ (X10.heap[g8]? = some (.cells (fC (ntk (fun j => ((l - 1 - j : Nat) : Int)) (fun j => q (l - 1 - j)) i).1 (ntk (fun j => ((l - 1 - j : Nat) : Int)) (fun j => q (l - 1 - j)) i).2) 46)) ∧ (X10.heap[g7]? = some (.cells (fC (nt (ntk p q i) (p i) (q i)).1 (nt (ntk p q i) (p i) (q i)).2) 46)) := ⟨sv_bel (BB.trans (bD.mono BB.size)) hs (fun q hq => hq ▸ Fgeg7), (bk_saved (on9 Ff bD) hs (fun e => (Ne.symm Fng7g3) e.symm)), (bk_saved (on9 Fb bD) hs (fun e => Fng8g7 e.symm)), hk⟩
    clear bD Fa
    refine ⟨Or.inl rfl, ?_⟩
    refine dz_ [] (h8_ t0 t3 t7 t8 t30 t31 t32 t9) ?_
    rintro a A - ⟨t0, t3, t7, t8, t30, t31, t32, t9, -⟩
    refine wp_seq ?_
    refine wi_ A (h8_ t0 t3 t7 t8 t30 t31 t32 t9) (rv_ 3 (.pointer (some ⟨pb, po + i * 2, none⟩)) (fun a ee => execIxP (k := i) rfl (Or.inr (Or.inr (rfl))) ((ee _).trans ep_) (ee _) lti) (rv_ 4 (.pointer (some ⟨pb, po + i * 2 + 1, none⟩)) (fun a ee => execFqN1 rfl (ee _)) (rv_ 5 (.int .i64 (q i)) (fun a ee => execL20 rfl (Or.inr (Or.inl rfl)) (ee _) (cP X10 BB i lti).2) (rc_ 6 (pnote (s := (ntk (fun j => ((j : Nat) : Int)) q i)) ((i : Nat) : Int) (q i) Ff) fun e X11 hh => ?_))))
    obtain ⟨he, hk, hs⟩ := hh
    refine ⟨_, he, ?_⟩
    obtain ⟨BB, Fb, Fg7n2, Fg3n3⟩ : Below V.heap.size V X11 ∧ (X11.heap[g8]? = some (.cells (fC (ntk (fun j => ((l - 1 - j : Nat) : Int)) (fun j => q (l - 1 - j)) i).1 (ntk (fun j => ((l - 1 - j : Nat) : Int)) (fun j => q (l - 1 - j)) i).2) 46)) ∧ (X11.heap[g7]? = some (.cells (fC (nt (ntk p q i) (p i) (q i)).1 (nt (ntk p q i) (p i) (q i)).2) 46)) ∧ (X11.heap[g3]? = some (.cells (fC (nt (ntk (fun j => ((j : Nat) : Int)) q i) ((i : Nat) : Int) (q i)).1 (nt (ntk (fun j => ((j : Nat) : Int)) q i) ((i : Nat) : Int) (q i)).2) 46)) := ⟨sv_bel BB hs (fun q hq => hq ▸ Fgeg3), (bk_saved Fb hs (fun e => Fng8g3 e.symm)), (bk_saved Fg7n2 hs (fun e => Fng7g3 e.symm)), hk⟩
    clear Ff
    refine rf_ [] (h8_ t0 t3 t7 t8 t30 t31 t32 t9) ?_
    rintro a A - ⟨t0, t3, t7, t8, t30, t31, t32, t9, -⟩
    refine wi_ A (h8_ t0 t3 t7 t8 t30 t31 t32 t9) (rv_ 1 (.int .i64 ((l : Nat) : Int)) (fun a ee => execLnP (len := l) rfl (Or.inr (Or.inr (Or.inl rfl))) (ee _) hP.shp) (rv_ 2 (.int .i64 ((l - 1 : Nat) : Int)) (fun a ee => By8.execSubI (p := l) (q := 1) rfl (ee _) rfl (by omega) (by omega)) (rv_ 4 (.int .i64 ((l - 1 - i : Nat) : Int)) (fun a ee => By8.execSubI (p := l - 1) (q := i) rfl (ee _) (ee _) (by omega) (by omega)) (rv_ 7 (.int .i64 ((l : Nat) : Int)) (fun a ee => execLnP (len := l) rfl (Or.inr (Or.inr (Or.inl rfl))) (ee _) hP.shp) (rv_ 8 (.int .i64 ((l - 1 : Nat) : Int)) (fun a ee => By8.execSubI (p := l) (q := 1) rfl (ee _) rfl (by omega) (by omega)) (rv_ 10 (.int .i64 ((l - 1 - i : Nat) : Int)) (fun a ee => By8.execSubI (p := l - 1) (q := i) rfl (ee _) (ee _) (by omega) (by omega)) (rv_ 11 (.pointer (some ⟨pb, po + (l - 1 - i) * 2, none⟩)) (fun a ee => execIxP (k := l - 1 - i) rfl (Or.inr (Or.inr (rfl))) ((ee _).trans ep_) (ee _) hr) (rv_ 12 (.pointer (some ⟨pb, po + (l - 1 - i) * 2 + 1, none⟩)) (fun a ee => execFqN1 rfl (ee _)) (rv_ 13 (.int .i64 (q (l - 1 - i))) (fun a ee => execL20 rfl (Or.inr (Or.inl rfl)) (ee _) (cP X11 BB (l - 1 - i) hr).2) (rc_ 14 (pnote (s := (ntk (fun j => ((l - 1 - j : Nat) : Int)) (fun j => q (l - 1 - j)) i)) ((l - 1 - i : Nat) : Int) (q (l - 1 - i)) Fb) fun e X12 hh => ?_))))))))))
    obtain ⟨he, hk, hs⟩ := hh
    refine ⟨_, he, ?_⟩
    obtain ⟨BB, Fg7n2, Fg3n3, Fg8n4⟩ : Below V.heap.size V X12 ∧ (X12.heap[g7]? = some (.cells (fC (nt (ntk p q i) (p i) (q i)).1 (nt (ntk p q i) (p i) (q i)).2) 46)) ∧ (X12.heap[g3]? = some (.cells (fC (nt (ntk (fun j => ((j : Nat) : Int)) q i) ((i : Nat) : Int) (q i)).1 (nt (ntk (fun j => ((j : Nat) : Int)) q i) ((i : Nat) : Int) (q i)).2) 46)) ∧ (X12.heap[g8]? = some (.cells (fC (nt (ntk (fun j => ((l - 1 - j : Nat) : Int)) (fun j => q (l - 1 - j)) i) ((l - 1 - i : Nat) : Int) (q (l - 1 - i))).1 (nt (ntk (fun j => ((l - 1 - j : Nat) : Int)) (fun j => q (l - 1 - j)) i) ((l - 1 - i : Nat) : Int) (q (l - 1 - i))).2) 46)) := ⟨sv_bel BB hs (fun q hq => hq ▸ Fgeg8), (bk_saved Fg7n2 hs (fun e => (Ne.symm Fng8g7) e.symm)), (bk_saved Fg3n3 hs (fun e => (Ne.symm Fng8g3) e.symm)), hk⟩
    clear Fb
    refine rf_ [] (h7_ t0 t3 t7 t8 t30 t31 t32) ?_
    rintro a A - ⟨t0, t3, t7, t8, t30, t31, t32, -⟩
    have Fa : X12.heap[g7]? = some (.cells (fC (ntk p q (i + 1)).1 (ntk p q (i + 1)).2) 46) := Fg7n2
    have Ff : X12.heap[g3]? = some (.cells (fC (ntk (fun j => ((j : Nat) : Int)) q (i + 1)).1 (ntk (fun j => ((j : Nat) : Int)) q (i + 1)).2) 46) := Fg3n3
    have Fb : X12.heap[g8]? = some (.cells (fC (ntk (fun j => ((l - 1 - j : Nat) : Int)) (fun j => q (l - 1 - j)) (i + 1)).1 (ntk (fun j => ((l - 1 - j : Nat) : Int)) (fun j => q (l - 1 - j)) (i + 1)).2) 46) := Fg8n4
    refine wi_ A (h7_ t0 t3 t7 t8 t30 t31 t32) (rv_ 0 (.int .i64 ((i + 1 : Nat) : Int)) (fun a ee => execAd8 (p := i) (q := 1) rfl (ee _) rfl (by omega)) (rf_ [(32, .int .i64 ((i + 1 : Nat) : Int))] (h6_ t0 t3 t7 t8 t30 t31) ?_))
    rintro a A ⟨t32, -⟩ ⟨t0, t3, t7, t8, t30, t31, -⟩
    exact ⟨⟨i + 1, lti, A, t0, t3, t7, t8, t30, t31, t32, BB, Fa, Ff, Fb⟩, by show l - (intOf (a.eval (.tmp 32))).toNat < l - (intOf (Act.eval _ (.tmp 32))).toNat; rw [t32, esi]; show l - (i + 1) < l - i; omega⟩
  rw [decide_eq_false lti] at t33
  refine wp_cond_false t33 ?_
  refine wp_exit ?_
  first | with_reducible refine exit_in ?_ | with_reducible refine exit_then (exit_in ?_) | with_reducible refine exit_then (exit_then (exit_in ?_)) | refine exit_in ?_ | refine exit_then (exit_in ?_) | refine exit_then (exit_then (exit_in ?_))
  clear t33 esi
  obtain rfl : l = i := by omega
  refine wp_seq ?_
  refine wi_ A (h7_ t0 t3 t7 t8 t30 t31 t32) (rc_ 0 (first_is (s := (ntk p q l)) (x := (-1)) (y := 0) Fa (fs_zero hA)) (cb_ fun X14 bQ => ?_))
  replace Fa := (on9 Fa bQ)
  replace Ff := (on9 Ff bQ)
  replace Fb := (on9 Fb bQ)
  replace BB := BB.trans (bQ.mono BB.size)
  clear bQ
  refine rf_ [(10, .int .i64 (-1)), (11, .int .i64 0)] (h3_ t0 t3 t8) ?_
  rintro a A ⟨t10, t11, -⟩ ⟨t0, t3, t8, -⟩
  refine wp_seq ?_
  refine wi_ A (h5_ t0 t3 t8 t10 t11) (rv_ 1 (.bool true) (fun a ee => execDec (exIeql3 (p := (-1)) (q := (-1)) rfl (ee _) rfl) (decide_eq_true (by decide))) (rv_ 4 (.bool true) (fun a ee => execDec (exIeqlE (p := 0) (q := 0) rfl (ee _) rfl) (decide_eq_true (by decide))) (rf_ [(12, .bool true)] (h5_ t0 t3 t8 t10 t11) ?_)))
  rintro a A ⟨t12, -⟩ ⟨t0, t3, t8, t10, t11, -⟩
  refine wp_seq ?_
  refine wp_seq ?_
  refine wi_ A (h6_ t0 t3 t8 t10 t11 t12) (rv_ 1 (.int .i64 ((l : Nat) : Int)) (fun a ee => execLnP (len := l) rfl (Or.inr (Or.inr (Or.inl rfl))) (ee _) hP.shp) (rf_ [(79, v), (80, .int .i64 ((l : Nat) : Int)), (81, .int .i64 ((0 : Nat) : Int))] (h6_ t0 t3 t8 t10 t11 t12) ?_))
  rintro a A ⟨t79, t80, t81, -⟩ ⟨t0, t3, t8, t10, t11, t12, -⟩
  refine wp_block ?_
  refine wp_loop (fun a W => ∃ (i : Nat), i ≤ l ∧ (a.tmps.size = 151 ∧ a.defers = []) ∧ a.eval (.tmp 0) = v ∧ a.eval (.tmp 3) = .pointer (some ⟨g3, 0, none⟩) ∧ a.eval (.tmp 8) = .pointer (some ⟨g8, 0, none⟩) ∧ a.eval (.tmp 10) = .int .i64 (-1) ∧ a.eval (.tmp 11) = .int .i64 0 ∧ a.eval (.tmp 12) = .bool true ∧ a.eval (.tmp 79) = v ∧ a.eval (.tmp 80) = .int .i64 ((l : Nat) : Int) ∧ a.eval (.tmp 81) = .int .i64 ((i : Nat) : Int) ∧ Below V.heap.size V W ∧ (W.heap[g3]? = some (.cells (fC (ntk (fun j => ((j : Nat) : Int)) q l).1 (ntk (fun j => ((j : Nat) : Int)) q l).2) 46)) ∧ (W.heap[g8]? = some (.cells (fC (ntk (fun j => ((l - 1 - j : Nat) : Int)) (fun j => q (l - 1 - j)) l).1 (ntk (fun j => ((l - 1 - j : Nat) : Int)) (fun j => q (l - 1 - j)) l).2) 46))) (fun a _ => l - (intOf (a.eval (.tmp 81))).toNat) ⟨0, Nat.zero_le _, A, t0, t3, t8, t10, t11, t12, t79, t80, t81, BB, Ff, Fb⟩ ?_
  clear A t0 t3 t8 t10 t11 t12 t79 t80 t81 BB Ff Fb a
  rintro a XL17 ⟨i, hi, A, t0, t3, t8, t10, t11, t12, t79, t80, t81, BB, Ff, Fb⟩
  have esi := t81
  refine wp_seq ?_
  refine wi_ A (h9_ t0 t3 t8 t10 t11 t12 t79 t80 t81) (rv_ 0 (.bool (decide (i < l))) (fun a ee => execLtW (p := i) (q := l) rfl (ee _) (ee _)) (rf_ [(82, .bool (decide (i < l)))] (h9_ t0 t3 t8 t10 t11 t12 t79 t80 t81) ?_))
  rintro a A ⟨t82, -⟩ ⟨t0, t3, t8, t10, t11, t12, t79, t80, t81, -⟩
  refine wp_seq ?_
  by_cases lti : i < l
  · rw [decide_eq_true lti] at t82
    refine wp_cond_true t82 ?_
    refine wp_skip ?_
    clear t82
    refine wp_seq ?_
    refine wp_block ?_
    obtain ⟨pb, po, pc, ep_, hpb, hpc⟩ := hP.at (show 0 < l by omega)
    have cP : ∀ X, Below V.heap.size V X → ∀ j, j < l → X.cell? ⟨pb, po + j * 2, none⟩ = some (.int .i64 (p j)) ∧ X.cell? ⟨pb, po + j * 2 + 1, none⟩ = some (.int .i64 (q j)) := fun X hX j hj => ⟨by rw [cell_below hX hpb]; exact (hpc j hj).1, by rw [cell_below hX hpb]; exact (hpc j hj).2⟩
    refine wp_seq ?_
    obtain ⟨g14, egg14⟩ : ∃ z_ : Nat, XL17.heap.size = z_ := ⟨_, rfl⟩
    refine wi_ A (h9_ t0 t3 t8 t10 t11 t12 t79 t80 t81) (rv_ 0 (.pointer (some ⟨pb, po + i * 2, none⟩)) (fun a ee => execIxP (k := i) rfl (Or.inr (Or.inr (rfl))) ((ee _).trans ep_) (ee _) lti) (rv_ 1 (.agg (fC (p i) (q i))) (fun a ee => execLdN rfl (ee _) (cP XL17 BB i lti).1 (cP XL17 BB i lti).2) (rs_ 2 (fun a ee => ?_))))
    refine stepV rfl rfl (execAl2 rfl (Or.inl rfl)) ⟨.pointer (some ⟨g14, 0, none⟩), ⟨_, rfl, by subst egg14; rfl⟩, fun X18_1 hX => ?_⟩
    have bQ : Below XL17.heap.size XL17 X18_1 := by subst hX egg14; exact (belNew XL17 _)
    have Fg14 : (X18_1.heap[g14]? = some (.cells (fC 0 0) 53)) := by subst hX egg14; exact heapNew XL17 _
    have Fgeg14 : (V.heap.size ≤ g14) := by subst hX egg14; exact (BB).size
    replace Ff := (on9 Ff bQ)
    replace Fb := (on9 Fb bQ)
    replace BB := BB.trans (bQ.mono BB.size)
    clear bQ hX egg14 ee a
    refine rs_ 3 (fun a ee => ?_)
    refine stepS rfl rfl (execStN rfl (ee _) (ee _) Fg14) ⟨_, ⟨_, rfl, rfl⟩, fun X18 hX => ?_⟩
    obtain ⟨BB, Ff, Fb, Fg14s5⟩ : Below V.heap.size V X18 ∧ (X18.heap[g3]? = some (.cells (fC (ntk (fun j => ((j : Nat) : Int)) q l).1 (ntk (fun j => ((j : Nat) : Int)) q l).2) 46)) ∧ (X18.heap[g8]? = some (.cells (fC (ntk (fun j => ((l - 1 - j : Nat) : Int)) (fun j => q (l - 1 - j)) l).1 (ntk (fun j => ((l - 1 - j : Nat) : Int)) (fun j => q (l - 1 - j)) l).2) 46)) ∧ (X18.heap[g14]? = some (.cells (fC (p i) (q i)) 53)) := by subst hX; exact ⟨below4 BB Fgeg14 _, (keepT Ff Fg14 (by decide) Duc.grR18), (keepT Fb Fg14 (by decide) Duc.grR18), setRow_heap _ _ _ _ _ _ Fg14⟩
    clear Fg14 hX ee a
    refine rf_ [(14, .pointer (some ⟨g14, 0, none⟩))] (h9_ t0 t3 t8 t10 t11 t12 t79 t80 t81) ?_
    rintro a A ⟨t14, -⟩ ⟨t0, t3, t8, t10, t11, t12, t79, t80, t81, -⟩
    by_cases c1 : p i ≥ 0
    · by_cases c2 : q i ≠ 0
      · exact ((ntk_inv p q l).1 hA i lti).elim (fun w => by omega) (fun w => absurd w c2)
      · refine wp_seq ?_
        refine wp_seq ?_
        refine wi_ A (h10_ t0 t3 t8 t10 t11 t12 t79 t80 t81 t14) (rv_ 0 (.pointer (some ⟨g14, 0, none⟩)) (fun a ee => execFzN0 rfl (ee _)) (rv_ 1 (.int .i64 (p i)) (fun a ee => execL20 rfl (Or.inl rfl) (ee _) (fC_at Fg14s5).1) (rv_ 2 (.bool true) (fun a ee => execDec (exIgeq3 (p := (p i)) (q := 0) rfl (ee _) rfl) (decide_eq_true c1)) (rv_ 4 (.pointer (some ⟨g14, 1, none⟩)) (fun a ee => execFzN1 rfl (ee _)) (rv_ 5 (.int .i64 (q i)) (fun a ee => execL20 rfl (Or.inr (Or.inl rfl)) (ee _) (fC_at Fg14s5).2) (rv_ 6 (.bool false) (fun a ee => execDec (exIneqE (p := (q i)) (q := 0) rfl (ee _) rfl) (decide_eq_false c2)) (rf_ [(102, .bool false)] (h10_ t0 t3 t8 t10 t11 t12 t79 t80 t81 t14) ?_)))))))
        rintro a A ⟨t102, -⟩ ⟨t0, t3, t8, t10, t11, t12, t79, t80, t81, t14, -⟩
        refine wp_cond_false t102 ?_
        refine wp_skip ?_
        clear t102
        refine wi_ A (h10_ t0 t3 t8 t10 t11 t12 t79 t80 t81 t14) (rf_ [(12, .bool true)] (h8_ t0 t3 t8 t10 t11 t79 t80 t81) ?_)
        rintro a A ⟨t12, -⟩ ⟨t0, t3, t8, t10, t11, t79, t80, t81, -⟩
        refine wi_ A (h9_ t0 t3 t8 t10 t11 t12 t79 t80 t81) (rv_ 0 (.int .i64 ((i + 1 : Nat) : Int)) (fun a ee => execAd8 (p := i) (q := 1) rfl (ee _) rfl (by omega)) (rf_ [(81, .int .i64 ((i + 1 : Nat) : Int))] (h8_ t0 t3 t8 t10 t11 t12 t79 t80) ?_))
        rintro a A ⟨t81, -⟩ ⟨t0, t3, t8, t10, t11, t12, t79, t80, -⟩
        exact ⟨⟨i + 1, lti, A, t0, t3, t8, t10, t11, t12, t79, t80, t81, BB, Ff, Fb⟩, by show l - (intOf (a.eval (.tmp 81))).toNat < l - (intOf (Act.eval _ (.tmp 81))).toNat; rw [t81, esi]; show l - (i + 1) < l - i; omega⟩
    · refine wp_seq ?_
      refine wp_seq ?_
      refine wi_ A (h10_ t0 t3 t8 t10 t11 t12 t79 t80 t81 t14) (rv_ 0 (.pointer (some ⟨g14, 0, none⟩)) (fun a ee => execFzN0 rfl (ee _)) (rv_ 1 (.int .i64 (p i)) (fun a ee => execL20 rfl (Or.inl rfl) (ee _) (fC_at Fg14s5).1) (rv_ 2 (.bool false) (fun a ee => execDec (exIgeq3 (p := (p i)) (q := 0) rfl (ee _) rfl) (decide_eq_false c1)) (rf_ [(102, .bool false)] (h10_ t0 t3 t8 t10 t11 t12 t79 t80 t81 t14) ?_))))
      rintro a A ⟨t102, -⟩ ⟨t0, t3, t8, t10, t11, t12, t79, t80, t81, t14, -⟩
      refine wp_cond_false t102 ?_
      refine wp_skip ?_
      clear t102
      refine wi_ A (h10_ t0 t3 t8 t10 t11 t12 t79 t80 t81 t14) (rf_ [(12, .bool true)] (h8_ t0 t3 t8 t10 t11 t79 t80 t81) ?_)
      rintro a A ⟨t12, -⟩ ⟨t0, t3, t8, t10, t11, t79, t80, t81, -⟩
      refine wi_ A (h9_ t0 t3 t8 t10 t11 t12 t79 t80 t81) (rv_ 0 (.int .i64 ((i + 1 : Nat) : Int)) (fun a ee => execAd8 (p := i) (q := 1) rfl (ee _) rfl (by omega)) (rf_ [(81, .int .i64 ((i + 1 : Nat) : Int))] (h8_ t0 t3 t8 t10 t11 t12 t79 t80) ?_))
      rintro a A ⟨t81, -⟩ ⟨t0, t3, t8, t10, t11, t12, t79, t80, -⟩
      exact ⟨⟨i + 1, lti, A, t0, t3, t8, t10, t11, t12, t79, t80, t81, BB, Ff, Fb⟩, by show l - (intOf (a.eval (.tmp 81))).toNat < l - (intOf (Act.eval _ (.tmp 81))).toNat; rw [t81, esi]; show l - (i + 1) < l - i; omega⟩
  rw [decide_eq_false lti] at t82
  refine wp_cond_false t82 ?_
  refine wp_exit ?_
  first | with_reducible refine exit_in ?_ | with_reducible refine exit_then (exit_in ?_) | with_reducible refine exit_then (exit_then (exit_in ?_)) | refine exit_in ?_ | refine exit_then (exit_in ?_) | refine exit_then (exit_then (exit_in ?_))
  clear t82 esi
  obtain rfl : l = i := by omega
  refine wp_seq ?_
  refine wi_ A (h9_ t0 t3 t8 t10 t11 t12 t79 t80 t81) (rc_ 0 (first_is (s := (ntk (fun j => ((j : Nat) : Int)) q l)) (x := x) (y := y) Ff hx) (cb_ fun X23 bQ => ?_))
  replace Ff := (on9 Ff bQ)
  replace Fb := (on9 Fb bQ)
  replace BB := BB.trans (bQ.mono BB.size)
  clear bQ
  refine rf_ [(15, .int .i64 x), (16, .int .i64 y)] (h4_ t0 t8 t11 t12) ?_
  rintro a A ⟨t15, t16, -⟩ ⟨t0, t8, t11, t12, -⟩
  refine wp_seq ?_
  refine wi_ A (h6_ t0 t8 t11 t12 t15 t16) (rc_ 0 (first_is (s := (ntk (fun j => ((l - 1 - j : Nat) : Int)) (fun j => q (l - 1 - j)) l)) (x := x) (y := y) Fb (two_ways q l ▸ hx)) (cb_ fun X24 bQ => ?_))
  replace Ff := (on9 Ff bQ)
  replace Fb := (on9 Fb bQ)
  replace BB := BB.trans (bQ.mono BB.size)
  clear bQ
  refine rf_ [(17, .int .i64 x), (18, .int .i64 y)] (h5_ t0 t11 t12 t15 t16) ?_
  rintro a A ⟨t17, t18, -⟩ ⟨t0, t11, t12, t15, t16, -⟩
  refine wp_seq ?_
  refine wi_ A (h7_ t0 t11 t12 t15 t16 t17 t18) (rv_ 4 (.bool true) (fun a ee => execDec (exIeql3 (p := x) (q := x) rfl (ee _) (ee _)) (decide_eq_true rfl)) (rv_ 9 (.bool true) (fun a ee => execDec (exIeqlE (p := y) (q := y) rfl (ee _) (ee _)) (decide_eq_true rfl)) (rv_ 13 (.bool false) (fun a ee => execDec (exIeqlE (p := y) (q := 0) rfl (ee _) rfl) (decide_eq_false hy)) (rv_ 15 (.bool true) (fun a ee => execDec (exIeqlE (p := 0) (q := 0) rfl (ee _) rfl) (decide_eq_true rfl)) (rc_ 18 (allb_f _ l p q X24 (hP.on BB) j0 j1 j2 j3 (by omega)) (cb_ fun X25 bQ => ?_))))))
  replace Ff := (on9 Ff bQ)
  replace Fb := (on9 Fb bQ)
  replace BB := BB.trans (bQ.mono BB.size)
  clear bQ
  refine rv_ 20 (.bool true) (fun a ee => execEqBB20 rfl (ee _) (ee _)) (rg_ [(2, .bool true)] ?_)
  rintro a A ⟨t2, -⟩
  refine wp_ret ?_
  refine bodyPost_ret (results_tmp rfl _ _ _) A.2 ⟨?_, BB⟩
  show Ending.returned (a.eval (.tmp 2)) = _
  rw [t2]
set_option maxRecDepth 100000 in
set_option maxHeartbeats 4000000 in
/-- OrderFirsts. -/
theorem firsts_n (v : Value) (l : Nat) (p q : Nat → Int) (V : World) (hP : SliceP V v l p q) (hl : l ≤ 8796093021952) (lo er : Int) (hlo : ntk p q l = (lo, er)) (hE : er ≠ 0) (hI0 : 0 ≤ lo) (hI : (er = 0 → ∀ j, j < l → p j < 0 ∨ q j = 0) ∧ (er ≠ 0 → 0 ≤ lo ∧ (∃ j, j < l ∧ p j = lo ∧ q j = er) ∧ ∀ j, j < l → 0 ≤ p j → q j ≠ 0 → lo ≤ p j)) (x y : Int) (hx : fs (ntk (fun j => ((j : Nat) : Int)) q l) = (x, y)) (hy : ¬ y = 0) :
    Calls Try.prog 6 #[v] V fun e w' => e = .returned (.bool true) ∧ Below V.heap.size V w' := by
  go_enter Try.func6, Try.ntmps6
  refine wo_ 151 [(0, v)] ?_
  rintro a A ⟨t0, -⟩
  have BW : Below V.heap.size V V := Below.refl _ _
  have BB : Below V.heap.size V V := Below.refl _ _
  refine wp_seq ?_
  refine wi_ A (h1_ t0) (rf_ [] (h1_ t0) ?_)
  rintro a A - ⟨t0, -⟩
  refine wp_seq ?_
  obtain ⟨g3, egg3⟩ : ∃ z_ : Nat, V.heap.size = z_ := ⟨_, rfl⟩
  refine wi_ A (h1_ t0) (rs_ 0 (fun a ee => ?_))
  refine stepV rfl rfl (execAl2 rfl (Or.inr rfl)) ⟨.pointer (some ⟨g3, 0, none⟩), ⟨_, rfl, by subst egg3; rfl⟩, fun X1_1 hX => ?_⟩
  have bQ : Below V.heap.size V X1_1 := by subst hX egg3; exact (belNew V _)
  have Fg3 : (X1_1.heap[g3]? = some (.cells (fC 0 0) 46)) := by subst hX egg3; exact heapNew V _
  have Fgeg3 : (V.heap.size ≤ g3) := by subst hX egg3; exact (BB).size
  replace BB := BB.trans (bQ.mono BB.size)
  clear bQ hX egg3 ee a
  obtain ⟨g4, egg4⟩ : ∃ z_ : Nat, X1_1.heap.size = z_ := ⟨_, rfl⟩
  refine rs_ 1 (fun a ee => ?_)
  refine stepV rfl rfl (execAl2 rfl (Or.inr rfl)) ⟨.pointer (some ⟨g4, 0, none⟩), ⟨_, rfl, by subst egg4; rfl⟩, fun X1 hX => ?_⟩
  have bQ : Below X1_1.heap.size X1_1 X1 := by subst hX egg4; exact (belNew X1_1 _)
  have Fg4 : (X1.heap[g4]? = some (.cells (fC 0 0) 46)) := by subst hX egg4; exact heapNew X1_1 _
  have Fgeg4 : (V.heap.size ≤ g4) := by subst hX egg4; exact (BB).size
  have Fng4g3 : (g3 ≠ g4) := by subst hX egg4; exact Nat.ne_of_lt (Array.getElem?_eq_some_iff.1 Fg3).1
  replace Fg3 := (on9 Fg3 bQ)
  replace BB := BB.trans (bQ.mono BB.size)
  clear bQ hX egg4 ee a
  refine rf_ [(3, .pointer (some ⟨g3, 0, none⟩)), (4, .pointer (some ⟨g4, 0, none⟩))] (h1_ t0) ?_
  rintro a A ⟨t3, t4, -⟩ ⟨t0, -⟩
  refine wp_seq ?_
  refine wi_ A (h3_ t0 t3 t4) (rc_ 0 (pnote (s := ((0, 0) : Int × Int)) (4) (7) Fg4) fun e X2 hh => ?_)
  obtain ⟨he, hk, hs⟩ := hh
  refine ⟨_, he, ?_⟩
  obtain ⟨BB, Fg3, Fg4n1⟩ : Below V.heap.size V X2 ∧ (X2.heap[g3]? = some (.cells (fC 0 0) 46)) ∧ (X2.heap[g4]? = some (.cells (fC (nt ((0, 0) : Int × Int) (4) (7)).1 (nt ((0, 0) : Int × Int) (4) (7)).2) 46)) := ⟨sv_bel BB hs (fun q hq => hq ▸ Fgeg4), (bk_saved Fg3 hs (fun e => (Ne.symm Fng4g3) e.symm)), hk⟩
  clear Fg4
  refine rf_ [] (h3_ t0 t3 t4) ?_
  rintro a A - ⟨t0, t3, t4, -⟩
  refine wp_seq ?_
  refine wp_seq ?_
  refine wi_ A (h3_ t0 t3 t4) (rc_ 0 (pfirst (s := (nt ((0, 0) : Int × Int) (4) (7))) Fg4n1) (cb_ fun X3 bQ => ?_))
  replace Fg3 := (on9 Fg3 bQ)
  replace Fg4n1 := (on9 Fg4n1 bQ)
  replace BB := BB.trans (bQ.mono BB.size)
  clear bQ
  refine rf_ [(5, .int .i64 (fs (nt ((0, 0) : Int × Int) (4) (7))).1), (6, .int .i64 (fs (nt ((0, 0) : Int × Int) (4) (7))).2)] (h2_ t0 t3) ?_
  rintro a A ⟨t5, t6, -⟩ ⟨t0, t3, -⟩
  refine wp_seq ?_
  refine wi_ A (h4_ t0 t3 t5 t6) (rv_ 1 (.bool false) (fun a ee => execDec (exIneq3 (p := (fs (nt ((0, 0) : Int × Int) (4) (7))).1) (q := 4) rfl (ee _) rfl) (decide_eq_false (by decide))) (rv_ 4 (.bool false) (fun a ee => execDec (exIneqE (p := (fs (nt ((0, 0) : Int × Int) (4) (7))).2) (q := 7) rfl (ee _) rfl) (decide_eq_false (by decide))) (rf_ [(29, .bool false)] (h2_ t0 t3) ?_)))
  rintro a A ⟨t29, -⟩ ⟨t0, t3, -⟩
  refine wp_cond_false t29 ?_
  refine wp_skip ?_
  clear t29
  clear Fgeg4
  clear Fg4n1
  refine wp_seq ?_
  obtain ⟨g7, egg7⟩ : ∃ z_ : Nat, X3.heap.size = z_ := ⟨_, rfl⟩
  refine wi_ A (h2_ t0 t3) (rs_ 0 (fun a ee => ?_))
  refine stepV rfl rfl (execAl2 rfl (Or.inr rfl)) ⟨.pointer (some ⟨g7, 0, none⟩), ⟨_, rfl, by subst egg7; rfl⟩, fun X6_1 hX => ?_⟩
  have bQ : Below X3.heap.size X3 X6_1 := by subst hX egg7; exact (belNew X3 _)
  have Fg7 : (X6_1.heap[g7]? = some (.cells (fC 0 0) 46)) := by subst hX egg7; exact heapNew X3 _
  have Fgeg7 : (V.heap.size ≤ g7) := by subst hX egg7; exact (BB).size
  have Fng7g3 : (g3 ≠ g7) := by subst hX egg7; exact Nat.ne_of_lt (Array.getElem?_eq_some_iff.1 Fg3).1
  replace Fg3 := (on9 Fg3 bQ)
  replace BB := BB.trans (bQ.mono BB.size)
  clear bQ hX egg7 ee a
  obtain ⟨g8, egg8⟩ : ∃ z_ : Nat, X6_1.heap.size = z_ := ⟨_, rfl⟩
  refine rs_ 1 (fun a ee => ?_)
  refine stepV rfl rfl (execAl2 rfl (Or.inr rfl)) ⟨.pointer (some ⟨g8, 0, none⟩), ⟨_, rfl, by subst egg8; rfl⟩, fun X6 hX => ?_⟩
  have bQ : Below X6_1.heap.size X6_1 X6 := by subst hX egg8; exact (belNew X6_1 _)
  have Fg8 : (X6.heap[g8]? = some (.cells (fC 0 0) 46)) := by subst hX egg8; exact heapNew X6_1 _
  have Fgeg8 : (V.heap.size ≤ g8) := by subst hX egg8; exact (BB).size
  have Fng8g3 : (g3 ≠ g8) := by subst hX egg8; exact Nat.ne_of_lt (Array.getElem?_eq_some_iff.1 Fg3).1
  have Fng8g7 : (g7 ≠ g8) := by subst hX egg8; exact Nat.ne_of_lt (Array.getElem?_eq_some_iff.1 Fg7).1
  replace Fg3 := (on9 Fg3 bQ)
  replace Fg7 := (on9 Fg7 bQ)
  replace BB := BB.trans (bQ.mono BB.size)
  clear bQ hX egg8 ee a
  refine rf_ [(7, .pointer (some ⟨g7, 0, none⟩)), (8, .pointer (some ⟨g8, 0, none⟩))] (h2_ t0 t3) ?_
  rintro a A ⟨t7, t8, -⟩ ⟨t0, t3, -⟩
  have Fa : X6.heap[g7]? = some (.cells (fC (ntk p q 0).1 (ntk p q 0).2) 46) := Fg7
  have Ff : X6.heap[g3]? = some (.cells (fC (ntk (fun j => ((j : Nat) : Int)) q 0).1 (ntk (fun j => ((j : Nat) : Int)) q 0).2) 46) := Fg3
  have Fb : X6.heap[g8]? = some (.cells (fC (ntk (fun j => ((l - 1 - j : Nat) : Int)) (fun j => q (l - 1 - j)) 0).1 (ntk (fun j => ((l - 1 - j : Nat) : Int)) (fun j => q (l - 1 - j)) 0).2) 46) := Fg8
  refine wp_seq ?_
  refine wp_seq ?_
  refine wi_ A (h4_ t0 t3 t7 t8) (rv_ 1 (.int .i64 ((l : Nat) : Int)) (fun a ee => execLnP (len := l) rfl (Or.inr (Or.inr (Or.inl rfl))) (ee _) hP.shp) (rf_ [(30, v), (31, .int .i64 ((l : Nat) : Int)), (32, .int .i64 ((0 : Nat) : Int))] (h4_ t0 t3 t7 t8) ?_))
  rintro a A ⟨t30, t31, t32, -⟩ ⟨t0, t3, t7, t8, -⟩
  refine wp_block ?_
  refine wp_loop (fun a W => ∃ (i : Nat), i ≤ l ∧ (a.tmps.size = 151 ∧ a.defers = []) ∧ a.eval (.tmp 0) = v ∧ a.eval (.tmp 3) = .pointer (some ⟨g3, 0, none⟩) ∧ a.eval (.tmp 7) = .pointer (some ⟨g7, 0, none⟩) ∧ a.eval (.tmp 8) = .pointer (some ⟨g8, 0, none⟩) ∧ a.eval (.tmp 30) = v ∧ a.eval (.tmp 31) = .int .i64 ((l : Nat) : Int) ∧ a.eval (.tmp 32) = .int .i64 ((i : Nat) : Int) ∧ Below V.heap.size V W ∧ (W.heap[g7]? = some (.cells (fC (ntk p q i).1 (ntk p q i).2) 46)) ∧ (W.heap[g3]? = some (.cells (fC (ntk (fun j => ((j : Nat) : Int)) q i).1 (ntk (fun j => ((j : Nat) : Int)) q i).2) 46)) ∧ (W.heap[g8]? = some (.cells (fC (ntk (fun j => ((l - 1 - j : Nat) : Int)) (fun j => q (l - 1 - j)) i).1 (ntk (fun j => ((l - 1 - j : Nat) : Int)) (fun j => q (l - 1 - j)) i).2) 46))) (fun a _ => l - (intOf (a.eval (.tmp 32))).toNat) ⟨0, Nat.zero_le _, A, t0, t3, t7, t8, t30, t31, t32, BB, Fa, Ff, Fb⟩ ?_
  clear A t0 t3 t7 t8 t30 t31 t32 BB Fa Ff Fb a
  rintro a XL8 ⟨i, hi, A, t0, t3, t7, t8, t30, t31, t32, BB, Fa, Ff, Fb⟩
  have esi := t32
  refine wp_seq ?_
  refine wi_ A (h7_ t0 t3 t7 t8 t30 t31 t32) (rv_ 0 (.bool (decide (i < l))) (fun a ee => execLtW (p := i) (q := l) rfl (ee _) (ee _)) (rf_ [(33, .bool (decide (i < l)))] (h7_ t0 t3 t7 t8 t30 t31 t32) ?_))
  rintro a A ⟨t33, -⟩ ⟨t0, t3, t7, t8, t30, t31, t32, -⟩
  refine wp_seq ?_
  by_cases lti : i < l
  · rw [decide_eq_true lti] at t33
    refine wp_cond_true t33 ?_
    refine wp_skip ?_
    clear t33
    refine wp_seq ?_
    refine wp_block ?_
    obtain ⟨pb, po, pc, ep_, hpb, hpc⟩ := hP.at (show 0 < l by omega)
    have cP : ∀ X, Below V.heap.size V X → ∀ j, j < l → X.cell? ⟨pb, po + j * 2, none⟩ = some (.int .i64 (p j)) ∧ X.cell? ⟨pb, po + j * 2 + 1, none⟩ = some (.int .i64 (q j)) := fun X hX j hj => ⟨by rw [cell_below hX hpb]; exact (hpc j hj).1, by rw [cell_below hX hpb]; exact (hpc j hj).2⟩
    have hr : l - 1 - i < l := by omega
    refine wp_seq ?_
    refine wi_ A (h7_ t0 t3 t7 t8 t30 t31 t32) (rf_ [(9, .int .i64 ((i : Nat) : Int))] (h7_ t0 t3 t7 t8 t30 t31 t32) ?_)
    rintro a A ⟨t9, -⟩ ⟨t0, t3, t7, t8, t30, t31, t32, -⟩
    refine wp_seq ?_
    refine wj_ [0, 1, 2, 3, 4, 5, 6, 7, 8, 9, 10] [10] [4, 9] [10] A (h8_ t0 t3 t7 t8 t30 t31 t32 t9) (fun X10_0 bD => ?_)
    refine dw_ 2 (.pointer (some ⟨pb, po + i * 2, none⟩)) (fun a X ee => execIxP (k := i) rfl (Or.inr (Or.inr (rfl))) ((ee _).trans ep_) (ee _) lti) (dw_ 3 (.pointer (some ⟨pb, po + i * 2, none⟩)) (fun a X ee => execFqN0 rfl (ee _)) (dv_ 4 (.int .i64 (p i)) (fun a X ee hb => execL20 rfl (Or.inl rfl) (ee _) (cP X (BB.trans (hb.mono BB.size)) i lti).1) (dw_ 7 (.pointer (some ⟨pb, po + i * 2, none⟩)) (fun a X ee => execIxP (k := i) rfl (Or.inr (Or.inr (rfl))) ((ee _).trans ep_) (ee _) lti) (dw_ 8 (.pointer (some ⟨pb, po + i * 2 + 1, none⟩)) (fun a X ee => execFqN1 rfl (ee _)) (dv_ 9 (.int .i64 (q i)) (fun a X ee hb => execL20 rfl (Or.inr (Or.inl rfl)) (ee _) (cP X (BB.trans (hb.mono BB.size)) i lti).2) (dc_ 10 (pnote (s := (ntk p q i)) (p i) (q i) (on9 Fa bD)) fun e X10 hh => ?_))))))
    obtain ⟨he, hk, hs⟩ := hh
    refine ⟨_, he, ?_⟩
    obtain ⟨BB, Ff, Fb, Fg7n2⟩ : Below V.heap.size V X10 ∧ (X10.heap[g3]? = some (.cells (fC (ntk (fun j => ((j : Nat) : Int)) q i).1 (ntk (fun j => ((j : Nat) : Int)) q i).2) 46)) ∧ (X10.heap[g8]? = some (.cells (fC (ntk (fun j => ((l - 1 - j : Nat) : Int)) (fun j => q (l - 1 - j)) i).1 (ntk (fun j => ((l - 1 - j : Nat) : Int)) (fun j => q (l - 1 - j)) i).2) 46)) ∧ (X10.heap[g7]? = some (.cells (fC (nt (ntk p q i) (p i) (q i)).1 (nt (ntk p q i) (p i) (q i)).2) 46)) := ⟨sv_bel (BB.trans (bD.mono BB.size)) hs (fun q hq => hq ▸ Fgeg7), (bk_saved (on9 Ff bD) hs (fun e => (Ne.symm Fng7g3) e.symm)), (bk_saved (on9 Fb bD) hs (fun e => Fng8g7 e.symm)), hk⟩
    clear bD Fa
    refine ⟨Or.inl rfl, ?_⟩
    refine dz_ [] (h8_ t0 t3 t7 t8 t30 t31 t32 t9) ?_
    rintro a A - ⟨t0, t3, t7, t8, t30, t31, t32, t9, -⟩
    refine wp_seq ?_
    refine wi_ A (h8_ t0 t3 t7 t8 t30 t31 t32 t9) (rv_ 3 (.pointer (some ⟨pb, po + i * 2, none⟩)) (fun a ee => execIxP (k := i) rfl (Or.inr (Or.inr (rfl))) ((ee _).trans ep_) (ee _) lti) (rv_ 4 (.pointer (some ⟨pb, po + i * 2 + 1, none⟩)) (fun a ee => execFqN1 rfl (ee _)) (rv_ 5 (.int .i64 (q i)) (fun a ee => execL20 rfl (Or.inr (Or.inl rfl)) (ee _) (cP X10 BB i lti).2) (rc_ 6 (pnote (s := (ntk (fun j => ((j : Nat) : Int)) q i)) ((i : Nat) : Int) (q i) Ff) fun e X11 hh => ?_))))
    obtain ⟨he, hk, hs⟩ := hh
    refine ⟨_, he, ?_⟩
    obtain ⟨BB, Fb, Fg7n2, Fg3n3⟩ : Below V.heap.size V X11 ∧ (X11.heap[g8]? = some (.cells (fC (ntk (fun j => ((l - 1 - j : Nat) : Int)) (fun j => q (l - 1 - j)) i).1 (ntk (fun j => ((l - 1 - j : Nat) : Int)) (fun j => q (l - 1 - j)) i).2) 46)) ∧ (X11.heap[g7]? = some (.cells (fC (nt (ntk p q i) (p i) (q i)).1 (nt (ntk p q i) (p i) (q i)).2) 46)) ∧ (X11.heap[g3]? = some (.cells (fC (nt (ntk (fun j => ((j : Nat) : Int)) q i) ((i : Nat) : Int) (q i)).1 (nt (ntk (fun j => ((j : Nat) : Int)) q i) ((i : Nat) : Int) (q i)).2) 46)) := ⟨sv_bel BB hs (fun q hq => hq ▸ Fgeg3), (bk_saved Fb hs (fun e => Fng8g3 e.symm)), (bk_saved Fg7n2 hs (fun e => Fng7g3 e.symm)), hk⟩
    clear Ff
    refine rf_ [] (h8_ t0 t3 t7 t8 t30 t31 t32 t9) ?_
    rintro a A - ⟨t0, t3, t7, t8, t30, t31, t32, t9, -⟩
    refine wi_ A (h8_ t0 t3 t7 t8 t30 t31 t32 t9) (rv_ 1 (.int .i64 ((l : Nat) : Int)) (fun a ee => execLnP (len := l) rfl (Or.inr (Or.inr (Or.inl rfl))) (ee _) hP.shp) (rv_ 2 (.int .i64 ((l - 1 : Nat) : Int)) (fun a ee => By8.execSubI (p := l) (q := 1) rfl (ee _) rfl (by omega) (by omega)) (rv_ 4 (.int .i64 ((l - 1 - i : Nat) : Int)) (fun a ee => By8.execSubI (p := l - 1) (q := i) rfl (ee _) (ee _) (by omega) (by omega)) (rv_ 7 (.int .i64 ((l : Nat) : Int)) (fun a ee => execLnP (len := l) rfl (Or.inr (Or.inr (Or.inl rfl))) (ee _) hP.shp) (rv_ 8 (.int .i64 ((l - 1 : Nat) : Int)) (fun a ee => By8.execSubI (p := l) (q := 1) rfl (ee _) rfl (by omega) (by omega)) (rv_ 10 (.int .i64 ((l - 1 - i : Nat) : Int)) (fun a ee => By8.execSubI (p := l - 1) (q := i) rfl (ee _) (ee _) (by omega) (by omega)) (rv_ 11 (.pointer (some ⟨pb, po + (l - 1 - i) * 2, none⟩)) (fun a ee => execIxP (k := l - 1 - i) rfl (Or.inr (Or.inr (rfl))) ((ee _).trans ep_) (ee _) hr) (rv_ 12 (.pointer (some ⟨pb, po + (l - 1 - i) * 2 + 1, none⟩)) (fun a ee => execFqN1 rfl (ee _)) (rv_ 13 (.int .i64 (q (l - 1 - i))) (fun a ee => execL20 rfl (Or.inr (Or.inl rfl)) (ee _) (cP X11 BB (l - 1 - i) hr).2) (rc_ 14 (pnote (s := (ntk (fun j => ((l - 1 - j : Nat) : Int)) (fun j => q (l - 1 - j)) i)) ((l - 1 - i : Nat) : Int) (q (l - 1 - i)) Fb) fun e X12 hh => ?_))))))))))
    obtain ⟨he, hk, hs⟩ := hh
    refine ⟨_, he, ?_⟩
    obtain ⟨BB, Fg7n2, Fg3n3, Fg8n4⟩ : Below V.heap.size V X12 ∧ (X12.heap[g7]? = some (.cells (fC (nt (ntk p q i) (p i) (q i)).1 (nt (ntk p q i) (p i) (q i)).2) 46)) ∧ (X12.heap[g3]? = some (.cells (fC (nt (ntk (fun j => ((j : Nat) : Int)) q i) ((i : Nat) : Int) (q i)).1 (nt (ntk (fun j => ((j : Nat) : Int)) q i) ((i : Nat) : Int) (q i)).2) 46)) ∧ (X12.heap[g8]? = some (.cells (fC (nt (ntk (fun j => ((l - 1 - j : Nat) : Int)) (fun j => q (l - 1 - j)) i) ((l - 1 - i : Nat) : Int) (q (l - 1 - i))).1 (nt (ntk (fun j => ((l - 1 - j : Nat) : Int)) (fun j => q (l - 1 - j)) i) ((l - 1 - i : Nat) : Int) (q (l - 1 - i))).2) 46)) := ⟨sv_bel BB hs (fun q hq => hq ▸ Fgeg8), (bk_saved Fg7n2 hs (fun e => (Ne.symm Fng8g7) e.symm)), (bk_saved Fg3n3 hs (fun e => (Ne.symm Fng8g3) e.symm)), hk⟩
    clear Fb
    refine rf_ [] (h7_ t0 t3 t7 t8 t30 t31 t32) ?_
    rintro a A - ⟨t0, t3, t7, t8, t30, t31, t32, -⟩
    have Fa : X12.heap[g7]? = some (.cells (fC (ntk p q (i + 1)).1 (ntk p q (i + 1)).2) 46) := Fg7n2
    have Ff : X12.heap[g3]? = some (.cells (fC (ntk (fun j => ((j : Nat) : Int)) q (i + 1)).1 (ntk (fun j => ((j : Nat) : Int)) q (i + 1)).2) 46) := Fg3n3
    have Fb : X12.heap[g8]? = some (.cells (fC (ntk (fun j => ((l - 1 - j : Nat) : Int)) (fun j => q (l - 1 - j)) (i + 1)).1 (ntk (fun j => ((l - 1 - j : Nat) : Int)) (fun j => q (l - 1 - j)) (i + 1)).2) 46) := Fg8n4
    refine wi_ A (h7_ t0 t3 t7 t8 t30 t31 t32) (rv_ 0 (.int .i64 ((i + 1 : Nat) : Int)) (fun a ee => execAd8 (p := i) (q := 1) rfl (ee _) rfl (by omega)) (rf_ [(32, .int .i64 ((i + 1 : Nat) : Int))] (h6_ t0 t3 t7 t8 t30 t31) ?_))
    rintro a A ⟨t32, -⟩ ⟨t0, t3, t7, t8, t30, t31, -⟩
    exact ⟨⟨i + 1, lti, A, t0, t3, t7, t8, t30, t31, t32, BB, Fa, Ff, Fb⟩, by show l - (intOf (a.eval (.tmp 32))).toNat < l - (intOf (Act.eval _ (.tmp 32))).toNat; rw [t32, esi]; show l - (i + 1) < l - i; omega⟩
  rw [decide_eq_false lti] at t33
  refine wp_cond_false t33 ?_
  refine wp_exit ?_
  first | with_reducible refine exit_in ?_ | with_reducible refine exit_then (exit_in ?_) | with_reducible refine exit_then (exit_then (exit_in ?_)) | refine exit_in ?_ | refine exit_then (exit_in ?_) | refine exit_then (exit_then (exit_in ?_))
  clear t33 esi
  obtain rfl : l = i := by omega
  refine wp_seq ?_
  refine wi_ A (h7_ t0 t3 t7 t8 t30 t31 t32) (rc_ 0 (first_is (s := (ntk p q l)) (x := lo) (y := er) Fa (by rw [hlo]; exact fs_some hE)) (cb_ fun X14 bQ => ?_))
  replace Fa := (on9 Fa bQ)
  replace Ff := (on9 Ff bQ)
  replace Fb := (on9 Fb bQ)
  replace BB := BB.trans (bQ.mono BB.size)
  clear bQ
  refine rf_ [(10, .int .i64 lo), (11, .int .i64 er)] (h3_ t0 t3 t8) ?_
  rintro a A ⟨t10, t11, -⟩ ⟨t0, t3, t8, -⟩
  refine wp_seq ?_
  refine wi_ A (h5_ t0 t3 t8 t10 t11) (rv_ 1 (.bool false) (fun a ee => execDec (exIeql3 (p := lo) (q := (-1)) rfl (ee _) rfl) (decide_eq_false (by omega))) (rf_ [(12, .bool false)] (h5_ t0 t3 t8 t10 t11) ?_))
  rintro a A ⟨t12, -⟩ ⟨t0, t3, t8, t10, t11, -⟩
  refine wp_seq ?_
  refine wp_seq ?_
  refine wi_ A (h6_ t0 t3 t8 t10 t11 t12) (rv_ 1 (.int .i64 ((l : Nat) : Int)) (fun a ee => execLnP (len := l) rfl (Or.inr (Or.inr (Or.inl rfl))) (ee _) hP.shp) (rf_ [(79, v), (80, .int .i64 ((l : Nat) : Int)), (81, .int .i64 ((0 : Nat) : Int))] (h6_ t0 t3 t8 t10 t11 t12) ?_))
  rintro a A ⟨t79, t80, t81, -⟩ ⟨t0, t3, t8, t10, t11, t12, -⟩
  refine wp_block ?_
  refine wp_loop (fun a W => ∃ (i : Nat) (fd : Bool), i ≤ l ∧ (fd = true ↔ ∃ j, j < i ∧ p j = lo ∧ q j = er) ∧ (a.tmps.size = 151 ∧ a.defers = []) ∧ a.eval (.tmp 0) = v ∧ a.eval (.tmp 3) = .pointer (some ⟨g3, 0, none⟩) ∧ a.eval (.tmp 8) = .pointer (some ⟨g8, 0, none⟩) ∧ a.eval (.tmp 10) = .int .i64 lo ∧ a.eval (.tmp 11) = .int .i64 er ∧ a.eval (.tmp 12) = .bool fd ∧ a.eval (.tmp 79) = v ∧ a.eval (.tmp 80) = .int .i64 ((l : Nat) : Int) ∧ a.eval (.tmp 81) = .int .i64 ((i : Nat) : Int) ∧ Below V.heap.size V W ∧ (W.heap[g3]? = some (.cells (fC (ntk (fun j => ((j : Nat) : Int)) q l).1 (ntk (fun j => ((j : Nat) : Int)) q l).2) 46)) ∧ (W.heap[g8]? = some (.cells (fC (ntk (fun j => ((l - 1 - j : Nat) : Int)) (fun j => q (l - 1 - j)) l).1 (ntk (fun j => ((l - 1 - j : Nat) : Int)) (fun j => q (l - 1 - j)) l).2) 46))) (fun a _ => l - (intOf (a.eval (.tmp 81))).toNat) ⟨0, false, Nat.zero_le _, ⟨fun w => (by cases w), fun ⟨j, w, _⟩ => absurd w (Nat.not_lt_zero j)⟩, A, t0, t3, t8, t10, t11, t12, t79, t80, t81, BB, Ff, Fb⟩ ?_
  clear A t0 t3 t8 t10 t11 t12 t79 t80 t81 BB Ff Fb a
  rintro a XL17 ⟨i, fd, hi, hfd, A, t0, t3, t8, t10, t11, t12, t79, t80, t81, BB, Ff, Fb⟩
  have esi := t81
  refine wp_seq ?_
  refine wi_ A (h9_ t0 t3 t8 t10 t11 t12 t79 t80 t81) (rv_ 0 (.bool (decide (i < l))) (fun a ee => execLtW (p := i) (q := l) rfl (ee _) (ee _)) (rf_ [(82, .bool (decide (i < l)))] (h9_ t0 t3 t8 t10 t11 t12 t79 t80 t81) ?_))
  rintro a A ⟨t82, -⟩ ⟨t0, t3, t8, t10, t11, t12, t79, t80, t81, -⟩
  refine wp_seq ?_
  by_cases lti : i < l
  · rw [decide_eq_true lti] at t82
    refine wp_cond_true t82 ?_
    refine wp_skip ?_
    clear t82
    refine wp_seq ?_
    refine wp_block ?_
    obtain ⟨pb, po, pc, ep_, hpb, hpc⟩ := hP.at (show 0 < l by omega)
    have cP : ∀ X, Below V.heap.size V X → ∀ j, j < l → X.cell? ⟨pb, po + j * 2, none⟩ = some (.int .i64 (p j)) ∧ X.cell? ⟨pb, po + j * 2 + 1, none⟩ = some (.int .i64 (q j)) := fun X hX j hj => ⟨by rw [cell_below hX hpb]; exact (hpc j hj).1, by rw [cell_below hX hpb]; exact (hpc j hj).2⟩
    refine wp_seq ?_
    obtain ⟨g14, egg14⟩ : ∃ z_ : Nat, XL17.heap.size = z_ := ⟨_, rfl⟩
    refine wi_ A (h9_ t0 t3 t8 t10 t11 t12 t79 t80 t81) (rv_ 0 (.pointer (some ⟨pb, po + i * 2, none⟩)) (fun a ee => execIxP (k := i) rfl (Or.inr (Or.inr (rfl))) ((ee _).trans ep_) (ee _) lti) (rv_ 1 (.agg (fC (p i) (q i))) (fun a ee => execLdN rfl (ee _) (cP XL17 BB i lti).1 (cP XL17 BB i lti).2) (rs_ 2 (fun a ee => ?_))))
    refine stepV rfl rfl (execAl2 rfl (Or.inl rfl)) ⟨.pointer (some ⟨g14, 0, none⟩), ⟨_, rfl, by subst egg14; rfl⟩, fun X18_1 hX => ?_⟩
    have bQ : Below XL17.heap.size XL17 X18_1 := by subst hX egg14; exact (belNew XL17 _)
    have Fg14 : (X18_1.heap[g14]? = some (.cells (fC 0 0) 53)) := by subst hX egg14; exact heapNew XL17 _
    have Fgeg14 : (V.heap.size ≤ g14) := by subst hX egg14; exact (BB).size
    replace Ff := (on9 Ff bQ)
    replace Fb := (on9 Fb bQ)
    replace BB := BB.trans (bQ.mono BB.size)
    clear bQ hX egg14 ee a
    refine rs_ 3 (fun a ee => ?_)
    refine stepS rfl rfl (execStN rfl (ee _) (ee _) Fg14) ⟨_, ⟨_, rfl, rfl⟩, fun X18 hX => ?_⟩
    obtain ⟨BB, Ff, Fb, Fg14s5⟩ : Below V.heap.size V X18 ∧ (X18.heap[g3]? = some (.cells (fC (ntk (fun j => ((j : Nat) : Int)) q l).1 (ntk (fun j => ((j : Nat) : Int)) q l).2) 46)) ∧ (X18.heap[g8]? = some (.cells (fC (ntk (fun j => ((l - 1 - j : Nat) : Int)) (fun j => q (l - 1 - j)) l).1 (ntk (fun j => ((l - 1 - j : Nat) : Int)) (fun j => q (l - 1 - j)) l).2) 46)) ∧ (X18.heap[g14]? = some (.cells (fC (p i) (q i)) 53)) := by subst hX; exact ⟨below4 BB Fgeg14 _, (keepT Ff Fg14 (by decide) Duc.grR18), (keepT Fb Fg14 (by decide) Duc.grR18), setRow_heap _ _ _ _ _ _ Fg14⟩
    clear Fg14 hX ee a
    refine rf_ [(14, .pointer (some ⟨g14, 0, none⟩))] (h9_ t0 t3 t8 t10 t11 t12 t79 t80 t81) ?_
    rintro a A ⟨t14, -⟩ ⟨t0, t3, t8, t10, t11, t12, t79, t80, t81, -⟩
    by_cases c1 : p i ≥ 0
    · by_cases c2 : q i ≠ 0
      · cases fd with
        | true =>
          refine wp_seq ?_
          refine wp_seq ?_
          refine wi_ A (h10_ t0 t3 t8 t10 t11 t12 t79 t80 t81 t14) (rv_ 0 (.pointer (some ⟨g14, 0, none⟩)) (fun a ee => execFzN0 rfl (ee _)) (rv_ 1 (.int .i64 (p i)) (fun a ee => execL20 rfl (Or.inl rfl) (ee _) (fC_at Fg14s5).1) (rv_ 2 (.bool true) (fun a ee => execDec (exIgeq3 (p := (p i)) (q := 0) rfl (ee _) rfl) (decide_eq_true c1)) (rv_ 4 (.pointer (some ⟨g14, 1, none⟩)) (fun a ee => execFzN1 rfl (ee _)) (rv_ 5 (.int .i64 (q i)) (fun a ee => execL20 rfl (Or.inr (Or.inl rfl)) (ee _) (fC_at Fg14s5).2) (rv_ 6 (.bool true) (fun a ee => execDec (exIneqE (p := (q i)) (q := 0) rfl (ee _) rfl) (decide_eq_true c2)) (rv_ 10 (.bool false) (fun a ee => execDec (exIlss3 (p := lo) (q := 0) rfl (ee _) rfl) (decide_eq_false (by omega))) (rv_ 12 (.pointer (some ⟨g14, 0, none⟩)) (fun a ee => execFzN0 rfl (ee _)) (rv_ 13 (.int .i64 (p i)) (fun a ee => execL20 rfl (Or.inl rfl) (ee _) (fC_at Fg14s5).1) (rv_ 15 (.bool false) (fun a ee => execDec (exIlss3 (p := (p i)) (q := lo) rfl (ee _) (ee _)) (decide_eq_false (by have := (hI.2 hE).2.2 i lti (by omega) c2; omega))) (rf_ [(102, .bool false)] (h10_ t0 t3 t8 t10 t11 t12 t79 t80 t81 t14) ?_)))))))))))
          rintro a A ⟨t102, -⟩ ⟨t0, t3, t8, t10, t11, t12, t79, t80, t81, t14, -⟩
          refine wp_cond_false t102 ?_
          refine wp_skip ?_
          clear t102
          refine wi_ A (h10_ t0 t3 t8 t10 t11 t12 t79 t80 t81 t14) (rf_ [(12, .bool true)] (h8_ t0 t3 t8 t10 t11 t79 t80 t81) ?_)
          rintro a A ⟨t12, -⟩ ⟨t0, t3, t8, t10, t11, t79, t80, t81, -⟩
          have hfn : (true = true) ↔ ∃ j, j < i + 1 ∧ p j = lo ∧ q j = er := ⟨fun _ => by obtain ⟨j, w⟩ := hfd.1 rfl; exact ⟨j, by omega, w.2⟩, fun _ => rfl⟩
          refine wi_ A (h9_ t0 t3 t8 t10 t11 t12 t79 t80 t81) (rv_ 0 (.int .i64 ((i + 1 : Nat) : Int)) (fun a ee => execAd8 (p := i) (q := 1) rfl (ee _) rfl (by omega)) (rf_ [(81, .int .i64 ((i + 1 : Nat) : Int))] (h8_ t0 t3 t8 t10 t11 t12 t79 t80) ?_))
          rintro a A ⟨t81, -⟩ ⟨t0, t3, t8, t10, t11, t12, t79, t80, -⟩
          exact ⟨⟨i + 1, true, lti, hfn, A, t0, t3, t8, t10, t11, t12, t79, t80, t81, BB, Ff, Fb⟩, by show l - (intOf (a.eval (.tmp 81))).toNat < l - (intOf (Act.eval _ (.tmp 81))).toNat; rw [t81, esi]; show l - (i + 1) < l - i; omega⟩
        | false =>
          by_cases c5 : p i = lo
          · by_cases c6 : q i = er
            · refine wp_seq ?_
              refine wp_seq ?_
              refine wi_ A (h10_ t0 t3 t8 t10 t11 t12 t79 t80 t81 t14) (rv_ 0 (.pointer (some ⟨g14, 0, none⟩)) (fun a ee => execFzN0 rfl (ee _)) (rv_ 1 (.int .i64 (p i)) (fun a ee => execL20 rfl (Or.inl rfl) (ee _) (fC_at Fg14s5).1) (rv_ 2 (.bool true) (fun a ee => execDec (exIgeq3 (p := (p i)) (q := 0) rfl (ee _) rfl) (decide_eq_true c1)) (rv_ 4 (.pointer (some ⟨g14, 1, none⟩)) (fun a ee => execFzN1 rfl (ee _)) (rv_ 5 (.int .i64 (q i)) (fun a ee => execL20 rfl (Or.inr (Or.inl rfl)) (ee _) (fC_at Fg14s5).2) (rv_ 6 (.bool true) (fun a ee => execDec (exIneqE (p := (q i)) (q := 0) rfl (ee _) rfl) (decide_eq_true c2)) (rv_ 10 (.bool false) (fun a ee => execDec (exIlss3 (p := lo) (q := 0) rfl (ee _) rfl) (decide_eq_false (by omega))) (rv_ 12 (.pointer (some ⟨g14, 0, none⟩)) (fun a ee => execFzN0 rfl (ee _)) (rv_ 13 (.int .i64 (p i)) (fun a ee => execL20 rfl (Or.inl rfl) (ee _) (fC_at Fg14s5).1) (rv_ 15 (.bool false) (fun a ee => execDec (exIlss3 (p := (p i)) (q := lo) rfl (ee _) (ee _)) (decide_eq_false (by have := (hI.2 hE).2.2 i lti (by omega) c2; omega))) (rf_ [(102, .bool false)] (h10_ t0 t3 t8 t10 t11 t12 t79 t80 t81 t14) ?_)))))))))))
              rintro a A ⟨t102, -⟩ ⟨t0, t3, t8, t10, t11, t12, t79, t80, t81, t14, -⟩
              refine wp_cond_false t102 ?_
              refine wp_skip ?_
              clear t102
              refine wi_ A (h10_ t0 t3 t8 t10 t11 t12 t79 t80 t81 t14) (rv_ 2 (.pointer (some ⟨g14, 0, none⟩)) (fun a ee => execFzN0 rfl (ee _)) (rv_ 3 (.int .i64 (p i)) (fun a ee => execL20 rfl (Or.inl rfl) (ee _) (fC_at Fg14s5).1) (rv_ 5 (.bool true) (fun a ee => execDec (exIeql3 (p := (p i)) (q := lo) rfl (ee _) (ee _)) (decide_eq_true c5)) (rv_ 7 (.pointer (some ⟨g14, 1, none⟩)) (fun a ee => execFzN1 rfl (ee _)) (rv_ 8 (.int .i64 (q i)) (fun a ee => execL20 rfl (Or.inr (Or.inl rfl)) (ee _) (fC_at Fg14s5).2) (rv_ 10 (.bool true) (fun a ee => execDec (exIeqlE (p := (q i)) (q := er) rfl (ee _) (ee _)) (decide_eq_true c6)) (rv_ 14 (.bool true) (fun a ee => execDec (exIneqE (p := er) (q := 0) rfl (ee _) rfl) (decide_eq_true hE)) (rf_ [(12, .bool true)] (h8_ t0 t3 t8 t10 t11 t79 t80 t81) ?_))))))))
              rintro a A ⟨t12, -⟩ ⟨t0, t3, t8, t10, t11, t79, t80, t81, -⟩
              have hfn : (true = true) ↔ ∃ j, j < i + 1 ∧ p j = lo ∧ q j = er := ⟨fun _ => ⟨i, by omega, c5, c6⟩, fun _ => rfl⟩
              refine wi_ A (h9_ t0 t3 t8 t10 t11 t12 t79 t80 t81) (rv_ 0 (.int .i64 ((i + 1 : Nat) : Int)) (fun a ee => execAd8 (p := i) (q := 1) rfl (ee _) rfl (by omega)) (rf_ [(81, .int .i64 ((i + 1 : Nat) : Int))] (h8_ t0 t3 t8 t10 t11 t12 t79 t80) ?_))
              rintro a A ⟨t81, -⟩ ⟨t0, t3, t8, t10, t11, t12, t79, t80, -⟩
              exact ⟨⟨i + 1, true, lti, hfn, A, t0, t3, t8, t10, t11, t12, t79, t80, t81, BB, Ff, Fb⟩, by show l - (intOf (a.eval (.tmp 81))).toNat < l - (intOf (Act.eval _ (.tmp 81))).toNat; rw [t81, esi]; show l - (i + 1) < l - i; omega⟩
            · refine wp_seq ?_
              refine wp_seq ?_
              refine wi_ A (h10_ t0 t3 t8 t10 t11 t12 t79 t80 t81 t14) (rv_ 0 (.pointer (some ⟨g14, 0, none⟩)) (fun a ee => execFzN0 rfl (ee _)) (rv_ 1 (.int .i64 (p i)) (fun a ee => execL20 rfl (Or.inl rfl) (ee _) (fC_at Fg14s5).1) (rv_ 2 (.bool true) (fun a ee => execDec (exIgeq3 (p := (p i)) (q := 0) rfl (ee _) rfl) (decide_eq_true c1)) (rv_ 4 (.pointer (some ⟨g14, 1, none⟩)) (fun a ee => execFzN1 rfl (ee _)) (rv_ 5 (.int .i64 (q i)) (fun a ee => execL20 rfl (Or.inr (Or.inl rfl)) (ee _) (fC_at Fg14s5).2) (rv_ 6 (.bool true) (fun a ee => execDec (exIneqE (p := (q i)) (q := 0) rfl (ee _) rfl) (decide_eq_true c2)) (rv_ 10 (.bool false) (fun a ee => execDec (exIlss3 (p := lo) (q := 0) rfl (ee _) rfl) (decide_eq_false (by omega))) (rv_ 12 (.pointer (some ⟨g14, 0, none⟩)) (fun a ee => execFzN0 rfl (ee _)) (rv_ 13 (.int .i64 (p i)) (fun a ee => execL20 rfl (Or.inl rfl) (ee _) (fC_at Fg14s5).1) (rv_ 15 (.bool false) (fun a ee => execDec (exIlss3 (p := (p i)) (q := lo) rfl (ee _) (ee _)) (decide_eq_false (by have := (hI.2 hE).2.2 i lti (by omega) c2; omega))) (rf_ [(102, .bool false)] (h10_ t0 t3 t8 t10 t11 t12 t79 t80 t81 t14) ?_)))))))))))
              rintro a A ⟨t102, -⟩ ⟨t0, t3, t8, t10, t11, t12, t79, t80, t81, t14, -⟩
              refine wp_cond_false t102 ?_
              refine wp_skip ?_
              clear t102
              refine wi_ A (h10_ t0 t3 t8 t10 t11 t12 t79 t80 t81 t14) (rv_ 2 (.pointer (some ⟨g14, 0, none⟩)) (fun a ee => execFzN0 rfl (ee _)) (rv_ 3 (.int .i64 (p i)) (fun a ee => execL20 rfl (Or.inl rfl) (ee _) (fC_at Fg14s5).1) (rv_ 5 (.bool true) (fun a ee => execDec (exIeql3 (p := (p i)) (q := lo) rfl (ee _) (ee _)) (decide_eq_true c5)) (rv_ 7 (.pointer (some ⟨g14, 1, none⟩)) (fun a ee => execFzN1 rfl (ee _)) (rv_ 8 (.int .i64 (q i)) (fun a ee => execL20 rfl (Or.inr (Or.inl rfl)) (ee _) (fC_at Fg14s5).2) (rv_ 10 (.bool false) (fun a ee => execDec (exIeqlE (p := (q i)) (q := er) rfl (ee _) (ee _)) (decide_eq_false c6)) (rf_ [(12, .bool false)] (h8_ t0 t3 t8 t10 t11 t79 t80 t81) ?_)))))))
              rintro a A ⟨t12, -⟩ ⟨t0, t3, t8, t10, t11, t79, t80, t81, -⟩
              have hfn : (false = true) ↔ ∃ j, j < i + 1 ∧ p j = lo ∧ q j = er := by
                refine ⟨fun w => (by cases w), fun ⟨j, w1, w2, w3⟩ => ?_⟩
                by_cases e : j = i
                · rw [e] at w2 w3; exact absurd w3 c6
                · exact hfd.2 ⟨j, by omega, w2, w3⟩
              refine wi_ A (h9_ t0 t3 t8 t10 t11 t12 t79 t80 t81) (rv_ 0 (.int .i64 ((i + 1 : Nat) : Int)) (fun a ee => execAd8 (p := i) (q := 1) rfl (ee _) rfl (by omega)) (rf_ [(81, .int .i64 ((i + 1 : Nat) : Int))] (h8_ t0 t3 t8 t10 t11 t12 t79 t80) ?_))
              rintro a A ⟨t81, -⟩ ⟨t0, t3, t8, t10, t11, t12, t79, t80, -⟩
              exact ⟨⟨i + 1, false, lti, hfn, A, t0, t3, t8, t10, t11, t12, t79, t80, t81, BB, Ff, Fb⟩, by show l - (intOf (a.eval (.tmp 81))).toNat < l - (intOf (Act.eval _ (.tmp 81))).toNat; rw [t81, esi]; show l - (i + 1) < l - i; omega⟩
          · refine wp_seq ?_
            refine wp_seq ?_
            refine wi_ A (h10_ t0 t3 t8 t10 t11 t12 t79 t80 t81 t14) (rv_ 0 (.pointer (some ⟨g14, 0, none⟩)) (fun a ee => execFzN0 rfl (ee _)) (rv_ 1 (.int .i64 (p i)) (fun a ee => execL20 rfl (Or.inl rfl) (ee _) (fC_at Fg14s5).1) (rv_ 2 (.bool true) (fun a ee => execDec (exIgeq3 (p := (p i)) (q := 0) rfl (ee _) rfl) (decide_eq_true c1)) (rv_ 4 (.pointer (some ⟨g14, 1, none⟩)) (fun a ee => execFzN1 rfl (ee _)) (rv_ 5 (.int .i64 (q i)) (fun a ee => execL20 rfl (Or.inr (Or.inl rfl)) (ee _) (fC_at Fg14s5).2) (rv_ 6 (.bool true) (fun a ee => execDec (exIneqE (p := (q i)) (q := 0) rfl (ee _) rfl) (decide_eq_true c2)) (rv_ 10 (.bool false) (fun a ee => execDec (exIlss3 (p := lo) (q := 0) rfl (ee _) rfl) (decide_eq_false (by omega))) (rv_ 12 (.pointer (some ⟨g14, 0, none⟩)) (fun a ee => execFzN0 rfl (ee _)) (rv_ 13 (.int .i64 (p i)) (fun a ee => execL20 rfl (Or.inl rfl) (ee _) (fC_at Fg14s5).1) (rv_ 15 (.bool false) (fun a ee => execDec (exIlss3 (p := (p i)) (q := lo) rfl (ee _) (ee _)) (decide_eq_false (by have := (hI.2 hE).2.2 i lti (by omega) c2; omega))) (rf_ [(102, .bool false)] (h10_ t0 t3 t8 t10 t11 t12 t79 t80 t81 t14) ?_)))))))))))
            rintro a A ⟨t102, -⟩ ⟨t0, t3, t8, t10, t11, t12, t79, t80, t81, t14, -⟩
            refine wp_cond_false t102 ?_
            refine wp_skip ?_
            clear t102
            refine wi_ A (h10_ t0 t3 t8 t10 t11 t12 t79 t80 t81 t14) (rv_ 2 (.pointer (some ⟨g14, 0, none⟩)) (fun a ee => execFzN0 rfl (ee _)) (rv_ 3 (.int .i64 (p i)) (fun a ee => execL20 rfl (Or.inl rfl) (ee _) (fC_at Fg14s5).1) (rv_ 5 (.bool false) (fun a ee => execDec (exIeql3 (p := (p i)) (q := lo) rfl (ee _) (ee _)) (decide_eq_false c5)) (rf_ [(12, .bool false)] (h8_ t0 t3 t8 t10 t11 t79 t80 t81) ?_))))
            rintro a A ⟨t12, -⟩ ⟨t0, t3, t8, t10, t11, t79, t80, t81, -⟩
            have hfn : (false = true) ↔ ∃ j, j < i + 1 ∧ p j = lo ∧ q j = er := by
              refine ⟨fun w => (by cases w), fun ⟨j, w1, w2, w3⟩ => ?_⟩
              by_cases e : j = i
              · rw [e] at w2 w3; exact absurd w2 c5
              · exact hfd.2 ⟨j, by omega, w2, w3⟩
            refine wi_ A (h9_ t0 t3 t8 t10 t11 t12 t79 t80 t81) (rv_ 0 (.int .i64 ((i + 1 : Nat) : Int)) (fun a ee => execAd8 (p := i) (q := 1) rfl (ee _) rfl (by omega)) (rf_ [(81, .int .i64 ((i + 1 : Nat) : Int))] (h8_ t0 t3 t8 t10 t11 t12 t79 t80) ?_))
            rintro a A ⟨t81, -⟩ ⟨t0, t3, t8, t10, t11, t12, t79, t80, -⟩
            exact ⟨⟨i + 1, false, lti, hfn, A, t0, t3, t8, t10, t11, t12, t79, t80, t81, BB, Ff, Fb⟩, by show l - (intOf (a.eval (.tmp 81))).toNat < l - (intOf (Act.eval _ (.tmp 81))).toNat; rw [t81, esi]; show l - (i + 1) < l - i; omega⟩
      · cases fd with
        | true =>
          refine wp_seq ?_
          refine wp_seq ?_
          refine wi_ A (h10_ t0 t3 t8 t10 t11 t12 t79 t80 t81 t14) (rv_ 0 (.pointer (some ⟨g14, 0, none⟩)) (fun a ee => execFzN0 rfl (ee _)) (rv_ 1 (.int .i64 (p i)) (fun a ee => execL20 rfl (Or.inl rfl) (ee _) (fC_at Fg14s5).1) (rv_ 2 (.bool true) (fun a ee => execDec (exIgeq3 (p := (p i)) (q := 0) rfl (ee _) rfl) (decide_eq_true c1)) (rv_ 4 (.pointer (some ⟨g14, 1, none⟩)) (fun a ee => execFzN1 rfl (ee _)) (rv_ 5 (.int .i64 (q i)) (fun a ee => execL20 rfl (Or.inr (Or.inl rfl)) (ee _) (fC_at Fg14s5).2) (rv_ 6 (.bool false) (fun a ee => execDec (exIneqE (p := (q i)) (q := 0) rfl (ee _) rfl) (decide_eq_false c2)) (rf_ [(102, .bool false)] (h10_ t0 t3 t8 t10 t11 t12 t79 t80 t81 t14) ?_)))))))
          rintro a A ⟨t102, -⟩ ⟨t0, t3, t8, t10, t11, t12, t79, t80, t81, t14, -⟩
          refine wp_cond_false t102 ?_
          refine wp_skip ?_
          clear t102
          refine wi_ A (h10_ t0 t3 t8 t10 t11 t12 t79 t80 t81 t14) (rf_ [(12, .bool true)] (h8_ t0 t3 t8 t10 t11 t79 t80 t81) ?_)
          rintro a A ⟨t12, -⟩ ⟨t0, t3, t8, t10, t11, t79, t80, t81, -⟩
          have hfn : (true = true) ↔ ∃ j, j < i + 1 ∧ p j = lo ∧ q j = er := ⟨fun _ => by obtain ⟨j, w⟩ := hfd.1 rfl; exact ⟨j, by omega, w.2⟩, fun _ => rfl⟩
          refine wi_ A (h9_ t0 t3 t8 t10 t11 t12 t79 t80 t81) (rv_ 0 (.int .i64 ((i + 1 : Nat) : Int)) (fun a ee => execAd8 (p := i) (q := 1) rfl (ee _) rfl (by omega)) (rf_ [(81, .int .i64 ((i + 1 : Nat) : Int))] (h8_ t0 t3 t8 t10 t11 t12 t79 t80) ?_))
          rintro a A ⟨t81, -⟩ ⟨t0, t3, t8, t10, t11, t12, t79, t80, -⟩
          exact ⟨⟨i + 1, true, lti, hfn, A, t0, t3, t8, t10, t11, t12, t79, t80, t81, BB, Ff, Fb⟩, by show l - (intOf (a.eval (.tmp 81))).toNat < l - (intOf (Act.eval _ (.tmp 81))).toNat; rw [t81, esi]; show l - (i + 1) < l - i; omega⟩
        | false =>
          by_cases c5 : p i = lo
          · by_cases c6 : q i = er
            · refine wp_seq ?_
              refine wp_seq ?_
              refine wi_ A (h10_ t0 t3 t8 t10 t11 t12 t79 t80 t81 t14) (rv_ 0 (.pointer (some ⟨g14, 0, none⟩)) (fun a ee => execFzN0 rfl (ee _)) (rv_ 1 (.int .i64 (p i)) (fun a ee => execL20 rfl (Or.inl rfl) (ee _) (fC_at Fg14s5).1) (rv_ 2 (.bool true) (fun a ee => execDec (exIgeq3 (p := (p i)) (q := 0) rfl (ee _) rfl) (decide_eq_true c1)) (rv_ 4 (.pointer (some ⟨g14, 1, none⟩)) (fun a ee => execFzN1 rfl (ee _)) (rv_ 5 (.int .i64 (q i)) (fun a ee => execL20 rfl (Or.inr (Or.inl rfl)) (ee _) (fC_at Fg14s5).2) (rv_ 6 (.bool false) (fun a ee => execDec (exIneqE (p := (q i)) (q := 0) rfl (ee _) rfl) (decide_eq_false c2)) (rf_ [(102, .bool false)] (h10_ t0 t3 t8 t10 t11 t12 t79 t80 t81 t14) ?_)))))))
              rintro a A ⟨t102, -⟩ ⟨t0, t3, t8, t10, t11, t12, t79, t80, t81, t14, -⟩
              refine wp_cond_false t102 ?_
              refine wp_skip ?_
              clear t102
              refine wi_ A (h10_ t0 t3 t8 t10 t11 t12 t79 t80 t81 t14) (rv_ 2 (.pointer (some ⟨g14, 0, none⟩)) (fun a ee => execFzN0 rfl (ee _)) (rv_ 3 (.int .i64 (p i)) (fun a ee => execL20 rfl (Or.inl rfl) (ee _) (fC_at Fg14s5).1) (rv_ 5 (.bool true) (fun a ee => execDec (exIeql3 (p := (p i)) (q := lo) rfl (ee _) (ee _)) (decide_eq_true c5)) (rv_ 7 (.pointer (some ⟨g14, 1, none⟩)) (fun a ee => execFzN1 rfl (ee _)) (rv_ 8 (.int .i64 (q i)) (fun a ee => execL20 rfl (Or.inr (Or.inl rfl)) (ee _) (fC_at Fg14s5).2) (rv_ 10 (.bool true) (fun a ee => execDec (exIeqlE (p := (q i)) (q := er) rfl (ee _) (ee _)) (decide_eq_true c6)) (rv_ 14 (.bool true) (fun a ee => execDec (exIneqE (p := er) (q := 0) rfl (ee _) rfl) (decide_eq_true hE)) (rf_ [(12, .bool true)] (h8_ t0 t3 t8 t10 t11 t79 t80 t81) ?_))))))))
              rintro a A ⟨t12, -⟩ ⟨t0, t3, t8, t10, t11, t79, t80, t81, -⟩
              have hfn : (true = true) ↔ ∃ j, j < i + 1 ∧ p j = lo ∧ q j = er := ⟨fun _ => ⟨i, by omega, c5, c6⟩, fun _ => rfl⟩
              refine wi_ A (h9_ t0 t3 t8 t10 t11 t12 t79 t80 t81) (rv_ 0 (.int .i64 ((i + 1 : Nat) : Int)) (fun a ee => execAd8 (p := i) (q := 1) rfl (ee _) rfl (by omega)) (rf_ [(81, .int .i64 ((i + 1 : Nat) : Int))] (h8_ t0 t3 t8 t10 t11 t12 t79 t80) ?_))
              rintro a A ⟨t81, -⟩ ⟨t0, t3, t8, t10, t11, t12, t79, t80, -⟩
              exact ⟨⟨i + 1, true, lti, hfn, A, t0, t3, t8, t10, t11, t12, t79, t80, t81, BB, Ff, Fb⟩, by show l - (intOf (a.eval (.tmp 81))).toNat < l - (intOf (Act.eval _ (.tmp 81))).toNat; rw [t81, esi]; show l - (i + 1) < l - i; omega⟩
            · refine wp_seq ?_
              refine wp_seq ?_
              refine wi_ A (h10_ t0 t3 t8 t10 t11 t12 t79 t80 t81 t14) (rv_ 0 (.pointer (some ⟨g14, 0, none⟩)) (fun a ee => execFzN0 rfl (ee _)) (rv_ 1 (.int .i64 (p i)) (fun a ee => execL20 rfl (Or.inl rfl) (ee _) (fC_at Fg14s5).1) (rv_ 2 (.bool true) (fun a ee => execDec (exIgeq3 (p := (p i)) (q := 0) rfl (ee _) rfl) (decide_eq_true c1)) (rv_ 4 (.pointer (some ⟨g14, 1, none⟩)) (fun a ee => execFzN1 rfl (ee _)) (rv_ 5 (.int .i64 (q i)) (fun a ee => execL20 rfl (Or.inr (Or.inl rfl)) (ee _) (fC_at Fg14s5).2) (rv_ 6 (.bool false) (fun a ee => execDec (exIneqE (p := (q i)) (q := 0) rfl (ee _) rfl) (decide_eq_false c2)) (rf_ [(102, .bool false)] (h10_ t0 t3 t8 t10 t11 t12 t79 t80 t81 t14) ?_)))))))
              rintro a A ⟨t102, -⟩ ⟨t0, t3, t8, t10, t11, t12, t79, t80, t81, t14, -⟩
              refine wp_cond_false t102 ?_
              refine wp_skip ?_
              clear t102
              refine wi_ A (h10_ t0 t3 t8 t10 t11 t12 t79 t80 t81 t14) (rv_ 2 (.pointer (some ⟨g14, 0, none⟩)) (fun a ee => execFzN0 rfl (ee _)) (rv_ 3 (.int .i64 (p i)) (fun a ee => execL20 rfl (Or.inl rfl) (ee _) (fC_at Fg14s5).1) (rv_ 5 (.bool true) (fun a ee => execDec (exIeql3 (p := (p i)) (q := lo) rfl (ee _) (ee _)) (decide_eq_true c5)) (rv_ 7 (.pointer (some ⟨g14, 1, none⟩)) (fun a ee => execFzN1 rfl (ee _)) (rv_ 8 (.int .i64 (q i)) (fun a ee => execL20 rfl (Or.inr (Or.inl rfl)) (ee _) (fC_at Fg14s5).2) (rv_ 10 (.bool false) (fun a ee => execDec (exIeqlE (p := (q i)) (q := er) rfl (ee _) (ee _)) (decide_eq_false c6)) (rf_ [(12, .bool false)] (h8_ t0 t3 t8 t10 t11 t79 t80 t81) ?_)))))))
              rintro a A ⟨t12, -⟩ ⟨t0, t3, t8, t10, t11, t79, t80, t81, -⟩
              have hfn : (false = true) ↔ ∃ j, j < i + 1 ∧ p j = lo ∧ q j = er := by
                refine ⟨fun w => (by cases w), fun ⟨j, w1, w2, w3⟩ => ?_⟩
                by_cases e : j = i
                · rw [e] at w2 w3; exact absurd w3 c6
                · exact hfd.2 ⟨j, by omega, w2, w3⟩
              refine wi_ A (h9_ t0 t3 t8 t10 t11 t12 t79 t80 t81) (rv_ 0 (.int .i64 ((i + 1 : Nat) : Int)) (fun a ee => execAd8 (p := i) (q := 1) rfl (ee _) rfl (by omega)) (rf_ [(81, .int .i64 ((i + 1 : Nat) : Int))] (h8_ t0 t3 t8 t10 t11 t12 t79 t80) ?_))
              rintro a A ⟨t81, -⟩ ⟨t0, t3, t8, t10, t11, t12, t79, t80, -⟩
              exact ⟨⟨i + 1, false, lti, hfn, A, t0, t3, t8, t10, t11, t12, t79, t80, t81, BB, Ff, Fb⟩, by show l - (intOf (a.eval (.tmp 81))).toNat < l - (intOf (Act.eval _ (.tmp 81))).toNat; rw [t81, esi]; show l - (i + 1) < l - i; omega⟩
          · refine wp_seq ?_
            refine wp_seq ?_
            refine wi_ A (h10_ t0 t3 t8 t10 t11 t12 t79 t80 t81 t14) (rv_ 0 (.pointer (some ⟨g14, 0, none⟩)) (fun a ee => execFzN0 rfl (ee _)) (rv_ 1 (.int .i64 (p i)) (fun a ee => execL20 rfl (Or.inl rfl) (ee _) (fC_at Fg14s5).1) (rv_ 2 (.bool true) (fun a ee => execDec (exIgeq3 (p := (p i)) (q := 0) rfl (ee _) rfl) (decide_eq_true c1)) (rv_ 4 (.pointer (some ⟨g14, 1, none⟩)) (fun a ee => execFzN1 rfl (ee _)) (rv_ 5 (.int .i64 (q i)) (fun a ee => execL20 rfl (Or.inr (Or.inl rfl)) (ee _) (fC_at Fg14s5).2) (rv_ 6 (.bool false) (fun a ee => execDec (exIneqE (p := (q i)) (q := 0) rfl (ee _) rfl) (decide_eq_false c2)) (rf_ [(102, .bool false)] (h10_ t0 t3 t8 t10 t11 t12 t79 t80 t81 t14) ?_)))))))
            rintro a A ⟨t102, -⟩ ⟨t0, t3, t8, t10, t11, t12, t79, t80, t81, t14, -⟩
            refine wp_cond_false t102 ?_
            refine wp_skip ?_
            clear t102
            refine wi_ A (h10_ t0 t3 t8 t10 t11 t12 t79 t80 t81 t14) (rv_ 2 (.pointer (some ⟨g14, 0, none⟩)) (fun a ee => execFzN0 rfl (ee _)) (rv_ 3 (.int .i64 (p i)) (fun a ee => execL20 rfl (Or.inl rfl) (ee _) (fC_at Fg14s5).1) (rv_ 5 (.bool false) (fun a ee => execDec (exIeql3 (p := (p i)) (q := lo) rfl (ee _) (ee _)) (decide_eq_false c5)) (rf_ [(12, .bool false)] (h8_ t0 t3 t8 t10 t11 t79 t80 t81) ?_))))
            rintro a A ⟨t12, -⟩ ⟨t0, t3, t8, t10, t11, t79, t80, t81, -⟩
            have hfn : (false = true) ↔ ∃ j, j < i + 1 ∧ p j = lo ∧ q j = er := by
              refine ⟨fun w => (by cases w), fun ⟨j, w1, w2, w3⟩ => ?_⟩
              by_cases e : j = i
              · rw [e] at w2 w3; exact absurd w2 c5
              · exact hfd.2 ⟨j, by omega, w2, w3⟩
            refine wi_ A (h9_ t0 t3 t8 t10 t11 t12 t79 t80 t81) (rv_ 0 (.int .i64 ((i + 1 : Nat) : Int)) (fun a ee => execAd8 (p := i) (q := 1) rfl (ee _) rfl (by omega)) (rf_ [(81, .int .i64 ((i + 1 : Nat) : Int))] (h8_ t0 t3 t8 t10 t11 t12 t79 t80) ?_))
            rintro a A ⟨t81, -⟩ ⟨t0, t3, t8, t10, t11, t12, t79, t80, -⟩
            exact ⟨⟨i + 1, false, lti, hfn, A, t0, t3, t8, t10, t11, t12, t79, t80, t81, BB, Ff, Fb⟩, by show l - (intOf (a.eval (.tmp 81))).toNat < l - (intOf (Act.eval _ (.tmp 81))).toNat; rw [t81, esi]; show l - (i + 1) < l - i; omega⟩
    · cases fd with
      | true =>
        refine wp_seq ?_
        refine wp_seq ?_
        refine wi_ A (h10_ t0 t3 t8 t10 t11 t12 t79 t80 t81 t14) (rv_ 0 (.pointer (some ⟨g14, 0, none⟩)) (fun a ee => execFzN0 rfl (ee _)) (rv_ 1 (.int .i64 (p i)) (fun a ee => execL20 rfl (Or.inl rfl) (ee _) (fC_at Fg14s5).1) (rv_ 2 (.bool false) (fun a ee => execDec (exIgeq3 (p := (p i)) (q := 0) rfl (ee _) rfl) (decide_eq_false c1)) (rf_ [(102, .bool false)] (h10_ t0 t3 t8 t10 t11 t12 t79 t80 t81 t14) ?_))))
        rintro a A ⟨t102, -⟩ ⟨t0, t3, t8, t10, t11, t12, t79, t80, t81, t14, -⟩
        refine wp_cond_false t102 ?_
        refine wp_skip ?_
        clear t102
        refine wi_ A (h10_ t0 t3 t8 t10 t11 t12 t79 t80 t81 t14) (rf_ [(12, .bool true)] (h8_ t0 t3 t8 t10 t11 t79 t80 t81) ?_)
        rintro a A ⟨t12, -⟩ ⟨t0, t3, t8, t10, t11, t79, t80, t81, -⟩
        have hfn : (true = true) ↔ ∃ j, j < i + 1 ∧ p j = lo ∧ q j = er := ⟨fun _ => by obtain ⟨j, w⟩ := hfd.1 rfl; exact ⟨j, by omega, w.2⟩, fun _ => rfl⟩
        refine wi_ A (h9_ t0 t3 t8 t10 t11 t12 t79 t80 t81) (rv_ 0 (.int .i64 ((i + 1 : Nat) : Int)) (fun a ee => execAd8 (p := i) (q := 1) rfl (ee _) rfl (by omega)) (rf_ [(81, .int .i64 ((i + 1 : Nat) : Int))] (h8_ t0 t3 t8 t10 t11 t12 t79 t80) ?_))
        rintro a A ⟨t81, -⟩ ⟨t0, t3, t8, t10, t11, t12, t79, t80, -⟩
        exact ⟨⟨i + 1, true, lti, hfn, A, t0, t3, t8, t10, t11, t12, t79, t80, t81, BB, Ff, Fb⟩, by show l - (intOf (a.eval (.tmp 81))).toNat < l - (intOf (Act.eval _ (.tmp 81))).toNat; rw [t81, esi]; show l - (i + 1) < l - i; omega⟩
      | false =>
        by_cases c5 : p i = lo
        · by_cases c6 : q i = er
          · refine wp_seq ?_
            refine wp_seq ?_
            refine wi_ A (h10_ t0 t3 t8 t10 t11 t12 t79 t80 t81 t14) (rv_ 0 (.pointer (some ⟨g14, 0, none⟩)) (fun a ee => execFzN0 rfl (ee _)) (rv_ 1 (.int .i64 (p i)) (fun a ee => execL20 rfl (Or.inl rfl) (ee _) (fC_at Fg14s5).1) (rv_ 2 (.bool false) (fun a ee => execDec (exIgeq3 (p := (p i)) (q := 0) rfl (ee _) rfl) (decide_eq_false c1)) (rf_ [(102, .bool false)] (h10_ t0 t3 t8 t10 t11 t12 t79 t80 t81 t14) ?_))))
            rintro a A ⟨t102, -⟩ ⟨t0, t3, t8, t10, t11, t12, t79, t80, t81, t14, -⟩
            refine wp_cond_false t102 ?_
            refine wp_skip ?_
            clear t102
            refine wi_ A (h10_ t0 t3 t8 t10 t11 t12 t79 t80 t81 t14) (rv_ 2 (.pointer (some ⟨g14, 0, none⟩)) (fun a ee => execFzN0 rfl (ee _)) (rv_ 3 (.int .i64 (p i)) (fun a ee => execL20 rfl (Or.inl rfl) (ee _) (fC_at Fg14s5).1) (rv_ 5 (.bool true) (fun a ee => execDec (exIeql3 (p := (p i)) (q := lo) rfl (ee _) (ee _)) (decide_eq_true c5)) (rv_ 7 (.pointer (some ⟨g14, 1, none⟩)) (fun a ee => execFzN1 rfl (ee _)) (rv_ 8 (.int .i64 (q i)) (fun a ee => execL20 rfl (Or.inr (Or.inl rfl)) (ee _) (fC_at Fg14s5).2) (rv_ 10 (.bool true) (fun a ee => execDec (exIeqlE (p := (q i)) (q := er) rfl (ee _) (ee _)) (decide_eq_true c6)) (rv_ 14 (.bool true) (fun a ee => execDec (exIneqE (p := er) (q := 0) rfl (ee _) rfl) (decide_eq_true hE)) (rf_ [(12, .bool true)] (h8_ t0 t3 t8 t10 t11 t79 t80 t81) ?_))))))))
            rintro a A ⟨t12, -⟩ ⟨t0, t3, t8, t10, t11, t79, t80, t81, -⟩
            have hfn : (true = true) ↔ ∃ j, j < i + 1 ∧ p j = lo ∧ q j = er := ⟨fun _ => ⟨i, by omega, c5, c6⟩, fun _ => rfl⟩
            refine wi_ A (h9_ t0 t3 t8 t10 t11 t12 t79 t80 t81) (rv_ 0 (.int .i64 ((i + 1 : Nat) : Int)) (fun a ee => execAd8 (p := i) (q := 1) rfl (ee _) rfl (by omega)) (rf_ [(81, .int .i64 ((i + 1 : Nat) : Int))] (h8_ t0 t3 t8 t10 t11 t12 t79 t80) ?_))
            rintro a A ⟨t81, -⟩ ⟨t0, t3, t8, t10, t11, t12, t79, t80, -⟩
            exact ⟨⟨i + 1, true, lti, hfn, A, t0, t3, t8, t10, t11, t12, t79, t80, t81, BB, Ff, Fb⟩, by show l - (intOf (a.eval (.tmp 81))).toNat < l - (intOf (Act.eval _ (.tmp 81))).toNat; rw [t81, esi]; show l - (i + 1) < l - i; omega⟩
          · refine wp_seq ?_
            refine wp_seq ?_
            refine wi_ A (h10_ t0 t3 t8 t10 t11 t12 t79 t80 t81 t14) (rv_ 0 (.pointer (some ⟨g14, 0, none⟩)) (fun a ee => execFzN0 rfl (ee _)) (rv_ 1 (.int .i64 (p i)) (fun a ee => execL20 rfl (Or.inl rfl) (ee _) (fC_at Fg14s5).1) (rv_ 2 (.bool false) (fun a ee => execDec (exIgeq3 (p := (p i)) (q := 0) rfl (ee _) rfl) (decide_eq_false c1)) (rf_ [(102, .bool false)] (h10_ t0 t3 t8 t10 t11 t12 t79 t80 t81 t14) ?_))))
            rintro a A ⟨t102, -⟩ ⟨t0, t3, t8, t10, t11, t12, t79, t80, t81, t14, -⟩
            refine wp_cond_false t102 ?_
            refine wp_skip ?_
            clear t102
            refine wi_ A (h10_ t0 t3 t8 t10 t11 t12 t79 t80 t81 t14) (rv_ 2 (.pointer (some ⟨g14, 0, none⟩)) (fun a ee => execFzN0 rfl (ee _)) (rv_ 3 (.int .i64 (p i)) (fun a ee => execL20 rfl (Or.inl rfl) (ee _) (fC_at Fg14s5).1) (rv_ 5 (.bool true) (fun a ee => execDec (exIeql3 (p := (p i)) (q := lo) rfl (ee _) (ee _)) (decide_eq_true c5)) (rv_ 7 (.pointer (some ⟨g14, 1, none⟩)) (fun a ee => execFzN1 rfl (ee _)) (rv_ 8 (.int .i64 (q i)) (fun a ee => execL20 rfl (Or.inr (Or.inl rfl)) (ee _) (fC_at Fg14s5).2) (rv_ 10 (.bool false) (fun a ee => execDec (exIeqlE (p := (q i)) (q := er) rfl (ee _) (ee _)) (decide_eq_false c6)) (rf_ [(12, .bool false)] (h8_ t0 t3 t8 t10 t11 t79 t80 t81) ?_)))))))
            rintro a A ⟨t12, -⟩ ⟨t0, t3, t8, t10, t11, t79, t80, t81, -⟩
            have hfn : (false = true) ↔ ∃ j, j < i + 1 ∧ p j = lo ∧ q j = er := by
              refine ⟨fun w => (by cases w), fun ⟨j, w1, w2, w3⟩ => ?_⟩
              by_cases e : j = i
              · rw [e] at w2 w3; exact absurd w3 c6
              · exact hfd.2 ⟨j, by omega, w2, w3⟩
            refine wi_ A (h9_ t0 t3 t8 t10 t11 t12 t79 t80 t81) (rv_ 0 (.int .i64 ((i + 1 : Nat) : Int)) (fun a ee => execAd8 (p := i) (q := 1) rfl (ee _) rfl (by omega)) (rf_ [(81, .int .i64 ((i + 1 : Nat) : Int))] (h8_ t0 t3 t8 t10 t11 t12 t79 t80) ?_))
            rintro a A ⟨t81, -⟩ ⟨t0, t3, t8, t10, t11, t12, t79, t80, -⟩
            exact ⟨⟨i + 1, false, lti, hfn, A, t0, t3, t8, t10, t11, t12, t79, t80, t81, BB, Ff, Fb⟩, by show l - (intOf (a.eval (.tmp 81))).toNat < l - (intOf (Act.eval _ (.tmp 81))).toNat; rw [t81, esi]; show l - (i + 1) < l - i; omega⟩
        · refine wp_seq ?_
          refine wp_seq ?_
          refine wi_ A (h10_ t0 t3 t8 t10 t11 t12 t79 t80 t81 t14) (rv_ 0 (.pointer (some ⟨g14, 0, none⟩)) (fun a ee => execFzN0 rfl (ee _)) (rv_ 1 (.int .i64 (p i)) (fun a ee => execL20 rfl (Or.inl rfl) (ee _) (fC_at Fg14s5).1) (rv_ 2 (.bool false) (fun a ee => execDec (exIgeq3 (p := (p i)) (q := 0) rfl (ee _) rfl) (decide_eq_false c1)) (rf_ [(102, .bool false)] (h10_ t0 t3 t8 t10 t11 t12 t79 t80 t81 t14) ?_))))
          rintro a A ⟨t102, -⟩ ⟨t0, t3, t8, t10, t11, t12, t79, t80, t81, t14, -⟩
          refine wp_cond_false t102 ?_
          refine wp_skip ?_
          clear t102
          refine wi_ A (h10_ t0 t3 t8 t10 t11 t12 t79 t80 t81 t14) (rv_ 2 (.pointer (some ⟨g14, 0, none⟩)) (fun a ee => execFzN0 rfl (ee _)) (rv_ 3 (.int .i64 (p i)) (fun a ee => execL20 rfl (Or.inl rfl) (ee _) (fC_at Fg14s5).1) (rv_ 5 (.bool false) (fun a ee => execDec (exIeql3 (p := (p i)) (q := lo) rfl (ee _) (ee _)) (decide_eq_false c5)) (rf_ [(12, .bool false)] (h8_ t0 t3 t8 t10 t11 t79 t80 t81) ?_))))
          rintro a A ⟨t12, -⟩ ⟨t0, t3, t8, t10, t11, t79, t80, t81, -⟩
          have hfn : (false = true) ↔ ∃ j, j < i + 1 ∧ p j = lo ∧ q j = er := by
            refine ⟨fun w => (by cases w), fun ⟨j, w1, w2, w3⟩ => ?_⟩
            by_cases e : j = i
            · rw [e] at w2 w3; exact absurd w2 c5
            · exact hfd.2 ⟨j, by omega, w2, w3⟩
          refine wi_ A (h9_ t0 t3 t8 t10 t11 t12 t79 t80 t81) (rv_ 0 (.int .i64 ((i + 1 : Nat) : Int)) (fun a ee => execAd8 (p := i) (q := 1) rfl (ee _) rfl (by omega)) (rf_ [(81, .int .i64 ((i + 1 : Nat) : Int))] (h8_ t0 t3 t8 t10 t11 t12 t79 t80) ?_))
          rintro a A ⟨t81, -⟩ ⟨t0, t3, t8, t10, t11, t12, t79, t80, -⟩
          exact ⟨⟨i + 1, false, lti, hfn, A, t0, t3, t8, t10, t11, t12, t79, t80, t81, BB, Ff, Fb⟩, by show l - (intOf (a.eval (.tmp 81))).toNat < l - (intOf (Act.eval _ (.tmp 81))).toNat; rw [t81, esi]; show l - (i + 1) < l - i; omega⟩
  rw [decide_eq_false lti] at t82
  refine wp_cond_false t82 ?_
  refine wp_exit ?_
  first | with_reducible refine exit_in ?_ | with_reducible refine exit_then (exit_in ?_) | with_reducible refine exit_then (exit_then (exit_in ?_)) | refine exit_in ?_ | refine exit_then (exit_in ?_) | refine exit_then (exit_then (exit_in ?_))
  clear t82 esi
  obtain rfl : l = i := by omega
  have hft : fd = true := hfd.2 (by obtain ⟨j, w1, w2, w3⟩ := (hI.2 hE).2.1; exact ⟨j, w1, w2, w3⟩)
  subst hft
  refine wp_seq ?_
  refine wi_ A (h9_ t0 t3 t8 t10 t11 t12 t79 t80 t81) (rc_ 0 (first_is (s := (ntk (fun j => ((j : Nat) : Int)) q l)) (x := x) (y := y) Ff hx) (cb_ fun X23 bQ => ?_))
  replace Ff := (on9 Ff bQ)
  replace Fb := (on9 Fb bQ)
  replace BB := BB.trans (bQ.mono BB.size)
  clear bQ
  refine rf_ [(15, .int .i64 x), (16, .int .i64 y)] (h4_ t0 t8 t11 t12) ?_
  rintro a A ⟨t15, t16, -⟩ ⟨t0, t8, t11, t12, -⟩
  refine wp_seq ?_
  refine wi_ A (h6_ t0 t8 t11 t12 t15 t16) (rc_ 0 (first_is (s := (ntk (fun j => ((l - 1 - j : Nat) : Int)) (fun j => q (l - 1 - j)) l)) (x := x) (y := y) Fb (two_ways q l ▸ hx)) (cb_ fun X24 bQ => ?_))
  replace Ff := (on9 Ff bQ)
  replace Fb := (on9 Fb bQ)
  replace BB := BB.trans (bQ.mono BB.size)
  clear bQ
  refine rf_ [(17, .int .i64 x), (18, .int .i64 y)] (h5_ t0 t11 t12 t15 t16) ?_
  rintro a A ⟨t17, t18, -⟩ ⟨t0, t11, t12, t15, t16, -⟩
  refine wp_seq ?_
  refine wi_ A (h7_ t0 t11 t12 t15 t16 t17 t18) (rv_ 4 (.bool true) (fun a ee => execDec (exIeql3 (p := x) (q := x) rfl (ee _) (ee _)) (decide_eq_true rfl)) (rv_ 9 (.bool true) (fun a ee => execDec (exIeqlE (p := y) (q := y) rfl (ee _) (ee _)) (decide_eq_true rfl)) (rv_ 13 (.bool false) (fun a ee => execDec (exIeqlE (p := y) (q := 0) rfl (ee _) rfl) (decide_eq_false hy)) (rv_ 15 (.bool false) (fun a ee => execDec (exIeqlE (p := er) (q := 0) rfl (ee _) rfl) (decide_eq_false hE)) (rv_ 20 (.bool true) (fun a ee => execEqBB20 rfl (ee _) (ee _)) (rg_ [(2, .bool true)] ?_))))))
  rintro a A ⟨t2, -⟩
  refine wp_ret ?_
  refine bodyPost_ret (results_tmp rfl _ _ _) A.2 ⟨?_, BB⟩
  show Ending.returned (a.eval (.tmp 2)) = _
  rw [t2]
theorem firsts20 (v : Value) (l : Nat) (p q : Nat → Int) (V : World) (hP : SliceP V v l p q) (hl : l ≤ 8796093021952) : Calls Try.prog 6 #[v] V fun e w' => e = .returned (.bool true) ∧ Below V.heap.size V w' := by
  obtain ⟨x, y, hx⟩ : ∃ x y, fs (ntk (fun j => ((j : Nat) : Int)) q l) = (x, y) := ⟨_, _, rfl⟩
  have b := ntk_inv (fun j => ((j : Nat) : Int)) q l
  have a := ntk_inv p q l
  have y0 : y = 0 ↔ (ntk (fun j => ((j : Nat) : Int)) q l).2 = 0 := by
    constructor
    · intro e
      refine Classical.byContradiction fun w => w ?_
      rw [fs_some w] at hx
      rw [hx]; exact e
    · intro e
      rw [fs_zero e] at hx
      exact (congrArg Prod.snd hx).symm
  by_cases hA : (ntk p q l).2 = 0
  · by_cases h0 : ∀ j, j < l → q j = 0
    · refine firsts_z v l p q V hP hl hA x y hx (y0.2 (Classical.byContradiction fun w => ?_)) h0
      obtain ⟨-, ⟨j, j1, -, j3⟩, -⟩ := b.2 w
      exact w (j3.symm.trans (h0 j j1))
    · obtain ⟨j0, j1, j2, j3⟩ := first_at h0
      refine firsts_w v l p q V hP hl hA x y hx (fun w => ?_) j0 j1 j2 j3
      rcases b.1 (y0.1 w) j0 j1 with u | u
      · omega
      · exact j2 u
  · refine firsts_n v l p q V hP hl (ntk p q l).1 (ntk p q l).2 rfl hA (a.2 hA).1 a x y hx (fun w => ?_)
    obtain ⟨-, ⟨j, j1, -, j3⟩, -⟩ := a.2 hA
    rcases b.1 (y0.1 w) j j1 with u | u
    · omega
    · exact hA (j3.symm.trans u)
end Go.Proofs.Ytnfokemikcigbaa.Ord
