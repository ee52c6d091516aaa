import Derived.Test.YtnfokemikcigbaaK8g
namespace Go.Proofs.Ytnfokemikcigbaa.Ord
open Go.RowKit Gf8 Aes By8 Cel Cf Win Drw Prm
open Go.ChangeMaps Go.MapKept
/- OrderNotes, OrderFirsts. Written by tools/mkK8h.py. -/

/-- A fault behind the first k notes. -/
def ntk (p q : Nat → Int) : Nat → Int × Int
  | 0 => (0, 0)
  | k + 1 => nt (ntk p q k) (p k) (q k)
theorem ntk_inv (p q : Nat → Int) (k : Nat) : ((ntk p q k).2 = 0 → ∀ j, j < k → p j < 0 ∨ q j = 0) ∧ ((ntk p q k).2 ≠ 0 → 0 ≤ (ntk p q k).1 ∧ (∃ j, j < k ∧ p j = (ntk p q k).1 ∧ q j = (ntk p q k).2) ∧ ∀ j, j < k → 0 ≤ p j → q j ≠ 0 → (ntk p q k).1 ≤ p j) := by
  induction k with
  | zero => exact ⟨fun _ j hj => absurd hj (Nat.not_lt_zero j), fun h => absurd rfl h⟩
  | succ k ih =>
    show ((nt (ntk p q k) (p k) (q k)).2 = 0 → _) ∧ ((nt (ntk p q k) (p k) (q k)).2 ≠ 0 → 0 ≤ (nt (ntk p q k) (p k) (q k)).1 ∧ (∃ j, j < k + 1 ∧ p j = (nt (ntk p q k) (p k) (q k)).1 ∧ q j = (nt (ntk p q k) (p k) (q k)).2) ∧ ∀ j, j < k + 1 → 0 ≤ p j → q j ≠ 0 → (nt (ntk p q k) (p k) (q k)).1 ≤ p j)
    obtain ⟨s, hs⟩ : ∃ s, ntk p q k = s := ⟨_, rfl⟩
    rw [hs] at ih ⊢
    unfold nt
    have lt : ∀ j, j < k + 1 → j < k ∨ j = k := fun j hj => by omega
    by_cases h1 : p k < 0 ∨ q k = 0
    · rw [if_pos h1]
      refine ⟨fun h j hj => ?_, fun h => ?_⟩
      · rcases lt j hj with w | rfl
        · exact ih.1 h j w
        · exact h1
      · obtain ⟨a1, ⟨j0, b1, b2, b3⟩, a3⟩ := ih.2 h
        refine ⟨a1, ⟨j0, by omega, b2, b3⟩, fun j hj c1 c2 => ?_⟩
        rcases lt j hj with w | rfl
        · exact a3 j w c1 c2
        · rcases h1 with h1 | h1
          · omega
          · exact absurd h1 c2
    · rw [if_neg h1]
      rw [not_or] at h1
      by_cases h2 : s.2 = 0 ∨ p k < s.1
      · rw [if_pos h2]
        refine ⟨fun h => absurd h h1.2, fun _ => ⟨by show 0 ≤ p k; omega, ⟨k, by omega, rfl, rfl⟩, fun j hj c1 c2 => ?_⟩⟩
        show p k ≤ p j
        rcases lt j hj with w | rfl
        · by_cases h3 : s.2 = 0
          · rcases ih.1 h3 j w with q1 | q1
            · omega
            · exact absurd q1 c2
          · have := (ih.2 h3).2.2 j w c1 c2
            rcases h2 with h2 | h2
            · exact absurd h2 h3
            · omega
        · omega
      · rw [if_neg h2]
        rw [not_or] at h2
        obtain ⟨a1, ⟨j0, b1, b2, b3⟩, a3⟩ := ih.2 h2.1
        refine ⟨fun h => absurd h h2.1, fun _ => ⟨a1, ⟨j0, by omega, b2, b3⟩, fun j hj c1 c2 => ?_⟩⟩
        rcases lt j hj with w | rfl
        · exact a3 j w c1 c2
        · omega
theorem rfs_fs (p q : Nat → Int) : ∀ k, rfs p q k = fs (ntk p q k)
  | 0 => rfl
  | k + 1 => by
    have ih := rfs_fs p q k
    have iv := ntk_inv p q k
    show (if 0 ≤ p k ∧ q k ≠ 0 ∧ ((rfs p q k).1 < 0 ∨ p k < (rfs p q k).1) then (p k, q k) else rfs p q k) = fs (nt (ntk p q k) (p k) (q k))
    rw [ih]
    obtain ⟨s, hs⟩ : ∃ s, ntk p q k = s := ⟨_, rfl⟩
    rw [hs] at iv ⊢
    unfold nt
    by_cases h1 : p k < 0 ∨ q k = 0
    · rw [if_pos h1, if_neg (fun w => h1.elim (fun e => by omega) w.2.1)]
    · rw [if_neg h1]
      rw [not_or] at h1
      by_cases h3 : s.2 = 0
      · rw [if_pos (Or.inl h3)]
        have e : fs s = (-1, 0) := if_pos h3
        rw [e, if_pos ⟨by omega, h1.2, Or.inl (by decide)⟩]
        exact (if_neg h1.2).symm
      · have e : fs s = s := if_neg h3
        rw [e]
        have := (iv.2 h3).1
        by_cases h4 : p k < s.1
        · rw [if_pos (Or.inr h4), if_pos ⟨by omega, h1.2, Or.inr h4⟩]
          exact (if_neg h1.2).symm
        · rw [if_neg (fun w => w.2.2.elim (fun x => by omega) h4), if_neg (fun w => w.elim h3 h4), e]
theorem sv_gr {W X : World} {g : Nat} (h : Saved (fun q => q = g) W X) : W.grownBy X (some g) := ⟨h.os, h.tape, h.output, h.size, fun b hb hne => h.block b hb (fun e => hne (by rw [e]))⟩
set_option maxRecDepth 100000 in
set_option maxHeartbeats 4000000 in
/-- OrderNotes. -/
theorem notes20 (v : Value) (l : Nat) (p q : Nat → Int) (V : World) (hP : SliceP V v l p q) (hl : l ≤ 8796093021952) :
    Calls Try.prog 5 #[v] V fun e w' => e = .returned (.bool true) ∧ Below V.heap.size V w' := by
  go_enter Try.func5, Try.ntmps5
  refine wo_ 82 [(0, v)] ?_
  rintro a A ⟨t0, -⟩
  have BW : Below V.heap.size V V := Below.refl _ _
  have BB : Below V.heap.size V V := Below.refl _ _
  refine wp_seq ?_
  refine wi_ A (h1_ t0) (rf_ [] (h1_ t0) ?_)
  rintro a A - ⟨t0, -⟩
  refine wp_seq ?_
  obtain ⟨g3, egg3⟩ : ∃ z_ : Nat, V.heap.size = z_ := ⟨_, rfl⟩
  refine wi_ A (h1_ t0) (rs_ 0 (fun a ee => ?_))
  refine stepV rfl rfl (execAl2 rfl (Or.inr rfl)) ⟨.pointer (some ⟨g3, 0, none⟩), ⟨_, rfl, by subst egg3; rfl⟩, fun X1_1 hX => ?_⟩
  have bQ : Below V.heap.size V X1_1 := by subst hX egg3; exact (belNew V _)
  have Fg3 : (X1_1.heap[g3]? = some (.cells (fC 0 0) 46)) := by subst hX egg3; exact heapNew V _
  have Fgeg3 : (V.heap.size ≤ g3) := by subst hX egg3; exact (BB).size
  replace BB := BB.trans (bQ.mono BB.size)
  clear bQ hX egg3 ee a
  obtain ⟨g4, egg4⟩ : ∃ z_ : Nat, X1_1.heap.size = z_ := ⟨_, rfl⟩
  refine rs_ 1 (fun a ee => ?_)
  refine stepV rfl rfl (execAl2 rfl (Or.inr rfl)) ⟨.pointer (some ⟨g4, 0, none⟩), ⟨_, rfl, by subst egg4; rfl⟩, fun X1 hX => ?_⟩
  have bQ : Below X1_1.heap.size X1_1 X1 := by subst hX egg4; exact (belNew X1_1 _)
  have Fg4 : (X1.heap[g4]? = some (.cells (fC 0 0) 46)) := by subst hX egg4; exact heapNew X1_1 _
  have Fgeg4 : (V.heap.size ≤ g4) := by subst hX egg4; exact (BB).size
  have Fng4g3 : (g3 ≠ g4) := by subst hX egg4; exact Nat.ne_of_lt (Array.getElem?_eq_some_iff.1 Fg3).1
  replace Fg3 := (on9 Fg3 bQ)
  replace BB := BB.trans (bQ.mono BB.size)
  clear bQ hX egg4 ee a
  refine rf_ [(3, .pointer (some ⟨g3, 0, none⟩)), (4, .pointer (some ⟨g4, 0, none⟩))] (h1_ t0) ?_
  rintro a A ⟨t3, t4, -⟩ ⟨t0, -⟩
  refine wp_seq ?_
  refine wi_ A (h3_ t0 t3 t4) (rc_ 0 (pnote (s := ((0, 0) : Int × Int)) (4) (7) Fg4) fun e X2 hh => ?_)
  obtain ⟨he, hk, hs⟩ := hh
  refine ⟨_, he, ?_⟩
  obtain ⟨BB, Fg3, Fg4n1⟩ : Below V.heap.size V X2 ∧ (X2.heap[g3]? = some (.cells (fC 0 0) 46)) ∧ (X2.heap[g4]? = some (.cells (fC (nt ((0, 0) : Int × Int) (4) (7)).1 (nt ((0, 0) : Int × Int) (4) (7)).2) 46)) := ⟨sv_bel BB hs (fun q hq => hq ▸ Fgeg4), (bk_saved Fg3 hs (fun e => (Ne.symm Fng4g3) e.symm)), hk⟩
  clear Fg4
  refine rf_ [] (h3_ t0 t3 t4) ?_
  rintro a A - ⟨t0, t3, t4, -⟩
  refine wp_seq ?_
  refine wp_seq ?_
  refine wi_ A (h3_ t0 t3 t4) (rc_ 0 (pfirst (s := (nt ((0, 0) : Int × Int) (4) (7))) Fg4n1) (cb_ fun X3 bQ => ?_))
  replace Fg3 := (on9 Fg3 bQ)
  replace Fg4n1 := (on9 Fg4n1 bQ)
  replace BB := BB.trans (bQ.mono BB.size)
  clear bQ
  refine rf_ [(5, .int .i64 (fs (nt ((0, 0) : Int × Int) (4) (7))).1), (6, .int .i64 (fs (nt ((0, 0) : Int × Int) (4) (7))).2)] (h2_ t0 t3) ?_
  rintro a A ⟨t5, t6, -⟩ ⟨t0, t3, -⟩
  refine wp_seq ?_
  refine wi_ A (h4_ t0 t3 t5 t6) (rv_ 1 (.bool false) (fun a ee => execDec (exIneq3 (p := (fs (nt ((0, 0) : Int × Int) (4) (7))).1) (q := 4) rfl (ee _) rfl) (decide_eq_false (by decide))) (rv_ 4 (.bool false) (fun a ee => execDec (exIneqE (p := (fs (nt ((0, 0) : Int × Int) (4) (7))).2) (q := 7) rfl (ee _) rfl) (decide_eq_false (by decide))) (rf_ [(27, .bool false)] (h2_ t0 t3) ?_)))
  rintro a A ⟨t27, -⟩ ⟨t0, t3, -⟩
  refine wp_cond_false t27 ?_
  refine wp_skip ?_
  clear t27
  refine wp_seq ?_
  refine wi_ A (h2_ t0 t3) (rf_ [(7, .pointer none)] (h2_ t0 t3) ?_)
  rintro a A ⟨t7, -⟩ ⟨t0, t3, -⟩
  refine wp_seq ?_
  refine wi_ A (h3_ t0 t3 t7) (rf_ [(8, .slice none 0 0)] (h3_ t0 t3 t7) ?_)
  rintro a A ⟨t8, -⟩ ⟨t0, t3, t7, -⟩
  have FO : X3.ownsRow V.heap.size 55 2 (.slice none 0 0) 0 (pL 0 p q) := own_none20 _ _ _ _ _
  have Fa : X3.heap[g3]? = some (.cells (fC (ntk p q 0).1 (ntk p q 0).2) 46) := Fg3
  refine wp_seq ?_
  refine wp_seq ?_
  refine wi_ A (h4_ t0 t3 t7 t8) (rv_ 1 (.int .i64 ((l : Nat) : Int)) (fun a ee => execLnP (len := l) rfl (Or.inr (Or.inr (Or.inl rfl))) (ee _) hP.shp) (rf_ [(28, v), (29, .int .i64 ((l : Nat) : Int)), (30, .int .i64 ((0 : Nat) : Int))] (h3_ t3 t7 t8) ?_))
  rintro a A ⟨t28, t29, t30, -⟩ ⟨t3, t7, t8, -⟩
  refine wp_block ?_
  refine wp_loop (fun a W => ∃ (i : Nat) (r : Value), i ≤ l ∧ (a.tmps.size = 82 ∧ a.defers = []) ∧ a.eval (.tmp 3) = .pointer (some ⟨g3, 0, none⟩) ∧ a.eval (.tmp 7) = .pointer none ∧ a.eval (.tmp 8) = r ∧ a.eval (.tmp 28) = v ∧ a.eval (.tmp 29) = .int .i64 ((l : Nat) : Int) ∧ a.eval (.tmp 30) = .int .i64 ((i : Nat) : Int) ∧ Below V.heap.size V W ∧ (W.heap[g3]? = some (.cells (fC (ntk p q i).1 (ntk p q i).2) 46)) ∧ (W.ownsRow V.heap.size 55 2 r (i) (pL (i) p q))) (fun a _ => l - (intOf (a.eval (.tmp 30))).toNat) ⟨0, (.slice none 0 0), Nat.zero_le _, A, t3, t7, t8, t28, t29, t30, BB, Fa, FO⟩ ?_
  clear A t3 t7 t8 t28 t29 t30 BB Fa FO a
  rintro a XL9 ⟨i, r, hi, A, t3, t7, t8, t28, t29, t30, BB, Fa, FO⟩
  have esi := t30
  refine wp_seq ?_
  refine wi_ A (h6_ t3 t7 t8 t28 t29 t30) (rv_ 0 (.bool (decide (i < l))) (fun a ee => execLtW (p := i) (q := l) rfl (ee _) (ee _)) (rf_ [(31, .bool (decide (i < l)))] (h6_ t3 t7 t8 t28 t29 t30) ?_))
  rintro a A ⟨t31, -⟩ ⟨t3, t7, t8, t28, t29, t30, -⟩
  refine wp_seq ?_
  by_cases lti : i < l
  · rw [decide_eq_true lti] at t31
    refine wp_cond_true t31 ?_
    refine wp_skip ?_
    clear t31
    refine wp_seq ?_
    refine wp_block ?_
    obtain ⟨pb, po, pc, ep_, hpb, hpc⟩ := hP.at (show 0 < l by omega)
    have cP : ∀ X, Below V.heap.size V X → ∀ j, j < l → X.cell? ⟨pb, po + j * 2, none⟩ = some (.int .i64 (p j)) ∧ X.cell? ⟨pb, po + j * 2 + 1, none⟩ = some (.int .i64 (q j)) := fun X hX j hj => ⟨by rw [cell_below hX hpb]; exact (hpc j hj).1, by rw [cell_below hX hpb]; exact (hpc j hj).2⟩
    refine wp_seq ?_
    obtain ⟨g10, egg10⟩ : ∃ z_ : Nat, XL9.heap.size = z_ := ⟨_, rfl⟩
    refine wi_ A (h6_ t3 t7 t8 t28 t29 t30) (rv_ 0 (.pointer (some ⟨pb, po + i * 2, none⟩)) (fun a ee => execIxP (k := i) rfl (Or.inr (Or.inr (rfl))) ((ee _).trans ep_) (ee _) lti) (rv_ 1 (.agg (fC (p i) (q i))) (fun a ee => execLdN rfl (ee _) (cP XL9 BB i lti).1 (cP XL9 BB i lti).2) (rs_ 2 (fun a ee => ?_))))
    refine stepV rfl rfl (execAl2 rfl (Or.inl rfl)) ⟨.pointer (some ⟨g10, 0, none⟩), ⟨_, rfl, by subst egg10; rfl⟩, fun X10_1 hX => ?_⟩
    have bQ : Below XL9.heap.size XL9 X10_1 := by subst hX egg10; exact (belNew XL9 _)
    have Fg10 : (X10_1.heap[g10]? = some (.cells (fC 0 0) 53)) := by subst hX egg10; exact heapNew XL9 _
    have Fgeg10 : (V.heap.size ≤ g10) := by subst hX egg10; exact (BB).size
    have Fng10g3 : (g3 ≠ g10) := by subst hX egg10; exact Nat.ne_of_lt (Array.getElem?_eq_some_iff.1 Fa).1
    replace Fa := (on9 Fa bQ)
    replace FO := (ownD_below FO bQ)
    replace BB := BB.trans (bQ.mono BB.size)
    clear bQ hX egg10 ee a
    refine rs_ 3 (fun a ee => ?_)
    refine stepS rfl rfl (execStN rfl (ee _) (ee _) Fg10) ⟨_, ⟨_, rfl, rfl⟩, fun X10 hX => ?_⟩
    obtain ⟨BB, Fa, FO, Fg10s2⟩ : Below V.heap.size V X10 ∧ (X10.heap[g3]? = some (.cells (fC (ntk p q i).1 (ntk p q i).2) 46)) ∧ (X10.ownsRow V.heap.size 55 2 r (i) (pL (i) p q)) ∧ (X10.heap[g10]? = some (.cells (fC (p i) (q i)) 53)) := by subst hX; exact ⟨below4 BB Fgeg10 _, (keepT Fa Fg10 (by decide) Duc.grR18), (ownG_T FO Fg10 (by decide) Duc.grR18), setRow_heap _ _ _ _ _ _ Fg10⟩
    clear Fg10 hX ee a
    refine rf_ [(10, .pointer (some ⟨g10, 0, none⟩))] (h6_ t3 t7 t8 t28 t29 t30) ?_
    rintro a A ⟨t10, -⟩ ⟨t3, t7, t8, t28, t29, t30, -⟩
    refine wp_seq ?_
    refine wi_ A (h7_ t3 t7 t8 t28 t29 t30 t10) (rv_ 0 (.pointer (some ⟨g10, 0, none⟩)) (fun a ee => execFzN0 rfl (ee _)) (rv_ 1 (.int .i64 (p i)) (fun a ee => execL20 rfl (Or.inl rfl) (ee _) (fC_at Fg10s2).1) (rv_ 2 (.pointer (some ⟨g10, 1, none⟩)) (fun a ee => execFzN1 rfl (ee _)) (rv_ 3 (.int .i64 (q i)) (fun a ee => execL20 rfl (Or.inr (Or.inl rfl)) (ee _) (fC_at Fg10s2).2) (rc_ 4 (pnote (s := (ntk p q i)) (p i) (q i) Fa) fun e X11 hh => ?_)))))
    obtain ⟨he, hk, hs⟩ := hh
    refine ⟨_, he, ?_⟩
    obtain ⟨BB, FO, Fg10s2, Fg3n3⟩ : Below V.heap.size V X11 ∧ (X11.ownsRow V.heap.size 55 2 r (i) (pL (i) p q)) ∧ (X11.heap[g10]? = some (.cells (fC (p i) (q i)) 53)) ∧ (X11.heap[g3]? = some (.cells (fC (nt (ntk p q i) (p i) (q i)).1 (nt (ntk p q i) (p i) (q i)).2) 46)) := ⟨sv_bel BB hs (fun q hq => hq ▸ Fgeg3), (ownG_T FO Fa (by decide) (sv_gr hs)), (keepT Fg10s2 Fa (by decide) (sv_gr hs)), hk⟩
    clear Fa
    refine rf_ [] (h7_ t3 t7 t8 t28 t29 t30 t10) ?_
    rintro a A - ⟨t3, t7, t8, t28, t29, t30, t10, -⟩
    refine wp_seq ?_
    refine wi_ A (h7_ t3 t7 t8 t28 t29 t30 t10) (rv_ 1 (.pointer (some ⟨g10, 0, none⟩)) (fun a ee => execFzN0 rfl (ee _)) (rv_ 2 (.int .i64 (p i)) (fun a ee => execL20 rfl (Or.inl rfl) (ee _) (fC_at Fg10s2).1) (rv_ 3 (.pointer (some ⟨g10, 1, none⟩)) (fun a ee => execFzN1 rfl (ee _)) (rv_ 4 (.int .i64 (q i)) (fun a ee => execL20 rfl (Or.inr (Or.inl rfl)) (ee _) (fC_at Fg10s2).2) (rc_ 5 (pnote_n (p i) (q i) X11) (cb_ fun X12 bQ => ?_))))))
    replace FO := (ownD_below FO bQ)
    replace Fg10s2 := (on9 Fg10s2 bQ)
    replace Fg3n3 := (on9 Fg3n3 bQ)
    replace BB := BB.trans (bQ.mono BB.size)
    clear bQ
    refine rf_ [] (h7_ t3 t7 t8 t28 t29 t30 t10) ?_
    rintro a A - ⟨t3, t7, t8, t28, t29, t30, t10, -⟩
    refine wp_seq ?_
    obtain ⟨gs, eggs⟩ : ∃ z_ : Nat, X12.heap.size = z_ := ⟨_, rfl⟩
    refine wi_ A (h7_ t3 t7 t8 t28 t29 t30 t10) (rv_ 1 (.pointer (some ⟨g10, 0, none⟩)) (fun a ee => execFzN0 rfl (ee _)) (rv_ 2 (.int .i64 (p i)) (fun a ee => execL20 rfl (Or.inl rfl) (ee _) (fC_at Fg10s2).1) (rv_ 3 (.pointer (some ⟨g10, 1, none⟩)) (fun a ee => execFzN1 rfl (ee _)) (rv_ 4 (.int .i64 (q i)) (fun a ee => execL20 rfl (Or.inr (Or.inl rfl)) (ee _) (fC_at Fg10s2).2) (rv_ 5 (.agg (fC (p i) (q i))) (fun a ee => execBdP rfl (Or.inr rfl) (ee _) (ee _)) (rs_ 6 (fun a ee => ?_)))))))
    refine stepV rfl rfl (execBsP rfl (Or.inr ⟨rfl, rfl⟩) (ee _)) ⟨.slice (some ⟨gs, 0, none⟩) 1 1, ⟨_, rfl, by subst eggs; rfl⟩, fun X13_1 hX => ?_⟩
    have bQ : Below X12.heap.size X12 X13_1 := by subst hX eggs; exact (belNew X12 _)
    have Fs : (X13_1.heap[gs]? = some (.cells (fC (p i) (q i)) 55)) := by subst hX eggs; exact heapNew X12 _
    replace FO := (ownD_below FO bQ)
    replace Fg10s2 := (on9 Fg10s2 bQ)
    replace Fg3n3 := (on9 Fg3n3 bQ)
    replace BB := BB.trans (bQ.mono BB.size)
    clear bQ hX eggs ee a
    refine rs_ 7 (fun a ee => ?_)
    refine stepApp20 (p := p) (q := q) rfl rfl rfl (ee _) (ee _) Try.underlying51 infNoted FO Fs (by omega) (BB).size fun r2 X13 own' gr => ⟨_, ⟨_, rfl, rfl⟩, eqw ?_⟩
    obtain ⟨BB, Fg10s2, Fg3n3, FO2⟩ : Below V.heap.size V X13 ∧ (X13.heap[g10]? = some (.cells (fC (p i) (q i)) 53)) ∧ (X13.heap[g3]? = some (.cells (fC (nt (ntk p q i) (p i) (q i)).1 (nt (ntk p q i) (p i) (q i)).2) 46)) ∧ (X13.ownsRow V.heap.size 55 2 r2 (i + 1) (pL (i + 1) p q)) := ⟨(BB).grown gr (BB).size (fun k hk => (FO.lt k hk).1), (Duc.keep_over Fg10s2 FO gr (by decide)), (Duc.keep_over Fg3n3 FO gr (by decide)), own'⟩
    clear FO Fs ee a
    refine rf_ [(8, r2)] (h5_ t3 t7 t28 t29 t30) ?_
    rintro a A ⟨t8, -⟩ ⟨t3, t7, t28, t29, t30, -⟩
    refine wp_seq ?_
    refine wi_ A (h6_ t3 t7 t8 t28 t29 t30) (rc_ 1 (rfirst _ (i + 1) p q X13 (own_pairs FO2) (by omega)) (cb_ fun X14 bQ => ?_))
    replace Fg10s2 := (on9 Fg10s2 bQ)
    replace Fg3n3 := (on9 Fg3n3 bQ)
    replace FO2 := (ownD_below FO2 bQ)
    replace BB := BB.trans (bQ.mono BB.size)
    clear bQ
    refine rf_ [(11, .int .i64 (rfs p q (i + 1)).1), (12, .int .i64 (rfs p q (i + 1)).2)] (h6_ t3 t7 t8 t28 t29 t30) ?_
    rintro a A ⟨t11, t12, -⟩ ⟨t3, t7, t8, t28, t29, t30, -⟩
    refine wp_seq ?_
    refine wi_ A (h8_ t3 t7 t8 t28 t29 t30 t11 t12) (rc_ 0 (pfirst (s := (nt (ntk p q i) (p i) (q i))) Fg3n3) (cb_ fun X15 bQ => ?_))
    replace Fg10s2 := (on9 Fg10s2 bQ)
    replace Fg3n3 := (on9 Fg3n3 bQ)
    replace FO2 := (ownD_below FO2 bQ)
    replace BB := BB.trans (bQ.mono BB.size)
    clear bQ
    refine rf_ [(13, .int .i64 (fs (nt (ntk p q i) (p i) (q i))).1), (14, .int .i64 (fs (nt (ntk p q i) (p i) (q i))).2)] (h8_ t3 t7 t8 t28 t29 t30 t11 t12) ?_
    rintro a A ⟨t13, t14, -⟩ ⟨t3, t7, t8, t28, t29, t30, t11, t12, -⟩
    refine wp_seq ?_
    refine wi_ A (h10_ t3 t7 t8 t28 t29 t30 t11 t12 t13 t14) (rv_ 2 (.bool false) (fun a ee => execDec (exIneq3 (p := (fs (nt (ntk p q i) (p i) (q i))).1) (q := (rfs p q (i + 1)).1) rfl (ee _) (ee _)) (decide_eq_false (fun w => w (by rw [rfs_fs]; rfl)))) (rv_ 6 (.bool false) (fun a ee => execDec (exIneq3 (p := (fs (nt (ntk p q i) (p i) (q i))).2) (q := (rfs p q (i + 1)).2) rfl (ee _) (ee _)) (decide_eq_false (fun w => w (by rw [rfs_fs]; rfl)))) (rf_ [(69, .bool false)] (h6_ t3 t7 t8 t28 t29 t30) ?_)))
    rintro a A ⟨t69, -⟩ ⟨t3, t7, t8, t28, t29, t30, -⟩
    refine wp_cond_false t69 ?_
    refine wp_skip ?_
    clear t69
    have Fa : X15.heap[g3]? = some (.cells (fC (ntk p q (i + 1)).1 (ntk p q (i + 1)).2) 46) := Fg3n3
    have FO := FO2
    refine wi_ A (h6_ t3 t7 t8 t28 t29 t30) (rv_ 0 (.int .i64 ((i + 1 : Nat) : Int)) (fun a ee => execAd8 (p := i) (q := 1) rfl (ee _) rfl (by omega)) (rf_ [(30, .int .i64 ((i + 1 : Nat) : Int))] (h5_ t3 t7 t8 t28 t29) ?_))
    rintro a A ⟨t30, -⟩ ⟨t3, t7, t8, t28, t29, -⟩
    exact ⟨⟨i + 1, r2, lti, A, t3, t7, t8, t28, t29, t30, BB, Fa, FO⟩, by show l - (intOf (a.eval (.tmp 30))).toNat < l - (intOf (Act.eval _ (.tmp 30))).toNat; rw [t30, esi]; show l - (i + 1) < l - i; omega⟩
  rw [decide_eq_false lti] at t31
  refine wp_cond_false t31 ?_
  refine wp_exit ?_
  first | with_reducible refine exit_in ?_ | with_reducible refine exit_then (exit_in ?_) | with_reducible refine exit_then (exit_then (exit_in ?_)) | refine exit_in ?_ | refine exit_then (exit_in ?_) | refine exit_then (exit_then (exit_in ?_))
  clear t31 esi
  refine wp_seq ?_
  refine wi_ A (h6_ t3 t7 t8 t28 t29 t30) (rc_ 1 (pfirst_n XL9) (cb_ fun X19 bQ => ?_))
  replace Fa := (on9 Fa bQ)
  replace FO := (ownD_below FO bQ)
  replace BB := BB.trans (bQ.mono BB.size)
  clear bQ
  refine rg_ [(15, .int .i64 (-1)), (16, .int .i64 ((0 : Nat) : Int))] ?_
  rintro a A ⟨t15, t16, -⟩
  refine wp_seq ?_
  refine wi_ A (h2_ t15 t16) (rv_ 1 (.bool true) (fun a ee => execDec (exIeql3 (p := (-1)) (q := (-1)) rfl (ee _) rfl) (decide_eq_true (by decide))) (rv_ 4 (.bool true) (fun a ee => execDec (exIeqlE (p := ((0 : Nat) : Int)) (q := 0) rfl (ee _) rfl) (decide_eq_true (by decide))) (rg_ [(2, .bool true)] ?_)))
  rintro a A ⟨t2, -⟩
  refine wp_ret ?_
  refine bodyPost_ret (results_tmp rfl _ _ _) A.2 ⟨?_, BB⟩
  show Ending.returned (a.eval (.tmp 2)) = _
  rw [t2]
end Go.Proofs.Ytnfokemikcigbaa.Ord
