import Derived.Test.YtcibogmghagpoaaV8c
namespace Go.Proofs.Ytcibogmghagpoaa.Dro
open Go.RowKit Gf8 Aes By8 Cel Cf Tap Drw
/- Stage 28: the reference's Others. Written by tools/mkV8d.py. -/

theorem ot_A {ln : Nat → Nat} {c : Nat → Nat → Nat} {i k : Nat} (h : k = i) : otQ ln c i k = false := by
  unfold otQ
  rw [decide_eq_false (fun q => q h)]
  rfl
theorem ot_B {ln : Nat → Nat} {c : Nat → Nat → Nat} {i k : Nat} (h : rgt (ln k) = false) : otQ ln c i k = false := by
  unfold otQ
  rw [h, Bool.false_and, Bool.and_false]
theorem ot_D {ln : Nat → Nat} {c : Nat → Nat → Nat} {i k : Nat} (h : ¬ k = i) (hr : rgt (ln k) = true) (hs : ∀ j, j < 8 → c k j = c i j) : otQ ln c i k = true := ot_iff.2 ⟨h, rgt_iff.1 hr, hs⟩
theorem ot_C {ln : Nat → Nat} {c : Nat → Nat → Nat} {i k : Nat} (hk : ∀ j, j < 8 → c k j < 256) (hi : ∀ j, j < 8 → c i j < 256) (hs : ¬ strN (c k) 8 = strN (c i) 8) : otQ ln c i k = false := by
  cases q : otQ ln c i k
  · rfl
  · exact absurd ((str_iff hk hi).2 ⟨rfl, (ot_iff.1 q).2.2⟩) hs
theorem ext1 (f : Nat → Int) (m : Nat) (z : Int) : ∃ g : Nat → Int, g m = z ∧ ∀ l, l < m → f l = g l := ⟨fun l => if l = m then z else f l, if_pos rfl, fun l hl => (if_neg (by omega)).symm⟩
theorem fst_no {p : Nat → Bool} {n : Nat} (z : 0 < cnt p n) : fst_ p (n + 1) = fst_ p n := by
  show (if cnt p n = 0 then _ else _) = _
  rw [if_neg (by omega)]
theorem fst_yes {p : Nat → Bool} {n : Nat} {f g : Nat → Int} (h : p n = true) (hf : 0 < cnt p n → f 0 = ((fst_ p n : Nat) : Int)) (h3 : g (cnt p n) = (n : Int)) (h4 : ∀ l, l < cnt p n → f l = g l) : g 0 = ((fst_ p (n + 1) : Nat) : Int) := by
  rcases Nat.eq_zero_or_pos (cnt p n) with z | z
  · rw [z] at h3
    rw [h3]
    show _ = (((if cnt p n = 0 then _ else _) : Nat) : Int)
    rw [if_pos z, h, if_pos rfl]
  · rw [fst_no z, ← h4 0 z, hf z]
set_option maxRecDepth 100000 in
set_option maxHeartbeats 4000000 in
/-- The reference's Others. -/
theorem rothers (n i : Nat) (cv : Value) (xv : Nat → Value) (ln : Nat → Nat) (c : Nat → Nat → Nat) (V : World) (hL : Ls V cv n xv ln c) (hn : n ≤ 1000000) (hi : i < n) (hr : rgt (ln i) = true) :
    Calls Try.prog 26 #[cv, .int .i64 (i : Int)] V fun e w' => (∃ r f, e = .returned r ∧ w'.ownsRow V.heap.size 3 1 r (cnt (otQ ln c i) n) (intsL (cnt (otQ ln c i) n) f) ∧ (0 < cnt (otQ ln c i) n → f 0 = ((fst_ (otQ ln c i) n : Nat) : Int))) ∧ Below V.heap.size V w' := by
  go_enter Try.func26, Try.ntmps26
  refine wo_ 43 [(0, cv), (1, .int .i64 ((i : Nat) : Int))] ?_
  rintro a A ⟨t0, t1, -⟩
  have BW : Below V.heap.size V V := Below.refl _ _
  have BB := BW
  have h8i := rgt_iff.1 hr
  refine wp_seq ?_
  refine wi_ A (h2_ t0 t1) (rf_ [] (h2_ t0 t1) ?_)
  rintro a A - ⟨t0, t1, -⟩
  refine wp_seq ?_
  refine wi_ A (h2_ t0 t1) (rf_ [(5, .slice none 0 0)] (h2_ t0 t1) ?_)
  rintro a A ⟨t5, -⟩ ⟨t0, t1, -⟩
  refine wp_seq ?_
  refine wp_seq ?_
  refine wi_ A (h3_ t0 t1 t5) (rf_ [(6, .int .i64 ((0 : Nat) : Int))] (h3_ t0 t1 t5) ?_)
  rintro a A ⟨t6, -⟩ ⟨t0, t1, t5, -⟩
  have FO : (V.ownsRow V.heap.size 3 1 (.slice none 0 0) (cnt (otQ ln c i) 0) (intsL (cnt (otQ ln c i) 0) (fun _ => 0))) := World.ownsRow_nil _ _ _ _
  refine wp_block ?_
  refine wp_loop (fun a W => ∃ (k : Nat) (u : Value) (f : Nat → Int), k ≤ n ∧ (0 < cnt (otQ ln c i) k → f 0 = ((fst_ (otQ ln c i) k : Nat) : Int)) ∧ (a.tmps.size = 43 ∧ a.defers = []) ∧ a.eval (.tmp 0) = cv ∧ a.eval (.tmp 1) = .int .i64 ((i : Nat) : Int) ∧ a.eval (.tmp 5) = u ∧ a.eval (.tmp 6) = .int .i64 ((k : Nat) : Int) ∧ Below V.heap.size V W ∧ (W.ownsRow V.heap.size 3 1 u (cnt (otQ ln c i) k) (intsL (cnt (otQ ln c i) k) f))) (fun a _ => n - (intOf (a.eval (.tmp 6))).toNat) ⟨0, .slice none 0 0, fun _ => 0, Nat.zero_le _, fun z => absurd z (Nat.lt_irrefl _), A, t0, t1, t5, t6, BB, FO⟩ ?_
  clear A t0 t1 t5 t6 BB FO a
  rintro a XL3 ⟨k, u, f, hk, hf, A, t0, t1, t5, t6, BB, FO⟩
  have esk := t6
  refine wp_seq ?_
  refine wp_seq ?_
  refine wi_ A (h4_ t0 t1 t5 t6) (rv_ 2 (.int .i64 ((n : Nat) : Int)) (fun a ee => execLenLL rfl (ee _) (hL.on BB).shp) (rv_ 3 (.bool (decide (k < n))) (fun a ee => execLtW (p := k) (q := n) rfl (ee _) (ee _)) (rf_ [(10, .bool (decide (k < n)))] (h4_ t0 t1 t5 t6) ?_)))
  rintro a A ⟨t10, -⟩ ⟨t0, t1, t5, t6, -⟩
  by_cases ltk : k < n
  · rw [decide_eq_true ltk] at t10
    refine wp_cond_true t10 ?_
    refine wp_skip ?_
    clear t10
    refine wp_seq ?_
    refine wp_block ?_
    refine wp_seq ?_
    by_cases h1 : k = i
    · have hot : otQ ln c i k = false := ot_A h1
      refine wj_ [0, 1, 2, 3, 4, 5, 6, 7, 8, 9, 10, 11, 12, 13, 14, 15, 16, 17, 18, 19, 20, 21, 22, 23, 24] [] [] [] A (h4_ t0 t1 t5 t6) (fun X5 bD => ?_)
      refine dw_ 2 (.bool false) (fun a X ee => execDec (execNeN (p := k) (q := i) rfl (ee _) (ee _)) (decide_eq_false (by omega))) (dz_ [(37, .bool false)] (h4_ t0 t1 t5 t6) ?_)
      rintro a A ⟨t37, -⟩ ⟨t0, t1, t5, t6, -⟩
      replace FO := (ownD_below FO bD)
      replace BB := BB.trans (bD.mono BB.size)
      clear bD
      refine wp_cond_false t37 ?_
      refine wp_skip ?_
      clear t37
      have en : cnt (otQ ln c i) (k + 1) = cnt (otQ ln c i) k := by rw [cnt_succ, hot]; rfl
      have hf2 : 0 < cnt (otQ ln c i) (k + 1) → f 0 = ((fst_ (otQ ln c i) (k + 1) : Nat) : Int) := fun z => by rw [en] at z; rw [hf z, fst_no z]
      rw [← en] at FO
      refine wi_ A (h4_ t0 t1 t5 t6) (rv_ 1 (.int .i64 ((k + 1 : Nat) : Int)) (fun a ee => execAd8 (p := k) (q := 1) rfl (ee _) rfl (by omega)) (rf_ [(6, .int .i64 ((k + 1 : Nat) : Int))] (h3_ t0 t1 t5) ?_))
      rintro a A ⟨t6, -⟩ ⟨t0, t1, t5, -⟩
      exact ⟨⟨k + 1, u, f, ltk, hf2, A, t0, t1, t5, t6, BB, FO⟩, by show n - (intOf (a.eval (.tmp 6))).toNat < n - (intOf (Act.eval _ (.tmp 6))).toNat; rw [t6, esk]; show n - (k + 1) < n - k; omega⟩
    cases hrk : rgt (ln k)
    · have hot : otQ ln c i k = false := ot_B hrk
      refine wj_ [0, 1, 2, 3, 4, 5, 6, 7, 8, 9, 10, 11, 12, 13, 14, 15, 16, 17, 18, 19, 20, 21, 22, 23, 24] [8] [6, 7] [] A (h4_ t0 t1 t5 t6) (fun X5_0 bD => ?_)
      refine dw_ 2 (.bool true) (fun a X ee => execDec (execNeN (p := k) (q := i) rfl (ee _) (ee _)) (decide_eq_true (by omega))) (dv_ 6 (.pointer (some ⟨adB cv, adO cv + k, none⟩)) (fun a X ee hb => execIdxLs (k := k) (hL.on (BB.trans (hb.mono BB.size))) rfl (ee _) (ee _) ltk) (dv_ 7 (xv k) (fun a X ee hb => execLdLs (k := k) (hL.on (BB.trans (hb.mono BB.size))) rfl (ee _) ltk) (dc_ 8 ((hrk ▸ rright28 (c k) (ln k) (xv k) X5_0 ((hL.on (BB.trans (bD.mono BB.size))).cell k ltk))) (cb_ fun X5 bQ => ?_))))
      replace bD := bD.trans (bQ.mono bD.size)
      clear bQ
      refine ⟨Or.inr bD, ?_⟩
      refine dz_ [(37, .bool false)] (h4_ t0 t1 t5 t6) ?_
      rintro a A ⟨t37, -⟩ ⟨t0, t1, t5, t6, -⟩
      replace FO := (ownD_below FO bD)
      replace BB := BB.trans (bD.mono BB.size)
      clear bD
      refine wp_cond_false t37 ?_
      refine wp_skip ?_
      clear t37
      have en : cnt (otQ ln c i) (k + 1) = cnt (otQ ln c i) k := by rw [cnt_succ, hot]; rfl
      have hf2 : 0 < cnt (otQ ln c i) (k + 1) → f 0 = ((fst_ (otQ ln c i) (k + 1) : Nat) : Int) := fun z => by rw [en] at z; rw [hf z, fst_no z]
      rw [← en] at FO
      refine wi_ A (h4_ t0 t1 t5 t6) (rv_ 1 (.int .i64 ((k + 1 : Nat) : Int)) (fun a ee => execAd8 (p := k) (q := 1) rfl (ee _) rfl (by omega)) (rf_ [(6, .int .i64 ((k + 1 : Nat) : Int))] (h3_ t0 t1 t5) ?_))
      rintro a A ⟨t6, -⟩ ⟨t0, t1, t5, -⟩
      exact ⟨⟨k + 1, u, f, ltk, hf2, A, t0, t1, t5, t6, BB, FO⟩, by show n - (intOf (a.eval (.tmp 6))).toNat < n - (intOf (Act.eval _ (.tmp 6))).toNat; rw [t6, esk]; show n - (k + 1) < n - k; omega⟩
    · have h8k := rgt_iff.1 hrk
      by_cases hs : strN (c k) 8 = strN (c i) 8
      · have hot : otQ ln c i k = true := ot_D h1 hrk (((str_iff (fun j hj => (hL.cell k ltk).bytes j (by omega)) (fun j hj => (hL.cell i hi).bytes j (by omega))).1 hs).2)
        refine wj_ [0, 1, 2, 3, 4, 5, 6, 7, 8, 9, 10, 11, 12, 13, 14, 15, 16, 17, 18, 19, 20, 21, 22, 23, 24] [8] [6, 7, 13, 14, 15, 16, 19, 20, 21, 22] [] A (h4_ t0 t1 t5 t6) (fun X5_0 bD => ?_)
        refine dw_ 2 (.bool true) (fun a X ee => execDec (execNeN (p := k) (q := i) rfl (ee _) (ee _)) (decide_eq_true (by omega))) (dv_ 6 (.pointer (some ⟨adB cv, adO cv + k, none⟩)) (fun a X ee hb => execIdxLs (k := k) (hL.on (BB.trans (hb.mono BB.size))) rfl (ee _) (ee _) ltk) (dv_ 7 (xv k) (fun a X ee hb => execLdLs (k := k) (hL.on (BB.trans (hb.mono BB.size))) rfl (ee _) ltk) (dc_ 8 ((hrk ▸ rright28 (c k) (ln k) (xv k) X5_0 ((hL.on (BB.trans (bD.mono BB.size))).cell k ltk))) (cb_ fun X5 bQ => ?_))))
        replace bD := bD.trans (bQ.mono bD.size)
        clear bQ
        refine ⟨Or.inr bD, ?_⟩
        refine dv_ 13 (.pointer (some ⟨adB cv, adO cv + k, none⟩)) (fun a X ee hb => execIdxLs (k := k) (hL.on (BB.trans (hb.mono BB.size))) rfl (ee _) (ee _) ltk) (dv_ 14 (xv k) (fun a X ee hb => execLdLs (k := k) (hL.on (BB.trans (hb.mono BB.size))) rfl (ee _) ltk) (dv_ 15 (cutH (xv k) 8) (fun a X ee hb => execCutH (k := 8) (((hL.on (BB.trans (hb.mono BB.size))).cell k ltk)) rfl (ee _) rfl (by omega)) (dv_ 16 (.string (strN (c k) 8)) (fun a X ee hb => execStr rfl (ee _) ((cutH_is (((hL.on (BB.trans (hb.mono BB.size))).cell k ltk)) (by omega)))) (dv_ 19 (.pointer (some ⟨adB cv, adO cv + i, none⟩)) (fun a X ee hb => execIdxLs (k := i) (hL.on (BB.trans (hb.mono BB.size))) rfl (ee _) (ee _) hi) (dv_ 20 (xv i) (fun a X ee hb => execLdLs (k := i) (hL.on (BB.trans (hb.mono BB.size))) rfl (ee _) hi) (dv_ 21 (cutH (xv i) 8) (fun a X ee hb => execCutH (k := 8) (((hL.on (BB.trans (hb.mono BB.size))).cell i hi)) rfl (ee _) rfl (by omega)) (dv_ 22 (.string (strN (c i) 8)) (fun a X ee hb => execStr rfl (ee _) ((cutH_is (((hL.on (BB.trans (hb.mono BB.size))).cell i hi)) (by omega)))) (dw_ 23 (.bool true) (fun a X ee => execDc (execEqSD rfl (ee _) (ee _)) (decide_eq_true hs)) (dz_ [(37, .bool true)] (h4_ t0 t1 t5 t6) ?_)))))))))
        rintro a A ⟨t37, -⟩ ⟨t0, t1, t5, t6, -⟩
        replace FO := (ownD_below FO bD)
        replace BB := BB.trans (bD.mono BB.size)
        clear bD
        refine wp_cond_true t37 ?_
        clear t37
        have en : cnt (otQ ln c i) (k + 1) = cnt (otQ ln c i) k + 1 := by rw [cnt_succ, hot]; rfl
        obtain ⟨f2, hf3, hf4⟩ := ext1 f (cnt (otQ ln c i) k) (k : Int)
        rw [intsL_congr hf4] at FO
        have hf2 : 0 < cnt (otQ ln c i) (k + 1) → f2 0 = ((fst_ (otQ ln c i) (k + 1) : Nat) : Int) := fun _ => fst_yes hot hf hf3 hf4
        obtain ⟨g40, egg40⟩ : ∃ z_ : Nat, X5.heap.size = z_ := ⟨_, rfl⟩
        refine wi_ A (h4_ t0 t1 t5 t6) (rs_ 2 (fun a ee => ?_))
        refine stepV rfl rfl (execBsI (z := f2 (cnt (otQ ln c i) k)) rfl ((ee _).trans (congrArg (Value.int .i64) hf3.symm))) ⟨.slice (some ⟨g40, 0, none⟩) 1 1, ⟨_, rfl, by subst egg40; rfl⟩, fun X6_1 hX => ?_⟩
        have bQ : Below X5.heap.size X5 X6_1 := by subst hX egg40; exact (belNew X5 _)
        have Fg40 : (X6_1.heap[g40]? = some (.cells #[.int .i64 (f2 (cnt (otQ ln c i) k))] 3)) := by subst hX egg40; exact heapNew X5 _
        replace FO := (ownD_below FO bQ)
        replace BB := BB.trans (bQ.mono BB.size)
        clear bQ hX egg40 ee a
        refine rs_ 3 (fun a ee => ?_)
        refine stepAppI (f := f2) rfl rfl rfl (ee _) (ee _) FO Fg40 (by have := cnt_le (p := otQ ln c i) (n := k); omega) (BB).size fun v41 X6 own' gr => ⟨_, ⟨_, rfl, rfl⟩, eqw ?_⟩
        obtain ⟨BB, FO1⟩ : Below V.heap.size V X6 ∧ (X6.ownsRow V.heap.size 3 1 v41 (cnt (otQ ln c i) k + 1) (intsL (cnt (otQ ln c i) k + 1) f2)) := ⟨(BB).grown gr (BB).size (fun k hk => (FO.lt k hk).1), own'⟩
        clear FO Fg40 ee a
        refine rf_ [(5, v41)] (h3_ t0 t1 t6) ?_
        rintro a A ⟨t5, -⟩ ⟨t0, t1, t6, -⟩
        rw [← en] at FO1
        refine wi_ A (h4_ t0 t1 t5 t6) (rv_ 1 (.int .i64 ((k + 1 : Nat) : Int)) (fun a ee => execAd8 (p := k) (q := 1) rfl (ee _) rfl (by omega)) (rf_ [(6, .int .i64 ((k + 1 : Nat) : Int))] (h3_ t0 t1 t5) ?_))
        rintro a A ⟨t6, -⟩ ⟨t0, t1, t5, -⟩
        exact ⟨⟨k + 1, v41, f2, ltk, hf2, A, t0, t1, t5, t6, BB, FO1⟩, by show n - (intOf (a.eval (.tmp 6))).toNat < n - (intOf (Act.eval _ (.tmp 6))).toNat; rw [t6, esk]; show n - (k + 1) < n - k; omega⟩
      · have hot : otQ ln c i k = false := ot_C (fun j hj => (hL.cell k ltk).bytes j (by omega)) (fun j hj => (hL.cell i hi).bytes j (by omega)) hs
        refine wj_ [0, 1, 2, 3, 4, 5, 6, 7, 8, 9, 10, 11, 12, 13, 14, 15, 16, 17, 18, 19, 20, 21, 22, 23, 24] [8] [6, 7, 13, 14, 15, 16, 19, 20, 21, 22] [] A (h4_ t0 t1 t5 t6) (fun X5_0 bD => ?_)
        refine dw_ 2 (.bool true) (fun a X ee => execDec (execNeN (p := k) (q := i) rfl (ee _) (ee _)) (decide_eq_true (by omega))) (dv_ 6 (.pointer (some ⟨adB cv, adO cv + k, none⟩)) (fun a X ee hb => execIdxLs (k := k) (hL.on (BB.trans (hb.mono BB.size))) rfl (ee _) (ee _) ltk) (dv_ 7 (xv k) (fun a X ee hb => execLdLs (k := k) (hL.on (BB.trans (hb.mono BB.size))) rfl (ee _) ltk) (dc_ 8 ((hrk ▸ rright28 (c k) (ln k) (xv k) X5_0 ((hL.on (BB.trans (bD.mono BB.size))).cell k ltk))) (cb_ fun X5 bQ => ?_))))
        replace bD := bD.trans (bQ.mono bD.size)
        clear bQ
        refine ⟨Or.inr bD, ?_⟩
        refine dv_ 13 (.pointer (some ⟨adB cv, adO cv + k, none⟩)) (fun a X ee hb => execIdxLs (k := k) (hL.on (BB.trans (hb.mono BB.size))) rfl (ee _) (ee _) ltk) (dv_ 14 (xv k) (fun a X ee hb => execLdLs (k := k) (hL.on (BB.trans (hb.mono BB.size))) rfl (ee _) ltk) (dv_ 15 (cutH (xv k) 8) (fun a X ee hb => execCutH (k := 8) (((hL.on (BB.trans (hb.mono BB.size))).cell k ltk)) rfl (ee _) rfl (by omega)) (dv_ 16 (.string (strN (c k) 8)) (fun a X ee hb => execStr rfl (ee _) ((cutH_is (((hL.on (BB.trans (hb.mono BB.size))).cell k ltk)) (by omega)))) (dv_ 19 (.pointer (some ⟨adB cv, adO cv + i, none⟩)) (fun a X ee hb => execIdxLs (k := i) (hL.on (BB.trans (hb.mono BB.size))) rfl (ee _) (ee _) hi) (dv_ 20 (xv i) (fun a X ee hb => execLdLs (k := i) (hL.on (BB.trans (hb.mono BB.size))) rfl (ee _) hi) (dv_ 21 (cutH (xv i) 8) (fun a X ee hb => execCutH (k := 8) (((hL.on (BB.trans (hb.mono BB.size))).cell i hi)) rfl (ee _) rfl (by omega)) (dv_ 22 (.string (strN (c i) 8)) (fun a X ee hb => execStr rfl (ee _) ((cutH_is (((hL.on (BB.trans (hb.mono BB.size))).cell i hi)) (by omega)))) (dw_ 23 (.bool false) (fun a X ee => execDc (execEqSD rfl (ee _) (ee _)) (decide_eq_false hs)) (dz_ [(37, .bool false)] (h4_ t0 t1 t5 t6) ?_)))))))))
        rintro a A ⟨t37, -⟩ ⟨t0, t1, t5, t6, -⟩
        replace FO := (ownD_below FO bD)
        replace BB := BB.trans (bD.mono BB.size)
        clear bD
        refine wp_cond_false t37 ?_
        refine wp_skip ?_
        clear t37
        have en : cnt (otQ ln c i) (k + 1) = cnt (otQ ln c i) k := by rw [cnt_succ, hot]; rfl
        have hf2 : 0 < cnt (otQ ln c i) (k + 1) → f 0 = ((fst_ (otQ ln c i) (k + 1) : Nat) : Int) := fun z => by rw [en] at z; rw [hf z, fst_no z]
        rw [← en] at FO
        refine wi_ A (h4_ t0 t1 t5 t6) (rv_ 1 (.int .i64 ((k + 1 : Nat) : Int)) (fun a ee => execAd8 (p := k) (q := 1) rfl (ee _) rfl (by omega)) (rf_ [(6, .int .i64 ((k + 1 : Nat) : Int))] (h3_ t0 t1 t5) ?_))
        rintro a A ⟨t6, -⟩ ⟨t0, t1, t5, -⟩
        exact ⟨⟨k + 1, u, f, ltk, hf2, A, t0, t1, t5, t6, BB, FO⟩, by show n - (intOf (a.eval (.tmp 6))).toNat < n - (intOf (Act.eval _ (.tmp 6))).toNat; rw [t6, esk]; show n - (k + 1) < n - k; omega⟩
  · rw [decide_eq_false ltk] at t10
    refine wp_cond_false t10 ?_
    refine wp_exit ?_
    first | with_reducible refine exit_in ?_ | with_reducible refine exit_then (exit_in ?_) | with_reducible refine exit_then (exit_then (exit_in ?_)) | refine exit_in ?_ | refine exit_then (exit_in ?_) | refine exit_then (exit_then (exit_in ?_))
    clear t10 esk
    obtain rfl : k = n := by omega
    refine wp_seq ?_
    refine wi_ A (h4_ t0 t1 t5 t6) (rg_ [(4, u)] ?_)
    rintro a A ⟨t4, -⟩
    refine wp_ret ?_
    repeat (first | with_reducible refine ret_in ?_ | with_reducible refine ret_then ?_)
    refine bodyPost_ret (results_tmp rfl _ _ _) A.2 ⟨⟨_, f, ?_, FO, hf⟩, BB⟩
    show Ending.returned (a.eval (.tmp 4)) = _
    rw [t4]
end Go.Proofs.Ytcibogmghagpoaa.Dro
