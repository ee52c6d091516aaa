import Derived.Test.YtepdejnholphcaaGreatJ9a
import Derived.Test.YtepdejnholphcaaGreatC9n
namespace Go.Proofs.YtepdejnholphcaaGreat.Win
open Go.RowKit Gf8 Aes By8 Cel Cf
/- The program's Len, spanFits, roomFits, numbersRise, tagsRise. Written by tools/mkJ9c.py. -/

/-- The last number that was met. -/
def lst (nw s : Int) (nu : Nat → Int) : Nat → Int
  | 0 => max (-1) (nw - s)
  | i + 1 => nu i
/-- The numbers are in their bounds and rise. -/
def RsOk (nw s : Int) (n : Nat) (nu : Nat → Int) : Prop := (∀ j, j < n → 0 ≤ nu j ∧ nu j ≤ nw ∧ nw - s < nu j) ∧ ∀ k, k + 1 < n → nu k < nu (k + 1)
theorem lst_lt {nw s : Int} {n : Nat} {nu : Nat → Int} (h : RsOk nw s n nu) {i : Nat} (hi : i < n) : lst nw s nu i < nu i := by
  cases i with
  | zero => have := h.1 0 hi; show max (-1) (nw - s) < nu 0; omega
  | succ k => exact h.2 k hi
theorem lst_all {nw s : Int} {n : Nat} {nu : Nat → Int} (h : ∀ j, j < n → lst nw s nu j < nu j ∧ nu j ≤ nw) : RsOk nw s n nu := by
  have h2 : ∀ k, k + 1 < n → nu k < nu (k + 1) := fun k hk => (h (k + 1) hk).1
  refine ⟨fun j hj => ?_, h2⟩
  have q : ∀ j, j < n → -1 < nu j ∧ nw - s < nu j := fun j => by
    induction j with
    | zero => intro hj; have := (h 0 hj).1; have : max (-1) (nw - s) < nu 0 := this; omega
    | succ k ih => intro hj; have := ih (by omega); have := h2 k hj; omega
  have := q j hj
  have := (h j hj).2
  omega
set_option maxRecDepth 100000 in
set_option maxHeartbeats 4000000 in
/-- The program's Len. -/
theorem plen16 (nw : Int) (ev : Value) (n : Nat) (nu : Nat → Int) (tw : Nat → Value) (ln : Nat → Nat) (t : Nat → Nat → Nat → Nat) (V : World) (hE : Eps V ev n nu tw ln t) (hn : n < 9223372036854775808) :
    Calls Tryz.prog 35 #[.agg (wC nw ev)] V fun e w' => e = .returned (.int .i64 (sW ln n)) ∧ Below V.heap.size V w' := by
  go_enter Tryz.func35, Tryz.ntmps35
  refine wo_ 20 [(0, .agg (wC nw ev))] ?_
  rintro a A ⟨t0, -⟩
  have BW : Below V.heap.size V V := Below.refl _ _
  refine wp_seq ?_
  obtain ⟨g1, egg1⟩ : ∃ z_ : Nat, V.heap.size = z_ := ⟨_, rfl⟩
  refine wi_ A (h1_ t0) (rs_ 0 (fun a ee => ?_))
  refine stepV rfl rfl (execBoxW rfl (ee _)) ⟨.pointer (some ⟨g1, 0, none⟩), ⟨_, rfl, by subst egg1; rfl⟩, fun X0 hX => ?_⟩
  have bQ : Below V.heap.size V X0 := by subst hX egg1; exact (belNew V _)
  have Fg1 : (X0.heap[g1]? = some (.cells (wC nw ev) 27)) := by subst hX egg1; exact heapNew V _
  have bX := bQ
  clear bQ hX egg1 ee a
  refine rg_ [(1, .pointer (some ⟨g1, 0, none⟩))] ?_
  rintro a A ⟨t1, -⟩
  replace hE := (hE.on bX)
  have ZX0 := bX.size
  replace BW := BW.trans (bX.mono BW.size)
  clear bX
  have BB : Below X0.heap.size X0 X0 := Below.refl _ _
  refine wp_seq ?_
  refine wi_ A (h1_ t1) (rf_ [(3, .int .i64 ((0 : Nat) : Int))] (h1_ t1) ?_)
  rintro a A ⟨t3, -⟩ ⟨t1, -⟩
  refine wp_seq ?_
  refine wp_seq ?_
  refine wi_ A (h2_ t1 t3) (rv_ 0 (.pointer (some ⟨g1, 1, none⟩)) (fun a ee => execFldW1 rfl (ee _)) (rv_ 1 (ev) (fun a ee => execLdEs rfl (ee _) (wC_1 (on9 Fg1 BB))) (rv_ 2 (.int .i64 ((n : Nat) : Int)) (fun a ee => execLenEs (len := n) rfl (ee _) hE.shp) (rf_ [(7, ev), (8, .int .i64 ((n : Nat) : Int)), (9, .int .i64 ((0 : Nat) : Int))] (h2_ t1 t3) ?_))))
  rintro a A ⟨t7, t8, t9, -⟩ ⟨t1, t3, -⟩
  refine wp_block ?_
  refine wp_loop (fun a W => ∃ (i : Nat), i ≤ n ∧ (a.tmps.size = 20 ∧ a.defers = []) ∧ a.eval (.tmp 1) = .pointer (some ⟨g1, 0, none⟩) ∧ a.eval (.tmp 3) = .int .i64 (sW ln i) ∧ a.eval (.tmp 7) = ev ∧ a.eval (.tmp 8) = .int .i64 ((n : Nat) : Int) ∧ a.eval (.tmp 9) = .int .i64 ((i : Nat) : Int) ∧ Below X0.heap.size X0 W) (fun a _ => n - (intOf (a.eval (.tmp 9))).toNat) ⟨0, Nat.zero_le _, A, t1, t3, t7, t8, t9, BB⟩ ?_
  clear A t1 t3 t7 t8 t9 BB a
  rintro a XL3 ⟨i, hi, A, t1, t3, t7, t8, t9, BB⟩
  have esi := t9
  refine wp_seq ?_
  refine wi_ A (h5_ t1 t3 t7 t8 t9) (rv_ 0 (.bool (decide (i < n))) (fun a ee => execLtW (p := i) (q := n) rfl (ee _) (ee _)) (rf_ [(10, .bool (decide (i < n)))] (h5_ t1 t3 t7 t8 t9) ?_))
  rintro a A ⟨t10, -⟩ ⟨t1, t3, t7, t8, t9, -⟩
  refine wp_seq ?_
  by_cases lti : i < n
  · rw [decide_eq_true lti] at t10
    refine wp_cond_true t10 ?_
    refine wp_skip ?_
    clear t10
    refine wp_seq ?_
    refine wp_block ?_
    have hT := hE.lists i lti
    obtain ⟨eb, eo, ec, ee_, heb, hec⟩ := hE.at (show 0 < n by omega)
    have cE : ∀ X, Below X0.heap.size X0 X → X.cell? ⟨eb, eo + i * 2 + 1, none⟩ = some (tw i) := fun X hX => by rw [cell_below hX heb]; exact (hec i lti).2
    have cN : ∀ X, Below X0.heap.size X0 X → X.cell? ⟨eb, eo + i * 2 + 0, none⟩ = some (.int .i64 (nu i)) := fun X hX => by rw [cell_below hX heb]; exact (hec i lti).1
    refine wp_seq ?_
    obtain ⟨g5, egg5⟩ : ∃ z_ : Nat, XL3.heap.size = z_ := ⟨_, rfl⟩
    refine wi_ A (h5_ t1 t3 t7 t8 t9) (rv_ 0 (.pointer (some ⟨eb, eo + i * 2, none⟩)) (fun a ee => execIdxEs (k := i) rfl ((ee _).trans ee_) (ee _) lti) (rv_ 1 (.agg (epC (nu i) (tw i))) (fun a ee => execLdEp rfl (ee _) (cN XL3 BB) (cE XL3 BB)) (rs_ 2 (fun a ee => ?_))))
    refine stepV rfl rfl (execAllEp rfl) ⟨.pointer (some ⟨g5, 0, none⟩), ⟨_, rfl, by subst egg5; rfl⟩, fun X4_1 hX => ?_⟩
    have bQ : Below XL3.heap.size XL3 X4_1 := by subst hX egg5; exact (belNew XL3 _)
    have Fg5 : (X4_1.heap[g5]? = some (.cells (epC 0 (.slice none 0 0)) 57)) := by subst hX egg5; exact heapNew XL3 _
    have FGe : (X0.heap.size ≤ g5) := by subst hX egg5; exact (BB).size
    replace BB := BB.trans (bQ.mono BB.size)
    clear bQ hX egg5 ee a
    refine rs_ 3 (fun a ee => ?_)
    refine stepS rfl rfl (execStEp rfl (ee _) (ee _) Fg5 (by obtain ⟨_, _, e_⟩ := hT.shp; rw [e_]; rfl)) ⟨_, ⟨_, rfl, rfl⟩, fun X4 hX => ?_⟩
    obtain ⟨BB, Fe⟩ : Below X0.heap.size X0 X4 ∧ (X4.heap[g5]? = some (.cells (epC (nu i) (tw i)) 57)) := by subst hX; exact ⟨below4 BB FGe _, setRow_heap _ _ _ _ _ _ Fg5⟩
    clear Fg5 hX ee a
    refine rf_ [(5, .pointer (some ⟨g5, 0, none⟩))] (h5_ t1 t3 t7 t8 t9) ?_
    rintro a A ⟨t5, -⟩ ⟨t1, t3, t7, t8, t9, -⟩
    clear FGe
    refine wi_ A (h6_ t1 t3 t7 t8 t9 t5) (rv_ 1 (.pointer (some ⟨g5, 0 + 1, none⟩)) (fun a ee => execFldE1 rfl (ee _)) (rv_ 2 (tw i) (fun a ee => execLdTs rfl (ee _) (epC_1 Fe)) (rv_ 3 (.int .i64 ((ln i : Nat) : Int)) (fun a ee => execLenTs (len := ln i) rfl (ee _) hT.shp) (rv_ 4 (.int .i64 (sW ln (i + 1))) (fun a ee => execAdW rfl (ee _) (ee _)) (rf_ [(3, .int .i64 (sW ln (i + 1)))] (h4_ t1 t7 t8 t9) ?_)))))
    rintro a A ⟨t3, -⟩ ⟨t1, t7, t8, t9, -⟩
    clear Fe
    refine wi_ A (h5_ t1 t3 t7 t8 t9) (rv_ 0 (.int .i64 ((i + 1 : Nat) : Int)) (fun a ee => execAd8 (p := i) (q := 1) rfl (ee _) rfl (by omega)) (rf_ [(9, .int .i64 ((i + 1 : Nat) : Int))] (h4_ t1 t3 t7 t8) ?_))
    rintro a A ⟨t9, -⟩ ⟨t1, t3, t7, t8, -⟩
    exact ⟨⟨i + 1, lti, A, t1, t3, t7, t8, t9, BB⟩, by show n - (intOf (a.eval (.tmp 9))).toNat < n - (intOf (Act.eval _ (.tmp 9))).toNat; rw [t9, esi]; show n - (i + 1) < n - i; omega⟩
  · rw [decide_eq_false lti] at t10
    refine wp_cond_false t10 ?_
    refine wp_exit ?_
    first | with_reducible refine exit_in ?_ | with_reducible refine exit_then (exit_in ?_) | with_reducible refine exit_then (exit_then (exit_in ?_)) | refine exit_in ?_ | refine exit_then (exit_in ?_) | refine exit_then (exit_then (exit_in ?_))
    clear t10 esi
    have ein : i = n := by omega
    rw [ein] at t3
    have BW2 := BW.trans (BB.mono BW.size)
    refine wp_seq ?_
    refine wi_ A (h5_ t1 t3 t7 t8 t9) (rg_ [(2, .int .i64 (sW ln n))] ?_)
    rintro a A ⟨t2, -⟩
    refine wp_ret ?_
    refine bodyPost_ret (results_tmp rfl _ _ _) A.2 ⟨?_, BW2⟩
    show Ending.returned (a.eval (.tmp 2)) = _
    rw [t2]
set_option maxRecDepth 100000 in
set_option maxHeartbeats 4000000 in
/-- Fits or not. -/
theorem pspan_t (s : Int) (V : World) (h : (1 ≤ s ∧ s ≤ 8)) :
    Calls Tryz.prog 31 #[.int .i64 s] V fun e w' => e = .returned (.bool true) ∧ Below V.heap.size V w' := by
  go_enter Tryz.func31, Tryz.ntmps31
  refine wo_ 9 [(0, .int .i64 s)] ?_
  rintro a A ⟨t0, -⟩
  have BW : Below V.heap.size V V := Below.refl _ _
  have BB : Below V.heap.size V V := Below.refl _ _
  refine wp_seq ?_
  refine wi_ A (h1_ t0) (rf_ [] (h1_ t0) ?_)
  rintro a A - ⟨t0, -⟩
  refine wp_seq ?_
  refine wi_ A (h1_ t0) (rv_ 1 (.bool true) (fun a ee => execDec (exIleq3 (p := 1) (q := s) rfl rfl (ee _)) (decide_eq_true h.1)) (rv_ 4 (.bool true) (fun a ee => execDec (exIleq3 (p := s) (q := 8) rfl (ee _) rfl) (decide_eq_true h.2)) (rg_ [(2, .bool true)] ?_)))
  rintro a A ⟨t2, -⟩
  refine wp_ret ?_
  refine bodyPost_ret (results_tmp rfl _ _ _) A.2 ⟨?_, BW.trans (BB.mono BW.size)⟩
  show Ending.returned (a.eval (.tmp 2)) = _
  rw [t2]
set_option maxRecDepth 100000 in
set_option maxHeartbeats 4000000 in
/-- Fits or not. -/
theorem pspan_f (s : Int) (V : World) (h : ¬ (1 ≤ s ∧ s ≤ 8)) :
    Calls Tryz.prog 31 #[.int .i64 s] V fun e w' => e = .returned (.bool false) ∧ Below V.heap.size V w' := by
  go_enter Tryz.func31, Tryz.ntmps31
  refine wo_ 9 [(0, .int .i64 s)] ?_
  rintro a A ⟨t0, -⟩
  have BW : Below V.heap.size V V := Below.refl _ _
  have BB : Below V.heap.size V V := Below.refl _ _
  refine wp_seq ?_
  refine wi_ A (h1_ t0) (rf_ [] (h1_ t0) ?_)
  rintro a A - ⟨t0, -⟩
  refine wp_seq ?_
  by_cases h1 : 1 ≤ s
  · refine wi_ A (h1_ t0) (rv_ 1 (.bool true) (fun a ee => execDec (exIleq3 (p := 1) (q := s) rfl rfl (ee _)) (decide_eq_true h1)) (rv_ 4 (.bool false) (fun a ee => execDec (exIleq3 (p := s) (q := 8) rfl (ee _) rfl) (decide_eq_false fun q => h ⟨h1, q⟩)) (rg_ [(2, .bool false)] ?_)))
    rintro a A ⟨t2, -⟩
    refine wp_ret ?_
    refine bodyPost_ret (results_tmp rfl _ _ _) A.2 ⟨?_, BW.trans (BB.mono BW.size)⟩
    show Ending.returned (a.eval (.tmp 2)) = _
    rw [t2]
  · refine wi_ A (h1_ t0) (rv_ 1 (.bool false) (fun a ee => execDec (exIleq3 (p := 1) (q := s) rfl rfl (ee _)) (decide_eq_false h1)) (rg_ [(2, .bool false)] ?_))
    rintro a A ⟨t2, -⟩
    refine wp_ret ?_
    refine bodyPost_ret (results_tmp rfl _ _ _) A.2 ⟨?_, BW.trans (BB.mono BW.size)⟩
    show Ending.returned (a.eval (.tmp 2)) = _
    rw [t2]
set_option maxRecDepth 100000 in
set_option maxHeartbeats 4000000 in
/-- Fits or not. -/
theorem proom_t (s : Int) (V : World) (h : (0 ≤ s ∧ s ≤ 4096)) :
    Calls Tryz.prog 32 #[.int .i64 s] V fun e w' => e = .returned (.bool true) ∧ Below V.heap.size V w' := by
  go_enter Tryz.func32, Tryz.ntmps32
  refine wo_ 9 [(0, .int .i64 s)] ?_
  rintro a A ⟨t0, -⟩
  have BW : Below V.heap.size V V := Below.refl _ _
  have BB : Below V.heap.size V V := Below.refl _ _
  refine wp_seq ?_
  refine wi_ A (h1_ t0) (rf_ [] (h1_ t0) ?_)
  rintro a A - ⟨t0, -⟩
  refine wp_seq ?_
  refine wi_ A (h1_ t0) (rv_ 1 (.bool true) (fun a ee => execDec (exIleq3 (p := 0) (q := s) rfl rfl (ee _)) (decide_eq_true h.1)) (rv_ 4 (.bool true) (fun a ee => execDec (exIleq3 (p := s) (q := 4096) rfl (ee _) rfl) (decide_eq_true h.2)) (rg_ [(2, .bool true)] ?_)))
  rintro a A ⟨t2, -⟩
  refine wp_ret ?_
  refine bodyPost_ret (results_tmp rfl _ _ _) A.2 ⟨?_, BW.trans (BB.mono BW.size)⟩
  show Ending.returned (a.eval (.tmp 2)) = _
  rw [t2]
set_option maxRecDepth 100000 in
set_option maxHeartbeats 4000000 in
/-- Fits or not. -/
theorem proom_f (s : Int) (V : World) (h : ¬ (0 ≤ s ∧ s ≤ 4096)) :
    Calls Tryz.prog 32 #[.int .i64 s] V fun e w' => e = .returned (.bool false) ∧ Below V.heap.size V w' := by
  go_enter Tryz.func32, Tryz.ntmps32
  refine wo_ 9 [(0, .int .i64 s)] ?_
  rintro a A ⟨t0, -⟩
  have BW : Below V.heap.size V V := Below.refl _ _
  have BB : Below V.heap.size V V := Below.refl _ _
  refine wp_seq ?_
  refine wi_ A (h1_ t0) (rf_ [] (h1_ t0) ?_)
  rintro a A - ⟨t0, -⟩
  refine wp_seq ?_
  by_cases h1 : 0 ≤ s
  · refine wi_ A (h1_ t0) (rv_ 1 (.bool true) (fun a ee => execDec (exIleq3 (p := 0) (q := s) rfl rfl (ee _)) (decide_eq_true h1)) (rv_ 4 (.bool false) (fun a ee => execDec (exIleq3 (p := s) (q := 4096) rfl (ee _) rfl) (decide_eq_false fun q => h ⟨h1, q⟩)) (rg_ [(2, .bool false)] ?_)))
    rintro a A ⟨t2, -⟩
    refine wp_ret ?_
    refine bodyPost_ret (results_tmp rfl _ _ _) A.2 ⟨?_, BW.trans (BB.mono BW.size)⟩
    show Ending.returned (a.eval (.tmp 2)) = _
    rw [t2]
  · refine wi_ A (h1_ t0) (rv_ 1 (.bool false) (fun a ee => execDec (exIleq3 (p := 0) (q := s) rfl rfl (ee _)) (decide_eq_false h1)) (rg_ [(2, .bool false)] ?_))
    rintro a A ⟨t2, -⟩
    refine wp_ret ?_
    refine bodyPost_ret (results_tmp rfl _ _ _) A.2 ⟨?_, BW.trans (BB.mono BW.size)⟩
    show Ending.returned (a.eval (.tmp 2)) = _
    rw [t2]
set_option maxRecDepth 100000 in
set_option maxHeartbeats 4000000 in
/-- The program's numbersRise. -/
theorem prise_t (nw s : Int) (ev : Value) (n : Nat) (nu : Nat → Int) (tw : Nat → Value) (ln : Nat → Nat) (t : Nat → Nat → Nat → Nat) (V : World) (hE : Eps V ev n nu tw ln t) (hn : n < 9223372036854775808) (h0 : 0 ≤ nw ∧ nw ≤ 4611686018427387904) (h8 : 1 ≤ s ∧ s ≤ 8) (hR : RsOk nw s n nu) :
    Calls Tryz.prog 34 #[.agg (wC nw ev), .int .i64 s] V fun e w' => e = .returned (.bool true) ∧ Below V.heap.size V w' := by
  go_enter Tryz.func34, Tryz.ntmps34
  refine wo_ 34 [(0, .agg (wC nw ev)), (1, .int .i64 s)] ?_
  rintro a A ⟨t0, t1, -⟩
  have BW : Below V.heap.size V V := Below.refl _ _
  refine wp_seq ?_
  obtain ⟨g2, egg2⟩ : ∃ z_ : Nat, V.heap.size = z_ := ⟨_, rfl⟩
  refine wi_ A (h2_ t0 t1) (rs_ 0 (fun a ee => ?_))
  refine stepV rfl rfl (execBoxW rfl (ee _)) ⟨.pointer (some ⟨g2, 0, none⟩), ⟨_, rfl, by subst egg2; rfl⟩, fun X0 hX => ?_⟩
  have bQ : Below V.heap.size V X0 := by subst hX egg2; exact (belNew V _)
  have Fg2 : (X0.heap[g2]? = some (.cells (wC nw ev) 27)) := by subst hX egg2; exact heapNew V _
  have bX := bQ
  clear bQ hX egg2 ee a
  refine rf_ [(2, .pointer (some ⟨g2, 0, none⟩))] (h1_ t1) ?_
  rintro a A ⟨t2, -⟩ ⟨t1, -⟩
  replace hE := (hE.on bX)
  have ZX0 := bX.size
  replace BW := BW.trans (bX.mono BW.size)
  clear bX
  have BB : Below X0.heap.size X0 X0 := Below.refl _ _
  refine wp_seq ?_
  refine wi_ A (h2_ t1 t2) (rv_ 0 (.pointer (some ⟨g2, 0, none⟩)) (fun a ee => execFldW0 rfl (ee _)) (rv_ 1 (.int .i64 nw) (fun a ee => execLd2 rfl (ee _) (wC_0 (on9 Fg2 BB))) (rv_ 3 (.int .i64 (nw - s)) (fun a ee => execSub2 (z := nw - s) rfl (ee _) (ee _) rfl (by omega) (by omega)) (rv_ 4 (.int .i64 (max (-1) (nw - s))) (fun a ee => execMax2 (p := -1) (q := (nw - s)) rfl rfl (ee _)) (rf_ [(5, .int .i64 (max (-1) (nw - s)))] (h1_ t2) ?_)))))
  rintro a A ⟨t5, -⟩ ⟨t2, -⟩
  refine wp_seq ?_
  refine wp_seq ?_
  refine wi_ A (h2_ t2 t5) (rv_ 0 (.pointer (some ⟨g2, 1, none⟩)) (fun a ee => execFldW1 rfl (ee _)) (rv_ 1 (ev) (fun a ee => execLdEs rfl (ee _) (wC_1 (on9 Fg2 BB))) (rv_ 2 (.int .i64 ((n : Nat) : Int)) (fun a ee => execLenEs (len := n) rfl (ee _) hE.shp) (rf_ [(14, ev), (15, .int .i64 ((n : Nat) : Int)), (16, .int .i64 ((0 : Nat) : Int))] (h2_ t2 t5) ?_))))
  rintro a A ⟨t14, t15, t16, -⟩ ⟨t2, t5, -⟩
  refine wp_block ?_
  refine wp_loop (fun a W => ∃ (i : Nat), i ≤ n ∧ (a.tmps.size = 34 ∧ a.defers = []) ∧ a.eval (.tmp 2) = .pointer (some ⟨g2, 0, none⟩) ∧ a.eval (.tmp 5) = .int .i64 (lst nw s nu i) ∧ a.eval (.tmp 14) = ev ∧ a.eval (.tmp 15) = .int .i64 ((n : Nat) : Int) ∧ a.eval (.tmp 16) = .int .i64 ((i : Nat) : Int) ∧ Below X0.heap.size X0 W) (fun a _ => n - (intOf (a.eval (.tmp 16))).toNat) ⟨0, Nat.zero_le _, A, t2, t5, t14, t15, t16, BB⟩ ?_
  clear A t2 t5 t14 t15 t16 BB a
  rintro a XL3 ⟨i, hi, A, t2, t5, t14, t15, t16, BB⟩
  have esi := t16
  refine wp_seq ?_
  refine wi_ A (h5_ t2 t5 t14 t15 t16) (rv_ 0 (.bool (decide (i < n))) (fun a ee => execLtW (p := i) (q := n) rfl (ee _) (ee _)) (rf_ [(17, .bool (decide (i < n)))] (h5_ t2 t5 t14 t15 t16) ?_))
  rintro a A ⟨t17, -⟩ ⟨t2, t5, t14, t15, t16, -⟩
  refine wp_seq ?_
  by_cases lti : i < n
  · rw [decide_eq_true lti] at t17
    refine wp_cond_true t17 ?_
    refine wp_skip ?_
    clear t17
    refine wp_seq ?_
    refine wp_block ?_
    have hT := hE.lists i lti
    obtain ⟨eb, eo, ec, ee_, heb, hec⟩ := hE.at (show 0 < n by omega)
    have cE : ∀ X, Below X0.heap.size X0 X → X.cell? ⟨eb, eo + i * 2 + 1, none⟩ = some (tw i) := fun X hX => by rw [cell_below hX heb]; exact (hec i lti).2
    have cN : ∀ X, Below X0.heap.size X0 X → X.cell? ⟨eb, eo + i * 2 + 0, none⟩ = some (.int .i64 (nu i)) := fun X hX => by rw [cell_below hX heb]; exact (hec i lti).1
    refine wp_seq ?_
    obtain ⟨g7, egg7⟩ : ∃ z_ : Nat, XL3.heap.size = z_ := ⟨_, rfl⟩
    refine wi_ A (h5_ t2 t5 t14 t15 t16) (rv_ 0 (.pointer (some ⟨eb, eo + i * 2, none⟩)) (fun a ee => execIdxEs (k := i) rfl ((ee _).trans ee_) (ee _) lti) (rv_ 1 (.agg (epC (nu i) (tw i))) (fun a ee => execLdEp rfl (ee _) (cN XL3 BB) (cE XL3 BB)) (rs_ 2 (fun a ee => ?_))))
    refine stepV rfl rfl (execAllEp rfl) ⟨.pointer (some ⟨g7, 0, none⟩), ⟨_, rfl, by subst egg7; rfl⟩, fun X4_1 hX => ?_⟩
    have bQ : Below XL3.heap.size XL3 X4_1 := by subst hX egg7; exact (belNew XL3 _)
    have Fg7 : (X4_1.heap[g7]? = some (.cells (epC 0 (.slice none 0 0)) 57)) := by subst hX egg7; exact heapNew XL3 _
    have FGe : (X0.heap.size ≤ g7) := by subst hX egg7; exact (BB).size
    replace BB := BB.trans (bQ.mono BB.size)
    clear bQ hX egg7 ee a
    refine rs_ 3 (fun a ee => ?_)
    refine stepS rfl rfl (execStEp rfl (ee _) (ee _) Fg7 (by obtain ⟨_, _, e_⟩ := hT.shp; rw [e_]; rfl)) ⟨_, ⟨_, rfl, rfl⟩, fun X4 hX => ?_⟩
    obtain ⟨BB, Fe⟩ : Below X0.heap.size X0 X4 ∧ (X4.heap[g7]? = some (.cells (epC (nu i) (tw i)) 57)) := by subst hX; exact ⟨below4 BB FGe _, setRow_heap _ _ _ _ _ _ Fg7⟩
    clear Fg7 hX ee a
    refine rf_ [(7, .pointer (some ⟨g7, 0, none⟩))] (h5_ t2 t5 t14 t15 t16) ?_
    rintro a A ⟨t7, -⟩ ⟨t2, t5, t14, t15, t16, -⟩
    clear FGe
    refine wp_seq ?_
    refine wp_seq ?_
    have d1 : ¬ nu i ≤ lst nw s nu i := by have := lst_lt hR lti; omega
    have d2 : ¬ nu i > nw := by have := (hR.1 i lti).2.1; omega
    refine wi_ A (h6_ t2 t5 t14 t15 t16 t7) (rv_ 0 (.pointer (some ⟨g7, 0 + 0, none⟩)) (fun a ee => execFldE0 rfl (ee _)) (rv_ 1 (.int .i64 (nu i)) (fun a ee => execLd2 rfl (ee _) (epC_0 Fe)) (rv_ 3 (.bool false) (fun a ee => execDec (exIleq2 (p := (nu i)) (q := (lst nw s nu i)) rfl (ee _) (ee _)) (decide_eq_false d1)) (rv_ 5 (.pointer (some ⟨g7, 0 + 0, none⟩)) (fun a ee => execFldE0 rfl (ee _)) (rv_ 6 (.int .i64 (nu i)) (fun a ee => execLd2 rfl (ee _) (epC_0 Fe)) (rv_ 7 (.pointer (some ⟨g2, 0, none⟩)) (fun a ee => execFldW0 rfl (ee _)) (rv_ 8 (.int .i64 nw) (fun a ee => execLd2 rfl (ee _) (wC_0 (on9 Fg2 BB))) (rv_ 9 (.bool false) (fun a ee => execDec (exIgtr2 (p := (nu i)) (q := nw) rfl (ee _) (ee _)) (decide_eq_false d2)) (rf_ [(30, .bool false)] (h6_ t2 t5 t14 t15 t16 t7) ?_)))))))))
    rintro a A ⟨t30, -⟩ ⟨t2, t5, t14, t15, t16, t7, -⟩
    refine wp_cond_false t30 ?_
    refine wp_skip ?_
    clear t30
    refine wi_ A (h6_ t2 t5 t14 t15 t16 t7) (rv_ 0 (.pointer (some ⟨g7, 0 + 0, none⟩)) (fun a ee => execFldE0 rfl (ee _)) (rv_ 1 (.int .i64 (nu i)) (fun a ee => execLd2 rfl (ee _) (epC_0 Fe)) (rf_ [(5, .int .i64 (nu i))] (h4_ t2 t14 t15 t16) ?_)))
    rintro a A ⟨t5, -⟩ ⟨t2, t14, t15, t16, -⟩
    clear Fe
    refine wi_ A (h5_ t2 t5 t14 t15 t16) (rv_ 0 (.int .i64 ((i + 1 : Nat) : Int)) (fun a ee => execAd8 (p := i) (q := 1) rfl (ee _) rfl (by omega)) (rf_ [(16, .int .i64 ((i + 1 : Nat) : Int))] (h4_ t2 t5 t14 t15) ?_))
    rintro a A ⟨t16, -⟩ ⟨t2, t5, t14, t15, -⟩
    exact ⟨⟨i + 1, lti, A, t2, t5, t14, t15, t16, BB⟩, by show n - (intOf (a.eval (.tmp 16))).toNat < n - (intOf (Act.eval _ (.tmp 16))).toNat; rw [t16, esi]; show n - (i + 1) < n - i; omega⟩
  · rw [decide_eq_false lti] at t17
    refine wp_cond_false t17 ?_
    refine wp_exit ?_
    first | with_reducible refine exit_in ?_ | with_reducible refine exit_then (exit_in ?_) | with_reducible refine exit_then (exit_then (exit_in ?_)) | refine exit_in ?_ | refine exit_then (exit_in ?_) | refine exit_then (exit_then (exit_in ?_))
    clear t17 esi
    have ein : i = n := by omega
    have BW2 := BW.trans (BB.mono BW.size)
    refine wp_seq ?_
    refine wi_ A (h5_ t2 t5 t14 t15 t16) (rg_ [(4, .bool true)] ?_)
    rintro a A ⟨t4, -⟩
    refine wp_ret ?_
    refine bodyPost_ret (results_tmp rfl _ _ _) A.2 ⟨?_, BW2⟩
    show Ending.returned (a.eval (.tmp 4)) = _
    rw [t4]
set_option maxRecDepth 100000 in
set_option maxHeartbeats 4000000 in
/-- The program's numbersRise. -/
theorem prise_f (nw s : Int) (ev : Value) (n : Nat) (nu : Nat → Int) (tw : Nat → Value) (ln : Nat → Nat) (t : Nat → Nat → Nat → Nat) (V : World) (hE : Eps V ev n nu tw ln t) (hn : n < 9223372036854775808) (h0 : 0 ≤ nw ∧ nw ≤ 4611686018427387904) (h8 : 1 ≤ s ∧ s ≤ 8) (hR : ¬ RsOk nw s n nu) :
    Calls Tryz.prog 34 #[.agg (wC nw ev), .int .i64 s] V fun e w' => e = .returned (.bool false) ∧ Below V.heap.size V w' := by
  go_enter Tryz.func34, Tryz.ntmps34
  refine wo_ 34 [(0, .agg (wC nw ev)), (1, .int .i64 s)] ?_
  rintro a A ⟨t0, t1, -⟩
  have BW : Below V.heap.size V V := Below.refl _ _
  refine wp_seq ?_
  obtain ⟨g2, egg2⟩ : ∃ z_ : Nat, V.heap.size = z_ := ⟨_, rfl⟩
  refine wi_ A (h2_ t0 t1) (rs_ 0 (fun a ee => ?_))
  refine stepV rfl rfl (execBoxW rfl (ee _)) ⟨.pointer (some ⟨g2, 0, none⟩), ⟨_, rfl, by subst egg2; rfl⟩, fun X0 hX => ?_⟩
  have bQ : Below V.heap.size V X0 := by subst hX egg2; exact (belNew V _)
  have Fg2 : (X0.heap[g2]? = some (.cells (wC nw ev) 27)) := by subst hX egg2; exact heapNew V _
  have bX := bQ
  clear bQ hX egg2 ee a
  refine rf_ [(2, .pointer (some ⟨g2, 0, none⟩))] (h1_ t1) ?_
  rintro a A ⟨t2, -⟩ ⟨t1, -⟩
  replace hE := (hE.on bX)
  have ZX0 := bX.size
  replace BW := BW.trans (bX.mono BW.size)
  clear bX
  have BB : Below X0.heap.size X0 X0 := Below.refl _ _
  refine wp_seq ?_
  refine wi_ A (h2_ t1 t2) (rv_ 0 (.pointer (some ⟨g2, 0, none⟩)) (fun a ee => execFldW0 rfl (ee _)) (rv_ 1 (.int .i64 nw) (fun a ee => execLd2 rfl (ee _) (wC_0 (on9 Fg2 BB))) (rv_ 3 (.int .i64 (nw - s)) (fun a ee => execSub2 (z := nw - s) rfl (ee _) (ee _) rfl (by omega) (by omega)) (rv_ 4 (.int .i64 (max (-1) (nw - s))) (fun a ee => execMax2 (p := -1) (q := (nw - s)) rfl rfl (ee _)) (rf_ [(5, .int .i64 (max (-1) (nw - s)))] (h1_ t2) ?_)))))
  rintro a A ⟨t5, -⟩ ⟨t2, -⟩
  refine wp_seq ?_
  refine wp_seq ?_
  refine wi_ A (h2_ t2 t5) (rv_ 0 (.pointer (some ⟨g2, 1, none⟩)) (fun a ee => execFldW1 rfl (ee _)) (rv_ 1 (ev) (fun a ee => execLdEs rfl (ee _) (wC_1 (on9 Fg2 BB))) (rv_ 2 (.int .i64 ((n : Nat) : Int)) (fun a ee => execLenEs (len := n) rfl (ee _) hE.shp) (rf_ [(14, ev), (15, .int .i64 ((n : Nat) : Int)), (16, .int .i64 ((0 : Nat) : Int))] (h2_ t2 t5) ?_))))
  rintro a A ⟨t14, t15, t16, -⟩ ⟨t2, t5, -⟩
  refine wp_block ?_
  refine wp_loop (fun a W => ∃ (i : Nat), i ≤ n ∧ (∀ j, j < i → lst nw s nu j < nu j ∧ nu j ≤ nw) ∧ (a.tmps.size = 34 ∧ a.defers = []) ∧ a.eval (.tmp 2) = .pointer (some ⟨g2, 0, none⟩) ∧ a.eval (.tmp 5) = .int .i64 (lst nw s nu i) ∧ a.eval (.tmp 14) = ev ∧ a.eval (.tmp 15) = .int .i64 ((n : Nat) : Int) ∧ a.eval (.tmp 16) = .int .i64 ((i : Nat) : Int) ∧ Below X0.heap.size X0 W) (fun a _ => n - (intOf (a.eval (.tmp 16))).toNat) ⟨0, Nat.zero_le _, fun j h => absurd h (Nat.not_lt_zero j), A, t2, t5, t14, t15, t16, BB⟩ ?_
  clear A t2 t5 t14 t15 t16 BB a
  rintro a XL3 ⟨i, hi, hok, A, t2, t5, t14, t15, t16, BB⟩
  have esi := t16
  refine wp_seq ?_
  refine wi_ A (h5_ t2 t5 t14 t15 t16) (rv_ 0 (.bool (decide (i < n))) (fun a ee => execLtW (p := i) (q := n) rfl (ee _) (ee _)) (rf_ [(17, .bool (decide (i < n)))] (h5_ t2 t5 t14 t15 t16) ?_))
  rintro a A ⟨t17, -⟩ ⟨t2, t5, t14, t15, t16, -⟩
  refine wp_seq ?_
  by_cases lti : i < n
  · rw [decide_eq_true lti] at t17
    refine wp_cond_true t17 ?_
    refine wp_skip ?_
    clear t17
    refine wp_seq ?_
    refine wp_block ?_
    have hT := hE.lists i lti
    obtain ⟨eb, eo, ec, ee_, heb, hec⟩ := hE.at (show 0 < n by omega)
    have cE : ∀ X, Below X0.heap.size X0 X → X.cell? ⟨eb, eo + i * 2 + 1, none⟩ = some (tw i) := fun X hX => by rw [cell_below hX heb]; exact (hec i lti).2
    have cN : ∀ X, Below X0.heap.size X0 X → X.cell? ⟨eb, eo + i * 2 + 0, none⟩ = some (.int .i64 (nu i)) := fun X hX => by rw [cell_below hX heb]; exact (hec i lti).1
    refine wp_seq ?_
    obtain ⟨g7, egg7⟩ : ∃ z_ : Nat, XL3.heap.size = z_ := ⟨_, rfl⟩
    refine wi_ A (h5_ t2 t5 t14 t15 t16) (rv_ 0 (.pointer (some ⟨eb, eo + i * 2, none⟩)) (fun a ee => execIdxEs (k := i) rfl ((ee _).trans ee_) (ee _) lti) (rv_ 1 (.agg (epC (nu i) (tw i))) (fun a ee => execLdEp rfl (ee _) (cN XL3 BB) (cE XL3 BB)) (rs_ 2 (fun a ee => ?_))))
    refine stepV rfl rfl (execAllEp rfl) ⟨.pointer (some ⟨g7, 0, none⟩), ⟨_, rfl, by subst egg7; rfl⟩, fun X4_1 hX => ?_⟩
    have bQ : Below XL3.heap.size XL3 X4_1 := by subst hX egg7; exact (belNew XL3 _)
    have Fg7 : (X4_1.heap[g7]? = some (.cells (epC 0 (.slice none 0 0)) 57)) := by subst hX egg7; exact heapNew XL3 _
    have FGe : (X0.heap.size ≤ g7) := by subst hX egg7; exact (BB).size
    replace BB := BB.trans (bQ.mono BB.size)
    clear bQ hX egg7 ee a
    refine rs_ 3 (fun a ee => ?_)
    refine stepS rfl rfl (execStEp rfl (ee _) (ee _) Fg7 (by obtain ⟨_, _, e_⟩ := hT.shp; rw [e_]; rfl)) ⟨_, ⟨_, rfl, rfl⟩, fun X4 hX => ?_⟩
    obtain ⟨BB, Fe⟩ : Below X0.heap.size X0 X4 ∧ (X4.heap[g7]? = some (.cells (epC (nu i) (tw i)) 57)) := by subst hX; exact ⟨below4 BB FGe _, setRow_heap _ _ _ _ _ _ Fg7⟩
    clear Fg7 hX ee a
    refine rf_ [(7, .pointer (some ⟨g7, 0, none⟩))] (h5_ t2 t5 t14 t15 t16) ?_
    rintro a A ⟨t7, -⟩ ⟨t2, t5, t14, t15, t16, -⟩
    clear FGe
    refine wp_seq ?_
    refine wp_seq ?_
    by_cases d1 : nu i ≤ lst nw s nu i
    · refine wi_ A (h6_ t2 t5 t14 t15 t16 t7) (rv_ 0 (.pointer (some ⟨g7, 0 + 0, none⟩)) (fun a ee => execFldE0 rfl (ee _)) (rv_ 1 (.int .i64 (nu i)) (fun a ee => execLd2 rfl (ee _) (epC_0 Fe)) (rv_ 3 (.bool true) (fun a ee => execDec (exIleq2 (p := (nu i)) (q := (lst nw s nu i)) rfl (ee _) (ee _)) (decide_eq_true d1)) (rf_ [(30, .bool true)] (h6_ t2 t5 t14 t15 t16 t7) ?_))))
      rintro a A ⟨t30, -⟩ ⟨t2, t5, t14, t15, t16, t7, -⟩
      refine wp_cond_true t30 ?_
      clear t30
      refine wp_seq ?_
      refine wi_ A (h6_ t2 t5 t14 t15 t16 t7) (rg_ [(4, .bool false)] ?_)
      rintro a A ⟨t4, -⟩
      have BW2 := BW.trans (BB.mono BW.size)
      refine wp_ret ?_
      repeat (first | with_reducible refine ret_in ?_ | with_reducible refine ret_then ?_)
      refine bodyPost_ret (results_tmp rfl _ _ _) A.2 ⟨?_, BW2⟩
      show Ending.returned (a.eval (.tmp 4)) = _
      rw [t4]
    by_cases d2 : nu i > nw
    · refine wi_ A (h6_ t2 t5 t14 t15 t16 t7) (rv_ 0 (.pointer (some ⟨g7, 0 + 0, none⟩)) (fun a ee => execFldE0 rfl (ee _)) (rv_ 1 (.int .i64 (nu i)) (fun a ee => execLd2 rfl (ee _) (epC_0 Fe)) (rv_ 3 (.bool false) (fun a ee => execDec (exIleq2 (p := (nu i)) (q := (lst nw s nu i)) rfl (ee _) (ee _)) (decide_eq_false d1)) (rv_ 5 (.pointer (some ⟨g7, 0 + 0, none⟩)) (fun a ee => execFldE0 rfl (ee _)) (rv_ 6 (.int .i64 (nu i)) (fun a ee => execLd2 rfl (ee _) (epC_0 Fe)) (rv_ 7 (.pointer (some ⟨g2, 0, none⟩)) (fun a ee => execFldW0 rfl (ee _)) (rv_ 8 (.int .i64 nw) (fun a ee => execLd2 rfl (ee _) (wC_0 (on9 Fg2 BB))) (rv_ 9 (.bool true) (fun a ee => execDec (exIgtr2 (p := (nu i)) (q := nw) rfl (ee _) (ee _)) (decide_eq_true d2)) (rf_ [(30, .bool true)] (h6_ t2 t5 t14 t15 t16 t7) ?_)))))))))
      rintro a A ⟨t30, -⟩ ⟨t2, t5, t14, t15, t16, t7, -⟩
      refine wp_cond_true t30 ?_
      clear t30
      refine wp_seq ?_
      refine wi_ A (h6_ t2 t5 t14 t15 t16 t7) (rg_ [(4, .bool false)] ?_)
      rintro a A ⟨t4, -⟩
      have BW2 := BW.trans (BB.mono BW.size)
      refine wp_ret ?_
      repeat (first | with_reducible refine ret_in ?_ | with_reducible refine ret_then ?_)
      refine bodyPost_ret (results_tmp rfl _ _ _) A.2 ⟨?_, BW2⟩
      show Ending.returned (a.eval (.tmp 4)) = _
      rw [t4]
    refine wi_ A (h6_ t2 t5 t14 t15 t16 t7) (rv_ 0 (.pointer (some ⟨g7, 0 + 0, none⟩)) (fun a ee => execFldE0 rfl (ee _)) (rv_ 1 (.int .i64 (nu i)) (fun a ee => execLd2 rfl (ee _) (epC_0 Fe)) (rv_ 3 (.bool false) (fun a ee => execDec (exIleq2 (p := (nu i)) (q := (lst nw s nu i)) rfl (ee _) (ee _)) (decide_eq_false d1)) (rv_ 5 (.pointer (some ⟨g7, 0 + 0, none⟩)) (fun a ee => execFldE0 rfl (ee _)) (rv_ 6 (.int .i64 (nu i)) (fun a ee => execLd2 rfl (ee _) (epC_0 Fe)) (rv_ 7 (.pointer (some ⟨g2, 0, none⟩)) (fun a ee => execFldW0 rfl (ee _)) (rv_ 8 (.int .i64 nw) (fun a ee => execLd2 rfl (ee _) (wC_0 (on9 Fg2 BB))) (rv_ 9 (.bool false) (fun a ee => execDec (exIgtr2 (p := (nu i)) (q := nw) rfl (ee _) (ee _)) (decide_eq_false d2)) (rf_ [(30, .bool false)] (h6_ t2 t5 t14 t15 t16 t7) ?_)))))))))
    rintro a A ⟨t30, -⟩ ⟨t2, t5, t14, t15, t16, t7, -⟩
    refine wp_cond_false t30 ?_
    refine wp_skip ?_
    clear t30
    refine wi_ A (h6_ t2 t5 t14 t15 t16 t7) (rv_ 0 (.pointer (some ⟨g7, 0 + 0, none⟩)) (fun a ee => execFldE0 rfl (ee _)) (rv_ 1 (.int .i64 (nu i)) (fun a ee => execLd2 rfl (ee _) (epC_0 Fe)) (rf_ [(5, .int .i64 (nu i))] (h4_ t2 t14 t15 t16) ?_)))
    rintro a A ⟨t5, -⟩ ⟨t2, t14, t15, t16, -⟩
    clear Fe
    refine wi_ A (h5_ t2 t5 t14 t15 t16) (rv_ 0 (.int .i64 ((i + 1 : Nat) : Int)) (fun a ee => execAd8 (p := i) (q := 1) rfl (ee _) rfl (by omega)) (rf_ [(16, .int .i64 ((i + 1 : Nat) : Int))] (h4_ t2 t5 t14 t15) ?_))
    rintro a A ⟨t16, -⟩ ⟨t2, t5, t14, t15, -⟩
    exact ⟨⟨i + 1, lti, fun j h => by rcases Nat.lt_or_eq_of_le (Nat.le_of_lt_succ h) with h_ | h_; exact hok j h_; subst h_; exact ⟨by omega, by omega⟩, A, t2, t5, t14, t15, t16, BB⟩, by show n - (intOf (a.eval (.tmp 16))).toNat < n - (intOf (Act.eval _ (.tmp 16))).toNat; rw [t16, esi]; show n - (i + 1) < n - i; omega⟩
  · rw [decide_eq_false lti] at t17
    refine wp_cond_false t17 ?_
    refine wp_exit ?_
    first | with_reducible refine exit_in ?_ | with_reducible refine exit_then (exit_in ?_) | with_reducible refine exit_then (exit_then (exit_in ?_)) | refine exit_in ?_ | refine exit_then (exit_in ?_) | refine exit_then (exit_then (exit_in ?_))
    clear t17 esi
    have ein : i = n := by omega
    have BW2 := BW.trans (BB.mono BW.size)
    rw [ein] at hok
    exact absurd (lst_all hok) hR
end Go.Proofs.YtepdejnholphcaaGreat.Win
