import Derived.Test.YtcibogmghagpoaaV8e
namespace Go.Proofs.Ytcibogmghagpoaa.Dro
open Go.RowKit Gf8 Aes By8 Cel Cf Tap Drw
/- Stage 28: alike, great, what a package of drops keeps, awake. Written by tools/mkV8f.py. -/

theorem An.ls {B n : Nat} {W : World} {v : Value} {y : Nat → Value} {ln : Nat → Nat} {f : Nat → Nat → Nat} (h : An B W v n y ln f) (hl : ∀ t, t < n → ln t ≤ 140737488351232) : Ls W v n y ln f := by
  refine ⟨?_, fun i hi => own_slice (h.fam.rows i hi) (h.byt i hi), fun i hi => own_nilI (h.fam.rows i hi), hl⟩
  rcases h.own.2 with ⟨rfl, e⟩ | ⟨g, cap, cur, rfl, h1, h2, h3, h4, h5, h6⟩
  · refine ⟨none, 0, ?_, ?_, by omega, fun q => ?_⟩
    · cases n with
      | zero => rfl
      | succ n => simp at e
    · cases n with
      | zero => exact Nat.le_refl _
      | succ n => simp at e
    · cases n with
      | zero => omega
      | succ n => simp at e
  · have hc := h.own.cells (g := g) rfl
    refine ⟨_, cap, rfl, h3, by unfold maxLen at h4; omega, fun _ => ⟨g, 0, rfl, (Array.getElem?_eq_some_iff.1 h2).1, fun i hi => ?_⟩⟩
    have := hc i (y i) (lL_get y n i hi)
    rw [Go.WideShapes.add_plain] at this
    exact this
theorem An.on {B n : Nat} {W W' : World} {v : Value} {y : Nat → Value} {ln : Nat → Nat} {f : Nat → Nat → Nat} (h : An B W v n y ln f) (hb : Below W.heap.size W W') : An B W' v n y ln f := ⟨ownD_below h.own hb, h.fam.on hb, h.byt⟩
/-- What the program's package keeps. -/
structure Impl : Prop where
  request : ∀ (nm f : Nat → Nat) (m : Nat) (v : Value) (V : World), (∀ j, j < 8 → nm j < 256) → SliceN V v m f → (∀ l c, v = .slice none l c → c = 0) → m ≤ 140737488351232 →
    Calls Try.prog 12 #[.agg (bA 8 nm), v] V fun e w' => (∃ r, e = .returned (.tuple #[r, .int .i64 ((rqE m : Nat) : Int)]) ∧ w'.ownsRow V.heap.size 5 1 r (rqN m) (bytesL (rqN m) (rqF nm f))) ∧ Below V.heap.size V w'
  answer : ∀ (f : Nat → Nat) (m : Nat) (v : Value) (V : World), SliceN V v m f → (∀ l c, v = .slice none l c → c = 0) → m ≤ 140737488351232 →
    Calls Try.prog 13 #[v] V fun e w' => (∃ r, e = .returned (.tuple #[.int .i64 ((anH m f : Nat) : Int), r, .int .i64 ((anE m f : Nat) : Int)]) ∧ w'.ownsRow V.heap.size 5 1 r (anN m f) (bytesL (anN m f) (anF f))) ∧ Below V.heap.size V w'
  exchange : ∀ (n : Nat) (cv : Value) (xv : Nat → Value) (ln : Nat → Nat) (c : Nat → Nat → Nat) (V : World), Ls V cv n xv ln c → n ≤ 5000 → (∀ i, i < n → ln i ≤ 2097152) →
    Calls Try.prog 20 #[cv] V fun e w' => (∃ r y, e = .returned r ∧ An V.heap.size w' r n y (xL n ln c) (xF n ln c)) ∧ Below V.heap.size V w'
/-- awake's requests. -/
def aws : List (List Nat) := [[114, 111, 111, 109, 48, 48, 48, 49, 104, 105], [114, 111, 111, 109, 48, 48, 48, 50], [114, 111, 111, 109, 48, 48, 48, 49, 104, 111]]
def awC (i j : Nat) : Nat := (aws.getD i []).getD j 0
def awL (i : Nat) : Nat := if i = 1 then 8 else 10
def awV (g2 g4 g6 i : Nat) : Value := if i = 0 then .slice (some ⟨g2, 0, none⟩) 10 10 else if i = 1 then .slice (some ⟨g4, 0, none⟩) 8 8 else .slice (some ⟨g6, 0, none⟩) 10 10
def aL (k : Nat) : Array Value := bA (awL k) (awC k)
section
variable {W : World} {o : Oper} {a : Act} {x y z : Operand}
theorem execBsA0 (ho : o.op = .buildSlice 23 10 #[(0, .const (.int .u8 114)), (1, .const (.int .u8 111)), (2, .const (.int .u8 111)), (3, .const (.int .u8 109)), (4, .const (.int .u8 48)), (5, .const (.int .u8 48)), (6, .const (.int .u8 48)), (7, .const (.int .u8 49)), (8, .const (.int .u8 104)), (9, .const (.int .u8 105))]) : (execOp a.eval o).run Try.prog W = .ok (.value (.slice (some ⟨W.heap.size, 0, none⟩) 10 10)) (W.alloc (.cells (aL 0) 5)) := by
  unfold execOp
  simp only [ho]
  simp [go_sem]
  rfl
theorem execBsA1 (ho : o.op = .buildSlice 23 8 #[(0, .const (.int .u8 114)), (1, .const (.int .u8 111)), (2, .const (.int .u8 111)), (3, .const (.int .u8 109)), (4, .const (.int .u8 48)), (5, .const (.int .u8 48)), (6, .const (.int .u8 48)), (7, .const (.int .u8 50))]) : (execOp a.eval o).run Try.prog W = .ok (.value (.slice (some ⟨W.heap.size, 0, none⟩) 8 8)) (W.alloc (.cells (aL 1) 5)) := by
  unfold execOp
  simp only [ho]
  simp [go_sem]
  rfl
theorem execBsA2 (ho : o.op = .buildSlice 23 10 #[(0, .const (.int .u8 114)), (1, .const (.int .u8 111)), (2, .const (.int .u8 111)), (3, .const (.int .u8 109)), (4, .const (.int .u8 48)), (5, .const (.int .u8 48)), (6, .const (.int .u8 48)), (7, .const (.int .u8 49)), (8, .const (.int .u8 104)), (9, .const (.int .u8 111))]) : (execOp a.eval o).run Try.prog W = .ok (.value (.slice (some ⟨W.heap.size, 0, none⟩) 10 10)) (W.alloc (.cells (aL 2) 5)) := by
  unfold execOp
  simp only [ho]
  simp [go_sem]
  rfl
theorem conv28 {b : Nat} {C : Array Value} {fr : Nat × Nat} (n c : Nat) (h : W.heap[b]? = some (.cells C 5 fr)) : (convert 23 23 (.slice (some ⟨b, 0, none⟩) n c)).run Try.prog W = .ok (.slice (some ⟨b, 0, none⟩) n c) (W.freeze ⟨b, C.size, none⟩ 1) := by
  have hsh : W.shape? b = some (5, C.size) := by unfold World.shape?; rw [h]
  simp [convert, run_underlying Try.underlying23, run_underlying Try.underlying5, markStringish, hsh]
theorem execCvB {b : Nat} {C : Array Value} {n c : Nat} (ho : o.op = .convert 23 23 x) (hx : a.eval x = .slice (some ⟨b, 0, none⟩) n c) (h : W.heap[b]? = some (.cells C 5)) : (execOp a.eval o).run Try.prog W = .ok (.value (.slice (some ⟨b, 0, none⟩) n c)) (W.freeze ⟨b, C.size, none⟩ 1) := by
  unfold execOp
  simp only [ho, hx, Sem.run_bind, conv28 n c h, Result.andThen_ok, Sem.run_pure]
theorem frz_heap {b k : Nat} : (∀ i, i ≠ b → (W.freeze ⟨b, k, none⟩ 1).heap[i]? = W.heap[i]?) ∧ (W.freeze ⟨b, k, none⟩ 1).heap.size = W.heap.size := by
  unfold World.freeze
  rw [if_neg (by decide)]
  refine ⟨fun i hi => ?_, by simp⟩
  simp only [Array.getElem?_modify]
  rw [if_neg (fun e => hi e.symm)]
theorem frz_cell {b k : Nat} (p : Addr) : (W.freeze ⟨b, k, none⟩ 1).cell? p = W.cell? p := by
  unfold World.freeze World.cell?
  rw [if_neg (by decide)]
  simp only [Array.getElem?_modify]
  by_cases e : b = p.block
  · subst e
    rw [if_pos rfl]
    cases q : W.heap[p.block]? with
    | none => rfl
    | some ob => cases ob <;> rfl
  · rw [if_neg e]
theorem frz_sl {b k n : Nat} {v : Value} {p : Nat → Nat} (h : SliceN W v n p) : SliceN (W.freeze ⟨b, k, none⟩ 1) v n p := by
  obtain ⟨⟨a, cap, e, h1, h2, h3⟩, hp⟩ := h
  refine ⟨⟨a, cap, e, h1, h2, fun h0 => ?_⟩, hp⟩
  obtain ⟨b', off, e2, hb, hc⟩ := h3 h0
  exact ⟨b', off, e2, by rw [frz_heap.2]; exact hb, fun j hj => by rw [frz_cell]; exact hc j hj⟩
theorem frz_bel {V : World} {B b k : Nat} (h : Below B V W) (hb : B ≤ b) : Below B V (W.freeze ⟨b, k, none⟩ 1) := by
  refine h.trans ⟨?_, ?_, ?_, by rw [frz_heap.2]; exact Nat.le_refl _, fun i hi => frz_heap.1 i (by omega)⟩ <;> (unfold World.freeze; rw [if_neg (by decide)])
theorem execBsA3 {p q r : Option Addr} {i j k l m n : Nat} (ho : o.op = .buildSlice 29 3 #[(0, x), (1, y), (2, z)]) (hx : a.eval x = .slice p i j) (hy : a.eval y = .slice q k l) (hz : a.eval z = .slice r m n) : (execOp a.eval o).run Try.prog W = .ok (.value (.slice (some ⟨W.heap.size, 0, none⟩) 3 3)) (W.alloc (.cells #[.slice p i j, .slice q k l, .slice r m n] 23)) := by
  unfold execOp
  simp only [ho, List.map_toArray, List.map_cons, List.map_nil, hx, hy, hz]
  simp [go_sem]
end
theorem aw_row {W : World} {g k n : Nat} (h : W.heap[g]? = some (.cells (aL k) 5)) (hn : awL k = n) (hk : n = 8 ∨ n = 10) : SliceN W (.slice (some ⟨g, 0, none⟩) n n) n (awC k) := by
  subst hn
  refine lit_slice h (fun j hj => by unfold aL; rw [← Array.getElem?_toList]; exact bytesL_at _ _ hj) (fun j _ => ?_) (by omega)
  unfold awC
  have hb : ∀ l ∈ aws, ∀ b ∈ l, b < 256 := by decide
  rw [List.getD_eq_getElem?_getD]
  cases e : (aws.getD k [])[j]? with
  | none => exact (by decide : 0 < 256)
  | some b =>
    rw [List.getD_eq_getElem?_getD] at e
    cases e2 : aws[k]? with
    | none => rw [e2] at e; simp at e
    | some l => rw [e2] at e; exact hb l (List.mem_of_getElem? e2) b (List.mem_of_getElem? e)
theorem aw_ls {W : World} {g2 g4 g6 g8 : Nat} (h2 : SliceN W (.slice (some ⟨g2, 0, none⟩) 10 10) 10 (awC 0)) (h4 : SliceN W (.slice (some ⟨g4, 0, none⟩) 8 8) 8 (awC 1)) (h6 : SliceN W (.slice (some ⟨g6, 0, none⟩) 10 10) 10 (awC 2)) (h8 : W.heap[g8]? = some (.cells #[.slice (some ⟨g2, 0, none⟩) 10 10, .slice (some ⟨g4, 0, none⟩) 8 8, .slice (some ⟨g6, 0, none⟩) 10 10] 23)) : Ls W (.slice (some ⟨g8, 0, none⟩) 3 3) 3 (awV g2 g4 g6) awL awC := by
  refine ⟨⟨_, 3, rfl, Nat.le_refl _, by omega, fun _ => ⟨g8, 0, rfl, (Array.getElem?_eq_some_iff.1 h8).1, fun i hi => ?_⟩⟩, fun i hi => ?_, fun i hi l c e => ?_, fun i _ => by unfold awL; split <;> omega⟩
  · rw [cell_of_row _ _ _ _ _ _ h8]
    match i, hi with
    | 0, _ => rfl
    | 1, _ => rfl
    | 2, _ => rfl
  · match i, hi with
    | 0, _ => exact h2
    | 1, _ => exact h4
    | 2, _ => exact h6
  · unfold awV at e
    split at e
    · cases e
    · split at e <;> cases e
theorem aw_s0 : strN (xF 3 awL awC 0) (xL 3 awL awC 0) = ⟨#[1, 104, 111]⟩ := by rw [show xL 3 awL awC 0 = 3 by decide]; rfl
theorem aw_s1 : strN (xF 3 awL awC 1) (xL 3 awL awC 1) = ⟨#[0]⟩ := by rw [show xL 3 awL awC 1 = 1 by decide]; rfl
theorem aw_s2 : strN (xF 3 awL awC 2) (xL 3 awL awC 2) = ⟨#[1, 104, 105]⟩ := by rw [show xL 3 awL awC 2 = 3 by decide]; rfl
set_option maxRecDepth 100000 in
set_option maxHeartbeats 4000000 in
/-- The law's great. -/
theorem great28 (n : Nat) (v : Value) (xv : Nat → Value) (ln : Nat → Nat) (c : Nat → Nat → Nat) (V : World) (hv : Ls V v n xv ln c) :
    Calls Try.prog 18 #[v] V fun e w' => (∃ b, e = .returned (.bool b) ∧ (b = false → n ≤ 2048 ∧ ∀ i, i < n → ln i ≤ 1048576)) ∧ Below V.heap.size V w' := by
  go_enter Try.func18, Try.ntmps18
  refine wo_ 22 [(0, v)] ?_
  rintro a A ⟨t0, -⟩
  have BW : Below V.heap.size V V := Below.refl _ _
  have BB := BW
  have hnn : n < 9223372036854775808 := (by obtain ⟨_, cap, _, q1, q2, _⟩ := hv.shape; omega)
  refine wp_seq ?_
  refine wi_ A (h1_ t0) (rf_ [] (h1_ t0) ?_)
  rintro a A - ⟨t0, -⟩
  refine wp_seq ?_
  refine wi_ A (h1_ t0) (rf_ [(3, .int .i64 ((0 : Nat) : Int))] (h1_ t0) ?_)
  rintro a A ⟨t3, -⟩ ⟨t0, -⟩
  refine wp_seq ?_
  refine wp_seq ?_
  refine wi_ A (h2_ t0 t3) (rv_ 1 (.int .i64 ((n : Nat) : Int)) (fun a ee => execLenLL rfl (ee _) (hv.on BB).shp) (rf_ [(6, v), (7, .int .i64 ((n : Nat) : Int)), (8, .int .i64 ((0 : Nat) : Int))] (h2_ t0 t3) ?_))
  rintro a A ⟨t6, t7, t8, -⟩ ⟨t0, t3, -⟩
  refine wp_block ?_
  refine wp_loop (fun a W => ∃ (i : Nat) (s : Nat), i ≤ n ∧ (s ≤ 1048576) ∧ (∀ k, k < i → ln k ≤ 1048576) ∧ (a.tmps.size = 22 ∧ a.defers = []) ∧ a.eval (.tmp 0) = v ∧ a.eval (.tmp 3) = .int .i64 ((s : Nat) : Int) ∧ a.eval (.tmp 6) = v ∧ a.eval (.tmp 7) = .int .i64 ((n : Nat) : Int) ∧ a.eval (.tmp 8) = .int .i64 ((i : Nat) : Int) ∧ Below V.heap.size V W) (fun a _ => n - (intOf (a.eval (.tmp 8))).toNat) ⟨0, 0, Nat.zero_le _, (by omega), fun k hk => absurd hk (Nat.not_lt_zero k), A, t0, t3, t6, t7, t8, BB⟩ ?_
  clear A t0 t3 t6 t7 t8 BB a
  rintro a XL3 ⟨i, s, hi, hm, hs, A, t0, t3, t6, t7, t8, BB⟩
  have esi := t8
  refine wp_seq ?_
  refine wi_ A (h5_ t0 t3 t6 t7 t8) (rv_ 0 (.bool (decide (i < n))) (fun a ee => execLtW (p := i) (q := n) rfl (ee _) (ee _)) (rf_ [(9, .bool (decide (i < n)))] (h5_ t0 t3 t6 t7 t8) ?_))
  rintro a A ⟨t9, -⟩ ⟨t0, t3, t6, t7, t8, -⟩
  refine wp_seq ?_
  by_cases lti : i < n
  · rw [decide_eq_true lti] at t9
    refine wp_cond_true t9 ?_
    refine wp_skip ?_
    clear t9
    refine wp_seq ?_
    refine wp_block ?_
    have hli := hv.lens i lti
    refine wp_seq ?_
    refine wi_ A (h5_ t0 t3 t6 t7 t8) (rv_ 0 (.pointer (some ⟨adB v, adO v + i, none⟩)) (fun a ee => execIdxLs (k := i) (hv.on BB) rfl (ee _) (ee _) lti) (rv_ 1 (xv i) (fun a ee => execLdLs (k := i) (hv.on BB) rfl (ee _) lti) (rf_ [(5, xv i)] (h5_ t0 t3 t6 t7 t8) ?_)))
    rintro a A ⟨t5, -⟩ ⟨t0, t3, t6, t7, t8, -⟩
    refine wp_seq ?_
    refine wi_ A (h6_ t0 t3 t5 t6 t7 t8) (rv_ 2 (.int .i64 ((ln i : Nat) : Int)) (fun a ee => execLenV (len := ln i) rfl (ee _) (shp (((hv.on BB).cell i lti)))) (rv_ 3 (.int .i64 ((s + ln i : Nat) : Int)) (fun a ee => execAd8 (p := s) (q := ln i) rfl (ee _) (ee _) (by omega)) (rf_ [(3, .int .i64 ((s + ln i : Nat) : Int))] (h4_ t0 t6 t7 t8) ?_)))
    rintro a A ⟨t3, -⟩ ⟨t0, t6, t7, t8, -⟩
    refine wp_seq ?_
    by_cases hg : 1048576 < s + ln i
    · refine wi_ A (h5_ t0 t3 t6 t7 t8) (rv_ 1 (.bool true) (fun a ee => execDec (execGtN (p := s + ln i) (q := 1048576) rfl (ee _) rfl) (decide_eq_true (by omega))) (rf_ [(17, .bool true)] (h1_ t0) ?_))
      rintro a A ⟨t17, -⟩ ⟨t0, -⟩
      refine wp_cond_true t17 ?_
      clear t17
      refine wp_seq ?_
      refine wi_ A (h1_ t0) (rg_ [(2, .bool true)] ?_)
      rintro a A ⟨t2, -⟩
      refine wp_ret ?_
      repeat (first | with_reducible refine ret_in ?_ | with_reducible refine ret_then ?_)
      refine bodyPost_ret (results_tmp rfl _ _ _) A.2 ⟨⟨true, ?_, fun h => by cases h⟩, BB⟩
      show Ending.returned (a.eval (.tmp 2)) = _
      rw [t2]
    · refine wi_ A (h5_ t0 t3 t6 t7 t8) (rv_ 1 (.bool false) (fun a ee => execDec (execGtN (p := s + ln i) (q := 1048576) rfl (ee _) rfl) (decide_eq_false (by omega))) (rf_ [(17, .bool false)] (h5_ t0 t3 t6 t7 t8) ?_))
      rintro a A ⟨t17, -⟩ ⟨t0, t3, t6, t7, t8, -⟩
      refine wp_cond_false t17 ?_
      refine wp_skip ?_
      clear t17
      have hs2 : ∀ k, k < i + 1 → ln k ≤ 1048576 := fun k hk => by
        by_cases e : k = i
        · subst e; omega
        · exact hs k (by omega)
      have hm2 : s + ln i ≤ 1048576 := (by omega)
      refine wi_ A (h5_ t0 t3 t6 t7 t8) (rv_ 0 (.int .i64 ((i + 1 : Nat) : Int)) (fun a ee => execAd8 (p := i) (q := 1) rfl (ee _) rfl (by omega)) (rf_ [(8, .int .i64 ((i + 1 : Nat) : Int))] (h4_ t0 t3 t6 t7) ?_))
      rintro a A ⟨t8, -⟩ ⟨t0, t3, t6, t7, -⟩
      exact ⟨⟨i + 1, s + ln i, lti, hm2, hs2, A, t0, t3, t6, t7, t8, BB⟩, by show n - (intOf (a.eval (.tmp 8))).toNat < n - (intOf (Act.eval _ (.tmp 8))).toNat; rw [t8, esi]; show n - (i + 1) < n - i; omega⟩
  · rw [decide_eq_false lti] at t9
    refine wp_cond_false t9 ?_
    refine wp_exit ?_
    first | with_reducible refine exit_in ?_ | with_reducible refine exit_then (exit_in ?_) | with_reducible refine exit_then (exit_then (exit_in ?_)) | refine exit_in ?_ | refine exit_then (exit_in ?_) | refine exit_then (exit_then (exit_in ?_))
    clear t9 esi
    have ein : i = n := (by omega)
    rw [ein] at hs
    refine wp_seq ?_
    refine wi_ A (h5_ t0 t3 t6 t7 t8) (rv_ 1 (.int .i64 ((n : Nat) : Int)) (fun a ee => execLenLL rfl (ee _) (hv.on BB).shp) (rv_ 2 (.bool (decide (2048 < n))) (fun a ee => execGtN (p := n) (q := 2048) rfl (ee _) rfl) (rg_ [(2, .bool (decide (2048 < n)))] ?_)))
    rintro a A ⟨t2, -⟩
    refine wp_ret ?_
    repeat (first | with_reducible refine ret_in ?_ | with_reducible refine ret_then ?_)
    refine bodyPost_ret (results_tmp rfl _ _ _) A.2 ⟨⟨decide (2048 < n), ?_, fun h => ⟨by have := of_decide_eq_false h; omega, hs⟩⟩, BB⟩
    show Ending.returned (a.eval (.tmp 2)) = _
    rw [t2]
set_option maxRecDepth 100000 in
set_option maxHeartbeats 4000000 in
/-- The law's awake. -/
theorem awake28 (I : Impl) (V : World) :
    Calls Try.prog 8 #[] V fun e w' => e = .returned (.bool true) ∧ Below V.heap.size V w' := by
  go_enter Try.func8, Try.ntmps8
  refine wo_ 36 [] ?_
  rintro a A -
  have BW : Below V.heap.size V V := Below.refl _ _
  have BB := BW
  refine wp_seq ?_
  refine wi_ A h0_ (rg_ [] ?_)
  rintro a A -
  refine wp_seq ?_
  obtain ⟨g2, egg2⟩ : ∃ z_ : Nat, V.heap.size = z_ := ⟨_, rfl⟩
  refine wi_ A h0_ (rs_ 0 (fun a ee => ?_))
  refine stepV rfl rfl (execBsA0 rfl) ⟨.slice (some ⟨g2, 0, none⟩) 10 10, ⟨_, rfl, by subst egg2; rfl⟩, fun X1_1 hX => ?_⟩
  have bQ : Below V.heap.size V X1_1 := by subst hX egg2; exact (belNew V _)
  have Fg2 : (X1_1.heap[g2]? = some (.cells (aL 0) 5)) := by subst hX egg2; exact heapNew V _
  have FGg2 : (V.heap.size ≤ g2) := by subst hX egg2; exact (BB).size
  replace BB := BB.trans (bQ.mono BB.size)
  clear bQ hX egg2 ee a
  refine rs_ 1 (fun a ee => ?_)
  refine stepV rfl rfl (execCvB rfl (ee _) Fg2) ⟨_, ⟨_, rfl, rfl⟩, fun X1_2 hX => ?_⟩
  obtain ⟨BB, FS0⟩ : Below V.heap.size V X1_2 ∧ (SliceN X1_2 (.slice (some ⟨g2, 0, none⟩) 10 10) 10 (awC 0)) := by subst hX; exact ⟨frz_bel BB FGg2, frz_sl (aw_row Fg2 rfl (by omega))⟩
  clear Fg2 FGg2 hX ee a
  obtain ⟨g4, egg4⟩ : ∃ z_ : Nat, X1_2.heap.size = z_ := ⟨_, rfl⟩
  refine rs_ 2 (fun a ee => ?_)
  refine stepV rfl rfl (execBsA1 rfl) ⟨.slice (some ⟨g4, 0, none⟩) 8 8, ⟨_, rfl, by subst egg4; rfl⟩, fun X1_3 hX => ?_⟩
  have bQ : Below X1_2.heap.size X1_2 X1_3 := by subst hX egg4; exact (belNew X1_2 _)
  have Fg4 : (X1_3.heap[g4]? = some (.cells (aL 1) 5)) := by subst hX egg4; exact heapNew X1_2 _
  have FGg4 : (V.heap.size ≤ g4) := by subst hX egg4; exact (BB).size
  replace FS0 := (FS0.on bQ)
  replace BB := BB.trans (bQ.mono BB.size)
  clear bQ hX egg4 ee a
  refine rs_ 3 (fun a ee => ?_)
  refine stepV rfl rfl (execCvB rfl (ee _) Fg4) ⟨_, ⟨_, rfl, rfl⟩, fun X1_4 hX => ?_⟩
  obtain ⟨BB, FS0, FS1⟩ : Below V.heap.size V X1_4 ∧ (SliceN X1_4 (.slice (some ⟨g2, 0, none⟩) 10 10) 10 (awC 0)) ∧ (SliceN X1_4 (.slice (some ⟨g4, 0, none⟩) 8 8) 8 (awC 1)) := by subst hX; exact ⟨frz_bel BB FGg4, (frz_sl FS0), frz_sl (aw_row Fg4 rfl (by omega))⟩
  clear Fg4 FGg4 hX ee a
  obtain ⟨g6, egg6⟩ : ∃ z_ : Nat, X1_4.heap.size = z_ := ⟨_, rfl⟩
  refine rs_ 4 (fun a ee => ?_)
  refine stepV rfl rfl (execBsA2 rfl) ⟨.slice (some ⟨g6, 0, none⟩) 10 10, ⟨_, rfl, by subst egg6; rfl⟩, fun X1_5 hX => ?_⟩
  have bQ : Below X1_4.heap.size X1_4 X1_5 := by subst hX egg6; exact (belNew X1_4 _)
  have Fg6 : (X1_5.heap[g6]? = some (.cells (aL 2) 5)) := by subst hX egg6; exact heapNew X1_4 _
  have FGg6 : (V.heap.size ≤ g6) := by subst hX egg6; exact (BB).size
  replace FS0 := (FS0.on bQ)
  replace FS1 := (FS1.on bQ)
  replace BB := BB.trans (bQ.mono BB.size)
  clear bQ hX egg6 ee a
  refine rs_ 5 (fun a ee => ?_)
  refine stepV rfl rfl (execCvB rfl (ee _) Fg6) ⟨_, ⟨_, rfl, rfl⟩, fun X1_6 hX => ?_⟩
  obtain ⟨BB, FS0, FS1, FS2⟩ : Below V.heap.size V X1_6 ∧ (SliceN X1_6 (.slice (some ⟨g2, 0, none⟩) 10 10) 10 (awC 0)) ∧ (SliceN X1_6 (.slice (some ⟨g4, 0, none⟩) 8 8) 8 (awC 1)) ∧ (SliceN X1_6 (.slice (some ⟨g6, 0, none⟩) 10 10) 10 (awC 2)) := by subst hX; exact ⟨frz_bel BB FGg6, (frz_sl FS0), (frz_sl FS1), frz_sl (aw_row Fg6 rfl (by omega))⟩
  clear Fg6 FGg6 hX ee a
  obtain ⟨g8, egg8⟩ : ∃ z_ : Nat, X1_6.heap.size = z_ := ⟨_, rfl⟩
  refine rs_ 6 (fun a ee => ?_)
  refine stepV rfl rfl (execBsA3 rfl (ee _) (ee _) (ee _)) ⟨.slice (some ⟨g8, 0, none⟩) 3 3, ⟨_, rfl, by subst egg8; rfl⟩, fun X1_7 hX => ?_⟩
  have bQ : Below X1_6.heap.size X1_6 X1_7 := by subst hX egg8; exact (belNew X1_6 _)
  have Fg8 : (X1_7.heap[g8]? = some (.cells #[.slice (some ⟨g2, 0, none⟩) 10 10, .slice (some ⟨g4, 0, none⟩) 8 8, .slice (some ⟨g6, 0, none⟩) 10 10] 23)) := by subst hX egg8; exact heapNew X1_6 _
  replace FS0 := (FS0.on bQ)
  replace FS1 := (FS1.on bQ)
  replace FS2 := (FS2.on bQ)
  replace BB := BB.trans (bQ.mono BB.size)
  clear bQ hX egg8 ee a
  refine rc_ 7 (I.exchange 3 _ (awV g2 g4 g6) awL awC X1_7 (aw_ls FS0 FS1 FS2 Fg8) (by omega) (fun i hi => by unfold awL; split <;> omega)) fun e X1 hh => ?_
  obtain ⟨⟨v9, y9, he, hk⟩, hb⟩ := hh
  refine ⟨_, he, ?_⟩
  have bQ : Below X1_7.heap.size X1_7 X1 := hb
  have FA : (Ls X1 v9 3 y9 (xL 3 awL awC) (xF 3 awL awC)) := hk.ls (fun t _ => by have := xL_le (n := 3) (ln := awL) (c := awC) (i := t); omega)
  replace BB := BB.trans (bQ.mono BB.size)
  clear FS0 FS1 FS2 Fg8 bQ
  refine rg_ [(1, v9)] ?_
  rintro a A ⟨t1, -⟩
  refine wp_seq ?_
  refine wi_ A (h1_ t1) (rv_ 2 (.int .i64 ((3 : Nat) : Int)) (fun a ee => execLenLL rfl (ee _) (FA).shp) (rv_ 3 (.bool true) (fun a ee => execDec (execEqN (p := 3) (q := 3) rfl (ee _) rfl) (decide_eq_true (by rfl))) (rv_ 7 (.pointer (some ⟨adB v9, adO v9 + 0, none⟩)) (fun a ee => execIdxLs (k := 0) (FA) rfl (ee _) rfl (by omega)) (rv_ 8 (y9 0) (fun a ee => execLdLs (k := 0) (FA) rfl (ee _) (by omega)) (rv_ 9 (.string (strN ((xF 3 awL awC) 0) ((xL 3 awL awC) 0))) (fun a ee => execStr rfl (ee _) (((FA).cell 0 (by omega)))) (rv_ 10 (.bool true) (fun a ee => execEqlS rfl ((ee _).trans (congrArg Value.string aw_s0)) rfl) (rv_ 14 (.pointer (some ⟨adB v9, adO v9 + 1, none⟩)) (fun a ee => execIdxLs (k := 1) (FA) rfl (ee _) rfl (by omega)) (rv_ 15 (y9 1) (fun a ee => execLdLs (k := 1) (FA) rfl (ee _) (by omega)) (rv_ 16 (.string (strN ((xF 3 awL awC) 1) ((xL 3 awL awC) 1))) (fun a ee => execStr rfl (ee _) (((FA).cell 1 (by omega)))) (rv_ 17 (.bool true) (fun a ee => execEqlS rfl ((ee _).trans (congrArg Value.string aw_s1)) rfl) (rv_ 21 (.pointer (some ⟨adB v9, adO v9 + 2, none⟩)) (fun a ee => execIdxLs (k := 2) (FA) rfl (ee _) rfl (by omega)) (rv_ 22 (y9 2) (fun a ee => execLdLs (k := 2) (FA) rfl (ee _) (by omega)) (rv_ 23 (.string (strN ((xF 3 awL awC) 2) ((xL 3 awL awC) 2))) (fun a ee => execStr rfl (ee _) (((FA).cell 2 (by omega)))) (rv_ 24 (.bool true) (fun a ee => execEqlS rfl ((ee _).trans (congrArg Value.string aw_s2)) rfl) (rg_ [(0, .bool true)] ?_)))))))))))))))
  rintro a A ⟨t0, -⟩
  refine wp_ret ?_
  repeat (first | with_reducible refine ret_in ?_ | with_reducible refine ret_then ?_)
  refine bodyPost_ret (results_tmp rfl _ _ _) A.2 ⟨?_, BB⟩
  show Ending.returned (a.eval (.tmp 0)) = _
  rw [t0]
end Go.Proofs.Ytcibogmghagpoaa.Dro
