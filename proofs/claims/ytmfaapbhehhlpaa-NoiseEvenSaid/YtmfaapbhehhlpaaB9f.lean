import Derived.Test.YtmfaapbhehhlpaaB9d
namespace Go.Proofs.Ytmfaapbhehhlpaa.Noi
open Go.RowKit Gf8 Aes By8 Cel Cf Tap Drw Prm Brd
/- NoiseEven. Written by tools/mkB9f.py. -/

section
variable {a d m k u : Nat}
theorem ct_least {p : Nat → Nat} (eu : p 0 * 256 + p 1 = u) (hu : u < 65536) (ek : ctN p ((a : Nat) : Int) ((d : Nat) : Int) ((m : Nat) : Int) = k) : k ≤ m ∧ (∀ i, i < k → tbN a d m i ≤ u) ∧ u < tbN a d m k := by
  have hx : ∀ n, n ≤ m + 1 → (∀ i, i < n → tbN a d m i ≤ u) ∨ ∃ j, j < n ∧ (∀ i, i < j → tbN a d m i ≤ u) ∧ u < tbN a d m j := fun n => by
    induction n with
    | zero => exact fun _ => Or.inl fun i hi => absurd hi (Nat.not_lt_zero _)
    | succ n ih =>
      intro hn
      rcases ih (by omega) with h | ⟨j, h1, h2⟩
      · by_cases q : tbN a d m n ≤ u
        · exact Or.inl fun i hi => if e : i = n then e ▸ q else h i (by omega)
        · exact Or.inr ⟨n, by omega, h, by omega⟩
      · exact Or.inr ⟨j, by omega, h2⟩
  rcases hx (m + 1) (Nat.le_refl _) with h | ⟨j, h1, h2, h3⟩
  · have := h m (by omega)
    rw [tb_last] at this
    omega
  · have e := ct_is (p := p) (a := a) (d := d) (m := m) (i := j) (u := u) (by omega) h2 h3 eu
    obtain rfl : k = j := ek.symm.trans e
    exact ⟨by omega, h2, h3⟩
theorem nu_le {f : Nat → Nat} : nuN f u k ≤ u := by
  unfold nuN
  omega
theorem nu_int {f : Nat → Nat} {i : Nat} (hm : ∀ i j, i ≤ j → f i ≤ f j) (h1 : ∀ i, i < k → f i ≤ u) (h2 : u < f k) : (fun k => ((nuN f (u + 1) k : Nat) : Int)) i = if i = k then ((nuN f u k + 1 : Nat) : Int) else (fun k => ((nuN f u k : Nat) : Int)) i := by
  show ((nuN f (u + 1) i : Nat) : Int) = _
  rw [nu_succ hm h1 h2]
  by_cases e : i = k
  · rw [if_pos e, if_pos e, e]
  · rw [if_neg e, if_neg e]
    rfl
/-- The sum of the counts ahead of a place. -/
def suN (f : Nat → Nat) (k : Nat) : Nat := if k = 0 then 0 else f (k - 1)
theorem nu_top (hk : k ≤ m) : nuN (tbN a d m) 65536 k + suN (tbN a d m) k = tbN a d m k := by
  have h1 := tb_le (a := a) (d := d) hk
  unfold nuN suN
  by_cases e : k = 0
  · rw [if_pos e, if_pos e]; omega
  · rw [if_neg e, if_neg e]
    have h2 := tb_mono (a := a) (d := d) (m := m) (show k - 1 ≤ k by omega)
    omega
theorem su_add (hk : k ≤ m) : suN (tbN a d m) k + nuN (tbN a d m) 65536 k = tbN a d m k := by
  have := nu_top (a := a) (d := d) hk
  omega
theorem nu_le2 (_hk : k ≤ m) : nuN (tbN a d m) 65536 k ≤ 65536 := nu_le
theorem tb_even0 (h : a ≤ d) : tbN a d m 1 ≤ 2 * tbN a d m 0 + 1 := by
  unfold tbN
  have hU := u_ge (a := a) (d := d) m
  obtain ⟨U, eU⟩ : ∃ U, uN a d m = U := ⟨_, rfl⟩
  rw [eU] at hU ⊢
  have hw := w_fall h 0
  have e1 : uN a d 1 = uN a d 0 + wN a d 1 := rfl
  have e0 : uN a d 0 = wN a d 0 := rfl
  obtain ⟨y, ey⟩ : ∃ y, 65536 * uN a d 0 = y := ⟨_, rfl⟩
  obtain ⟨z, ez⟩ : ∃ z, 65536 * uN a d 1 = z := ⟨_, rfl⟩
  rw [ey, ez]
  have hyz : z ≤ 2 * y := by
    have : wN a d 1 ≤ wN a d 0 := hw
    omega
  have h1 := Nat.div_mul_le_self z U
  have h3 : y < (y / U + 1) * U := by
    rw [Nat.mul_comm]
    exact Nat.lt_mul_div_succ y (by omega)
  have h4 : z / U * U < (2 * (y / U) + 2) * U := by
    rw [show (2 * (y / U) + 2) * U = 2 * ((y / U + 1) * U) by rw [show 2 * (y / U) + 2 = 2 * (y / U + 1) by omega, Nat.mul_assoc]]
    omega
  have h5 := Nat.lt_of_mul_lt_mul_right h4
  omega
theorem nu_even (h : a ≤ d) (hk : k ≤ m) (h0 : 0 < k) : nuN (tbN a d m) 65536 k ≤ nuN (tbN a d m) 65536 (k - 1) + 1 := by
  have e1 := nu_top (a := a) (d := d) hk
  have e2 := nu_top (a := a) (d := d) (show k - 1 ≤ m by omega)
  have s1 : suN (tbN a d m) k = tbN a d m (k - 1) := if_neg (by omega)
  by_cases h1 : k = 1
  · subst h1
    have s0 : suN (tbN a d m) (1 - 1) = 0 := rfl
    have h3 := tb_even0 (m := m) h
    rw [show 1 - 1 = 0 from rfl] at *
    omega
  · have s0 : suN (tbN a d m) (k - 1) = tbN a d m (k - 2) := if_neg (by omega)
    have h3 := tb_even (m := m) h (k - 2)
    rw [show k - 2 + 2 = k by omega, show k - 2 + 1 = k - 1 by omega] at h3
    omega
end
theorem q_byte {u : Nat} {q : Nat → Nat} (hu : u < 65536) (hq : ∀ j, j < 18 → q j < 256) : ∀ j, j < 18 → (fun j => if j = 1 then u % 256 else (fun j => if j = 0 then u / 256 else q j) j) j < 256 := fun j hj => by
  show (if j = 1 then u % 256 else if j = 0 then u / 256 else q j) < 256
  by_cases h1 : j = 1
  · rw [if_pos h1]; omega
  · rw [if_neg h1]
    by_cases h2 : j = 0
    · rw [if_pos h2]; omega
    · rw [if_neg h2]; exact hq j hj
theorem own_mkE (W : World) : (W.alloc (.cells (bA 18 (fun _ => 0)) 5)).ownsRow W.heap.size 5 1 (.slice (some ⟨W.heap.size, 0, none⟩) 18 18) 18 (bytesL 18 (fun _ => 0)) :=
  ⟨by rw [bytesL_len], Or.inr ⟨W.heap.size, 18, bA 18 (fun _ => 0), rfl, Nat.le_refl _, heapNew W _, Nat.le_refl _, by unfold maxLen; omega, by rw [bA_size], by
    show (bA 18 fun _ => 0).toList.take (18 * 1) = _
    unfold bA
    rw [List.take_of_length_le (by simp [bytesL_len])]⟩⟩
theorem own_cell15 {W : World} {B n g cap j : Nat} {p : Nat → Nat} (h : W.ownsRow B 5 1 (.slice (some ⟨g, 0, none⟩) n cap) n (bytesL n p)) (hj : j < n) : W.cell? ⟨g, 0 + j, none⟩ = some (.int .u8 (p j : Nat)) ∧ W.frozen? ⟨g, 0 + j, none⟩ = false := by
  rw [Nat.zero_add]
  refine ⟨own_at8 h hj, ?_⟩
  obtain ⟨cur, hg, _⟩ := own_cur h
  exact frozen4 hg
section
variable {o : Oper} {a : Act} {w : World}
theorem execShr15 {x : Operand} {n : Nat} (ho : o.op = .binOp .shr 3 x (.const (.int .u64 8)) 46) (hx : a.eval x = .int .i64 (n : Int)) (_hn : n < 9223372036854775808) : (execOp a.eval o).run Try.prog w = .ok (.value (.int .i64 ((n / 256 : Nat) : Int))) w := by
  have hc : a.eval (.const (.int .u64 8)) = .int .u64 8 := rfl
  unfold execOp
  simp only [ho, hx, hc]
  simp [go_sem]
theorem execU815 {x : Operand} {n z : Nat} (ho : o.op = .convert 3 5 x) (hx : a.eval x = .int .i64 (n : Int)) (hz : n % 256 = z) : (execOp a.eval o).run Try.prog w = .ok (.value (.int .u8 (z : Int))) w := by
  subst hz
  unfold execOp
  simp only [ho, hx]
  simp [go_sem, IntKind.wrap, IntKind.bits, IntKind.signed]
end
set_option maxRecDepth 100000 in
set_option maxHeartbeats 4000000 in
/-- NoiseEven. -/
theorem even15 (I : Impl) (na nd nm : Int) (V : World) (hna : I64 na) (hnd : I64 nd) (hnm : I64 nm) :
    Calls Try.prog 6 #[.int .i64 na, .int .i64 nd, .int .i64 nm] V fun e w' => e = .returned (.bool true) ∧ Below V.heap.size V w' := by
  go_enter Try.func6, Try.ntmps6
  refine wp_seq ?_
  refine wo_ 146 [(0, .int .i64 na), (1, .int .i64 nd), (2, .int .i64 nm)] ?_
  rintro a A ⟨t0, t1, t2, -⟩
  refine wi_ A (h3_ t0 t1 t2) (rf_ [] (h3_ t0 t1 t2) ?_)
  rintro a A - ⟨t0, t1, t2, -⟩
  have BW : Below V.heap.size V V := Below.refl _ _
  refine wp_seq ?_
  refine wp_seq ?_
  refine wi_ A (h3_ t0 t1 t2) (rc_ 0 (awake15 I V) (cb_ fun X1 bQ => ?_))
  have bX := bQ
  clear bQ
  refine rv_ 1 (.bool false) (fun a ee => execNot8 (b := true) rfl (ee _)) (rf_ [(20, .bool false)] (h3_ t0 t1 t2) ?_)
  rintro a A ⟨t20, -⟩ ⟨t0, t1, t2, -⟩
  have ZX1 := bX.size
  replace BW := BW.trans (bX.mono BW.size)
  clear bX
  refine wp_cond_false t20 ?_
  refine wp_skip ?_
  clear t20
  refine wp_seq ?_
  refine wi_ A (h3_ t0 t1 t2) (rc_ 3 (I.table na nd nm X1 hna hnd hnm) fun e X3 hh => ?_)
  obtain ⟨v25, he, hk, hb⟩ := hh
  refine ⟨_, he, ?_⟩
  have bQ : Below X1.heap.size X1 X3 := hb
  have Fv25 : (SliceI X3 v25 (zl (tbE na nd nm) ((nm).toNat + 1)) (tbF na nd nm)) := own_ints hk tb_fits
  have bX := bQ
  clear bQ
  refine rf_ [(7, v25), (8, .int .i64 ((tbE na nd nm : Nat) : Int))] (h3_ t0 t1 t2) ?_
  rintro a A ⟨t7, t8, -⟩ ⟨t0, t1, t2, -⟩
  have ZX3 := bX.size
  replace BW := BW.trans (bX.mono BW.size)
  clear bX
  have BB : Below X3.heap.size X3 X3 := Below.refl _ _
  refine wp_seq ?_
  obtain ⟨g28, egg28⟩ : ∃ z_ : Nat, X3.heap.size = z_ := ⟨_, rfl⟩
  refine wi_ A (h5_ t0 t1 t2 t7 t8) (rs_ 0 (fun a ee => ?_))
  refine stepV rfl rfl (execMk (l := 18) (n := 18) rfl rfl rfl (by omega) (by omega)) ⟨.slice (some ⟨g28, 0, none⟩) 18 18, ⟨_, rfl, by subst egg28; rfl⟩, fun X4 hX => ?_⟩
  have bQ : Below X3.heap.size X3 X4 := by subst hX egg28; exact (belNew X3 _)
  have FB : (X4.ownsRow X3.heap.size 5 1 (.slice (some ⟨g28, 0, none⟩) 18 18) 18 (bytesL 18 (fun _ => 0))) := by subst hX egg28; exact own_base (own_mkE X3) (BB).size
  have FBg : (X3.heap.size ≤ g28) := by subst hX egg28; exact (BB).size
  replace BB := BB.trans (bQ.mono BB.size)
  clear bQ hX egg28 ee a
  refine rf_ [(9, .slice (some ⟨g28, 0, none⟩) 18 18)] (h5_ t0 t1 t2 t7 t8) ?_
  rintro a A ⟨t9, -⟩ ⟨t0, t1, t2, t7, t8, -⟩
  refine wp_seq ?_
  refine wp_seq ?_
  by_cases hin : fiN na nd nm
  · obtain ⟨c, rfl⟩ : ∃ c : Nat, na = c := ⟨na.toNat, by have := hin.1; omega⟩
    obtain ⟨d, rfl⟩ : ∃ d : Nat, nd = d := ⟨nd.toNat, by have := hin.2.2.1; omega⟩
    obtain ⟨m, rfl⟩ : ∃ m : Nat, nm = m := ⟨nm.toNat, by have := hin.2.2.2.2.1; omega⟩
    obtain ⟨g0, g1, g2, g3, g4, g5⟩ := id hin
    have had : c ≤ d := by omega
    have h1 : 1 ≤ d := by omega
    have h2 : d ≤ 1000 := by omega
    have hm : m ≤ 16 := by omega
    have hE : tbE ((c : Nat) : Int) ((d : Nat) : Int) ((m : Nat) : Int) = 0 := if_pos hin
    have hC : ctE 18 ((c : Nat) : Int) ((d : Nat) : Int) ((m : Nat) : Int) = 0 := (if_pos hin).trans (if_pos (by omega))
    rw [hE, zl_ok] at Fv25
    refine wi_ A (h6_ t0 t1 t2 t7 t8 t9) (rv_ 1 (.bool false) (fun a ee => execDec (execNeE (p := tbE ((c : Nat) : Int) ((d : Nat) : Int) ((m : Nat) : Int)) (q := 0) rfl (ee _) rfl) (decide_eq_false (by omega))) (rf_ [(30, .bool false)] (h5_ t0 t1 t2 t7 t9) ?_))
    rintro a A ⟨t30, -⟩ ⟨t0, t1, t2, t7, t9, -⟩
    refine wp_cond_false t30 ?_
    refine wp_skip ?_
    clear t30
    have hlast : tbN c d m m = 65536 := tb_last
    have hmono : ∀ i j, i ≤ j → tbN c d m i ≤ tbN c d m j := fun _ _ h => tb_mono h
    obtain ⟨llb, llo, llc, ell, hllb, hllc⟩ := open_sl Fv25 (by omega)
    have cll : ∀ k, k < m + 1 → ∀ X, Below X3.heap.size X3 X → X.cell? ⟨llb, llo + k, none⟩ = some (.int .i64 ((fun k => ((tbN c d m k : Nat) : Int)) k)) := fun k hk X hX => by rw [cell_below hX hllb]; exact hllc k hk
    refine wp_seq ?_
    refine wp_seq ?_
    refine wi_ A (h5_ t0 t1 t2 t7 t9) (rv_ 1 (.int .i64 ((m + 1 : Nat) : Int)) (fun a ee => execLenI (len := m + 1) rfl (ee _) Fv25.shp) (rv_ 3 (.int .i64 ((m + 1 : Nat) : Int)) (fun a ee => execAd8 (p := m) (q := 1) rfl (ee _) rfl (by omega)) (rv_ 4 (.bool false) (fun a ee => execDec (execNeN (p := m + 1) (q := m + 1) rfl (ee _) (ee _)) (decide_eq_false (by omega))) (rv_ 7 (.bool false) (fun a ee => execGtCf (p := ((m : Nat) : Int)) (q := 16) rfl (ee _) (by omega)) (rv_ 12 (.pointer (some ⟨llb, llo + m, none⟩)) (fun a ee => execIdxN (k := m) rfl ((ee _).trans ell) (ee _) (by omega)) (rv_ 13 (.int .i64 ((65536 : Nat) : Int)) (fun a ee => execLd3 rfl (ee _) ((cll m (by omega) X4 BB).trans (by show some (Value.int .i64 ((tbN c d m m : Nat) : Int)) = _; rw [hlast]))) (rv_ 14 (.bool false) (fun a ee => execDec (execNeN (p := 65536) (q := 65536) rfl (ee _) rfl) (decide_eq_false (by omega))) (rf_ [(69, .bool false)] (h5_ t0 t1 t2 t7 t9) ?_))))))))
    rintro a A ⟨t69, -⟩ ⟨t0, t1, t2, t7, t9, -⟩
    refine wp_cond_false t69 ?_
    refine wp_skip ?_
    clear t69
    refine wp_seq ?_
    obtain ⟨g72, egg72⟩ : ∃ z_ : Nat, X4.heap.size = z_ := ⟨_, rfl⟩
    refine wi_ A (h5_ t0 t1 t2 t7 t9) (rv_ 1 (.int .i64 ((m + 1 : Nat) : Int)) (fun a ee => execLenI (len := m + 1) rfl (ee _) Fv25.shp) (rs_ 2 (fun a ee => ?_)))
    refine stepV rfl rfl (execMkN rfl (ee _) (ee _) (by omega)) ⟨.slice (some ⟨g72, 0, none⟩) (m + 1) (m + 1), ⟨_, rfl, by subst egg72; rfl⟩, fun X10 hX => ?_⟩
    have bQ : Below X4.heap.size X4 X10 := by subst hX egg72; exact (belNew X4 _)
    have FC : (X10.ownsRow X3.heap.size 3 1 (.slice (some ⟨g72, 0, none⟩) (m + 1) (m + 1)) (m + 1) (intsL (m + 1) (fun k => ((nuN (tbN c d m) 0 k : Nat) : Int)))) := by subst hX egg72; exact ownD_base (own_mkZ X4 (m + 1) _ (by omega) (fun j_ _ => by show ((nuN (tbN c d m) 0 j_ : Nat) : Int) = 0; rw [nu_zero]; rfl)) (BB).size
    have FCg : (X3.heap.size ≤ g72) := by subst hX egg72; exact (BB).size
    replace FB := (ownsRow_below FB bQ)
    replace BB := BB.trans (bQ.mono BB.size)
    clear bQ hX egg72 ee a
    refine rf_ [(12, .slice (some ⟨g72, 0, none⟩) (m + 1) (m + 1))] (h5_ t0 t1 t2 t7 t9) ?_
    rintro a A ⟨t12, -⟩ ⟨t0, t1, t2, t7, t9, -⟩
    refine wp_seq ?_
    refine wp_seq ?_
    refine wi_ A (h6_ t0 t1 t2 t7 t9 t12) (rf_ [(73, .int .i64 ((0 : Nat) : Int))] (h6_ t0 t1 t2 t7 t9 t12) ?_)
    rintro a A ⟨t73, -⟩ ⟨t0, t1, t2, t7, t9, t12, -⟩
    refine wp_block ?_
    refine wp_loop (fun a W => ∃ (u : Nat) (q : Nat → Nat), u ≤ 65536 ∧ (∀ j, j < 18 → q j < 256) ∧ (a.tmps.size = 146 ∧ a.defers = []) ∧ a.eval (.tmp 0) = .int .i64 ((c : Nat) : Int) ∧ a.eval (.tmp 1) = .int .i64 ((d : Nat) : Int) ∧ a.eval (.tmp 2) = .int .i64 ((m : Nat) : Int) ∧ a.eval (.tmp 7) = v25 ∧ a.eval (.tmp 9) = .slice (some ⟨g28, 0, none⟩) 18 18 ∧ a.eval (.tmp 12) = .slice (some ⟨g72, 0, none⟩) (m + 1) (m + 1) ∧ a.eval (.tmp 73) = .int .i64 ((u : Nat) : Int) ∧ Below X3.heap.size X3 W ∧ (W.ownsRow X3.heap.size 5 1 (.slice (some ⟨g28, 0, none⟩) 18 18) 18 (bytesL 18 (q))) ∧ (W.ownsRow X3.heap.size 3 1 (.slice (some ⟨g72, 0, none⟩) (m + 1) (m + 1)) (m + 1) (intsL (m + 1) (fun k => ((nuN (tbN c d m) u k : Nat) : Int))))) (fun a _ => 65536 - (intOf (a.eval (.tmp 73))).toNat) ⟨0, fun _ => 0, Nat.zero_le _, (fun _ _ => Nat.zero_lt_succ _), A, t0, t1, t2, t7, t9, t12, t73, BB, FB, FC⟩ ?_
    clear A t0 t1 t2 t7 t9 t12 t73 BB FB FC a
    rintro a XL12 ⟨u, q, hu, hq, A, t0, t1, t2, t7, t9, t12, t73, BB, FB, FC⟩
    have esu := t73
    refine wp_seq ?_
    refine wi_ A (h7_ t0 t1 t2 t7 t9 t12 t73) (rv_ 0 (.bool (decide (u < 65536))) (fun a ee => execLtW (p := u) (q := 65536) rfl (ee _) rfl) (rf_ [(74, .bool (decide (u < 65536)))] (h7_ t0 t1 t2 t7 t9 t12 t73) ?_))
    rintro a A ⟨t74, -⟩ ⟨t0, t1, t2, t7, t9, t12, t73, -⟩
    refine wp_seq ?_
    by_cases ltu : u < 65536
    · rw [decide_eq_true ltu] at t74
      refine wp_cond_true t74 ?_
      refine wp_skip ?_
      clear t74
      refine wp_seq ?_
      refine wp_block ?_
      refine wp_seq ?_
      refine wi_ A (h7_ t0 t1 t2 t7 t9 t12 t73) (rf_ [(13, .int .i64 ((u : Nat) : Int))] (h7_ t0 t1 t2 t7 t9 t12 t73) ?_)
      rintro a A ⟨t13, -⟩ ⟨t0, t1, t2, t7, t9, t12, t73, -⟩
      refine wp_seq ?_
      refine wi_ A (h8_ t0 t1 t2 t7 t9 t12 t13 t73) (rv_ 3 (.int .i64 ((u / 256 : Nat) : Int)) (fun a ee => execShr15 (n := u) rfl (ee _) (by omega)) (rv_ 4 (.int .u8 ((u / 256 : Nat) : Int)) (fun a ee => execU815 (n := u / 256) rfl (ee _) (by omega)) (rv_ 6 (.int .u8 ((u % 256 : Nat) : Int)) (fun a ee => execU815 (n := u) rfl (ee _) (by omega)) (rv_ 7 (.pointer (some ⟨g28, 0 + 0, none⟩)) (fun a ee => execIdxB9 (k := 0) rfl (ee _) rfl (by decide)) (rs_ 8 (fun a ee => ?_))))))
      obtain ⟨hc_, hf_⟩ := own_cell15 FB (show 0 < 18 by decide)
      refine stepS rfl rfl (execStB rfl (ee _) (ee _) hc_ hf_) ⟨_, ⟨_, rfl, rfl⟩, fun X14_1 hX => ?_⟩
      obtain ⟨BB, FC, FB1⟩ : Below X3.heap.size X3 X14_1 ∧ (X14_1.ownsRow X3.heap.size 3 1 (.slice (some ⟨g72, 0, none⟩) (m + 1) (m + 1)) (m + 1) (intsL (m + 1) (fun k => ((nuN (tbN c d m) u k : Nat) : Int)))) ∧ (X14_1.ownsRow X3.heap.size 5 1 (.slice (some ⟨g28, 0, none⟩) 18 18) 18 (bytesL 18 (fun j => if j = 0 then u / 256 else q j))) := by subst hX; exact ⟨(BB).setCell FBg _, (own_offT FC (own_cur FB).choose_spec.1 (by decide)), (own_set8 (m := 0) (u / 256) FB)⟩
      clear FB hX ee a
      refine rv_ 9 (.pointer (some ⟨g28, 0 + 1, none⟩)) (fun a ee => execIdxB9 (k := 1) rfl (ee _) rfl (by decide)) (rs_ 10 (fun a ee => ?_))
      obtain ⟨hc_, hf_⟩ := own_cell15 FB1 (show 1 < 18 by decide)
      refine stepS rfl rfl (execStB rfl (ee _) (ee _) hc_ hf_) ⟨_, ⟨_, rfl, rfl⟩, fun X14 hX => ?_⟩
      obtain ⟨BB, FC, FB2⟩ : Below X3.heap.size X3 X14 ∧ (X14.ownsRow X3.heap.size 3 1 (.slice (some ⟨g72, 0, none⟩) (m + 1) (m + 1)) (m + 1) (intsL (m + 1) (fun k => ((nuN (tbN c d m) u k : Nat) : Int)))) ∧ (X14.ownsRow X3.heap.size 5 1 (.slice (some ⟨g28, 0, none⟩) 18 18) 18 (bytesL 18 (fun j => if j = 1 then u % 256 else (fun j => if j = 0 then u / 256 else q j) j))) := by subst hX; exact ⟨(BB).setCell FBg _, (own_offT FC (own_cur FB1).choose_spec.1 (by decide)), (own_set8 (m := 1) (u % 256) FB1)⟩
      clear FB1 hX ee a
      refine rf_ [] (h8_ t0 t1 t2 t7 t9 t12 t13 t73) ?_
      rintro a A - ⟨t0, t1, t2, t7, t9, t12, t13, t73, -⟩
      obtain ⟨q2, eq2⟩ : ∃ q2, (fun j => if j = 1 then u % 256 else (fun j => if j = 0 then u / 256 else q j) j) = q2 := ⟨_, rfl⟩
      have hq0 : q2 0 = u / 256 := by rw [← eq2]; rfl
      have hq1 : q2 1 = u % 256 := by rw [← eq2]; rfl
      have hq2 : ∀ j, j < 18 → q2 j < 256 := fun j hj => by rw [← eq2]; exact q_byte ltu hq j hj
      rw [eq2] at FB2
      have FB := FB2
      clear FB2
      obtain ⟨k, ek⟩ : ∃ k, ctN q2 ((c : Nat) : Int) ((d : Nat) : Int) ((m : Nat) : Int) = k := ⟨_, rfl⟩
      obtain ⟨hkm, hk1, hk2⟩ := ct_least (a := c) (d := d) (m := m) (p := q2) (u := u) (by rw [hq0, hq1]; omega) ltu ek
      refine wp_seq ?_
      refine wi_ A (h8_ t0 t1 t2 t7 t9 t12 t13 t73) (rc_ 4 (I.count q2 18 ((c : Nat) : Int) ((d : Nat) : Int) ((m : Nat) : Int) _ X14 (own_slice FB hq2) (by omega) hna hnd hnm) (cb_ fun X15 bQ => ?_))
      replace FC := (ownD_below FC bQ)
      replace FB := (ownsRow_below FB bQ)
      replace BB := BB.trans (bQ.mono BB.size)
      clear bQ
      refine rf_ [(14, .int .i64 ((zl (ctE 18 ((c : Nat) : Int) ((d : Nat) : Int) ((m : Nat) : Int)) (ctN q2 ((c : Nat) : Int) ((d : Nat) : Int) ((m : Nat) : Int)) : Nat) : Int)), (15, .int .i64 ((ctE 18 ((c : Nat) : Int) ((d : Nat) : Int) ((m : Nat) : Int) : Nat) : Int))] (h7_ t0 t1 t2 t7 t9 t12 t73) ?_
      rintro a A ⟨t14, t15, -⟩ ⟨t0, t1, t2, t7, t9, t12, t73, -⟩
      rw [hC, zl_ok, ek] at t14
      rw [hC] at t15
      refine wp_seq ?_
      refine wp_seq ?_
      refine wi_ A (h9_ t0 t1 t2 t7 t9 t12 t14 t15 t73) (rv_ 1 (.bool false) (fun a ee => execDec (execNeE (p := 0) (q := 0) rfl (ee _) rfl) (decide_eq_false (by omega))) (rv_ 4 (.bool false) (fun a ee => execDec (execLtW (p := k) (q := 0) rfl (ee _) rfl) (decide_eq_false (by omega))) (rv_ 9 (.bool false) (fun a ee => execDec (execGtN (p := k) (q := m) rfl (ee _) (ee _)) (decide_eq_false (by omega))) (rf_ [(103, .bool false)] (h8_ t0 t1 t2 t7 t9 t12 t14 t73) ?_))))
      rintro a A ⟨t103, -⟩ ⟨t0, t1, t2, t7, t9, t12, t14, t73, -⟩
      refine wp_cond_false t103 ?_
      refine wp_skip ?_
      clear t103
      have hnb := nu_le (f := tbN c d m) (u := u) (k := k)
      refine wi_ A (h8_ t0 t1 t2 t7 t9 t12 t14 t73) (rv_ 2 (.pointer (some ⟨g72, 0 + k, none⟩)) (fun a ee => execIdxN (k := k) rfl (ee _) (ee _) (show k < m + 1 by omega)) (rv_ 3 (.int .i64 ((nuN (tbN c d m) u k : Nat) : Int)) (fun a ee => execLd3 rfl (ee _) (own_cellI FC (show k < m + 1 by omega)).1) (rv_ 4 (.int .i64 ((nuN (tbN c d m) u k + 1 : Nat) : Int)) (fun a ee => execAd8 (p := nuN (tbN c d m) u k) (q := 1) rfl (ee _) rfl (by omega)) (rv_ 5 (.pointer (some ⟨g72, 0 + k, none⟩)) (fun a ee => execIdxN (k := k) rfl (ee _) (ee _) (show k < m + 1 by omega)) (rs_ 6 (fun a ee => ?_))))))
      obtain ⟨hc_, hf_⟩ := own_cellI FC (show k < m + 1 by omega)
      refine stepS rfl rfl (execStI9 rfl (ee _) (ee _) hc_ hf_) ⟨_, ⟨_, rfl, rfl⟩, fun X18 hX => ?_⟩
      obtain ⟨BB, FB, FC2⟩ : Below X3.heap.size X3 X18 ∧ (X18.ownsRow X3.heap.size 5 1 (.slice (some ⟨g28, 0, none⟩) 18 18) 18 (bytesL 18 (q2))) ∧ (X18.ownsRow X3.heap.size 3 1 (.slice (some ⟨g72, 0, none⟩) (m + 1) (m + 1)) (m + 1) (intsL (m + 1) (fun k => ((nuN (tbN c d m) (u + 1) k : Nat) : Int)))) := by subst hX; exact ⟨(BB).setCell FCg _, (own_offT FB (own_cur FC).choose_spec.1 (by decide)), (by rw [intsL_congr (g := fun i => if i = k then ((nuN (tbN c d m) u k + 1 : Nat) : Int) else ((fun k => ((nuN (tbN c d m) u k : Nat) : Int)) i)) (fun i _ => nu_int hmono hk1 hk2)]; exact own_setF _ FC)⟩
      clear FC hX ee a
      refine rf_ [] (h7_ t0 t1 t2 t7 t9 t12 t73) ?_
      rintro a A - ⟨t0, t1, t2, t7, t9, t12, t73, -⟩
      refine wi_ A (h7_ t0 t1 t2 t7 t9 t12 t73) (rv_ 0 (.int .i64 ((u + 1 : Nat) : Int)) (fun a ee => execAd8 (p := u) (q := 1) rfl (ee _) rfl (by omega)) (rf_ [(73, .int .i64 ((u + 1 : Nat) : Int))] (h6_ t0 t1 t2 t7 t9 t12) ?_))
      rintro a A ⟨t73, -⟩ ⟨t0, t1, t2, t7, t9, t12, -⟩
      exact ⟨⟨u + 1, q2, ltu, hq2, A, t0, t1, t2, t7, t9, t12, t73, BB, FB, FC2⟩, by show 65536 - (intOf (a.eval (.tmp 73))).toNat < 65536 - (intOf (Act.eval _ (.tmp 73))).toNat; rw [t73, esu]; show 65536 - (u + 1) < 65536 - u; omega⟩
    · rw [decide_eq_false ltu] at t74
      refine wp_cond_false t74 ?_
      refine wp_exit ?_
      first | with_reducible refine exit_in ?_ | with_reducible refine exit_then (exit_in ?_) | with_reducible refine exit_then (exit_then (exit_in ?_)) | refine exit_in ?_ | refine exit_then (exit_in ?_) | refine exit_then (exit_then (exit_in ?_))
      clear t74 esu
      have hu6 : u = 65536 := by omega
      rw [hu6] at FC
      clear t73 t1 t9 FB
      refine wp_seq ?_
      refine wi_ A (h4_ t0 t2 t7 t12) (rf_ [(16, .int .i64 ((0 : Nat) : Int))] (h4_ t0 t2 t7 t12) ?_)
      rintro a A ⟨t16, -⟩ ⟨t0, t2, t7, t12, -⟩
      refine wp_seq ?_
      refine wp_seq ?_
      refine wi_ A (h5_ t0 t2 t7 t12 t16) (rv_ 1 (.int .i64 ((m + 1 : Nat) : Int)) (fun a ee => execLenI (len := m + 1) rfl (ee _) ⟨_, _, rfl⟩) (rf_ [(111, .slice (some ⟨g72, 0, none⟩) (m + 1) (m + 1)), (112, .int .i64 ((m + 1 : Nat) : Int)), (113, .int .i64 ((0 : Nat) : Int))] (h5_ t0 t2 t7 t12 t16) ?_))
      rintro a A ⟨t111, t112, t113, -⟩ ⟨t0, t2, t7, t12, t16, -⟩
      replace t16 : a.eval (.tmp 16) = .int .i64 ((suN (tbN c d m) 0 : Nat) : Int) := t16
      refine wp_block ?_
      refine wp_loop (fun a W => ∃ (k : Nat), k ≤ m + 1 ∧ (a.tmps.size = 146 ∧ a.defers = []) ∧ a.eval (.tmp 0) = .int .i64 ((c : Nat) : Int) ∧ a.eval (.tmp 2) = .int .i64 ((m : Nat) : Int) ∧ a.eval (.tmp 7) = v25 ∧ a.eval (.tmp 12) = .slice (some ⟨g72, 0, none⟩) (m + 1) (m + 1) ∧ a.eval (.tmp 16) = .int .i64 ((suN (tbN c d m) k : Nat) : Int) ∧ a.eval (.tmp 111) = .slice (some ⟨g72, 0, none⟩) (m + 1) (m + 1) ∧ a.eval (.tmp 112) = .int .i64 ((m + 1 : Nat) : Int) ∧ a.eval (.tmp 113) = .int .i64 ((k : Nat) : Int) ∧ Below X3.heap.size X3 W ∧ (W.ownsRow X3.heap.size 3 1 (.slice (some ⟨g72, 0, none⟩) (m + 1) (m + 1)) (m + 1) (intsL (m + 1) (fun k => ((nuN (tbN c d m) 65536 k : Nat) : Int))))) (fun a _ => m + 1 - (intOf (a.eval (.tmp 113))).toNat) ⟨0, Nat.zero_le _, A, t0, t2, t7, t12, t16, t111, t112, t113, BB, FC⟩ ?_
      clear A t0 t2 t7 t12 t16 t111 t112 t113 BB FC a
      rintro a XL22 ⟨k, hk, A, t0, t2, t7, t12, t16, t111, t112, t113, BB, FC⟩
      have esk := t113
      refine wp_seq ?_
      refine wi_ A (h8_ t0 t2 t7 t12 t16 t111 t112 t113) (rv_ 0 (.bool (decide (k < m + 1))) (fun a ee => execLtW (p := k) (q := m + 1) rfl (ee _) (ee _)) (rf_ [(114, .bool (decide (k < m + 1)))] (h8_ t0 t2 t7 t12 t16 t111 t112 t113) ?_))
      rintro a A ⟨t114, -⟩ ⟨t0, t2, t7, t12, t16, t111, t112, t113, -⟩
      refine wp_seq ?_
      by_cases ltk : k < m + 1
      · rw [decide_eq_true ltk] at t114
        refine wp_cond_true t114 ?_
        refine wp_skip ?_
        clear t114
        refine wp_seq ?_
        refine wp_block ?_
        have hkm : k ≤ m := by omega
        have htk := tb_le (a := c) (d := d) hkm
        have hsu := su_add (a := c) (d := d) hkm
        have hnk : nuN (tbN c d m) 65536 k ≤ 65536 := nu_le2 (a := c) (d := d) hkm
        refine wp_seq ?_
        refine wi_ A (h8_ t0 t2 t7 t12 t16 t111 t112 t113) (rv_ 1 (.pointer (some ⟨g72, 0 + k, none⟩)) (fun a ee => execIdxN (k := k) rfl (ee _) (ee _) (show k < m + 1 by omega)) (rv_ 2 (.int .i64 ((nuN (tbN c d m) 65536 k : Nat) : Int)) (fun a ee => execLd3 rfl (ee _) (own_cellI FC (show k < m + 1 by omega)).1) (rf_ [(17, .int .i64 ((k : Nat) : Int)), (18, .int .i64 ((nuN (tbN c d m) 65536 k : Nat) : Int))] (h8_ t0 t2 t7 t12 t16 t111 t112 t113) ?_)))
        rintro a A ⟨t17, t18, -⟩ ⟨t0, t2, t7, t12, t16, t111, t112, t113, -⟩
        have hsb : suN (tbN c d m) k ≤ 65536 := by omega
        refine wp_seq ?_
        refine wi_ A (h10_ t0 t2 t7 t12 t16 t111 t112 t17 t18 t113) (rv_ 2 (.int .i64 ((suN (tbN c d m) k + nuN (tbN c d m) 65536 k : Nat) : Int)) (fun a ee => execAd8 (p := suN (tbN c d m) k) (q := nuN (tbN c d m) 65536 k) rfl (ee _) (ee _) (by omega)) (rf_ [(16, .int .i64 ((suN (tbN c d m) k + nuN (tbN c d m) 65536 k : Nat) : Int))] (h9_ t0 t2 t7 t12 t111 t112 t17 t18 t113) ?_))
        rintro a A ⟨t16, -⟩ ⟨t0, t2, t7, t12, t111, t112, t17, t18, t113, -⟩
        rw [hsu] at t16
        refine wp_seq ?_
        by_cases hc0 : 0 < c
        · by_cases hk0 : 0 < k
          · have hev := nu_even (a := c) (d := d) had hkm hk0
            have hn1 : nuN (tbN c d m) 65536 (k - 1) ≤ 65536 := nu_le2 (a := c) (d := d) (by omega)
            refine wi_ A (h10_ t0 t2 t7 t12 t16 t111 t112 t17 t18 t113) (rv_ 3 (.pointer (some ⟨llb, llo + k, none⟩)) (fun a ee => execIdxN (k := k) rfl ((ee _).trans ell) (ee _) (by omega)) (rv_ 4 (.int .i64 ((tbN c d m k : Nat) : Int)) (fun a ee => execLd3 rfl (ee _) (cll k (by omega) XL22 BB)) (rv_ 5 (.bool false) (fun a ee => execDec (execNeN (p := tbN c d m k) (q := tbN c d m k) rfl (ee _) (ee _)) (decide_eq_false (by omega))) (rv_ 8 (.bool true) (fun a ee => execDec (execGtN (p := c) (q := 0) rfl (ee _) rfl) (decide_eq_true (by omega))) (rv_ 11 (.bool true) (fun a ee => execDec (execGtN (p := k) (q := 0) rfl (ee _) rfl) (decide_eq_true (by omega))) (rv_ 17 (.int .i64 ((k - 1 : Nat) : Int)) (fun a ee => By8.execSubI (p := k) (q := 1) rfl (ee _) rfl (by omega) (by omega)) (rv_ 18 (.pointer (some ⟨g72, 0 + (k - 1), none⟩)) (fun a ee => execIdxN (k := k - 1) rfl (ee _) (ee _) (show k - 1 < m + 1 by omega)) (rv_ 19 (.int .i64 ((nuN (tbN c d m) 65536 (k - 1) : Nat) : Int)) (fun a ee => execLd3 rfl (ee _) (own_cellI FC (show k - 1 < m + 1 by omega)).1) (rv_ 20 (.int .i64 ((nuN (tbN c d m) 65536 (k - 1) + 1 : Nat) : Int)) (fun a ee => execAd8 (p := nuN (tbN c d m) 65536 (k - 1)) (q := 1) rfl (ee _) rfl (by omega)) (rv_ 21 (.bool false) (fun a ee => execDec (execGtN (p := nuN (tbN c d m) 65536 k) (q := nuN (tbN c d m) 65536 (k - 1) + 1) rfl (ee _) (ee _)) (decide_eq_false (by omega))) (rf_ [(144, .bool false)] (h8_ t0 t2 t7 t12 t16 t111 t112 t113) ?_)))))))))))
            rintro a A ⟨t144, -⟩ ⟨t0, t2, t7, t12, t16, t111, t112, t113, -⟩
            refine wp_cond_false t144 ?_
            refine wp_skip ?_
            clear t144
            replace t16 : a.eval (.tmp 16) = .int .i64 ((suN (tbN c d m) (k + 1) : Nat) : Int) := t16
            refine wi_ A (h8_ t0 t2 t7 t12 t16 t111 t112 t113) (rv_ 0 (.int .i64 ((k + 1 : Nat) : Int)) (fun a ee => execAd8 (p := k) (q := 1) rfl (ee _) rfl (by omega)) (rf_ [(113, .int .i64 ((k + 1 : Nat) : Int))] (h7_ t0 t2 t7 t12 t16 t111 t112) ?_))
            rintro a A ⟨t113, -⟩ ⟨t0, t2, t7, t12, t16, t111, t112, -⟩
            exact ⟨⟨k + 1, ltk, A, t0, t2, t7, t12, t16, t111, t112, t113, BB, FC⟩, by show m + 1 - (intOf (a.eval (.tmp 113))).toNat < m + 1 - (intOf (Act.eval _ (.tmp 113))).toNat; rw [t113, esk]; show m + 1 - (k + 1) < m + 1 - k; omega⟩
          · refine wi_ A (h10_ t0 t2 t7 t12 t16 t111 t112 t17 t18 t113) (rv_ 3 (.pointer (some ⟨llb, llo + k, none⟩)) (fun a ee => execIdxN (k := k) rfl ((ee _).trans ell) (ee _) (by omega)) (rv_ 4 (.int .i64 ((tbN c d m k : Nat) : Int)) (fun a ee => execLd3 rfl (ee _) (cll k (by omega) XL22 BB)) (rv_ 5 (.bool false) (fun a ee => execDec (execNeN (p := tbN c d m k) (q := tbN c d m k) rfl (ee _) (ee _)) (decide_eq_false (by omega))) (rv_ 8 (.bool true) (fun a ee => execDec (execGtN (p := c) (q := 0) rfl (ee _) rfl) (decide_eq_true (by omega))) (rv_ 11 (.bool false) (fun a ee => execDec (execGtN (p := k) (q := 0) rfl (ee _) rfl) (decide_eq_false (by omega))) (rf_ [(144, .bool false)] (h8_ t0 t2 t7 t12 t16 t111 t112 t113) ?_))))))
            rintro a A ⟨t144, -⟩ ⟨t0, t2, t7, t12, t16, t111, t112, t113, -⟩
            refine wp_cond_false t144 ?_
            refine wp_skip ?_
            clear t144
            replace t16 : a.eval (.tmp 16) = .int .i64 ((suN (tbN c d m) (k + 1) : Nat) : Int) := t16
            refine wi_ A (h8_ t0 t2 t7 t12 t16 t111 t112 t113) (rv_ 0 (.int .i64 ((k + 1 : Nat) : Int)) (fun a ee => execAd8 (p := k) (q := 1) rfl (ee _) rfl (by omega)) (rf_ [(113, .int .i64 ((k + 1 : Nat) : Int))] (h7_ t0 t2 t7 t12 t16 t111 t112) ?_))
            rintro a A ⟨t113, -⟩ ⟨t0, t2, t7, t12, t16, t111, t112, -⟩
            exact ⟨⟨k + 1, ltk, A, t0, t2, t7, t12, t16, t111, t112, t113, BB, FC⟩, by show m + 1 - (intOf (a.eval (.tmp 113))).toNat < m + 1 - (intOf (Act.eval _ (.tmp 113))).toNat; rw [t113, esk]; show m + 1 - (k + 1) < m + 1 - k; omega⟩
        · refine wi_ A (h10_ t0 t2 t7 t12 t16 t111 t112 t17 t18 t113) (rv_ 3 (.pointer (some ⟨llb, llo + k, none⟩)) (fun a ee => execIdxN (k := k) rfl ((ee _).trans ell) (ee _) (by omega)) (rv_ 4 (.int .i64 ((tbN c d m k : Nat) : Int)) (fun a ee => execLd3 rfl (ee _) (cll k (by omega) XL22 BB)) (rv_ 5 (.bool false) (fun a ee => execDec (execNeN (p := tbN c d m k) (q := tbN c d m k) rfl (ee _) (ee _)) (decide_eq_false (by omega))) (rv_ 8 (.bool false) (fun a ee => execDec (execGtN (p := c) (q := 0) rfl (ee _) rfl) (decide_eq_false (by omega))) (rf_ [(144, .bool false)] (h8_ t0 t2 t7 t12 t16 t111 t112 t113) ?_)))))
          rintro a A ⟨t144, -⟩ ⟨t0, t2, t7, t12, t16, t111, t112, t113, -⟩
          refine wp_cond_false t144 ?_
          refine wp_skip ?_
          clear t144
          replace t16 : a.eval (.tmp 16) = .int .i64 ((suN (tbN c d m) (k + 1) : Nat) : Int) := t16
          refine wi_ A (h8_ t0 t2 t7 t12 t16 t111 t112 t113) (rv_ 0 (.int .i64 ((k + 1 : Nat) : Int)) (fun a ee => execAd8 (p := k) (q := 1) rfl (ee _) rfl (by omega)) (rf_ [(113, .int .i64 ((k + 1 : Nat) : Int))] (h7_ t0 t2 t7 t12 t16 t111 t112) ?_))
          rintro a A ⟨t113, -⟩ ⟨t0, t2, t7, t12, t16, t111, t112, -⟩
          exact ⟨⟨k + 1, ltk, A, t0, t2, t7, t12, t16, t111, t112, t113, BB, FC⟩, by show m + 1 - (intOf (a.eval (.tmp 113))).toNat < m + 1 - (intOf (Act.eval _ (.tmp 113))).toNat; rw [t113, esk]; show m + 1 - (k + 1) < m + 1 - k; omega⟩
      · rw [decide_eq_false ltk] at t114
        refine wp_cond_false t114 ?_
        refine wp_exit ?_
        first | with_reducible refine exit_in ?_ | with_reducible refine exit_then (exit_in ?_) | with_reducible refine exit_then (exit_then (exit_in ?_)) | refine exit_in ?_ | refine exit_then (exit_in ?_) | refine exit_then (exit_then (exit_in ?_))
        clear t114 esk
        clear t0 t2 t7 t12 t16 t111 t112 t113 FC
        have BW2 := BW.trans (BB.mono BW.size)
        refine wp_seq ?_
        refine wi_ A h0_ (rg_ [(6, .bool true)] ?_)
        rintro a A ⟨t6, -⟩
        refine wp_ret ?_
        refine bodyPost_ret (results_tmp rfl _ _ _) A.2 ⟨?_, BW2⟩
        show Ending.returned (a.eval (.tmp 6)) = _
        rw [t6]
  · have hE : tbE na nd nm = 2 := if_neg hin
    have hC : ctE 18 na nd nm = 2 := if_neg hin
    refine wi_ A (h6_ t0 t1 t2 t7 t8 t9) (rv_ 1 (.bool true) (fun a ee => execDec (execNeE (p := tbE na nd nm) (q := 0) rfl (ee _) rfl) (decide_eq_true (by omega))) (rf_ [(30, .bool true)] (h6_ t0 t1 t2 t7 t8 t9) ?_))
    rintro a A ⟨t30, -⟩ ⟨t0, t1, t2, t7, t8, t9, -⟩
    refine wp_cond_true t30 ?_
    clear t30
    refine wp_seq ?_
    have FXs : SliceN X4 (.slice (some ⟨g28, 0, none⟩) 18 18) 18 (fun _ => 0) := own_slice FB (fun _ _ => by decide)
    clear FB
    replace Fv25 := (Fv25.on BB)
    replace BW := BW.trans (BB.mono BW.size)
    clear BB
    refine wi_ A (h6_ t0 t1 t2 t7 t8 t9) (rc_ 4 (I.count (fun _ => 0) 18 na nd nm _ X4 FXs (by omega) hna hnd hnm) (cb_ fun X6 bQ => ?_))
    have bX := bQ
    clear bQ
    refine rf_ [(10, .int .i64 ((zl (ctE 18 na nd nm) (ctN (fun _ => 0) na nd nm) : Nat) : Int)), (11, .int .i64 ((ctE 18 na nd nm : Nat) : Int))] (h2_ t7 t8) ?_
    rintro a A ⟨t10, t11, -⟩ ⟨t7, t8, -⟩
    replace Fv25 := (Fv25.on bX)
    replace FXs := (FXs.on bX)
    have ZX6 := bX.size
    replace BW := BW.trans (bX.mono BW.size)
    clear bX
    rw [hC, zl_no (by decide)] at t10
    rw [hC] at t11
    rw [hE] at t8
    rw [hE, zl_no (by decide)] at Fv25
    refine wp_seq ?_
    refine wi_ A (h4_ t7 t8 t10 t11) (rv_ 1 (.bool true) (fun a ee => execDec (execEqE (p := 2) (q := 2) rfl (ee _) rfl) (decide_eq_true (by decide))) (rv_ 4 (.bool true) (fun a ee => execDec (execEqE (p := 2) (q := 2) rfl (ee _) rfl) (decide_eq_true (by decide))) (rv_ 8 (.bool true) (fun a ee => execDec (execEqN (p := 0) (q := 0) rfl (ee _) rfl) (decide_eq_true (by decide))) (rv_ 12 (.int .i64 ((0 : Nat) : Int)) (fun a ee => execLenI (len := 0) rfl (ee _) Fv25.shp) (rv_ 13 (.bool true) (fun a ee => execDec (execEqN (p := 0) (q := 0) rfl (ee _) rfl) (decide_eq_true (by decide))) (rg_ [(6, .bool true)] ?_))))))
    rintro a A ⟨t6, -⟩
    refine wp_ret ?_
    repeat (first | with_reducible refine ret_in ?_ | with_reducible refine ret_then ?_)
    refine bodyPost_ret (results_tmp rfl _ _ _) A.2 ⟨?_, BW⟩
    show Ending.returned (a.eval (.tmp 6)) = _
    rw [t6]
end Go.Proofs.Ytmfaapbhehhlpaa.Noi
