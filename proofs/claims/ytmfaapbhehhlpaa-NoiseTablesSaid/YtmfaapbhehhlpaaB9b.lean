import Derived.Test.YtmfaapbhehhlpaaB9a
import Derived.Test.YtmfaapbhehhlpaaF9c
import Derived.Test.YtmfaapbhehhlpaaZ9a
import Derived.Test.YtmfaapbhehhlpaaG9c
import Derived.Test.YtmfaapbhehhlpaaV9q
import Derived.Test.YtmfaapbhehhlpaaP9d
namespace Go.Proofs.Ytmfaapbhehhlpaa.Noi
open Go.RowKit Gf8 Aes By8 Cel Cf Tap Drw Prm
/- The reference's fits, weight, upto, Table, Count. Written by tools/mkB9b.py. -/

/-- The sum ahead of a place. -/
def sN (a d : Nat) : Nat → Nat
  | 0 => 0
  | k + 1 => sN a d k + wN a d k
theorem s_u {a d : Nat} : ∀ {k : Nat}, sN a d (k + 1) = uN a d k
  | 0 => by show 0 + wN a d 0 = wN a d 0; omega
  | k + 1 => by show sN a d (k + 1) + wN a d (k + 1) = uN a d k + wN a d (k + 1); rw [s_u]
theorem s_le {a d : Nat} (h : a ≤ d) : ∀ k, sN a d k ≤ k * 4294967296
  | 0 => by show 0 ≤ _; omega
  | k + 1 => by
    have h1 := s_le h k
    have h2 := w_le h k
    show sN a d k + wN a d k ≤ _
    omega
/-- What fits, what is answered. -/
abbrev fiN (a d m : Int) : Prop := 0 ≤ a ∧ a ≤ d ∧ 1 ≤ d ∧ d ≤ 1000 ∧ 0 ≤ m ∧ m ≤ 16
def tbE (a d m : Int) : Nat := if fiN a d m then 0 else 2
def tbF (a d m : Int) (k : Nat) : Int := ((tbN a.toNat d.toNat m.toNat k : Nat) : Int)
def ctE (L : Nat) (a d m : Int) : Nat := if fiN a d m then (if 18 ≤ L then 0 else 3) else 2
def ctN (p : Nat → Nat) (a d m : Int) : Nat := coN (tbN a.toNat d.toNat m.toNat) (p 0 * 256 + p 1) (m.toNat + 1)
theorem ct_is {p : Nat → Nat} {a d m i u : Nat} (hi : i ≤ m) (h1 : ∀ j, j < i → tbN a d m j ≤ u) (h2 : u < tbN a d m i) (eu : p 0 * 256 + p 1 = u) : ctN p ((a : Nat) : Int) ((d : Nat) : Int) ((m : Nat) : Int) = i := by
  unfold ctN
  rw [eu]
  exact co_stop (fun _ _ h _ => tb_mono h) (by show i < m + 1; omega) h1 h2
theorem tb_fits {na nd nm : Int} : ∀ j, j < zl (tbE na nd nm) (nm.toNat + 1) → -9223372036854775808 ≤ tbF na nd nm j ∧ tbF na nd nm j < 9223372036854775808 := fun j hj => by
  have h : tbN na.toNat nd.toNat nm.toNat j ≤ 65536 := tb_le (by
    by_cases h : tbE na nd nm = 0
    · rw [h, zl_ok] at hj; omega
    · rw [zl_no h] at hj; omega)
  unfold tbF
  omega
section
variable {o : Oper} {a : Act} {w : World}
theorem execLtS {x y : Operand} {p q : Nat} (ho : o.op = .binOp .leq 3 x y 3) (hx : a.eval x = .int .i64 (p : Int)) (hy : a.eval y = .int .i64 (q : Int)) : (execOp a.eval o).run Try.prog w = .ok (.value (.bool (decide (p < q + 1)))) w := by
  rw [execLeN ho hx hy, decide_eq_decide.2 (Nat.lt_succ_iff (m := p) (n := q)).symm]
theorem execLeIt {x y : Operand} {p q : Int} (ho : o.op = .binOp .leq 3 x y 3) (hx : a.eval x = .int .i64 p) (hy : a.eval y = .int .i64 q) (h : p ≤ q) : (execOp a.eval o).run Try.prog w = .ok (.value (.bool true)) w := by
  unfold execOp
  simp only [ho, hx, hy]
  simp [go_sem, h]
theorem execLeIf {x y : Operand} {p q : Int} (ho : o.op = .binOp .leq 3 x y 3) (hx : a.eval x = .int .i64 p) (hy : a.eval y = .int .i64 q) (h : ¬ p ≤ q) : (execOp a.eval o).run Try.prog w = .ok (.value (.bool false)) w := by
  unfold execOp
  simp only [ho, hx, hy]
  simp [go_sem]
  omega
end
theorem open_sl {W : World} {v : Value} {n : Nat} {f : Nat → Int} (h : SliceI W v n f) (hn : 0 < n) : ∃ b o c, v = .slice (some ⟨b, o, none⟩) n c ∧ b < W.heap.size ∧ ∀ j, j < n → W.cell? ⟨b, o + j, none⟩ = some (.int .i64 (f j)) := by
  obtain ⟨a, c, rfl, _, _, hs⟩ := h.shape
  obtain ⟨b, o, rfl, h1, h2⟩ := hs hn
  exact ⟨b, o, c, rfl, h1, h2⟩
theorem open_slB {W : World} {v : Value} {n : Nat} {f : Nat → Nat} (h : SliceN W v n f) (hn : 0 < n) : ∃ b o c, v = .slice (some ⟨b, o, none⟩) n c ∧ b < W.heap.size ∧ ∀ k, k < n → W.cell? ⟨b, o + k, none⟩ = some (.int .u8 ((f k : Nat) : Int)) := by
  obtain ⟨⟨a, c, e, _, _, h3⟩, _⟩ := h
  obtain ⟨b, o, e2, h4, h5⟩ := h3 hn
  exact ⟨b, o, c, by rw [e, e2], h4, h5⟩
set_option maxRecDepth 100000 in
theorem rfits1 {na nd nm : Int} (hin : fiN na nd nm) (V : World) : Calls Try.prog 18 #[.int .i64 na, .int .i64 nd, .int .i64 nm] V fun e w' => e = .returned (.bool true) ∧ Below V.heap.size V w' := by
  go_enter Try.func18, Try.ntmps18
  refine wo_ 30 [(0, .int .i64 na), (1, .int .i64 nd), (2, .int .i64 nm)] ?_
  rintro a A ⟨t0, t1, t2, -⟩
  refine wp_seq ?_
  refine wi_ A (h3_ t0 t1 t2) (rf_ [] (h3_ t0 t1 t2) ?_)
  rintro a A - ⟨t0, t1, t2, -⟩
  refine wp_seq ?_
  refine wi_ A (h3_ t0 t1 t2) (rv_ 1 (.bool true) (fun a ee => execGeIt rfl (ee _) rfl hin.1) (rv_ 5 (.bool true) (fun a ee => execLeIt rfl (ee _) (ee _) hin.2.1) (rv_ 9 (.bool true) (fun a ee => execGeIt rfl (ee _) rfl hin.2.2.1) (rv_ 13 (.bool true) (fun a ee => execLeIt rfl (ee _) rfl hin.2.2.2.1) (rv_ 17 (.bool true) (fun a ee => execGeIt rfl (ee _) rfl hin.2.2.2.2.1) (rv_ 21 (.bool true) (fun a ee => execLeIt rfl (ee _) rfl hin.2.2.2.2.2) (rg_ [(6, .bool true)] ?_)))))))
  rintro a A ⟨t6, -⟩
  refine wp_ret ?_
  refine bodyPost_ret (results_tmp rfl _ _ _) A.2 ⟨?_, Below.refl _ _⟩
  show Ending.returned (a.eval (.tmp 6)) = _
  rw [t6]
set_option maxRecDepth 100000 in
theorem rfits0 {na nd nm : Int} (hin : ¬ fiN na nd nm) (V : World) : Calls Try.prog 18 #[.int .i64 na, .int .i64 nd, .int .i64 nm] V fun e w' => e = .returned (.bool false) ∧ Below V.heap.size V w' := by
  go_enter Try.func18, Try.ntmps18
  refine wo_ 30 [(0, .int .i64 na), (1, .int .i64 nd), (2, .int .i64 nm)] ?_
  rintro a A ⟨t0, t1, t2, -⟩
  refine wp_seq ?_
  refine wi_ A (h3_ t0 t1 t2) (rf_ [] (h3_ t0 t1 t2) ?_)
  rintro a A - ⟨t0, t1, t2, -⟩
  refine wp_seq ?_
  have key : ∀ a : Act, (a.tmps.size = 30 ∧ a.defers = []) → Hd a [(6, .bool false)] → Code.ret.wp Try.prog (bodyPost Try.prog Try.f18 fun e w' => e = .returned (.bool false) ∧ Below V.heap.size V w') a V := by
    rintro a A ⟨t6, -⟩
    refine wp_ret ?_
    refine bodyPost_ret (results_tmp rfl _ _ _) A.2 ⟨?_, Below.refl _ _⟩
    show Ending.returned (a.eval (.tmp 6)) = _
    rw [t6]
  by_cases q0 : 0 ≤ na
  · by_cases q1 : na ≤ nd
    · by_cases q2 : 1 ≤ nd
      · by_cases q3 : nd ≤ 1000
        · by_cases q4 : 0 ≤ nm
          · by_cases q5 : nm ≤ 16
            · exact absurd ⟨q0, q1, q2, q3, q4, q5⟩ hin
            · exact wi_ A (h3_ t0 t1 t2) (rv_ 1 (.bool true) (fun a ee => execGeIt rfl (ee _) rfl q0) (rv_ 5 (.bool true) (fun a ee => execLeIt rfl (ee _) (ee _) q1) (rv_ 9 (.bool true) (fun a ee => execGeIt rfl (ee _) rfl q2) (rv_ 13 (.bool true) (fun a ee => execLeIt rfl (ee _) rfl q3) (rv_ 17 (.bool true) (fun a ee => execGeIt rfl (ee _) rfl q4) (rv_ 21 (.bool false) (fun a ee => execLeIf rfl (ee _) rfl q5) (rg_ [(6, .bool false)] key)))))))
          · exact wi_ A (h3_ t0 t1 t2) (rv_ 1 (.bool true) (fun a ee => execGeIt rfl (ee _) rfl q0) (rv_ 5 (.bool true) (fun a ee => execLeIt rfl (ee _) (ee _) q1) (rv_ 9 (.bool true) (fun a ee => execGeIt rfl (ee _) rfl q2) (rv_ 13 (.bool true) (fun a ee => execLeIt rfl (ee _) rfl q3) (rv_ 17 (.bool false) (fun a ee => execGeIf rfl (ee _) rfl q4) (rg_ [(6, .bool false)] key))))))
        · exact wi_ A (h3_ t0 t1 t2) (rv_ 1 (.bool true) (fun a ee => execGeIt rfl (ee _) rfl q0) (rv_ 5 (.bool true) (fun a ee => execLeIt rfl (ee _) (ee _) q1) (rv_ 9 (.bool true) (fun a ee => execGeIt rfl (ee _) rfl q2) (rv_ 13 (.bool false) (fun a ee => execLeIf rfl (ee _) rfl q3) (rg_ [(6, .bool false)] key)))))
      · exact wi_ A (h3_ t0 t1 t2) (rv_ 1 (.bool true) (fun a ee => execGeIt rfl (ee _) rfl q0) (rv_ 5 (.bool true) (fun a ee => execLeIt rfl (ee _) (ee _) q1) (rv_ 9 (.bool false) (fun a ee => execGeIf rfl (ee _) rfl q2) (rg_ [(6, .bool false)] key))))
    · exact wi_ A (h3_ t0 t1 t2) (rv_ 1 (.bool true) (fun a ee => execGeIt rfl (ee _) rfl q0) (rv_ 5 (.bool false) (fun a ee => execLeIf rfl (ee _) (ee _) q1) (rg_ [(6, .bool false)] key)))
  · exact wi_ A (h3_ t0 t1 t2) (rv_ 1 (.bool false) (fun a ee => execGeIf rfl (ee _) rfl q0) (rg_ [(6, .bool false)] key))
set_option maxRecDepth 100000 in
set_option maxHeartbeats 4000000 in
/-- The reference's weight. -/
theorem rweight (c d k : Nat) (V : World) (had : c ≤ d) (h1 : 1 ≤ d) (h2 : d ≤ 1000) (hk16 : k ≤ 16) :
    Calls Try.prog 31 #[.int .i64 ((c : Nat) : Int), .int .i64 ((d : Nat) : Int), .int .i64 ((k : Nat) : Int)] V fun e w' => e = .returned (.int .i64 ((wN c d k : Nat) : Int)) ∧ Below V.heap.size V w' := by
  go_enter Try.func31, Try.ntmps31
  refine wp_seq ?_
  refine wo_ 20 [(0, .int .i64 ((c : Nat) : Int)), (1, .int .i64 ((d : Nat) : Int)), (2, .int .i64 ((k : Nat) : Int))] ?_
  rintro a A ⟨t0, t1, t2, -⟩
  refine wi_ A (h3_ t0 t1 t2) (rf_ [] (h3_ t0 t1 t2) ?_)
  rintro a A - ⟨t0, t1, t2, -⟩
  have BW : Below V.heap.size V V := Below.refl _ _
  have BB := BW
  refine wp_seq ?_
  refine wi_ A (h3_ t0 t1 t2) (rf_ [(7, .int .i64 ((4294967296 : Nat) : Int))] (h3_ t0 t1 t2) ?_)
  rintro a A ⟨t7, -⟩ ⟨t0, t1, t2, -⟩
  refine wp_seq ?_
  refine wp_seq ?_
  refine wi_ A (h4_ t0 t1 t2 t7) (rf_ [(8, .int .i64 ((0 : Nat) : Int))] (h4_ t0 t1 t2 t7) ?_)
  rintro a A ⟨t8, -⟩ ⟨t0, t1, t2, t7, -⟩
  refine wp_block ?_
  refine wp_loop (fun a W => ∃ (i : Nat), i ≤ k ∧ (a.tmps.size = 20 ∧ a.defers = []) ∧ a.eval (.tmp 0) = .int .i64 ((c : Nat) : Int) ∧ a.eval (.tmp 1) = .int .i64 ((d : Nat) : Int) ∧ a.eval (.tmp 2) = .int .i64 ((k : Nat) : Int) ∧ a.eval (.tmp 7) = .int .i64 ((wN c d i : Nat) : Int) ∧ a.eval (.tmp 8) = .int .i64 ((i : Nat) : Int) ∧ Below V.heap.size V W) (fun a _ => k - (intOf (a.eval (.tmp 8))).toNat) ⟨0, Nat.zero_le _, A, t0, t1, t2, t7, t8, BB⟩ ?_
  clear A t0 t1 t2 t7 t8 BB a
  rintro a XL3 ⟨i, hi, A, t0, t1, t2, t7, t8, BB⟩
  have esi := t8
  refine wp_seq ?_
  refine wp_seq ?_
  refine wi_ A (h5_ t0 t1 t2 t7 t8) (rv_ 2 (.bool (decide (i < k))) (fun a ee => execLtW (p := i) (q := k) rfl (ee _) (ee _)) (rf_ [(11, .bool (decide (i < k)))] (h5_ t0 t1 t2 t7 t8) ?_))
  rintro a A ⟨t11, -⟩ ⟨t0, t1, t2, t7, t8, -⟩
  by_cases lti : i < k
  · rw [decide_eq_true lti] at t11
    refine wp_cond_true t11 ?_
    refine wp_skip ?_
    clear t11
    refine wp_seq ?_
    refine wp_block ?_
    have hwi := w_le had i
    have hmu : wN c d i * c ≤ 4294967296 * 1000 := Nat.mul_le_mul hwi (by omega)
    refine wi_ A (h5_ t0 t1 t2 t7 t8) (rv_ 2 (.int .i64 (((wN c d i) * c : Nat) : Int)) (fun a ee => execMulN (p := wN c d i) (q := c) rfl (ee _) (ee _) (by omega)) (rv_ 4 (.int .i64 ((((wN c d i) * c) / d : Nat) : Int)) (fun a ee => execQuoN (p := (wN c d i) * c) (q := d) rfl (ee _) (ee _) (by omega) (by omega)) (rf_ [(7, .int .i64 ((((wN c d i) * c) / d : Nat) : Int))] (h4_ t0 t1 t2 t8) ?_)))
    rintro a A ⟨t7, -⟩ ⟨t0, t1, t2, t8, -⟩
    refine wi_ A (h5_ t0 t1 t2 t7 t8) (rv_ 1 (.int .i64 ((i + 1 : Nat) : Int)) (fun a ee => execAd8 (p := i) (q := 1) rfl (ee _) rfl (by omega)) (rf_ [(8, .int .i64 ((i + 1 : Nat) : Int))] (h4_ t0 t1 t2 t7) ?_))
    rintro a A ⟨t8, -⟩ ⟨t0, t1, t2, t7, -⟩
    exact ⟨⟨i + 1, lti, A, t0, t1, t2, t7, t8, BB⟩, by show k - (intOf (a.eval (.tmp 8))).toNat < k - (intOf (Act.eval _ (.tmp 8))).toNat; rw [t8, esi]; show k - (i + 1) < k - i; omega⟩
  · rw [decide_eq_false lti] at t11
    refine wp_cond_false t11 ?_
    refine wp_exit ?_
    first | with_reducible refine exit_in ?_ | with_reducible refine exit_then (exit_in ?_) | with_reducible refine exit_then (exit_then (exit_in ?_)) | refine exit_in ?_ | refine exit_then (exit_in ?_) | refine exit_then (exit_then (exit_in ?_))
    clear t11 esi
    have hik : i = k := by omega
    rw [hik] at t7
    clear t0 t1 t2 t8
    refine wp_seq ?_
    refine wi_ A (h1_ t7) (rg_ [(6, .int .i64 ((wN c d k : Nat) : Int))] ?_)
    rintro a A ⟨t6, -⟩
    refine wp_ret ?_
    refine bodyPost_ret (results_tmp rfl _ _ _) A.2 ⟨?_, BB⟩
    show Ending.returned (a.eval (.tmp 6)) = _
    rw [t6]
set_option maxRecDepth 100000 in
set_option maxHeartbeats 4000000 in
/-- The reference's upto. -/
theorem rupto (c d k : Nat) (V : World) (had : c ≤ d) (h1 : 1 ≤ d) (h2 : d ≤ 1000) (hk16 : k ≤ 16) :
    Calls Try.prog 19 #[.int .i64 ((c : Nat) : Int), .int .i64 ((d : Nat) : Int), .int .i64 ((k : Nat) : Int)] V fun e w' => e = .returned (.int .i64 ((uN c d k : Nat) : Int)) ∧ Below V.heap.size V w' := by
  go_enter Try.func19, Try.ntmps19
  refine wp_seq ?_
  refine wo_ 23 [(0, .int .i64 ((c : Nat) : Int)), (1, .int .i64 ((d : Nat) : Int)), (2, .int .i64 ((k : Nat) : Int))] ?_
  rintro a A ⟨t0, t1, t2, -⟩
  refine wi_ A (h3_ t0 t1 t2) (rf_ [] (h3_ t0 t1 t2) ?_)
  rintro a A - ⟨t0, t1, t2, -⟩
  have BW : Below V.heap.size V V := Below.refl _ _
  have BB := BW
  refine wp_seq ?_
  refine wi_ A (h3_ t0 t1 t2) (rf_ [(7, .int .i64 ((0 : Nat) : Int))] (h3_ t0 t1 t2) ?_)
  rintro a A ⟨t7, -⟩ ⟨t0, t1, t2, -⟩
  refine wp_seq ?_
  refine wp_seq ?_
  refine wi_ A (h4_ t0 t1 t2 t7) (rf_ [(8, .int .i64 ((0 : Nat) : Int))] (h4_ t0 t1 t2 t7) ?_)
  rintro a A ⟨t8, -⟩ ⟨t0, t1, t2, t7, -⟩
  refine wp_block ?_
  refine wp_loop (fun a W => ∃ (i : Nat), i ≤ k + 1 ∧ (a.tmps.size = 23 ∧ a.defers = []) ∧ a.eval (.tmp 0) = .int .i64 ((c : Nat) : Int) ∧ a.eval (.tmp 1) = .int .i64 ((d : Nat) : Int) ∧ a.eval (.tmp 2) = .int .i64 ((k : Nat) : Int) ∧ a.eval (.tmp 7) = .int .i64 ((sN c d i : Nat) : Int) ∧ a.eval (.tmp 8) = .int .i64 ((i : Nat) : Int) ∧ Below V.heap.size V W) (fun a _ => k + 1 - (intOf (a.eval (.tmp 8))).toNat) ⟨0, Nat.zero_le _, A, t0, t1, t2, t7, t8, BB⟩ ?_
  clear A t0 t1 t2 t7 t8 BB a
  rintro a XL3 ⟨i, hi, A, t0, t1, t2, t7, t8, BB⟩
  have esi := t8
  refine wp_seq ?_
  refine wp_seq ?_
  refine wi_ A (h5_ t0 t1 t2 t7 t8) (rv_ 2 (.bool (decide (i < k + 1))) (fun a ee => execLtS (p := i) (q := k) rfl (ee _) (ee _)) (rf_ [(12, .bool (decide (i < k + 1)))] (h5_ t0 t1 t2 t7 t8) ?_))
  rintro a A ⟨t12, -⟩ ⟨t0, t1, t2, t7, t8, -⟩
  by_cases lti : i < k + 1
  · rw [decide_eq_true lti] at t12
    refine wp_cond_true t12 ?_
    refine wp_skip ?_
    clear t12
    refine wp_seq ?_
    refine wp_block ?_
    have hwi := w_le had i
    have hsi := s_le had i
    refine wp_seq ?_
    refine wi_ A (h5_ t0 t1 t2 t7 t8) (rc_ 3 (rweight c d i XL3 had h1 h2 (by omega)) (cb_ fun X5 bQ => ?_))
    replace BB := BB.trans (bQ.mono BB.size)
    clear bQ
    refine rf_ [(9, .int .i64 ((wN c d i : Nat) : Int))] (h5_ t0 t1 t2 t7 t8) ?_
    rintro a A ⟨t9, -⟩ ⟨t0, t1, t2, t7, t8, -⟩
    refine wi_ A (h6_ t0 t1 t2 t7 t8 t9) (rv_ 2 (.int .i64 ((sN c d i + wN c d i : Nat) : Int)) (fun a ee => execAd8 (p := sN c d i) (q := wN c d i) rfl (ee _) (ee _) (by omega)) (rf_ [(7, .int .i64 ((sN c d i + wN c d i : Nat) : Int))] (h4_ t0 t1 t2 t8) ?_))
    rintro a A ⟨t7, -⟩ ⟨t0, t1, t2, t8, -⟩
    refine wi_ A (h5_ t0 t1 t2 t7 t8) (rv_ 1 (.int .i64 ((i + 1 : Nat) : Int)) (fun a ee => execAd8 (p := i) (q := 1) rfl (ee _) rfl (by omega)) (rf_ [(8, .int .i64 ((i + 1 : Nat) : Int))] (h4_ t0 t1 t2 t7) ?_))
    rintro a A ⟨t8, -⟩ ⟨t0, t1, t2, t7, -⟩
    exact ⟨⟨i + 1, lti, A, t0, t1, t2, t7, t8, BB⟩, by show k + 1 - (intOf (a.eval (.tmp 8))).toNat < k + 1 - (intOf (Act.eval _ (.tmp 8))).toNat; rw [t8, esi]; show k + 1 - (i + 1) < k + 1 - i; omega⟩
  · rw [decide_eq_false lti] at t12
    refine wp_cond_false t12 ?_
    refine wp_exit ?_
    first | with_reducible refine exit_in ?_ | with_reducible refine exit_then (exit_in ?_) | with_reducible refine exit_then (exit_then (exit_in ?_)) | refine exit_in ?_ | refine exit_then (exit_in ?_) | refine exit_then (exit_then (exit_in ?_))
    clear t12 esi
    have hik : i = k + 1 := by omega
    rw [hik, s_u] at t7
    clear t0 t1 t2 t8
    refine wp_seq ?_
    refine wi_ A (h1_ t7) (rg_ [(6, .int .i64 ((uN c d k : Nat) : Int))] ?_)
    rintro a A ⟨t6, -⟩
    refine wp_ret ?_
    refine bodyPost_ret (results_tmp rfl _ _ _) A.2 ⟨?_, BB⟩
    show Ending.returned (a.eval (.tmp 6)) = _
    rw [t6]
set_option maxRecDepth 100000 in
set_option maxHeartbeats 4000000 in
/-- The reference's Table. -/
theorem rtable (na nd nm : Int) (V : World) :
    Calls Try.prog 9 #[.int .i64 na, .int .i64 nd, .int .i64 nm] V fun e w' => ∃ r, e = .returned (.tuple #[r, .int .i64 ((tbE na nd nm : Nat) : Int)]) ∧ w'.ownsRow V.heap.size 3 1 r (zl (tbE na nd nm) (nm.toNat + 1)) (intsL (zl (tbE na nd nm) (nm.toNat + 1)) (tbF na nd nm)) ∧ Below V.heap.size V w' := by
  go_enter Try.func9, Try.ntmps9
  refine wp_seq ?_
  refine wo_ 38 [(0, .int .i64 na), (1, .int .i64 nd), (2, .int .i64 nm)] ?_
  rintro a A ⟨t0, t1, t2, -⟩
  refine wi_ A (h3_ t0 t1 t2) (rf_ [] (h3_ t0 t1 t2) ?_)
  rintro a A - ⟨t0, t1, t2, -⟩
  have BW : Below V.heap.size V V := Below.refl _ _
  refine wp_seq ?_
  refine wp_seq ?_
  by_cases hin : fiN na nd nm
  · obtain ⟨c, rfl⟩ : ∃ c : Nat, na = c := ⟨na.toNat, by have := hin.1; omega⟩
    obtain ⟨d, rfl⟩ : ∃ d : Nat, nd = d := ⟨nd.toNat, by have := hin.2.2.1; omega⟩
    obtain ⟨m, rfl⟩ : ∃ m : Nat, nm = m := ⟨nm.toNat, by have := hin.2.2.2.2.1; omega⟩
    obtain ⟨g0, g1, g2, g3, g4, g5⟩ := id hin
    have had : c ≤ d := by omega
    have h1 : 1 ≤ d := by omega
    have h2 : d ≤ 1000 := by omega
    have hm : m ≤ 16 := by omega
    refine wi_ A (h3_ t0 t1 t2) (rc_ 3 (rfits1 hin V) (cb_ fun X1 bQ => ?_))
    have bX := bQ
    clear bQ
    refine rv_ 4 (.bool false) (fun a ee => execNot8 (b := true) rfl (ee _)) (rf_ [(16, .bool false)] (h3_ t0 t1 t2) ?_)
    rintro a A ⟨t16, -⟩ ⟨t0, t1, t2, -⟩
    have ZX1 := bX.size
    replace BW := BW.trans (bX.mono BW.size)
    clear bX
    refine wp_cond_false t16 ?_
    refine wp_skip ?_
    clear t16
    refine wp_seq ?_
    refine wi_ A (h3_ t0 t1 t2) (rc_ 3 (rupto c d m X1 had h1 h2 (by omega)) (cb_ fun X3 bQ => ?_))
    have bX := bQ
    clear bQ
    refine rf_ [(8, .int .i64 ((uN c d m : Nat) : Int))] (h3_ t0 t1 t2) ?_
    rintro a A ⟨t8, -⟩ ⟨t0, t1, t2, -⟩
    have ZX3 := bX.size
    replace BW := BW.trans (bX.mono BW.size)
    clear bX
    refine wp_seq ?_
    refine wi_ A (h4_ t0 t1 t2 t8) (rf_ [(9, .slice none 0 0)] (h4_ t0 t1 t2 t8) ?_)
    rintro a A ⟨t9, -⟩ ⟨t0, t1, t2, t8, -⟩
    have BB : Below X3.heap.size X3 X3 := Below.refl _ _
    refine wp_seq ?_
    refine wp_seq ?_
    refine wi_ A (h5_ t0 t1 t2 t8 t9) (rf_ [(10, .int .i64 ((0 : Nat) : Int))] (h5_ t0 t1 t2 t8 t9) ?_)
    rintro a A ⟨t10, -⟩ ⟨t0, t1, t2, t8, t9, -⟩
    have FO : (X3.ownsRow X3.heap.size 3 1 (.slice none 0 0) (0) (intsL (0) (fun k => ((tbN c d m k : Nat) : Int)))) := World.ownsRow_nil _ _ _ _
    refine wp_block ?_
    refine wp_loop (fun a W => ∃ (i : Nat) (v : Value), i ≤ m + 1 ∧ (a.tmps.size = 38 ∧ a.defers = []) ∧ a.eval (.tmp 0) = .int .i64 ((c : Nat) : Int) ∧ a.eval (.tmp 1) = .int .i64 ((d : Nat) : Int) ∧ a.eval (.tmp 2) = .int .i64 ((m : Nat) : Int) ∧ a.eval (.tmp 8) = .int .i64 ((uN c d m : Nat) : Int) ∧ a.eval (.tmp 9) = v ∧ a.eval (.tmp 10) = .int .i64 ((i : Nat) : Int) ∧ Below X3.heap.size X3 W ∧ (W.ownsRow X3.heap.size 3 1 v (i) (intsL (i) (fun k => ((tbN c d m k : Nat) : Int))))) (fun a _ => m + 1 - (intOf (a.eval (.tmp 10))).toNat) ⟨0, .slice none 0 0, Nat.zero_le _, A, t0, t1, t2, t8, t9, t10, BB, FO⟩ ?_
    clear A t0 t1 t2 t8 t9 t10 BB FO a
    rintro a XL6 ⟨i, v, hi, A, t0, t1, t2, t8, t9, t10, BB, FO⟩
    have esi := t10
    refine wp_seq ?_
    refine wp_seq ?_
    refine wi_ A (h6_ t0 t1 t2 t8 t9 t10) (rv_ 2 (.bool (decide (i < m + 1))) (fun a ee => execLtS (p := i) (q := m) rfl (ee _) (ee _)) (rf_ [(23, .bool (decide (i < m + 1)))] (h6_ t0 t1 t2 t8 t9 t10) ?_))
    rintro a A ⟨t23, -⟩ ⟨t0, t1, t2, t8, t9, t10, -⟩
    by_cases lti : i < m + 1
    · rw [decide_eq_true lti] at t23
      refine wp_cond_true t23 ?_
      refine wp_skip ?_
      clear t23
      refine wp_seq ?_
      refine wp_block ?_
      have hui := u_le had i
      have hug := u_ge (a := c) (d := d) m
      have hu2 : uN c d i ≤ 17 * 4294967296 := Nat.le_trans hui (Nat.mul_le_mul_right _ (by omega))
      refine wp_seq ?_
      refine wi_ A (h6_ t0 t1 t2 t8 t9 t10) (rc_ 3 (rupto c d i XL6 had h1 h2 (by omega)) (cb_ fun X8 bQ => ?_))
      replace FO := (ownD_below FO bQ)
      replace BB := BB.trans (bQ.mono BB.size)
      clear bQ
      refine rf_ [(11, .int .i64 ((uN c d i : Nat) : Int))] (h6_ t0 t1 t2 t8 t9 t10) ?_
      rintro a A ⟨t11, -⟩ ⟨t0, t1, t2, t8, t9, t10, -⟩
      obtain ⟨g35, egg35⟩ : ∃ z_ : Nat, X8.heap.size = z_ := ⟨_, rfl⟩
      refine wi_ A (h7_ t0 t1 t2 t8 t9 t10 t11) (rv_ 2 (.int .i64 ((65536 * (uN c d i) : Nat) : Int)) (fun a ee => execMulN (p := 65536) (q := uN c d i) rfl rfl (ee _) (by omega)) (rv_ 4 (.int .i64 (((65536 * (uN c d i)) / (uN c d m) : Nat) : Int)) (fun a ee => execQuoN (p := 65536 * (uN c d i)) (q := uN c d m) rfl (ee _) (ee _) (by omega) (by omega)) (rs_ 5 (fun a ee => ?_))))
      refine stepV rfl rfl (execBsI (z := (fun k => ((tbN c d m k : Nat) : Int)) i) rfl (ee _)) ⟨.slice (some ⟨g35, 0, none⟩) 1 1, ⟨_, rfl, by subst egg35; rfl⟩, fun X9_1 hX => ?_⟩
      have bQ : Below X8.heap.size X8 X9_1 := by subst hX egg35; exact (belNew X8 _)
      have F35 : (X9_1.heap[g35]? = some (.cells #[.int .i64 ((fun k => ((tbN c d m k : Nat) : Int)) i)] 3)) := by subst hX egg35; exact heapNew X8 _
      replace FO := (ownD_below FO bQ)
      replace BB := BB.trans (bQ.mono BB.size)
      clear bQ hX egg35 ee a
      refine rs_ 6 (fun a ee => ?_)
      refine stepAppI (f := fun k => ((tbN c d m k : Nat) : Int)) rfl rfl rfl (ee _) (ee _) FO F35 (by omega) (BB).size fun v36 X9 own' gr => ⟨_, ⟨_, rfl, rfl⟩, eqw ?_⟩
      obtain ⟨BB, FO2⟩ : Below X3.heap.size X3 X9 ∧ (X9.ownsRow X3.heap.size 3 1 v36 (i + 1) (intsL (i + 1) (fun k => ((tbN c d m k : Nat) : Int)))) := ⟨(BB).grown gr (BB).size (fun k hk => (FO.lt k hk).1), own'⟩
      clear FO F35 ee a
      refine rf_ [(9, v36)] (h5_ t0 t1 t2 t8 t10) ?_
      rintro a A ⟨t9, -⟩ ⟨t0, t1, t2, t8, t10, -⟩
      refine wi_ A (h6_ t0 t1 t2 t8 t9 t10) (rv_ 1 (.int .i64 ((i + 1 : Nat) : Int)) (fun a ee => execAd8 (p := i) (q := 1) rfl (ee _) rfl (by omega)) (rf_ [(10, .int .i64 ((i + 1 : Nat) : Int))] (h5_ t0 t1 t2 t8 t9) ?_))
      rintro a A ⟨t10, -⟩ ⟨t0, t1, t2, t8, t9, -⟩
      exact ⟨⟨i + 1, v36, lti, A, t0, t1, t2, t8, t9, t10, BB, FO2⟩, by show m + 1 - (intOf (a.eval (.tmp 10))).toNat < m + 1 - (intOf (Act.eval _ (.tmp 10))).toNat; rw [t10, esi]; show m + 1 - (i + 1) < m + 1 - i; omega⟩
    · rw [decide_eq_false lti] at t23
      refine wp_cond_false t23 ?_
      refine wp_exit ?_
      first | with_reducible refine exit_in ?_ | with_reducible refine exit_then (exit_in ?_) | with_reducible refine exit_then (exit_then (exit_in ?_)) | refine exit_in ?_ | refine exit_then (exit_in ?_) | refine exit_then (exit_then (exit_in ?_))
      clear t23 esi
      have him : i = m + 1 := by omega
      rw [him] at FO
      clear t0 t1 t2 t8 t10
      have hE : tbE ((c : Nat) : Int) ((d : Nat) : Int) ((m : Nat) : Int) = 0 := if_pos hin
      rw [hE, zl_ok]
      have BW2 := BW.trans (BB.mono BW.size)
      refine wp_seq ?_
      refine wi_ A (h1_ t9) (rg_ [(6, v), (7, .int .i64 ((0 : Nat) : Int))] ?_)
      rintro a A ⟨t6, t7, -⟩
      refine wp_ret ?_
      refine bodyPost_ret (results_tmp2 rfl _ _ _) A.2 ⟨_, ?_, ownD_base FO BW.size, BW2⟩
      show Ending.returned (.tuple #[a.eval (.tmp 6), a.eval (.tmp 7)]) = _
      rw [t6, t7]
  · refine wi_ A (h3_ t0 t1 t2) (rc_ 3 (rfits0 hin V) (cb_ fun X1 bQ => ?_))
    have bX := bQ
    clear bQ
    refine rv_ 4 (.bool true) (fun a ee => execNot8 (b := false) rfl (ee _)) (rg_ [(16, .bool true)] ?_)
    rintro a A ⟨t16, -⟩
    have ZX1 := bX.size
    replace BW := BW.trans (bX.mono BW.size)
    clear bX
    refine wp_cond_true t16 ?_
    clear t16
    refine wp_seq ?_
    refine wi_ A h0_ (rg_ [(6, .slice none 0 0), (7, .int .i64 ((2 : Nat) : Int))] ?_)
    rintro a A ⟨t6, t7, -⟩
    have hE : tbE na nd nm = 2 := if_neg hin
    rw [hE, zl_no (by decide)]
    refine wp_ret ?_
    repeat (first | with_reducible refine ret_in ?_ | with_reducible refine ret_then ?_)
    refine bodyPost_ret (results_tmp2 rfl _ _ _) A.2 ⟨_, ?_, World.ownsRow_nil _ _ _ _, BW⟩
    show Ending.returned (.tuple #[a.eval (.tmp 6), a.eval (.tmp 7)]) = _
    rw [t6, t7]
end Go.Proofs.Ytmfaapbhehhlpaa.Noi
