import Derived.Test.YtjoffdaknacbpaaO8d
import Derived.Test.YtjoffdaknacbpaaG9d
import Derived.Laws.Bits64b
import Derived.WalkKit
namespace Go.Proofs.Ytjoffdaknacbpaa.Sha
open Go.RowKit Gf8 Aes By8 Cel Cf Win Drw
/- Small functions; a tag's shard. Written by tools/mkO8e.py. -/

theorem wrap_u64_nat {p : Nat} (h : p < 18446744073709551616) : IntKind.u64.wrap (p : Int) = p := by
  simp only [IntKind.wrap, IntKind.bits, IntKind.signed]
  simp
  omega
theorem or_shift {p q : Nat} (h : q < 256) : (p * 256) ||| q = p * 256 + q := by
  have e := Nat.shiftLeft_add_eq_or_of_lt (b := q) (i := 8) h p
  rw [Nat.shiftLeft_eq] at e
  exact e.symm
section
variable {o : Oper} {a : Act} {w : World}
theorem execShl8 {x y : Operand} {p : Nat} (ho : o.op = .binOp .shl 70 x y 72) (hx : a.eval x = .int .u64 ((p : Nat) : Int)) (hy : a.eval y = .int .u64 8) (hp : p < 72057594037927936) : (execOp a.eval o).run Try.prog w = .ok (.value (.int .u64 ((p * 256 : Nat) : Int))) w := by
  unfold execOp
  simp only [ho, hx, hy]
  simp [go_sem]
  simpa using wrap_u64_nat (p := p * 256) (by omega)
theorem execCv570 {x : Operand} {p : Nat} (ho : o.op = .convert 5 70 x) (hx : a.eval x = .int .u8 ((p : Nat) : Int)) (hp : p < 256) : (execOp a.eval o).run Try.prog w = .ok (.value (.int .u64 ((p : Nat) : Int))) w := by
  unfold execOp
  simp only [ho, hx]
  simp [go_sem]
  exact wrap_u64_nat (by omega)
theorem execOr64 {x y : Operand} {p q : Nat} (ho : o.op = .binOp .or 70 x y 70) (hx : a.eval x = .int .u64 ((p * 256 : Nat) : Int)) (hy : a.eval y = .int .u64 ((q : Nat) : Int)) (hq : q < 256) (hp : p < 72057594037927936) : (execOp a.eval o).run Try.prog w = .ok (.value (.int .u64 ((p * 256 + q : Nat) : Int))) w := by
  unfold execOp
  simp only [ho, hx, hy]
  have e := bits_or_u64_nat (p * 256) q (by omega) (by omega)
  rw [or_shift hq] at e
  simp [go_sem]
  simpa using e
theorem execCv370 {x : Operand} {p : Nat} (ho : o.op = .convert 3 70 x) (hx : a.eval x = .int .i64 ((p : Nat) : Int)) (hp : p < 9223372036854775808) : (execOp a.eval o).run Try.prog w = .ok (.value (.int .u64 ((p : Nat) : Int))) w := by
  unfold execOp
  simp only [ho, hx]
  simp [go_sem]
  exact wrap_u64_nat (by omega)
theorem execCv703 {x : Operand} {p : Nat} (ho : o.op = .convert 70 3 x) (hx : a.eval x = .int .u64 ((p : Nat) : Int)) (hp : p < 9223372036854775808) : (execOp a.eval o).run Try.prog w = .ok (.value (.int .i64 ((p : Nat) : Int))) w := by
  unfold execOp
  simp only [ho, hx]
  simp [go_sem]
  exact wrap_i64_nat (by omega)
theorem execRem64 {x y : Operand} {p q : Nat} (ho : o.op = .binOp .rem 70 x y 70) (hx : a.eval x = .int .u64 ((p : Nat) : Int)) (hy : a.eval y = .int .u64 ((q : Nat) : Int)) (hq : q ≠ 0) : (execOp a.eval o).run Try.prog w = .ok (.value (.int .u64 ((p % q : Nat) : Int))) w := by
  unfold execOp
  simp only [ho, hx, hy]
  simp [go_sem, hq]
  exact Int.tmod_eq_emod_of_nonneg (by omega)
theorem execSl16 {x : Operand} {g : Nat} (ho : o.op = .slice 31 x none (some (.const (.int .i64 8))) none) (hx : a.eval x = .pointer (some ⟨g, 0, none⟩)) : (execOp a.eval o).run Try.prog w = .ok (.value (.slice (some ⟨g, 0, none⟩) 8 16)) w := by
  unfold execOp
  simp only [ho, hx]
  simp [go_sem]
end
theorem tv_small {f : Nat → Nat} (hf : ∀ i, i < 16 → f i < 256) : tv f 7 < 72057594037927936 ∧ tv f 8 < 18446744073709551616 := by
  have := hf 0 (by omega)
  have := hf 1 (by omega)
  have := hf 2 (by omega)
  have := hf 3 (by omega)
  have := hf 4 (by omega)
  have := hf 5 (by omega)
  have := hf 6 (by omega)
  have := hf 7 (by omega)
  have e7 : tv f 7 = ((((((0 * 256 + f 0) * 256 + f 1) * 256 + f 2) * 256 + f 3) * 256 + f 4) * 256 + f 5) * 256 + f 6 := rfl
  have e8 : tv f 8 = tv f 7 * 256 + f 7 := rfl
  omega
theorem tv_mono {f : Nat → Nat} : ∀ {i j : Nat}, i ≤ j → tv f i ≤ tv f j
  | i, 0, h => by rw [Nat.le_zero.1 h]; exact Nat.le_refl _
  | i, j + 1, h => by
    by_cases q : i = j + 1
    · rw [q]; exact Nat.le_refl _
    · have := tv_mono (f := f) (i := i) (j := j) (by omega)
      have e : tv f (j + 1) = tv f j * 256 + f j := rfl
      omega
/-- Whether a number of shards is let. -/
abbrev fitS (s : Int) : Prop := 1 ≤ s ∧ s ≤ 64
theorem pfitt (s : Int) (V : World) (h : fitS s) : Calls Try.prog 21 #[.int .i64 s] V fun e w' => e = .returned (.bool true) ∧ w' = V := by
  obtain ⟨h1, h2⟩ := h
  go_enter Try.func21, Try.ntmps21
  go_wp2
  go_ret
  exact ⟨rfl, rfl⟩
theorem pfitf (s : Int) (V : World) (h : ¬ fitS s) : Calls Try.prog 21 #[.int .i64 s] V fun e w' => e = .returned (.bool false) ∧ w' = V := by
  by_cases h1 : 1 ≤ s
  · have h2 : ¬ s ≤ 64 := fun q => h ⟨h1, q⟩
    clear h
    go_enter Try.func21, Try.ntmps21
    go_wp2
    go_ret
    exact ⟨rfl, rfl⟩
  · clear h
    go_enter Try.func21, Try.ntmps21
    go_wp2
    go_ret
    exact ⟨rfl, rfl⟩
def nwE (s : Int) : Nat := if fitS s then 0 else 2
theorem rnew17 (s : Int) (V : World) : Calls Try.prog 10 #[.int .i64 s] V fun e w' => e = .returned (.int .i64 ((nwE s : Nat) : Int)) ∧ w' = V := by
  by_cases h1 : s < 1
  · have ep : Hid (nwE s = 2) := if_neg (fun h => by omega)
    go_enter Try.func10, Try.ntmps10
    go_wp2
    go_ret
    rw [ep.out]
    exact ⟨rfl, rfl⟩
  · by_cases h2 : 64 < s
    · have ep : Hid (nwE s = 2) := if_neg (fun h => by omega)
      go_enter Try.func10, Try.ntmps10
      go_wp2
      go_ret
      rw [ep.out]
      exact ⟨rfl, rfl⟩
    · have ep : Hid (nwE s = 0) := if_pos ⟨by omega, by omega⟩
      go_enter Try.func10, Try.ntmps10
      go_wp2
      go_ret
      rw [ep.out]
      exact ⟨rfl, rfl⟩
def plc (i : Int) (n : Nat) : Nat := (if i < 0 then -(i + 1) else i).toNat % n
theorem place17 (i : Int) (n : Nat) (V : World) (h1 : -9223372036854775808 ≤ i) (h2 : i < 9223372036854775808) (hn : 0 < n) (hm : n < 9223372036854775808) :
    Calls Try.prog 11 #[.int .i64 i, .int .i64 (n : Int)] V fun e w' => e = .returned (.int .i64 (plc i n : Nat)) ∧ w' = V := by
  have n1 : (n : Int) < 9223372036854775808 := by omega
  have n0 : (n : Int) ≠ 0 := by omega
  have HN : Hid (0 < n) := hn
  clear hn hm
  by_cases h0 : i < 0
  · obtain ⟨k, hk⟩ : ∃ k : Nat, -(i + 1) = k := ⟨(-(i + 1)).toNat, by omega⟩
    have k1 : (k : Int) < 9223372036854775808 := by omega
    have ep : plc i n = k % n := by unfold plc; rw [if_pos h0, hk]; simp
    have HK : Hid (_) := hk
    have EP : Hid (_) := ep
    clear ep
    go_enter Try.func11, Try.ntmps11
    go_wp2
    go_ret
    rw [EP.out]
    exact ⟨rfl, rfl⟩
  · obtain ⟨k, rfl⟩ : ∃ k : Nat, i = k := ⟨i.toNat, by omega⟩
    have ep : plc (k : Int) n = k % n := by unfold plc; rw [if_neg h0]; simp
    have EP : Hid (_) := ep
    clear ep
    go_enter Try.func11, Try.ntmps11
    go_wp2
    go_ret
    rw [EP.out]
    exact ⟨rfl, rfl⟩
set_option maxRecDepth 100000 in
set_option maxHeartbeats 4000000 in
/-- Shard. -/
theorem pshardt (f : Nat → Nat) (n : Nat) (V : World) (hf : ∀ i, i < 16 → f i < 256) (h1 : 1 ≤ n) (h2 : n ≤ 64) :
    Calls Try.prog 17 #[.agg (bA 16 f), .int .i64 ((n : Nat) : Int)] V fun e w' => e = .returned (.int .i64 ((tv f 8 % n : Nat) : Int)) ∧ Below V.heap.size V w' := by
  go_enter Try.func17, Try.ntmps17
  refine wo_ 28 [(0, .agg (bA 16 f)), (1, .int .i64 ((n : Nat) : Int))] ?_
  rintro a A ⟨t0, t1, -⟩
  have BW : Below V.heap.size V V := Below.refl _ _
  refine wp_seq ?_
  obtain ⟨g2, egg2⟩ : ∃ z_ : Nat, V.heap.size = z_ := ⟨_, rfl⟩
  refine wi_ A (h2_ t0 t1) (rs_ 0 (fun a ee => ?_))
  refine stepV rfl rfl (execBox16 rfl (ee _)) ⟨.pointer (some ⟨g2, 0, none⟩), ⟨_, rfl, by subst egg2; rfl⟩, fun X0 hX => ?_⟩
  have bQ : Below V.heap.size V X0 := by subst hX egg2; exact (belNew V _)
  have Fg2 : (X0.heap[g2]? = some (.cells (bA 16 f) 31)) := by subst hX egg2; exact heapNew V _
  have Fgeg2 : (V.heap.size ≤ g2) := by subst hX egg2; exact ((Below.refl V.heap.size V)).size
  have bX := bQ
  clear bQ hX egg2 ee a
  refine rf_ [(2, .pointer (some ⟨g2, 0, none⟩))] (h1_ t1) ?_
  rintro a A ⟨t2, -⟩ ⟨t1, -⟩
  have ZX0 := bX.size
  replace BW := BW.trans (bX.mono BW.size)
  clear bX
  have BB : Below X0.heap.size X0 X0 := Below.refl _ _
  refine wp_seq ?_
  refine wp_seq ?_
  refine wi_ A (h2_ t1 t2) (rc_ 1 (pfitt ((n : Nat) : Int) X0 ⟨by omega, by omega⟩) (cs_ (rv_ 2 (.bool false) (fun a ee => execNot8 (b := true) rfl (ee _)) (rf_ [(10, .bool false)] (h2_ t1 t2) ?_))))
  rintro a A ⟨t10, -⟩ ⟨t1, t2, -⟩
  refine wp_cond_false t10 ?_
  refine wp_skip ?_
  clear t10
  refine wp_seq ?_
  refine wi_ A (h2_ t1 t2) (rf_ [(5, .int .u64 ((tv f 0 : Nat) : Int))] (h2_ t1 t2) ?_)
  rintro a A ⟨t5, -⟩ ⟨t1, t2, -⟩
  refine wp_seq ?_
  refine wp_seq ?_
  refine wi_ A (h3_ t1 t2 t5) (rv_ 0 (.slice (some ⟨g2, 0, none⟩) 8 16) (fun a ee => execSl16 rfl (ee _)) (rv_ 1 (.int .i64 ((8 : Nat) : Int)) (fun a ee => execLenV (len := 8) rfl (ee _) ⟨_, _, rfl⟩) (rf_ [(11, .slice (some ⟨g2, 0, none⟩) 8 16), (12, .int .i64 ((8 : Nat) : Int)), (13, .int .i64 ((0 : Nat) : Int))] (h3_ t1 t2 t5) ?_)))
  rintro a A ⟨t11, t12, t13, -⟩ ⟨t1, t2, t5, -⟩
  refine wp_block ?_
  refine wp_loop (fun a W => ∃ (i : Nat), i ≤ 8 ∧ (a.tmps.size = 28 ∧ a.defers = []) ∧ a.eval (.tmp 1) = .int .i64 ((n : Nat) : Int) ∧ a.eval (.tmp 2) = .pointer (some ⟨g2, 0, none⟩) ∧ a.eval (.tmp 5) = .int .u64 ((tv f i : Nat) : Int) ∧ a.eval (.tmp 11) = .slice (some ⟨g2, 0, none⟩) 8 16 ∧ a.eval (.tmp 12) = .int .i64 ((8 : Nat) : Int) ∧ a.eval (.tmp 13) = .int .i64 ((i : Nat) : Int) ∧ Below X0.heap.size X0 W) (fun a _ => 8 - (intOf (a.eval (.tmp 13))).toNat) ⟨0, Nat.zero_le _, A, t1, t2, t5, t11, t12, t13, BB⟩ ?_
  clear A t1 t2 t5 t11 t12 t13 BB a
  rintro a XL5 ⟨i, hi, A, t1, t2, t5, t11, t12, t13, BB⟩
  have esi := t13
  refine wp_seq ?_
  refine wi_ A (h6_ t1 t2 t5 t11 t12 t13) (rv_ 0 (.bool (decide (i < 8))) (fun a ee => execLtW (p := i) (q := 8) rfl (ee _) (ee _)) (rf_ [(14, .bool (decide (i < 8)))] (h6_ t1 t2 t5 t11 t12 t13) ?_))
  rintro a A ⟨t14, -⟩ ⟨t1, t2, t5, t11, t12, t13, -⟩
  refine wp_seq ?_
  by_cases lti : i < 8
  · rw [decide_eq_true lti] at t14
    refine wp_cond_true t14 ?_
    refine wp_skip ?_
    clear t14
    refine wp_seq ?_
    refine wp_block ?_
    have hp5 := hf i (by omega)
    have hp7 : tv f i < 72057594037927936 := Nat.lt_of_le_of_lt (tv_mono (by omega)) (tv_small hf).1
    refine wp_seq ?_
    refine wi_ A (h6_ t1 t2 t5 t11 t12 t13) (rv_ 0 (.pointer (some ⟨g2, 0 + i, none⟩)) (fun a ee => execIdxB9 (k := i) rfl (ee _) (ee _) lti) (rv_ 1 (.int .u8 ((f i : Nat) : Int)) (fun a ee => execLdB rfl (ee _) (at16 (on9 Fg2 BB) (by omega))) (rf_ [(7, .int .u8 ((f i : Nat) : Int))] (h6_ t1 t2 t5 t11 t12 t13) ?_)))
    rintro a A ⟨t7, -⟩ ⟨t1, t2, t5, t11, t12, t13, -⟩
    refine wi_ A (h7_ t1 t2 t5 t11 t12 t13 t7) (rv_ 1 (.int .u64 ((tv f i * 256 : Nat) : Int)) (fun a ee => execShl8 (p := tv f i) rfl (ee _) rfl hp7) (rv_ 3 (.int .u64 ((f i : Nat) : Int)) (fun a ee => execCv570 rfl (ee _) hp5) (rv_ 4 (.int .u64 ((tv f (i + 1) : Nat) : Int)) (fun a ee => execOr64 (p := tv f i) (q := f i) rfl (ee _) (ee _) hp5 hp7) (rf_ [(5, .int .u64 ((tv f (i + 1) : Nat) : Int))] (h5_ t1 t2 t11 t12 t13) ?_))))
    rintro a A ⟨t5, -⟩ ⟨t1, t2, t11, t12, t13, -⟩
    refine wi_ A (h6_ t1 t2 t5 t11 t12 t13) (rv_ 0 (.int .i64 ((i + 1 : Nat) : Int)) (fun a ee => execAd8 (p := i) (q := 1) rfl (ee _) rfl (by omega)) (rf_ [(13, .int .i64 ((i + 1 : Nat) : Int))] (h5_ t1 t2 t5 t11 t12) ?_))
    rintro a A ⟨t13, -⟩ ⟨t1, t2, t5, t11, t12, -⟩
    exact ⟨⟨i + 1, lti, A, t1, t2, t5, t11, t12, t13, BB⟩, by show 8 - (intOf (a.eval (.tmp 13))).toNat < 8 - (intOf (Act.eval _ (.tmp 13))).toNat; rw [t13, esi]; show 8 - (i + 1) < 8 - i; omega⟩
  · rw [decide_eq_false lti] at t14
    refine wp_cond_false t14 ?_
    refine wp_exit ?_
    first | with_reducible refine exit_in ?_ | with_reducible refine exit_then (exit_in ?_) | with_reducible refine exit_then (exit_then (exit_in ?_)) | refine exit_in ?_ | refine exit_then (exit_in ?_) | refine exit_then (exit_then (exit_in ?_))
    clear t14 esi
    obtain rfl : i = 8 := by omega
    have BW2 := BW.trans (BB.mono BW.size)
    have h8 := (tv_small hf).2
    refine wp_seq ?_
    refine wi_ A (h6_ t1 t2 t5 t11 t12 t13) (rv_ 2 (.int .u64 ((n : Nat) : Int)) (fun a ee => execCv370 rfl (ee _) (by omega)) (rv_ 3 (.int .u64 ((tv f 8 % n : Nat) : Int)) (fun a ee => execRem64 (p := tv f 8) (q := n) rfl (ee _) (ee _) (by omega)) (rv_ 4 (.int .i64 ((tv f 8 % n : Nat) : Int)) (fun a ee => execCv703 rfl (ee _) (by have := Nat.mod_lt (tv f 8) (show 0 < n by omega); omega)) (rg_ [(4, .int .i64 ((tv f 8 % n : Nat) : Int))] ?_))))
    rintro a A ⟨t4, -⟩
    refine wp_ret ?_
    refine bodyPost_ret (results_tmp rfl _ _ _) A.2 ⟨?_, BW2⟩
    show Ending.returned (a.eval (.tmp 4)) = _
    rw [t4]
end Go.Proofs.Ytjoffdaknacbpaa.Sha
