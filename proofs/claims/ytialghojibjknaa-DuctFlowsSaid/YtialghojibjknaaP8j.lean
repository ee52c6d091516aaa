import Derived.Test.YtialghojibjknaaP8i
import Derived.WalkKit
namespace Go.Proofs.Ytialghojibjknaa.Duc
open Go.RowKit Gf8 Aes By8 Cel Cf Win Drw Prm
/- DuctFlows. Written by tools/mkP8j.py. -/

theorem cp8 (n K : Nat) : decide (false = false ∧ n < K) = decide (n < K) := decide_eq_decide.2 ⟨fun h => h.2, fun h => ⟨rfl, h⟩⟩
theorem execLt8 {o : Oper} {a : Act} {w : World} {x y : Operand} {p q : Nat} (ho : o.op = .binOp .lss 3 x y 3) (hx : a.eval x = .int .i64 ((p : Nat) : Int)) (hy : a.eval y = .int .i64 ((q : Nat) : Int)) : (execOp a.eval o).run Try.prog w = .ok (.value (.bool (decide (p < q)))) w := by
  unfold execOp
  simp only [ho, hx, hy]
  simp [go_sem]
theorem execGt8 {o : Oper} {a : Act} {w : World} {x y : Operand} {p q : Nat} (ho : o.op = .binOp .gtr 3 x y 3) (hx : a.eval x = .int .i64 ((p : Nat) : Int)) (hy : a.eval y = .int .i64 ((q : Nat) : Int)) : (execOp a.eval o).run Try.prog w = .ok (.value (.bool (decide (q < p)))) w := by
  unfold execOp
  simp only [ho, hx, hy]
  simp [go_sem]
theorem execEqB8 {o : Oper} {a : Act} {w : World} {x y : Operand} {b c : Bool} (ho : o.op = .binOp .eql 4 x y 4) (hx : a.eval x = .bool b) (hy : a.eval y = .bool c) : (execOp a.eval o).run Try.prog w = .ok (.value (.bool (decide (b = c)))) w := by
  unfold execOp
  simp only [ho, hx, hy]
  cases b <;> cases c <;> simp [go_sem]
section
variable {I : ImplS} {V X : World} {F F' : Nat → Prop} {db : Nat} {iw ow : Value} {u : Nat → ByteArray} {p q pi qo K : Nat} {c : Bool} {B : Nat} {s : ByteArray}
theorem newS_o (I : ImplS) (k : Nat) (hk : k ≤ 1024) (V : World) : Calls Try.prog 11 #[.int .i64 ((k : Nat) : Int)] V fun e w' => ∃ b F, e = .returned (.tuple #[.pointer (some ⟨b, 0, none⟩), .int .i64 ((0 : Nat) : Int)]) ∧ (∀ B, B ≤ V.heap.size → Flw I w' B F b (.slice none 0 0) (.slice none 0 0) (fun _ => ByteArray.empty) 0 0 0 0 k false) ∧ Below V.heap.size V w' :=
  (I.new_o k hk V (fun _ => .string ByteArray.empty)).mono fun _ _ ⟨b, F, he, hR, hF, hb⟩ => ⟨b, F, he, fun _ hB => Flw.begin hR (fun g hg => Nat.le_trans hB (hF g hg)), hb⟩
abbrev DcA (I : ImplS) (V : World) (B : Nat) (db : Nat) (iw ow : Value) (pi qo K : Nat) (v : Value) (u : Nat → ByteArray) (p q : Nat) (c : Bool) (e : Ending) (w' : World) : Prop :=
  ∃ F', e = .returned v ∧ Flw I w' B F' db iw ow u p q pi qo K c ∧ Below B V w'
theorem bel8 (h : Flw I V B F db iw ow u p q pi qo K c) (hB : B ≤ V.heap.size) (sv : Saved F V X) : Below B V X := savedG18 sv h.fge hB
theorem putS_o (h : Flw I V B F db iw ow u p q pi qo K false) (hB : B ≤ V.heap.size) (hq : q ≤ p) (hi : pi ≤ p) (ho : qo ≤ p) (hk : p - q < K) : Calls Try.prog 18 #[.pointer (some ⟨db, 0, none⟩), .string s] V (DcA I V B db iw ow pi qo K (.tuple #[.bool true, .int .i64 ((0 : Nat) : Int)]) (up u p s) (p + 1) q false) :=
  (I.put_t h.dr ⟨s, rfl⟩ ⟨rfl, hk⟩).mono fun _ _ ⟨F', he, hR, hs, hf⟩ => ⟨F', he, h.dcall (by
    rw [show p + 1 - q = p - q + 1 by omega]
    refine I.cg hR fun j hj => ?_
    unfold sV
    by_cases e : j = p - q
    · rw [e, up_at, show q + (p - q) = p by omega, up_at]
    · rw [up_ne _ _ e, up_ne _ _ (show q + j ≠ p by omega)]) (fun j hj => (up_ne _ _ (by omega)).symm) (fun j hj => (up_ne _ _ (by omega)).symm) hs hf hB, bel8 h hB hs⟩
theorem putS_f (h : Flw I V B F db iw ow u p q pi qo K false) (hB : B ≤ V.heap.size) (hk : ¬ p - q < K) : Calls Try.prog 18 #[.pointer (some ⟨db, 0, none⟩), .string s] V (DcA I V B db iw ow pi qo K (.tuple #[.bool false, .int .i64 ((0 : Nat) : Int)]) u p q false) :=
  (I.put_f h.dr ⟨s, rfl⟩ hk).mono fun _ _ ⟨F', he, hR, hs, hf⟩ => ⟨F', he, h.dcall hR (fun _ _ => rfl) (fun _ _ => rfl) hs hf hB, bel8 h hB hs⟩
theorem putS_c (h : Flw I V B F db iw ow u p q pi qo K true) (hB : B ≤ V.heap.size) : Calls Try.prog 18 #[.pointer (some ⟨db, 0, none⟩), .string s] V (DcA I V B db iw ow pi qo K (.tuple #[.bool false, .int .i64 ((180 : Nat) : Int)]) u p q true) :=
  (I.put_c h.dr ⟨s, rfl⟩).mono fun _ _ ⟨F', he, hR, hs, hf⟩ => ⟨F', he, h.dcall hR (fun _ _ => rfl) (fun _ _ => rfl) hs hf hB, bel8 h hB hs⟩
theorem takeS_o (h : Flw I V B F db iw ow u p q pi qo K c) (hB : B ≤ V.heap.size) (hn : 0 < p - q) : Calls Try.prog 17 #[.pointer (some ⟨db, 0, none⟩)] V (DcA I V B db iw ow pi qo K (.tuple #[.string (u q), .bool true, .int .i64 ((0 : Nat) : Int)]) u p (q + 1) c) :=
  (I.take_o h.dr hn).mono fun _ _ ⟨F', he, hR, hs, hf⟩ => ⟨F', he, h.dcall (by
    rw [show p - (q + 1) = p - q - 1 by omega]
    exact I.cg hR fun j _ => by rw [show q + (j + 1) = q + 1 + j by omega]) (fun _ _ => rfl) (fun _ _ => rfl) hs hf hB, bel8 h hB hs⟩
theorem takeS_e (h : Flw I V B F db iw ow u p q pi qo K false) (hB : B ≤ V.heap.size) (hn : p - q = 0) : Calls Try.prog 17 #[.pointer (some ⟨db, 0, none⟩)] V (DcA I V B db iw ow pi qo K (.tuple #[.string ⟨#[]⟩, .bool false, .int .i64 ((0 : Nat) : Int)]) u p q false) :=
  (I.take_e h.dr hn).mono fun _ _ ⟨F', he, hR, hs, hf⟩ => ⟨F', he, h.dcall hR (fun _ _ => rfl) (fun _ _ => rfl) hs hf hB, bel8 h hB hs⟩
theorem takeS_c (h : Flw I V B F db iw ow u p q pi qo K true) (hB : B ≤ V.heap.size) (hn : p - q = 0) : Calls Try.prog 17 #[.pointer (some ⟨db, 0, none⟩)] V (DcA I V B db iw ow pi qo K (.tuple #[.string ⟨#[]⟩, .bool false, .int .i64 ((180 : Nat) : Int)]) u p q true) :=
  (I.take_c h.dr hn).mono fun _ _ ⟨F', he, hR, hs, hf⟩ => ⟨F', he, h.dcall hR (fun _ _ => rfl) (fun _ _ => rfl) hs hf hB, bel8 h hB hs⟩
theorem closeS_o (h : Flw I V B F db iw ow u p q pi qo K false) (hB : B ≤ V.heap.size) : Calls Try.prog 19 #[.pointer (some ⟨db, 0, none⟩)] V (DcA I V B db iw ow pi qo K (.int .i64 ((0 : Nat) : Int)) u p q true) :=
  (I.close h.dr).mono fun _ _ ⟨F', he, hR, hs, hf⟩ => ⟨F', he, h.dcall hR (fun _ _ => rfl) (fun _ _ => rfl) hs hf hB, bel8 h hB hs⟩
theorem closeS_c (h : Flw I V B F db iw ow u p q pi qo K true) (hB : B ≤ V.heap.size) : Calls Try.prog 19 #[.pointer (some ⟨db, 0, none⟩)] V (DcA I V B db iw ow pi qo K (.int .i64 ((180 : Nat) : Int)) u p q true) :=
  (I.close h.dr).mono fun _ _ ⟨F', he, hR, hs, hf⟩ => ⟨F', he, h.dcall hR (fun _ _ => rfl) (fun _ _ => rfl) hs hf hB, bel8 h hB hs⟩
end
set_option maxRecDepth 100000 in
set_option maxHeartbeats 4000000 in
/-- DuctFlows of no capacity. -/
theorem flows_lo (I0 : ImplI) (I : ImplS) (kp : Int) (sv : Value) (V : World) (hk : kp < 0) :
    Calls Try.prog 4 #[.int .i64 kp, sv] V fun e w' => e = .returned (.bool true) ∧ Below V.heap.size V w' := by
  go_enter Try.func4, Try.ntmps4
  refine wo_ 253 [(0, .int .i64 kp), (1, sv)] ?_
  rintro a A ⟨t0, t1, -⟩
  have BW : Below V.heap.size V V := Below.refl _ _
  have BB : Below V.heap.size V V := Below.refl _ _
  refine wp_seq ?_
  refine wi_ A (h2_ t0 t1) (rf_ [] (h2_ t0 t1) ?_)
  rintro a A - ⟨t0, t1, -⟩
  refine wp_seq ?_
  refine wp_seq ?_
  refine wi_ A (h2_ t0 t1) (rc_ 0 (awake18 I0 V) (cb_ fun X1 bQ => ?_))
  replace BB := BB.trans (bQ.mono BB.size)
  clear bQ
  refine rv_ 1 (.bool false) (fun a ee => execNot8 (b := true) rfl (ee _)) (rf_ [(24, .bool false)] (h2_ t0 t1) ?_)
  rintro a A ⟨t24, -⟩ ⟨t0, t1, -⟩
  refine wp_cond_false t24 ?_
  refine wp_skip ?_
  clear t24
  refine wp_seq ?_
  refine wi_ A (h2_ t0 t1) (rc_ 1 (I.new_b kp (fun h => by omega) X1) (cb_ fun X3 bQ => ?_))
  replace BB := BB.trans (bQ.mono BB.size)
  clear bQ
  refine rf_ [(5, .pointer none), (6, .int .i64 ((2 : Nat) : Int))] (h1_ t0) ?_
  rintro a A ⟨t5, t6, -⟩ ⟨t0, -⟩
  refine wp_seq ?_
  refine wp_seq ?_
  refine wi_ A (h3_ t0 t5 t6) (rv_ 1 (.bool true) (fun a ee => execDec (exIlss3 (p := kp) (q := 0) rfl (ee _) rfl) (decide_eq_true (by omega))) (rf_ [(35, .bool true)] (h2_ t5 t6) ?_))
  rintro a A ⟨t35, -⟩ ⟨t5, t6, -⟩
  refine wp_cond_true t35 ?_
  clear t35
  refine wp_seq ?_
  refine wi_ A (h2_ t5 t6) (rv_ 1 (.bool true) (fun a ee => execDec (execEreql (p := 2) (q := 2) rfl (ee _)) (by decide)) (rv_ 4 (.bool true) (fun a ee => execDSeqln rfl (ee _)) (rg_ [(4, .bool true)] ?_)))
  rintro a A ⟨t4, -⟩
  refine wp_ret ?_
  repeat (first | with_reducible refine ret_in ?_ | with_reducible refine ret_then ?_)
  refine bodyPost_ret (results_tmp rfl _ _ _) A.2 ⟨?_, BB⟩
  show Ending.returned (a.eval (.tmp 4)) = _
  rw [t4]
set_option maxRecDepth 100000 in
set_option maxHeartbeats 4000000 in
/-- DuctFlows of no capacity. -/
theorem flows_hi (I0 : ImplI) (I : ImplS) (kp : Int) (sv : Value) (V : World) (hk : 1024 < kp) :
    Calls Try.prog 4 #[.int .i64 kp, sv] V fun e w' => e = .returned (.bool true) ∧ Below V.heap.size V w' := by
  go_enter Try.func4, Try.ntmps4
  refine wo_ 253 [(0, .int .i64 kp), (1, sv)] ?_
  rintro a A ⟨t0, t1, -⟩
  have BW : Below V.heap.size V V := Below.refl _ _
  have BB : Below V.heap.size V V := Below.refl _ _
  refine wp_seq ?_
  refine wi_ A (h2_ t0 t1) (rf_ [] (h2_ t0 t1) ?_)
  rintro a A - ⟨t0, t1, -⟩
  refine wp_seq ?_
  refine wp_seq ?_
  refine wi_ A (h2_ t0 t1) (rc_ 0 (awake18 I0 V) (cb_ fun X1 bQ => ?_))
  replace BB := BB.trans (bQ.mono BB.size)
  clear bQ
  refine rv_ 1 (.bool false) (fun a ee => execNot8 (b := true) rfl (ee _)) (rf_ [(24, .bool false)] (h2_ t0 t1) ?_)
  rintro a A ⟨t24, -⟩ ⟨t0, t1, -⟩
  refine wp_cond_false t24 ?_
  refine wp_skip ?_
  clear t24
  refine wp_seq ?_
  refine wi_ A (h2_ t0 t1) (rc_ 1 (I.new_b kp (fun h => by omega) X1) (cb_ fun X3 bQ => ?_))
  replace BB := BB.trans (bQ.mono BB.size)
  clear bQ
  refine rf_ [(5, .pointer none), (6, .int .i64 ((2 : Nat) : Int))] (h1_ t0) ?_
  rintro a A ⟨t5, t6, -⟩ ⟨t0, -⟩
  refine wp_seq ?_
  refine wp_seq ?_
  refine wi_ A (h3_ t0 t5 t6) (rv_ 1 (.bool false) (fun a ee => execDec (exIlss3 (p := kp) (q := 0) rfl (ee _) rfl) (decide_eq_false (by omega))) (rv_ 4 (.bool true) (fun a ee => execDec (exIgtr3 (p := kp) (q := 1024) rfl (ee _) rfl) (decide_eq_true (by omega))) (rf_ [(35, .bool true)] (h2_ t5 t6) ?_)))
  rintro a A ⟨t35, -⟩ ⟨t5, t6, -⟩
  refine wp_cond_true t35 ?_
  clear t35
  refine wp_seq ?_
  refine wi_ A (h2_ t5 t6) (rv_ 1 (.bool true) (fun a ee => execDec (execEreql (p := 2) (q := 2) rfl (ee _)) (by decide)) (rv_ 4 (.bool true) (fun a ee => execDSeqln rfl (ee _)) (rg_ [(4, .bool true)] ?_)))
  rintro a A ⟨t4, -⟩
  refine wp_ret ?_
  repeat (first | with_reducible refine ret_in ?_ | with_reducible refine ret_then ?_)
  refine bodyPost_ret (results_tmp rfl _ _ _) A.2 ⟨?_, BB⟩
  show Ending.returned (a.eval (.tmp 4)) = _
  rw [t4]
theorem cell8 {W X : World} {b q : Nat} {v : Value} (h : W.cell? ⟨b, q, none⟩ = some v) (hb : Below W.heap.size W X) : X.cell? ⟨b, q, none⟩ = some v := by
  rw [cell_below hb (World.block_lt_of_cell? W _ h)]; exact h
set_option maxRecDepth 100000 in
set_option maxHeartbeats 4000000 in
/-- DuctFlows. -/
theorem flows_k (I0 : ImplI) (I : ImplS) (K : Nat) (hK : K ≤ 1024) (sv : Value) (l : Nat) (s : Nat → ByteArray) (V : World) (hP : Ss8 V sv l s) (hl : l ≤ 8796093021952) :
    Calls Try.prog 4 #[.int .i64 ((K : Nat) : Int), sv] V fun e w' => e = .returned (.bool true) ∧ Below V.heap.size V w' := by
  go_enter Try.func4, Try.ntmps4
  refine wo_ 253 [(0, .int .i64 ((K : Nat) : Int)), (1, sv)] ?_
  rintro a A ⟨t0, t1, -⟩
  have BW : Below V.heap.size V V := Below.refl _ _
  have BB : Below V.heap.size V V := Below.refl _ _
  refine wp_seq ?_
  refine wi_ A (h2_ t0 t1) (rf_ [] (h2_ t0 t1) ?_)
  rintro a A - ⟨t0, t1, -⟩
  refine wp_seq ?_
  refine wp_seq ?_
  refine wi_ A (h2_ t0 t1) (rc_ 0 (awake18 I0 V) (cb_ fun X1 bQ => ?_))
  replace BB := BB.trans (bQ.mono BB.size)
  clear bQ
  refine rv_ 1 (.bool false) (fun a ee => execNot8 (b := true) rfl (ee _)) (rf_ [(24, .bool false)] (h2_ t0 t1) ?_)
  rintro a A ⟨t24, -⟩ ⟨t0, t1, -⟩
  refine wp_cond_false t24 ?_
  refine wp_skip ?_
  clear t24
  refine wp_seq ?_
  refine wi_ A (h2_ t0 t1) (rc_ 1 (newS_o I K hK X1) fun e X3 hh => ?_)
  obtain ⟨db, F, he, hk, hb⟩ := hh
  refine ⟨_, he, ?_⟩
  have bQ : Below X1.heap.size X1 X3 := hb
  have FW : (Flw I X3 V.heap.size F db (.slice none 0 0) (.slice none 0 0) (fun _ => ByteArray.empty) 0 0 0 0 K false) := hk _ (BB).size
  replace BB := BB.trans (bQ.mono BB.size)
  clear bQ
  refine rf_ [(5, .pointer (some ⟨db, 0, none⟩)), (6, .int .i64 ((0 : Nat) : Int))] (h2_ t0 t1) ?_
  rintro a A ⟨t5, t6, -⟩ ⟨t0, t1, -⟩
  refine wp_seq ?_
  refine wp_seq ?_
  refine wi_ A (h4_ t0 t1 t5 t6) (rv_ 1 (.bool false) (fun a ee => execDec (exIlss3 (p := ((K : Nat) : Int)) (q := 0) rfl (ee _) rfl) (decide_eq_false (by omega))) (rv_ 4 (.bool false) (fun a ee => execDec (exIgtr3 (p := ((K : Nat) : Int)) (q := 1024) rfl (ee _) rfl) (decide_eq_false (by omega))) (rf_ [(35, .bool false)] (h4_ t0 t1 t5 t6) ?_)))
  rintro a A ⟨t35, -⟩ ⟨t0, t1, t5, t6, -⟩
  refine wp_cond_false t35 ?_
  refine wp_skip ?_
  clear t35
  refine wp_seq ?_
  refine wp_seq ?_
  refine wi_ A (h4_ t0 t1 t5 t6) (rv_ 1 (.bool false) (fun a ee => execDec (execErneq (p := 0) (q := 0) rfl (ee _)) (by decide)) (rv_ 4 (.bool false) (fun a ee => execDSeqls rfl (ee _)) (rc_ 8 (I.cap (FW.dr)) (cb_ fun X6 bQ => ?_))))
  replace FW := (FW.on bQ)
  replace BB := BB.trans (bQ.mono BB.size)
  clear bQ
  refine rv_ 10 (.bool false) (fun a ee => execDec (exIneq3 (p := ((K : Nat) : Int)) (q := ((K : Nat) : Int)) rfl (ee _) (ee _)) (decide_eq_false (fun h => h rfl))) (rf_ [(53, .bool false)] (h3_ t0 t1 t5) ?_)
  rintro a A ⟨t53, -⟩ ⟨t0, t1, t5, -⟩
  refine wp_cond_false t53 ?_
  refine wp_skip ?_
  clear t53
  refine wp_seq ?_
  refine wi_ A (h3_ t0 t1 t5) (rf_ [(7, .slice none 0 0), (8, .slice none 0 0)] (h3_ t0 t1 t5) ?_)
  rintro a A ⟨t7, t8, -⟩ ⟨t0, t1, t5, -⟩
  refine wp_seq ?_
  refine wp_seq ?_
  refine wi_ A (h5_ t0 t1 t5 t7 t8) (rv_ 1 (.int .i64 ((l : Nat) : Int)) (fun a ee => execLenS8 (len := l) rfl (ee _) hP.shp) (rf_ [(54, sv), (55, .int .i64 ((l : Nat) : Int)), (56, .int .i64 ((0 : Nat) : Int))] (h4_ t0 t5 t7 t8) ?_))
  rintro a A ⟨t54, t55, t56, -⟩ ⟨t0, t5, t7, t8, -⟩
  refine wp_block ?_
  refine wp_loop (fun a W => ∃ (i : Nat) (F : (Nat → Prop)) (iw : Value) (ow : Value) (u : (Nat → ByteArray)) (p : Nat) (q : Nat), i ≤ l ∧ (q ≤ p) ∧ (p ≤ i) ∧ (a.tmps.size = 253 ∧ a.defers = []) ∧ a.eval (.tmp 0) = .int .i64 ((K : Nat) : Int) ∧ a.eval (.tmp 5) = .pointer (some ⟨db, 0, none⟩) ∧ a.eval (.tmp 7) = iw ∧ a.eval (.tmp 8) = ow ∧ a.eval (.tmp 54) = sv ∧ a.eval (.tmp 55) = .int .i64 ((l : Nat) : Int) ∧ a.eval (.tmp 56) = .int .i64 ((i : Nat) : Int) ∧ Below V.heap.size V W ∧ (Flw I W V.heap.size F db iw ow u p q p q K false)) (fun a _ => l - (intOf (a.eval (.tmp 56))).toNat) ⟨0, F, (.slice none 0 0), (.slice none 0 0), (fun _ => ByteArray.empty), 0, 0, Nat.zero_le _, Nat.le_refl _, Nat.le_refl _, A, t0, t5, t7, t8, t54, t55, t56, BB, FW⟩ ?_
  clear A t0 t5 t7 t8 t54 t55 t56 BB FW a
  rintro a XL10 ⟨i, F, iw, ow, u, p, q, hi, hqp, hpi, A, t0, t5, t7, t8, t54, t55, t56, BB, FW⟩
  have esi := t56
  refine wp_seq ?_
  refine wi_ A (h7_ t0 t5 t7 t8 t54 t55 t56) (rv_ 0 (.bool (decide (i < l))) (fun a ee => execLtW (p := i) (q := l) rfl (ee _) (ee _)) (rf_ [(57, .bool (decide (i < l)))] (h7_ t0 t5 t7 t8 t54 t55 t56) ?_))
  rintro a A ⟨t57, -⟩ ⟨t0, t5, t7, t8, t54, t55, t56, -⟩
  refine wp_seq ?_
  by_cases lti : i < l
  · rw [decide_eq_true lti] at t57
    refine wp_cond_true t57 ?_
    refine wp_skip ?_
    clear t57
    refine wp_seq ?_
    refine wp_block ?_
    obtain ⟨pb, po, pc, ep_, hpb, hpc⟩ := hP.at (show 0 < l by omega)
    have cP : ∀ X, Below V.heap.size V X → X.cell? ⟨pb, po + i, none⟩ = some (.string (s i)) := fun X hX => by rw [cell_below hX hpb]; exact hpc i lti
    have hle : p - q ≤ K := (I.le FW.dr).1
    refine wp_seq ?_
    refine wi_ A (h7_ t0 t5 t7 t8 t54 t55 t56) (rv_ 0 (.pointer (some ⟨pb, po + i, none⟩)) (fun a ee => execIdxS8 (k := i) rfl ((ee _).trans ep_) (ee _) lti) (rv_ 1 (.string (s i)) (fun a ee => execLdS8 rfl (ee _) (cP XL10 BB)) (rf_ [(10, .string (s i))] (h7_ t0 t5 t7 t8 t54 t55 t56) ?_)))
    rintro a A ⟨t10, -⟩ ⟨t0, t5, t7, t8, t54, t55, t56, -⟩
    refine wp_seq ?_
    refine wp_seq ?_
    refine wi_ A (h8_ t0 t5 t7 t8 t54 t55 t56 t10) (rc_ 1 (I.len (FW.dr)) (cb_ fun X12_1 bQ => ?_))
    replace FW := (FW.on bQ)
    replace BB := BB.trans (bQ.mono BB.size)
    clear bQ
    refine rv_ 3 (.int .i64 ((p : Nat) : Int)) (fun a ee => execLenS8 (len := p) rfl (ee _) (own_shp FW.inn)) (rv_ 5 (.int .i64 ((q : Nat) : Int)) (fun a ee => execLenS8 (len := q) rfl (ee _) (own_shp FW.out)) (rv_ 6 (.int .i64 ((p - q : Nat) : Int)) (fun a ee => By8.execSubI (p := p) (q := q) rfl (ee _) (ee _) (by omega) (by omega)) (rv_ 7 (.bool false) (fun a ee => execDec (exIneq3 (p := ((p - q : Nat) : Int)) (q := ((p - q : Nat) : Int)) rfl (ee _) (ee _)) (decide_eq_false (fun h => h rfl))) (rc_ 10 (I.len (FW.dr)) (cb_ fun X12_2 bQ => ?_)))))
    replace FW := (FW.on bQ)
    replace BB := BB.trans (bQ.mono BB.size)
    clear bQ
    refine rv_ 12 (.bool false) (fun a ee => execDec (exIgtr3 (p := ((p - q : Nat) : Int)) (q := ((K : Nat) : Int)) rfl (ee _) (ee _)) (decide_eq_false (by omega))) (rc_ 16 (I.closed (FW.dr)) (cb_ fun X12_3 bQ => ?_))
    replace FW := (FW.on bQ)
    replace BB := BB.trans (bQ.mono BB.size)
    clear bQ
    refine rc_ 20 (I.canTake_b (FW.dr) (rfl)) (cb_ fun X12_4 bQ => ?_)
    replace FW := (FW.on bQ)
    replace BB := BB.trans (bQ.mono BB.size)
    clear bQ
    refine rc_ 22 (I.len (FW.dr)) (cb_ fun X12_5 bQ => ?_)
    replace FW := (FW.on bQ)
    replace BB := BB.trans (bQ.mono BB.size)
    clear bQ
    refine rv_ 23 (.bool (decide (0 < p - q))) (fun a ee => execGt8 (p := p - q) (q := 0) rfl (ee _) rfl) (rv_ 24 (.bool false) (fun a ee => execNeBB18 (b := (decide (0 < p - q))) rfl (ee _) (ee _)) (rc_ 28 (I.canPut_b (FW.dr) (cp8 (p - q) K)) (cb_ fun X12_6 bQ => ?_)))
    replace FW := (FW.on bQ)
    replace BB := BB.trans (bQ.mono BB.size)
    clear bQ
    refine rc_ 30 (I.len (FW.dr)) (cb_ fun X12 bQ => ?_)
    replace FW := (FW.on bQ)
    replace BB := BB.trans (bQ.mono BB.size)
    clear bQ
    refine rv_ 32 (.bool (decide (p - q < K))) (fun a ee => execLt8 (p := p - q) (q := K) rfl (ee _) (ee _)) (rv_ 33 (.bool false) (fun a ee => execNeBB18 (b := (decide (p - q < K))) rfl (ee _) (ee _)) (rf_ [(94, .bool false)] (h8_ t0 t5 t7 t8 t54 t55 t56 t10) ?_))
    rintro a A ⟨t94, -⟩ ⟨t0, t5, t7, t8, t54, t55, t56, t10, -⟩
    refine wp_cond_false t94 ?_
    refine wp_skip ?_
    clear t94
    refine wp_seq ?_
    refine wp_seq ?_
    by_cases hs : (s i).toList = (ByteArray.mk #[]).toList
    · by_cases h0 : 0 < p - q
      · refine wi_ A (h8_ t0 t5 t7 t8 t54 t55 t56 t10) (rv_ 1 (.bool true) (fun a ee => execDec (execEqS8 rfl (ee _) rfl) (decide_eq_true hs)) (rf_ [(96, .bool true)] (h8_ t0 t5 t7 t8 t54 t55 t56 t10) ?_))
        rintro a A ⟨t96, -⟩ ⟨t0, t5, t7, t8, t54, t55, t56, t10, -⟩
        refine wp_cond_true t96 ?_
        clear t96
        refine wp_seq ?_
        refine wi_ A (h8_ t0 t5 t7 t8 t54 t55 t56 t10) (rc_ 1 (takeS_o FW (BB).size h0) fun e X15 hh => ?_)
        obtain ⟨fFW1, he, hk, hb⟩ := hh
        refine ⟨_, he, ?_⟩
        obtain ⟨BB, FW1⟩ : Below V.heap.size V X15 ∧ (Flw I X15 V.heap.size fFW1 db iw ow u p (q + 1) p q K false) := ⟨(BB).trans hb, hk⟩
        clear FW
        refine rf_ [(11, .string (u q)), (12, .bool true), (13, .int .i64 ((0 : Nat) : Int))] (h7_ t0 t5 t7 t8 t54 t55 t56) ?_
        rintro a A ⟨t11, t12, t13, -⟩ ⟨t0, t5, t7, t8, t54, t55, t56, -⟩
        refine wp_seq ?_
        refine wp_seq ?_
        refine wi_ A (h10_ t0 t5 t7 t8 t54 t55 t56 t11 t12 t13) (rv_ 1 (.bool false) (fun a ee => execDec (execErneq (p := 0) (q := 0) rfl (ee _)) (by decide)) (rv_ 5 (.int .i64 ((p : Nat) : Int)) (fun a ee => execLenS8 (len := p) rfl (ee _) (own_shp FW1.inn)) (rv_ 7 (.int .i64 ((q : Nat) : Int)) (fun a ee => execLenS8 (len := q) rfl (ee _) (own_shp FW1.out)) (rv_ 8 (.bool true) (fun a ee => execDec (exIgtr3 (p := ((p : Nat) : Int)) (q := ((q : Nat) : Int)) rfl (ee _) (ee _)) (decide_eq_true (by omega))) (rv_ 9 (.bool false) (fun a ee => execNeBB18 (b := true) rfl (ee _) (ee _)) (rv_ 13 (.bool false) (fun a ee => execNot8 (b := true) rfl (ee _)) (rf_ [(121, .bool false)] (h9_ t0 t5 t7 t8 t54 t55 t56 t11 t12) ?_)))))))
        rintro a A ⟨t121, -⟩ ⟨t0, t5, t7, t8, t54, t55, t56, t11, t12, -⟩
        refine wp_cond_false t121 ?_
        refine wp_skip ?_
        clear t121
        refine wp_seq ?_
        refine wp_seq ?_
        refine wi_ A (h9_ t0 t5 t7 t8 t54 t55 t56 t11 t12) (rf_ [(122, .bool true)] (h8_ t0 t5 t7 t8 t54 t55 t56 t11) ?_)
        rintro a A ⟨t122, -⟩ ⟨t0, t5, t7, t8, t54, t55, t56, t11, -⟩
        refine wp_cond_true t122 ?_
        clear t122
        obtain ⟨gs, eggs⟩ : ∃ z_ : Nat, X15.heap.size = z_ := ⟨_, rfl⟩
        refine wi_ A (h8_ t0 t5 t7 t8 t54 t55 t56 t11) (rs_ 2 (fun a ee => ?_))
        refine stepV rfl rfl (execBsS8 rfl (ee _)) ⟨.slice (some ⟨gs, 0, none⟩) 1 1, ⟨_, rfl, by subst eggs; rfl⟩, fun X19_1 hX => ?_⟩
        have bQ : Below X15.heap.size X15 X19_1 := by subst hX eggs; exact (belNew X15 _)
        have Fs : (X19_1.heap[gs]? = some (.cells #[.string (u q)] 9)) := by subst hX eggs; exact heapNew X15 _
        replace FW1 := (FW1.on bQ)
        replace BB := BB.trans (bQ.mono BB.size)
        clear bQ hX eggs ee a
        refine rs_ 3 (fun a ee => ?_)
        refine stepAppS8 rfl rfl rfl (ee _) (ee _) (FW1.out) Fs (by omega) (BB).size fun wFW2 X19 own' pl' => ⟨_, ⟨_, rfl, rfl⟩, eqw ?_⟩
        obtain ⟨BB, FW2⟩ : Below V.heap.size V X19 ∧ (Flw I X19 V.heap.size fFW1 db iw wFW2 u p (q + 1) p (q + 1) K false) := ⟨app_below BB (FW1.out) pl', FW1.appOut own' pl'⟩
        clear FW1 Fs ee a
        refine rf_ [(8, wFW2)] (h6_ t0 t5 t54 t55 t56 t7) ?_
        rintro a A ⟨t8, -⟩ ⟨t0, t5, t54, t55, t56, t7, -⟩
        refine wp_exit ?_
        first | with_reducible refine exit_in ?_ | with_reducible refine exit_then (exit_in ?_) | with_reducible refine exit_then (exit_then (exit_in ?_)) | refine exit_in ?_ | refine exit_then (exit_in ?_) | refine exit_then (exit_then (exit_in ?_))
        have hqn : q + 1 ≤ p := by omega
        have hpn : p ≤ i + 1 := by omega
        refine wi_ A (h7_ t0 t5 t54 t55 t56 t7 t8) (rv_ 0 (.int .i64 ((i + 1 : Nat) : Int)) (fun a ee => execAd8 (p := i) (q := 1) rfl (ee _) rfl (by omega)) (rf_ [(56, .int .i64 ((i + 1 : Nat) : Int))] (h6_ t0 t5 t7 t8 t54 t55) ?_))
        rintro a A ⟨t56, -⟩ ⟨t0, t5, t7, t8, t54, t55, -⟩
        exact ⟨⟨i + 1, fFW1, iw, wFW2, u, p, q + 1, lti, hqn, hpn, A, t0, t5, t7, t8, t54, t55, t56, BB, FW2⟩, by show l - (intOf (a.eval (.tmp 56))).toNat < l - (intOf (Act.eval _ (.tmp 56))).toNat; rw [t56, esi]; show l - (i + 1) < l - i; omega⟩
      · refine wi_ A (h8_ t0 t5 t7 t8 t54 t55 t56 t10) (rv_ 1 (.bool true) (fun a ee => execDec (execEqS8 rfl (ee _) rfl) (decide_eq_true hs)) (rf_ [(96, .bool true)] (h8_ t0 t5 t7 t8 t54 t55 t56 t10) ?_))
        rintro a A ⟨t96, -⟩ ⟨t0, t5, t7, t8, t54, t55, t56, t10, -⟩
        refine wp_cond_true t96 ?_
        clear t96
        refine wp_seq ?_
        refine wi_ A (h8_ t0 t5 t7 t8 t54 t55 t56 t10) (rc_ 1 (takeS_e FW (BB).size (by omega)) fun e X15 hh => ?_)
        obtain ⟨fFW1, he, hk, hb⟩ := hh
        refine ⟨_, he, ?_⟩
        obtain ⟨BB, FW1⟩ : Below V.heap.size V X15 ∧ (Flw I X15 V.heap.size fFW1 db iw ow u p q p q K false) := ⟨(BB).trans hb, hk⟩
        clear FW
        refine rf_ [(11, .string ⟨#[]⟩), (12, .bool false), (13, .int .i64 ((0 : Nat) : Int))] (h7_ t0 t5 t7 t8 t54 t55 t56) ?_
        rintro a A ⟨t11, t12, t13, -⟩ ⟨t0, t5, t7, t8, t54, t55, t56, -⟩
        refine wp_seq ?_
        refine wp_seq ?_
        refine wi_ A (h10_ t0 t5 t7 t8 t54 t55 t56 t11 t12 t13) (rv_ 1 (.bool false) (fun a ee => execDec (execErneq (p := 0) (q := 0) rfl (ee _)) (by decide)) (rv_ 5 (.int .i64 ((p : Nat) : Int)) (fun a ee => execLenS8 (len := p) rfl (ee _) (own_shp FW1.inn)) (rv_ 7 (.int .i64 ((q : Nat) : Int)) (fun a ee => execLenS8 (len := q) rfl (ee _) (own_shp FW1.out)) (rv_ 8 (.bool false) (fun a ee => execDec (exIgtr3 (p := ((p : Nat) : Int)) (q := ((q : Nat) : Int)) rfl (ee _) (ee _)) (decide_eq_false (by omega))) (rv_ 9 (.bool false) (fun a ee => execNeBB18 (b := false) rfl (ee _) (ee _)) (rv_ 13 (.bool true) (fun a ee => execNot8 (b := false) rfl (ee _)) (rv_ 16 (.bool false) (fun a ee => execDec (execNeS8 rfl (ee _) rfl) (decide_eq_false (fun h => h rfl))) (rf_ [(121, .bool false)] (h9_ t0 t5 t7 t8 t54 t55 t56 t11 t12) ?_))))))))
        rintro a A ⟨t121, -⟩ ⟨t0, t5, t7, t8, t54, t55, t56, t11, t12, -⟩
        refine wp_cond_false t121 ?_
        refine wp_skip ?_
        clear t121
        refine wp_seq ?_
        refine wp_seq ?_
        refine wi_ A (h9_ t0 t5 t7 t8 t54 t55 t56 t11 t12) (rf_ [(122, .bool false)] (h8_ t0 t5 t7 t8 t54 t55 t56 t11) ?_)
        rintro a A ⟨t122, -⟩ ⟨t0, t5, t7, t8, t54, t55, t56, t11, -⟩
        refine wp_cond_false t122 ?_
        refine wp_skip ?_
        clear t122
        refine wp_exit ?_
        first | with_reducible refine exit_in ?_ | with_reducible refine exit_then (exit_in ?_) | with_reducible refine exit_then (exit_then (exit_in ?_)) | refine exit_in ?_ | refine exit_then (exit_in ?_) | refine exit_then (exit_then (exit_in ?_))
        have hqn := hqp
        have hpn : p ≤ i + 1 := by omega
        refine wi_ A (h8_ t0 t5 t7 t8 t54 t55 t56 t11) (rv_ 0 (.int .i64 ((i + 1 : Nat) : Int)) (fun a ee => execAd8 (p := i) (q := 1) rfl (ee _) rfl (by omega)) (rf_ [(56, .int .i64 ((i + 1 : Nat) : Int))] (h6_ t0 t5 t7 t8 t54 t55) ?_))
        rintro a A ⟨t56, -⟩ ⟨t0, t5, t7, t8, t54, t55, -⟩
        exact ⟨⟨i + 1, fFW1, iw, ow, u, p, q, lti, hqn, hpn, A, t0, t5, t7, t8, t54, t55, t56, BB, FW1⟩, by show l - (intOf (a.eval (.tmp 56))).toNat < l - (intOf (Act.eval _ (.tmp 56))).toNat; rw [t56, esi]; show l - (i + 1) < l - i; omega⟩
    by_cases h1 : p - q < K
    · refine wi_ A (h8_ t0 t5 t7 t8 t54 t55 t56 t10) (rv_ 1 (.bool false) (fun a ee => execDec (execEqS8 rfl (ee _) rfl) (decide_eq_false hs)) (rf_ [(96, .bool false)] (h8_ t0 t5 t7 t8 t54 t55 t56 t10) ?_))
      rintro a A ⟨t96, -⟩ ⟨t0, t5, t7, t8, t54, t55, t56, t10, -⟩
      refine wp_cond_false t96 ?_
      clear t96
      refine wp_skip ?_
      refine wp_seq ?_
      refine wi_ A (h8_ t0 t5 t7 t8 t54 t55 t56 t10) (rc_ 1 (I.len (FW.dr)) (cb_ fun X20 bQ => ?_))
      replace FW := (FW.on bQ)
      replace BB := BB.trans (bQ.mono BB.size)
      clear bQ
      refine rv_ 3 (.bool false) (fun a ee => execDec (exIeql3 (p := ((p - q : Nat) : Int)) (q := ((K : Nat) : Int)) rfl (ee _) (ee _)) (decide_eq_false (by omega))) (rf_ [(14, .bool false)] (h8_ t0 t5 t7 t8 t54 t55 t56 t10) ?_)
      rintro a A ⟨t14, -⟩ ⟨t0, t5, t7, t8, t54, t55, t56, t10, -⟩
      refine wp_seq ?_
      refine wi_ A (h9_ t0 t5 t7 t8 t54 t55 t56 t10 t14) (rc_ 2 (putS_o FW (BB).size hqp (Nat.le_refl _) hqp h1) fun e X21 hh => ?_)
      obtain ⟨fFW1, he, hk, hb⟩ := hh
      refine ⟨_, he, ?_⟩
      obtain ⟨BB, FW1⟩ : Below V.heap.size V X21 ∧ (Flw I X21 V.heap.size fFW1 db iw ow (up u p (s i)) (p + 1) q p q K false) := ⟨(BB).trans hb, hk⟩
      clear FW
      refine rf_ [(15, .bool true), (16, .int .i64 ((0 : Nat) : Int))] (h9_ t0 t5 t7 t8 t54 t55 t56 t10 t14) ?_
      rintro a A ⟨t15, t16, -⟩ ⟨t0, t5, t7, t8, t54, t55, t56, t10, t14, -⟩
      refine wp_seq ?_
      refine wp_seq ?_
      refine wi_ A (h11_ t0 t5 t7 t8 t54 t55 t56 t10 t14 t15 t16) (rv_ 1 (.bool false) (fun a ee => execDec (execErneq (p := 0) (q := 0) rfl (ee _)) (by decide)) (rv_ 5 (.bool false) (fun a ee => execDec (execEqB8 rfl (ee _) (ee _)) (by decide)) (rf_ [(143, .bool false)] (h9_ t0 t5 t7 t8 t54 t55 t56 t10 t15) ?_)))
      rintro a A ⟨t143, -⟩ ⟨t0, t5, t7, t8, t54, t55, t56, t10, t15, -⟩
      refine wp_cond_false t143 ?_
      refine wp_skip ?_
      clear t143
      refine wp_seq ?_
      refine wi_ A (h9_ t0 t5 t7 t8 t54 t55 t56 t10 t15) (rf_ [(144, .bool true)] (h8_ t0 t5 t7 t8 t54 t55 t56 t10) ?_)
      rintro a A ⟨t144, -⟩ ⟨t0, t5, t7, t8, t54, t55, t56, t10, -⟩
      refine wp_cond_true t144 ?_
      clear t144
      obtain ⟨gs, eggs⟩ : ∃ z_ : Nat, X21.heap.size = z_ := ⟨_, rfl⟩
      refine wi_ A (h8_ t0 t5 t7 t8 t54 t55 t56 t10) (rs_ 2 (fun a ee => ?_))
      refine stepV rfl rfl (execBsS8 rfl (ee _)) ⟨.slice (some ⟨gs, 0, none⟩) 1 1, ⟨_, rfl, by subst eggs; rfl⟩, fun X25_1 hX => ?_⟩
      have bQ : Below X21.heap.size X21 X25_1 := by subst hX eggs; exact (belNew X21 _)
      have Fs : (X25_1.heap[gs]? = some (.cells #[.string (s i)] 9)) := by subst hX eggs; exact heapNew X21 _
      replace FW1 := (FW1.on bQ)
      replace BB := BB.trans (bQ.mono BB.size)
      clear bQ hX eggs ee a
      refine rs_ 3 (fun a ee => ?_)
      refine stepAppS8 rfl rfl rfl (ee _) (ee _) (FW1.inn) (by rw [up_at]; exact Fs) (by omega) (BB).size fun wFW2 X25 own' pl' => ⟨_, ⟨_, rfl, rfl⟩, eqw ?_⟩
      obtain ⟨BB, FW2⟩ : Below V.heap.size V X25 ∧ (Flw I X25 V.heap.size fFW1 db wFW2 ow (up u p (s i)) (p + 1) q (p + 1) q K false) := ⟨app_below BB (FW1.inn) pl', FW1.appIn own' pl'⟩
      clear FW1 Fs ee a
      refine rf_ [(7, wFW2)] (h6_ t0 t5 t54 t55 t56 t8) ?_
      rintro a A ⟨t7, -⟩ ⟨t0, t5, t54, t55, t56, t8, -⟩
      have hqn : q ≤ p + 1 := by omega
      have hpn : p + 1 ≤ i + 1 := by omega
      refine wi_ A (h7_ t0 t5 t54 t55 t56 t7 t8) (rv_ 0 (.int .i64 ((i + 1 : Nat) : Int)) (fun a ee => execAd8 (p := i) (q := 1) rfl (ee _) rfl (by omega)) (rf_ [(56, .int .i64 ((i + 1 : Nat) : Int))] (h6_ t0 t5 t7 t8 t54 t55) ?_))
      rintro a A ⟨t56, -⟩ ⟨t0, t5, t7, t8, t54, t55, -⟩
      exact ⟨⟨i + 1, fFW1, wFW2, ow, up u p (s i), p + 1, q, lti, hqn, hpn, A, t0, t5, t7, t8, t54, t55, t56, BB, FW2⟩, by show l - (intOf (a.eval (.tmp 56))).toNat < l - (intOf (Act.eval _ (.tmp 56))).toNat; rw [t56, esi]; show l - (i + 1) < l - i; omega⟩
    refine wi_ A (h8_ t0 t5 t7 t8 t54 t55 t56 t10) (rv_ 1 (.bool false) (fun a ee => execDec (execEqS8 rfl (ee _) rfl) (decide_eq_false hs)) (rf_ [(96, .bool false)] (h8_ t0 t5 t7 t8 t54 t55 t56 t10) ?_))
    rintro a A ⟨t96, -⟩ ⟨t0, t5, t7, t8, t54, t55, t56, t10, -⟩
    refine wp_cond_false t96 ?_
    clear t96
    refine wp_skip ?_
    refine wp_seq ?_
    refine wi_ A (h8_ t0 t5 t7 t8 t54 t55 t56 t10) (rc_ 1 (I.len (FW.dr)) (cb_ fun X20 bQ => ?_))
    replace FW := (FW.on bQ)
    replace BB := BB.trans (bQ.mono BB.size)
    clear bQ
    refine rv_ 3 (.bool true) (fun a ee => execDec (exIeql3 (p := ((p - q : Nat) : Int)) (q := ((K : Nat) : Int)) rfl (ee _) (ee _)) (decide_eq_true (by omega))) (rf_ [(14, .bool true)] (h8_ t0 t5 t7 t8 t54 t55 t56 t10) ?_)
    rintro a A ⟨t14, -⟩ ⟨t0, t5, t7, t8, t54, t55, t56, t10, -⟩
    refine wp_seq ?_
    refine wi_ A (h9_ t0 t5 t7 t8 t54 t55 t56 t10 t14) (rc_ 2 (putS_f FW (BB).size h1) fun e X21 hh => ?_)
    obtain ⟨fFW1, he, hk, hb⟩ := hh
    refine ⟨_, he, ?_⟩
    obtain ⟨BB, FW1⟩ : Below V.heap.size V X21 ∧ (Flw I X21 V.heap.size fFW1 db iw ow u p q p q K false) := ⟨(BB).trans hb, hk⟩
    clear FW
    refine rf_ [(15, .bool false), (16, .int .i64 ((0 : Nat) : Int))] (h9_ t0 t5 t7 t8 t54 t55 t56 t10 t14) ?_
    rintro a A ⟨t15, t16, -⟩ ⟨t0, t5, t7, t8, t54, t55, t56, t10, t14, -⟩
    refine wp_seq ?_
    refine wp_seq ?_
    refine wi_ A (h11_ t0 t5 t7 t8 t54 t55 t56 t10 t14 t15 t16) (rv_ 1 (.bool false) (fun a ee => execDec (execErneq (p := 0) (q := 0) rfl (ee _)) (by decide)) (rv_ 5 (.bool false) (fun a ee => execDec (execEqB8 rfl (ee _) (ee _)) (by decide)) (rf_ [(143, .bool false)] (h9_ t0 t5 t7 t8 t54 t55 t56 t10 t15) ?_)))
    rintro a A ⟨t143, -⟩ ⟨t0, t5, t7, t8, t54, t55, t56, t10, t15, -⟩
    refine wp_cond_false t143 ?_
    refine wp_skip ?_
    clear t143
    refine wp_seq ?_
    refine wi_ A (h9_ t0 t5 t7 t8 t54 t55 t56 t10 t15) (rf_ [(144, .bool false)] (h8_ t0 t5 t7 t8 t54 t55 t56 t10) ?_)
    rintro a A ⟨t144, -⟩ ⟨t0, t5, t7, t8, t54, t55, t56, t10, -⟩
    refine wp_cond_false t144 ?_
    refine wp_skip ?_
    clear t144
    have hqn := hqp
    have hpn : p ≤ i + 1 := by omega
    refine wi_ A (h8_ t0 t5 t7 t8 t54 t55 t56 t10) (rv_ 0 (.int .i64 ((i + 1 : Nat) : Int)) (fun a ee => execAd8 (p := i) (q := 1) rfl (ee _) rfl (by omega)) (rf_ [(56, .int .i64 ((i + 1 : Nat) : Int))] (h6_ t0 t5 t7 t8 t54 t55) ?_))
    rintro a A ⟨t56, -⟩ ⟨t0, t5, t7, t8, t54, t55, -⟩
    exact ⟨⟨i + 1, fFW1, iw, ow, u, p, q, lti, hqn, hpn, A, t0, t5, t7, t8, t54, t55, t56, BB, FW1⟩, by show l - (intOf (a.eval (.tmp 56))).toNat < l - (intOf (Act.eval _ (.tmp 56))).toNat; rw [t56, esi]; show l - (i + 1) < l - i; omega⟩
  rw [decide_eq_false lti] at t57
  refine wp_cond_false t57 ?_
  refine wp_exit ?_
  first | with_reducible refine exit_in ?_ | with_reducible refine exit_then (exit_in ?_) | with_reducible refine exit_then (exit_then (exit_in ?_)) | refine exit_in ?_ | refine exit_then (exit_in ?_) | refine exit_then (exit_then (exit_in ?_))
  clear t57 esi
  refine wp_seq ?_
  refine wp_seq ?_
  refine wi_ A (h7_ t0 t5 t7 t8 t54 t55 t56) (rc_ 1 (closeS_o FW (BB).size) fun e X27_1 hh => ?_)
  obtain ⟨fFW1, he, hk, hb⟩ := hh
  refine ⟨_, he, ?_⟩
  obtain ⟨BB, FW1⟩ : Below V.heap.size V X27_1 ∧ (Flw I X27_1 V.heap.size fFW1 db iw ow u p q p q K true) := ⟨(BB).trans hb, hk⟩
  clear FW
  refine rv_ 2 (.bool false) (fun a ee => execDec (execErneq (p := 0) (q := 0) rfl (ee _)) (by decide)) (rc_ 5 (closeS_c FW1 (BB).size) fun e X27_2 hh => ?_)
  obtain ⟨fFW2, he, hk, hb⟩ := hh
  refine ⟨_, he, ?_⟩
  obtain ⟨BB, FW2⟩ : Below V.heap.size V X27_2 ∧ (Flw I X27_2 V.heap.size fFW2 db iw ow u p q p q K true) := ⟨(BB).trans hb, hk⟩
  clear FW1
  refine rv_ 6 (.bool false) (fun a ee => execDec (execErneq (p := 180) (q := 180) rfl (ee _)) (by decide)) (rc_ 10 (I.canPut_b (FW2.dr) (decide_eq_false (fun h => by cases h.1))) (cb_ fun X27_3 bQ => ?_))
  replace FW2 := (FW2.on bQ)
  replace BB := BB.trans (bQ.mono BB.size)
  clear bQ
  refine rc_ 14 (I.closed (FW2.dr)) (cb_ fun X27 bQ => ?_)
  replace FW2 := (FW2.on bQ)
  replace BB := BB.trans (bQ.mono BB.size)
  clear bQ
  refine rv_ 15 (.bool false) (fun a ee => execNot8 (b := true) rfl (ee _)) (rf_ [(166, .bool false)] (h3_ t5 t7 t8) ?_)
  rintro a A ⟨t166, -⟩ ⟨t5, t7, t8, -⟩
  refine wp_cond_false t166 ?_
  refine wp_skip ?_
  clear t166
  refine wp_seq ?_
  refine wi_ A (h3_ t5 t7 t8) (rc_ 1 (putS_c FW2 (BB).size) fun e X29 hh => ?_)
  obtain ⟨fFW3, he, hk, hb⟩ := hh
  refine ⟨_, he, ?_⟩
  obtain ⟨BB, FW3⟩ : Below V.heap.size V X29 ∧ (Flw I X29 V.heap.size fFW3 db iw ow u p q p q K true) := ⟨(BB).trans hb, hk⟩
  clear FW2
  refine rf_ [(17, .bool false), (6, .int .i64 ((180 : Nat) : Int))] (h3_ t5 t7 t8) ?_
  rintro a A ⟨t17, t6, -⟩ ⟨t5, t7, t8, -⟩
  refine wp_seq ?_
  refine wp_seq ?_
  refine wi_ A (h5_ t5 t7 t8 t17 t6) (rv_ 3 (.bool false) (fun a ee => execDec (execErneq (p := 180) (q := 180) rfl (ee _)) (by decide)) (rc_ 7 (I.len (FW3.dr)) (cb_ fun X30 bQ => ?_)))
  replace FW3 := (FW3.on bQ)
  replace BB := BB.trans (bQ.mono BB.size)
  clear bQ
  refine rv_ 9 (.int .i64 ((p : Nat) : Int)) (fun a ee => execLenS8 (len := p) rfl (ee _) (own_shp FW3.inn)) (rv_ 11 (.int .i64 ((q : Nat) : Int)) (fun a ee => execLenS8 (len := q) rfl (ee _) (own_shp FW3.out)) (rv_ 12 (.int .i64 ((p - q : Nat) : Int)) (fun a ee => By8.execSubI (p := p) (q := q) rfl (ee _) (ee _) (by omega) (by omega)) (rv_ 13 (.bool false) (fun a ee => execDec (exIneq3 (p := ((p - q : Nat) : Int)) (q := ((p - q : Nat) : Int)) rfl (ee _) (ee _)) (decide_eq_false (fun h => h rfl))) (rf_ [(186, .bool false)] (h3_ t5 t7 t8) ?_))))
  rintro a A ⟨t186, -⟩ ⟨t5, t7, t8, -⟩
  refine wp_cond_false t186 ?_
  refine wp_skip ?_
  clear t186
  refine wp_seq ?_
  refine wp_seq ?_
  refine wi_ A (h3_ t5 t7 t8) (rv_ 1 (.int .i64 ((p : Nat) : Int)) (fun a ee => execLenS8 (len := p) rfl (ee _) (own_shp FW3.inn)) (rv_ 3 (.int .i64 ((q : Nat) : Int)) (fun a ee => execLenS8 (len := q) rfl (ee _) (own_shp FW3.out)) (rv_ 4 (.int .i64 ((p - q : Nat) : Int)) (fun a ee => By8.execSubI (p := p) (q := q) rfl (ee _) (ee _) (by omega) (by omega)) (rf_ [(191, .int .i64 ((p - q : Nat) : Int)), (192, .int .i64 ((0 : Nat) : Int))] (h3_ t5 t7 t8) ?_))))
  rintro a A ⟨t191, t192, -⟩ ⟨t5, t7, t8, -⟩
  have FW := FW3
  clear FW3
  refine wp_block ?_
  refine wp_loop (fun a W => ∃ (y : Nat) (F2 : (Nat → Prop)) (ow2 : Value), y ≤ (p - q) ∧ (a.tmps.size = 253 ∧ a.defers = []) ∧ a.eval (.tmp 5) = .pointer (some ⟨db, 0, none⟩) ∧ a.eval (.tmp 7) = iw ∧ a.eval (.tmp 8) = ow2 ∧ a.eval (.tmp 191) = .int .i64 ((p - q : Nat) : Int) ∧ a.eval (.tmp 192) = .int .i64 ((y : Nat) : Int) ∧ Below V.heap.size V W ∧ (Flw I W V.heap.size F2 db iw ow2 u p (q + y) p (q + y) K true)) (fun a _ => (p - q) - (intOf (a.eval (.tmp 192))).toNat) ⟨0, fFW3, ow, Nat.zero_le _, A, t5, t7, t8, t191, t192, BB, FW⟩ ?_
  clear A t5 t7 t8 t191 t192 BB FW a
  rintro a XL33 ⟨y, F2, ow2, hy, A, t5, t7, t8, t191, t192, BB, FW⟩
  have esy := t192
  refine wp_seq ?_
  refine wi_ A (h5_ t5 t7 t8 t191 t192) (rv_ 0 (.bool (decide (y < p - q))) (fun a ee => execLtW (p := y) (q := p - q) rfl (ee _) (ee _)) (rf_ [(193, .bool (decide (y < p - q)))] (h5_ t5 t7 t8 t191 t192) ?_))
  rintro a A ⟨t193, -⟩ ⟨t5, t7, t8, t191, t192, -⟩
  refine wp_seq ?_
  by_cases lty : y < (p - q)
  · rw [decide_eq_true lty] at t193
    refine wp_cond_true t193 ?_
    refine wp_skip ?_
    clear t193
    refine wp_seq ?_
    refine wp_block ?_
    refine wp_seq ?_
    refine wi_ A (h5_ t5 t7 t8 t191 t192) (rc_ 1 (takeS_o FW (BB).size (by omega)) fun e X34 hh => ?_)
    obtain ⟨fFW1, he, hk, hb⟩ := hh
    refine ⟨_, he, ?_⟩
    obtain ⟨BB, FW1⟩ : Below V.heap.size V X34 ∧ (Flw I X34 V.heap.size fFW1 db iw ow2 u p (q + y + 1) p (q + y) K true) := ⟨(BB).trans hb, hk⟩
    clear FW
    refine rf_ [(18, .string (u (q + y))), (19, .bool true), (20, .int .i64 ((0 : Nat) : Int))] (h5_ t5 t7 t8 t191 t192) ?_
    rintro a A ⟨t18, t19, t20, -⟩ ⟨t5, t7, t8, t191, t192, -⟩
    refine wp_seq ?_
    refine wp_seq ?_
    refine wi_ A (h8_ t5 t7 t8 t191 t192 t18 t19 t20) (rv_ 1 (.bool false) (fun a ee => execNot8 (b := true) rfl (ee _)) (rv_ 4 (.bool false) (fun a ee => execDec (execErneq (p := 0) (q := 0) rfl (ee _)) (by decide)) (rf_ [(205, .bool false)] (h6_ t5 t7 t8 t191 t192 t18) ?_)))
    rintro a A ⟨t205, -⟩ ⟨t5, t7, t8, t191, t192, t18, -⟩
    refine wp_cond_false t205 ?_
    refine wp_skip ?_
    clear t205
    obtain ⟨gs, eggs⟩ : ∃ z_ : Nat, X34.heap.size = z_ := ⟨_, rfl⟩
    refine wi_ A (h6_ t5 t7 t8 t191 t192 t18) (rs_ 2 (fun a ee => ?_))
    refine stepV rfl rfl (execBsS8 rfl (ee _)) ⟨.slice (some ⟨gs, 0, none⟩) 1 1, ⟨_, rfl, by subst eggs; rfl⟩, fun X37_1 hX => ?_⟩
    have bQ : Below X34.heap.size X34 X37_1 := by subst hX eggs; exact (belNew X34 _)
    have Fs : (X37_1.heap[gs]? = some (.cells #[.string (u (q + y))] 9)) := by subst hX eggs; exact heapNew X34 _
    replace FW1 := (FW1.on bQ)
    replace BB := BB.trans (bQ.mono BB.size)
    clear bQ hX eggs ee a
    refine rs_ 3 (fun a ee => ?_)
    refine stepAppS8 rfl rfl rfl (ee _) (ee _) (FW1.out) Fs (by omega) (BB).size fun wFW2 X37 own' pl' => ⟨_, ⟨_, rfl, rfl⟩, eqw ?_⟩
    obtain ⟨BB, FW2⟩ : Below V.heap.size V X37 ∧ (Flw I X37 V.heap.size fFW1 db iw wFW2 u p (q + y + 1) p (q + y + 1) K true) := ⟨app_below BB (FW1.out) pl', FW1.appOut own' pl'⟩
    clear FW1 Fs ee a
    refine rf_ [(8, wFW2)] (h4_ t5 t7 t191 t192) ?_
    rintro a A ⟨t8, -⟩ ⟨t5, t7, t191, t192, -⟩
    refine wi_ A (h5_ t5 t7 t8 t191 t192) (rv_ 0 (.int .i64 ((y + 1 : Nat) : Int)) (fun a ee => execAd8 (p := y) (q := 1) rfl (ee _) rfl (by omega)) (rf_ [(192, .int .i64 ((y + 1 : Nat) : Int))] (h4_ t5 t7 t8 t191) ?_))
    rintro a A ⟨t192, -⟩ ⟨t5, t7, t8, t191, -⟩
    exact ⟨⟨y + 1, fFW1, wFW2, lty, A, t5, t7, t8, t191, t192, BB, FW2⟩, by show (p - q) - (intOf (a.eval (.tmp 192))).toNat < (p - q) - (intOf (Act.eval _ (.tmp 192))).toNat; rw [t192, esy]; show (p - q) - (y + 1) < (p - q) - y; omega⟩
  rw [decide_eq_false lty] at t193
  refine wp_cond_false t193 ?_
  refine wp_exit ?_
  first | with_reducible refine exit_in ?_ | with_reducible refine exit_then (exit_in ?_) | with_reducible refine exit_then (exit_then (exit_in ?_)) | refine exit_in ?_ | refine exit_then (exit_in ?_) | refine exit_then (exit_then (exit_in ?_))
  clear t193 esy
  have ey : p - (q + y) = 0 := by omega
  refine wp_seq ?_
  refine wi_ A (h5_ t5 t7 t8 t191 t192) (rc_ 1 (takeS_c FW (BB).size ey) fun e X39 hh => ?_)
  obtain ⟨fFW1, he, hk, hb⟩ := hh
  refine ⟨_, he, ?_⟩
  obtain ⟨BB, FW1⟩ : Below V.heap.size V X39 ∧ (Flw I X39 V.heap.size fFW1 db iw ow2 u p (q + y) p (q + y) K true) := ⟨(BB).trans hb, hk⟩
  clear FW
  refine rf_ [(21, .string ⟨#[]⟩), (17, .bool false), (6, .int .i64 ((180 : Nat) : Int))] (h3_ t5 t7 t8) ?_
  rintro a A ⟨t21, t17, t6, -⟩ ⟨t5, t7, t8, -⟩
  refine wp_seq ?_
  refine wp_seq ?_
  refine wi_ A (h6_ t5 t7 t8 t21 t17 t6) (rv_ 3 (.bool false) (fun a ee => execDec (execErneq (p := 180) (q := 180) rfl (ee _)) (by decide)) (rv_ 7 (.bool false) (fun a ee => execDec (execNeS8 rfl (ee _) rfl) (decide_eq_false (fun h => h rfl))) (rc_ 11 (I.len (FW1.dr)) (cb_ fun X40 bQ => ?_))))
  replace FW1 := (FW1.on bQ)
  replace BB := BB.trans (bQ.mono BB.size)
  clear bQ
  refine rv_ 12 (.bool false) (fun a ee => execDec (exIneq3 (p := ((p - (q + y) : Nat) : Int)) (q := 0) rfl (ee _) rfl) (decide_eq_false (by omega))) (rv_ 16 (.int .i64 ((p : Nat) : Int)) (fun a ee => execLenS8 (len := p) rfl (ee _) (own_shp FW1.inn)) (rv_ 18 (.int .i64 ((q + y : Nat) : Int)) (fun a ee => execLenS8 (len := q + y) rfl (ee _) (own_shp FW1.out)) (rv_ 19 (.bool false) (fun a ee => execDec (exIneq3 (p := ((p : Nat) : Int)) (q := ((q + y : Nat) : Int)) rfl (ee _) (ee _)) (decide_eq_false (by omega))) (rf_ [(237, .bool false)] (h2_ t7 t8) ?_))))
  rintro a A ⟨t237, -⟩ ⟨t7, t8, -⟩
  refine wp_cond_false t237 ?_
  refine wp_skip ?_
  clear t237
  refine wp_seq ?_
  refine wp_seq ?_
  refine wi_ A (h2_ t7 t8) (rv_ 1 (.int .i64 ((p : Nat) : Int)) (fun a ee => execLenS8 (len := p) rfl (ee _) (own_shp FW1.inn)) (rf_ [(239, .int .i64 ((p : Nat) : Int)), (240, .int .i64 ((0 : Nat) : Int))] (h2_ t7 t8) ?_))
  rintro a A ⟨t239, t240, -⟩ ⟨t7, t8, -⟩
  have FW := FW1
  clear FW1
  refine wp_block ?_
  refine wp_loop (fun a W => ∃ (x : Nat), x ≤ p ∧ (a.tmps.size = 253 ∧ a.defers = []) ∧ a.eval (.tmp 7) = iw ∧ a.eval (.tmp 8) = ow2 ∧ a.eval (.tmp 239) = .int .i64 ((p : Nat) : Int) ∧ a.eval (.tmp 240) = .int .i64 ((x : Nat) : Int) ∧ Below V.heap.size V W ∧ (Flw I W V.heap.size fFW1 db iw ow2 u p (q + y) p (q + y) K true)) (fun a _ => p - (intOf (a.eval (.tmp 240))).toNat) ⟨0, Nat.zero_le _, A, t7, t8, t239, t240, BB, FW⟩ ?_
  clear A t7 t8 t239 t240 BB FW a
  rintro a XL43 ⟨x, hx, A, t7, t8, t239, t240, BB, FW⟩
  have esx := t240
  refine wp_seq ?_
  refine wi_ A (h4_ t7 t8 t239 t240) (rv_ 0 (.bool (decide (x < p))) (fun a ee => execLtW (p := x) (q := p) rfl (ee _) (ee _)) (rf_ [(241, .bool (decide (x < p)))] (h4_ t7 t8 t239 t240) ?_))
  rintro a A ⟨t241, -⟩ ⟨t7, t8, t239, t240, -⟩
  refine wp_seq ?_
  by_cases ltx : x < p
  · rw [decide_eq_true ltx] at t241
    refine wp_cond_true t241 ?_
    refine wp_skip ?_
    clear t241
    refine wp_seq ?_
    refine wp_block ?_
    obtain ⟨ab, ao, ac, ea_, hab, hac⟩ := (own_ss8 FW.inn).at (show 0 < p by omega)
    obtain ⟨bb, bo, bc, eb_, hbb, hbc⟩ := (own_ss8 FW.out).at (show 0 < q + y by omega)
    refine wp_seq ?_
    refine wi_ A (h4_ t7 t8 t239 t240) (rf_ [(22, .int .i64 ((x : Nat) : Int))] (h4_ t7 t8 t239 t240) ?_)
    rintro a A ⟨t22, -⟩ ⟨t7, t8, t239, t240, -⟩
    have hac := hac x ltx
    have hbc := hbc x (by omega)
    have Fa := hac
    have Fb := hbc
    clear hac hbc
    refine wp_seq ?_
    refine wj_ [0, 1, 2, 3, 4, 5, 6, 7, 8] [] [3, 7] [] A (h5_ t7 t8 t239 t240 t22) (fun X45 bD => ?_)
    refine dw_ 2 (.pointer (some ⟨ab, ao + x, none⟩)) (fun a X ee => execIdxS8 (k := x) rfl ((ee _).trans ea_) (ee _) ltx) (dv_ 3 (.string (u x)) (fun a X ee hb => execLdS8 rfl (ee _) (cell8 Fa hb)) (dw_ 6 (.pointer (some ⟨bb, bo + x, none⟩)) (fun a X ee => execIdxS8 (k := x) rfl ((ee _).trans eb_) (ee _) (by omega)) (dv_ 7 (.string (u x)) (fun a X ee hb => execLdS8 rfl (ee _) (cell8 Fb hb)) (dw_ 8 (.bool false) (fun a X ee => execDec (execNeS8 rfl (ee _) (ee _)) (decide_eq_false (fun h => h rfl))) (dz_ [(251, .bool false)] (h4_ t7 t8 t239 t240) ?_)))))
    rintro a A ⟨t251, -⟩ ⟨t7, t8, t239, t240, -⟩
    replace FW := (FW.on bD)
    replace Fa := (cell8 Fa bD)
    replace Fb := (cell8 Fb bD)
    replace BB := BB.trans (bD.mono BB.size)
    clear bD
    refine wp_cond_false t251 ?_
    refine wp_skip ?_
    clear t251
    clear Fa Fb
    refine wi_ A (h4_ t7 t8 t239 t240) (rv_ 0 (.int .i64 ((x + 1 : Nat) : Int)) (fun a ee => execAd8 (p := x) (q := 1) rfl (ee _) rfl (by omega)) (rf_ [(240, .int .i64 ((x + 1 : Nat) : Int))] (h3_ t7 t8 t239) ?_))
    rintro a A ⟨t240, -⟩ ⟨t7, t8, t239, -⟩
    exact ⟨⟨x + 1, ltx, A, t7, t8, t239, t240, BB, FW⟩, by show p - (intOf (a.eval (.tmp 240))).toNat < p - (intOf (Act.eval _ (.tmp 240))).toNat; rw [t240, esx]; show p - (x + 1) < p - x; omega⟩
  rw [decide_eq_false ltx] at t241
  refine wp_cond_false t241 ?_
  refine wp_exit ?_
  first | with_reducible refine exit_in ?_ | with_reducible refine exit_then (exit_in ?_) | with_reducible refine exit_then (exit_then (exit_in ?_)) | refine exit_in ?_ | refine exit_then (exit_in ?_) | refine exit_then (exit_then (exit_in ?_))
  clear t241 esx
  refine wp_seq ?_
  refine wi_ A (h4_ t7 t8 t239 t240) (rg_ [(4, .bool true)] ?_)
  rintro a A ⟨t4, -⟩
  refine wp_ret ?_
  refine bodyPost_ret (results_tmp rfl _ _ _) A.2 ⟨?_, BB⟩
  show Ending.returned (a.eval (.tmp 4)) = _
  rw [t4]
theorem flows18 (I0 : ImplI) (I : ImplS) (kp : Int) (sv : Value) (l : Nat) (s : Nat → ByteArray) (V : World) (hP : Ss8 V sv l s) (hl : l ≤ 8796093021952) :
    Calls Try.prog 4 #[.int .i64 kp, sv] V fun e w' => e = .returned (.bool true) ∧ Below V.heap.size V w' := by
  by_cases h1 : kp < 0
  · exact flows_lo I0 I kp sv V h1
  · by_cases h2 : 1024 < kp
    · exact flows_hi I0 I kp sv V h2
    · obtain ⟨K, rfl⟩ : ∃ K : Nat, kp = ((K : Nat) : Int) := ⟨kp.toNat, by omega⟩
      exact flows_k I0 I K (by omega) sv l s V hP hl
end Go.Proofs.Ytialghojibjknaa.Duc
