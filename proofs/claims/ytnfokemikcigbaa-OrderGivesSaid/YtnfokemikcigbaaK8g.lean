import Derived.Test.YtnfokemikcigbaaK8f
import Derived.Test.YtnfokemikcigbaaK8b
import Derived.Test.YtnfokemikcigbaaK8e
namespace Go.Proofs.Ytnfokemikcigbaa.Ord
open Go.RowKit Gf8 Aes By8 Cel Cf Win Drw Prm
open Go.ChangeMaps Go.MapKept
/- The reference's find, Add, Next, First; place, allBelow, awake. Written by tools/mkK8g.py. -/

def plc (i : Int) (n : Nat) : Nat := (if i < 0 then -(i + 1) else i).toNat % n
theorem place20 (i : Int) (n : Nat) (V : World) (h1 : -9223372036854775808 ≤ i) (h2 : i < 9223372036854775808) (hn : 0 < n) (hm : n < 9223372036854775808) :
    Calls Try.prog 9 #[.int .i64 i, .int .i64 (n : Int)] V fun e w' => e = .returned (.int .i64 (plc i n : Nat)) ∧ w' = V := by
  have n1 : (n : Int) < 9223372036854775808 := by omega
  have n0 : (n : Int) ≠ 0 := by omega
  have HN : Hid (0 < n) := hn
  clear hn hm
  by_cases h0 : i < 0
  · obtain ⟨k, hk⟩ : ∃ k : Nat, -(i + 1) = k := ⟨(-(i + 1)).toNat, by omega⟩
    have k1 : (k : Int) < 9223372036854775808 := by omega
    have ep : plc i n = k % n := by unfold plc; rw [if_pos h0, hk]; simp
    have HK : Hid (_) := hk
    have EP : Hid (_) := ep
    clear ep
    go_enter Try.func9, Try.ntmps9
    go_wp2
    go_ret
    rw [EP.out]
    exact ⟨rfl, rfl⟩
  · obtain ⟨k, rfl⟩ : ∃ k : Nat, i = k := ⟨i.toNat, by omega⟩
    have ep : plc (k : Int) n = k % n := by unfold plc; rw [if_neg h0]; simp
    have EP : Hid (_) := ep
    clear ep
    go_enter Try.func9, Try.ntmps9
    go_wp2
    go_ret
    rw [EP.out]
    exact ⟨rfl, rfl⟩
theorem execEqSt {o : Oper} {a : Act} {w : World} {x y : Operand} {s : ByteArray} (ho : o.op = .binOp .eql 9 x y 9) (hx : a.eval x = .string s) (hy : a.eval y = .string s) : (execOp a.eval o).run Try.prog w = .ok (.value (.bool true)) w := by
  unfold execOp
  simp only [ho, hx, hy]
  simp [go_sem]
set_option maxRecDepth 100000 in
set_option maxHeartbeats 4000000 in
/-- awake. -/
theorem awake20 (V : World) :
    Calls Try.prog 7 #[] V fun e w' => e = .returned (.bool true) ∧ Below V.heap.size V w' := by
  go_enter Try.func7, Try.ntmps7
  refine wo_ 54 [] ?_
  rintro a A -
  have BW : Below V.heap.size V V := Below.refl _ _
  have BB : Below V.heap.size V V := Below.refl _ _
  refine wp_seq ?_
  refine wi_ A h0_ (rg_ [] ?_)
  rintro a A -
  refine wp_seq ?_
  refine wi_ A h0_ (rc_ 0 (pnewS V) fun e X1 hh => ?_)
  obtain ⟨⟨g, fp1, he, hk, hf⟩, hb⟩ := hh
  refine ⟨_, he, ?_⟩
  have bQ : Below V.heap.size V X1 := hb
  have FR1 : (BR 73 X1 fp1 (.pointer (some ⟨g, 0, none⟩)) [] 0) := hk
  have Fg1 : (∀ q, fp1 q → V.heap.size ≤ q) := fun q hq => Nat.le_trans (BB).size (hf q hq)
  replace BB := BB.trans (bQ.mono BB.size)
  clear bQ
  refine rg_ [(1, .pointer (some ⟨g, 0, none⟩))] ?_
  rintro a A ⟨t1, -⟩
  refine wp_seq ?_
  refine wp_seq ?_
  refine wi_ A (h1_ t1) (rv_ 1 (.bool false) (fun a ee => execPSeqls rfl (ee _)) (rc_ 4 (pput_oS FR1 (i := 1) (.string ⟨#[98]⟩) (by unfold I64; omega) (by decide) (by decide) (by decide)) fun e X2 hh => ?_))
  obtain ⟨fp2, he, hk, hs, hf⟩ := hh
  refine ⟨_, he, ?_⟩
  obtain ⟨BB, FR2, Fg2⟩ : Below V.heap.size V X2 ∧ (BR 73 X2 fp2 (.pointer (some ⟨g, 0, none⟩)) [(1, .string ⟨#[98]⟩)] 0) ∧ (∀ q, fp2 q → V.heap.size ≤ q) := ⟨sv_bel BB hs Fg1, hk, fun q hq => (hf q hq).elim (Fg1 q) (fun w => Nat.le_trans (BB).size w)⟩
  clear FR1 Fg1
  refine rv_ 5 (.bool false) (fun a ee => execDec (exIneqE (p := ((0 : Nat) : Int)) (q := 0) rfl (ee _) rfl) (decide_eq_false (by decide))) (rf_ [(16, .bool false)] (h1_ t1) ?_)
  rintro a A ⟨t16, -⟩ ⟨t1, -⟩
  refine wp_cond_false t16 ?_
  refine wp_skip ?_
  clear t16
  refine wp_seq ?_
  refine wi_ A (h1_ t1) (rc_ 1 (pnext_eS FR2 (by omega) (by decide)) (cb_ fun X4 bQ => ?_))
  replace FR2 := (FR2.on bQ)
  replace BB := BB.trans (bQ.mono BB.size)
  clear bQ
  refine rf_ [(3, .bool false)] (h1_ t1) ?_
  rintro a A ⟨t3, -⟩ ⟨t1, -⟩
  refine wp_seq ?_
  refine wi_ A (h2_ t1 t3) (rc_ 1 (pput_oS FR2 (i := 0) (.string ⟨#[97]⟩) (by unfold I64; omega) (by decide) (by decide) (by decide)) fun e X5 hh => ?_)
  obtain ⟨fp3, he, hk, hs, hf⟩ := hh
  refine ⟨_, he, ?_⟩
  obtain ⟨BB, FR3, Fg3⟩ : Below V.heap.size V X5 ∧ (BR 73 X5 fp3 (.pointer (some ⟨g, 0, none⟩)) [(1, .string ⟨#[98]⟩), (0, .string ⟨#[97]⟩)] 0) ∧ (∀ q, fp3 q → V.heap.size ≤ q) := ⟨sv_bel BB hs Fg2, hk, fun q hq => (hf q hq).elim (Fg2 q) (fun w => Nat.le_trans (BB).size w)⟩
  clear FR2 Fg2
  refine rf_ [(4, .int .i64 ((0 : Nat) : Int))] (h2_ t1 t3) ?_
  rintro a A ⟨t4, -⟩ ⟨t1, t3, -⟩
  refine wp_seq ?_
  refine wi_ A (h3_ t1 t3 t4) (rc_ 1 (pnext_oS (x := .string ⟨#[97]⟩) FR3 (by omega) rfl) fun e X6 hh => ?_)
  obtain ⟨fp4, he, hk, hs, hf⟩ := hh
  refine ⟨_, he, ?_⟩
  obtain ⟨BB, FR4, Fg4⟩ : Below V.heap.size V X6 ∧ (BR 73 X6 fp4 (.pointer (some ⟨g, 0, none⟩)) [(1, .string ⟨#[98]⟩)] 1) ∧ (∀ q, fp4 q → V.heap.size ≤ q) := ⟨sv_bel BB hs Fg3, hk, fun q hq => (hf q hq).elim (Fg3 q) (fun w => Nat.le_trans (BB).size w)⟩
  clear FR3 Fg3
  refine rf_ [(5, .string ⟨#[97]⟩), (6, .bool true)] (h3_ t1 t3 t4) ?_
  rintro a A ⟨t5, t6, -⟩ ⟨t1, t3, t4, -⟩
  refine wp_seq ?_
  refine wi_ A (h5_ t1 t3 t4 t5 t6) (rc_ 1 (pnext_oS (x := .string ⟨#[98]⟩) FR4 (by omega) rfl) fun e X7 hh => ?_)
  obtain ⟨fp5, he, hk, hs, hf⟩ := hh
  refine ⟨_, he, ?_⟩
  obtain ⟨BB, FR5, Fg5⟩ : Below V.heap.size V X7 ∧ (BR 73 X7 fp5 (.pointer (some ⟨g, 0, none⟩)) [] 2) ∧ (∀ q, fp5 q → V.heap.size ≤ q) := ⟨sv_bel BB hs Fg4, hk, fun q hq => (hf q hq).elim (Fg4 q) (fun w => Nat.le_trans (BB).size w)⟩
  clear FR4 Fg4
  refine rf_ [(7, .string ⟨#[98]⟩), (8, .bool true)] (h4_ t3 t4 t5 t6) ?_
  rintro a A ⟨t7, t8, -⟩ ⟨t3, t4, t5, t6, -⟩
  refine wp_seq ?_
  refine wi_ A (h6_ t3 t4 t5 t6 t7 t8) (rv_ 1 (.bool true) (fun a ee => execNot8 (b := false) rfl (ee _)) (rv_ 4 (.bool true) (fun a ee => execDec (exIeqlE (p := ((0 : Nat) : Int)) (q := 0) rfl (ee _) rfl) (decide_eq_true (by decide))) (rv_ 8 (.bool true) (fun a ee => execEqSt rfl (ee _) rfl) (rv_ 15 (.bool true) (fun a ee => execEqSt rfl (ee _) rfl) (rg_ [(0, .bool true)] ?_)))))
  rintro a A ⟨t0, -⟩
  refine wp_ret ?_
  refine bodyPost_ret (results_tmp rfl _ _ _) A.2 ⟨?_, BB⟩
  show Ending.returned (a.eval (.tmp 0)) = _
  rw [t0]
end Go.Proofs.Ytnfokemikcigbaa.Ord
