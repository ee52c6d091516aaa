import Derived.Test.YtmjpneaccjlpkaaF9a
import Derived.Test.YtmjpneaccjlpkaaQ9u
namespace Go.Proofs.Ytmjpneaccjlpkaa.Brd
open Go.RowKit Gf8 Aes By8 Cel Cf Tap Drw Prm
/- Package braid as it landed: lengths[int], Weave[int]. Written by tools/mkQ9w.py. -/
structure LLI (W : World) (v : Value) (J : Nat) (x : Nat → Value) (ln : Nat → Nat) (gg : Nat → Nat → Int) : Prop where
 shape : ∃ a cap, v = .slice a J cap ∧ (0 < J → ∃ b off, a = some ⟨b, off, none⟩ ∧ b < W.heap.size ∧ ∀ j, j < J → W.cell? ⟨b, off + j, none⟩ = some (x j))
 lists : ∀ j, j < J → SliceI W (x j) (ln j) (gg j)
section
variable {W W' : World} {v : Value} {J : Nat} {x : Nat → Value} {ln : Nat → Nat} {gg : Nat → Nat → Int}
theorem LLI.on (h : LLI W v J x ln gg) (hb : Below W.heap.size W W') : LLI W' v J x ln gg := by
 obtain ⟨a, cap, e, hs⟩ := h.shape
 refine ⟨⟨a, cap, e, fun h0 => ?_⟩, fun j hj => (h.lists j hj).on hb⟩
 obtain ⟨b, off, e1, e2, e3⟩ := hs h0
 exact ⟨b, off, e1, Nat.lt_of_lt_of_le e2 hb.size, fun j hj => by rw [cell_below hb e2]; exact e3 j hj⟩
theorem LLI.at (h : LLI W v J x ln gg) (hJ : 0 < J) : ∃ b o c, v = .slice (some ⟨b, o, none⟩) J c ∧ b < W.heap.size ∧ ∀ j, j < J → W.cell? ⟨b, o + j, none⟩ = some (x j) := by
 obtain ⟨a, c, rfl, hs⟩ := h.shape
 obtain ⟨b, o, rfl, h1, h2⟩ := hs hJ
 exact ⟨b, o, c, rfl, h1, h2⟩
theorem ln_fits (h : LLI W v J x ln gg) : ∀ j, j < J → -9223372036854775808 ≤ (fun j => (ln j : Int)) j ∧ (fun j => (ln j : Int)) j < 9223372036854775808 := fun j hj => by
 obtain ⟨a, c, e, h1, h2, _⟩ := (h.lists j hj).shape
 have h3 : maxLen = 9223372036854775807 := rfl
 show _ ≤ (ln j : Int) ∧ (ln j : Int) < _
 omega
end
def weE (cf : Nat → Int) (n : Nat) (ln : Nat → Nat) (J : Nat) : Nat := if stQ cf n (fun j => (ln j : Int)) J = true then 0 else 2
theorem nx_set {W : World} {B J i c q g cap : Nat} {cf : Nat → Int} (h : W.ownsRow B 3 1 (.slice (some ⟨g, 0, none⟩) J cap) J (intsL J (fun j => (cntC (gN cf) j i : Int)))) (ec : gN cf i = c) (eq : cntC (gN cf) c i = q) :
  (W.setCell ⟨g, 0 + c, none⟩ (.int .i64 ((q + 1 : Nat) : Int))).ownsRow B 3 1 (.slice (some ⟨g, 0, none⟩) J cap) J (intsL J (fun j => (cntC (gN cf) j (i + 1) : Int))) := by
 have h1 := own_setF (k := c) ((q + 1 : Nat) : Int) h
 rw [← intsL_congr (fun j hj => ?_)]
 ·exact h1
 ·show (if j = c then ((q + 1 : Nat) : Int) else ((cntC (gN cf) j i : Nat) : Int)) = ((cntC (gN cf) j i + (if gN cf i = j then 1 else 0) : Nat) : Int)
  rw [ec]
  by_cases e : j = c
  ·subst e
   rw [if_pos rfl, if_pos rfl, eq]
  ·rw [if_neg e, if_neg (fun z => e z.symm), Nat.add_zero]
set_option maxRecDepth 100000 in
set_option maxHeartbeats 4000000 in
theorem plengthsI (J : Nat) (x : Nat → Value) (ln : Nat → Nat) (gg : Nat → Nat → Int) (v : Value) (V : World) (hL : LLI V v J x ln gg) (hJ : J ≤ 1000000) :
  Calls Try.prog 48 #[v] V fun e w' => ∃ r, e = .returned r ∧ w'.ownsRow V.heap.size 3 1 r J (intsL J (fun j => (ln j : Int))) ∧ Below V.heap.size V w' := by
 have hsh : ∃ ao c, v = .slice ao J c := by obtain ⟨a_, c_, e_, _⟩ := hL.shape; exact ⟨a_, c_, e_⟩
 go_enter Try.func48, Try.ntmps48
 refine wp_seq ?_
 refine wp_region_sqK 23 [(0, 2)] (fun i_ => match i_ with | 0 => .slice none 0 0 | _ => undef) rfl (by kernel_rfl) (by decide) (by decide) ?_ ?_
 ·intro i_ hi_ a hf hv hn
  match i_, hi_ with
  | 0, _ => exact stepV rfl rfl (execAsgB rfl rfl) ⟨⟨_, rfl, rfl⟩, rfl⟩
  | k_ + 1, h_ => exact absurd h_ (by simp)
 intro a h1 h2 h3 h4
 have t0 : a.eval (.tmp 0) = v := (h3 0 (by decide)).trans rfl
 have A : a.tmps.size = 23 ∧ a.defers = [] := ⟨h1, h2⟩
 have BW : Below V.heap.size V V := Below.refl _ _
 clear h1 h2 h3 h4
 have BB := BW
 refine wp_seq ?_
 refine wp_se (σ := Nat) 23 [1, 2] [2] (fun k_ s X => match k_ with | 0 => Below V.heap.size V X | _ => Below V.heap.size V X ∧ (X.ownsRow V.heap.size 3 1 (.slice (some ⟨s, 0, none⟩) J J) (J) (intsL (J) (fun j => if j < 0 then (ln j : Int) else 0))) ∧ (V.heap.size ≤ s)) (fun s => fun i_ => match i_ with | 1 => .int .i64 ((J : Nat) : Int) | 2 => .slice (some ⟨s, 0, none⟩) J J | _ => undef) 0 A (BB) (And.intro ?_ (And.intro ?_ trivial)) ?_
 ·exact fun s a X e hS => stepV rfl rfl (execLenLI (len := J) rfl ((e (.tmp 6)).trans t0) hsh) ⟨s, ⟨_, rfl, rfl⟩, hS, ar⟩
 ·intro s a X e hS
  refine stepV rfl rfl (execMkN rfl (e (.tmp 7)) (e (.tmp 7)) (by omega)) ⟨X.heap.size, ⟨_, rfl, rfl⟩, ⟨(hS).trans (((belNew X _)).mono (hS).size), ownD_base (own_mkZ X J _ (by omega) (fun j_ _ => if_neg (Nat.not_lt_zero _))) (hS).size, (hS).size⟩, (And.intro (fun _ => rfl) (And.intro (fun h => absurd h (by decide)) trivial))⟩
 rintro g8 a X1 A e (hS : Below V.heap.size V X1 ∧ (X1.ownsRow V.heap.size 3 1 (.slice (some ⟨g8, 0, none⟩) J J) (J) (intsL (J) (fun j => if j < 0 then (ln j : Int) else 0))) ∧ (V.heap.size ≤ g8))
 obtain ⟨BB, FO, Fg⟩ := hS
 have t3 : a.eval (.tmp 3) = .slice (some ⟨g8, 0, none⟩) J J := e _
 replace t0 := kt e t0
 clear e
 refine wp_seq (wp_seq ?_)
 refine wp_se 23 [1] [] (fun _ s X => Below V.heap.size V X ∧ (X.ownsRow V.heap.size 3 1 (.slice (some ⟨g8, 0, none⟩) J J) (J) (intsL (J) (fun j => if j < 0 then (ln j : Int) else 0)))) (fun s => fun i_ => match i_ with | 1 => .int .i64 ((J : Nat) : Int) | _ => undef) () A ⟨BB, FO⟩ (And.intro ?_ trivial) ?_
 ·exact fun s a X e hS => stepV rfl rfl (execLenLI (len := J) rfl ((e (.tmp 9)).trans t0) hsh) ⟨s, ⟨_, rfl, rfl⟩, hS, ar⟩
 rintro _ a X2 A e (hS : Below V.heap.size V X2 ∧ (X2.ownsRow V.heap.size 3 1 (.slice (some ⟨g8, 0, none⟩) J J) (J) (intsL (J) (fun j => if j < 0 then (ln j : Int) else 0))))
 obtain ⟨BB, FO⟩ := hS
 have t9 : a.eval (.tmp 9) = v := (e _).trans t0
 have t10 : a.eval (.tmp 10) = .int .i64 ((J : Nat) : Int) := e _
 have t11 : a.eval (.tmp 11) = .int .i64 ((0 : Nat) : Int) := e _
 replace t3 := kt e t3
 clear e t0
 refine wp_block ?_
 refine wp_loop (fun a W => ∃ (i : Nat), i ≤ J ∧ (a.tmps.size = 23 ∧ a.defers = []) ∧ a.eval (.tmp 3) = .slice (some ⟨g8, 0, none⟩) J J ∧ a.eval (.tmp 9) = v ∧ a.eval (.tmp 10) = .int .i64 ((J : Nat) : Int) ∧ a.eval (.tmp 11) = .int .i64 ((i : Nat) : Int) ∧ Below V.heap.size V W ∧ (W.ownsRow V.heap.size 3 1 (.slice (some ⟨g8, 0, none⟩) J J) (J) (intsL (J) (fun j => if j < i then (ln j : Int) else 0)))) (fun a _ => J - (intOf (a.eval (.tmp 11))).toNat) ⟨0, Nat.zero_le _, A, t3, t9, t10, t11, BB, FO⟩ ?_
 rintro a XL3 ⟨i, hi, A, t3, t9, t10, t11, BB, FO⟩
 have esi := t11
 refine wp_seq ?_
 refine wp_se 23 [0] [] (fun _ s X => Below V.heap.size V X ∧ (X.ownsRow V.heap.size 3 1 (.slice (some ⟨g8, 0, none⟩) J J) (J) (intsL (J) (fun j => if j < i then (ln j : Int) else 0)))) (fun s => fun i_ => match i_ with | 0 => .bool (decide (i < J)) | _ => undef) () A ⟨BB, FO⟩ (And.intro ?_ trivial) ?_
 ·exact fun s a X e hS => stepV rfl rfl (execLtW (p := i) (q := J) rfl ((e (.tmp 11)).trans t11) ((e (.tmp 10)).trans t10)) ⟨s, ⟨_, rfl, rfl⟩, hS, ar⟩
 rintro _ a X3 A e (hS : Below V.heap.size V X3 ∧ (X3.ownsRow V.heap.size 3 1 (.slice (some ⟨g8, 0, none⟩) J J) (J) (intsL (J) (fun j => if j < i then (ln j : Int) else 0))))
 obtain ⟨BB, FO⟩ := hS
 have t12 : a.eval (.tmp 12) = .bool (decide (i < J)) := e _
 replace t3 := kt e t3
 replace t9 := kt e t9
 replace t10 := kt e t10
 replace t11 := kt e t11
 clear e
 refine wp_seq ?_
 by_cases lti : i < J
 ·rw [decide_eq_true lti] at t12
  refine wp_cond_true t12 (wp_skip ?_)
  clear t12
  refine wp_seq (wp_block ?_)
  obtain ⟨vb, vo, vc, ev, hvb, hvc⟩ := hL.at (show 0 < J by omega)
  have cV : ∀ X, Below V.heap.size V X → X.cell? ⟨vb, vo + i, none⟩ = some (x i) := fun X hX => by rw [cell_below hX hvb]; exact hvc i lti
  have hxi := (hL.lists i lti).shp
  refine wp_seq ?_
  refine wp_se 23 [1, 2] [] (fun _ s X => Below V.heap.size V X ∧ (X.ownsRow V.heap.size 3 1 (.slice (some ⟨g8, 0, none⟩) J J) (J) (intsL (J) (fun j => if j < i then (ln j : Int) else 0)))) (fun s => fun i_ => match i_ with | 1 => .pointer (some ⟨vb, vo + i, none⟩) | 2 => x i | _ => undef) () A ⟨BB, FO⟩ (And.intro ?_ (And.intro ?_ trivial)) ?_
  ·exact fun s a X e hS => stepV rfl rfl (execIdxLI (k := i) rfl (((e (.tmp 9)).trans t9).trans ev) ((e (.tmp 11)).trans t11) lti) ⟨s, ⟨_, rfl, rfl⟩, hS, ar⟩
  ·exact fun s a X e hS => stepV rfl rfl (execLdLI (v := x i) rfl (e (.tmp 14)) (cV X hS.1)) ⟨s, ⟨_, rfl, rfl⟩, hS, ar⟩
  rintro _ a X4 A e (hS : Below V.heap.size V X4 ∧ (X4.ownsRow V.heap.size 3 1 (.slice (some ⟨g8, 0, none⟩) J J) (J) (intsL (J) (fun j => if j < i then (ln j : Int) else 0))))
  obtain ⟨BB, FO⟩ := hS
  have t4 : a.eval (.tmp 4) = .int .i64 ((i : Nat) : Int) := (e _).trans t11
  have t5 : a.eval (.tmp 5) = x i := e _
  replace t3 := kt e t3
  replace t9 := kt e t9
  replace t10 := kt e t10
  replace t11 := kt e t11
  clear e
  refine wp_se 23 [3, 4, 5] [5] (fun k_ s X => match k_ with | 0 => Below V.heap.size V X ∧ (X.ownsRow V.heap.size 3 1 (.slice (some ⟨g8, 0, none⟩) J J) (J) (intsL (J) (fun j => if j < i then (ln j : Int) else 0))) | _ => Below V.heap.size V X ∧ (X.ownsRow V.heap.size 3 1 (.slice (some ⟨g8, 0, none⟩) J J) (J) (intsL (J) (fun j => if j < (i + 1) then (ln j : Int) else 0)))) (fun s => fun i_ => match i_ with | 3 => .int .i64 ((ln i : Nat) : Int) | 4 => .pointer (some ⟨g8, 0 + i, none⟩) | _ => undef) () A ⟨BB, FO⟩ (And.intro ?_ (And.intro ?_ (And.intro ?_ trivial))) ?_
  ·exact fun s a X e hS => stepV rfl rfl (execLenI (len := ln i) rfl ((e (.tmp 18)).trans t5) hxi) ⟨s, ⟨_, rfl, rfl⟩, hS, ar⟩
  ·exact fun s a X e hS => stepV rfl rfl (execIdxN (k := i) rfl ((e (.tmp 16)).trans t3) ((e (.tmp 17)).trans t4) lti) ⟨s, ⟨_, rfl, rfl⟩, hS, ar⟩
  ·intro s a X e hS
   obtain ⟨hc_, hf_⟩ := own_cellI hS.2 lti
   refine stepS rfl rfl (execStI9 rfl (e (.tmp 20)) (e (.tmp 19)) hc_ hf_) ⟨s, ⟨_, rfl, rfl⟩, ⟨(hS.1).setCell Fg _, own_fill (F := fun j => (ln j : Int)) hS.2 rfl⟩, ar⟩
  rintro _ a X5 A e (hS : Below V.heap.size V X5 ∧ (X5.ownsRow V.heap.size 3 1 (.slice (some ⟨g8, 0, none⟩) J J) (J) (intsL (J) (fun j => if j < (i + 1) then (ln j : Int) else 0))))
  obtain ⟨BB, FO2⟩ := hS
  replace t3 := kt e t3
  replace t9 := kt e t9
  replace t10 := kt e t10
  replace t11 := kt e t11
  clear e t4 t5
  refine wp_se 23 [0] [] (fun _ s X => Below V.heap.size V X ∧ (X.ownsRow V.heap.size 3 1 (.slice (some ⟨g8, 0, none⟩) J J) (J) (intsL (J) (fun j => if j < (i + 1) then (ln j : Int) else 0)))) (fun s => fun i_ => match i_ with | 0 => .int .i64 ((i + 1 : Nat) : Int) | _ => undef) () A ⟨BB, FO2⟩ (And.intro ?_ trivial) ?_
  ·exact fun s a X e hS => stepV rfl rfl (execAd8 (p := i) (q := 1) rfl ((e (.tmp 11)).trans t11) rfl (by omega)) ⟨s, ⟨_, rfl, rfl⟩, hS, ar⟩
  rintro _ a X6 A e (hS : Below V.heap.size V X6 ∧ (X6.ownsRow V.heap.size 3 1 (.slice (some ⟨g8, 0, none⟩) J J) (J) (intsL (J) (fun j => if j < (i + 1) then (ln j : Int) else 0))))
  obtain ⟨BB, FO2⟩ := hS
  replace t11 : a.eval (.tmp 11) = .int .i64 ((i + 1 : Nat) : Int) := e _
  replace t3 := kt e t3
  replace t9 := kt e t9
  replace t10 := kt e t10
  clear e
  exact ⟨⟨i + 1, lti, A, t3, t9, t10, t11, BB, FO2⟩, by show J - (intOf (a.eval (.tmp 11))).toNat < J - (intOf (Act.eval _ (.tmp 11))).toNat; rw [t11, esi]; show J - (i + 1) < J - i; omega⟩
 ·rw [decide_eq_false lti] at t12
  refine wp_cond_false t12 ?_
  refine wp_exit ?_
  first | with_reducible refine exit_in ?_ | with_reducible refine exit_then (exit_in ?_) | with_reducible refine exit_then (exit_then (exit_in ?_)) | refine exit_in ?_ | refine exit_then (exit_in ?_) | refine exit_then (exit_then (exit_in ?_))
  clear t12 esi
  have hiJ : i = J := by omega
  rw [hiJ, intsL_congr (g := fun j => (ln j : Int)) (fun j hj => if_pos hj)] at FO
  clear t9 t10 t11
  refine wp_seq ?_
  refine wp_se 23 [] [] (fun _ s X => Below V.heap.size V X ∧ (X.ownsRow V.heap.size 3 1 (.slice (some ⟨g8, 0, none⟩) J J) (J) (intsL (J) (fun j => (ln j : Int))))) (fun s => fun _ => undef) () A ⟨BB, FO⟩ trivial ?_
  rintro _ a X7 A e (hS : Below V.heap.size V X7 ∧ (X7.ownsRow V.heap.size 3 1 (.slice (some ⟨g8, 0, none⟩) J J) (J) (intsL (J) (fun j => (ln j : Int)))))
  obtain ⟨BB, FO⟩ := hS
  have t2 : a.eval (.tmp 2) = .slice (some ⟨g8, 0, none⟩) J J := (e _).trans t3
  clear e t3
  refine wp_ret ?_
  refine bodyPost_ret (results_tmp rfl _ _ _) A.2 ⟨_, ?_, FO, BB⟩
  show Ending.returned (a.eval (.tmp 2)) = _
  rw [t2]
set_option maxRecDepth 100000 in
set_option maxHeartbeats 4000000 in
theorem pweaveI (cf : Nat → Int) (n J : Nat) (x : Nat → Value) (ln : Nat → Nat) (gg : Nat → Nat → Int) (u0 v : Value) (V : World) (FJ : SliceI V u0 n cf) (hn17 : n ≤ 17592186044416) (hL : LLI V v J x ln gg) (hJ : J ≤ 1000000) :
  Calls Try.prog 23 #[u0, v] V fun e w' => ∃ r, e = .returned (.tuple #[r, .int .i64 ((weE cf n ln J : Nat) : Int)]) ∧ w'.ownsRow V.heap.size 3 1 r (zl (weE cf n ln J) n) (intsL (zl (weE cf n ln J) n) (fun j => gg (gN cf j) (cntC (gN cf) (gN cf j) j))) ∧ Below V.heap.size V w' := by
 have hsh : ∃ ao c, v = .slice ao J c := by obtain ⟨a_, c_, e_, _⟩ := hL.shape; exact ⟨a_, c_, e_⟩
 go_enter Try.func23, Try.ntmps23
 refine wp_seq ?_
 refine wp_region_sqK 49 [(0, 4), (1, 5)] (fun i_ => match i_ with | 0 => .slice none 0 0 | 1 => .int .i64 ((0 : Nat) : Int) | _ => undef) rfl (by kernel_rfl) (by decide) (by decide) ?_ ?_
 ·intro i_ hi_ a hf hv hn
  match i_, hi_ with
  | 0, _ => exact stepV rfl rfl (execAsgB rfl rfl) ⟨⟨_, rfl, rfl⟩, rfl⟩
  | 1, _ => exact stepV rfl rfl (execAsgB rfl rfl) ⟨⟨_, rfl, rfl⟩, rfl⟩
  | k_ + 2, h_ => exact absurd h_ (by simp)
 intro a h1 h2 h3 h4
 have t0 : a.eval (.tmp 0) = u0 := (h3 0 (by decide)).trans rfl
 have t1 : a.eval (.tmp 1) = v := (h3 1 (by decide)).trans rfl
 have A : a.tmps.size = 49 ∧ a.defers = [] := ⟨h1, h2⟩
 have BW : Below V.heap.size V V := Below.refl _ _
 clear h1 h2 h3 h4
 have BB := BW
 refine wp_seq (wp_seq ?_)
 cases hst : stQ cf n (fun j => (ln j : Int)) J with
 | false =>
  refine wp_se (σ := Value) 49 [2, 3, 4] [2] (fun k_ s X => match k_ with | 0 => Below V.heap.size V X | _ => Below V.heap.size V X ∧ (SliceI X s (J) (fun j => (ln j : Int)))) (fun s => fun i_ => match i_ with | 2 => s | 3 => .bool false | 4 => .bool true | _ => undef) undef A (BB) (And.intro ?_ (And.intro ?_ (And.intro ?_ trivial))) ?_
  ·intro s a X e hS
   refine stepC rfl rfl (execCall1 Try.func48 (by kernel_rfl) (by kernel_rfl) rfl ((e (.tmp 11)).trans t1)) (plengthsI J x ln gg _ X (hL.on hS) hJ) fun e w' hh => ?_
   obtain ⟨r_, he, hk, hb⟩ := hh
   refine ⟨_, he, r_, ⟨_, rfl, rfl⟩, ⟨(hS).trans ((hb).mono (hS).size), own_ints hk (ln_fits hL)⟩, (And.intro (fun h => absurd h (by decide)) (And.intro (fun h => absurd h (by decide)) (And.intro (fun h => absurd h (by decide)) trivial)))⟩
  ·exact fun s a X e hS => stepC rfl rfl (execCall2 Try.func47 (by kernel_rfl) (by kernel_rfl) rfl ((e (.tmp 10)).trans t0) (e (.tmp 12))) (hst ▸ pstands cf (fun j => (ln j : Int)) n J _ _ X (FJ.on hS.1) hn17 hS.2 (by omega) (fun _ _ => Int.natCast_nonneg _)) fun e w' hh => ⟨_, hh.1, s, ⟨_, rfl, rfl⟩, ⟨(hS.1).trans ((hh.2).mono (hS.1).size), (hS.2.on hh.2)⟩, ar⟩
  ·exact fun s a X e hS => stepV rfl rfl (execNot8 rfl (e (.tmp 13))) ⟨s, ⟨_, rfl, rfl⟩, hS, ar⟩
  rintro v12 a X1 A e (hS : Below V.heap.size V X1 ∧ (SliceI X1 v12 (J) (fun j => (ln j : Int))))
  obtain ⟨BB, FT⟩ := hS
  have t14 : a.eval (.tmp 14) = .bool true := e _
  replace t0 := kt e t0
  replace t1 := kt e t1
  clear e
  clear FT
  refine wp_cond_true t14 ?_
  refine wp_seq ?_
  refine wp_se 49 [] [] (fun _ s X => Below V.heap.size V X) (fun s => fun _ => undef) () A (BB) trivial ?_
  rintro _ a X2 A e (BB : Below V.heap.size V X2)
  have t4 : a.eval (.tmp 4) = .slice none 0 0 := e _
  have t5 : a.eval (.tmp 5) = .int .i64 ((2 : Nat) : Int) := e _
  clear e t0 t1
  have hE : weE cf n ln J = 2 := if_neg (by rw [hst]; decide)
  rw [hE, zl_no (by decide)]
  refine wp_ret ?_
  repeat (first | with_reducible refine ret_in ?_ | with_reducible refine ret_then ?_)
  refine bodyPost_ret (results_tmp2 rfl _ _ _) A.2 ⟨_, ?_, World.ownsRow_nil _ _ _ _, BB⟩
  show Ending.returned (.tuple #[a.eval (.tmp 4), a.eval (.tmp 5)]) = _
  rw [t4, t5]
 | true =>
  refine wp_se (σ := Value) 49 [2, 3, 4] [2] (fun k_ s X => match k_ with | 0 => Below V.heap.size V X | _ => Below V.heap.size V X ∧ (SliceI X s (J) (fun j => (ln j : Int)))) (fun s => fun i_ => match i_ with | 2 => s | 3 => .bool true | 4 => .bool false | _ => undef) undef A (BB) (And.intro ?_ (And.intro ?_ (And.intro ?_ trivial))) ?_
  ·intro s a X e hS
   refine stepC rfl rfl (execCall1 Try.func48 (by kernel_rfl) (by kernel_rfl) rfl ((e (.tmp 11)).trans t1)) (plengthsI J x ln gg _ X (hL.on hS) hJ) fun e w' hh => ?_
   obtain ⟨r_, he, hk, hb⟩ := hh
   refine ⟨_, he, r_, ⟨_, rfl, rfl⟩, ⟨(hS).trans ((hb).mono (hS).size), own_ints hk (ln_fits hL)⟩, (And.intro (fun h => absurd h (by decide)) (And.intro (fun h => absurd h (by decide)) (And.intro (fun h => absurd h (by decide)) trivial)))⟩
  ·exact fun s a X e hS => stepC rfl rfl (execCall2 Try.func47 (by kernel_rfl) (by kernel_rfl) rfl ((e (.tmp 10)).trans t0) (e (.tmp 12))) (hst ▸ pstands cf (fun j => (ln j : Int)) n J _ _ X (FJ.on hS.1) hn17 hS.2 (by omega) (fun _ _ => Int.natCast_nonneg _)) fun e w' hh => ⟨_, hh.1, s, ⟨_, rfl, rfl⟩, ⟨(hS.1).trans ((hh.2).mono (hS.1).size), (hS.2.on hh.2)⟩, ar⟩
  ·exact fun s a X e hS => stepV rfl rfl (execNot8 rfl (e (.tmp 13))) ⟨s, ⟨_, rfl, rfl⟩, hS, ar⟩
  rintro v12 a X1 A e (hS : Below V.heap.size V X1 ∧ (SliceI X1 v12 (J) (fun j => (ln j : Int))))
  obtain ⟨BB, FT⟩ := hS
  have t14 : a.eval (.tmp 14) = .bool false := e _
  replace t0 := kt e t0
  replace t1 := kt e t1
  clear e
  clear FT
  refine wp_cond_false t14 (wp_skip ?_)
  clear t14
  have hE : weE cf n ln J = 0 := if_pos hst
  rw [hE, zl_ok]
  have hpt : IsPat ln J n (gN cf) := stQ_pat hst
  refine wp_seq ?_
  refine wp_se (σ := Nat) 49 [1, 2] [2] (fun k_ s X => match k_ with | 0 => Below V.heap.size V X | _ => Below V.heap.size V X ∧ (X.ownsRow V.heap.size 3 1 (.slice (some ⟨s, 0, none⟩) n n) (n) (intsL (n) (fun j => if j < 0 then gg (gN cf j) (cntC (gN cf) (gN cf j) j) else 0))) ∧ (V.heap.size ≤ s)) (fun s => fun i_ => match i_ with | 1 => .int .i64 ((n : Nat) : Int) | 2 => .slice (some ⟨s, 0, none⟩) n n | _ => undef) 0 A (BB) (And.intro ?_ (And.intro ?_ trivial)) ?_
  ·exact fun s a X e hS => stepV rfl rfl (execLenI (len := n) rfl ((e (.tmp 15)).trans t0) ((FJ.on hS)).shp) ⟨s, ⟨_, rfl, rfl⟩, hS, ar⟩
  ·intro s a X e hS
   refine stepV rfl rfl (execMkN rfl (e (.tmp 16)) (e (.tmp 16)) hn17) ⟨X.heap.size, ⟨_, rfl, rfl⟩, ⟨(hS).trans (((belNew X _)).mono (hS).size), ownD_base (own_mkZ X n _ hn17 (fun j_ _ => if_neg (Nat.not_lt_zero _))) (hS).size, (hS).size⟩, (And.intro (fun _ => rfl) (And.intro (fun h => absurd h (by decide)) trivial))⟩
  rintro g17 a X3 A e (hS : Below V.heap.size V X3 ∧ (X3.ownsRow V.heap.size 3 1 (.slice (some ⟨g17, 0, none⟩) n n) (n) (intsL (n) (fun j => if j < 0 then gg (gN cf j) (cntC (gN cf) (gN cf j) j) else 0))) ∧ (V.heap.size ≤ g17))
  obtain ⟨BB, FO, Fg⟩ := hS
  have t6 : a.eval (.tmp 6) = .slice (some ⟨g17, 0, none⟩) n n := e _
  replace t0 := kt e t0
  replace t1 := kt e t1
  clear e
  refine wp_seq ?_
  refine wp_se (σ := Nat) 49 [1, 2] [2] (fun k_ s X => match k_ with | 0 => Below V.heap.size V X ∧ (X.ownsRow V.heap.size 3 1 (.slice (some ⟨g17, 0, none⟩) n n) (n) (intsL (n) (fun j => if j < 0 then gg (gN cf j) (cntC (gN cf) (gN cf j) j) else 0))) | _ => Below V.heap.size V X ∧ (X.ownsRow V.heap.size 3 1 (.slice (some ⟨g17, 0, none⟩) n n) (n) (intsL (n) (fun j => if j < 0 then gg (gN cf j) (cntC (gN cf) (gN cf j) j) else 0))) ∧ (X.ownsRow V.heap.size 3 1 (.slice (some ⟨s, 0, none⟩) J J) (J) (intsL (J) (fun j => (cntC (gN cf) j 0 : Int)))) ∧ (V.heap.size ≤ s) ∧ (g17 ≠ s)) (fun s => fun i_ => match i_ with | 1 => .int .i64 ((J : Nat) : Int) | 2 => .slice (some ⟨s, 0, none⟩) J J | _ => undef) 0 A ⟨BB, FO⟩ (And.intro ?_ (And.intro ?_ trivial)) ?_
  ·exact fun s a X e hS => stepV rfl rfl (execLenLI (len := J) rfl ((e (.tmp 18)).trans t1) hsh) ⟨s, ⟨_, rfl, rfl⟩, hS, ar⟩
  ·intro s a X e hS
   refine stepV rfl rfl (execMkN rfl (e (.tmp 19)) (e (.tmp 19)) (by omega)) ⟨X.heap.size, ⟨_, rfl, rfl⟩, ⟨(hS.1).trans (((belNew X _)).mono (hS.1).size), (ownD_below hS.2 (belNew X _)), ownD_base (own_mkZ X J _ (by omega) (fun _ _ => rfl)) (hS.1).size, (hS.1).size, fun q => by have := (hS.2.lt g17 rfl).2; omega⟩, (And.intro (fun _ => rfl) (And.intro (fun h => absurd h (by decide)) trivial))⟩
  rintro g20 a X4 A e (hS : Below V.heap.size V X4 ∧ (X4.ownsRow V.heap.size 3 1 (.slice (some ⟨g17, 0, none⟩) n n) (n) (intsL (n) (fun j => if j < 0 then gg (gN cf j) (cntC (gN cf) (gN cf j) j) else 0))) ∧ (X4.ownsRow V.heap.size 3 1 (.slice (some ⟨g20, 0, none⟩) J J) (J) (intsL (J) (fun j => (cntC (gN cf) j 0 : Int)))) ∧ (V.heap.size ≤ g20) ∧ (g17 ≠ g20))
  obtain ⟨BB, FO, FX, Fh, Fne⟩ := hS
  have t7 : a.eval (.tmp 7) = .slice (some ⟨g20, 0, none⟩) J J := e _
  replace t0 := kt e t0
  replace t1 := kt e t1
  replace t6 := kt e t6
  clear e
  refine wp_seq (wp_seq ?_)
  refine wp_se 49 [1] [] (fun _ s X => Below V.heap.size V X ∧ (X.ownsRow V.heap.size 3 1 (.slice (some ⟨g17, 0, none⟩) n n) (n) (intsL (n) (fun j => if j < 0 then gg (gN cf j) (cntC (gN cf) (gN cf j) j) else 0))) ∧ (X.ownsRow V.heap.size 3 1 (.slice (some ⟨g20, 0, none⟩) J J) (J) (intsL (J) (fun j => (cntC (gN cf) j 0 : Int))))) (fun s => fun i_ => match i_ with | 1 => .int .i64 ((n : Nat) : Int) | _ => undef) () A ⟨BB, FO, FX⟩ (And.intro ?_ trivial) ?_
  ·exact fun s a X e hS => stepV rfl rfl (execLenI (len := n) rfl ((e (.tmp 21)).trans t0) ((FJ.on hS.1)).shp) ⟨s, ⟨_, rfl, rfl⟩, hS, ar⟩
  rintro _ a X5 A e (hS : Below V.heap.size V X5 ∧ (X5.ownsRow V.heap.size 3 1 (.slice (some ⟨g17, 0, none⟩) n n) (n) (intsL (n) (fun j => if j < 0 then gg (gN cf j) (cntC (gN cf) (gN cf j) j) else 0))) ∧ (X5.ownsRow V.heap.size 3 1 (.slice (some ⟨g20, 0, none⟩) J J) (J) (intsL (J) (fun j => (cntC (gN cf) j 0 : Int)))))
  obtain ⟨BB, FO, FX⟩ := hS
  have t21 : a.eval (.tmp 21) = u0 := (e _).trans t0
  have t22 : a.eval (.tmp 22) = .int .i64 ((n : Nat) : Int) := e _
  have t23 : a.eval (.tmp 23) = .int .i64 ((0 : Nat) : Int) := e _
  replace t1 := kt e t1
  replace t6 := kt e t6
  replace t7 := kt e t7
  clear e t0
  refine wp_block ?_
  refine wp_loop (fun a W => ∃ (i : Nat), i ≤ n ∧ (a.tmps.size = 49 ∧ a.defers = []) ∧ a.eval (.tmp 1) = v ∧ a.eval (.tmp 6) = .slice (some ⟨g17, 0, none⟩) n n ∧ a.eval (.tmp 7) = .slice (some ⟨g20, 0, none⟩) J J ∧ a.eval (.tmp 21) = u0 ∧ a.eval (.tmp 22) = .int .i64 ((n : Nat) : Int) ∧ a.eval (.tmp 23) = .int .i64 ((i : Nat) : Int) ∧ Below V.heap.size V W ∧ (W.ownsRow V.heap.size 3 1 (.slice (some ⟨g17, 0, none⟩) n n) (n) (intsL (n) (fun j => if j < i then gg (gN cf j) (cntC (gN cf) (gN cf j) j) else 0))) ∧ (W.ownsRow V.heap.size 3 1 (.slice (some ⟨g20, 0, none⟩) J J) (J) (intsL (J) (fun j => (cntC (gN cf) j i : Int))))) (fun a _ => n - (intOf (a.eval (.tmp 23))).toNat) ⟨0, Nat.zero_le _, A, t1, t6, t7, t21, t22, t23, BB, FO, FX⟩ ?_
  rintro a XL6 ⟨i, hi, A, t1, t6, t7, t21, t22, t23, BB, FO, FX⟩
  have esi := t23
  refine wp_seq ?_
  refine wp_se 49 [0] [] (fun _ s X => Below V.heap.size V X ∧ (X.ownsRow V.heap.size 3 1 (.slice (some ⟨g17, 0, none⟩) n n) (n) (intsL (n) (fun j => if j < i then gg (gN cf j) (cntC (gN cf) (gN cf j) j) else 0))) ∧ (X.ownsRow V.heap.size 3 1 (.slice (some ⟨g20, 0, none⟩) J J) (J) (intsL (J) (fun j => (cntC (gN cf) j i : Int))))) (fun s => fun i_ => match i_ with | 0 => .bool (decide (i < n)) | _ => undef) () A ⟨BB, FO, FX⟩ (And.intro ?_ trivial) ?_
  ·exact fun s a X e hS => stepV rfl rfl (execLtW (p := i) (q := n) rfl ((e (.tmp 23)).trans t23) ((e (.tmp 22)).trans t22)) ⟨s, ⟨_, rfl, rfl⟩, hS, ar⟩
  rintro _ a X6 A e (hS : Below V.heap.size V X6 ∧ (X6.ownsRow V.heap.size 3 1 (.slice (some ⟨g17, 0, none⟩) n n) (n) (intsL (n) (fun j => if j < i then gg (gN cf j) (cntC (gN cf) (gN cf j) j) else 0))) ∧ (X6.ownsRow V.heap.size 3 1 (.slice (some ⟨g20, 0, none⟩) J J) (J) (intsL (J) (fun j => (cntC (gN cf) j i : Int)))))
  obtain ⟨BB, FO, FX⟩ := hS
  have t24 : a.eval (.tmp 24) = .bool (decide (i < n)) := e _
  replace t1 := kt e t1
  replace t6 := kt e t6
  replace t7 := kt e t7
  replace t21 := kt e t21
  replace t22 := kt e t22
  replace t23 := kt e t23
  clear e
  refine wp_seq ?_
  by_cases lti : i < n
  ·rw [decide_eq_true lti] at t24
   refine wp_cond_true t24 (wp_skip ?_)
   clear t24
   refine wp_seq (wp_block ?_)
   obtain ⟨ccb, cco, ccc, ecc, hccb, hccc⟩ := open_sl FJ (by omega)
   have ccc : ∀ k, k < n → ∀ X, Below V.heap.size V X → X.cell? ⟨ccb, cco + k, none⟩ = some (.int .i64 ((cf) k)) := fun k hk X hX => by rw [cell_below hX hccb]; exact hccc k hk
   obtain ⟨c, ec0⟩ : ∃ c : Nat, cf i = c := ⟨(cf i).toNat, by have := ((stQ_iff.1 hst).1 i lti).1; omega⟩
   have ec : gN cf i = c := by show (cf i).toNat = c; omega
   have hcJ : c < J := by rw [← ec]; exact hpt.lt i lti
   obtain ⟨q_, eq⟩ : ∃ q_, cntC (gN cf) c i = q_ := ⟨_, rfl⟩
   have hq : q_ < ln c := by have h_ := hpt.vis lti; rw [ec, eq] at h_; exact h_
   have hqn := cnt_le (gN cf) c i
   rw [eq] at hqn
   obtain ⟨vb, vo, vc, ev, hvb, hvc⟩ := hL.at (show 0 < J by omega)
   have cV : ∀ X, Below V.heap.size V X → X.cell? ⟨vb, vo + c, none⟩ = some (x c) := fun X hX => by rw [cell_below hX hvb]; exact hvc c hcJ
   obtain ⟨xb, xo, xc, ex, hxb, hxc⟩ := open_sl (hL.lists c hcJ) (show 0 < ln c by omega)
   have cX : ∀ X, Below V.heap.size V X → X.cell? ⟨xb, xo + q_, none⟩ = some (.int .i64 (gg c q_)) := fun X hX => by rw [cell_below hX hxb]; exact hxc q_ hq
   refine wp_seq ?_
   refine wp_se 49 [1, 2] [] (fun _ s X => Below V.heap.size V X ∧ (X.ownsRow V.heap.size 3 1 (.slice (some ⟨g17, 0, none⟩) n n) (n) (intsL (n) (fun j => if j < i then gg (gN cf j) (cntC (gN cf) (gN cf j) j) else 0))) ∧ (X.ownsRow V.heap.size 3 1 (.slice (some ⟨g20, 0, none⟩) J J) (J) (intsL (J) (fun j => (cntC (gN cf) j i : Int))))) (fun s => fun i_ => match i_ with | 1 => .pointer (some ⟨ccb, cco + i, none⟩) | 2 => .int .i64 ((c : Nat) : Int) | _ => undef) () A ⟨BB, FO, FX⟩ (And.intro ?_ (And.intro ?_ trivial)) ?_
   ·exact fun s a X e hS => stepV rfl rfl (execIdxN (k := i) rfl (((e (.tmp 21)).trans t21).trans ecc) ((e (.tmp 23)).trans t23) lti) ⟨s, ⟨_, rfl, rfl⟩, hS, ar⟩
   ·exact fun s a X e hS => stepV rfl rfl (execLd3 rfl (e (.tmp 26)) ((ccc i lti X hS.1).trans (by rw [ec0]))) ⟨s, ⟨_, rfl, rfl⟩, hS, ar⟩
   rintro _ a X7 A e (hS : Below V.heap.size V X7 ∧ (X7.ownsRow V.heap.size 3 1 (.slice (some ⟨g17, 0, none⟩) n n) (n) (intsL (n) (fun j => if j < i then gg (gN cf j) (cntC (gN cf) (gN cf j) j) else 0))) ∧ (X7.ownsRow V.heap.size 3 1 (.slice (some ⟨g20, 0, none⟩) J J) (J) (intsL (J) (fun j => (cntC (gN cf) j i : Int)))))
   obtain ⟨BB, FO, FX⟩ := hS
   have t8 : a.eval (.tmp 8) = .int .i64 ((i : Nat) : Int) := (e _).trans t23
   have t9 : a.eval (.tmp 9) = .int .i64 ((c : Nat) : Int) := e _
   replace t1 := kt e t1
   replace t6 := kt e t6
   replace t7 := kt e t7
   replace t21 := kt e t21
   replace t22 := kt e t22
   replace t23 := kt e t23
   clear e
   refine wp_seq ?_
   refine wp_region_stB (σ := Unit) 49 [(0, 28), (1, 29), (2, 30), (3, 31), (4, 32), (5, 33), (6, 34), (7, 35), (8, 36), (9, 37), (10, 38), (11, 39), (12, 40)] (fun l_ s X => Below V.heap.size V X ∧ (l_ 13 = false → (X.ownsRow V.heap.size 3 1 (.slice (some ⟨g17, 0, none⟩) n n) (n) (intsL (n) (fun j => if j < i then gg (gN cf j) (cntC (gN cf) (gN cf j) j) else 0)))) ∧ ((X.ownsRow V.heap.size 3 1 (.slice (some ⟨g20, 0, none⟩) J J) (J) (intsL (J) (fun j => (cntC (gN cf) j i : Int))))) ∧ (l_ 13 = true → (X.ownsRow V.heap.size 3 1 (.slice (some ⟨g17, 0, none⟩) n n) (n) (intsL (n) (fun j => if j < (i + 1) then gg (gN cf j) (cntC (gN cf) (gN cf j) j) else 0))))) (fun s => fun i_ => match i_ with | 0 => .slice (some ⟨g17, 0, none⟩) n n | 1 => .int .i64 ((i : Nat) : Int) | 2 => v | 3 => .int .i64 ((c : Nat) : Int) | 4 => .pointer (some ⟨vb, vo + c, none⟩) | 5 => x c | 6 => .slice (some ⟨g20, 0, none⟩) J J | 7 => .int .i64 ((c : Nat) : Int) | 8 => .pointer (some ⟨g20, 0 + c, none⟩) | 9 => .int .i64 ((q_ : Nat) : Int) | 10 => .pointer (some ⟨xb, xo + q_, none⟩) | 11 => .int .i64 (gg c q_) | 12 => .pointer (some ⟨g17, 0 + i, none⟩) | 13 => undef | _ => undef) () (by kernel_rfl) (by kernel_rfl) A.1 (by kernel_rfl) (by decide) (by decide) ⟨(BB.drew), (fun _ => (ownD_below FO (Below.refl _ _).drew)), ((ownD_below FX (Below.refl _ _).drew)), (fun q0_ => by cases q0_)⟩ ?_ ?_
   ·intro i_ hi_ l_ s a X hl_ hf hdep hl2 hcl hno hT
    have up : ∀ j x, x ≠ j → updB l_ j x = l_ x := fun j x hj => by unfold updB; simp [hj]
    match i_, hi_ with
    | 0, _ => exact stepV rfl rfl (execMvB rfl ((hf 6 (by decide)).trans t6)) ⟨s, ⟨_, rfl, rfl⟩, ⟨hT.1, (fun q0_ => (hT.2.1 (by rw [up 0 13 (by decide)] at q0_; exact q0_))), (hT.2.2.1), (fun q0_ => absurd (hl_.symm.trans (hcl 13 _ rfl ((up 0 13 (by decide)).symm.trans q0_) 0 rfl)) (by decide))⟩, fun _ _ _ => rfl⟩
    | 1, _ => exact stepV rfl rfl (execMvB rfl ((hf 8 (by decide)).trans t8)) ⟨s, ⟨_, rfl, rfl⟩, ⟨hT.1, (fun q0_ => (hT.2.1 (by rw [up 1 13 (by decide)] at q0_; exact q0_))), (hT.2.2.1), (fun q0_ => absurd (hl_.symm.trans (hcl 13 _ rfl ((up 1 13 (by decide)).symm.trans q0_) 1 rfl)) (by decide))⟩, fun _ _ _ => rfl⟩
    | 2, _ => exact stepV rfl rfl (execMvB rfl ((hf 1 (by decide)).trans t1)) ⟨s, ⟨_, rfl, rfl⟩, ⟨hT.1, (fun q0_ => (hT.2.1 (by rw [up 2 13 (by decide)] at q0_; exact q0_))), (hT.2.2.1), (fun q0_ => absurd (hl_.symm.trans (hcl 13 _ rfl ((up 2 13 (by decide)).symm.trans q0_) 2 rfl)) (by decide))⟩, fun _ _ _ => rfl⟩
    | 3, _ => exact stepV rfl rfl (execMvB rfl ((hf 9 (by decide)).trans t9)) ⟨s, ⟨_, rfl, rfl⟩, ⟨hT.1, (fun q0_ => (hT.2.1 (by rw [up 3 13 (by decide)] at q0_; exact q0_))), (hT.2.2.1), (fun q0_ => absurd (hl_.symm.trans (hcl 13 _ rfl ((up 3 13 (by decide)).symm.trans q0_) 3 rfl)) (by decide))⟩, fun _ _ _ => rfl⟩
    | 4, _ => exact stepV rfl rfl (execIdxLI (k := c) rfl ((hdep _ rfl 2 rfl _ rfl _ rfl).trans ev) (hdep _ rfl 3 rfl _ rfl _ rfl) hcJ) ⟨s, ⟨_, rfl, rfl⟩, ⟨hT.1, (fun q0_ => (hT.2.1 (by rw [up 4 13 (by decide)] at q0_; exact q0_))), (hT.2.2.1), (fun q0_ => absurd (hl_.symm.trans (hcl 13 _ rfl ((up 4 13 (by decide)).symm.trans q0_) 4 rfl)) (by decide))⟩, fun _ _ _ => rfl⟩
    | 5, _ => exact stepV rfl rfl (execLdLI (v := x c) rfl (hdep _ rfl 4 rfl _ rfl _ rfl) (cV X hT.1)) ⟨s, ⟨_, rfl, rfl⟩, ⟨hT.1, (fun q0_ => (hT.2.1 (by rw [up 5 13 (by decide)] at q0_; exact q0_))), (hT.2.2.1), (fun q0_ => absurd (hl_.symm.trans (hcl 13 _ rfl ((up 5 13 (by decide)).symm.trans q0_) 5 rfl)) (by decide))⟩, fun _ _ _ => rfl⟩
    | 6, _ => exact stepV rfl rfl (execMvB rfl ((hf 7 (by decide)).trans t7)) ⟨s, ⟨_, rfl, rfl⟩, ⟨hT.1, (fun q0_ => (hT.2.1 (by rw [up 6 13 (by decide)] at q0_; exact q0_))), (hT.2.2.1), (fun q0_ => absurd (hl_.symm.trans (hcl 13 _ rfl ((up 6 13 (by decide)).symm.trans q0_) 6 rfl)) (by decide))⟩, fun _ _ _ => rfl⟩
    | 7, _ => exact stepV rfl rfl (execMvB rfl ((hf 9 (by decide)).trans t9)) ⟨s, ⟨_, rfl, rfl⟩, ⟨hT.1, (fun q0_ => (hT.2.1 (by rw [up 7 13 (by decide)] at q0_; exact q0_))), (hT.2.2.1), (fun q0_ => absurd (hl_.symm.trans (hcl 13 _ rfl ((up 7 13 (by decide)).symm.trans q0_) 7 rfl)) (by decide))⟩, fun _ _ _ => rfl⟩
    | 8, _ => exact stepV rfl rfl (execIdxN (k := c) rfl (hdep _ rfl 6 rfl _ rfl _ rfl) (hdep _ rfl 7 rfl _ rfl _ rfl) hcJ) ⟨s, ⟨_, rfl, rfl⟩, ⟨hT.1, (fun q0_ => (hT.2.1 (by rw [up 8 13 (by decide)] at q0_; exact q0_))), (hT.2.2.1), (fun q0_ => absurd (hl_.symm.trans (hcl 13 _ rfl ((up 8 13 (by decide)).symm.trans q0_) 8 rfl)) (by decide))⟩, fun _ _ _ => rfl⟩
    | 9, _ => exact stepV rfl rfl (execLd3 rfl (hdep _ rfl 8 rfl _ rfl _ rfl) ((own_cellI hT.2.2.1 hcJ).1.trans (by rw [eq]))) ⟨s, ⟨_, rfl, rfl⟩, ⟨hT.1, (fun q0_ => (hT.2.1 (by rw [up 9 13 (by decide)] at q0_; exact q0_))), (hT.2.2.1), (fun q0_ => absurd (hl_.symm.trans (hcl 13 _ rfl ((up 9 13 (by decide)).symm.trans q0_) 9 rfl)) (by decide))⟩, fun _ _ _ => rfl⟩
    | 10, _ => exact stepV rfl rfl (execIdxN (k := q_) rfl ((hdep _ rfl 5 rfl _ rfl _ rfl).trans ex) (hdep _ rfl 9 rfl _ rfl _ rfl) hq) ⟨s, ⟨_, rfl, rfl⟩, ⟨hT.1, (fun q0_ => (hT.2.1 (by rw [up 10 13 (by decide)] at q0_; exact q0_))), (hT.2.2.1), (fun q0_ => absurd (hl_.symm.trans (hcl 13 _ rfl ((up 10 13 (by decide)).symm.trans q0_) 10 rfl)) (by decide))⟩, fun _ _ _ => rfl⟩
    | 11, _ => exact stepV rfl rfl (execLd3 rfl (hdep _ rfl 10 rfl _ rfl _ rfl) (cX X hT.1)) ⟨s, ⟨_, rfl, rfl⟩, ⟨hT.1, (fun q0_ => (hT.2.1 (by rw [up 11 13 (by decide)] at q0_; exact q0_))), (hT.2.2.1), (fun q0_ => absurd (hl_.symm.trans (hcl 13 _ rfl ((up 11 13 (by decide)).symm.trans q0_) 11 rfl)) (by decide))⟩, fun _ _ _ => rfl⟩
    | 12, _ => exact stepV rfl rfl (execIdxN (k := i) rfl (hdep _ rfl 0 rfl _ rfl _ rfl) (hdep _ rfl 1 rfl _ rfl _ rfl) lti) ⟨s, ⟨_, rfl, rfl⟩, ⟨hT.1, (fun q0_ => (hT.2.1 (by rw [up 12 13 (by decide)] at q0_; exact q0_))), (hT.2.2.1), (fun q0_ => absurd (hl_.symm.trans (hcl 13 _ rfl ((up 12 13 (by decide)).symm.trans q0_) 12 rfl)) (by decide))⟩, fun _ _ _ => rfl⟩
    | 13, _ =>
     obtain ⟨hc_, hf_⟩ := own_cellI (hT.2.1 hl_) lti
     refine stepS rfl rfl (execStI9 rfl (hdep _ rfl 12 rfl _ rfl _ rfl) (hdep _ rfl 11 rfl _ rfl _ rfl) hc_ hf_) ⟨s, ⟨_, rfl, rfl⟩, ⟨(hT.1).setCell Fg _, (fun q0_ => absurd q0_ (by unfold updB; simp)), ((own_offB hT.2.2.1 (fun z => Fne (Option.some.inj z).symm))), (fun _q0_ => own_fill (F := fun j => gg (gN cf j) (cntC (gN cf) (gN cf j) j)) (hT.2.1 hl_) (by show _ = gg (gN cf i) (cntC (gN cf) (gN cf i) i); rw [ec, eq]))⟩, fun i hi hli => ?_⟩
     match i, hi with
     | 0, _ => rfl
     | 1, _ => rfl
     | 2, _ => rfl
     | 3, _ => rfl
     | 4, _ => rfl
     | 5, _ => rfl
     | 6, _ => rfl
     | 7, _ => rfl
     | 8, _ => rfl
     | 9, _ => rfl
     | 10, _ => rfl
     | 11, _ => rfl
     | 12, _ => rfl
     | 13, _ => exact absurd (hl_.symm.trans hli) (by decide)
     | k_ + 14, h_ => exact absurd h_ (by simp)
    | k_ + 14, h_ => exact absurd h_ (by simp)
   rintro l_ _ a X8 h1 h2 h3 h4 hall hT
   clear BB
   clear FO
   clear FX
   obtain ⟨BB, FO, FX, FO2⟩ := hT
   clear FO
   replace FX : (X8.ownsRow V.heap.size 3 1 (.slice (some ⟨g20, 0, none⟩) J J) (J) (intsL (J) (fun j => (cntC (gN cf) j i : Int)))) := FX
   replace FO2 : (X8.ownsRow V.heap.size 3 1 (.slice (some ⟨g17, 0, none⟩) n n) (n) (intsL (n) (fun j => if j < (i + 1) then gg (gN cf j) (cntC (gN cf) (gN cf j) j) else 0))) := FO2 (hall 13 (by decide))
   clear hall
   replace t1 := (h3 1 (by decide)).trans t1
   replace t6 := (h3 6 (by decide)).trans t6
   replace t7 := (h3 7 (by decide)).trans t7
   replace t21 := (h3 21 (by decide)).trans t21
   replace t22 := (h3 22 (by decide)).trans t22
   replace t23 := (h3 23 (by decide)).trans t23
   replace t9 := (h3 9 (by decide)).trans t9
   replace A := (⟨h1, h2.trans A.2⟩ : a.tmps.size = 49 ∧ a.defers = [])
   clear h1 h2 h3 h4
   clear t8
   refine wp_se 49 [2, 3, 4, 5, 6] [6] (fun k_ s X => match k_ with | 0 => Below V.heap.size V X ∧ (X.ownsRow V.heap.size 3 1 (.slice (some ⟨g20, 0, none⟩) J J) (J) (intsL (J) (fun j => (cntC (gN cf) j i : Int)))) ∧ (X.ownsRow V.heap.size 3 1 (.slice (some ⟨g17, 0, none⟩) n n) (n) (intsL (n) (fun j => if j < (i + 1) then gg (gN cf j) (cntC (gN cf) (gN cf j) j) else 0))) | _ => Below V.heap.size V X ∧ (X.ownsRow V.heap.size 3 1 (.slice (some ⟨g17, 0, none⟩) n n) (n) (intsL (n) (fun j => if j < (i + 1) then gg (gN cf j) (cntC (gN cf) (gN cf j) j) else 0))) ∧ (X.ownsRow V.heap.size 3 1 (.slice (some ⟨g20, 0, none⟩) J J) (J) (intsL (J) (fun j => (cntC (gN cf) j (i + 1) : Int))))) (fun s => fun i_ => match i_ with | 2 => .pointer (some ⟨g20, 0 + c, none⟩) | 3 => .int .i64 ((q_ : Nat) : Int) | 4 => .int .i64 ((q_ + 1 : Nat) : Int) | 5 => .pointer (some ⟨g20, 0 + c, none⟩) | _ => undef) () A ⟨BB, FX, FO2⟩ (And.intro ?_ (And.intro ?_ (And.intro ?_ (And.intro ?_ (And.intro ?_ trivial))))) ?_
   ·exact fun s a X e hS => stepV rfl rfl (execIdxN (k := c) rfl ((e (.tmp 41)).trans t7) ((e (.tmp 42)).trans t9) hcJ) ⟨s, ⟨_, rfl, rfl⟩, hS, ar⟩
   ·exact fun s a X e hS => stepV rfl rfl (execLd3 rfl (e (.tmp 43)) ((own_cellI hS.2.1 hcJ).1.trans (by rw [eq]))) ⟨s, ⟨_, rfl, rfl⟩, hS, ar⟩
   ·exact fun s a X e hS => stepV rfl rfl (execAd8 (p := q_) (q := 1) rfl (e (.tmp 44)) rfl (by omega)) ⟨s, ⟨_, rfl, rfl⟩, hS, ar⟩
   ·exact fun s a X e hS => stepV rfl rfl (execIdxN (k := c) rfl ((e (.tmp 41)).trans t7) ((e (.tmp 42)).trans t9) hcJ) ⟨s, ⟨_, rfl, rfl⟩, hS, ar⟩
   ·intro s a X e hS
    obtain ⟨hc_, hf_⟩ := own_cellI hS.2.1 hcJ
    refine stepS rfl rfl (execStI9 rfl (e (.tmp 46)) (e (.tmp 45)) hc_ hf_) ⟨s, ⟨_, rfl, rfl⟩, ⟨(hS.1).setCell Fh _, (own_offB hS.2.2 (fun z => Fne (Option.some.inj z))), nx_set hS.2.1 ec eq⟩, ar⟩
   rintro _ a X9 A e (hS : Below V.heap.size V X9 ∧ (X9.ownsRow V.heap.size 3 1 (.slice (some ⟨g17, 0, none⟩) n n) (n) (intsL (n) (fun j => if j < (i + 1) then gg (gN cf j) (cntC (gN cf) (gN cf j) j) else 0))) ∧ (X9.ownsRow V.heap.size 3 1 (.slice (some ⟨g20, 0, none⟩) J J) (J) (intsL (J) (fun j => (cntC (gN cf) j (i + 1) : Int)))))
   obtain ⟨BB, FO2, FX2⟩ := hS
   replace t1 := kt e t1
   replace t6 := kt e t6
   replace t7 := kt e t7
   replace t21 := kt e t21
   replace t22 := kt e t22
   replace t23 := kt e t23
   clear e t9
   refine wp_se 49 [0] [] (fun _ s X => Below V.heap.size V X ∧ (X.ownsRow V.heap.size 3 1 (.slice (some ⟨g17, 0, none⟩) n n) (n) (intsL (n) (fun j => if j < (i + 1) then gg (gN cf j) (cntC (gN cf) (gN cf j) j) else 0))) ∧ (X.ownsRow V.heap.size 3 1 (.slice (some ⟨g20, 0, none⟩) J J) (J) (intsL (J) (fun j => (cntC (gN cf) j (i + 1) : Int))))) (fun s => fun i_ => match i_ with | 0 => .int .i64 ((i + 1 : Nat) : Int) | _ => undef) () A ⟨BB, FO2, FX2⟩ (And.intro ?_ trivial) ?_
   ·exact fun s a X e hS => stepV rfl rfl (execAd8 (p := i) (q := 1) rfl ((e (.tmp 23)).trans t23) rfl (by omega)) ⟨s, ⟨_, rfl, rfl⟩, hS, ar⟩
   rintro _ a X10 A e (hS : Below V.heap.size V X10 ∧ (X10.ownsRow V.heap.size 3 1 (.slice (some ⟨g17, 0, none⟩) n n) (n) (intsL (n) (fun j => if j < (i + 1) then gg (gN cf j) (cntC (gN cf) (gN cf j) j) else 0))) ∧ (X10.ownsRow V.heap.size 3 1 (.slice (some ⟨g20, 0, none⟩) J J) (J) (intsL (J) (fun j => (cntC (gN cf) j (i + 1) : Int)))))
   obtain ⟨BB, FO2, FX2⟩ := hS
   replace t23 : a.eval (.tmp 23) = .int .i64 ((i + 1 : Nat) : Int) := e _
   replace t1 := kt e t1
   replace t6 := kt e t6
   replace t7 := kt e t7
   replace t21 := kt e t21
   replace t22 := kt e t22
   clear e
   exact ⟨⟨i + 1, lti, A, t1, t6, t7, t21, t22, t23, BB, FO2, FX2⟩, by show n - (intOf (a.eval (.tmp 23))).toNat < n - (intOf (Act.eval _ (.tmp 23))).toNat; rw [t23, esi]; show n - (i + 1) < n - i; omega⟩
  ·rw [decide_eq_false lti] at t24
   refine wp_cond_false t24 ?_
   refine wp_exit ?_
   first | with_reducible refine exit_in ?_ | with_reducible refine exit_then (exit_in ?_) | with_reducible refine exit_then (exit_then (exit_in ?_)) | refine exit_in ?_ | refine exit_then (exit_in ?_) | refine exit_then (exit_then (exit_in ?_))
   clear t24 esi
   have hin : i = n := by omega
   rw [hin, intsL_congr (g := fun j => gg (gN cf j) (cntC (gN cf) (gN cf j) j)) (fun j hj => if_pos hj)] at FO
   clear t1 t7 t21 t22 t23 FX
   refine wp_seq ?_
   refine wp_se 49 [] [] (fun _ s X => Below V.heap.size V X ∧ (X.ownsRow V.heap.size 3 1 (.slice (some ⟨g17, 0, none⟩) n n) (n) (intsL (n) (fun j => gg (gN cf j) (cntC (gN cf) (gN cf j) j))))) (fun s => fun _ => undef) () A ⟨BB, FO⟩ trivial ?_
   rintro _ a X11 A e (hS : Below V.heap.size V X11 ∧ (X11.ownsRow V.heap.size 3 1 (.slice (some ⟨g17, 0, none⟩) n n) (n) (intsL (n) (fun j => gg (gN cf j) (cntC (gN cf) (gN cf j) j)))))
   obtain ⟨BB, FO⟩ := hS
   have t4 : a.eval (.tmp 4) = .slice (some ⟨g17, 0, none⟩) n n := (e _).trans t6
   have t5 : a.eval (.tmp 5) = .int .i64 ((0 : Nat) : Int) := e _
   clear e t6
   refine wp_ret ?_
   refine bodyPost_ret (results_tmp2 rfl _ _ _) A.2 ⟨_, ?_, FO, BB⟩
   show Ending.returned (.tuple #[a.eval (.tmp 4), a.eval (.tmp 5)]) = _
   rw [t4, t5]
end Go.Proofs.Ytmjpneaccjlpkaa.Brd
