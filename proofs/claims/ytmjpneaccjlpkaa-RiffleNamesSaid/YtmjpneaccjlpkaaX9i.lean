import Derived.Test.YtmjpneaccjlpkaaF9b
import Derived.Test.YtmjpneaccjlpkaaF9a
import Derived.Test.YtmjpneaccjlpkaaX9h
namespace Go.Proofs.Ytmjpneaccjlpkaa.Rif
open Go.RowKit Gf8 Aes By8 Cel Cf Tap Drw Prm Brd
/- Stage 13's RiffleNames. Written by tools/mkX9i.py. -/
theorem or_E (p : Nat → Nat) (L : Nat) (n ch : Int) (E : Nat) (pv : Value) (V : World) (FP : SliceN V pv L p) (hl : L ≤ 140737488351232) (hE : riE L n ch p = E) :
  Calls Try.prog 10 #[pv, .int .i64 n, .int .i64 ch] V fun e w' => ∃ r, e = .returned (.tuple #[r, .int .i64 ((E : Nat) : Int)]) ∧ Below V.heap.size V w' :=
 Calls.mono (porder p L n ch pv V FP hl) fun e w' ⟨r, g1, _, g3⟩ => ⟨r, by rw [hE] at g1; exact g1, g3⟩
theorem sh_E (p : Nat → Nat) (L m : Nat) (ch : Int) (E : Nat) (g : Nat → Int) (pv lv : Value) (V : World) (FP : SliceN V pv L p) (hl : L ≤ 140737488351232) (FI : SliceI V lv m g) (hE : riE L ((m : Nat) : Int) ch p = E) :
  Calls Try.prog 11 #[pv, .int .i64 ch, lv] V fun e w' => ∃ r, e = .returned (.tuple #[r, .int .i64 ((E : Nat) : Int)]) ∧ Below V.heap.size V w' :=
 Calls.mono (pshuffleI p L m ch g pv lv V FP hl FI) fun e w' ⟨r, g1, _, g3⟩ => ⟨r, by rw [hE] at g1; exact g1, g3⟩
theorem nm_no {p : Nat → Nat} {L : Nat} {n ch : Int} (h : ¬ inL n ch) : riE L n ch p = 2 := if_neg h
theorem nm_a : riE 1042 256 1 (fun _ => 0) = 0 := zero_ok (N := 256) (J := 1) (fun _ _ => rfl) (by omega) (by omega) (by omega) (by omega) (by decide) (fun t ht => by
 rw [show t = 0 by omega]
 decide)
theorem nm_c : riE 1042 3 64 (fun _ => 0) = 0 := zero_ok (N := 3) (J := 64) (fun _ _ => rfl) (by omega) (by omega) (by omega) (by omega) (by decide) (fun t ht => by
 have h1 : szF 3 64 t ≤ 1 := by
  unfold szF
  by_cases h : t < 3 % 64
  ·rw [if_pos h]; decide
  ·rw [if_neg h]; decide
 omega)
theorem nm_e : riE 17 0 1 (fun _ => 0) = 3 := by decide
set_option maxRecDepth 100000 in
theorem nm_f : riE 18 1 64 (fun _ => 0) = 0 := by decide
set_option maxRecDepth 100000 in
set_option maxHeartbeats 4000000 in
theorem names_any (V : World) :
  Calls Try.prog 3 #[] V fun e w' => e = .returned (.bool true) ∧ Below V.heap.size V w' := by
 go_enter Try.func3, Try.ntmps3
 refine wp_seq ?_
 refine wo_ 85 [] ?_
 rintro a A -
 refine wi_ A h0_ (rg_ [] ?_)
 rintro a A -
 have BW : Below V.heap.size V V := Below.refl _ _
 refine wp_seq (wp_seq ?_)
 refine wi_ A h0_ (rc_ 1 (alive13 V) (cb_ fun X1 bQ => ?_))
 have bX := bQ
 clear bQ
 refine rv_ 2 (.bool false) (fun a e => execNot8 (b := true) rfl (e _)) (rg_ [(19, .bool false)] ?_)
 rintro a A ⟨t19, -⟩
 have ZX1 := bX.size
 replace BW := BW.trans (bX.mono BW.size)
 clear bX
 refine wp_cond_false t19 (wp_skip ?_)
 clear t19
 refine wp_seq ?_
 obtain ⟨g20, egg20⟩ : ∃ z_ : Nat, X1.heap.size = z_ := ⟨_, rfl⟩
 refine wi_ A h0_ (rs_ 0 (fun a e => ?_))
 refine stepV rfl rfl (execMk (l := 1042) (n := 1042) rfl rfl rfl (by omega) (by omega)) ⟨.slice (some ⟨g20, 0, none⟩) 1042 1042, ⟨_, rfl, by subst egg20; rfl⟩, fun X3 hX => ?_⟩
 have bQ : Below X1.heap.size X1 X3 := by subst hX egg20; exact (belNew X1 _)
 have FL : SliceN X3 (.slice (some ⟨g20, 0, none⟩) 1042 1042) (1042) (fun _ => 0) := by subst hX egg20; exact own_slice (own_mkZB X1 1042 1042 (fun _ => 0) (by omega) (by omega) (fun _ _ => rfl)) (fun _ _ => by omega)
 have bX := bQ
 clear bQ hX egg20 e a
 refine rg_ [(1, .slice (some ⟨g20, 0, none⟩) 1042 1042)] ?_
 rintro a A ⟨t1, -⟩
 have ZX3 := bX.size
 replace BW := BW.trans (bX.mono BW.size)
 clear bX
 refine wp_seq ?_
 refine wi_ A (h1_ t1) (rc_ 1 (or_E (fun _ => 0) 1042 256 1 0 _ X3 FL (by omega) nm_a) fun e X4 hh => ?_)
 obtain ⟨o23, he, hb⟩ := hh
 refine ⟨_, he, ?_⟩
 have bQ : Below X3.heap.size X3 X4 := hb
 have bX := bQ
 clear bQ
 refine rf_ [(3, .int .i64 ((0 : Nat) : Int))] (h1_ t1) ?_
 rintro a A ⟨t3, -⟩ ⟨t1, -⟩
 replace FL := (FL.on bX)
 have ZX4 := bX.size
 replace BW := BW.trans (bX.mono BW.size)
 clear bX
 refine wp_seq ?_
 refine wi_ A (h2_ t1 t3) (rc_ 1 (or_E (fun _ => 0) 1042 257 1 2 _ X4 FL (by omega) (nm_no (by decide))) fun e X5 hh => ?_)
 obtain ⟨o28, he, hb⟩ := hh
 refine ⟨_, he, ?_⟩
 have bQ : Below X4.heap.size X4 X5 := hb
 have bX := bQ
 clear bQ
 refine rf_ [(5, .int .i64 ((2 : Nat) : Int))] (h2_ t1 t3) ?_
 rintro a A ⟨t5, -⟩ ⟨t1, t3, -⟩
 replace FL := (FL.on bX)
 have ZX5 := bX.size
 replace BW := BW.trans (bX.mono BW.size)
 clear bX
 refine wp_seq ?_
 refine wi_ A (h3_ t1 t3 t5) (rc_ 1 (or_E (fun _ => 0) 1042 3 64 0 _ X5 FL (by omega) nm_c) fun e X6 hh => ?_)
 obtain ⟨o33, he, hb⟩ := hh
 refine ⟨_, he, ?_⟩
 have bQ : Below X5.heap.size X5 X6 := hb
 have bX := bQ
 clear bQ
 refine rf_ [(7, .int .i64 ((0 : Nat) : Int))] (h3_ t1 t3 t5) ?_
 rintro a A ⟨t7, -⟩ ⟨t1, t3, t5, -⟩
 replace FL := (FL.on bX)
 have ZX6 := bX.size
 replace BW := BW.trans (bX.mono BW.size)
 clear bX
 refine wp_seq ?_
 refine wi_ A (h4_ t1 t3 t5 t7) (rc_ 1 (or_E (fun _ => 0) 1042 3 65 2 _ X6 FL (by omega) (nm_no (by decide))) fun e X7 hh => ?_)
 obtain ⟨o38, he, hb⟩ := hh
 refine ⟨_, he, ?_⟩
 have bQ : Below X6.heap.size X6 X7 := hb
 have bX := bQ
 clear bQ
 refine rf_ [(9, .int .i64 ((2 : Nat) : Int))] (h4_ t1 t3 t5 t7) ?_
 rintro a A ⟨t9, -⟩ ⟨t1, t3, t5, t7, -⟩
 replace FL := (FL.on bX)
 have ZX7 := bX.size
 replace BW := BW.trans (bX.mono BW.size)
 clear bX
 refine wp_seq ?_
 refine wi_ A (h5_ t1 t3 t5 t7 t9) (rv_ 1 (.slice (some ⟨g20, 0, none⟩) 17 1042) (fun a e => By8.execSlH rfl (e _) rfl (sl_h8 g20 1042 1042 17 (by omega) X7)) (rc_ 2 (or_E (fun _ => 0) 17 0 1 3 _ X7 (takeN FL (by omega)) (by omega) nm_e) fun e X8 hh => ?_))
 obtain ⟨o44, he, hb⟩ := hh
 refine ⟨_, he, ?_⟩
 have bQ : Below X7.heap.size X7 X8 := hb
 have bX := bQ
 clear bQ
 refine rf_ [(11, .int .i64 ((3 : Nat) : Int))] (h5_ t1 t3 t5 t7 t9) ?_
 rintro a A ⟨t11, -⟩ ⟨t1, t3, t5, t7, t9, -⟩
 replace FL := (FL.on bX)
 have ZX8 := bX.size
 replace BW := BW.trans (bX.mono BW.size)
 clear bX
 refine wp_seq ?_
 refine wi_ A (h6_ t1 t3 t5 t7 t9 t11) (rv_ 1 (.slice (some ⟨g20, 0, none⟩) 18 1042) (fun a e => By8.execSlH rfl (e _) rfl (sl_h8 g20 1042 1042 18 (by omega) X8)) (rc_ 2 (or_E (fun _ => 0) 18 1 64 0 _ X8 (takeN FL (by omega)) (by omega) nm_f) fun e X9 hh => ?_))
 obtain ⟨o50, he, hb⟩ := hh
 refine ⟨_, he, ?_⟩
 have bQ : Below X8.heap.size X8 X9 := hb
 have bX := bQ
 clear bQ
 refine rf_ [(13, .int .i64 ((0 : Nat) : Int))] (h6_ t1 t3 t5 t7 t9 t11) ?_
 rintro a A ⟨t13, -⟩ ⟨t1, t3, t5, t7, t9, t11, -⟩
 replace FL := (FL.on bX)
 have ZX9 := bX.size
 replace BW := BW.trans (bX.mono BW.size)
 clear bX
 refine wp_seq ?_
 obtain ⟨g55, egg55⟩ : ∃ z_ : Nat, X9.heap.size = z_ := ⟨_, rfl⟩
 refine wi_ A (h7_ t1 t3 t5 t7 t9 t11 t13) (rs_ 1 (fun a e => ?_))
 refine stepV rfl rfl (execMkN (n := 257) rfl rfl rfl (by omega)) ⟨.slice (some ⟨g55, 0, none⟩) 257 257, ⟨_, rfl, by subst egg55; rfl⟩, fun X10_1 hX => ?_⟩
 have bQ : Below X9.heap.size X9 X10_1 := by subst hX egg55; exact (belNew X9 _)
 have F55 : (SliceI X10_1 (.slice (some ⟨g55, 0, none⟩) 257 257) (257) (fun _ => 0)) := by subst hX egg55; exact own_ints (own_mkZ X9 257 (fun _ => 0) (by omega) (fun _ _ => rfl)) (fun _ _ => by omega)
 have bX := bQ
 clear bQ hX egg55 e a
 refine rc_ 2 (sh_E (fun _ => 0) 1042 257 1 2 (fun _ => 0) _ _ X10_1 (FL.on bX) (by omega) F55 (nm_no (by decide))) fun e X10 hh => ?_
 obtain ⟨s56, he, hb⟩ := hh
 refine ⟨_, he, ?_⟩
 have bQ : Below X10_1.heap.size X10_1 X10 := hb
 replace F55 := (F55.on bQ)
 replace bX := bX.trans (bQ.mono bX.size)
 clear bQ
 refine rf_ [(15, .int .i64 ((2 : Nat) : Int))] (h7_ t1 t3 t5 t7 t9 t11 t13) ?_
 rintro a A ⟨t15, -⟩ ⟨t1, t3, t5, t7, t9, t11, t13, -⟩
 replace FL := (FL.on bX)
 have ZX10 := bX.size
 replace BW := BW.trans (bX.mono BW.size)
 clear bX
 refine wp_seq ?_
 refine wi_ A (h8_ t1 t3 t5 t7 t9 t11 t13 t15) (rv_ 1 (.bool true) (fun a e => execDec (execEqE (p := 0) (q := 0) rfl (e _) rfl) (decide_eq_true (by decide))) (rv_ 4 (.bool true) (fun a e => execDec (execEqE (p := 2) (q := 2) rfl (e _) rfl) (decide_eq_true (by decide))) (rv_ 8 (.bool true) (fun a e => execDec (execEqE (p := 0) (q := 0) rfl (e _) rfl) (decide_eq_true (by decide))) (rv_ 12 (.bool true) (fun a e => execDec (execEqE (p := 2) (q := 2) rfl (e _) rfl) (decide_eq_true (by decide))) (rv_ 16 (.bool true) (fun a e => execDec (execEqE (p := 3) (q := 3) rfl (e _) rfl) (decide_eq_true (by decide))) (rv_ 20 (.bool true) (fun a e => execDec (execEqE (p := 0) (q := 0) rfl (e _) rfl) (decide_eq_true (by decide))) (rv_ 24 (.bool true) (fun a e => execDec (execEqE (p := 2) (q := 2) rfl (e _) rfl) (decide_eq_true (by decide))) (rg_ [(0, .bool true)] ?_))))))))
 rintro a A ⟨t0, -⟩
 refine wp_ret ?_
 repeat (first | with_reducible refine ret_in ?_ | with_reducible refine ret_then ?_)
 refine bodyPost_ret (results_tmp rfl _ _ _) A.2 ⟨?_, BW⟩
 show Ending.returned (a.eval (.tmp 0)) = _
 rw [t0]
end Go.Proofs.Ytmjpneaccjlpkaa.Rif
