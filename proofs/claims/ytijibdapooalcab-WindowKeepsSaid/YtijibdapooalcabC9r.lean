import Derived.Test.YtijibdapooalcabC9q
namespace Go.Proofs.Ytijibdapooalcab.Win
open Go.RowKit Gf8 Aes By8 Cel Cf
/- The laws' alive. Written by tools/mkC9r.py. -/

abbrev sE : List Ep := esL 2 sN sL sT
theorem sm_1 : wOpen (5, sE) 6 2 = ((6, [(5, [tv (fun _ => 98) 16])]), 0) := by decide +kernel
theorem sm_2 : wAdd (5, sE) 3 (tgL 1 fun _ _ => 100) 4 = ((5, [(3, [tv (fun _ => 100) 16]), (4, [tv (fun _ => 97) 16, tv (fun _ => 99) 16]), (5, [tv (fun _ => 98) 16])]), 0) := by decide +kernel
theorem sm_3 : wAdd (5, sE) 5 (tgL 2 fun k => if k = 0 then (fun _ => 100) else (fun _ => 101)) 4 = ((0, []), 160) := by decide +kernel
theorem sm_4 : decide (tv (fun _ => 99) 16 ∈ wAll sE) = true := by decide +kernel
theorem sm_5 : decide (tv (fun _ => 100) 16 ∈ wAll sE) = false := by decide +kernel
theorem sm_6 : wChk (5, sE) 2 2 = 2 := by decide +kernel
theorem sm_7 : wChk (5, sE) 2 3 = 0 := by decide +kernel
theorem sm_8 : sW sL 2 = ((3 : Nat) : Int) := by decide +kernel
theorem esL_n {n : Nat} {nu : Nat → Int} {ln : Nat → Nat} {t : Nat → Nat → Nat → Nat} {l : List Ep} {k : Nat} (h : esL n nu ln t = l) (hk : l.length = k) : n = k := by
  rw [← hk, ← h, esL_len]
section
variable {V : World} {ev : Value} {tw : Nat → Value}
theorem al_1 (I : Impl) (h : Eps V ev 2 sN tw sL sT) : Calls Try.prog 11 #[.agg (wC 5 ev), .int .i64 6, .int .i64 2] V fun e w' => (∃ ev' nu tw' ln t, e = .returned (.tuple #[.agg (wC 6 ev'), .int .i64 ((0 : Nat) : Int)]) ∧ NwE V.heap.size w' ev' 1 nu tw' ln t) ∧ Below V.heap.size V w' :=
  Calls.mono (I.open_ 5 6 2 ev 2 sN tw sL sT V (sm_wd h) (by decide) (by decide)) fun e w' ⟨⟨ev', n', nu', tw', ln', t', q1, q2, q3⟩, hb⟩ => by
    rw [sm_1] at q1 q2
    obtain rfl := esL_n q2 rfl
    exact ⟨⟨ev', nu', tw', ln', t', q1, q3⟩, hb⟩
theorem al_2 (I : Impl) (h : Eps V ev 2 sN tw sL sT) {v : Value} (hv : Tgs V v 1 fun _ _ => 100) : Calls Try.prog 6 #[.agg (wC 5 ev), .int .i64 3, v, .int .i64 4] V fun e w' => (∃ ev' nu tw' ln t, e = .returned (.tuple #[.agg (wC 5 ev'), .int .i64 ((0 : Nat) : Int)]) ∧ NwE V.heap.size w' ev' 3 nu tw' ln t ∧ nu 0 = 3) ∧ Below V.heap.size V w' :=
  Calls.mono (I.add 5 3 4 ev 2 sN tw sL sT V v 1 (fun _ _ => 100) (sm_wd h) (by decide) (by decide) hv (by decide)) fun e w' ⟨⟨ev', n', nu', tw', ln', t', q1, q2, q3⟩, hb⟩ => by
    rw [sm_2] at q1 q2
    obtain rfl := esL_n q2 rfl
    exact ⟨⟨ev', nu', tw', ln', t', q1, q3, congrArg (fun l : List Ep => (l.headD (0, [])).1) q2⟩, hb⟩
theorem al_3 (I : Impl) (h : Eps V ev 2 sN tw sL sT) {v : Value} (hv : Tgs V v 2 fun k => if k = 0 then (fun _ => 100) else (fun _ => 101)) : Calls Try.prog 6 #[.agg (wC 5 ev), .int .i64 5, v, .int .i64 4] V fun e w' => (∃ ev' nu tw' ln t, e = .returned (.tuple #[.agg (wC 0 ev'), .int .i64 ((160 : Nat) : Int)]) ∧ NwE V.heap.size w' ev' 0 nu tw' ln t) ∧ Below V.heap.size V w' :=
  Calls.mono (I.add 5 5 4 ev 2 sN tw sL sT V v 2 (fun k => if k = 0 then (fun _ => 100) else (fun _ => 101)) (sm_wd h) (by decide) (by decide) hv (by decide)) fun e w' ⟨⟨ev', n', nu', tw', ln', t', q1, q2, q3⟩, hb⟩ => by
    rw [sm_3] at q1 q2
    obtain rfl := esL_n q2 rfl
    exact ⟨⟨ev', nu', tw', ln', t', q1, q3⟩, hb⟩
theorem al_4 (I : Impl) (h : Eps V ev 2 sN tw sL sT) : Calls Try.prog 13 #[.agg (wC 5 ev), .agg (bA 16 (fun _ => 99))] V fun e w' => e = .returned (.bool true) ∧ Below V.heap.size V w' := by
  have q := I.has 5 ev 2 sN tw sL sT (fun _ => 99) V (fun _ _ => by decide) (sm_wd h)
  rw [sm_4] at q
  exact q
theorem al_5 (I : Impl) (h : Eps V ev 2 sN tw sL sT) : Calls Try.prog 13 #[.agg (wC 5 ev), .agg (bA 16 (fun _ => 100))] V fun e w' => e = .returned (.bool false) ∧ Below V.heap.size V w' := by
  have q := I.has 5 ev 2 sN tw sL sT (fun _ => 100) V (fun _ _ => by decide) (sm_wd h)
  rw [sm_5] at q
  exact q
theorem al_6 (I : Impl) (h : Eps V ev 2 sN tw sL sT) : Calls Try.prog 12 #[.agg (wC 5 ev), .int .i64 2, .int .i64 2] V fun e w' => e = .returned (.int .i64 ((2 : Nat) : Int)) ∧ Below V.heap.size V w' := by
  have q := I.check 5 2 2 ev 2 sN tw sL sT V (sm_wd h) (by decide) (by decide)
  rw [sm_6] at q
  exact q
theorem al_7 (I : Impl) (h : Eps V ev 2 sN tw sL sT) : Calls Try.prog 12 #[.agg (wC 5 ev), .int .i64 2, .int .i64 3] V fun e w' => e = .returned (.int .i64 ((0 : Nat) : Int)) ∧ Below V.heap.size V w' := by
  have q := I.check 5 2 3 ev 2 sN tw sL sT V (sm_wd h) (by decide) (by decide)
  rw [sm_7] at q
  exact q
theorem al_8 (I : Impl) (h : Eps V ev 2 sN tw sL sT) : Calls Try.prog 19 #[.agg (wC 5 ev)] V fun e w' => e = .returned (.int .i64 ((3 : Nat) : Int)) ∧ Below V.heap.size V w' := by
  have q := I.len 5 ev 2 sN tw sL sT V (sm_wd h)
  rw [sm_8] at q
  exact q
end
set_option maxRecDepth 100000 in
set_option maxHeartbeats 4000000 in
/-- The laws' alive. -/
theorem alive16 (I : Impl) (V : World) :
    Calls Try.prog 5 #[] V fun e w' => e = .returned (.bool true) ∧ Below V.heap.size V w' := by
  go_enter Try.func5, Try.ntmps5
  refine wo_ 86 [] ?_
  rintro a A -
  have BW : Below V.heap.size V V := Below.refl _ _
  have BB := BW
  refine wp_seq ?_
  refine wi_ A h0_ (rg_ [] ?_)
  rintro a A -
  refine wp_seq ?_
  refine wi_ A h0_ (rc_ 0 (some16 V) fun e X1_1 hh => ?_)
  obtain ⟨⟨ev8, tw8, he, hk⟩, hb⟩ := hh
  refine ⟨_, he, ?_⟩
  have bQ : Below V.heap.size V X1_1 := hb
  have FS8 : (Eps X1_1 ev8 2 sN tw8 sL sT) := hk
  replace BB := BB.trans (bQ.mono BB.size)
  clear bQ
  refine rc_ 1 (al_1 I FS8) fun e X1_2 hh => ?_
  obtain ⟨⟨ev9, nu9, tw9, ln9, tt9, he, hk⟩, hb⟩ := hh
  refine ⟨_, he, ?_⟩
  have bQ : Below X1_1.heap.size X1_1 X1_2 := hb
  have FW9 : (NwE V.heap.size X1_2 ev9 1 nu9 tw9 ln9 tt9) := hk.base (BB).size
  replace BB := BB.trans (bQ.mono BB.size)
  clear FS8 bQ
  obtain ⟨g1, egg1⟩ : ∃ z_ : Nat, X1_2.heap.size = z_ := ⟨_, rfl⟩
  refine rs_ 5 (fun a ee => ?_)
  refine stepV rfl rfl (execAllW rfl) ⟨.pointer (some ⟨g1, 0, none⟩), ⟨_, rfl, by subst egg1; rfl⟩, fun X1_3 hX => ?_⟩
  have bQ : Below X1_2.heap.size X1_2 X1_3 := by subst hX egg1; exact (belNew X1_2 _)
  have Fg1 : (X1_3.heap[g1]? = some (.cells (wC 0 (.slice none 0 0)) 24)) := by subst hX egg1; exact heapNew X1_2 _
  have FGg1 : (V.heap.size ≤ g1) := by subst hX egg1; exact (BB).size
  replace FW9 := (FW9.on bQ)
  replace BB := BB.trans (bQ.mono BB.size)
  clear bQ hX egg1 ee a
  refine rs_ 6 (fun a ee => ?_)
  refine stepS rfl rfl (execStWn rfl (ee _) (ee _) Fg1 (slc_one (ownE_shp FW9.row))) ⟨_, ⟨_, rfl, rfl⟩, fun X1 hX => ?_⟩
  obtain ⟨BB, FW9, Fg1s⟩ : Below V.heap.size V X1 ∧ (NwE V.heap.size X1 ev9 1 nu9 tw9 ln9 tt9) ∧ (X1.heap[g1]? = some (.cells (wC 6 ev9) 24)) := by subst hX; exact ⟨below4 BB FGg1 _, (FW9).setW Fg1 (by decide) (by decide), setRow_heap _ _ _ _ _ _ Fg1⟩
  clear Fg1 hX ee a
  refine rg_ [(1, .pointer (some ⟨g1, 0, none⟩)), (2, .int .i64 ((0 : Nat) : Int))] ?_
  rintro a A ⟨t1, t2, -⟩
  clear FGg1
  refine wp_seq ?_
  refine wi_ A (h2_ t1 t2) (rc_ 0 (some16 X1) fun e X2_1 hh => ?_)
  obtain ⟨⟨ev13, tw13, he, hk⟩, hb⟩ := hh
  refine ⟨_, he, ?_⟩
  have bQ : Below X1.heap.size X1 X2_1 := hb
  have FS13 : (Eps X2_1 ev13 2 sN tw13 sL sT) := hk
  replace FW9 := (FW9.on bQ)
  replace Fg1s := (on9 Fg1s bQ)
  replace BB := BB.trans (bQ.mono BB.size)
  clear bQ
  refine rc_ 1 (tag16 100 X2_1 (by decide)) (cb_ fun X2_2 bQ => ?_)
  replace FW9 := (FW9.on bQ)
  replace Fg1s := (on9 Fg1s bQ)
  replace FS13 := (FS13.on bQ)
  replace BB := BB.trans (bQ.mono BB.size)
  clear bQ
  obtain ⟨g15, egg15⟩ : ∃ z_ : Nat, X2_2.heap.size = z_ := ⟨_, rfl⟩
  refine rs_ 2 (fun a ee => ?_)
  refine stepV rfl rfl (execBsT rfl (ee _)) ⟨.slice (some ⟨g15, 0, none⟩) 1 1, ⟨_, rfl, by subst egg15; rfl⟩, fun X2_3 hX => ?_⟩
  have bQ : Below X2_2.heap.size X2_2 X2_3 := by subst hX egg15; exact (belNew X2_2 _)
  have FT15 : (Tgs X2_3 (.slice (some ⟨g15, 0, none⟩) 1 1) 1 (fun _ _ => 100)) := by subst hX egg15; exact one_tgs X2_2 (fun _ => 100) (fun _ _ => by decide)
  replace FW9 := (FW9.on bQ)
  replace Fg1s := (on9 Fg1s bQ)
  replace FS13 := (FS13.on bQ)
  replace BB := BB.trans (bQ.mono BB.size)
  clear bQ hX egg15 ee a
  refine rc_ 3 (al_2 I FS13 FT15) fun e X2_4 hh => ?_
  obtain ⟨⟨ev16, nu16, tw16, ln16, tt16, he, hk, hq⟩, hb⟩ := hh
  refine ⟨_, he, ?_⟩
  have bQ : Below X2_3.heap.size X2_3 X2_4 := hb
  have FW16 : (NwE V.heap.size X2_4 ev16 3 nu16 tw16 ln16 tt16) := hk.base (BB).size
  have FQ16 : (nu16 0 = 3) := hq
  replace FW9 := (FW9.on bQ)
  replace Fg1s := (on9 Fg1s bQ)
  replace BB := BB.trans (bQ.mono BB.size)
  clear FS13 FT15 bQ
  obtain ⟨g3, egg3⟩ : ∃ z_ : Nat, X2_4.heap.size = z_ := ⟨_, rfl⟩
  refine rs_ 7 (fun a ee => ?_)
  refine stepV rfl rfl (execAllW rfl) ⟨.pointer (some ⟨g3, 0, none⟩), ⟨_, rfl, by subst egg3; rfl⟩, fun X2_5 hX => ?_⟩
  have bQ : Below X2_4.heap.size X2_4 X2_5 := by subst hX egg3; exact (belNew X2_4 _)
  have Fg3 : (X2_5.heap[g3]? = some (.cells (wC 0 (.slice none 0 0)) 24)) := by subst hX egg3; exact heapNew X2_4 _
  have FGg3 : (V.heap.size ≤ g3) := by subst hX egg3; exact (BB).size
  have FNg1g3 : (g1 ≠ g3) := by subst hX egg3; exact ne16 Fg1s
  replace FW9 := (FW9.on bQ)
  replace Fg1s := (on9 Fg1s bQ)
  replace FW16 := (FW16.on bQ)
  replace BB := BB.trans (bQ.mono BB.size)
  clear bQ hX egg3 ee a
  refine rs_ 8 (fun a ee => ?_)
  refine stepS rfl rfl (execStWn rfl (ee _) (ee _) Fg3 (slc_one (ownE_shp FW16.row))) ⟨_, ⟨_, rfl, rfl⟩, fun X2 hX => ?_⟩
  obtain ⟨BB, FW9, Fg1s, FW16, Fg3s⟩ : Below V.heap.size V X2 ∧ (NwE V.heap.size X2 ev9 1 nu9 tw9 ln9 tt9) ∧ (X2.heap[g1]? = some (.cells (wC 6 ev9) 24)) ∧ (NwE V.heap.size X2 ev16 3 nu16 tw16 ln16 tt16) ∧ (X2.heap[g3]? = some (.cells (wC 5 ev16) 24)) := by subst hX; exact ⟨below4 BB FGg3 _, (FW9).setW Fg3 (by decide) (by decide), (by rw [setRow_other _ _ _ _ FNg1g3]; exact Fg1s), (FW16).setW Fg3 (by decide) (by decide), setRow_heap _ _ _ _ _ _ Fg3⟩
  clear Fg3 hX ee a
  refine rf_ [(3, .pointer (some ⟨g3, 0, none⟩)), (4, .int .i64 ((0 : Nat) : Int))] (h2_ t1 t2) ?_
  rintro a A ⟨t3, t4, -⟩ ⟨t1, t2, -⟩
  clear FGg3 FNg1g3
  refine wp_seq ?_
  refine wi_ A (h4_ t1 t2 t3 t4) (rc_ 0 (some16 X2) fun e X3_1 hh => ?_)
  obtain ⟨⟨ev20, tw20, he, hk⟩, hb⟩ := hh
  refine ⟨_, he, ?_⟩
  have bQ : Below X2.heap.size X2 X3_1 := hb
  have FS20 : (Eps X3_1 ev20 2 sN tw20 sL sT) := hk
  replace FW9 := (FW9.on bQ)
  replace Fg1s := (on9 Fg1s bQ)
  replace FW16 := (FW16.on bQ)
  replace Fg3s := (on9 Fg3s bQ)
  replace BB := BB.trans (bQ.mono BB.size)
  clear bQ
  refine rc_ 1 (tag16 100 X3_1 (by decide)) (cb_ fun X3_2 bQ => ?_)
  replace FW9 := (FW9.on bQ)
  replace Fg1s := (on9 Fg1s bQ)
  replace FW16 := (FW16.on bQ)
  replace Fg3s := (on9 Fg3s bQ)
  replace FS20 := (FS20.on bQ)
  replace BB := BB.trans (bQ.mono BB.size)
  clear bQ
  refine rc_ 2 (tag16 101 X3_2 (by decide)) (cb_ fun X3_3 bQ => ?_)
  replace FW9 := (FW9.on bQ)
  replace Fg1s := (on9 Fg1s bQ)
  replace FW16 := (FW16.on bQ)
  replace Fg3s := (on9 Fg3s bQ)
  replace FS20 := (FS20.on bQ)
  replace BB := BB.trans (bQ.mono BB.size)
  clear bQ
  obtain ⟨g23, egg23⟩ : ∃ z_ : Nat, X3_3.heap.size = z_ := ⟨_, rfl⟩
  refine rs_ 3 (fun a ee => ?_)
  refine stepV rfl rfl (execBsT2 rfl (ee _) (ee _)) ⟨.slice (some ⟨g23, 0, none⟩) 2 2, ⟨_, rfl, by subst egg23; rfl⟩, fun X3_4 hX => ?_⟩
  have bQ : Below X3_3.heap.size X3_3 X3_4 := by subst hX egg23; exact (belNew X3_3 _)
  have FT23 : (Tgs X3_4 (.slice (some ⟨g23, 0, none⟩) 2 2) 2 (fun k => if k = 0 then (fun _ => 100) else (fun _ => 101))) := by subst hX egg23; exact two_tgs (heapNew X3_3 _) (fun _ _ => by decide) (fun _ _ => by decide)
  replace FW9 := (FW9.on bQ)
  replace Fg1s := (on9 Fg1s bQ)
  replace FW16 := (FW16.on bQ)
  replace Fg3s := (on9 Fg3s bQ)
  replace FS20 := (FS20.on bQ)
  replace BB := BB.trans (bQ.mono BB.size)
  clear bQ hX egg23 ee a
  refine rc_ 4 (al_3 I FS20 FT23) fun e X3_5 hh => ?_
  obtain ⟨⟨ev24, nu24, tw24, ln24, tt24, he, hk⟩, hb⟩ := hh
  refine ⟨_, he, ?_⟩
  have bQ : Below X3_4.heap.size X3_4 X3_5 := hb
  have FW24 : (NwE V.heap.size X3_5 ev24 0 nu24 tw24 ln24 tt24) := hk.base (BB).size
  replace FW9 := (FW9.on bQ)
  replace Fg1s := (on9 Fg1s bQ)
  replace FW16 := (FW16.on bQ)
  replace Fg3s := (on9 Fg3s bQ)
  replace BB := BB.trans (bQ.mono BB.size)
  clear FS20 FT23 bQ
  obtain ⟨g5, egg5⟩ : ∃ z_ : Nat, X3_5.heap.size = z_ := ⟨_, rfl⟩
  refine rs_ 8 (fun a ee => ?_)
  refine stepV rfl rfl (execAllW rfl) ⟨.pointer (some ⟨g5, 0, none⟩), ⟨_, rfl, by subst egg5; rfl⟩, fun X3_6 hX => ?_⟩
  have bQ : Below X3_5.heap.size X3_5 X3_6 := by subst hX egg5; exact (belNew X3_5 _)
  have Fg5 : (X3_6.heap[g5]? = some (.cells (wC 0 (.slice none 0 0)) 24)) := by subst hX egg5; exact heapNew X3_5 _
  have FGg5 : (V.heap.size ≤ g5) := by subst hX egg5; exact (BB).size
  have FNg1g5 : (g1 ≠ g5) := by subst hX egg5; exact ne16 Fg1s
  have FNg3g5 : (g3 ≠ g5) := by subst hX egg5; exact ne16 Fg3s
  replace FW9 := (FW9.on bQ)
  replace Fg1s := (on9 Fg1s bQ)
  replace FW16 := (FW16.on bQ)
  replace Fg3s := (on9 Fg3s bQ)
  replace FW24 := (FW24.on bQ)
  replace BB := BB.trans (bQ.mono BB.size)
  clear bQ hX egg5 ee a
  refine rs_ 9 (fun a ee => ?_)
  refine stepS rfl rfl (execStWn rfl (ee _) (ee _) Fg5 (slc_one (ownE_shp FW24.row))) ⟨_, ⟨_, rfl, rfl⟩, fun X3 hX => ?_⟩
  obtain ⟨BB, FW9, Fg1s, FW16, Fg3s, FW24, Fg5s⟩ : Below V.heap.size V X3 ∧ (NwE V.heap.size X3 ev9 1 nu9 tw9 ln9 tt9) ∧ (X3.heap[g1]? = some (.cells (wC 6 ev9) 24)) ∧ (NwE V.heap.size X3 ev16 3 nu16 tw16 ln16 tt16) ∧ (X3.heap[g3]? = some (.cells (wC 5 ev16) 24)) ∧ (NwE V.heap.size X3 ev24 0 nu24 tw24 ln24 tt24) ∧ (X3.heap[g5]? = some (.cells (wC 0 ev24) 24)) := by subst hX; exact ⟨below4 BB FGg5 _, (FW9).setW Fg5 (by decide) (by decide), (by rw [setRow_other _ _ _ _ FNg1g5]; exact Fg1s), (FW16).setW Fg5 (by decide) (by decide), (by rw [setRow_other _ _ _ _ FNg3g5]; exact Fg3s), (FW24).setW Fg5 (by decide) (by decide), setRow_heap _ _ _ _ _ _ Fg5⟩
  clear Fg5 hX ee a
  refine rf_ [(6, .int .i64 ((160 : Nat) : Int))] (h4_ t1 t2 t3 t4) ?_
  rintro a A ⟨t6, -⟩ ⟨t1, t2, t3, t4, -⟩
  clear FGg5 FNg1g5 FNg3g5 Fg5s FW24
  have hs9 := FW9.eps.shp
  have hs16 := FW16.eps.shp
  obtain ⟨eb, eo, ec, ee_, heb, hec⟩ := FW16.eps.at (by omega)
  have cN := (hec 0 (by omega)).1
  rw [FQ16] at cN
  refine wp_seq ?_
  refine wp_seq ?_
  refine wi_ A (h5_ t1 t2 t3 t4 t6) (rv_ 1 (.bool false) (fun a ee => execDec (execNeE (p := 0) (q := 0) rfl (ee _) rfl) (decide_eq_false (by omega))) (rv_ 4 (.bool false) (fun a ee => execDec (execNeE (p := 0) (q := 0) rfl (ee _) rfl) (decide_eq_false (by omega))) (rv_ 8 (.bool false) (fun a ee => execDec (execNeE (p := 160) (q := 160) rfl (ee _) rfl) (decide_eq_false (by omega))) (rv_ 11 (.pointer (some ⟨g1, 0, none⟩)) (fun a ee => execFldW0 rfl (ee _)) (rv_ 12 (.int .i64 6) (fun a ee => execLd2 rfl (ee _) (wC_0 Fg1s)) (rv_ 13 (.bool false) (fun a ee => execDec (exIneq2 (p := 6) (q := 6) rfl (ee _) rfl) (decide_eq_false (fun h_ => h_ rfl))) (rv_ 16 (.pointer (some ⟨g1, 1, none⟩)) (fun a ee => execFldW1 rfl (ee _)) (rv_ 17 (ev9) (fun a ee => execLdEs rfl (ee _) (wC_1 Fg1s)) (rv_ 18 (.int .i64 ((1 : Nat) : Int)) (fun a ee => execLenEs (len := 1) rfl (ee _) hs9) (rv_ 19 (.bool false) (fun a ee => execDec (execNeN (p := 1) (q := 1) rfl (ee _) rfl) (decide_eq_false (by omega))) (rv_ 22 (.pointer (some ⟨g3, 1, none⟩)) (fun a ee => execFldW1 rfl (ee _)) (rv_ 23 (ev16) (fun a ee => execLdEs rfl (ee _) (wC_1 Fg3s)) (rv_ 24 (.int .i64 ((3 : Nat) : Int)) (fun a ee => execLenEs (len := 3) rfl (ee _) hs16) (rv_ 25 (.bool false) (fun a ee => execDec (execNeN (p := 3) (q := 3) rfl (ee _) rfl) (decide_eq_false (by omega))) (rv_ 28 (.pointer (some ⟨g3, 1, none⟩)) (fun a ee => execFldW1 rfl (ee _)) (rv_ 29 (ev16) (fun a ee => execLdEs rfl (ee _) (wC_1 Fg3s)) (rv_ 30 (.pointer (some ⟨eb, eo + 0 * 2, none⟩)) (fun a ee => execIdxEs (k := 0) rfl ((ee _).trans ee_) rfl (by omega)) (rv_ 31 (.pointer (some ⟨eb, eo + 0 * 2 + 0, none⟩)) (fun a ee => execFldE0 rfl (ee _)) (rv_ 32 (.int .i64 3) (fun a ee => execLd2 rfl (ee _) cN) (rv_ 33 (.bool false) (fun a ee => execDec (exIneq2 (p := 3) (q := 3) rfl (ee _) rfl) (decide_eq_false (fun h_ => h_ rfl))) (rg_ [(61, .bool false)] ?_)))))))))))))))))))))
  rintro a A ⟨t61, -⟩
  refine wp_cond_false t61 ?_
  refine wp_skip ?_
  clear t61
  clear FW9 FW16 Fg1s Fg3s FQ16
  refine wp_seq ?_
  refine wi_ A h0_ (rc_ 0 (some16 X3) fun e X6_1 hh => ?_)
  obtain ⟨⟨ev62, tw62, he, hk⟩, hb⟩ := hh
  refine ⟨_, he, ?_⟩
  have bQ : Below X3.heap.size X3 X6_1 := hb
  have FS62 : (Eps X6_1 ev62 2 sN tw62 sL sT) := hk
  replace BB := BB.trans (bQ.mono BB.size)
  clear bQ
  refine rc_ 1 (tag16 99 X6_1 (by decide)) (cb_ fun X6_2 bQ => ?_)
  replace FS62 := (FS62.on bQ)
  replace BB := BB.trans (bQ.mono BB.size)
  clear bQ
  refine rc_ 2 (al_4 I FS62) (cb_ fun X6_3 bQ => ?_)
  replace FS62 := (FS62.on bQ)
  replace BB := BB.trans (bQ.mono BB.size)
  clear bQ
  refine rc_ 4 (some16 X6_3) fun e X6_4 hh => ?_
  obtain ⟨⟨ev66, tw66, he, hk⟩, hb⟩ := hh
  refine ⟨_, he, ?_⟩
  have bQ : Below X6_3.heap.size X6_3 X6_4 := hb
  have FS66 : (Eps X6_4 ev66 2 sN tw66 sL sT) := hk
  replace FS62 := (FS62.on bQ)
  replace BB := BB.trans (bQ.mono BB.size)
  clear bQ
  refine rc_ 5 (tag16 100 X6_4 (by decide)) (cb_ fun X6_5 bQ => ?_)
  replace FS62 := (FS62.on bQ)
  replace FS66 := (FS66.on bQ)
  replace BB := BB.trans (bQ.mono BB.size)
  clear bQ
  refine rc_ 6 (al_5 I FS66) (cb_ fun X6_6 bQ => ?_)
  replace FS62 := (FS62.on bQ)
  replace FS66 := (FS66.on bQ)
  replace BB := BB.trans (bQ.mono BB.size)
  clear bQ
  refine rv_ 7 (.bool true) (fun a ee => execNot8 (b := false) rfl (ee _)) (rc_ 10 (some16 X6_6) fun e X6_7 hh => ?_)
  obtain ⟨⟨ev72, tw72, he, hk⟩, hb⟩ := hh
  refine ⟨_, he, ?_⟩
  have bQ : Below X6_6.heap.size X6_6 X6_7 := hb
  have FS72 : (Eps X6_7 ev72 2 sN tw72 sL sT) := hk
  replace FS62 := (FS62.on bQ)
  replace FS66 := (FS66.on bQ)
  replace BB := BB.trans (bQ.mono BB.size)
  clear bQ
  refine rc_ 11 (al_8 I FS72) (cb_ fun X6_8 bQ => ?_)
  replace FS62 := (FS62.on bQ)
  replace FS66 := (FS66.on bQ)
  replace FS72 := (FS72.on bQ)
  replace BB := BB.trans (bQ.mono BB.size)
  clear bQ
  refine rv_ 12 (.bool true) (fun a ee => execDec (execEqN (p := 3) (q := 3) rfl (ee _) rfl) (decide_eq_true rfl)) (rc_ 15 (some16 X6_8) fun e X6_9 hh => ?_)
  obtain ⟨⟨ev77, tw77, he, hk⟩, hb⟩ := hh
  refine ⟨_, he, ?_⟩
  have bQ : Below X6_8.heap.size X6_8 X6_9 := hb
  have FS77 : (Eps X6_9 ev77 2 sN tw77 sL sT) := hk
  replace FS62 := (FS62.on bQ)
  replace FS66 := (FS66.on bQ)
  replace FS72 := (FS72.on bQ)
  replace BB := BB.trans (bQ.mono BB.size)
  clear bQ
  refine rc_ 16 (al_6 I FS77) (cb_ fun X6_10 bQ => ?_)
  replace FS62 := (FS62.on bQ)
  replace FS66 := (FS66.on bQ)
  replace FS72 := (FS72.on bQ)
  replace FS77 := (FS77.on bQ)
  replace BB := BB.trans (bQ.mono BB.size)
  clear bQ
  refine rv_ 17 (.bool true) (fun a ee => execDec (execEqE (p := 2) (q := 2) rfl (ee _) rfl) (decide_eq_true rfl)) (rc_ 20 (some16 X6_10) fun e X6_11 hh => ?_)
  obtain ⟨⟨ev82, tw82, he, hk⟩, hb⟩ := hh
  refine ⟨_, he, ?_⟩
  have bQ : Below X6_10.heap.size X6_10 X6_11 := hb
  have FS82 : (Eps X6_11 ev82 2 sN tw82 sL sT) := hk
  replace FS62 := (FS62.on bQ)
  replace FS66 := (FS66.on bQ)
  replace FS72 := (FS72.on bQ)
  replace FS77 := (FS77.on bQ)
  replace BB := BB.trans (bQ.mono BB.size)
  clear bQ
  refine rc_ 21 (al_7 I FS82) (cb_ fun X6 bQ => ?_)
  replace FS62 := (FS62.on bQ)
  replace FS66 := (FS66.on bQ)
  replace FS72 := (FS72.on bQ)
  replace FS77 := (FS77.on bQ)
  replace FS82 := (FS82.on bQ)
  replace BB := BB.trans (bQ.mono BB.size)
  clear bQ
  refine rv_ 22 (.bool true) (fun a ee => execDec (execEqE (p := 0) (q := 0) rfl (ee _) rfl) (decide_eq_true rfl)) (rg_ [(0, .bool true)] ?_)
  rintro a A ⟨t0, -⟩
  refine wp_ret ?_
  refine bodyPost_ret (results_tmp rfl _ _ _) A.2 ⟨?_, BB⟩
  show Ending.returned (a.eval (.tmp 0)) = _
  rw [t0]
end Go.Proofs.Ytijibdapooalcab.Win
