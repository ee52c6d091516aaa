import Derived.Test.YtmjpneaccjlpkaaX9h
namespace Go.Proofs.Ytmjpneaccjlpkaa.Rif
open Go.RowKit Gf8 Aes By8 Cel Cf Tap Drw Prm Brd
/- Stage 13's RiffleNames. Written by tools/mkX9i.py. -/

theorem or_E (p : Nat → Nat) (L : Nat) (n ch : Int) (E : Nat) (pv : Value) (V : World) (FP : SliceN V pv L p) (hl : L ≤ 140737488351232) (hE : riE L n ch p = E) :
  Calls Try.prog 10 #[pv, .int .i64 n, .int .i64 ch] V fun e w' => ∃ r, e = .returned (.tuple #[r, .int .i64 ((E : Nat) : Int)]) ∧ Below V.heap.size V w' :=
 Calls.mono (porder p L n ch pv V FP hl) fun e w' ⟨r, g1, _, g3⟩ => ⟨r, by rw [hE] at g1; exact g1, g3⟩
theorem sh_E (p : Nat → Nat) (L m : Nat) (ch : Int) (E : Nat) (g : Nat → Int) (pv lv : Value) (V : World) (FP : SliceN V pv L p) (hl : L ≤ 140737488351232) (FI : SliceI V lv m g) (hE : riE L ((m : Nat) : Int) ch p = E) :
  Calls Try.prog 11 #[pv, .int .i64 ch, lv] V fun e w' => ∃ r, e = .returned (.tuple #[r, .int .i64 ((E : Nat) : Int)]) ∧ Below V.heap.size V w' :=
 Calls.mono (pshuffleI p L m ch g pv lv V FP hl FI) fun e w' ⟨r, g1, _, g3⟩ => ⟨r, by rw [hE] at g1; exact g1, g3⟩
theorem nm_no {p : Nat → Nat} {L : Nat} {n ch : Int} (h : ¬ inL n ch) : riE L n ch p = 2 := if_neg h
theorem nm_a : riE 1042 256 1 (fun _ => 0) = 0 := zero_ok (N := 256) (J := 1) (fun _ _ => rfl) (by omega) (by omega) (by omega) (by omega) (by decide) (fun t ht => by
 rw [show t = 0 by omega]
 decide)
theorem nm_c : riE 1042 3 64 (fun _ => 0) = 0 := zero_ok (N := 3) (J := 64) (fun _ _ => rfl) (by omega) (by omega) (by omega) (by omega) (by decide) (fun t ht => by
 have h1 : szF 3 64 t ≤ 1 := by
  unfold szF
  by_cases h : t < 3 % 64
  ·rw [if_pos h]; decide
  ·rw [if_neg h]; decide
 omega)
theorem nm_e : riE 17 0 1 (fun _ => 0) = 3 := by decide
set_option maxRecDepth 100000 in
theorem nm_f : riE 18 1 64 (fun _ => 0) = 0 := by decide
set_option maxRecDepth 100000 in
set_option maxHeartbeats 4000000 in
theorem names_any (V : World) :
  Calls Try.prog 3 #[] V fun e w' => e = .returned (.bool true) ∧ Below V.heap.size V w' := by
 go_enter Try.func3, Try.ntmps3
 refine wp_seq ?_
 refine wp_region_sqK 85 [(0, 0)] (fun i_ => match i_ with | 0 => .bool false | _ => undef) rfl (by kernel_rfl) (by decide) (by decide) ?_ ?_
 ·intro i_ hi_ a hf hv hn
  match i_, hi_ with
  | 0, _ => exact stepV rfl rfl (execAsgB rfl rfl) ⟨⟨_, rfl, rfl⟩, rfl⟩
  | k_ + 1, h_ => exact absurd h_ (by simp)
 intro a h1 h2 h3 h4
 have A : a.tmps.size = 85 ∧ a.defers = [] := ⟨h1, h2⟩
 have BW : Below V.heap.size V V := Below.refl _ _
 clear h1 h2 h3 h4
 refine wp_seq ?_
 refine wp_seq ?_
 refine wp_se (σ := Unit) 85 [1] [] (fun _ s X => Below V.heap.size V X) (fun s => fun i_ => match i_ with | 1 => .bool true | _ => undef) () A (by kernel_rfl) (fun _ => by kernel_rfl) rfl (Below.refl _ _) (And.intro ?_ trivial) ?_
 ·exact fun s a X ee hS => stepC rfl (wy rfl rfl rfl (ee (.tmp 16))) (execCall0 Try.func9 (by kernel_rfl) (by kernel_rfl) rfl ) (alive13 X) fun e w' hh => ⟨_, hh.1, s, ⟨_, rfl, rfl⟩, (hS).trans ((hh.2).mono (hS).size), ar⟩
 clear A
 rintro _ a X1 A ee (bX : Below V.heap.size V X1)
 have t19 : a.eval (.tmp 19) = .bool false := ee _
 have ZX1 := bX.size
 replace BW := BW.trans (bX.mono BW.size)
 clear bX
 clear ee
 refine wp_cond_false t19 ?_
 refine wp_skip ?_
 clear t19
 refine wp_seq ?_
 refine wp_se (σ := Nat) 85 [0] [0] (fun k_ s X => match k_ with | 0 => Below X1.heap.size X1 X | _ => Below X1.heap.size X1 X ∧ SliceN X (.slice (some ⟨s, 0, none⟩) 1042 1042) (1042) (fun _ => 0)) (fun s => fun i_ => match i_ with | 0 => .slice (some ⟨s, 0, none⟩) 1042 1042 | _ => undef) 0 A (by kernel_rfl) (fun _ => by kernel_rfl) rfl (Below.refl _ _) (And.intro ?_ trivial) ?_
 ·intro s a X ee hS
  refine stepV rfl rfl (execMk (l := 1042) (n := 1042) rfl rfl rfl (by omega) (by omega)) ⟨X.heap.size, ⟨_, rfl, rfl⟩, ⟨(hS).trans (((belNew X _)).mono (hS).size), own_slice (own_mkZB X 1042 1042 (fun _ => 0) (by omega) (by omega) (fun _ _ => rfl)) (fun _ _ => by omega)⟩, (And.intro (fun h => absurd h (by decide)) trivial)⟩
 clear A
 rintro g20 a X3 A ee (hS : Below X1.heap.size X1 X3 ∧ SliceN X3 (.slice (some ⟨g20, 0, none⟩) 1042 1042) (1042) (fun _ => 0))
 obtain ⟨bX, FL⟩ := hS
 have t1 : a.eval (.tmp 1) = .slice (some ⟨g20, 0, none⟩) 1042 1042 := ee _
 have ZX3 := bX.size
 replace BW := BW.trans (bX.mono BW.size)
 clear bX
 clear ee
 refine wp_seq ?_
 refine wp_se (σ := Value) 85 [1] [] (fun _ s X => Below X3.heap.size X3 X) (fun s => fun i_ => match i_ with | 1 => .tuple #[s, .int .i64 ((0 : Nat) : Int)] | _ => undef) undef A (by kernel_rfl) (fun _ => by kernel_rfl) rfl (Below.refl _ _) (And.intro ?_ trivial) ?_
 ·intro s a X ee hS
  refine stepC rfl rfl (execCall3 Try.func10 (by kernel_rfl) (by kernel_rfl) rfl ((ee (.tmp 22)).trans t1) rfl rfl) (or_E (fun _ => 0) 1042 256 1 0 _ X (FL.on hS) (by omega) nm_a) fun e w' hh => ?_
  obtain ⟨r_, he, hb⟩ := hh
  refine ⟨_, he, r_, ⟨_, rfl, rfl⟩, (hS).trans ((hb).mono (hS).size), (And.intro (fun h => absurd h (by decide)) trivial)⟩
 clear A
 rintro o23 a X4 A ee (bX : Below X3.heap.size X3 X4)
 have t3 : a.eval (.tmp 3) = .int .i64 ((0 : Nat) : Int) := ee _
 replace t1 := kt ee t1
 replace FL := (FL.on bX)
 have ZX4 := bX.size
 replace BW := BW.trans (bX.mono BW.size)
 clear bX
 clear ee
 refine wp_seq ?_
 refine wp_se (σ := Value) 85 [1] [] (fun _ s X => Below X4.heap.size X4 X) (fun s => fun i_ => match i_ with | 1 => .tuple #[s, .int .i64 ((2 : Nat) : Int)] | _ => undef) undef A (by kernel_rfl) (fun _ => by kernel_rfl) rfl (Below.refl _ _) (And.intro ?_ trivial) ?_
 ·intro s a X ee hS
  refine stepC rfl rfl (execCall3 Try.func10 (by kernel_rfl) (by kernel_rfl) rfl ((ee (.tmp 27)).trans t1) rfl rfl) (or_E (fun _ => 0) 1042 257 1 2 _ X (FL.on hS) (by omega) (nm_no (by decide))) fun e w' hh => ?_
  obtain ⟨r_, he, hb⟩ := hh
  refine ⟨_, he, r_, ⟨_, rfl, rfl⟩, (hS).trans ((hb).mono (hS).size), (And.intro (fun h => absurd h (by decide)) trivial)⟩
 clear A
 rintro o28 a X5 A ee (bX : Below X4.heap.size X4 X5)
 have t5 : a.eval (.tmp 5) = .int .i64 ((2 : Nat) : Int) := ee _
 replace t1 := kt ee t1
 replace t3 := kt ee t3
 replace FL := (FL.on bX)
 have ZX5 := bX.size
 replace BW := BW.trans (bX.mono BW.size)
 clear bX
 clear ee
 refine wp_seq ?_
 refine wp_se (σ := Value) 85 [1] [] (fun _ s X => Below X5.heap.size X5 X) (fun s => fun i_ => match i_ with | 1 => .tuple #[s, .int .i64 ((0 : Nat) : Int)] | _ => undef) undef A (by kernel_rfl) (fun _ => by kernel_rfl) rfl (Below.refl _ _) (And.intro ?_ trivial) ?_
 ·intro s a X ee hS
  refine stepC rfl rfl (execCall3 Try.func10 (by kernel_rfl) (by kernel_rfl) rfl ((ee (.tmp 32)).trans t1) rfl rfl) (or_E (fun _ => 0) 1042 3 64 0 _ X (FL.on hS) (by omega) nm_c) fun e w' hh => ?_
  obtain ⟨r_, he, hb⟩ := hh
  refine ⟨_, he, r_, ⟨_, rfl, rfl⟩, (hS).trans ((hb).mono (hS).size), (And.intro (fun h => absurd h (by decide)) trivial)⟩
 clear A
 rintro o33 a X6 A ee (bX : Below X5.heap.size X5 X6)
 have t7 : a.eval (.tmp 7) = .int .i64 ((0 : Nat) : Int) := ee _
 replace t1 := kt ee t1
 replace t3 := kt ee t3
 replace t5 := kt ee t5
 replace FL := (FL.on bX)
 have ZX6 := bX.size
 replace BW := BW.trans (bX.mono BW.size)
 clear bX
 clear ee
 refine wp_seq ?_
 refine wp_se (σ := Value) 85 [1] [] (fun _ s X => Below X6.heap.size X6 X) (fun s => fun i_ => match i_ with | 1 => .tuple #[s, .int .i64 ((2 : Nat) : Int)] | _ => undef) undef A (by kernel_rfl) (fun _ => by kernel_rfl) rfl (Below.refl _ _) (And.intro ?_ trivial) ?_
 ·intro s a X ee hS
  refine stepC rfl rfl (execCall3 Try.func10 (by kernel_rfl) (by kernel_rfl) rfl ((ee (.tmp 37)).trans t1) rfl rfl) (or_E (fun _ => 0) 1042 3 65 2 _ X (FL.on hS) (by omega) (nm_no (by decide))) fun e w' hh => ?_
  obtain ⟨r_, he, hb⟩ := hh
  refine ⟨_, he, r_, ⟨_, rfl, rfl⟩, (hS).trans ((hb).mono (hS).size), (And.intro (fun h => absurd h (by decide)) trivial)⟩
 clear A
 rintro o38 a X7 A ee (bX : Below X6.heap.size X6 X7)
 have t9 : a.eval (.tmp 9) = .int .i64 ((2 : Nat) : Int) := ee _
 replace t1 := kt ee t1
 replace t3 := kt ee t3
 replace t5 := kt ee t5
 replace t7 := kt ee t7
 replace FL := (FL.on bX)
 have ZX7 := bX.size
 replace BW := BW.trans (bX.mono BW.size)
 clear bX
 clear ee
 refine wp_seq ?_
 refine wp_se (σ := Value) 85 [1, 2] [] (fun _ s X => Below X7.heap.size X7 X) (fun s => fun i_ => match i_ with | 1 => .slice (some ⟨g20, 0, none⟩) 17 1042 | 2 => .tuple #[s, .int .i64 ((3 : Nat) : Int)] | _ => undef) undef A (by kernel_rfl) (fun _ => by kernel_rfl) rfl (Below.refl _ _) (And.intro ?_ (And.intro ?_ trivial)) ?_
 ·exact fun s a X ee hS => stepV rfl rfl (By8.execSlH rfl ((ee (.tmp 42)).trans t1) rfl (sl_h8 g20 1042 1042 17 (by omega) X)) ⟨s, ⟨_, rfl, rfl⟩, hS, ar⟩
 ·intro s a X ee hS
  refine stepC rfl rfl (execCall3 Try.func10 (by kernel_rfl) (by kernel_rfl) rfl (ee (.tmp 43)) rfl rfl) (or_E (fun _ => 0) 17 0 1 3 _ X (takeN (FL.on hS) (by omega)) (by omega) nm_e) fun e w' hh => ?_
  obtain ⟨r_, he, hb⟩ := hh
  refine ⟨_, he, r_, ⟨_, rfl, rfl⟩, (hS).trans ((hb).mono (hS).size), (And.intro (fun _ => rfl) (And.intro (fun h => absurd h (by decide)) trivial))⟩
 clear A
 rintro o44 a X8 A ee (bX : Below X7.heap.size X7 X8)
 have t11 : a.eval (.tmp 11) = .int .i64 ((3 : Nat) : Int) := ee _
 replace t1 := kt ee t1
 replace t3 := kt ee t3
 replace t5 := kt ee t5
 replace t7 := kt ee t7
 replace t9 := kt ee t9
 replace FL := (FL.on bX)
 have ZX8 := bX.size
 replace BW := BW.trans (bX.mono BW.size)
 clear bX
 clear ee
 refine wp_seq ?_
 refine wp_se (σ := Value) 85 [1, 2] [] (fun _ s X => Below X8.heap.size X8 X) (fun s => fun i_ => match i_ with | 1 => .slice (some ⟨g20, 0, none⟩) 18 1042 | 2 => .tuple #[s, .int .i64 ((0 : Nat) : Int)] | _ => undef) undef A (by kernel_rfl) (fun _ => by kernel_rfl) rfl (Below.refl _ _) (And.intro ?_ (And.intro ?_ trivial)) ?_
 ·exact fun s a X ee hS => stepV rfl rfl (By8.execSlH rfl ((ee (.tmp 48)).trans t1) rfl (sl_h8 g20 1042 1042 18 (by omega) X)) ⟨s, ⟨_, rfl, rfl⟩, hS, ar⟩
 ·intro s a X ee hS
  refine stepC rfl rfl (execCall3 Try.func10 (by kernel_rfl) (by kernel_rfl) rfl (ee (.tmp 49)) rfl rfl) (or_E (fun _ => 0) 18 1 64 0 _ X (takeN (FL.on hS) (by omega)) (by omega) nm_f) fun e w' hh => ?_
  obtain ⟨r_, he, hb⟩ := hh
  refine ⟨_, he, r_, ⟨_, rfl, rfl⟩, (hS).trans ((hb).mono (hS).size), (And.intro (fun _ => rfl) (And.intro (fun h => absurd h (by decide)) trivial))⟩
 clear A
 rintro o50 a X9 A ee (bX : Below X8.heap.size X8 X9)
 have t13 : a.eval (.tmp 13) = .int .i64 ((0 : Nat) : Int) := ee _
 replace t1 := kt ee t1
 replace t3 := kt ee t3
 replace t5 := kt ee t5
 replace t7 := kt ee t7
 replace t9 := kt ee t9
 replace t11 := kt ee t11
 replace FL := (FL.on bX)
 have ZX9 := bX.size
 replace BW := BW.trans (bX.mono BW.size)
 clear bX
 clear ee
 refine wp_seq ?_
 refine wp_se (σ := Nat × Value) 85 [1, 2] [1] (fun k_ s X => match k_ with | 0 => Below X9.heap.size X9 X | _ => Below X9.heap.size X9 X ∧ (SliceI X (.slice (some ⟨s.1, 0, none⟩) 257 257) (257) (fun _ => 0))) (fun s => fun i_ => match i_ with | 1 => .slice (some ⟨s.1, 0, none⟩) 257 257 | 2 => .tuple #[s.2, .int .i64 ((2 : Nat) : Int)] | _ => undef) (0, undef) A (by kernel_rfl) (fun _ => by kernel_rfl) rfl (Below.refl _ _) (And.intro ?_ (And.intro ?_ trivial)) ?_
 ·intro s a X ee hS
  refine stepV rfl rfl (execMkN (n := 257) rfl rfl rfl (by omega)) ⟨(X.heap.size, s.2), ⟨_, rfl, rfl⟩, ⟨(hS).trans (((belNew X _)).mono (hS).size), own_ints (own_mkZ X 257 (fun _ => 0) (by omega) (fun _ _ => rfl)) (fun _ _ => by omega)⟩, (And.intro (fun h => absurd h (by decide)) (And.intro (fun h => absurd h (by decide)) trivial))⟩
 ·intro s a X ee hS
  refine stepC rfl rfl (execCall3 Try.func11 (by kernel_rfl) (by kernel_rfl) rfl ((ee (.tmp 54)).trans t1) rfl (ee (.tmp 55))) (sh_E (fun _ => 0) 1042 257 1 2 (fun _ => 0) _ _ X (FL.on hS.1) (by omega) hS.2 (nm_no (by decide))) fun e w' hh => ?_
  obtain ⟨r_, he, hb⟩ := hh
  refine ⟨_, he, (s.1, r_), ⟨_, rfl, rfl⟩, ⟨(hS.1).trans ((hb).mono (hS.1).size), (hS.2.on hb)⟩, (And.intro (fun _ => rfl) (And.intro (fun h => absurd h (by decide)) trivial))⟩
 clear A
 rintro ⟨g55, s56⟩ a X10 A ee (hS : Below X9.heap.size X9 X10 ∧ (SliceI X10 (.slice (some ⟨g55, 0, none⟩) 257 257) (257) (fun _ => 0)))
 obtain ⟨bX, F55⟩ := hS
 have t15 : a.eval (.tmp 15) = .int .i64 ((2 : Nat) : Int) := ee _
 replace t1 := kt ee t1
 replace t3 := kt ee t3
 replace t5 := kt ee t5
 replace t7 := kt ee t7
 replace t9 := kt ee t9
 replace t11 := kt ee t11
 replace t13 := kt ee t13
 replace FL := (FL.on bX)
 have ZX10 := bX.size
 replace BW := BW.trans (bX.mono BW.size)
 clear bX
 clear ee
 refine wp_seq ?_
 refine wp_se (σ := Unit) 85 [1, 4, 8, 12, 16, 20, 24] [] (fun _ s X => Below X10.heap.size X10 X) (fun s => fun i_ => match i_ with | 1 => .bool true | 4 => .bool true | 8 => .bool true | 12 => .bool true | 16 => .bool true | 20 => .bool true | 24 => .bool true | _ => undef) () A (by kernel_rfl) (fun _ => by kernel_rfl) rfl (Below.refl _ _) (And.intro ?_ (And.intro ?_ (And.intro ?_ (And.intro ?_ (And.intro ?_ (And.intro ?_ (And.intro ?_ trivial))))))) ?_
 ·exact fun s a X ee hS => stepV rfl rfl (execDec (execEqE (p := 0) (q := 0) rfl ((ee (.tmp 59)).trans t3) rfl) (decide_eq_true (by decide))) ⟨s, ⟨_, rfl, rfl⟩, hS, ar⟩
 ·exact fun s a X ee hS => stepV rfl (wy rfl rfl rfl (ee (.tmp 61))) (execDec (execEqE (p := 2) (q := 2) rfl ((ee (.tmp 62)).trans t5) rfl) (decide_eq_true (by decide))) ⟨s, ⟨_, rfl, rfl⟩, hS, ar⟩
 ·exact fun s a X ee hS => stepV rfl (wy rfl rfl rfl (ee (.tmp 65))) (execDec (execEqE (p := 0) (q := 0) rfl ((ee (.tmp 66)).trans t7) rfl) (decide_eq_true (by decide))) ⟨s, ⟨_, rfl, rfl⟩, hS, ar⟩
 ·exact fun s a X ee hS => stepV rfl (wy rfl rfl rfl (ee (.tmp 69))) (execDec (execEqE (p := 2) (q := 2) rfl ((ee (.tmp 70)).trans t9) rfl) (decide_eq_true (by decide))) ⟨s, ⟨_, rfl, rfl⟩, hS, ar⟩
 ·exact fun s a X ee hS => stepV rfl (wy rfl rfl rfl (ee (.tmp 73))) (execDec (execEqE (p := 3) (q := 3) rfl ((ee (.tmp 74)).trans t11) rfl) (decide_eq_true (by decide))) ⟨s, ⟨_, rfl, rfl⟩, hS, ar⟩
 ·exact fun s a X ee hS => stepV rfl (wy rfl rfl rfl (ee (.tmp 77))) (execDec (execEqE (p := 0) (q := 0) rfl ((ee (.tmp 78)).trans t13) rfl) (decide_eq_true (by decide))) ⟨s, ⟨_, rfl, rfl⟩, hS, ar⟩
 ·exact fun s a X ee hS => stepV rfl (wy rfl rfl rfl (ee (.tmp 81))) (execDec (execEqE (p := 2) (q := 2) rfl ((ee (.tmp 82)).trans t15) rfl) (decide_eq_true (by decide))) ⟨s, ⟨_, rfl, rfl⟩, hS, ar⟩
 clear A
 rintro _ a X11 A ee (bX : Below X10.heap.size X10 X11)
 have t0 : a.eval (.tmp 0) = .bool true := ee _
 replace FL := (FL.on bX)
 replace F55 := (F55.on bX)
 have ZX11 := bX.size
 replace BW := BW.trans (bX.mono BW.size)
 clear bX
 clear ee t1 t3 t5 t7 t9 t11 t13 t15
 refine wp_ret ?_
 repeat (first | with_reducible refine ret_in ?_ | with_reducible refine ret_then ?_)
 refine bodyPost_ret (results_tmp rfl _ _ _) A.2 ⟨?_, BW⟩
 show Ending.returned (a.eval (.tmp 0)) = _
 rw [t0]
end Go.Proofs.Ytmjpneaccjlpkaa.Rif
