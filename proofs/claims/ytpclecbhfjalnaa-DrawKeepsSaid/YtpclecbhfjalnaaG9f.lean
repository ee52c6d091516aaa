import Derived.Test.YtpclecbhfjalnaaG9e
namespace Go.Proofs.Ytpclecbhfjalnaa.Drw
open Go.RowKit Gf8 Aes By8 Cel Cf Tap
/- The reference's All. Written by tools/mkG9f.py. -/

theorem okA_succ {p : Nat → Nat} {l : Nat} {bs : Nat → Int} {n : Nat} (h : okA p l bs n) (e : dE p l (plA p l bs n) (bs n) = 0) : okA p l bs (n + 1) := fun i hi => by
  by_cases q : i = n
  · subst q; exact e
  · exact h i (by omega)
theorem ownD_below {W W' : World} {B n : Nat} {v : Value} {xs : List Value} {t : TypeId} {s : Nat} (h : W.ownsRow B t s v n xs) (hb : Below W.heap.size W W') : W'.ownsRow B t s v n xs := by
  refine ⟨h.1, ?_⟩
  rcases h.2 with h | ⟨g, cap, cur, e, hB, hg, hr⟩
  · exact Or.inl h
  · exact Or.inr ⟨g, cap, cur, e, hB, on9 hg hb, hr⟩
theorem ownD_base {W : World} {B C t s n : Nat} {v : Value} {xs : List Value} (h : W.ownsRow C t s v n xs) (hB : B ≤ C) : W.ownsRow B t s v n xs := by
  refine ⟨h.1, ?_⟩
  rcases h.2 with h | ⟨g, cap, cur, e, hC, h1⟩
  · exact Or.inl h
  · exact Or.inr ⟨g, cap, cur, e, Nat.le_trans hB hC, h1⟩
set_option maxRecDepth 100000 in
set_option maxHeartbeats 4000000 in
/-- The reference's All. -/
theorem rall_any (p : Nat → Nat) (l : Nat) (bs : Nat → Int) (n : Nat) (pv bv : Value) (V : World) (hp : SliceN V pv l p) (hl : l ≤ 140737488351232) (hb : SliceI V bv n bs) (hn17 : n ≤ 17592186044416) :
    Calls Try.prog 16 #[pv, bv] V fun e w' => ∃ r, e = .returned (.tuple #[r, .int .i64 ((allK p l bs n : Nat) : Int), .int .i64 ((allE p l bs n : Nat) : Int)]) ∧ w'.ownsRow V.heap.size 3 1 r (allN p l bs n) (intsL (allN p l bs n) (fun i => (dA p l bs i : Int))) ∧ Below V.heap.size V w' := by
  obtain ⟨ia, ic, rfl, -, -, hsh⟩ := id hb.shape
  have FI := hb
  go_enter Try.func16, Try.ntmps16
  refine wp_seq ?_
  refine wp_region_sqK 45 [(0, 4), (1, 5), (2, 6)] (fun i_ => match i_ with | 0 => .slice none 0 0 | 1 => .int .i64 ((0 : Nat) : Int) | 2 => .int .i64 ((0 : Nat) : Int) | _ => undef) rfl (by kernel_rfl) (by decide) (by decide) ?_ ?_
  · intro i_ hi_ a hf hv hn
    match i_, hi_ with
    | 0, _ => exact stepV rfl rfl (execAsgB rfl rfl) ⟨⟨_, rfl, rfl⟩, rfl⟩
    | 1, _ => exact stepV rfl rfl (execAsgB rfl rfl) ⟨⟨_, rfl, rfl⟩, rfl⟩
    | 2, _ => exact stepV rfl rfl (execAsgB rfl rfl) ⟨⟨_, rfl, rfl⟩, rfl⟩
    | k_ + 3, h_ => exact absurd h_ (by simp)
  intro a h1 h2 h3 h4
  have t0 : a.eval (.tmp 0) = pv := (h3 0 (by decide)).trans rfl
  have t1 : a.eval (.tmp 1) = .slice ia n ic := (h3 1 (by decide)).trans rfl
  have A : a.tmps.size = 45 ∧ a.defers = [] := ⟨h1, h2⟩
  have BW : Below V.heap.size V V := Below.refl _ _
  clear h1 h2 h3 h4
  have BB := BW
  refine wp_seq ?_
  refine wp_seq ?_
  refine wp_region_sq (σ := Unit) 45 [(0, 13), (1, 14)] (fun j_ s X => match j_ with | 0 => Below V.heap.size V X | 1 => Below V.heap.size V X | _ => Below V.heap.size V X) (fun s => fun i_ => match i_ with | 0 => .slice ia n ic | 1 => .bool (anyB bs n) | _ => undef) () A.1 (by kernel_rfl) (by decide) (by decide) (BB) ?_ ?_
  · intro i_ hi_ s a X hf hv hn hS
    match i_, hi_ with
    | 0, _ => exact stepV rfl rfl (execMvB rfl ((hf 1 (by decide)).trans t1)) ⟨s, ⟨_, rfl, rfl⟩, hS, fun _ _ => rfl⟩
    | 1, _ => exact stepC rfl rfl (execCall1 Try.func24 (by kernel_rfl) (by kernel_rfl) rfl (hv 0 (by omega) _ rfl _ rfl)) (wrong_any bs n _ X (FI.on hS) hn17) fun e w' hh => ⟨_, hh.1, s, ⟨_, rfl, rfl⟩, (hS).trans ((hh.2).mono (hS).size), fun _ _ => rfl⟩
    | k_ + 2, h_ => exact absurd h_ (by simp)
  rintro _ a X1 h1 h2 h3 h4 hS
  clear BB
  replace hS : Below V.heap.size V X1 := hS
  have BB := hS
  clear hS
  replace t0 := (h3 0 (by decide)).trans t0
  replace t1 := (h3 1 (by decide)).trans t1
  have t14 : a.eval (.tmp 14) = .bool (anyB bs n) := h4 1 _ rfl _ rfl
  replace A := (⟨h1, h2.trans A.2⟩ : a.tmps.size = 45 ∧ a.defers = [])
  clear h1 h2 h3 h4
  by_cases hw : anyB bs n = true
  · rw [hw] at t14
    refine wp_cond_true t14 ?_
    refine wp_seq ?_
    refine wp_region_sq (σ := Unit) 45 [(0, 4), (1, 5), (2, 6)] (fun j_ s X => match j_ with | 0 => Below V.heap.size V X | 1 => Below V.heap.size V X | 2 => Below V.heap.size V X | _ => Below V.heap.size V X) (fun s => fun i_ => match i_ with | 0 => .slice none 0 0 | 1 => .int .i64 ((0 : Nat) : Int) | 2 => .int .i64 ((2 : Nat) : Int) | _ => undef) () A.1 (by kernel_rfl) (by decide) (by decide) (BB) ?_ ?_
    · intro i_ hi_ s a X hf hv hn hS
      match i_, hi_ with
      | 0, _ => exact stepV rfl rfl (execAsgB rfl rfl) ⟨s, ⟨_, rfl, rfl⟩, hS, fun _ _ => rfl⟩
      | 1, _ => exact stepV rfl rfl (execAsgB rfl rfl) ⟨s, ⟨_, rfl, rfl⟩, hS, fun _ _ => rfl⟩
      | 2, _ => exact stepV rfl rfl (execAsgB rfl rfl) ⟨s, ⟨_, rfl, rfl⟩, hS, fun _ _ => rfl⟩
      | k_ + 3, h_ => exact absurd h_ (by simp)
    rintro _ a X2 h1 h2 h3 h4 hS
    clear BB
    replace hS : Below V.heap.size V X2 := hS
    have BB := hS
    clear hS
    have t4 : a.eval (.tmp 4) = .slice none 0 0 := h4 0 _ rfl _ rfl
    have t5 : a.eval (.tmp 5) = .int .i64 ((0 : Nat) : Int) := h4 1 _ rfl _ rfl
    have t6 : a.eval (.tmp 6) = .int .i64 ((2 : Nat) : Int) := h4 2 _ rfl _ rfl
    replace A := (⟨h1, h2.trans A.2⟩ : a.tmps.size = 45 ∧ a.defers = [])
    clear h1 h2 h3 h4
    clear t0 t1
    have hE : allE p l bs n = 2 := by unfold allE; rw [if_pos hw]
    have hN : allN p l bs n = 0 := by unfold allN; rw [if_neg (by rw [hE]; decide)]
    have hK : allK p l bs n = 0 := by unfold allK; rw [if_neg (by rw [hE]; decide)]
    rw [hE, hN, hK]
    refine wp_ret ?_
    repeat (first | refine ret_in ?_ | refine ret_then ?_)
    refine bodyPost_ret (results_tmp3 rfl _ _ _) A.2 ⟨_, ?_, World.ownsRow_nil _ _ _ _, BB⟩
    show Ending.returned (.tuple #[a.eval (.tmp 4), a.eval (.tmp 5), a.eval (.tmp 6)]) = _
    rw [t4, t5, t6]
  · rw [Bool.eq_false_iff.2 hw] at t14
    refine wp_cond_false t14 ?_
    refine wp_skip ?_
    clear t14
    have hno := anyB_no (Bool.eq_false_iff.2 hw)
    refine wp_seq ?_
    refine wp_region_sq (σ := Nat) 45 [(0, 15), (1, 16), (2, 17), (3, 7)] (fun j_ s X => match j_ with | 0 => Below V.heap.size V X | 1 => Below V.heap.size V X | 2 => Below V.heap.size V X | 3 => Below V.heap.size V X ∧ (X.ownsRow V.heap.size 3 1 (.slice (some ⟨s, 0, none⟩) 0 n) 0 (intsL 0 (fun i => (dA p l bs i : Int)))) | _ => Below V.heap.size V X ∧ (X.ownsRow V.heap.size 3 1 (.slice (some ⟨s, 0, none⟩) 0 n) 0 (intsL 0 (fun i => (dA p l bs i : Int))))) (fun s => fun i_ => match i_ with | 0 => .slice ia n ic | 1 => .int .i64 ((n : Nat) : Int) | 2 => .slice (some ⟨s, 0, none⟩) 0 n | 3 => .slice (some ⟨s, 0, none⟩) 0 n | _ => undef) 0 A.1 (by kernel_rfl) (by decide) (by decide) (BB) ?_ ?_
    · intro i_ hi_ s a X hf hv hn hS
      match i_, hi_ with
      | 0, _ => exact stepV rfl rfl (execMvB rfl ((hf 1 (by decide)).trans t1)) ⟨s, ⟨_, rfl, rfl⟩, hS, fun _ _ => rfl⟩
      | 1, _ => exact stepV rfl rfl (execLenI (len := n) rfl (hv 0 (by omega) _ rfl _ rfl) ((FI.on hS)).shp) ⟨s, ⟨_, rfl, rfl⟩, hS, fun _ _ => rfl⟩
      | 2, _ =>
        refine stepV rfl rfl (execMkI rfl (hv 1 (by omega) _ rfl _ rfl) hn17) ⟨X.heap.size, ⟨_, rfl, rfl⟩, ⟨(hS).trans (((belNew X _)).mono (hS).size), ownD_base (own_mkI X n _ hn17) (hS).size⟩, fun i hi => ?_⟩
        match i, hi with
        | 0, _ => rfl
        | 1, _ => rfl
        | n_ + 2, h_ => omega
      | 3, _ => exact stepV rfl rfl (execAsgB rfl (hv 2 (by omega) _ rfl _ rfl)) ⟨s, ⟨_, rfl, rfl⟩, hS, fun _ _ => rfl⟩
      | k_ + 4, h_ => exact absurd h_ (by simp)
    rintro g7 a X3 h1 h2 h3 h4 hS
    clear BB
    replace hS : Below V.heap.size V X3 ∧ (X3.ownsRow V.heap.size 3 1 (.slice (some ⟨g7, 0, none⟩) 0 n) 0 (intsL 0 (fun i => (dA p l bs i : Int)))) := hS
    obtain ⟨BB, FO⟩ := hS
    replace t0 := (h3 0 (by decide)).trans t0
    replace t1 := (h3 1 (by decide)).trans t1
    have t7 : a.eval (.tmp 7) = .slice (some ⟨g7, 0, none⟩) 0 n := h4 3 _ rfl _ rfl
    replace A := (⟨h1, h2.trans A.2⟩ : a.tmps.size = 45 ∧ a.defers = [])
    clear h1 h2 h3 h4
    refine wp_seq ?_
    refine wp_region_sq (σ := Unit) 45 [(0, 8)] (fun j_ s X => match j_ with | 0 => Below V.heap.size V X ∧ (X.ownsRow V.heap.size 3 1 (.slice (some ⟨g7, 0, none⟩) 0 n) 0 (intsL 0 (fun i => (dA p l bs i : Int)))) | _ => Below V.heap.size V X ∧ (X.ownsRow V.heap.size 3 1 (.slice (some ⟨g7, 0, none⟩) 0 n) 0 (intsL 0 (fun i => (dA p l bs i : Int))))) (fun s => fun i_ => match i_ with | 0 => .int .i64 ((0 : Nat) : Int) | _ => undef) () A.1 (by kernel_rfl) (by decide) (by decide) ⟨BB, FO⟩ ?_ ?_
    · intro i_ hi_ s a X hf hv hn hS
      match i_, hi_ with
      | 0, _ => exact stepV rfl rfl (execAsgB rfl rfl) ⟨s, ⟨_, rfl, rfl⟩, hS, fun _ _ => rfl⟩
      | k_ + 1, h_ => exact absurd h_ (by simp)
    rintro _ a X4 h1 h2 h3 h4 hS
    clear BB
    clear FO
    replace hS : Below V.heap.size V X4 ∧ (X4.ownsRow V.heap.size 3 1 (.slice (some ⟨g7, 0, none⟩) 0 n) 0 (intsL 0 (fun i => (dA p l bs i : Int)))) := hS
    obtain ⟨BB, FO⟩ := hS
    replace t0 := (h3 0 (by decide)).trans t0
    replace t1 := (h3 1 (by decide)).trans t1
    replace t7 := (h3 7 (by decide)).trans t7
    have t8 : a.eval (.tmp 8) = .int .i64 ((0 : Nat) : Int) := h4 0 _ rfl _ rfl
    replace A := (⟨h1, h2.trans A.2⟩ : a.tmps.size = 45 ∧ a.defers = [])
    clear h1 h2 h3 h4
    refine wp_seq ?_
    refine wp_seq ?_
    refine wp_region_sq (σ := Unit) 45 [(0, 9)] (fun j_ s X => match j_ with | 0 => Below V.heap.size V X ∧ (X.ownsRow V.heap.size 3 1 (.slice (some ⟨g7, 0, none⟩) 0 n) 0 (intsL 0 (fun i => (dA p l bs i : Int)))) | _ => Below V.heap.size V X ∧ (X.ownsRow V.heap.size 3 1 (.slice (some ⟨g7, 0, none⟩) 0 n) 0 (intsL 0 (fun i => (dA p l bs i : Int))))) (fun s => fun i_ => match i_ with | 0 => .int .i64 ((0 : Nat) : Int) | _ => undef) () A.1 (by kernel_rfl) (by decide) (by decide) ⟨BB, FO⟩ ?_ ?_
    · intro i_ hi_ s a X hf hv hn hS
      match i_, hi_ with
      | 0, _ => exact stepV rfl rfl (execAsgB rfl rfl) ⟨s, ⟨_, rfl, rfl⟩, hS, fun _ _ => rfl⟩
      | k_ + 1, h_ => exact absurd h_ (by simp)
    rintro _ a X5 h1 h2 h3 h4 hS
    clear BB
    clear FO
    replace hS : Below V.heap.size V X5 ∧ (X5.ownsRow V.heap.size 3 1 (.slice (some ⟨g7, 0, none⟩) 0 n) 0 (intsL 0 (fun i => (dA p l bs i : Int)))) := hS
    obtain ⟨BB, FO⟩ := hS
    replace t0 := (h3 0 (by decide)).trans t0
    replace t1 := (h3 1 (by decide)).trans t1
    replace t7 := (h3 7 (by decide)).trans t7
    replace t8 := (h3 8 (by decide)).trans t8
    have t9 : a.eval (.tmp 9) = .int .i64 ((0 : Nat) : Int) := h4 0 _ rfl _ rfl
    replace A := (⟨h1, h2.trans A.2⟩ : a.tmps.size = 45 ∧ a.defers = [])
    clear h1 h2 h3 h4
    refine wp_block ?_
    refine wp_loop (fun a W => ∃ (i : Nat) (u : Value), i ≤ n ∧ okA p l bs i ∧ (a.tmps.size = 45 ∧ a.defers = []) ∧ a.eval (.tmp 0) = pv ∧ a.eval (.tmp 1) = .slice ia n ic ∧ a.eval (.tmp 7) = u ∧ a.eval (.tmp 8) = .int .i64 ((plA p l bs i : Nat) : Int) ∧ a.eval (.tmp 9) = .int .i64 ((i : Nat) : Int) ∧ Below V.heap.size V W ∧ W.ownsRow V.heap.size 3 1 u i (intsL i (fun i => (dA p l bs i : Int)))) (fun a _ => n - (intOf (a.eval (.tmp 9))).toNat) ⟨0, _, Nat.zero_le _, (fun i hi => absurd hi (Nat.not_lt_zero _)), A, t0, t1, t7, t8, t9, BB, FO⟩ ?_
    clear A t0 t1 t7 t8 t9 BB FO a
    rintro a XL ⟨i, u, hi, hok, A, t0, t1, t7, t8, t9, BB, FO⟩
    have e9 := t9
    refine wp_seq ?_
    refine wp_seq ?_
    refine wp_region_sq (σ := Unit) 45 [(0, 18), (1, 19), (2, 20), (3, 21)] (fun j_ s X => match j_ with | 0 => Below V.heap.size V X ∧ (X.ownsRow V.heap.size 3 1 u (i) (intsL (i) (fun i => (dA p l bs i : Int)))) | 1 => Below V.heap.size V X ∧ (X.ownsRow V.heap.size 3 1 u (i) (intsL (i) (fun i => (dA p l bs i : Int)))) | 2 => Below V.heap.size V X ∧ (X.ownsRow V.heap.size 3 1 u (i) (intsL (i) (fun i => (dA p l bs i : Int)))) | 3 => Below V.heap.size V X ∧ (X.ownsRow V.heap.size 3 1 u (i) (intsL (i) (fun i => (dA p l bs i : Int)))) | _ => Below V.heap.size V X ∧ (X.ownsRow V.heap.size 3 1 u (i) (intsL (i) (fun i => (dA p l bs i : Int))))) (fun s => fun i_ => match i_ with | 0 => .int .i64 ((i : Nat) : Int) | 1 => .slice ia n ic | 2 => .int .i64 ((n : Nat) : Int) | 3 => .bool (decide (i < n)) | _ => undef) () A.1 (by kernel_rfl) (by decide) (by decide) ⟨BB, FO⟩ ?_ ?_
    · intro i_ hi_ s a X hf hv hn hS
      match i_, hi_ with
      | 0, _ => exact stepV rfl rfl (execMvB rfl ((hf 9 (by decide)).trans t9)) ⟨s, ⟨_, rfl, rfl⟩, hS, fun _ _ => rfl⟩
      | 1, _ => exact stepV rfl rfl (execMvB rfl ((hf 1 (by decide)).trans t1)) ⟨s, ⟨_, rfl, rfl⟩, hS, fun _ _ => rfl⟩
      | 2, _ => exact stepV rfl rfl (execLenI (len := n) rfl (hv 1 (by omega) _ rfl _ rfl) ((FI.on hS.1)).shp) ⟨s, ⟨_, rfl, rfl⟩, hS, fun _ _ => rfl⟩
      | 3, _ => exact stepV rfl rfl (execLtW (p := i) (q := n) rfl (hv 0 (by omega) _ rfl _ rfl) (hv 2 (by omega) _ rfl _ rfl)) ⟨s, ⟨_, rfl, rfl⟩, hS, fun _ _ => rfl⟩
      | k_ + 4, h_ => exact absurd h_ (by simp)
    rintro _ a X6 h1 h2 h3 h4 hS
    clear BB
    clear FO
    replace hS : Below V.heap.size V X6 ∧ (X6.ownsRow V.heap.size 3 1 u (i) (intsL (i) (fun i => (dA p l bs i : Int)))) := hS
    obtain ⟨BB, FO⟩ := hS
    replace t0 := (h3 0 (by decide)).trans t0
    replace t1 := (h3 1 (by decide)).trans t1
    replace t7 := (h3 7 (by decide)).trans t7
    replace t8 := (h3 8 (by decide)).trans t8
    replace t9 := (h3 9 (by decide)).trans t9
    have t21 : a.eval (.tmp 21) = .bool (decide (i < n)) := h4 3 _ rfl _ rfl
    replace A := (⟨h1, h2.trans A.2⟩ : a.tmps.size = 45 ∧ a.defers = [])
    clear h1 h2 h3 h4
    by_cases hlt : i < n
    · rw [decide_eq_true hlt] at t21
      refine wp_cond_true t21 ?_
      refine wp_skip ?_
      clear t21
      obtain ⟨ib, io, rfl, hib, hcell⟩ := hsh (by omega)
      have cI : ∀ X, Below V.heap.size V X → X.cell? ⟨ib, io + i, none⟩ = some (.int .i64 (bs i)) := fun X hX => by rw [cell_below hX hib]; exact hcell i hlt
      refine wp_seq ?_
      refine wp_block ?_
      refine wp_seq ?_
      refine wp_region_sq (σ := Unit) 45 [(0, 25), (1, 26), (2, 27), (3, 28), (4, 29), (5, 30), (6, 31), (7, 24), (8, 32), (9, 33), (10, 34), (11, 10), (12, 11), (13, 12)] (fun j_ s X => match j_ with | 0 => Below V.heap.size V X ∧ (X.ownsRow V.heap.size 3 1 u (i) (intsL (i) (fun i => (dA p l bs i : Int)))) | 1 => Below V.heap.size V X ∧ (X.ownsRow V.heap.size 3 1 u (i) (intsL (i) (fun i => (dA p l bs i : Int)))) | 2 => Below V.heap.size V X ∧ (X.ownsRow V.heap.size 3 1 u (i) (intsL (i) (fun i => (dA p l bs i : Int)))) | 3 => Below V.heap.size V X ∧ (X.ownsRow V.heap.size 3 1 u (i) (intsL (i) (fun i => (dA p l bs i : Int)))) | 4 => Below V.heap.size V X ∧ (X.ownsRow V.heap.size 3 1 u (i) (intsL (i) (fun i => (dA p l bs i : Int)))) | 5 => Below V.heap.size V X ∧ (X.ownsRow V.heap.size 3 1 u (i) (intsL (i) (fun i => (dA p l bs i : Int)))) | 6 => Below V.heap.size V X ∧ (X.ownsRow V.heap.size 3 1 u (i) (intsL (i) (fun i => (dA p l bs i : Int)))) | 7 => Below V.heap.size V X ∧ (X.ownsRow V.heap.size 3 1 u (i) (intsL (i) (fun i => (dA p l bs i : Int)))) | 8 => Below V.heap.size V X ∧ (X.ownsRow V.heap.size 3 1 u (i) (intsL (i) (fun i => (dA p l bs i : Int)))) | 9 => Below V.heap.size V X ∧ (X.ownsRow V.heap.size 3 1 u (i) (intsL (i) (fun i => (dA p l bs i : Int)))) | 10 => Below V.heap.size V X ∧ (X.ownsRow V.heap.size 3 1 u (i) (intsL (i) (fun i => (dA p l bs i : Int)))) | 11 => Below V.heap.size V X ∧ (X.ownsRow V.heap.size 3 1 u (i) (intsL (i) (fun i => (dA p l bs i : Int)))) | 12 => Below V.heap.size V X ∧ (X.ownsRow V.heap.size 3 1 u (i) (intsL (i) (fun i => (dA p l bs i : Int)))) | 13 => Below V.heap.size V X ∧ (X.ownsRow V.heap.size 3 1 u (i) (intsL (i) (fun i => (dA p l bs i : Int)))) | _ => Below V.heap.size V X ∧ (X.ownsRow V.heap.size 3 1 u (i) (intsL (i) (fun i => (dA p l bs i : Int))))) (fun s => fun i_ => match i_ with | 0 => pv | 1 => .int .i64 ((plA p l bs i : Nat) : Int) | 2 => .slice (some ⟨ib, io, none⟩) n ic | 3 => .int .i64 ((i : Nat) : Int) | 4 => .pointer (some ⟨ib, io + i, none⟩) | 5 => .int .i64 (bs i) | 6 => .tuple #[.int .i64 ((dV p l (plA p l bs i) (bs i) : Nat) : Int), .int .i64 ((dN p l (plA p l bs i) (bs i) : Nat) : Int), .int .i64 ((dE p l (plA p l bs i) (bs i) : Nat) : Int)] | 7 => .tuple #[.int .i64 ((dV p l (plA p l bs i) (bs i) : Nat) : Int), .int .i64 ((dN p l (plA p l bs i) (bs i) : Nat) : Int), .int .i64 ((dE p l (plA p l bs i) (bs i) : Nat) : Int)] | 8 => .int .i64 ((dV p l (plA p l bs i) (bs i) : Nat) : Int) | 9 => .int .i64 ((dN p l (plA p l bs i) (bs i) : Nat) : Int) | 10 => .int .i64 ((dE p l (plA p l bs i) (bs i) : Nat) : Int) | 11 => .int .i64 ((dV p l (plA p l bs i) (bs i) : Nat) : Int) | 12 => .int .i64 ((dN p l (plA p l bs i) (bs i) : Nat) : Int) | 13 => .int .i64 ((dE p l (plA p l bs i) (bs i) : Nat) : Int) | _ => undef) () A.1 (by kernel_rfl) (by decide) (by decide) ⟨BB, FO⟩ ?_ ?_
      · intro i_ hi_ s a X hf hv hn hS
        match i_, hi_ with
        | 0, _ => exact stepV rfl rfl (execMvB rfl ((hf 0 (by decide)).trans t0)) ⟨s, ⟨_, rfl, rfl⟩, hS, fun _ _ => rfl⟩
        | 1, _ => exact stepV rfl rfl (execMvB rfl ((hf 8 (by decide)).trans t8)) ⟨s, ⟨_, rfl, rfl⟩, hS, fun _ _ => rfl⟩
        | 2, _ => exact stepV rfl rfl (execMvB rfl ((hf 1 (by decide)).trans t1)) ⟨s, ⟨_, rfl, rfl⟩, hS, fun _ _ => rfl⟩
        | 3, _ => exact stepV rfl rfl (execMvB rfl ((hf 9 (by decide)).trans t9)) ⟨s, ⟨_, rfl, rfl⟩, hS, fun _ _ => rfl⟩
        | 4, _ => exact stepV rfl rfl (execIdxN (k := i) rfl (hv 2 (by omega) _ rfl _ rfl) (hv 3 (by omega) _ rfl _ rfl) hlt) ⟨s, ⟨_, rfl, rfl⟩, hS, fun _ _ => rfl⟩
        | 5, _ => exact stepV rfl rfl (execLd3 rfl (hv 4 (by omega) _ rfl _ rfl) (cI X hS.1)) ⟨s, ⟨_, rfl, rfl⟩, hS, fun _ _ => rfl⟩
        | 6, _ => exact stepC rfl rfl (execCall3 Try.func12 (by kernel_rfl) (by kernel_rfl) rfl (hv 0 (by omega) _ rfl _ rfl) (hv 1 (by omega) _ rfl _ rfl) (hv 5 (by omega) _ rfl _ rfl)) (rbelow_any p l (plA p l bs i) (bs i) _ X (hp.on hS.1) hl (plA_le p l bs i)) fun e w' hh => ⟨_, hh.1, s, ⟨_, rfl, rfl⟩, ⟨(hS.1).trans ((hh.2).mono (hS.1).size), (ownD_below hS.2 hh.2)⟩, fun _ _ => rfl⟩
        | 7, _ => exact stepV rfl rfl (execMvB rfl (hv 6 (by omega) _ rfl _ rfl)) ⟨s, ⟨_, rfl, rfl⟩, hS, fun _ _ => rfl⟩
        | 8, _ => exact stepV rfl rfl (execExtT rfl (hv 7 (by omega) _ rfl _ rfl) rfl) ⟨s, ⟨_, rfl, rfl⟩, hS, fun _ _ => rfl⟩
        | 9, _ => exact stepV rfl rfl (execExtT rfl (hv 7 (by omega) _ rfl _ rfl) rfl) ⟨s, ⟨_, rfl, rfl⟩, hS, fun _ _ => rfl⟩
        | 10, _ => exact stepV rfl rfl (execExtT rfl (hv 7 (by omega) _ rfl _ rfl) rfl) ⟨s, ⟨_, rfl, rfl⟩, hS, fun _ _ => rfl⟩
        | 11, _ => exact stepV rfl rfl (execAsgB rfl (hv 8 (by omega) _ rfl _ rfl)) ⟨s, ⟨_, rfl, rfl⟩, hS, fun _ _ => rfl⟩
        | 12, _ => exact stepV rfl rfl (execAsgB rfl (hv 9 (by omega) _ rfl _ rfl)) ⟨s, ⟨_, rfl, rfl⟩, hS, fun _ _ => rfl⟩
        | 13, _ => exact stepV rfl rfl (execAsgB rfl (hv 10 (by omega) _ rfl _ rfl)) ⟨s, ⟨_, rfl, rfl⟩, hS, fun _ _ => rfl⟩
        | k_ + 14, h_ => exact absurd h_ (by simp)
      rintro _ a X8 h1 h2 h3 h4 hS
      clear BB
      clear FO
      replace hS : Below V.heap.size V X8 ∧ (X8.ownsRow V.heap.size 3 1 u (i) (intsL (i) (fun i => (dA p l bs i : Int)))) := hS
      obtain ⟨BB, FO⟩ := hS
      replace t0 := (h3 0 (by decide)).trans t0
      replace t1 := (h3 1 (by decide)).trans t1
      replace t7 := (h3 7 (by decide)).trans t7
      replace t8 := (h3 8 (by decide)).trans t8
      replace t9 := (h3 9 (by decide)).trans t9
      have t10 : a.eval (.tmp 10) = .int .i64 ((dV p l (plA p l bs i) (bs i) : Nat) : Int) := h4 11 _ rfl _ rfl
      have t11 : a.eval (.tmp 11) = .int .i64 ((dN p l (plA p l bs i) (bs i) : Nat) : Int) := h4 12 _ rfl _ rfl
      have t12 : a.eval (.tmp 12) = .int .i64 ((dE p l (plA p l bs i) (bs i) : Nat) : Int) := h4 13 _ rfl _ rfl
      replace A := (⟨h1, h2.trans A.2⟩ : a.tmps.size = 45 ∧ a.defers = [])
      clear h1 h2 h3 h4
      refine wp_seq ?_
      refine wp_seq ?_
      refine wp_region_sq (σ := Unit) 45 [(0, 35), (1, 36)] (fun j_ s X => match j_ with | 0 => Below V.heap.size V X ∧ (X.ownsRow V.heap.size 3 1 u (i) (intsL (i) (fun i => (dA p l bs i : Int)))) | 1 => Below V.heap.size V X ∧ (X.ownsRow V.heap.size 3 1 u (i) (intsL (i) (fun i => (dA p l bs i : Int)))) | _ => Below V.heap.size V X ∧ (X.ownsRow V.heap.size 3 1 u (i) (intsL (i) (fun i => (dA p l bs i : Int))))) (fun s => fun i_ => match i_ with | 0 => .int .i64 ((dE p l (plA p l bs i) (bs i) : Nat) : Int) | 1 => .bool (decide (dE p l (plA p l bs i) (bs i) ≠ 0)) | _ => undef) () A.1 (by kernel_rfl) (by decide) (by decide) ⟨BB, FO⟩ ?_ ?_
      · intro i_ hi_ s a X hf hv hn hS
        match i_, hi_ with
        | 0, _ => exact stepV rfl rfl (execMvB rfl ((hf 12 (by decide)).trans t12)) ⟨s, ⟨_, rfl, rfl⟩, hS, fun _ _ => rfl⟩
        | 1, _ => exact stepV rfl rfl (execNeN (p := dE p l (plA p l bs i) (bs i)) (q := 0) rfl (hv 0 (by omega) _ rfl _ rfl) rfl) ⟨s, ⟨_, rfl, rfl⟩, hS, fun _ _ => rfl⟩
        | k_ + 2, h_ => exact absurd h_ (by simp)
      rintro _ a X9 h1 h2 h3 h4 hS
      clear BB
      clear FO
      replace hS : Below V.heap.size V X9 ∧ (X9.ownsRow V.heap.size 3 1 u (i) (intsL (i) (fun i => (dA p l bs i : Int)))) := hS
      obtain ⟨BB, FO⟩ := hS
      replace t0 := (h3 0 (by decide)).trans t0
      replace t1 := (h3 1 (by decide)).trans t1
      replace t7 := (h3 7 (by decide)).trans t7
      replace t8 := (h3 8 (by decide)).trans t8
      replace t9 := (h3 9 (by decide)).trans t9
      replace t10 := (h3 10 (by decide)).trans t10
      replace t11 := (h3 11 (by decide)).trans t11
      replace t12 := (h3 12 (by decide)).trans t12
      have t36 : a.eval (.tmp 36) = .bool (decide (dE p l (plA p l bs i) (bs i) ≠ 0)) := h4 1 _ rfl _ rfl
      replace A := (⟨h1, h2.trans A.2⟩ : a.tmps.size = 45 ∧ a.defers = [])
      clear h1 h2 h3 h4
      by_cases hE0 : dE p l (plA p l bs i) (bs i) = 0
      · rw [decide_eq_false (by omega)] at t36
        refine wp_cond_false t36 ?_
        refine wp_skip ?_
        clear t36
        refine wp_seq ?_
        refine wp_region_sq (σ := Nat × Value) 45 [(0, 38), (1, 39), (2, 40), (3, 41), (4, 7)] (fun j_ s X => match j_ with | 0 => Below V.heap.size V X ∧ (X.ownsRow V.heap.size 3 1 u (i) (intsL (i) (fun i => (dA p l bs i : Int)))) | 1 => Below V.heap.size V X ∧ (X.ownsRow V.heap.size 3 1 u (i) (intsL (i) (fun i => (dA p l bs i : Int)))) | 2 => Below V.heap.size V X ∧ (X.ownsRow V.heap.size 3 1 u (i) (intsL (i) (fun i => (dA p l bs i : Int)))) | 3 => Below V.heap.size V X ∧ (X.ownsRow V.heap.size 3 1 u (i) (intsL (i) (fun i => (dA p l bs i : Int)))) ∧ (X.heap[s.1]? = some (.cells #[.int .i64 ((dA p l bs i : Nat) : Int)] 3)) | 4 => Below V.heap.size V X ∧ (X.ownsRow V.heap.size 3 1 s.2 (i + 1) (intsL (i + 1) (fun i => (dA p l bs i : Int)))) | _ => Below V.heap.size V X ∧ (X.ownsRow V.heap.size 3 1 s.2 (i + 1) (intsL (i + 1) (fun i => (dA p l bs i : Int))))) (fun s => fun i_ => match i_ with | 0 => u | 1 => .int .i64 ((dV p l (plA p l bs i) (bs i) : Nat) : Int) | 2 => .slice (some ⟨s.1, 0, none⟩) 1 1 | 3 => s.2 | 4 => s.2 | _ => undef) (0, undef) A.1 (by kernel_rfl) (by decide) (by decide) ⟨BB, FO⟩ ?_ ?_
        · intro i_ hi_ s a X hf hv hn hS
          match i_, hi_ with
          | 0, _ => exact stepV rfl rfl (execMvB rfl ((hn 4 (by omega) _ rfl _ rfl).trans t7)) ⟨s, ⟨_, rfl, rfl⟩, hS, fun _ _ => rfl⟩
          | 1, _ => exact stepV rfl rfl (execMvB rfl ((hf 10 (by decide)).trans t10)) ⟨s, ⟨_, rfl, rfl⟩, hS, fun _ _ => rfl⟩
          | 2, _ =>
            refine stepV rfl rfl (execBsI (z := ((dA p l bs i : Nat) : Int)) rfl (hv 1 (by omega) _ rfl _ rfl)) ⟨(X.heap.size, s.2), ⟨_, rfl, rfl⟩, ⟨(hS.1).trans (((belNew X _)).mono (hS.1).size), (ownD_below hS.2 (belNew X _)), heapNew X _⟩, fun i hi => ?_⟩
            match i, hi with
            | 0, _ => rfl
            | 1, _ => rfl
            | n_ + 2, h_ => omega
          | 3, _ =>
            refine stepAppI (f := fun i => (dA p l bs i : Int)) rfl rfl rfl (hv 0 (by omega) _ rfl _ rfl) (hv 2 (by omega) _ rfl _ rfl) hS.2.1 hS.2.2 (by omega) (hS.1).size fun v' W' own' gr => ⟨(s.1, v'), ⟨_, rfl, rfl⟩, ⟨(hS.1).grown gr (hS.1).size (fun k hk => (hS.2.1.lt k hk).1), own'⟩, fun i hi => ?_⟩
            match i, hi with
            | 0, _ => rfl
            | 1, _ => rfl
            | 2, _ => rfl
            | n_ + 3, h_ => omega
          | 4, _ => exact stepV rfl rfl (execAsgB rfl (hv 3 (by omega) _ rfl _ rfl)) ⟨s, ⟨_, rfl, rfl⟩, hS, fun _ _ => rfl⟩
          | k_ + 5, h_ => exact absurd h_ (by simp)
        rintro ⟨g40, v41⟩ a X11 h1 h2 h3 h4 hS
        clear BB
        clear FO
        replace hS : Below V.heap.size V X11 ∧ (X11.ownsRow V.heap.size 3 1 v41 (i + 1) (intsL (i + 1) (fun i => (dA p l bs i : Int)))) := hS
        obtain ⟨BB, FO2⟩ := hS
        replace t0 := (h3 0 (by decide)).trans t0
        replace t1 := (h3 1 (by decide)).trans t1
        replace t7 : a.eval (.tmp 7) = v41 := h4 4 _ rfl _ rfl
        replace t8 := (h3 8 (by decide)).trans t8
        replace t9 := (h3 9 (by decide)).trans t9
        replace t11 := (h3 11 (by decide)).trans t11
        replace A := (⟨h1, h2.trans A.2⟩ : a.tmps.size = 45 ∧ a.defers = [])
        clear h1 h2 h3 h4
        clear t10 t12
        refine wp_region_sq (σ := Unit) 45 [(0, 42), (1, 8)] (fun j_ s X => match j_ with | 0 => Below V.heap.size V X ∧ (X.ownsRow V.heap.size 3 1 v41 (i + 1) (intsL (i + 1) (fun i => (dA p l bs i : Int)))) | 1 => Below V.heap.size V X ∧ (X.ownsRow V.heap.size 3 1 v41 (i + 1) (intsL (i + 1) (fun i => (dA p l bs i : Int)))) | _ => Below V.heap.size V X ∧ (X.ownsRow V.heap.size 3 1 v41 (i + 1) (intsL (i + 1) (fun i => (dA p l bs i : Int))))) (fun s => fun i_ => match i_ with | 0 => .int .i64 ((dN p l (plA p l bs i) (bs i) : Nat) : Int) | 1 => .int .i64 ((dN p l (plA p l bs i) (bs i) : Nat) : Int) | _ => undef) () A.1 (by kernel_rfl) (by decide) (by decide) ⟨BB, FO2⟩ ?_ ?_
        · intro i_ hi_ s a X hf hv hn hS
          match i_, hi_ with
          | 0, _ => exact stepV rfl rfl (execMvB rfl ((hf 11 (by decide)).trans t11)) ⟨s, ⟨_, rfl, rfl⟩, hS, fun _ _ => rfl⟩
          | 1, _ => exact stepV rfl rfl (execAsgB rfl (hv 0 (by omega) _ rfl _ rfl)) ⟨s, ⟨_, rfl, rfl⟩, hS, fun _ _ => rfl⟩
          | k_ + 2, h_ => exact absurd h_ (by simp)
        rintro _ a X12 h1 h2 h3 h4 hS
        clear BB
        clear FO2
        replace hS : Below V.heap.size V X12 ∧ (X12.ownsRow V.heap.size 3 1 v41 (i + 1) (intsL (i + 1) (fun i => (dA p l bs i : Int)))) := hS
        obtain ⟨BB, FO2⟩ := hS
        replace t0 := (h3 0 (by decide)).trans t0
        replace t1 := (h3 1 (by decide)).trans t1
        replace t7 := (h3 7 (by decide)).trans t7
        replace t8 : a.eval (.tmp 8) = .int .i64 ((dN p l (plA p l bs i) (bs i) : Nat) : Int) := h4 1 _ rfl _ rfl
        replace t9 := (h3 9 (by decide)).trans t9
        replace A := (⟨h1, h2.trans A.2⟩ : a.tmps.size = 45 ∧ a.defers = [])
        clear h1 h2 h3 h4
        clear t11
        refine wp_region_sq (σ := Unit) 45 [(0, 22), (1, 23), (2, 9)] (fun j_ s X => match j_ with | 0 => Below V.heap.size V X ∧ (X.ownsRow V.heap.size 3 1 v41 (i + 1) (intsL (i + 1) (fun i => (dA p l bs i : Int)))) | 1 => Below V.heap.size V X ∧ (X.ownsRow V.heap.size 3 1 v41 (i + 1) (intsL (i + 1) (fun i => (dA p l bs i : Int)))) | 2 => Below V.heap.size V X ∧ (X.ownsRow V.heap.size 3 1 v41 (i + 1) (intsL (i + 1) (fun i => (dA p l bs i : Int)))) | _ => Below V.heap.size V X ∧ (X.ownsRow V.heap.size 3 1 v41 (i + 1) (intsL (i + 1) (fun i => (dA p l bs i : Int))))) (fun s => fun i_ => match i_ with | 0 => .int .i64 ((i : Nat) : Int) | 1 => .int .i64 ((i + 1 : Nat) : Int) | 2 => .int .i64 ((i + 1 : Nat) : Int) | _ => undef) () A.1 (by kernel_rfl) (by decide) (by decide) ⟨BB, FO2⟩ ?_ ?_
        · intro i_ hi_ s a X hf hv hn hS
          match i_, hi_ with
          | 0, _ => exact stepV rfl rfl (execMvB rfl ((hn 2 (by omega) _ rfl _ rfl).trans t9)) ⟨s, ⟨_, rfl, rfl⟩, hS, fun _ _ => rfl⟩
          | 1, _ => exact stepV rfl rfl (execAd8 (p := i) (q := 1) rfl (hv 0 (by omega) _ rfl _ rfl) rfl (by omega)) ⟨s, ⟨_, rfl, rfl⟩, hS, fun _ _ => rfl⟩
          | 2, _ => exact stepV rfl rfl (execAsgB rfl (hv 1 (by omega) _ rfl _ rfl)) ⟨s, ⟨_, rfl, rfl⟩, hS, fun _ _ => rfl⟩
          | k_ + 3, h_ => exact absurd h_ (by simp)
        rintro _ a X7 h1 h2 h3 h4 hS
        clear BB
        clear FO2
        replace hS : Below V.heap.size V X7 ∧ (X7.ownsRow V.heap.size 3 1 v41 (i + 1) (intsL (i + 1) (fun i => (dA p l bs i : Int)))) := hS
        obtain ⟨BB, FO2⟩ := hS
        replace t0 := (h3 0 (by decide)).trans t0
        replace t1 := (h3 1 (by decide)).trans t1
        replace t7 := (h3 7 (by decide)).trans t7
        replace t8 := (h3 8 (by decide)).trans t8
        replace t9 : a.eval (.tmp 9) = .int .i64 ((i + 1 : Nat) : Int) := h4 2 _ rfl _ rfl
        replace A := (⟨h1, h2.trans A.2⟩ : a.tmps.size = 45 ∧ a.defers = [])
        clear h1 h2 h3 h4
        exact ⟨⟨i + 1, _, hlt, okA_succ hok hE0, A, t0, t1, t7, t8, t9, BB, FO2⟩, by show n - (intOf (a.eval (.tmp 9))).toNat < n - (intOf (Act.eval _ (.tmp 9))).toNat; rw [t9, e9]; show n - (i + 1) < n - i; omega⟩
      · rw [decide_eq_true hE0] at t36
        refine wp_cond_true t36 ?_
        refine wp_seq ?_
        refine wp_region_sq (σ := Unit) 45 [(0, 37), (1, 4), (2, 5), (3, 6)] (fun j_ s X => match j_ with | 0 => Below V.heap.size V X ∧ (X.ownsRow V.heap.size 3 1 u (i) (intsL (i) (fun i => (dA p l bs i : Int)))) | 1 => Below V.heap.size V X ∧ (X.ownsRow V.heap.size 3 1 u (i) (intsL (i) (fun i => (dA p l bs i : Int)))) | 2 => Below V.heap.size V X ∧ (X.ownsRow V.heap.size 3 1 u (i) (intsL (i) (fun i => (dA p l bs i : Int)))) | 3 => Below V.heap.size V X ∧ (X.ownsRow V.heap.size 3 1 u (i) (intsL (i) (fun i => (dA p l bs i : Int)))) | _ => Below V.heap.size V X ∧ (X.ownsRow V.heap.size 3 1 u (i) (intsL (i) (fun i => (dA p l bs i : Int))))) (fun s => fun i_ => match i_ with | 0 => .int .i64 ((dE p l (plA p l bs i) (bs i) : Nat) : Int) | 1 => .slice none 0 0 | 2 => .int .i64 ((0 : Nat) : Int) | 3 => .int .i64 ((dE p l (plA p l bs i) (bs i) : Nat) : Int) | _ => undef) () A.1 (by kernel_rfl) (by decide) (by decide) ⟨BB, FO⟩ ?_ ?_
        · intro i_ hi_ s a X hf hv hn hS
          match i_, hi_ with
          | 0, _ => exact stepV rfl rfl (execMvB rfl ((hf 12 (by decide)).trans t12)) ⟨s, ⟨_, rfl, rfl⟩, hS, fun _ _ => rfl⟩
          | 1, _ => exact stepV rfl rfl (execAsgB rfl rfl) ⟨s, ⟨_, rfl, rfl⟩, hS, fun _ _ => rfl⟩
          | 2, _ => exact stepV rfl rfl (execAsgB rfl rfl) ⟨s, ⟨_, rfl, rfl⟩, hS, fun _ _ => rfl⟩
          | 3, _ => exact stepV rfl rfl (execAsgB rfl (hv 0 (by omega) _ rfl _ rfl)) ⟨s, ⟨_, rfl, rfl⟩, hS, fun _ _ => rfl⟩
          | k_ + 4, h_ => exact absurd h_ (by simp)
        rintro _ a X10 h1 h2 h3 h4 hS
        clear BB
        clear FO
        replace hS : Below V.heap.size V X10 ∧ (X10.ownsRow V.heap.size 3 1 u (i) (intsL (i) (fun i => (dA p l bs i : Int)))) := hS
        obtain ⟨BB, FO⟩ := hS
        have t4 : a.eval (.tmp 4) = .slice none 0 0 := h4 1 _ rfl _ rfl
        have t5 : a.eval (.tmp 5) = .int .i64 ((0 : Nat) : Int) := h4 2 _ rfl _ rfl
        have t6 : a.eval (.tmp 6) = .int .i64 ((dE p l (plA p l bs i) (bs i) : Nat) : Int) := h4 3 _ rfl _ rfl
        replace A := (⟨h1, h2.trans A.2⟩ : a.tmps.size = 45 ∧ a.defers = [])
        clear h1 h2 h3 h4
        clear t0 t1 t7 t8 t9 t10 t11 t12
        have hE3 : dE p l (plA p l bs i) (bs i) = 3 := (dE_good (hno i hlt)).resolve_left hE0
        rw [hE3] at t6
        have hE : allE p l bs n = 3 := by unfold allE; rw [if_neg hw, if_neg (fun q => hE0 (okB_iff.1 q i hlt))]
        have hN : allN p l bs n = 0 := by unfold allN; rw [if_neg (by rw [hE]; decide)]
        have hK : allK p l bs n = 0 := by unfold allK; rw [if_neg (by rw [hE]; decide)]
        rw [hE, hN, hK]
        refine wp_ret ?_
        repeat (first | refine ret_in ?_ | refine ret_then ?_)
        refine bodyPost_ret (results_tmp3 rfl _ _ _) A.2 ⟨_, ?_, World.ownsRow_nil _ _ _ _, BB⟩
        show Ending.returned (.tuple #[a.eval (.tmp 4), a.eval (.tmp 5), a.eval (.tmp 6)]) = _
        rw [t4, t5, t6]
    · rw [decide_eq_false hlt] at t21
      refine wp_cond_false t21 ?_
      refine wp_exit ?_
      first | refine exit_in ?_ | refine exit_then (exit_in ?_) | refine exit_then (exit_then (exit_in ?_))
      clear t21
      have hin : i = n := by omega
      rw [hin] at hok FO t8
      refine wp_seq ?_
      refine wp_region_sq (σ := Unit) 45 [(0, 43), (1, 44), (2, 4), (3, 5), (4, 6)] (fun j_ s X => match j_ with | 0 => Below V.heap.size V X ∧ (X.ownsRow V.heap.size 3 1 u (n) (intsL (n) (fun i => (dA p l bs i : Int)))) | 1 => Below V.heap.size V X ∧ (X.ownsRow V.heap.size 3 1 u (n) (intsL (n) (fun i => (dA p l bs i : Int)))) | 2 => Below V.heap.size V X ∧ (X.ownsRow V.heap.size 3 1 u (n) (intsL (n) (fun i => (dA p l bs i : Int)))) | 3 => Below V.heap.size V X ∧ (X.ownsRow V.heap.size 3 1 u (n) (intsL (n) (fun i => (dA p l bs i : Int)))) | 4 => Below V.heap.size V X ∧ (X.ownsRow V.heap.size 3 1 u (n) (intsL (n) (fun i => (dA p l bs i : Int)))) | _ => Below V.heap.size V X ∧ (X.ownsRow V.heap.size 3 1 u (n) (intsL (n) (fun i => (dA p l bs i : Int))))) (fun s => fun i_ => match i_ with | 0 => u | 1 => .int .i64 ((plA p l bs n : Nat) : Int) | 2 => u | 3 => .int .i64 ((plA p l bs n : Nat) : Int) | 4 => .int .i64 ((0 : Nat) : Int) | _ => undef) () A.1 (by kernel_rfl) (by decide) (by decide) ⟨BB, FO⟩ ?_ ?_
      · intro i_ hi_ s a X hf hv hn hS
        match i_, hi_ with
        | 0, _ => exact stepV rfl rfl (execMvB rfl ((hf 7 (by decide)).trans t7)) ⟨s, ⟨_, rfl, rfl⟩, hS, fun _ _ => rfl⟩
        | 1, _ => exact stepV rfl rfl (execMvB rfl ((hf 8 (by decide)).trans t8)) ⟨s, ⟨_, rfl, rfl⟩, hS, fun _ _ => rfl⟩
        | 2, _ => exact stepV rfl rfl (execAsgB rfl (hv 0 (by omega) _ rfl _ rfl)) ⟨s, ⟨_, rfl, rfl⟩, hS, fun _ _ => rfl⟩
        | 3, _ => exact stepV rfl rfl (execAsgB rfl (hv 1 (by omega) _ rfl _ rfl)) ⟨s, ⟨_, rfl, rfl⟩, hS, fun _ _ => rfl⟩
        | 4, _ => exact stepV rfl rfl (execAsgB rfl rfl) ⟨s, ⟨_, rfl, rfl⟩, hS, fun _ _ => rfl⟩
        | k_ + 5, h_ => exact absurd h_ (by simp)
      rintro _ a X13 h1 h2 h3 h4 hS
      clear BB
      clear FO
      replace hS : Below V.heap.size V X13 ∧ (X13.ownsRow V.heap.size 3 1 u (n) (intsL (n) (fun i => (dA p l bs i : Int)))) := hS
      obtain ⟨BB, FO⟩ := hS
      have t4 : a.eval (.tmp 4) = u := h4 2 _ rfl _ rfl
      have t5 : a.eval (.tmp 5) = .int .i64 ((plA p l bs n : Nat) : Int) := h4 3 _ rfl _ rfl
      have t6 : a.eval (.tmp 6) = .int .i64 ((0 : Nat) : Int) := h4 4 _ rfl _ rfl
      replace A := (⟨h1, h2.trans A.2⟩ : a.tmps.size = 45 ∧ a.defers = [])
      clear h1 h2 h3 h4
      clear t0 t1 t7 t8 t9
      have hE : allE p l bs n = 0 := by unfold allE; rw [if_neg hw, if_pos (okB_iff.2 hok)]
      have hN : allN p l bs n = n := by unfold allN; rw [if_pos hE]
      have hK : allK p l bs n = plA p l bs n := by unfold allK; rw [if_pos hE]
      rw [hE, hN, hK]
      refine wp_ret ?_
      refine bodyPost_ret (results_tmp3 rfl _ _ _) A.2 ⟨u, ?_, FO, BB⟩
      show Ending.returned (.tuple #[a.eval (.tmp 4), a.eval (.tmp 5), a.eval (.tmp 6)]) = _
      rw [t4, t5, t6]
end Go.Proofs.Ytpclecbhfjalnaa.Drw
