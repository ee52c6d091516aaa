import Derived.Test.YthiakjmjpchckaaP9c
namespace Go.Proofs.Ythiakjmjpchckaa.Prm
open Go.RowKit Gf8 Aes By8 Cel Cf Tap Drw
/- Stage 11's reference: Inverse, Compose, Apply, Fit, From. Written by tools/mkP9d.py. -/

/-- A length beside an error: none. -/
def zl (E L : Nat) : Nat := if E = 0 then L else 0
theorem zl_ok {L : Nat} : zl 0 L = L := rfl
theorem zl_no {E L : Nat} (h : E ≠ 0) : zl E L = 0 := if_neg h
theorem pE_ok {f : Nat → Int} {n : Nat} (h : okQ f n n = true) : pE f n = 0 := if_pos h
theorem pE_no {f : Nat → Int} {n : Nat} (h : ¬ okQ f n n = true) : pE f n = 110 := if_neg h
def coE (f : Nat → Int) (n : Nat) (g : Nat → Int) (m : Nat) : Nat := if pE f n = 0 ∧ pE g m = 0 ∧ n = m then 0 else 110
def apE (f : Nat → Int) (n m : Nat) : Nat := if pE f n = 0 ∧ n = m then 0 else 110
/-- Are the first k draws for N things in their range? -/
def fitQ (d : Nat → Int) (N : Nat) : Nat → Bool
  | 0 => true
  | k + 1 => fitQ d N k && decide (0 ≤ d k ∧ d k < (N : Int) - k)
theorem fitQ_iff {d : Nat → Int} {N : Nat} : ∀ {k}, fitQ d N k = true ↔ ∀ i, i < k → 0 ≤ d i ∧ d i < (N : Int) - i
  | 0 => ⟨(fun _ i h => absurd h (Nat.not_lt_zero _)), (fun _ => rfl)⟩
  | k + 1 => by
    simp only [fitQ, Bool.and_eq_true, decide_eq_true_eq, fitQ_iff (k := k)]
    constructor
    · rintro ⟨h1, h2⟩ i hi
      by_cases q : i = k
      · subst q; exact h2
      · exact h1 i (by omega)
    · exact fun h => ⟨fun i hi => h i (by omega), h k (by omega)⟩
theorem fitQ_succ {d : Nat → Int} {N i : Nat} (h : fitQ d N i = true) (h1 : 0 ≤ d i ∧ d i < (N : Int) - i) : fitQ d N (i + 1) = true := by
  simp only [fitQ, h, Bool.true_and, decide_eq_true_eq]
  exact h1
theorem fitQ_bad {d : Nat → Int} {N m i : Nat} (hi : i < m) (h : ¬ (0 ≤ d i ∧ d i < (N : Int) - i)) : fitQ d N m = false := Bool.eq_false_iff.2 fun q => h (fitQ_iff.1 q i hi)
def frE (n : Int) (d : Nat → Int) (m : Nat) : Nat := if n < 0 then 2 else if m = n.toNat - 1 ∧ fitQ d n.toNat m = true then 0 else 110
theorem frE_ok {N : Nat} {d : Nat → Int} {m : Nat} (h1 : m = N - 1) (h2 : fitQ d N m = true) : frE (N : Int) d m = 0 := by
  unfold frE
  rw [if_neg (by omega), Int.toNat_natCast, if_pos ⟨h1, h2⟩]
theorem frE_no {N : Nat} {d : Nat → Int} {m : Nat} (h : ¬ (m = N - 1 ∧ fitQ d N m = true)) : frE (N : Int) d m = 110 := by
  unfold frE
  rw [if_neg (by omega), Int.toNat_natCast, if_neg h]
theorem shpO {W : World} {B n : Nat} {t : TypeId} {v : Value} {xs : List Value} (h : W.ownsRow B t 1 v n xs) : ∃ g c, v = .slice g n c := by
  rcases h.2 with ⟨rfl, rfl⟩ | ⟨g, cap, cur, rfl, _⟩
  · exact ⟨_, _, rfl⟩
  · exact ⟨_, _, rfl⟩
theorem inv_set {W : World} {B n g cap i w : Nat} {f : Nat → Int} (h : W.ownsRow B 3 1 (.slice (some ⟨g, 0, none⟩) n cap) n (intsL n (fun j => (posN (gN f) j i : Int)))) (e : f i = (w : Int)) : (W.setCell ⟨g, 0 + w, none⟩ (.int .i64 ((i : Nat) : Int))).ownsRow B 3 1 (.slice (some ⟨g, 0, none⟩) n cap) n (intsL n (fun j => (posN (gN f) j (i + 1) : Int))) := by
  have h2 := own_setF (k := w) ((i : Nat) : Int) h
  rw [intsL_congr (g := fun j => (posN (gN f) j (i + 1) : Int)) (fun j _ => ?_)] at h2
  · exact h2
  · have eg : gN f i = w := by show (f i).toNat = w; omega
    show _ = ((if gN f i = j then i else posN (gN f) j i : Nat) : Int)
    by_cases q : j = w
    · subst q
      rw [if_pos rfl, if_pos eg]
    · rw [if_neg q, if_neg (fun x => q (by omega))]
theorem fr_set {W : World} {B N g cap i w I : Nat} {d : Nat → Int} (h : W.ownsRow B 3 1 (.slice (some ⟨g, 0, none⟩) N cap) N (intsL N (fun j => if j = I then ((frA N (gN d) i w : Nat) : Int) else (fun j => (frA N (gN d) i j : Int)) j))) (eI : N - 1 - i = I) (hg : gN d i = w) : (W.setCell ⟨g, 0 + w, none⟩ (.int .i64 ((frA N (gN d) i I : Nat) : Int))).ownsRow B 3 1 (.slice (some ⟨g, 0, none⟩) N cap) N (intsL N (fun j => (frA N (gN d) (i + 1) j : Int))) := by
  have h2 := own_setF (k := w) ((frA N (gN d) i I : Nat) : Int) h
  rw [intsL_congr (g := fun j => (frA N (gN d) (i + 1) j : Int)) (fun j _ => ?_)] at h2
  · exact h2
  · show _ = ((swp (frA N (gN d) i) (N - 1 - i) (gN d i) j : Nat) : Int)
    rw [eI, hg]
    by_cases q : j = w
    · subst q
      rw [if_pos rfl, swp_j]
    · rw [if_neg q]
      by_cases q2 : j = I
      · subst q2
        rw [if_pos rfl, swp_i]
      · rw [if_neg q2, swp_o q2 q]
set_option maxRecDepth 100000 in
set_option maxHeartbeats 4000000 in
/-- The reference's Inverse. -/
theorem rinverse (f : Nat → Int) (n : Nat) (v : Value) (V : World) (hv : SliceI V v n f) (hn17 : n ≤ 17592186044416) :
    Calls Try.prog 11 #[v] V fun e w' => ∃ r, e = .returned (.tuple #[r, .int .i64 ((pE f n : Nat) : Int)]) ∧ w'.ownsRow V.heap.size 3 1 r (zl (pE f n) n) (intsL (zl (pE f n) n) (fun j => (posN (gN f) j n : Int))) ∧ Below V.heap.size V w' := by
  obtain ⟨ia, ic, rfl, -, -, hsh⟩ := id hv.shape
  have FI := hv
  go_enter Try.func11, Try.ntmps11
  refine wp_seq ?_
  refine wp_region_sqK 26 [(0, 2), (1, 3)] (fun i_ => match i_ with | 0 => .slice none 0 0 | 1 => .int .i64 ((0 : Nat) : Int) | _ => undef) rfl (by kernel_rfl) (by decide) (by decide) ?_ ?_
  · intro i_ hi_ a hf hv hn
    match i_, hi_ with
    | 0, _ => exact stepV rfl rfl (execAsgB rfl rfl) ⟨⟨_, rfl, rfl⟩, rfl⟩
    | 1, _ => exact stepV rfl rfl (execAsgB rfl rfl) ⟨⟨_, rfl, rfl⟩, rfl⟩
    | k_ + 2, h_ => exact absurd h_ (by simp)
  intro a h1 h2 h3 h4
  have t0 : a.eval (.tmp 0) = .slice ia n ic := (h3 0 (by decide)).trans rfl
  have A : a.tmps.size = 26 ∧ a.defers = [] := ⟨h1, h2⟩
  have BW : Below V.heap.size V V := Below.refl _ _
  clear h1 h2 h3 h4
  have BB := BW
  refine wp_seq ?_
  refine wp_seq ?_
  by_cases hok : okQ f n n = true
  · refine wp_region_sq (σ := Unit) 26 [(0, 6), (1, 7), (2, 8)] (fun j_ s X => match j_ with | 0 => Below V.heap.size V X | 1 => Below V.heap.size V X | 2 => Below V.heap.size V X | _ => Below V.heap.size V X) (fun s => fun i_ => match i_ with | 0 => .slice ia n ic | 1 => .int .i64 ((pE f n : Nat) : Int) | 2 => .bool false | _ => undef) () A.1 (by kernel_rfl) (by decide) (by decide) (BB) ?_ ?_
    · intro i_ hi_ s a X hf hv hn hS
      match i_, hi_ with
      | 0, _ => exact stepV rfl rfl (execMvB rfl ((hf 0 (by decide)).trans t0)) ⟨s, ⟨_, rfl, rfl⟩, hS, fun _ _ => rfl⟩
      | 1, _ => exact stepC rfl rfl (execCall1 Try.func33 (by kernel_rfl) (by kernel_rfl) rfl (hv 0 (by omega) _ rfl _ rfl)) (rcheck f n _ X (FI.on hS) hn17) fun e w' hh => ⟨_, hh.1, s, ⟨_, rfl, rfl⟩, (hS).trans ((hh.2).mono (hS).size), fun _ _ => rfl⟩
      | 2, _ => exact stepV rfl rfl (execDec (execNeN (p := pE f n) (q := 0) rfl (hv 1 (by omega) _ rfl _ rfl) rfl) (decide_eq_false (by have := pE_ok hok; omega))) ⟨s, ⟨_, rfl, rfl⟩, hS, fun _ _ => rfl⟩
      | k_ + 3, h_ => exact absurd h_ (by simp)
    rintro _ a X1 h1 h2 h3 h4 hS
    clear BB
    replace hS : Below V.heap.size V X1 := hS
    have BB := hS
    clear hS
    replace t0 := (h3 0 (by decide)).trans t0
    have t8 : a.eval (.tmp 8) = .bool false := h4 2 _ rfl _ rfl
    replace A := (⟨h1, h2.trans A.2⟩ : a.tmps.size = 26 ∧ a.defers = [])
    clear h1 h2 h3 h4
    refine wp_cond_false t8 ?_
    refine wp_skip ?_
    clear t8
    obtain ⟨hrange, _⟩ := okQ_iff.1 hok
    refine wp_seq ?_
    refine wp_region_sq (σ := Nat) 26 [(0, 9), (1, 10), (2, 11), (3, 4)] (fun j_ s X => match j_ with | 0 => Below V.heap.size V X | 1 => Below V.heap.size V X | 2 => Below V.heap.size V X | 3 => Below V.heap.size V X ∧ (X.ownsRow V.heap.size 3 1 (.slice (some ⟨s, 0, none⟩) n n) (n) (intsL (n) (fun j => (posN (gN f) j 0 : Int)))) ∧ (V.heap.size ≤ s) | _ => Below V.heap.size V X ∧ (X.ownsRow V.heap.size 3 1 (.slice (some ⟨s, 0, none⟩) n n) (n) (intsL (n) (fun j => (posN (gN f) j 0 : Int)))) ∧ (V.heap.size ≤ s)) (fun s => fun i_ => match i_ with | 0 => .slice ia n ic | 1 => .int .i64 ((n : Nat) : Int) | 2 => .slice (some ⟨s, 0, none⟩) n n | 3 => .slice (some ⟨s, 0, none⟩) n n | _ => undef) 0 A.1 (by kernel_rfl) (by decide) (by decide) (BB) ?_ ?_
    · intro i_ hi_ s a X hf hv hn hS
      match i_, hi_ with
      | 0, _ => exact stepV rfl rfl (execMvB rfl ((hf 0 (by decide)).trans t0)) ⟨s, ⟨_, rfl, rfl⟩, hS, fun _ _ => rfl⟩
      | 1, _ => exact stepV rfl rfl (execLenI (len := n) rfl (hv 0 (by omega) _ rfl _ rfl) ((FI.on hS)).shp) ⟨s, ⟨_, rfl, rfl⟩, hS, fun _ _ => rfl⟩
      | 2, _ =>
        refine stepV rfl rfl (execMkN rfl (hv 1 (by omega) _ rfl _ rfl) (hv 1 (by omega) _ rfl _ rfl) hn17) ⟨X.heap.size, ⟨_, rfl, rfl⟩, ⟨(hS).trans (((belNew X _)).mono (hS).size), ownD_base (own_mkZ X n _ hn17 (fun j_ _ => rfl)) (hS).size, (hS).size⟩, fun i hi => ?_⟩
        match i, hi with
        | 0, _ => rfl
        | 1, _ => rfl
        | n_ + 2, h_ => omega
      | 3, _ => exact stepV rfl rfl (execAsgB rfl (hv 2 (by omega) _ rfl _ rfl)) ⟨s, ⟨_, rfl, rfl⟩, hS, fun _ _ => rfl⟩
      | k_ + 4, h_ => exact absurd h_ (by simp)
    rintro g4 a X3 h1 h2 h3 h4 hS
    clear BB
    replace hS : Below V.heap.size V X3 ∧ (X3.ownsRow V.heap.size 3 1 (.slice (some ⟨g4, 0, none⟩) n n) (n) (intsL (n) (fun j => (posN (gN f) j 0 : Int)))) ∧ (V.heap.size ≤ g4) := hS
    obtain ⟨BB, FO, Fg⟩ := hS
    replace t0 := (h3 0 (by decide)).trans t0
    have t4 : a.eval (.tmp 4) = .slice (some ⟨g4, 0, none⟩) n n := h4 3 _ rfl _ rfl
    replace A := (⟨h1, h2.trans A.2⟩ : a.tmps.size = 26 ∧ a.defers = [])
    clear h1 h2 h3 h4
    refine wp_seq ?_
    refine wp_seq ?_
    refine wp_region_sq (σ := Unit) 26 [(0, 5)] (fun j_ s X => match j_ with | 0 => Below V.heap.size V X ∧ (X.ownsRow V.heap.size 3 1 (.slice (some ⟨g4, 0, none⟩) n n) (n) (intsL (n) (fun j => (posN (gN f) j 0 : Int)))) ∧ (V.heap.size ≤ g4) | _ => Below V.heap.size V X ∧ (X.ownsRow V.heap.size 3 1 (.slice (some ⟨g4, 0, none⟩) n n) (n) (intsL (n) (fun j => (posN (gN f) j 0 : Int)))) ∧ (V.heap.size ≤ g4)) (fun s => fun i_ => match i_ with | 0 => .int .i64 ((0 : Nat) : Int) | _ => undef) () A.1 (by kernel_rfl) (by decide) (by decide) ⟨BB, FO, Fg⟩ ?_ ?_
    · intro i_ hi_ s a X hf hv hn hS
      match i_, hi_ with
      | 0, _ => exact stepV rfl rfl (execAsgB rfl rfl) ⟨s, ⟨_, rfl, rfl⟩, hS, fun _ _ => rfl⟩
      | k_ + 1, h_ => exact absurd h_ (by simp)
    rintro _ a X4 h1 h2 h3 h4 hS
    clear BB
    clear FO
    clear Fg
    replace hS : Below V.heap.size V X4 ∧ (X4.ownsRow V.heap.size 3 1 (.slice (some ⟨g4, 0, none⟩) n n) (n) (intsL (n) (fun j => (posN (gN f) j 0 : Int)))) ∧ (V.heap.size ≤ g4) := hS
    obtain ⟨BB, FO, Fg⟩ := hS
    replace t0 := (h3 0 (by decide)).trans t0
    replace t4 := (h3 4 (by decide)).trans t4
    have t5 : a.eval (.tmp 5) = .int .i64 ((0 : Nat) : Int) := h4 0 _ rfl _ rfl
    replace A := (⟨h1, h2.trans A.2⟩ : a.tmps.size = 26 ∧ a.defers = [])
    clear h1 h2 h3 h4
    refine wp_block ?_
    refine wp_loop (fun a W => ∃ (i : Nat), i ≤ n ∧ (a.tmps.size = 26 ∧ a.defers = []) ∧ a.eval (.tmp 0) = .slice ia n ic ∧ a.eval (.tmp 4) = .slice (some ⟨g4, 0, none⟩) n n ∧ a.eval (.tmp 5) = .int .i64 ((i : Nat) : Int) ∧ Below V.heap.size V W ∧ (W.ownsRow V.heap.size 3 1 (.slice (some ⟨g4, 0, none⟩) n n) (n) (intsL (n) (fun j => (posN (gN f) j i : Int))))) (fun a _ => n - (intOf (a.eval (.tmp 5))).toNat) ⟨0, Nat.zero_le _, A, t0, t4, t5, BB, FO⟩ ?_
    clear A t0 t4 t5 BB FO a
    rintro a XL5 ⟨i, hi, A, t0, t4, t5, BB, FO⟩
    have es := t5
    refine wp_seq ?_
    refine wp_seq ?_
    refine wp_region_sq (σ := Unit) 26 [(0, 12), (1, 13), (2, 14), (3, 15)] (fun j_ s X => match j_ with | 0 => Below V.heap.size V X ∧ (X.ownsRow V.heap.size 3 1 (.slice (some ⟨g4, 0, none⟩) n n) (n) (intsL (n) (fun j => (posN (gN f) j i : Int)))) | 1 => Below V.heap.size V X ∧ (X.ownsRow V.heap.size 3 1 (.slice (some ⟨g4, 0, none⟩) n n) (n) (intsL (n) (fun j => (posN (gN f) j i : Int)))) | 2 => Below V.heap.size V X ∧ (X.ownsRow V.heap.size 3 1 (.slice (some ⟨g4, 0, none⟩) n n) (n) (intsL (n) (fun j => (posN (gN f) j i : Int)))) | 3 => Below V.heap.size V X ∧ (X.ownsRow V.heap.size 3 1 (.slice (some ⟨g4, 0, none⟩) n n) (n) (intsL (n) (fun j => (posN (gN f) j i : Int)))) | _ => Below V.heap.size V X ∧ (X.ownsRow V.heap.size 3 1 (.slice (some ⟨g4, 0, none⟩) n n) (n) (intsL (n) (fun j => (posN (gN f) j i : Int))))) (fun s => fun i_ => match i_ with | 0 => .int .i64 ((i : Nat) : Int) | 1 => .slice ia n ic | 2 => .int .i64 ((n : Nat) : Int) | 3 => .bool (decide (i < n)) | _ => undef) () A.1 (by kernel_rfl) (by decide) (by decide) ⟨BB, FO⟩ ?_ ?_
    · intro i_ hi_ s a X hf hv hn hS
      match i_, hi_ with
      | 0, _ => exact stepV rfl rfl (execMvB rfl ((hf 5 (by decide)).trans t5)) ⟨s, ⟨_, rfl, rfl⟩, hS, fun _ _ => rfl⟩
      | 1, _ => exact stepV rfl rfl (execMvB rfl ((hf 0 (by decide)).trans t0)) ⟨s, ⟨_, rfl, rfl⟩, hS, fun _ _ => rfl⟩
      | 2, _ => exact stepV rfl rfl (execLenI (len := n) rfl (hv 1 (by omega) _ rfl _ rfl) ((FI.on hS.1)).shp) ⟨s, ⟨_, rfl, rfl⟩, hS, fun _ _ => rfl⟩
      | 3, _ => exact stepV rfl rfl (execLtW (p := i) (q := n) rfl (hv 0 (by omega) _ rfl _ rfl) (hv 2 (by omega) _ rfl _ rfl)) ⟨s, ⟨_, rfl, rfl⟩, hS, fun _ _ => rfl⟩
      | k_ + 4, h_ => exact absurd h_ (by simp)
    rintro _ a X5 h1 h2 h3 h4 hS
    clear BB
    clear FO
    replace hS : Below V.heap.size V X5 ∧ (X5.ownsRow V.heap.size 3 1 (.slice (some ⟨g4, 0, none⟩) n n) (n) (intsL (n) (fun j => (posN (gN f) j i : Int)))) := hS
    obtain ⟨BB, FO⟩ := hS
    replace t0 := (h3 0 (by decide)).trans t0
    replace t4 := (h3 4 (by decide)).trans t4
    replace t5 := (h3 5 (by decide)).trans t5
    have t15 : a.eval (.tmp 15) = .bool (decide (i < n)) := h4 3 _ rfl _ rfl
    replace A := (⟨h1, h2.trans A.2⟩ : a.tmps.size = 26 ∧ a.defers = [])
    clear h1 h2 h3 h4
    by_cases hlt : i < n
    · rw [decide_eq_true hlt] at t15
      refine wp_cond_true t15 ?_
      refine wp_skip ?_
      clear t15
      refine wp_seq ?_
      refine wp_block ?_
      obtain ⟨w, ew⟩ : ∃ w : Nat, f i = w := ⟨(f i).toNat, by have := hrange i hlt; omega⟩
      have hw : w < n := by have := hrange i hlt; omega
      obtain ⟨ib, io, rfl, hib, hcell⟩ := hsh (by omega)
      have cI : ∀ k, k < n → ∀ X, Below V.heap.size V X → X.cell? ⟨ib, io + k, none⟩ = some (.int .i64 (f k)) := fun k hk X hX => by rw [cell_below hX hib]; exact hcell k hk
      have cW : ∀ X, Below V.heap.size V X → X.cell? ⟨ib, io + i, none⟩ = some (.int .i64 ((w : Nat) : Int)) := fun X hX => by rw [cI i hlt X hX, ew]
      refine wp_region_sq (σ := Unit) 26 [(0, 18), (1, 19), (2, 20), (3, 21), (4, 22), (5, 23), (6, 24)] (fun j_ s X => match j_ with | 0 => Below V.heap.size V X ∧ (X.ownsRow V.heap.size 3 1 (.slice (some ⟨g4, 0, none⟩) n n) (n) (intsL (n) (fun j => (posN (gN f) j i : Int)))) | 1 => Below V.heap.size V X ∧ (X.ownsRow V.heap.size 3 1 (.slice (some ⟨g4, 0, none⟩) n n) (n) (intsL (n) (fun j => (posN (gN f) j i : Int)))) | 2 => Below V.heap.size V X ∧ (X.ownsRow V.heap.size 3 1 (.slice (some ⟨g4, 0, none⟩) n n) (n) (intsL (n) (fun j => (posN (gN f) j i : Int)))) | 3 => Below V.heap.size V X ∧ (X.ownsRow V.heap.size 3 1 (.slice (some ⟨g4, 0, none⟩) n n) (n) (intsL (n) (fun j => (posN (gN f) j i : Int)))) | 4 => Below V.heap.size V X ∧ (X.ownsRow V.heap.size 3 1 (.slice (some ⟨g4, 0, none⟩) n n) (n) (intsL (n) (fun j => (posN (gN f) j i : Int)))) | 5 => Below V.heap.size V X ∧ (X.ownsRow V.heap.size 3 1 (.slice (some ⟨g4, 0, none⟩) n n) (n) (intsL (n) (fun j => (posN (gN f) j i : Int)))) | 6 => Below V.heap.size V X ∧ (X.ownsRow V.heap.size 3 1 (.slice (some ⟨g4, 0, none⟩) n n) (n) (intsL (n) (fun j => (posN (gN f) j i : Int)))) | 7 => Below V.heap.size V X ∧ (X.ownsRow V.heap.size 3 1 (.slice (some ⟨g4, 0, none⟩) n n) (n) (intsL (n) (fun j => (posN (gN f) j i : Int)))) | _ => Below V.heap.size V X ∧ (X.ownsRow V.heap.size 3 1 (.slice (some ⟨g4, 0, none⟩) n n) (n) (intsL (n) (fun j => (posN (gN f) j (i + 1) : Int))))) (fun s => fun i_ => match i_ with | 0 => .slice (some ⟨g4, 0, none⟩) n n | 1 => .slice (some ⟨ib, io, none⟩) n ic | 2 => .int .i64 ((i : Nat) : Int) | 3 => .pointer (some ⟨ib, io + i, none⟩) | 4 => .int .i64 ((w : Nat) : Int) | 5 => .int .i64 ((i : Nat) : Int) | 6 => .pointer (some ⟨g4, 0 + w, none⟩) | 7 => undef | _ => undef) () A.1 (by kernel_rfl) (by decide) (by decide) ⟨BB, FO⟩ ?_ ?_
      · intro i_ hi_ s a X hf hv hn hS
        match i_, hi_ with
        | 0, _ => exact stepV rfl rfl (execMvB rfl ((hf 4 (by decide)).trans t4)) ⟨s, ⟨_, rfl, rfl⟩, hS, fun _ _ => rfl⟩
        | 1, _ => exact stepV rfl rfl (execMvB rfl ((hf 0 (by decide)).trans t0)) ⟨s, ⟨_, rfl, rfl⟩, hS, fun _ _ => rfl⟩
        | 2, _ => exact stepV rfl rfl (execMvB rfl ((hf 5 (by decide)).trans t5)) ⟨s, ⟨_, rfl, rfl⟩, hS, fun _ _ => rfl⟩
        | 3, _ => exact stepV rfl rfl (execIdxN (k := i) rfl (hv 1 (by omega) _ rfl _ rfl) (hv 2 (by omega) _ rfl _ rfl) hlt) ⟨s, ⟨_, rfl, rfl⟩, hS, fun _ _ => rfl⟩
        | 4, _ => exact stepV rfl rfl (execLd3 rfl (hv 3 (by omega) _ rfl _ rfl) (cW X hS.1)) ⟨s, ⟨_, rfl, rfl⟩, hS, fun _ _ => rfl⟩
        | 5, _ => exact stepV rfl rfl (execMvB rfl ((hf 5 (by decide)).trans t5)) ⟨s, ⟨_, rfl, rfl⟩, hS, fun _ _ => rfl⟩
        | 6, _ => exact stepV rfl rfl (execIdxN (k := w) rfl (hv 0 (by omega) _ rfl _ rfl) (hv 4 (by omega) _ rfl _ rfl) hw) ⟨s, ⟨_, rfl, rfl⟩, hS, fun _ _ => rfl⟩
        | 7, _ =>
          obtain ⟨hc_, hf_⟩ := own_cellI hS.2 hw
          refine stepS rfl rfl (execStI9 rfl (hv 6 (by omega) _ rfl _ rfl) (hv 5 (by omega) _ rfl _ rfl) hc_ hf_) ⟨s, ⟨_, rfl, rfl⟩, ⟨(hS.1).setCell Fg _, inv_set hS.2 ew⟩, fun i hi => ?_⟩
          match i, hi with
          | 0, _ => rfl
          | 1, _ => rfl
          | 2, _ => rfl
          | 3, _ => rfl
          | 4, _ => rfl
          | 5, _ => rfl
          | 6, _ => rfl
          | n_ + 7, h_ => omega
        | k_ + 8, h_ => exact absurd h_ (by simp)
      rintro _ a X7 h1 h2 h3 h4 hS
      clear BB
      clear FO
      replace hS : Below V.heap.size V X7 ∧ (X7.ownsRow V.heap.size 3 1 (.slice (some ⟨g4, 0, none⟩) n n) (n) (intsL (n) (fun j => (posN (gN f) j (i + 1) : Int)))) := hS
      obtain ⟨BB, FO2⟩ := hS
      replace t0 := (h3 0 (by decide)).trans t0
      replace t4 := (h3 4 (by decide)).trans t4
      replace t5 := (h3 5 (by decide)).trans t5
      replace A := (⟨h1, h2.trans A.2⟩ : a.tmps.size = 26 ∧ a.defers = [])
      clear h1 h2 h3 h4
      refine wp_region_sq (σ := Unit) 26 [(0, 16), (1, 17), (2, 5)] (fun j_ s X => match j_ with | 0 => Below V.heap.size V X ∧ (X.ownsRow V.heap.size 3 1 (.slice (some ⟨g4, 0, none⟩) n n) (n) (intsL (n) (fun j => (posN (gN f) j (i + 1) : Int)))) | 1 => Below V.heap.size V X ∧ (X.ownsRow V.heap.size 3 1 (.slice (some ⟨g4, 0, none⟩) n n) (n) (intsL (n) (fun j => (posN (gN f) j (i + 1) : Int)))) | 2 => Below V.heap.size V X ∧ (X.ownsRow V.heap.size 3 1 (.slice (some ⟨g4, 0, none⟩) n n) (n) (intsL (n) (fun j => (posN (gN f) j (i + 1) : Int)))) | _ => Below V.heap.size V X ∧ (X.ownsRow V.heap.size 3 1 (.slice (some ⟨g4, 0, none⟩) n n) (n) (intsL (n) (fun j => (posN (gN f) j (i + 1) : Int))))) (fun s => fun i_ => match i_ with | 0 => .int .i64 ((i : Nat) : Int) | 1 => .int .i64 ((i + 1 : Nat) : Int) | 2 => .int .i64 ((i + 1 : Nat) : Int) | _ => undef) () A.1 (by kernel_rfl) (by decide) (by decide) ⟨BB, FO2⟩ ?_ ?_
      · intro i_ hi_ s a X hf hv hn hS
        match i_, hi_ with
        | 0, _ => exact stepV rfl rfl (execMvB rfl ((hn 2 (by omega) _ rfl _ rfl).trans t5)) ⟨s, ⟨_, rfl, rfl⟩, hS, fun _ _ => rfl⟩
        | 1, _ => exact stepV rfl rfl (execAd8 (p := i) (q := 1) rfl (hv 0 (by omega) _ rfl _ rfl) rfl (by omega)) ⟨s, ⟨_, rfl, rfl⟩, hS, fun _ _ => rfl⟩
        | 2, _ => exact stepV rfl rfl (execAsgB rfl (hv 1 (by omega) _ rfl _ rfl)) ⟨s, ⟨_, rfl, rfl⟩, hS, fun _ _ => rfl⟩
        | k_ + 3, h_ => exact absurd h_ (by simp)
      rintro _ a X6 h1 h2 h3 h4 hS
      clear BB
      clear FO2
      replace hS : Below V.heap.size V X6 ∧ (X6.ownsRow V.heap.size 3 1 (.slice (some ⟨g4, 0, none⟩) n n) (n) (intsL (n) (fun j => (posN (gN f) j (i + 1) : Int)))) := hS
      obtain ⟨BB, FO2⟩ := hS
      replace t0 := (h3 0 (by decide)).trans t0
      replace t4 := (h3 4 (by decide)).trans t4
      replace t5 : a.eval (.tmp 5) = .int .i64 ((i + 1 : Nat) : Int) := h4 2 _ rfl _ rfl
      replace A := (⟨h1, h2.trans A.2⟩ : a.tmps.size = 26 ∧ a.defers = [])
      clear h1 h2 h3 h4
      exact ⟨⟨i + 1, hlt, A, t0, t4, t5, BB, FO2⟩, by show n - (intOf (a.eval (.tmp 5))).toNat < n - (intOf (Act.eval _ (.tmp 5))).toNat; rw [t5, es]; show n - (i + 1) < n - i; omega⟩
    · rw [decide_eq_false hlt] at t15
      refine wp_cond_false t15 ?_
      refine wp_exit ?_
      first | refine exit_in ?_ | refine exit_then (exit_in ?_) | refine exit_then (exit_then (exit_in ?_))
      clear t15 es
      have hin : i = n := by omega
      rw [hin] at FO
      refine wp_seq ?_
      refine wp_region_sq (σ := Unit) 26 [(0, 25), (1, 2), (2, 3)] (fun j_ s X => match j_ with | 0 => Below V.heap.size V X ∧ (X.ownsRow V.heap.size 3 1 (.slice (some ⟨g4, 0, none⟩) n n) (n) (intsL (n) (fun j => (posN (gN f) j n : Int)))) | 1 => Below V.heap.size V X ∧ (X.ownsRow V.heap.size 3 1 (.slice (some ⟨g4, 0, none⟩) n n) (n) (intsL (n) (fun j => (posN (gN f) j n : Int)))) | 2 => Below V.heap.size V X ∧ (X.ownsRow V.heap.size 3 1 (.slice (some ⟨g4, 0, none⟩) n n) (n) (intsL (n) (fun j => (posN (gN f) j n : Int)))) | _ => Below V.heap.size V X ∧ (X.ownsRow V.heap.size 3 1 (.slice (some ⟨g4, 0, none⟩) n n) (n) (intsL (n) (fun j => (posN (gN f) j n : Int))))) (fun s => fun i_ => match i_ with | 0 => .slice (some ⟨g4, 0, none⟩) n n | 1 => .slice (some ⟨g4, 0, none⟩) n n | 2 => .int .i64 ((0 : Nat) : Int) | _ => undef) () A.1 (by kernel_rfl) (by decide) (by decide) ⟨BB, FO⟩ ?_ ?_
      · intro i_ hi_ s a X hf hv hn hS
        match i_, hi_ with
        | 0, _ => exact stepV rfl rfl (execMvB rfl ((hf 4 (by decide)).trans t4)) ⟨s, ⟨_, rfl, rfl⟩, hS, fun _ _ => rfl⟩
        | 1, _ => exact stepV rfl rfl (execAsgB rfl (hv 0 (by omega) _ rfl _ rfl)) ⟨s, ⟨_, rfl, rfl⟩, hS, fun _ _ => rfl⟩
        | 2, _ => exact stepV rfl rfl (execAsgB rfl rfl) ⟨s, ⟨_, rfl, rfl⟩, hS, fun _ _ => rfl⟩
        | k_ + 3, h_ => exact absurd h_ (by simp)
      rintro _ a X8 h1 h2 h3 h4 hS
      clear BB
      clear FO
      replace hS : Below V.heap.size V X8 ∧ (X8.ownsRow V.heap.size 3 1 (.slice (some ⟨g4, 0, none⟩) n n) (n) (intsL (n) (fun j => (posN (gN f) j n : Int)))) := hS
      obtain ⟨BB, FO⟩ := hS
      have t2 : a.eval (.tmp 2) = .slice (some ⟨g4, 0, none⟩) n n := h4 1 _ rfl _ rfl
      have t3 : a.eval (.tmp 3) = .int .i64 ((0 : Nat) : Int) := h4 2 _ rfl _ rfl
      replace A := (⟨h1, h2.trans A.2⟩ : a.tmps.size = 26 ∧ a.defers = [])
      clear h1 h2 h3 h4
      clear t0 t4 t5
      have hE : pE f n = 0 := pE_ok hok
      rw [hE, zl_ok]
      refine wp_ret ?_
      refine bodyPost_ret (results_tmp2 rfl _ _ _) A.2 ⟨_, ?_, FO, BB⟩
      show Ending.returned (.tuple #[a.eval (.tmp 2), a.eval (.tmp 3)]) = _
      rw [t2, t3]
  · refine wp_region_sq (σ := Unit) 26 [(0, 6), (1, 7), (2, 8)] (fun j_ s X => match j_ with | 0 => Below V.heap.size V X | 1 => Below V.heap.size V X | 2 => Below V.heap.size V X | _ => Below V.heap.size V X) (fun s => fun i_ => match i_ with | 0 => .slice ia n ic | 1 => .int .i64 ((pE f n : Nat) : Int) | 2 => .bool true | _ => undef) () A.1 (by kernel_rfl) (by decide) (by decide) (BB) ?_ ?_
    · intro i_ hi_ s a X hf hv hn hS
      match i_, hi_ with
      | 0, _ => exact stepV rfl rfl (execMvB rfl ((hf 0 (by decide)).trans t0)) ⟨s, ⟨_, rfl, rfl⟩, hS, fun _ _ => rfl⟩
      | 1, _ => exact stepC rfl rfl (execCall1 Try.func33 (by kernel_rfl) (by kernel_rfl) rfl (hv 0 (by omega) _ rfl _ rfl)) (rcheck f n _ X (FI.on hS) hn17) fun e w' hh => ⟨_, hh.1, s, ⟨_, rfl, rfl⟩, (hS).trans ((hh.2).mono (hS).size), fun _ _ => rfl⟩
      | 2, _ => exact stepV rfl rfl (execDec (execNeN (p := pE f n) (q := 0) rfl (hv 1 (by omega) _ rfl _ rfl) rfl) (decide_eq_true (by have := pE_no hok; omega))) ⟨s, ⟨_, rfl, rfl⟩, hS, fun _ _ => rfl⟩
      | k_ + 3, h_ => exact absurd h_ (by simp)
    rintro _ a X1 h1 h2 h3 h4 hS
    clear BB
    replace hS : Below V.heap.size V X1 := hS
    have BB := hS
    clear hS
    replace t0 := (h3 0 (by decide)).trans t0
    have t8 : a.eval (.tmp 8) = .bool true := h4 2 _ rfl _ rfl
    replace A := (⟨h1, h2.trans A.2⟩ : a.tmps.size = 26 ∧ a.defers = [])
    clear h1 h2 h3 h4
    refine wp_cond_true t8 ?_
    refine wp_seq ?_
    refine wp_region_sq (σ := Unit) 26 [(0, 2), (1, 3)] (fun j_ s X => match j_ with | 0 => Below V.heap.size V X | 1 => Below V.heap.size V X | _ => Below V.heap.size V X) (fun s => fun i_ => match i_ with | 0 => .slice none 0 0 | 1 => .int .i64 ((110 : Nat) : Int) | _ => undef) () A.1 (by kernel_rfl) (by decide) (by decide) (BB) ?_ ?_
    · intro i_ hi_ s a X hf hv hn hS
      match i_, hi_ with
      | 0, _ => exact stepV rfl rfl (execAsgB rfl rfl) ⟨s, ⟨_, rfl, rfl⟩, hS, fun _ _ => rfl⟩
      | 1, _ => exact stepV rfl rfl (execAsgB rfl rfl) ⟨s, ⟨_, rfl, rfl⟩, hS, fun _ _ => rfl⟩
      | k_ + 2, h_ => exact absurd h_ (by simp)
    rintro _ a X2 h1 h2 h3 h4 hS
    clear BB
    replace hS : Below V.heap.size V X2 := hS
    have BB := hS
    clear hS
    have t2 : a.eval (.tmp 2) = .slice none 0 0 := h4 0 _ rfl _ rfl
    have t3 : a.eval (.tmp 3) = .int .i64 ((110 : Nat) : Int) := h4 1 _ rfl _ rfl
    replace A := (⟨h1, h2.trans A.2⟩ : a.tmps.size = 26 ∧ a.defers = [])
    clear h1 h2 h3 h4
    clear t0
    have hE : pE f n = 110 := pE_no hok
    rw [hE, zl_no (by decide)]
    refine wp_ret ?_
    repeat (first | refine ret_in ?_ | refine ret_then ?_)
    refine bodyPost_ret (results_tmp2 rfl _ _ _) A.2 ⟨_, ?_, World.ownsRow_nil _ _ _ _, BB⟩
    show Ending.returned (.tuple #[a.eval (.tmp 2), a.eval (.tmp 3)]) = _
    rw [t2, t3]
set_option maxRecDepth 100000 in
set_option maxHeartbeats 4000000 in
/-- The reference's Compose. -/
theorem rcompose (f g : Nat → Int) (n m : Nat) (v u0 : Value) (V : World) (hv : SliceI V v n f) (hn17 : n ≤ 17592186044416) (hu : SliceI V u0 m g) (hm17 : m ≤ 17592186044416) :
    Calls Try.prog 26 #[v, u0] V fun e w' => ∃ r, e = .returned (.tuple #[r, .int .i64 ((coE f n g m : Nat) : Int)]) ∧ w'.ownsRow V.heap.size 3 1 r (zl (coE f n g m) n) (intsL (zl (coE f n g m) n) (fun j => g (f j).toNat)) ∧ Below V.heap.size V w' := by
  have FI := hv
  have FJ := hu
  go_enter Try.func26, Try.ntmps26
  refine wp_seq ?_
  refine wp_region_sqK 24 [(0, 4), (1, 5)] (fun i_ => match i_ with | 0 => .slice none 0 0 | 1 => .int .i64 ((0 : Nat) : Int) | _ => undef) rfl (by kernel_rfl) (by decide) (by decide) ?_ ?_
  · intro i_ hi_ a hf hv hn
    match i_, hi_ with
    | 0, _ => exact stepV rfl rfl (execAsgB rfl rfl) ⟨⟨_, rfl, rfl⟩, rfl⟩
    | 1, _ => exact stepV rfl rfl (execAsgB rfl rfl) ⟨⟨_, rfl, rfl⟩, rfl⟩
    | k_ + 2, h_ => exact absurd h_ (by simp)
  intro a h1 h2 h3 h4
  have t0 : a.eval (.tmp 0) = v := (h3 0 (by decide)).trans rfl
  have t1 : a.eval (.tmp 1) = u0 := (h3 1 (by decide)).trans rfl
  have A : a.tmps.size = 24 ∧ a.defers = [] := ⟨h1, h2⟩
  have BW : Below V.heap.size V V := Below.refl _ _
  clear h1 h2 h3 h4
  have BB := BW
  refine wp_seq ?_
  refine wp_seq ?_
  by_cases h1 : okQ f n n = true
  · by_cases h2 : okQ g m m = true
    · by_cases h3 : n = m
      · refine wp_region_sq (σ := Unit) 24 [(0, 6), (1, 7), (2, 8), (3, 9), (4, 10), (5, 11), (6, 12), (7, 13), (8, 14), (9, 15), (10, 16), (11, 17), (12, 18), (13, 19), (14, 20)] (fun j_ s X => match j_ with | 0 => Below V.heap.size V X | 1 => Below V.heap.size V X | 2 => Below V.heap.size V X | 3 => Below V.heap.size V X | 4 => Below V.heap.size V X | 5 => Below V.heap.size V X | 6 => Below V.heap.size V X | 7 => Below V.heap.size V X | 8 => Below V.heap.size V X | 9 => Below V.heap.size V X | 10 => Below V.heap.size V X | 11 => Below V.heap.size V X | 12 => Below V.heap.size V X | 13 => Below V.heap.size V X | 14 => Below V.heap.size V X | _ => Below V.heap.size V X) (fun s => fun i_ => match i_ with | 0 => v | 1 => .int .i64 ((pE f n : Nat) : Int) | 2 => .bool false | 3 => .bool false | 4 => u0 | 5 => .int .i64 ((pE g m : Nat) : Int) | 6 => .bool false | 7 => .bool false | 8 => .bool false | 9 => v | 10 => .int .i64 ((n : Nat) : Int) | 11 => u0 | 12 => .int .i64 ((m : Nat) : Int) | 13 => .bool false | 14 => .bool false | _ => undef) () A.1 (by kernel_rfl) (by decide) (by decide) (BB) ?_ ?_
        · intro i_ hi_ s a X hf hv hn hS
          match i_, hi_ with
          | 0, _ => exact stepV rfl rfl (execMvB rfl ((hf 0 (by decide)).trans t0)) ⟨s, ⟨_, rfl, rfl⟩, hS, fun _ _ => rfl⟩
          | 1, _ => exact stepC rfl rfl (execCall1 Try.func33 (by kernel_rfl) (by kernel_rfl) rfl (hv 0 (by omega) _ rfl _ rfl)) (rcheck f n _ X (FI.on hS) hn17) fun e w' hh => ⟨_, hh.1, s, ⟨_, rfl, rfl⟩, (hS).trans ((hh.2).mono (hS).size), fun _ _ => rfl⟩
          | 2, _ => exact stepV rfl rfl (execDec (execNeN (p := pE f n) (q := 0) rfl (hv 1 (by omega) _ rfl _ rfl) rfl) (decide_eq_false (by have := pE_ok h1; omega))) ⟨s, ⟨_, rfl, rfl⟩, hS, fun _ _ => rfl⟩
          | 3, _ => exact stepV rfl rfl (execMvB rfl (hv 2 (by omega) _ rfl _ rfl)) ⟨s, ⟨_, rfl, rfl⟩, hS, fun _ _ => rfl⟩
          | 4, _ => exact stepV rfl (wantedOf rfl (yieldedAt rfl rfl (show a.eval (.tmp 9) = .bool false from (hv 3 (by omega) _ rfl _ rfl)))) (execMvB rfl ((hf 1 (by decide)).trans t1)) ⟨s, ⟨_, rfl, rfl⟩, hS, fun _ _ => rfl⟩
          | 5, _ => exact stepC rfl (wantedOf rfl (yieldedAt rfl rfl (show a.eval (.tmp 9) = .bool false from (hv 3 (by omega) _ rfl _ rfl)))) (execCall1 Try.func33 (by kernel_rfl) (by kernel_rfl) rfl (hv 4 (by omega) _ rfl _ rfl)) (rcheck g m _ X (FJ.on hS) hm17) fun e w' hh => ⟨_, hh.1, s, ⟨_, rfl, rfl⟩, (hS).trans ((hh.2).mono (hS).size), fun _ _ => rfl⟩
          | 6, _ => exact stepV rfl (wantedOf rfl (yieldedAt rfl rfl (show a.eval (.tmp 9) = .bool false from (hv 3 (by omega) _ rfl _ rfl)))) (execDec (execNeN (p := pE g m) (q := 0) rfl (hv 5 (by omega) _ rfl _ rfl) rfl) (decide_eq_false (by have := pE_ok h2; omega))) ⟨s, ⟨_, rfl, rfl⟩, hS, fun _ _ => rfl⟩
          | 7, _ => exact stepV rfl rfl (execPickF rfl (hv 3 (by omega) _ rfl _ rfl) (hv 6 (by omega) _ rfl _ rfl)) ⟨s, ⟨_, rfl, rfl⟩, hS, fun _ _ => rfl⟩
          | 8, _ => exact stepV rfl rfl (execMvB rfl (hv 7 (by omega) _ rfl _ rfl)) ⟨s, ⟨_, rfl, rfl⟩, hS, fun _ _ => rfl⟩
          | 9, _ => exact stepV rfl (wantedOf rfl (yieldedAt rfl rfl (show a.eval (.tmp 14) = .bool false from (hv 8 (by omega) _ rfl _ rfl)))) (execMvB rfl ((hf 0 (by decide)).trans t0)) ⟨s, ⟨_, rfl, rfl⟩, hS, fun _ _ => rfl⟩
          | 10, _ => exact stepV rfl (wantedOf rfl (yieldedAt rfl rfl (show a.eval (.tmp 14) = .bool false from (hv 8 (by omega) _ rfl _ rfl)))) (execLenI (len := n) rfl (hv 9 (by omega) _ rfl _ rfl) ((FI.on hS)).shp) ⟨s, ⟨_, rfl, rfl⟩, hS, fun _ _ => rfl⟩
          | 11, _ => exact stepV rfl (wantedOf rfl (yieldedAt rfl rfl (show a.eval (.tmp 14) = .bool false from (hv 8 (by omega) _ rfl _ rfl)))) (execMvB rfl ((hf 1 (by decide)).trans t1)) ⟨s, ⟨_, rfl, rfl⟩, hS, fun _ _ => rfl⟩
          | 12, _ => exact stepV rfl (wantedOf rfl (yieldedAt rfl rfl (show a.eval (.tmp 14) = .bool false from (hv 8 (by omega) _ rfl _ rfl)))) (execLenI (len := m) rfl (hv 11 (by omega) _ rfl _ rfl) ((FJ.on hS)).shp) ⟨s, ⟨_, rfl, rfl⟩, hS, fun _ _ => rfl⟩
          | 13, _ => exact stepV rfl (wantedOf rfl (yieldedAt rfl rfl (show a.eval (.tmp 14) = .bool false from (hv 8 (by omega) _ rfl _ rfl)))) (execDec (execNeN (p := n) (q := m) rfl (hv 10 (by omega) _ rfl _ rfl) (hv 12 (by omega) _ rfl _ rfl)) (decide_eq_false (by omega))) ⟨s, ⟨_, rfl, rfl⟩, hS, fun _ _ => rfl⟩
          | 14, _ => exact stepV rfl rfl (execPickF rfl (hv 8 (by omega) _ rfl _ rfl) (hv 13 (by omega) _ rfl _ rfl)) ⟨s, ⟨_, rfl, rfl⟩, hS, fun _ _ => rfl⟩
          | k_ + 15, h_ => exact absurd h_ (by simp)
        rintro _ a X1 h1 h2 h3 h4 hS
        clear BB
        replace hS : Below V.heap.size V X1 := hS
        have BB := hS
        clear hS
        replace t0 := (h3 0 (by decide)).trans t0
        replace t1 := (h3 1 (by decide)).trans t1
        have t20 : a.eval (.tmp 20) = .bool false := h4 14 _ rfl _ rfl
        replace A := (⟨h1, h2.trans A.2⟩ : a.tmps.size = 24 ∧ a.defers = [])
        clear h1 h2 h3 h4
        refine wp_cond_false t20 ?_
        refine wp_skip ?_
        clear t20
        have hfl : ∀ i, i < n → 0 ≤ f i ∧ f i < m := fun i hi => by have := (okQ_iff.1 h1).1 i hi; omega
        refine wp_seq ?_
        refine wp_region_sq (σ := Value) 24 [(0, 21), (1, 22), (2, 23), (3, 4), (4, 5)] (fun j_ s X => match j_ with | 0 => Below V.heap.size V X | 1 => Below V.heap.size V X | 2 => Below V.heap.size V X | 3 => Below V.heap.size V X ∧ (X.ownsRow V.heap.size 3 1 s (n) (intsL (n) (fun j => g (f j).toNat))) | 4 => Below V.heap.size V X ∧ (X.ownsRow V.heap.size 3 1 s (n) (intsL (n) (fun j => g (f j).toNat))) | _ => Below V.heap.size V X ∧ (X.ownsRow V.heap.size 3 1 s (n) (intsL (n) (fun j => g (f j).toNat)))) (fun s => fun i_ => match i_ with | 0 => v | 1 => u0 | 2 => s | 3 => s | 4 => .int .i64 ((0 : Nat) : Int) | _ => undef) undef A.1 (by kernel_rfl) (by decide) (by decide) (BB) ?_ ?_
        · intro i_ hi_ s a X hf hv hn hS
          match i_, hi_ with
          | 0, _ => exact stepV rfl rfl (execMvB rfl ((hf 0 (by decide)).trans t0)) ⟨s, ⟨_, rfl, rfl⟩, hS, fun _ _ => rfl⟩
          | 1, _ => exact stepV rfl rfl (execMvB rfl ((hf 1 (by decide)).trans t1)) ⟨s, ⟨_, rfl, rfl⟩, hS, fun _ _ => rfl⟩
          | 2, _ =>
            refine stepC rfl rfl (execCall2 Try.func42 (by kernel_rfl) (by kernel_rfl) rfl (hv 0 (by omega) _ rfl _ rfl) (hv 1 (by omega) _ rfl _ rfl)) (rput f g n m _ _ X (FI.on hS) hn17 (FJ.on hS) hfl) fun e w' hh => ?_
            obtain ⟨r_, he, hk, hb⟩ := hh
            refine ⟨_, he, r_, ⟨_, rfl, rfl⟩, ⟨(hS).trans ((hb).mono (hS).size), ownD_base hk (hS).size⟩, fun i hi => ?_⟩
            match i, hi with
            | 0, _ => rfl
            | 1, _ => rfl
            | n_ + 2, h_ => omega
          | 3, _ => exact stepV rfl rfl (execAsgB rfl (hv 2 (by omega) _ rfl _ rfl)) ⟨s, ⟨_, rfl, rfl⟩, hS, fun _ _ => rfl⟩
          | 4, _ => exact stepV rfl rfl (execAsgB rfl rfl) ⟨s, ⟨_, rfl, rfl⟩, hS, fun _ _ => rfl⟩
          | k_ + 5, h_ => exact absurd h_ (by simp)
        rintro r9 a X3 h1 h2 h3 h4 hS
        clear BB
        replace hS : Below V.heap.size V X3 ∧ (X3.ownsRow V.heap.size 3 1 r9 (n) (intsL (n) (fun j => g (f j).toNat))) := hS
        obtain ⟨BB, FO⟩ := hS
        have t4 : a.eval (.tmp 4) = r9 := h4 3 _ rfl _ rfl
        have t5 : a.eval (.tmp 5) = .int .i64 ((0 : Nat) : Int) := h4 4 _ rfl _ rfl
        replace A := (⟨h1, h2.trans A.2⟩ : a.tmps.size = 24 ∧ a.defers = [])
        clear h1 h2 h3 h4
        clear t0 t1
        have hE : coE f n g m = 0 := if_pos ⟨pE_ok h1, pE_ok h2, h3⟩
        rw [hE, zl_ok]
        refine wp_ret ?_
        refine bodyPost_ret (results_tmp2 rfl _ _ _) A.2 ⟨_, ?_, FO, BB⟩
        show Ending.returned (.tuple #[a.eval (.tmp 4), a.eval (.tmp 5)]) = _
        rw [t4, t5]
      · refine wp_region_sq (σ := Unit) 24 [(0, 6), (1, 7), (2, 8), (3, 9), (4, 10), (5, 11), (6, 12), (7, 13), (8, 14), (9, 15), (10, 16), (11, 17), (12, 18), (13, 19), (14, 20)] (fun j_ s X => match j_ with | 0 => Below V.heap.size V X | 1 => Below V.heap.size V X | 2 => Below V.heap.size V X | 3 => Below V.heap.size V X | 4 => Below V.heap.size V X | 5 => Below V.heap.size V X | 6 => Below V.heap.size V X | 7 => Below V.heap.size V X | 8 => Below V.heap.size V X | 9 => Below V.heap.size V X | 10 => Below V.heap.size V X | 11 => Below V.heap.size V X | 12 => Below V.heap.size V X | 13 => Below V.heap.size V X | 14 => Below V.heap.size V X | _ => Below V.heap.size V X) (fun s => fun i_ => match i_ with | 0 => v | 1 => .int .i64 ((pE f n : Nat) : Int) | 2 => .bool false | 3 => .bool false | 4 => u0 | 5 => .int .i64 ((pE g m : Nat) : Int) | 6 => .bool false | 7 => .bool false | 8 => .bool false | 9 => v | 10 => .int .i64 ((n : Nat) : Int) | 11 => u0 | 12 => .int .i64 ((m : Nat) : Int) | 13 => .bool true | 14 => .bool true | _ => undef) () A.1 (by kernel_rfl) (by decide) (by decide) (BB) ?_ ?_
        · intro i_ hi_ s a X hf hv hn hS
          match i_, hi_ with
          | 0, _ => exact stepV rfl rfl (execMvB rfl ((hf 0 (by decide)).trans t0)) ⟨s, ⟨_, rfl, rfl⟩, hS, fun _ _ => rfl⟩
          | 1, _ => exact stepC rfl rfl (execCall1 Try.func33 (by kernel_rfl) (by kernel_rfl) rfl (hv 0 (by omega) _ rfl _ rfl)) (rcheck f n _ X (FI.on hS) hn17) fun e w' hh => ⟨_, hh.1, s, ⟨_, rfl, rfl⟩, (hS).trans ((hh.2).mono (hS).size), fun _ _ => rfl⟩
          | 2, _ => exact stepV rfl rfl (execDec (execNeN (p := pE f n) (q := 0) rfl (hv 1 (by omega) _ rfl _ rfl) rfl) (decide_eq_false (by have := pE_ok h1; omega))) ⟨s, ⟨_, rfl, rfl⟩, hS, fun _ _ => rfl⟩
          | 3, _ => exact stepV rfl rfl (execMvB rfl (hv 2 (by omega) _ rfl _ rfl)) ⟨s, ⟨_, rfl, rfl⟩, hS, fun _ _ => rfl⟩
          | 4, _ => exact stepV rfl (wantedOf rfl (yieldedAt rfl rfl (show a.eval (.tmp 9) = .bool false from (hv 3 (by omega) _ rfl _ rfl)))) (execMvB rfl ((hf 1 (by decide)).trans t1)) ⟨s, ⟨_, rfl, rfl⟩, hS, fun _ _ => rfl⟩
          | 5, _ => exact stepC rfl (wantedOf rfl (yieldedAt rfl rfl (show a.eval (.tmp 9) = .bool false from (hv 3 (by omega) _ rfl _ rfl)))) (execCall1 Try.func33 (by kernel_rfl) (by kernel_rfl) rfl (hv 4 (by omega) _ rfl _ rfl)) (rcheck g m _ X (FJ.on hS) hm17) fun e w' hh => ⟨_, hh.1, s, ⟨_, rfl, rfl⟩, (hS).trans ((hh.2).mono (hS).size), fun _ _ => rfl⟩
          | 6, _ => exact stepV rfl (wantedOf rfl (yieldedAt rfl rfl (show a.eval (.tmp 9) = .bool false from (hv 3 (by omega) _ rfl _ rfl)))) (execDec (execNeN (p := pE g m) (q := 0) rfl (hv 5 (by omega) _ rfl _ rfl) rfl) (decide_eq_false (by have := pE_ok h2; omega))) ⟨s, ⟨_, rfl, rfl⟩, hS, fun _ _ => rfl⟩
          | 7, _ => exact stepV rfl rfl (execPickF rfl (hv 3 (by omega) _ rfl _ rfl) (hv 6 (by omega) _ rfl _ rfl)) ⟨s, ⟨_, rfl, rfl⟩, hS, fun _ _ => rfl⟩
          | 8, _ => exact stepV rfl rfl (execMvB rfl (hv 7 (by omega) _ rfl _ rfl)) ⟨s, ⟨_, rfl, rfl⟩, hS, fun _ _ => rfl⟩
          | 9, _ => exact stepV rfl (wantedOf rfl (yieldedAt rfl rfl (show a.eval (.tmp 14) = .bool false from (hv 8 (by omega) _ rfl _ rfl)))) (execMvB rfl ((hf 0 (by decide)).trans t0)) ⟨s, ⟨_, rfl, rfl⟩, hS, fun _ _ => rfl⟩
          | 10, _ => exact stepV rfl (wantedOf rfl (yieldedAt rfl rfl (show a.eval (.tmp 14) = .bool false from (hv 8 (by omega) _ rfl _ rfl)))) (execLenI (len := n) rfl (hv 9 (by omega) _ rfl _ rfl) ((FI.on hS)).shp) ⟨s, ⟨_, rfl, rfl⟩, hS, fun _ _ => rfl⟩
          | 11, _ => exact stepV rfl (wantedOf rfl (yieldedAt rfl rfl (show a.eval (.tmp 14) = .bool false from (hv 8 (by omega) _ rfl _ rfl)))) (execMvB rfl ((hf 1 (by decide)).trans t1)) ⟨s, ⟨_, rfl, rfl⟩, hS, fun _ _ => rfl⟩
          | 12, _ => exact stepV rfl (wantedOf rfl (yieldedAt rfl rfl (show a.eval (.tmp 14) = .bool false from (hv 8 (by omega) _ rfl _ rfl)))) (execLenI (len := m) rfl (hv 11 (by omega) _ rfl _ rfl) ((FJ.on hS)).shp) ⟨s, ⟨_, rfl, rfl⟩, hS, fun _ _ => rfl⟩
          | 13, _ => exact stepV rfl (wantedOf rfl (yieldedAt rfl rfl (show a.eval (.tmp 14) = .bool false from (hv 8 (by omega) _ rfl _ rfl)))) (execDec (execNeN (p := n) (q := m) rfl (hv 10 (by omega) _ rfl _ rfl) (hv 12 (by omega) _ rfl _ rfl)) (decide_eq_true (by omega))) ⟨s, ⟨_, rfl, rfl⟩, hS, fun _ _ => rfl⟩
          | 14, _ => exact stepV rfl rfl (execPickF rfl (hv 8 (by omega) _ rfl _ rfl) (hv 13 (by omega) _ rfl _ rfl)) ⟨s, ⟨_, rfl, rfl⟩, hS, fun _ _ => rfl⟩
          | k_ + 15, h_ => exact absurd h_ (by simp)
        rintro _ a X1 h1 h2 h3 h4 hS
        clear BB
        replace hS : Below V.heap.size V X1 := hS
        have BB := hS
        clear hS
        replace t0 := (h3 0 (by decide)).trans t0
        replace t1 := (h3 1 (by decide)).trans t1
        have t20 : a.eval (.tmp 20) = .bool true := h4 14 _ rfl _ rfl
        replace A := (⟨h1, h2.trans A.2⟩ : a.tmps.size = 24 ∧ a.defers = [])
        clear h1 h2 h3 h4
        refine wp_cond_true t20 ?_
        refine wp_seq ?_
        refine wp_region_sq (σ := Unit) 24 [(0, 4), (1, 5)] (fun j_ s X => match j_ with | 0 => Below V.heap.size V X | 1 => Below V.heap.size V X | _ => Below V.heap.size V X) (fun s => fun i_ => match i_ with | 0 => .slice none 0 0 | 1 => .int .i64 ((110 : Nat) : Int) | _ => undef) () A.1 (by kernel_rfl) (by decide) (by decide) (BB) ?_ ?_
        · intro i_ hi_ s a X hf hv hn hS
          match i_, hi_ with
          | 0, _ => exact stepV rfl rfl (execAsgB rfl rfl) ⟨s, ⟨_, rfl, rfl⟩, hS, fun _ _ => rfl⟩
          | 1, _ => exact stepV rfl rfl (execAsgB rfl rfl) ⟨s, ⟨_, rfl, rfl⟩, hS, fun _ _ => rfl⟩
          | k_ + 2, h_ => exact absurd h_ (by simp)
        rintro _ a X2 h1 h2 h3 h4 hS
        clear BB
        replace hS : Below V.heap.size V X2 := hS
        have BB := hS
        clear hS
        have t4 : a.eval (.tmp 4) = .slice none 0 0 := h4 0 _ rfl _ rfl
        have t5 : a.eval (.tmp 5) = .int .i64 ((110 : Nat) : Int) := h4 1 _ rfl _ rfl
        replace A := (⟨h1, h2.trans A.2⟩ : a.tmps.size = 24 ∧ a.defers = [])
        clear h1 h2 h3 h4
        clear t0 t1
        have hE : coE f n g m = 110 := if_neg (fun q => by omega)
        rw [hE, zl_no (by decide)]
        refine wp_ret ?_
        repeat (first | refine ret_in ?_ | refine ret_then ?_)
        refine bodyPost_ret (results_tmp2 rfl _ _ _) A.2 ⟨_, ?_, World.ownsRow_nil _ _ _ _, BB⟩
        show Ending.returned (.tuple #[a.eval (.tmp 4), a.eval (.tmp 5)]) = _
        rw [t4, t5]
    · refine wp_region_sq (σ := Unit) 24 [(0, 6), (1, 7), (2, 8), (3, 9), (4, 10), (5, 11), (6, 12), (7, 13), (8, 14), (9, 15), (10, 16), (11, 17), (12, 18), (13, 19), (14, 20)] (fun j_ s X => match j_ with | 0 => Below V.heap.size V X | 1 => Below V.heap.size V X | 2 => Below V.heap.size V X | 3 => Below V.heap.size V X | 4 => Below V.heap.size V X | 5 => Below V.heap.size V X | 6 => Below V.heap.size V X | 7 => Below V.heap.size V X | 8 => Below V.heap.size V X | 9 => Below V.heap.size V X | 10 => Below V.heap.size V X | 11 => Below V.heap.size V X | 12 => Below V.heap.size V X | 13 => Below V.heap.size V X | 14 => Below V.heap.size V X | _ => Below V.heap.size V X) (fun s => fun i_ => match i_ with | 0 => v | 1 => .int .i64 ((pE f n : Nat) : Int) | 2 => .bool false | 3 => .bool false | 4 => u0 | 5 => .int .i64 ((pE g m : Nat) : Int) | 6 => .bool true | 7 => .bool true | 8 => .bool true | 9 => undef | 10 => undef | 11 => undef | 12 => undef | 13 => undef | 14 => .bool true | _ => undef) () A.1 (by kernel_rfl) (by decide) (by decide) (BB) ?_ ?_
      · intro i_ hi_ s a X hf hv hn hS
        match i_, hi_ with
        | 0, _ => exact stepV rfl rfl (execMvB rfl ((hf 0 (by decide)).trans t0)) ⟨s, ⟨_, rfl, rfl⟩, hS, fun _ _ => rfl⟩
        | 1, _ => exact stepC rfl rfl (execCall1 Try.func33 (by kernel_rfl) (by kernel_rfl) rfl (hv 0 (by omega) _ rfl _ rfl)) (rcheck f n _ X (FI.on hS) hn17) fun e w' hh => ⟨_, hh.1, s, ⟨_, rfl, rfl⟩, (hS).trans ((hh.2).mono (hS).size), fun _ _ => rfl⟩
        | 2, _ => exact stepV rfl rfl (execDec (execNeN (p := pE f n) (q := 0) rfl (hv 1 (by omega) _ rfl _ rfl) rfl) (decide_eq_false (by have := pE_ok h1; omega))) ⟨s, ⟨_, rfl, rfl⟩, hS, fun _ _ => rfl⟩
        | 3, _ => exact stepV rfl rfl (execMvB rfl (hv 2 (by omega) _ rfl _ rfl)) ⟨s, ⟨_, rfl, rfl⟩, hS, fun _ _ => rfl⟩
        | 4, _ => exact stepV rfl (wantedOf rfl (yieldedAt rfl rfl (show a.eval (.tmp 9) = .bool false from (hv 3 (by omega) _ rfl _ rfl)))) (execMvB rfl ((hf 1 (by decide)).trans t1)) ⟨s, ⟨_, rfl, rfl⟩, hS, fun _ _ => rfl⟩
        | 5, _ => exact stepC rfl (wantedOf rfl (yieldedAt rfl rfl (show a.eval (.tmp 9) = .bool false from (hv 3 (by omega) _ rfl _ rfl)))) (execCall1 Try.func33 (by kernel_rfl) (by kernel_rfl) rfl (hv 4 (by omega) _ rfl _ rfl)) (rcheck g m _ X (FJ.on hS) hm17) fun e w' hh => ⟨_, hh.1, s, ⟨_, rfl, rfl⟩, (hS).trans ((hh.2).mono (hS).size), fun _ _ => rfl⟩
        | 6, _ => exact stepV rfl (wantedOf rfl (yieldedAt rfl rfl (show a.eval (.tmp 9) = .bool false from (hv 3 (by omega) _ rfl _ rfl)))) (execDec (execNeN (p := pE g m) (q := 0) rfl (hv 5 (by omega) _ rfl _ rfl) rfl) (decide_eq_true (by have := pE_no h2; omega))) ⟨s, ⟨_, rfl, rfl⟩, hS, fun _ _ => rfl⟩
        | 7, _ => exact stepV rfl rfl (execPickF rfl (hv 3 (by omega) _ rfl _ rfl) (hv 6 (by omega) _ rfl _ rfl)) ⟨s, ⟨_, rfl, rfl⟩, hS, fun _ _ => rfl⟩
        | 8, _ => exact stepV rfl rfl (execMvB rfl (hv 7 (by omega) _ rfl _ rfl)) ⟨s, ⟨_, rfl, rfl⟩, hS, fun _ _ => rfl⟩
        | 9, _ => exact stepU rfl (unwantedOf rfl (yieldedAt rfl rfl (show a.eval (.tmp 14) = .bool (!false) from (hv 8 (by omega) _ rfl _ rfl)))) ⟨s, ⟨_, rfl, rfl⟩, hS, fun _ _ => rfl⟩
        | 10, _ => exact stepU rfl (unwantedOf rfl (yieldedAt rfl rfl (show a.eval (.tmp 14) = .bool (!false) from (hv 8 (by omega) _ rfl _ rfl)))) ⟨s, ⟨_, rfl, rfl⟩, hS, fun _ _ => rfl⟩
        | 11, _ => exact stepU rfl (unwantedOf rfl (yieldedAt rfl rfl (show a.eval (.tmp 14) = .bool (!false) from (hv 8 (by omega) _ rfl _ rfl)))) ⟨s, ⟨_, rfl, rfl⟩, hS, fun _ _ => rfl⟩
        | 12, _ => exact stepU rfl (unwantedOf rfl (yieldedAt rfl rfl (show a.eval (.tmp 14) = .bool (!false) from (hv 8 (by omega) _ rfl _ rfl)))) ⟨s, ⟨_, rfl, rfl⟩, hS, fun _ _ => rfl⟩
        | 13, _ => exact stepU rfl (unwantedOf rfl (yieldedAt rfl rfl (show a.eval (.tmp 14) = .bool (!false) from (hv 8 (by omega) _ rfl _ rfl)))) ⟨s, ⟨_, rfl, rfl⟩, hS, fun _ _ => rfl⟩
        | 14, _ => exact stepV rfl rfl (execPickT rfl (hv 8 (by omega) _ rfl _ rfl) rfl) ⟨s, ⟨_, rfl, rfl⟩, hS, fun _ _ => rfl⟩
        | k_ + 15, h_ => exact absurd h_ (by simp)
      rintro _ a X1 h1 h2 h3 h4 hS
      clear BB
      replace hS : Below V.heap.size V X1 := hS
      have BB := hS
      clear hS
      replace t0 := (h3 0 (by decide)).trans t0
      replace t1 := (h3 1 (by decide)).trans t1
      have t20 : a.eval (.tmp 20) = .bool true := h4 14 _ rfl _ rfl
      replace A := (⟨h1, h2.trans A.2⟩ : a.tmps.size = 24 ∧ a.defers = [])
      clear h1 h2 h3 h4
      refine wp_cond_true t20 ?_
      refine wp_seq ?_
      refine wp_region_sq (σ := Unit) 24 [(0, 4), (1, 5)] (fun j_ s X => match j_ with | 0 => Below V.heap.size V X | 1 => Below V.heap.size V X | _ => Below V.heap.size V X) (fun s => fun i_ => match i_ with | 0 => .slice none 0 0 | 1 => .int .i64 ((110 : Nat) : Int) | _ => undef) () A.1 (by kernel_rfl) (by decide) (by decide) (BB) ?_ ?_
      · intro i_ hi_ s a X hf hv hn hS
        match i_, hi_ with
        | 0, _ => exact stepV rfl rfl (execAsgB rfl rfl) ⟨s, ⟨_, rfl, rfl⟩, hS, fun _ _ => rfl⟩
        | 1, _ => exact stepV rfl rfl (execAsgB rfl rfl) ⟨s, ⟨_, rfl, rfl⟩, hS, fun _ _ => rfl⟩
        | k_ + 2, h_ => exact absurd h_ (by simp)
      rintro _ a X2 h1 h2 h3 h4 hS
      clear BB
      replace hS : Below V.heap.size V X2 := hS
      have BB := hS
      clear hS
      have t4 : a.eval (.tmp 4) = .slice none 0 0 := h4 0 _ rfl _ rfl
      have t5 : a.eval (.tmp 5) = .int .i64 ((110 : Nat) : Int) := h4 1 _ rfl _ rfl
      replace A := (⟨h1, h2.trans A.2⟩ : a.tmps.size = 24 ∧ a.defers = [])
      clear h1 h2 h3 h4
      clear t0 t1
      have hE : coE f n g m = 110 := if_neg (fun q => by have := pE_no h2; omega)
      rw [hE, zl_no (by decide)]
      refine wp_ret ?_
      repeat (first | refine ret_in ?_ | refine ret_then ?_)
      refine bodyPost_ret (results_tmp2 rfl _ _ _) A.2 ⟨_, ?_, World.ownsRow_nil _ _ _ _, BB⟩
      show Ending.returned (.tuple #[a.eval (.tmp 4), a.eval (.tmp 5)]) = _
      rw [t4, t5]
  · refine wp_region_sq (σ := Unit) 24 [(0, 6), (1, 7), (2, 8), (3, 9), (4, 10), (5, 11), (6, 12), (7, 13), (8, 14), (9, 15), (10, 16), (11, 17), (12, 18), (13, 19), (14, 20)] (fun j_ s X => match j_ with | 0 => Below V.heap.size V X | 1 => Below V.heap.size V X | 2 => Below V.heap.size V X | 3 => Below V.heap.size V X | 4 => Below V.heap.size V X | 5 => Below V.heap.size V X | 6 => Below V.heap.size V X | 7 => Below V.heap.size V X | 8 => Below V.heap.size V X | 9 => Below V.heap.size V X | 10 => Below V.heap.size V X | 11 => Below V.heap.size V X | 12 => Below V.heap.size V X | 13 => Below V.heap.size V X | 14 => Below V.heap.size V X | _ => Below V.heap.size V X) (fun s => fun i_ => match i_ with | 0 => v | 1 => .int .i64 ((pE f n : Nat) : Int) | 2 => .bool true | 3 => .bool true | 4 => undef | 5 => undef | 6 => undef | 7 => .bool true | 8 => .bool true | 9 => undef | 10 => undef | 11 => undef | 12 => undef | 13 => undef | 14 => .bool true | _ => undef) () A.1 (by kernel_rfl) (by decide) (by decide) (BB) ?_ ?_
    · intro i_ hi_ s a X hf hv hn hS
      match i_, hi_ with
      | 0, _ => exact stepV rfl rfl (execMvB rfl ((hf 0 (by decide)).trans t0)) ⟨s, ⟨_, rfl, rfl⟩, hS, fun _ _ => rfl⟩
      | 1, _ => exact stepC rfl rfl (execCall1 Try.func33 (by kernel_rfl) (by kernel_rfl) rfl (hv 0 (by omega) _ rfl _ rfl)) (rcheck f n _ X (FI.on hS) hn17) fun e w' hh => ⟨_, hh.1, s, ⟨_, rfl, rfl⟩, (hS).trans ((hh.2).mono (hS).size), fun _ _ => rfl⟩
      | 2, _ => exact stepV rfl rfl (execDec (execNeN (p := pE f n) (q := 0) rfl (hv 1 (by omega) _ rfl _ rfl) rfl) (decide_eq_true (by have := pE_no h1; omega))) ⟨s, ⟨_, rfl, rfl⟩, hS, fun _ _ => rfl⟩
      | 3, _ => exact stepV rfl rfl (execMvB rfl (hv 2 (by omega) _ rfl _ rfl)) ⟨s, ⟨_, rfl, rfl⟩, hS, fun _ _ => rfl⟩
      | 4, _ => exact stepU rfl (unwantedOf rfl (yieldedAt rfl rfl (show a.eval (.tmp 9) = .bool (!false) from (hv 3 (by omega) _ rfl _ rfl)))) ⟨s, ⟨_, rfl, rfl⟩, hS, fun _ _ => rfl⟩
      | 5, _ => exact stepU rfl (unwantedOf rfl (yieldedAt rfl rfl (show a.eval (.tmp 9) = .bool (!false) from (hv 3 (by omega) _ rfl _ rfl)))) ⟨s, ⟨_, rfl, rfl⟩, hS, fun _ _ => rfl⟩
      | 6, _ => exact stepU rfl (unwantedOf rfl (yieldedAt rfl rfl (show a.eval (.tmp 9) = .bool (!false) from (hv 3 (by omega) _ rfl _ rfl)))) ⟨s, ⟨_, rfl, rfl⟩, hS, fun _ _ => rfl⟩
      | 7, _ => exact stepV rfl rfl (execPickT rfl (hv 3 (by omega) _ rfl _ rfl) rfl) ⟨s, ⟨_, rfl, rfl⟩, hS, fun _ _ => rfl⟩
      | 8, _ => exact stepV rfl rfl (execMvB rfl (hv 7 (by omega) _ rfl _ rfl)) ⟨s, ⟨_, rfl, rfl⟩, hS, fun _ _ => rfl⟩
      | 9, _ => exact stepU rfl (unwantedOf rfl (yieldedAt rfl rfl (show a.eval (.tmp 14) = .bool (!false) from (hv 8 (by omega) _ rfl _ rfl)))) ⟨s, ⟨_, rfl, rfl⟩, hS, fun _ _ => rfl⟩
      | 10, _ => exact stepU rfl (unwantedOf rfl (yieldedAt rfl rfl (show a.eval (.tmp 14) = .bool (!false) from (hv 8 (by omega) _ rfl _ rfl)))) ⟨s, ⟨_, rfl, rfl⟩, hS, fun _ _ => rfl⟩
      | 11, _ => exact stepU rfl (unwantedOf rfl (yieldedAt rfl rfl (show a.eval (.tmp 14) = .bool (!false) from (hv 8 (by omega) _ rfl _ rfl)))) ⟨s, ⟨_, rfl, rfl⟩, hS, fun _ _ => rfl⟩
      | 12, _ => exact stepU rfl (unwantedOf rfl (yieldedAt rfl rfl (show a.eval (.tmp 14) = .bool (!false) from (hv 8 (by omega) _ rfl _ rfl)))) ⟨s, ⟨_, rfl, rfl⟩, hS, fun _ _ => rfl⟩
      | 13, _ => exact stepU rfl (unwantedOf rfl (yieldedAt rfl rfl (show a.eval (.tmp 14) = .bool (!false) from (hv 8 (by omega) _ rfl _ rfl)))) ⟨s, ⟨_, rfl, rfl⟩, hS, fun _ _ => rfl⟩
      | 14, _ => exact stepV rfl rfl (execPickT rfl (hv 8 (by omega) _ rfl _ rfl) rfl) ⟨s, ⟨_, rfl, rfl⟩, hS, fun _ _ => rfl⟩
      | k_ + 15, h_ => exact absurd h_ (by simp)
    rintro _ a X1 h1 h2 h3 h4 hS
    clear BB
    replace hS : Below V.heap.size V X1 := hS
    have BB := hS
    clear hS
    replace t0 := (h3 0 (by decide)).trans t0
    replace t1 := (h3 1 (by decide)).trans t1
    have t20 : a.eval (.tmp 20) = .bool true := h4 14 _ rfl _ rfl
    replace A := (⟨h1, h2.trans A.2⟩ : a.tmps.size = 24 ∧ a.defers = [])
    clear h1 h2 h3 h4
    refine wp_cond_true t20 ?_
    refine wp_seq ?_
    refine wp_region_sq (σ := Unit) 24 [(0, 4), (1, 5)] (fun j_ s X => match j_ with | 0 => Below V.heap.size V X | 1 => Below V.heap.size V X | _ => Below V.heap.size V X) (fun s => fun i_ => match i_ with | 0 => .slice none 0 0 | 1 => .int .i64 ((110 : Nat) : Int) | _ => undef) () A.1 (by kernel_rfl) (by decide) (by decide) (BB) ?_ ?_
    · intro i_ hi_ s a X hf hv hn hS
      match i_, hi_ with
      | 0, _ => exact stepV rfl rfl (execAsgB rfl rfl) ⟨s, ⟨_, rfl, rfl⟩, hS, fun _ _ => rfl⟩
      | 1, _ => exact stepV rfl rfl (execAsgB rfl rfl) ⟨s, ⟨_, rfl, rfl⟩, hS, fun _ _ => rfl⟩
      | k_ + 2, h_ => exact absurd h_ (by simp)
    rintro _ a X2 h1 h2 h3 h4 hS
    clear BB
    replace hS : Below V.heap.size V X2 := hS
    have BB := hS
    clear hS
    have t4 : a.eval (.tmp 4) = .slice none 0 0 := h4 0 _ rfl _ rfl
    have t5 : a.eval (.tmp 5) = .int .i64 ((110 : Nat) : Int) := h4 1 _ rfl _ rfl
    replace A := (⟨h1, h2.trans A.2⟩ : a.tmps.size = 24 ∧ a.defers = [])
    clear h1 h2 h3 h4
    clear t0 t1
    have hE : coE f n g m = 110 := if_neg (fun q => by have := pE_no h1; omega)
    rw [hE, zl_no (by decide)]
    refine wp_ret ?_
    repeat (first | refine ret_in ?_ | refine ret_then ?_)
    refine bodyPost_ret (results_tmp2 rfl _ _ _) A.2 ⟨_, ?_, World.ownsRow_nil _ _ _ _, BB⟩
    show Ending.returned (.tuple #[a.eval (.tmp 4), a.eval (.tmp 5)]) = _
    rw [t4, t5]
set_option maxRecDepth 100000 in
set_option maxHeartbeats 4000000 in
/-- The reference's Apply. -/
theorem rapply (f g : Nat → Int) (n m : Nat) (v u0 : Value) (V : World) (hv : SliceI V v n f) (hn17 : n ≤ 17592186044416) (hu : SliceI V u0 m g) :
    Calls Try.prog 27 #[v, u0] V fun e w' => ∃ r, e = .returned (.tuple #[r, .int .i64 ((apE f n m : Nat) : Int)]) ∧ w'.ownsRow V.heap.size 3 1 r (zl (apE f n m) n) (intsL (zl (apE f n m) n) (fun j => g (f j).toNat)) ∧ Below V.heap.size V w' := by
  have FI := hv
  have FJ := hu
  go_enter Try.func27, Try.ntmps27
  refine wp_seq ?_
  refine wp_region_sqK 19 [(0, 4), (1, 5)] (fun i_ => match i_ with | 0 => .slice none 0 0 | 1 => .int .i64 ((0 : Nat) : Int) | _ => undef) rfl (by kernel_rfl) (by decide) (by decide) ?_ ?_
  · intro i_ hi_ a hf hv hn
    match i_, hi_ with
    | 0, _ => exact stepV rfl rfl (execAsgB rfl rfl) ⟨⟨_, rfl, rfl⟩, rfl⟩
    | 1, _ => exact stepV rfl rfl (execAsgB rfl rfl) ⟨⟨_, rfl, rfl⟩, rfl⟩
    | k_ + 2, h_ => exact absurd h_ (by simp)
  intro a h1 h2 h3 h4
  have t0 : a.eval (.tmp 0) = v := (h3 0 (by decide)).trans rfl
  have t1 : a.eval (.tmp 1) = u0 := (h3 1 (by decide)).trans rfl
  have A : a.tmps.size = 19 ∧ a.defers = [] := ⟨h1, h2⟩
  have BW : Below V.heap.size V V := Below.refl _ _
  clear h1 h2 h3 h4
  have BB := BW
  refine wp_seq ?_
  refine wp_seq ?_
  by_cases h1 : okQ f n n = true
  · by_cases h3 : n = m
    · refine wp_region_sq (σ := Unit) 19 [(0, 6), (1, 7), (2, 8), (3, 9), (4, 10), (5, 11), (6, 12), (7, 13), (8, 14), (9, 15)] (fun j_ s X => match j_ with | 0 => Below V.heap.size V X | 1 => Below V.heap.size V X | 2 => Below V.heap.size V X | 3 => Below V.heap.size V X | 4 => Below V.heap.size V X | 5 => Below V.heap.size V X | 6 => Below V.heap.size V X | 7 => Below V.heap.size V X | 8 => Below V.heap.size V X | 9 => Below V.heap.size V X | _ => Below V.heap.size V X) (fun s => fun i_ => match i_ with | 0 => v | 1 => .int .i64 ((pE f n : Nat) : Int) | 2 => .bool false | 3 => .bool false | 4 => v | 5 => .int .i64 ((n : Nat) : Int) | 6 => u0 | 7 => .int .i64 ((m : Nat) : Int) | 8 => .bool false | 9 => .bool false | _ => undef) () A.1 (by kernel_rfl) (by decide) (by decide) (BB) ?_ ?_
      · intro i_ hi_ s a X hf hv hn hS
        match i_, hi_ with
        | 0, _ => exact stepV rfl rfl (execMvB rfl ((hf 0 (by decide)).trans t0)) ⟨s, ⟨_, rfl, rfl⟩, hS, fun _ _ => rfl⟩
        | 1, _ => exact stepC rfl rfl (execCall1 Try.func33 (by kernel_rfl) (by kernel_rfl) rfl (hv 0 (by omega) _ rfl _ rfl)) (rcheck f n _ X (FI.on hS) hn17) fun e w' hh => ⟨_, hh.1, s, ⟨_, rfl, rfl⟩, (hS).trans ((hh.2).mono (hS).size), fun _ _ => rfl⟩
        | 2, _ => exact stepV rfl rfl (execDec (execNeN (p := pE f n) (q := 0) rfl (hv 1 (by omega) _ rfl _ rfl) rfl) (decide_eq_false (by have := pE_ok h1; omega))) ⟨s, ⟨_, rfl, rfl⟩, hS, fun _ _ => rfl⟩
        | 3, _ => exact stepV rfl rfl (execMvB rfl (hv 2 (by omega) _ rfl _ rfl)) ⟨s, ⟨_, rfl, rfl⟩, hS, fun _ _ => rfl⟩
        | 4, _ => exact stepV rfl (wantedOf rfl (yieldedAt rfl rfl (show a.eval (.tmp 9) = .bool false from (hv 3 (by omega) _ rfl _ rfl)))) (execMvB rfl ((hf 0 (by decide)).trans t0)) ⟨s, ⟨_, rfl, rfl⟩, hS, fun _ _ => rfl⟩
        | 5, _ => exact stepV rfl (wantedOf rfl (yieldedAt rfl rfl (show a.eval (.tmp 9) = .bool false from (hv 3 (by omega) _ rfl _ rfl)))) (execLenI (len := n) rfl (hv 4 (by omega) _ rfl _ rfl) ((FI.on hS)).shp) ⟨s, ⟨_, rfl, rfl⟩, hS, fun _ _ => rfl⟩
        | 6, _ => exact stepV rfl (wantedOf rfl (yieldedAt rfl rfl (show a.eval (.tmp 9) = .bool false from (hv 3 (by omega) _ rfl _ rfl)))) (execMvB rfl ((hf 1 (by decide)).trans t1)) ⟨s, ⟨_, rfl, rfl⟩, hS, fun _ _ => rfl⟩
        | 7, _ => exact stepV rfl (wantedOf rfl (yieldedAt rfl rfl (show a.eval (.tmp 9) = .bool false from (hv 3 (by omega) _ rfl _ rfl)))) (execLenI (len := m) rfl (hv 6 (by omega) _ rfl _ rfl) ((FJ.on hS)).shp) ⟨s, ⟨_, rfl, rfl⟩, hS, fun _ _ => rfl⟩
        | 8, _ => exact stepV rfl (wantedOf rfl (yieldedAt rfl rfl (show a.eval (.tmp 9) = .bool false from (hv 3 (by omega) _ rfl _ rfl)))) (execDec (execNeN (p := n) (q := m) rfl (hv 5 (by omega) _ rfl _ rfl) (hv 7 (by omega) _ rfl _ rfl)) (decide_eq_false (by omega))) ⟨s, ⟨_, rfl, rfl⟩, hS, fun _ _ => rfl⟩
        | 9, _ => exact stepV rfl rfl (execPickF rfl (hv 3 (by omega) _ rfl _ rfl) (hv 8 (by omega) _ rfl _ rfl)) ⟨s, ⟨_, rfl, rfl⟩, hS, fun _ _ => rfl⟩
        | k_ + 10, h_ => exact absurd h_ (by simp)
      rintro _ a X1 h1 h2 h3 h4 hS
      clear BB
      replace hS : Below V.heap.size V X1 := hS
      have BB := hS
      clear hS
      replace t0 := (h3 0 (by decide)).trans t0
      replace t1 := (h3 1 (by decide)).trans t1
      have t15 : a.eval (.tmp 15) = .bool false := h4 9 _ rfl _ rfl
      replace A := (⟨h1, h2.trans A.2⟩ : a.tmps.size = 19 ∧ a.defers = [])
      clear h1 h2 h3 h4
      refine wp_cond_false t15 ?_
      refine wp_skip ?_
      clear t15
      have hfl : ∀ i, i < n → 0 ≤ f i ∧ f i < m := fun i hi => by have := (okQ_iff.1 h1).1 i hi; omega
      refine wp_seq ?_
      refine wp_region_sq (σ := Value) 19 [(0, 16), (1, 17), (2, 18), (3, 4), (4, 5)] (fun j_ s X => match j_ with | 0 => Below V.heap.size V X | 1 => Below V.heap.size V X | 2 => Below V.heap.size V X | 3 => Below V.heap.size V X ∧ (X.ownsRow V.heap.size 3 1 s (n) (intsL (n) (fun j => g (f j).toNat))) | 4 => Below V.heap.size V X ∧ (X.ownsRow V.heap.size 3 1 s (n) (intsL (n) (fun j => g (f j).toNat))) | _ => Below V.heap.size V X ∧ (X.ownsRow V.heap.size 3 1 s (n) (intsL (n) (fun j => g (f j).toNat)))) (fun s => fun i_ => match i_ with | 0 => v | 1 => u0 | 2 => s | 3 => s | 4 => .int .i64 ((0 : Nat) : Int) | _ => undef) undef A.1 (by kernel_rfl) (by decide) (by decide) (BB) ?_ ?_
      · intro i_ hi_ s a X hf hv hn hS
        match i_, hi_ with
        | 0, _ => exact stepV rfl rfl (execMvB rfl ((hf 0 (by decide)).trans t0)) ⟨s, ⟨_, rfl, rfl⟩, hS, fun _ _ => rfl⟩
        | 1, _ => exact stepV rfl rfl (execMvB rfl ((hf 1 (by decide)).trans t1)) ⟨s, ⟨_, rfl, rfl⟩, hS, fun _ _ => rfl⟩
        | 2, _ =>
          refine stepC rfl rfl (execCall2 Try.func42 (by kernel_rfl) (by kernel_rfl) rfl (hv 0 (by omega) _ rfl _ rfl) (hv 1 (by omega) _ rfl _ rfl)) (rput f g n m _ _ X (FI.on hS) hn17 (FJ.on hS) hfl) fun e w' hh => ?_
          obtain ⟨r_, he, hk, hb⟩ := hh
          refine ⟨_, he, r_, ⟨_, rfl, rfl⟩, ⟨(hS).trans ((hb).mono (hS).size), ownD_base hk (hS).size⟩, fun i hi => ?_⟩
          match i, hi with
          | 0, _ => rfl
          | 1, _ => rfl
          | n_ + 2, h_ => omega
        | 3, _ => exact stepV rfl rfl (execAsgB rfl (hv 2 (by omega) _ rfl _ rfl)) ⟨s, ⟨_, rfl, rfl⟩, hS, fun _ _ => rfl⟩
        | 4, _ => exact stepV rfl rfl (execAsgB rfl rfl) ⟨s, ⟨_, rfl, rfl⟩, hS, fun _ _ => rfl⟩
        | k_ + 5, h_ => exact absurd h_ (by simp)
      rintro r9 a X3 h1 h2 h3 h4 hS
      clear BB
      replace hS : Below V.heap.size V X3 ∧ (X3.ownsRow V.heap.size 3 1 r9 (n) (intsL (n) (fun j => g (f j).toNat))) := hS
      obtain ⟨BB, FO⟩ := hS
      have t4 : a.eval (.tmp 4) = r9 := h4 3 _ rfl _ rfl
      have t5 : a.eval (.tmp 5) = .int .i64 ((0 : Nat) : Int) := h4 4 _ rfl _ rfl
      replace A := (⟨h1, h2.trans A.2⟩ : a.tmps.size = 19 ∧ a.defers = [])
      clear h1 h2 h3 h4
      clear t0 t1
      have hE : apE f n m = 0 := if_pos ⟨pE_ok h1, h3⟩
      rw [hE, zl_ok]
      refine wp_ret ?_
      refine bodyPost_ret (results_tmp2 rfl _ _ _) A.2 ⟨_, ?_, FO, BB⟩
      show Ending.returned (.tuple #[a.eval (.tmp 4), a.eval (.tmp 5)]) = _
      rw [t4, t5]
    · refine wp_region_sq (σ := Unit) 19 [(0, 6), (1, 7), (2, 8), (3, 9), (4, 10), (5, 11), (6, 12), (7, 13), (8, 14), (9, 15)] (fun j_ s X => match j_ with | 0 => Below V.heap.size V X | 1 => Below V.heap.size V X | 2 => Below V.heap.size V X | 3 => Below V.heap.size V X | 4 => Below V.heap.size V X | 5 => Below V.heap.size V X | 6 => Below V.heap.size V X | 7 => Below V.heap.size V X | 8 => Below V.heap.size V X | 9 => Below V.heap.size V X | _ => Below V.heap.size V X) (fun s => fun i_ => match i_ with | 0 => v | 1 => .int .i64 ((pE f n : Nat) : Int) | 2 => .bool false | 3 => .bool false | 4 => v | 5 => .int .i64 ((n : Nat) : Int) | 6 => u0 | 7 => .int .i64 ((m : Nat) : Int) | 8 => .bool true | 9 => .bool true | _ => undef) () A.1 (by kernel_rfl) (by decide) (by decide) (BB) ?_ ?_
      · intro i_ hi_ s a X hf hv hn hS
        match i_, hi_ with
        | 0, _ => exact stepV rfl rfl (execMvB rfl ((hf 0 (by decide)).trans t0)) ⟨s, ⟨_, rfl, rfl⟩, hS, fun _ _ => rfl⟩
        | 1, _ => exact stepC rfl rfl (execCall1 Try.func33 (by kernel_rfl) (by kernel_rfl) rfl (hv 0 (by omega) _ rfl _ rfl)) (rcheck f n _ X (FI.on hS) hn17) fun e w' hh => ⟨_, hh.1, s, ⟨_, rfl, rfl⟩, (hS).trans ((hh.2).mono (hS).size), fun _ _ => rfl⟩
        | 2, _ => exact stepV rfl rfl (execDec (execNeN (p := pE f n) (q := 0) rfl (hv 1 (by omega) _ rfl _ rfl) rfl) (decide_eq_false (by have := pE_ok h1; omega))) ⟨s, ⟨_, rfl, rfl⟩, hS, fun _ _ => rfl⟩
        | 3, _ => exact stepV rfl rfl (execMvB rfl (hv 2 (by omega) _ rfl _ rfl)) ⟨s, ⟨_, rfl, rfl⟩, hS, fun _ _ => rfl⟩
        | 4, _ => exact stepV rfl (wantedOf rfl (yieldedAt rfl rfl (show a.eval (.tmp 9) = .bool false from (hv 3 (by omega) _ rfl _ rfl)))) (execMvB rfl ((hf 0 (by decide)).trans t0)) ⟨s, ⟨_, rfl, rfl⟩, hS, fun _ _ => rfl⟩
        | 5, _ => exact stepV rfl (wantedOf rfl (yieldedAt rfl rfl (show a.eval (.tmp 9) = .bool false from (hv 3 (by omega) _ rfl _ rfl)))) (execLenI (len := n) rfl (hv 4 (by omega) _ rfl _ rfl) ((FI.on hS)).shp) ⟨s, ⟨_, rfl, rfl⟩, hS, fun _ _ => rfl⟩
        | 6, _ => exact stepV rfl (wantedOf rfl (yieldedAt rfl rfl (show a.eval (.tmp 9) = .bool false from (hv 3 (by omega) _ rfl _ rfl)))) (execMvB rfl ((hf 1 (by decide)).trans t1)) ⟨s, ⟨_, rfl, rfl⟩, hS, fun _ _ => rfl⟩
        | 7, _ => exact stepV rfl (wantedOf rfl (yieldedAt rfl rfl (show a.eval (.tmp 9) = .bool false from (hv 3 (by omega) _ rfl _ rfl)))) (execLenI (len := m) rfl (hv 6 (by omega) _ rfl _ rfl) ((FJ.on hS)).shp) ⟨s, ⟨_, rfl, rfl⟩, hS, fun _ _ => rfl⟩
        | 8, _ => exact stepV rfl (wantedOf rfl (yieldedAt rfl rfl (show a.eval (.tmp 9) = .bool false from (hv 3 (by omega) _ rfl _ rfl)))) (execDec (execNeN (p := n) (q := m) rfl (hv 5 (by omega) _ rfl _ rfl) (hv 7 (by omega) _ rfl _ rfl)) (decide_eq_true (by omega))) ⟨s, ⟨_, rfl, rfl⟩, hS, fun _ _ => rfl⟩
        | 9, _ => exact stepV rfl rfl (execPickF rfl (hv 3 (by omega) _ rfl _ rfl) (hv 8 (by omega) _ rfl _ rfl)) ⟨s, ⟨_, rfl, rfl⟩, hS, fun _ _ => rfl⟩
        | k_ + 10, h_ => exact absurd h_ (by simp)
      rintro _ a X1 h1 h2 h3 h4 hS
      clear BB
      replace hS : Below V.heap.size V X1 := hS
      have BB := hS
      clear hS
      replace t0 := (h3 0 (by decide)).trans t0
      replace t1 := (h3 1 (by decide)).trans t1
      have t15 : a.eval (.tmp 15) = .bool true := h4 9 _ rfl _ rfl
      replace A := (⟨h1, h2.trans A.2⟩ : a.tmps.size = 19 ∧ a.defers = [])
      clear h1 h2 h3 h4
      refine wp_cond_true t15 ?_
      refine wp_seq ?_
      refine wp_region_sq (σ := Unit) 19 [(0, 4), (1, 5)] (fun j_ s X => match j_ with | 0 => Below V.heap.size V X | 1 => Below V.heap.size V X | _ => Below V.heap.size V X) (fun s => fun i_ => match i_ with | 0 => .slice none 0 0 | 1 => .int .i64 ((110 : Nat) : Int) | _ => undef) () A.1 (by kernel_rfl) (by decide) (by decide) (BB) ?_ ?_
      · intro i_ hi_ s a X hf hv hn hS
        match i_, hi_ with
        | 0, _ => exact stepV rfl rfl (execAsgB rfl rfl) ⟨s, ⟨_, rfl, rfl⟩, hS, fun _ _ => rfl⟩
        | 1, _ => exact stepV rfl rfl (execAsgB rfl rfl) ⟨s, ⟨_, rfl, rfl⟩, hS, fun _ _ => rfl⟩
        | k_ + 2, h_ => exact absurd h_ (by simp)
      rintro _ a X2 h1 h2 h3 h4 hS
      clear BB
      replace hS : Below V.heap.size V X2 := hS
      have BB := hS
      clear hS
      have t4 : a.eval (.tmp 4) = .slice none 0 0 := h4 0 _ rfl _ rfl
      have t5 : a.eval (.tmp 5) = .int .i64 ((110 : Nat) : Int) := h4 1 _ rfl _ rfl
      replace A := (⟨h1, h2.trans A.2⟩ : a.tmps.size = 19 ∧ a.defers = [])
      clear h1 h2 h3 h4
      clear t0 t1
      have hE : apE f n m = 110 := if_neg (fun q => by omega)
      rw [hE, zl_no (by decide)]
      refine wp_ret ?_
      repeat (first | refine ret_in ?_ | refine ret_then ?_)
      refine bodyPost_ret (results_tmp2 rfl _ _ _) A.2 ⟨_, ?_, World.ownsRow_nil _ _ _ _, BB⟩
      show Ending.returned (.tuple #[a.eval (.tmp 4), a.eval (.tmp 5)]) = _
      rw [t4, t5]
  · refine wp_region_sq (σ := Unit) 19 [(0, 6), (1, 7), (2, 8), (3, 9), (4, 10), (5, 11), (6, 12), (7, 13), (8, 14), (9, 15)] (fun j_ s X => match j_ with | 0 => Below V.heap.size V X | 1 => Below V.heap.size V X | 2 => Below V.heap.size V X | 3 => Below V.heap.size V X | 4 => Below V.heap.size V X | 5 => Below V.heap.size V X | 6 => Below V.heap.size V X | 7 => Below V.heap.size V X | 8 => Below V.heap.size V X | 9 => Below V.heap.size V X | _ => Below V.heap.size V X) (fun s => fun i_ => match i_ with | 0 => v | 1 => .int .i64 ((pE f n : Nat) : Int) | 2 => .bool true | 3 => .bool true | 4 => undef | 5 => undef | 6 => undef | 7 => undef | 8 => undef | 9 => .bool true | _ => undef) () A.1 (by kernel_rfl) (by decide) (by decide) (BB) ?_ ?_
    · intro i_ hi_ s a X hf hv hn hS
      match i_, hi_ with
      | 0, _ => exact stepV rfl rfl (execMvB rfl ((hf 0 (by decide)).trans t0)) ⟨s, ⟨_, rfl, rfl⟩, hS, fun _ _ => rfl⟩
      | 1, _ => exact stepC rfl rfl (execCall1 Try.func33 (by kernel_rfl) (by kernel_rfl) rfl (hv 0 (by omega) _ rfl _ rfl)) (rcheck f n _ X (FI.on hS) hn17) fun e w' hh => ⟨_, hh.1, s, ⟨_, rfl, rfl⟩, (hS).trans ((hh.2).mono (hS).size), fun _ _ => rfl⟩
      | 2, _ => exact stepV rfl rfl (execDec (execNeN (p := pE f n) (q := 0) rfl (hv 1 (by omega) _ rfl _ rfl) rfl) (decide_eq_true (by have := pE_no h1; omega))) ⟨s, ⟨_, rfl, rfl⟩, hS, fun _ _ => rfl⟩
      | 3, _ => exact stepV rfl rfl (execMvB rfl (hv 2 (by omega) _ rfl _ rfl)) ⟨s, ⟨_, rfl, rfl⟩, hS, fun _ _ => rfl⟩
      | 4, _ => exact stepU rfl (unwantedOf rfl (yieldedAt rfl rfl (show a.eval (.tmp 9) = .bool (!false) from (hv 3 (by omega) _ rfl _ rfl)))) ⟨s, ⟨_, rfl, rfl⟩, hS, fun _ _ => rfl⟩
      | 5, _ => exact stepU rfl (unwantedOf rfl (yieldedAt rfl rfl (show a.eval (.tmp 9) = .bool (!false) from (hv 3 (by omega) _ rfl _ rfl)))) ⟨s, ⟨_, rfl, rfl⟩, hS, fun _ _ => rfl⟩
      | 6, _ => exact stepU rfl (unwantedOf rfl (yieldedAt rfl rfl (show a.eval (.tmp 9) = .bool (!false) from (hv 3 (by omega) _ rfl _ rfl)))) ⟨s, ⟨_, rfl, rfl⟩, hS, fun _ _ => rfl⟩
      | 7, _ => exact stepU rfl (unwantedOf rfl (yieldedAt rfl rfl (show a.eval (.tmp 9) = .bool (!false) from (hv 3 (by omega) _ rfl _ rfl)))) ⟨s, ⟨_, rfl, rfl⟩, hS, fun _ _ => rfl⟩
      | 8, _ => exact stepU rfl (unwantedOf rfl (yieldedAt rfl rfl (show a.eval (.tmp 9) = .bool (!false) from (hv 3 (by omega) _ rfl _ rfl)))) ⟨s, ⟨_, rfl, rfl⟩, hS, fun _ _ => rfl⟩
      | 9, _ => exact stepV rfl rfl (execPickT rfl (hv 3 (by omega) _ rfl _ rfl) rfl) ⟨s, ⟨_, rfl, rfl⟩, hS, fun _ _ => rfl⟩
      | k_ + 10, h_ => exact absurd h_ (by simp)
    rintro _ a X1 h1 h2 h3 h4 hS
    clear BB
    replace hS : Below V.heap.size V X1 := hS
    have BB := hS
    clear hS
    replace t0 := (h3 0 (by decide)).trans t0
    replace t1 := (h3 1 (by decide)).trans t1
    have t15 : a.eval (.tmp 15) = .bool true := h4 9 _ rfl _ rfl
    replace A := (⟨h1, h2.trans A.2⟩ : a.tmps.size = 19 ∧ a.defers = [])
    clear h1 h2 h3 h4
    refine wp_cond_true t15 ?_
    refine wp_seq ?_
    refine wp_region_sq (σ := Unit) 19 [(0, 4), (1, 5)] (fun j_ s X => match j_ with | 0 => Below V.heap.size V X | 1 => Below V.heap.size V X | _ => Below V.heap.size V X) (fun s => fun i_ => match i_ with | 0 => .slice none 0 0 | 1 => .int .i64 ((110 : Nat) : Int) | _ => undef) () A.1 (by kernel_rfl) (by decide) (by decide) (BB) ?_ ?_
    · intro i_ hi_ s a X hf hv hn hS
      match i_, hi_ with
      | 0, _ => exact stepV rfl rfl (execAsgB rfl rfl) ⟨s, ⟨_, rfl, rfl⟩, hS, fun _ _ => rfl⟩
      | 1, _ => exact stepV rfl rfl (execAsgB rfl rfl) ⟨s, ⟨_, rfl, rfl⟩, hS, fun _ _ => rfl⟩
      | k_ + 2, h_ => exact absurd h_ (by simp)
    rintro _ a X2 h1 h2 h3 h4 hS
    clear BB
    replace hS : Below V.heap.size V X2 := hS
    have BB := hS
    clear hS
    have t4 : a.eval (.tmp 4) = .slice none 0 0 := h4 0 _ rfl _ rfl
    have t5 : a.eval (.tmp 5) = .int .i64 ((110 : Nat) : Int) := h4 1 _ rfl _ rfl
    replace A := (⟨h1, h2.trans A.2⟩ : a.tmps.size = 19 ∧ a.defers = [])
    clear h1 h2 h3 h4
    clear t0 t1
    have hE : apE f n m = 110 := if_neg (fun q => by have := pE_no h1; omega)
    rw [hE, zl_no (by decide)]
    refine wp_ret ?_
    repeat (first | refine ret_in ?_ | refine ret_then ?_)
    refine bodyPost_ret (results_tmp2 rfl _ _ _) A.2 ⟨_, ?_, World.ownsRow_nil _ _ _ _, BB⟩
    show Ending.returned (.tuple #[a.eval (.tmp 4), a.eval (.tmp 5)]) = _
    rw [t4, t5]
set_option maxRecDepth 100000 in
set_option maxHeartbeats 4000000 in
/-- The reference's Fit. -/
theorem rfit (N : Nat) (d : Nat → Int) (m : Nat) (v : Value) (V : World) (hv : SliceI V v m d) (hm17 : m ≤ 17592186044416) (hN : N ≤ 17592186044416) :
    Calls Try.prog 39 #[.int .i64 ((N : Nat) : Int), v] V fun e w' => e = .returned (.bool (decide (m = N - 1) && fitQ d N m)) ∧ Below V.heap.size V w' := by
  obtain ⟨ia, ic, rfl, -, -, hsh⟩ := id hv.shape
  have FI := hv
  go_enter Try.func39, Try.ntmps39
  refine wp_seq ?_
  refine wp_region_sqK 33 [(0, 4)] (fun i_ => match i_ with | 0 => .bool false | _ => undef) rfl (by kernel_rfl) (by decide) (by decide) ?_ ?_
  · intro i_ hi_ a hf hv hn
    match i_, hi_ with
    | 0, _ => exact stepV rfl rfl (execAsgB rfl rfl) ⟨⟨_, rfl, rfl⟩, rfl⟩
    | k_ + 1, h_ => exact absurd h_ (by simp)
  intro a h1 h2 h3 h4
  have t0 : a.eval (.tmp 0) = .int .i64 ((N : Nat) : Int) := (h3 0 (by decide)).trans rfl
  have t1 : a.eval (.tmp 1) = .slice ia m ic := (h3 1 (by decide)).trans rfl
  have A : a.tmps.size = 33 ∧ a.defers = [] := ⟨h1, h2⟩
  have BW : Below V.heap.size V V := Below.refl _ _
  clear h1 h2 h3 h4
  have BB := BW
  refine wp_seq ?_
  refine wp_seq ?_
  refine wp_region_sq (σ := Value) 33 [(0, 6), (1, 7), (2, 8), (3, 9), (4, 10), (5, 11)] (fun j_ s X => match j_ with | 0 => Below V.heap.size V X | 1 => Below V.heap.size V X | 2 => Below V.heap.size V X | 3 => Below V.heap.size V X | 4 => Below V.heap.size V X ∧ (X.ownsRow V.heap.size 3 1 s (N - 1) (intsL (N - 1) (fun j => (N : Int) - (j : Int)))) | 5 => Below V.heap.size V X ∧ (X.ownsRow V.heap.size 3 1 s (N - 1) (intsL (N - 1) (fun j => (N : Int) - (j : Int)))) | _ => Below V.heap.size V X ∧ (X.ownsRow V.heap.size 3 1 s (N - 1) (intsL (N - 1) (fun j => (N : Int) - (j : Int))))) (fun s => fun i_ => match i_ with | 0 => .slice ia m ic | 1 => .int .i64 ((m : Nat) : Int) | 2 => .int .i64 ((N : Nat) : Int) | 3 => s | 4 => .int .i64 ((N - 1 : Nat) : Int) | 5 => .bool (decide (m ≠ N - 1)) | _ => undef) undef A.1 (by kernel_rfl) (by decide) (by decide) (BB) ?_ ?_
  · intro i_ hi_ s a X hf hv hn hS
    match i_, hi_ with
    | 0, _ => exact stepV rfl rfl (execMvB rfl ((hf 1 (by decide)).trans t1)) ⟨s, ⟨_, rfl, rfl⟩, hS, fun _ _ => rfl⟩
    | 1, _ => exact stepV rfl rfl (execLenI (len := m) rfl (hv 0 (by omega) _ rfl _ rfl) ((FI.on hS)).shp) ⟨s, ⟨_, rfl, rfl⟩, hS, fun _ _ => rfl⟩
    | 2, _ => exact stepV rfl rfl (execMvB rfl ((hf 0 (by decide)).trans t0)) ⟨s, ⟨_, rfl, rfl⟩, hS, fun _ _ => rfl⟩
    | 3, _ =>
      refine stepC rfl rfl (execCall1 Try.func25 (by kernel_rfl) (by kernel_rfl) rfl (hv 2 (by omega) _ rfl _ rfl)) (rbounds (N : Int) X (by omega)) fun e w' hh => ?_
      obtain ⟨r_, he, hk, hb⟩ := hh
      rw [show ((N : Int) - 1).toNat = N - 1 by omega] at hk
      refine ⟨_, he, r_, ⟨_, rfl, rfl⟩, ⟨(hS).trans ((hb).mono (hS).size), ownD_base hk (hS).size⟩, fun i hi => ?_⟩
      match i, hi with
      | 0, _ => rfl
      | 1, _ => rfl
      | 2, _ => rfl
      | n_ + 3, h_ => omega
    | 4, _ => exact stepV rfl rfl (execLenI (len := N - 1) rfl (hv 3 (by omega) _ rfl _ rfl) (shpO hS.2)) ⟨s, ⟨_, rfl, rfl⟩, hS, fun _ _ => rfl⟩
    | 5, _ => exact stepV rfl rfl (execNeN (p := m) (q := N - 1) rfl (hv 1 (by omega) _ rfl _ rfl) (hv 4 (by omega) _ rfl _ rfl)) ⟨s, ⟨_, rfl, rfl⟩, hS, fun _ _ => rfl⟩
    | k_ + 6, h_ => exact absurd h_ (by simp)
  rintro v9 a X1 h1 h2 h3 h4 hS
  clear BB
  replace hS : Below V.heap.size V X1 ∧ (X1.ownsRow V.heap.size 3 1 v9 (N - 1) (intsL (N - 1) (fun j => (N : Int) - (j : Int)))) := hS
  obtain ⟨BB, FB⟩ := hS
  replace t0 := (h3 0 (by decide)).trans t0
  replace t1 := (h3 1 (by decide)).trans t1
  have t11 : a.eval (.tmp 11) = .bool (decide (m ≠ N - 1)) := h4 5 _ rfl _ rfl
  replace A := (⟨h1, h2.trans A.2⟩ : a.tmps.size = 33 ∧ a.defers = [])
  clear h1 h2 h3 h4
  clear FB
  by_cases hm : m = N - 1
  · rw [decide_eq_false (fun q => q hm)] at t11
    refine wp_cond_false t11 ?_
    refine wp_skip ?_
    clear t11
    rw [decide_eq_true hm, Bool.true_and]
    refine wp_seq ?_
    refine wp_seq ?_
    refine wp_region_sq (σ := Unit) 33 [(0, 5)] (fun j_ s X => match j_ with | 0 => Below V.heap.size V X | _ => Below V.heap.size V X) (fun s => fun i_ => match i_ with | 0 => .int .i64 ((0 : Nat) : Int) | _ => undef) () A.1 (by kernel_rfl) (by decide) (by decide) (BB) ?_ ?_
    · intro i_ hi_ s a X hf hv hn hS
      match i_, hi_ with
      | 0, _ => exact stepV rfl rfl (execAsgB rfl rfl) ⟨s, ⟨_, rfl, rfl⟩, hS, fun _ _ => rfl⟩
      | k_ + 1, h_ => exact absurd h_ (by simp)
    rintro _ a X3 h1 h2 h3 h4 hS
    clear BB
    replace hS : Below V.heap.size V X3 := hS
    have BB := hS
    clear hS
    replace t0 := (h3 0 (by decide)).trans t0
    replace t1 := (h3 1 (by decide)).trans t1
    have t5 : a.eval (.tmp 5) = .int .i64 ((0 : Nat) : Int) := h4 0 _ rfl _ rfl
    replace A := (⟨h1, h2.trans A.2⟩ : a.tmps.size = 33 ∧ a.defers = [])
    clear h1 h2 h3 h4
    refine wp_block ?_
    refine wp_loop (fun a W => ∃ (i : Nat), i ≤ m ∧ (fitQ d N i = true) ∧ (a.tmps.size = 33 ∧ a.defers = []) ∧ a.eval (.tmp 0) = .int .i64 ((N : Nat) : Int) ∧ a.eval (.tmp 1) = .slice ia m ic ∧ a.eval (.tmp 5) = .int .i64 ((i : Nat) : Int) ∧ Below V.heap.size V W) (fun a _ => m - (intOf (a.eval (.tmp 5))).toNat) ⟨0, Nat.zero_le _, rfl, A, t0, t1, t5, BB⟩ ?_
    clear A t0 t1 t5 BB a
    rintro a XL4 ⟨i, hi, hok, A, t0, t1, t5, BB⟩
    have es := t5
    refine wp_seq ?_
    refine wp_seq ?_
    refine wp_region_sq (σ := Unit) 33 [(0, 12), (1, 13), (2, 14), (3, 15)] (fun j_ s X => match j_ with | 0 => Below V.heap.size V X | 1 => Below V.heap.size V X | 2 => Below V.heap.size V X | 3 => Below V.heap.size V X | _ => Below V.heap.size V X) (fun s => fun i_ => match i_ with | 0 => .int .i64 ((i : Nat) : Int) | 1 => .slice ia m ic | 2 => .int .i64 ((m : Nat) : Int) | 3 => .bool (decide (i < m)) | _ => undef) () A.1 (by kernel_rfl) (by decide) (by decide) (BB) ?_ ?_
    · intro i_ hi_ s a X hf hv hn hS
      match i_, hi_ with
      | 0, _ => exact stepV rfl rfl (execMvB rfl ((hf 5 (by decide)).trans t5)) ⟨s, ⟨_, rfl, rfl⟩, hS, fun _ _ => rfl⟩
      | 1, _ => exact stepV rfl rfl (execMvB rfl ((hf 1 (by decide)).trans t1)) ⟨s, ⟨_, rfl, rfl⟩, hS, fun _ _ => rfl⟩
      | 2, _ => exact stepV rfl rfl (execLenI (len := m) rfl (hv 1 (by omega) _ rfl _ rfl) ((FI.on hS)).shp) ⟨s, ⟨_, rfl, rfl⟩, hS, fun _ _ => rfl⟩
      | 3, _ => exact stepV rfl rfl (execLtW (p := i) (q := m) rfl (hv 0 (by omega) _ rfl _ rfl) (hv 2 (by omega) _ rfl _ rfl)) ⟨s, ⟨_, rfl, rfl⟩, hS, fun _ _ => rfl⟩
      | k_ + 4, h_ => exact absurd h_ (by simp)
    rintro _ a X4 h1 h2 h3 h4 hS
    clear BB
    replace hS : Below V.heap.size V X4 := hS
    have BB := hS
    clear hS
    replace t0 := (h3 0 (by decide)).trans t0
    replace t1 := (h3 1 (by decide)).trans t1
    replace t5 := (h3 5 (by decide)).trans t5
    have t15 : a.eval (.tmp 15) = .bool (decide (i < m)) := h4 3 _ rfl _ rfl
    replace A := (⟨h1, h2.trans A.2⟩ : a.tmps.size = 33 ∧ a.defers = [])
    clear h1 h2 h3 h4
    by_cases hlt : i < m
    · rw [decide_eq_true hlt] at t15
      refine wp_cond_true t15 ?_
      refine wp_skip ?_
      clear t15
      refine wp_seq ?_
      refine wp_block ?_
      obtain ⟨ib, io, rfl, hib, hcell⟩ := hsh (by omega)
      have cI : ∀ k, k < m → ∀ X, Below V.heap.size V X → X.cell? ⟨ib, io + k, none⟩ = some (.int .i64 (d k)) := fun k hk X hX => by rw [cell_below hX hib]; exact hcell k hk
      by_cases h1 : d i < 0
      · refine wp_seq ?_
        refine wp_region_sq (σ := Unit) 33 [(0, 18), (1, 19), (2, 20), (3, 21), (4, 22), (5, 23), (6, 24), (7, 25), (8, 26), (9, 27), (10, 28), (11, 29), (12, 30), (13, 31), (14, 32)] (fun j_ s X => match j_ with | 0 => Below V.heap.size V X | 1 => Below V.heap.size V X | 2 => Below V.heap.size V X | 3 => Below V.heap.size V X | 4 => Below V.heap.size V X | 5 => Below V.heap.size V X | 6 => Below V.heap.size V X | 7 => Below V.heap.size V X | 8 => Below V.heap.size V X | 9 => Below V.heap.size V X | 10 => Below V.heap.size V X | 11 => Below V.heap.size V X | 12 => Below V.heap.size V X | 13 => Below V.heap.size V X | 14 => Below V.heap.size V X | _ => Below V.heap.size V X) (fun s => fun i_ => match i_ with | 0 => .slice (some ⟨ib, io, none⟩) m ic | 1 => .int .i64 ((i : Nat) : Int) | 2 => .pointer (some ⟨ib, io + i, none⟩) | 3 => .int .i64 (d i) | 4 => .bool true | 5 => .bool true | 6 => undef | 7 => undef | 8 => undef | 9 => undef | 10 => undef | 11 => undef | 12 => undef | 13 => undef | 14 => .bool true | _ => undef) () A.1 (by kernel_rfl) (by decide) (by decide) (BB) ?_ ?_
        · intro i_ hi_ s a X hf hv hn hS
          match i_, hi_ with
          | 0, _ => exact stepV rfl rfl (execMvB rfl ((hf 1 (by decide)).trans t1)) ⟨s, ⟨_, rfl, rfl⟩, hS, fun _ _ => rfl⟩
          | 1, _ => exact stepV rfl rfl (execMvB rfl ((hf 5 (by decide)).trans t5)) ⟨s, ⟨_, rfl, rfl⟩, hS, fun _ _ => rfl⟩
          | 2, _ => exact stepV rfl rfl (execIdxN (k := i) rfl (hv 0 (by omega) _ rfl _ rfl) (hv 1 (by omega) _ rfl _ rfl) hlt) ⟨s, ⟨_, rfl, rfl⟩, hS, fun _ _ => rfl⟩
          | 3, _ => exact stepV rfl rfl (execLd3 rfl (hv 2 (by omega) _ rfl _ rfl) (cI i hlt X hS)) ⟨s, ⟨_, rfl, rfl⟩, hS, fun _ _ => rfl⟩
          | 4, _ => exact stepV rfl rfl (execLtCt (p := (d i)) (q := 0) rfl (hv 3 (by omega) _ rfl _ rfl) (by exact h1)) ⟨s, ⟨_, rfl, rfl⟩, hS, fun _ _ => rfl⟩
          | 5, _ => exact stepV rfl rfl (execMvB rfl (hv 4 (by omega) _ rfl _ rfl)) ⟨s, ⟨_, rfl, rfl⟩, hS, fun _ _ => rfl⟩
          | 6, _ => exact stepU rfl (unwantedOf rfl (yieldedAt rfl rfl (show a.eval (.tmp 23) = .bool (!false) from (hv 5 (by omega) _ rfl _ rfl)))) ⟨s, ⟨_, rfl, rfl⟩, hS, fun _ _ => rfl⟩
          | 7, _ => exact stepU rfl (unwantedOf rfl (yieldedAt rfl rfl (show a.eval (.tmp 23) = .bool (!false) from (hv 5 (by omega) _ rfl _ rfl)))) ⟨s, ⟨_, rfl, rfl⟩, hS, fun _ _ => rfl⟩
          | 8, _ => exact stepU rfl (unwantedOf rfl (yieldedAt rfl rfl (show a.eval (.tmp 23) = .bool (!false) from (hv 5 (by omega) _ rfl _ rfl)))) ⟨s, ⟨_, rfl, rfl⟩, hS, fun _ _ => rfl⟩
          | 9, _ => exact stepU rfl (unwantedOf rfl (yieldedAt rfl rfl (show a.eval (.tmp 23) = .bool (!false) from (hv 5 (by omega) _ rfl _ rfl)))) ⟨s, ⟨_, rfl, rfl⟩, hS, fun _ _ => rfl⟩
          | 10, _ => exact stepU rfl (unwantedOf rfl (yieldedAt rfl rfl (show a.eval (.tmp 23) = .bool (!false) from (hv 5 (by omega) _ rfl _ rfl)))) ⟨s, ⟨_, rfl, rfl⟩, hS, fun _ _ => rfl⟩
          | 11, _ => exact stepU rfl (unwantedOf rfl (yieldedAt rfl rfl (show a.eval (.tmp 23) = .bool (!false) from (hv 5 (by omega) _ rfl _ rfl)))) ⟨s, ⟨_, rfl, rfl⟩, hS, fun _ _ => rfl⟩
          | 12, _ => exact stepU rfl (unwantedOf rfl (yieldedAt rfl rfl (show a.eval (.tmp 23) = .bool (!false) from (hv 5 (by omega) _ rfl _ rfl)))) ⟨s, ⟨_, rfl, rfl⟩, hS, fun _ _ => rfl⟩
          | 13, _ => exact stepU rfl (unwantedOf rfl (yieldedAt rfl rfl (show a.eval (.tmp 23) = .bool (!false) from (hv 5 (by omega) _ rfl _ rfl)))) ⟨s, ⟨_, rfl, rfl⟩, hS, fun _ _ => rfl⟩
          | 14, _ => exact stepV rfl rfl (execPickT rfl (hv 5 (by omega) _ rfl _ rfl) rfl) ⟨s, ⟨_, rfl, rfl⟩, hS, fun _ _ => rfl⟩
          | k_ + 15, h_ => exact absurd h_ (by simp)
        rintro _ a X6 h1 h2 h3 h4 hS
        clear BB
        replace hS : Below V.heap.size V X6 := hS
        have BB := hS
        clear hS
        replace t0 := (h3 0 (by decide)).trans t0
        replace t1 := (h3 1 (by decide)).trans t1
        replace t5 := (h3 5 (by decide)).trans t5
        have t32 : a.eval (.tmp 32) = .bool true := h4 14 _ rfl _ rfl
        replace A := (⟨h1, h2.trans A.2⟩ : a.tmps.size = 33 ∧ a.defers = [])
        clear h1 h2 h3 h4
        refine wp_cond_true t32 ?_
        refine wp_seq ?_
        refine wp_region_sq (σ := Unit) 33 [(0, 4)] (fun j_ s X => match j_ with | 0 => Below V.heap.size V X | _ => Below V.heap.size V X) (fun s => fun i_ => match i_ with | 0 => .bool false | _ => undef) () A.1 (by kernel_rfl) (by decide) (by decide) (BB) ?_ ?_
        · intro i_ hi_ s a X hf hv hn hS
          match i_, hi_ with
          | 0, _ => exact stepV rfl rfl (execAsgB rfl rfl) ⟨s, ⟨_, rfl, rfl⟩, hS, fun _ _ => rfl⟩
          | k_ + 1, h_ => exact absurd h_ (by simp)
        rintro _ a X7 h1 h2 h3 h4 hS
        clear BB
        replace hS : Below V.heap.size V X7 := hS
        have BB := hS
        clear hS
        have t4 : a.eval (.tmp 4) = .bool false := h4 0 _ rfl _ rfl
        replace A := (⟨h1, h2.trans A.2⟩ : a.tmps.size = 33 ∧ a.defers = [])
        clear h1 h2 h3 h4
        clear t0 t1 t5 t32
        have hy : fitQ d N m = false := fitQ_bad hlt (by omega)
        rw [hy]
        refine wp_ret ?_
        repeat (first | refine ret_in ?_ | refine ret_then ?_)
        refine bodyPost_ret (results_tmp rfl _ _ _) A.2 ⟨?_, BB⟩
        show Ending.returned (a.eval (.tmp 4)) = _
        rw [t4]
      · by_cases h2 : (N : Int) - i ≤ d i
        · obtain ⟨w, ew⟩ : ∃ w : Nat, d i = w := ⟨(d i).toNat, by omega⟩
          have cW : ∀ X, Below V.heap.size V X → X.cell? ⟨ib, io + i, none⟩ = some (.int .i64 ((w : Nat) : Int)) := fun X hX => by rw [cI i hlt X hX, ew]
          refine wp_seq ?_
          refine wp_region_sq (σ := Unit) 33 [(0, 18), (1, 19), (2, 20), (3, 21), (4, 22), (5, 23), (6, 24), (7, 25), (8, 26), (9, 27), (10, 28), (11, 29), (12, 30), (13, 31), (14, 32)] (fun j_ s X => match j_ with | 0 => Below V.heap.size V X | 1 => Below V.heap.size V X | 2 => Below V.heap.size V X | 3 => Below V.heap.size V X | 4 => Below V.heap.size V X | 5 => Below V.heap.size V X | 6 => Below V.heap.size V X | 7 => Below V.heap.size V X | 8 => Below V.heap.size V X | 9 => Below V.heap.size V X | 10 => Below V.heap.size V X | 11 => Below V.heap.size V X | 12 => Below V.heap.size V X | 13 => Below V.heap.size V X | 14 => Below V.heap.size V X | _ => Below V.heap.size V X) (fun s => fun i_ => match i_ with | 0 => .slice (some ⟨ib, io, none⟩) m ic | 1 => .int .i64 ((i : Nat) : Int) | 2 => .pointer (some ⟨ib, io + i, none⟩) | 3 => .int .i64 ((w : Nat) : Int) | 4 => .bool false | 5 => .bool false | 6 => .slice (some ⟨ib, io, none⟩) m ic | 7 => .int .i64 ((i : Nat) : Int) | 8 => .pointer (some ⟨ib, io + i, none⟩) | 9 => .int .i64 ((w : Nat) : Int) | 10 => .int .i64 ((N : Nat) : Int) | 11 => .int .i64 ((i : Nat) : Int) | 12 => .int .i64 ((N - i : Nat) : Int) | 13 => .bool true | 14 => .bool true | _ => undef) () A.1 (by kernel_rfl) (by decide) (by decide) (BB) ?_ ?_
          · intro i_ hi_ s a X hf hv hn hS
            match i_, hi_ with
            | 0, _ => exact stepV rfl rfl (execMvB rfl ((hf 1 (by decide)).trans t1)) ⟨s, ⟨_, rfl, rfl⟩, hS, fun _ _ => rfl⟩
            | 1, _ => exact stepV rfl rfl (execMvB rfl ((hf 5 (by decide)).trans t5)) ⟨s, ⟨_, rfl, rfl⟩, hS, fun _ _ => rfl⟩
            | 2, _ => exact stepV rfl rfl (execIdxN (k := i) rfl (hv 0 (by omega) _ rfl _ rfl) (hv 1 (by omega) _ rfl _ rfl) hlt) ⟨s, ⟨_, rfl, rfl⟩, hS, fun _ _ => rfl⟩
            | 3, _ => exact stepV rfl rfl (execLd3 rfl (hv 2 (by omega) _ rfl _ rfl) (cW X hS)) ⟨s, ⟨_, rfl, rfl⟩, hS, fun _ _ => rfl⟩
            | 4, _ => exact stepV rfl rfl (execDec (execLtW (p := w) (q := 0) rfl (hv 3 (by omega) _ rfl _ rfl) rfl) (decide_eq_false (by omega))) ⟨s, ⟨_, rfl, rfl⟩, hS, fun _ _ => rfl⟩
            | 5, _ => exact stepV rfl rfl (execMvB rfl (hv 4 (by omega) _ rfl _ rfl)) ⟨s, ⟨_, rfl, rfl⟩, hS, fun _ _ => rfl⟩
            | 6, _ => exact stepV rfl (wantedOf rfl (yieldedAt rfl rfl (show a.eval (.tmp 23) = .bool false from (hv 5 (by omega) _ rfl _ rfl)))) (execMvB rfl ((hf 1 (by decide)).trans t1)) ⟨s, ⟨_, rfl, rfl⟩, hS, fun _ _ => rfl⟩
            | 7, _ => exact stepV rfl (wantedOf rfl (yieldedAt rfl rfl (show a.eval (.tmp 23) = .bool false from (hv 5 (by omega) _ rfl _ rfl)))) (execMvB rfl ((hf 5 (by decide)).trans t5)) ⟨s, ⟨_, rfl, rfl⟩, hS, fun _ _ => rfl⟩
            | 8, _ => exact stepV rfl (wantedOf rfl (yieldedAt rfl rfl (show a.eval (.tmp 23) = .bool false from (hv 5 (by omega) _ rfl _ rfl)))) (execIdxN (k := i) rfl (hv 6 (by omega) _ rfl _ rfl) (hv 7 (by omega) _ rfl _ rfl) hlt) ⟨s, ⟨_, rfl, rfl⟩, hS, fun _ _ => rfl⟩
            | 9, _ => exact stepV rfl (wantedOf rfl (yieldedAt rfl rfl (show a.eval (.tmp 23) = .bool false from (hv 5 (by omega) _ rfl _ rfl)))) (execLd3 rfl (hv 8 (by omega) _ rfl _ rfl) (cW X hS)) ⟨s, ⟨_, rfl, rfl⟩, hS, fun _ _ => rfl⟩
            | 10, _ => exact stepV rfl (wantedOf rfl (yieldedAt rfl rfl (show a.eval (.tmp 23) = .bool false from (hv 5 (by omega) _ rfl _ rfl)))) (execMvB rfl ((hf 0 (by decide)).trans t0)) ⟨s, ⟨_, rfl, rfl⟩, hS, fun _ _ => rfl⟩
            | 11, _ => exact stepV rfl (wantedOf rfl (yieldedAt rfl rfl (show a.eval (.tmp 23) = .bool false from (hv 5 (by omega) _ rfl _ rfl)))) (execMvB rfl ((hf 5 (by decide)).trans t5)) ⟨s, ⟨_, rfl, rfl⟩, hS, fun _ _ => rfl⟩
            | 12, _ => exact stepV rfl (wantedOf rfl (yieldedAt rfl rfl (show a.eval (.tmp 23) = .bool false from (hv 5 (by omega) _ rfl _ rfl)))) (By8.execSubI (p := N) (q := i) rfl (hv 10 (by omega) _ rfl _ rfl) (hv 11 (by omega) _ rfl _ rfl) (by omega) (by omega)) ⟨s, ⟨_, rfl, rfl⟩, hS, fun _ _ => rfl⟩
            | 13, _ => exact stepV rfl (wantedOf rfl (yieldedAt rfl rfl (show a.eval (.tmp 23) = .bool false from (hv 5 (by omega) _ rfl _ rfl)))) (execDec (execGe8 (p := w) (q := N - i) rfl (hv 9 (by omega) _ rfl _ rfl) (hv 12 (by omega) _ rfl _ rfl)) (decide_eq_true (by omega))) ⟨s, ⟨_, rfl, rfl⟩, hS, fun _ _ => rfl⟩
            | 14, _ => exact stepV rfl rfl (execPickF rfl (hv 5 (by omega) _ rfl _ rfl) (hv 13 (by omega) _ rfl _ rfl)) ⟨s, ⟨_, rfl, rfl⟩, hS, fun _ _ => rfl⟩
            | k_ + 15, h_ => exact absurd h_ (by simp)
          rintro _ a X6 h1 h2 h3 h4 hS
          clear BB
          replace hS : Below V.heap.size V X6 := hS
          have BB := hS
          clear hS
          replace t0 := (h3 0 (by decide)).trans t0
          replace t1 := (h3 1 (by decide)).trans t1
          replace t5 := (h3 5 (by decide)).trans t5
          have t32 : a.eval (.tmp 32) = .bool true := h4 14 _ rfl _ rfl
          replace A := (⟨h1, h2.trans A.2⟩ : a.tmps.size = 33 ∧ a.defers = [])
          clear h1 h2 h3 h4
          refine wp_cond_true t32 ?_
          refine wp_seq ?_
          refine wp_region_sq (σ := Unit) 33 [(0, 4)] (fun j_ s X => match j_ with | 0 => Below V.heap.size V X | _ => Below V.heap.size V X) (fun s => fun i_ => match i_ with | 0 => .bool false | _ => undef) () A.1 (by kernel_rfl) (by decide) (by decide) (BB) ?_ ?_
          · intro i_ hi_ s a X hf hv hn hS
            match i_, hi_ with
            | 0, _ => exact stepV rfl rfl (execAsgB rfl rfl) ⟨s, ⟨_, rfl, rfl⟩, hS, fun _ _ => rfl⟩
            | k_ + 1, h_ => exact absurd h_ (by simp)
          rintro _ a X7 h1 h2 h3 h4 hS
          clear BB
          replace hS : Below V.heap.size V X7 := hS
          have BB := hS
          clear hS
          have t4 : a.eval (.tmp 4) = .bool false := h4 0 _ rfl _ rfl
          replace A := (⟨h1, h2.trans A.2⟩ : a.tmps.size = 33 ∧ a.defers = [])
          clear h1 h2 h3 h4
          clear t0 t1 t5 t32
          have hy : fitQ d N m = false := fitQ_bad hlt (by omega)
          rw [hy]
          refine wp_ret ?_
          repeat (first | refine ret_in ?_ | refine ret_then ?_)
          refine bodyPost_ret (results_tmp rfl _ _ _) A.2 ⟨?_, BB⟩
          show Ending.returned (a.eval (.tmp 4)) = _
          rw [t4]
        · obtain ⟨w, ew⟩ : ∃ w : Nat, d i = w := ⟨(d i).toNat, by omega⟩
          have cW : ∀ X, Below V.heap.size V X → X.cell? ⟨ib, io + i, none⟩ = some (.int .i64 ((w : Nat) : Int)) := fun X hX => by rw [cI i hlt X hX, ew]
          refine wp_seq ?_
          refine wp_region_sq (σ := Unit) 33 [(0, 18), (1, 19), (2, 20), (3, 21), (4, 22), (5, 23), (6, 24), (7, 25), (8, 26), (9, 27), (10, 28), (11, 29), (12, 30), (13, 31), (14, 32)] (fun j_ s X => match j_ with | 0 => Below V.heap.size V X | 1 => Below V.heap.size V X | 2 => Below V.heap.size V X | 3 => Below V.heap.size V X | 4 => Below V.heap.size V X | 5 => Below V.heap.size V X | 6 => Below V.heap.size V X | 7 => Below V.heap.size V X | 8 => Below V.heap.size V X | 9 => Below V.heap.size V X | 10 => Below V.heap.size V X | 11 => Below V.heap.size V X | 12 => Below V.heap.size V X | 13 => Below V.heap.size V X | 14 => Below V.heap.size V X | _ => Below V.heap.size V X) (fun s => fun i_ => match i_ with | 0 => .slice (some ⟨ib, io, none⟩) m ic | 1 => .int .i64 ((i : Nat) : Int) | 2 => .pointer (some ⟨ib, io + i, none⟩) | 3 => .int .i64 ((w : Nat) : Int) | 4 => .bool false | 5 => .bool false | 6 => .slice (some ⟨ib, io, none⟩) m ic | 7 => .int .i64 ((i : Nat) : Int) | 8 => .pointer (some ⟨ib, io + i, none⟩) | 9 => .int .i64 ((w : Nat) : Int) | 10 => .int .i64 ((N : Nat) : Int) | 11 => .int .i64 ((i : Nat) : Int) | 12 => .int .i64 ((N - i : Nat) : Int) | 13 => .bool false | 14 => .bool false | _ => undef) () A.1 (by kernel_rfl) (by decide) (by decide) (BB) ?_ ?_
          · intro i_ hi_ s a X hf hv hn hS
            match i_, hi_ with
            | 0, _ => exact stepV rfl rfl (execMvB rfl ((hf 1 (by decide)).trans t1)) ⟨s, ⟨_, rfl, rfl⟩, hS, fun _ _ => rfl⟩
            | 1, _ => exact stepV rfl rfl (execMvB rfl ((hf 5 (by decide)).trans t5)) ⟨s, ⟨_, rfl, rfl⟩, hS, fun _ _ => rfl⟩
            | 2, _ => exact stepV rfl rfl (execIdxN (k := i) rfl (hv 0 (by omega) _ rfl _ rfl) (hv 1 (by omega) _ rfl _ rfl) hlt) ⟨s, ⟨_, rfl, rfl⟩, hS, fun _ _ => rfl⟩
            | 3, _ => exact stepV rfl rfl (execLd3 rfl (hv 2 (by omega) _ rfl _ rfl) (cW X hS)) ⟨s, ⟨_, rfl, rfl⟩, hS, fun _ _ => rfl⟩
            | 4, _ => exact stepV rfl rfl (execDec (execLtW (p := w) (q := 0) rfl (hv 3 (by omega) _ rfl _ rfl) rfl) (decide_eq_false (by omega))) ⟨s, ⟨_, rfl, rfl⟩, hS, fun _ _ => rfl⟩
            | 5, _ => exact stepV rfl rfl (execMvB rfl (hv 4 (by omega) _ rfl _ rfl)) ⟨s, ⟨_, rfl, rfl⟩, hS, fun _ _ => rfl⟩
            | 6, _ => exact stepV rfl (wantedOf rfl (yieldedAt rfl rfl (show a.eval (.tmp 23) = .bool false from (hv 5 (by omega) _ rfl _ rfl)))) (execMvB rfl ((hf 1 (by decide)).trans t1)) ⟨s, ⟨_, rfl, rfl⟩, hS, fun _ _ => rfl⟩
            | 7, _ => exact stepV rfl (wantedOf rfl (yieldedAt rfl rfl (show a.eval (.tmp 23) = .bool false from (hv 5 (by omega) _ rfl _ rfl)))) (execMvB rfl ((hf 5 (by decide)).trans t5)) ⟨s, ⟨_, rfl, rfl⟩, hS, fun _ _ => rfl⟩
            | 8, _ => exact stepV rfl (wantedOf rfl (yieldedAt rfl rfl (show a.eval (.tmp 23) = .bool false from (hv 5 (by omega) _ rfl _ rfl)))) (execIdxN (k := i) rfl (hv 6 (by omega) _ rfl _ rfl) (hv 7 (by omega) _ rfl _ rfl) hlt) ⟨s, ⟨_, rfl, rfl⟩, hS, fun _ _ => rfl⟩
            | 9, _ => exact stepV rfl (wantedOf rfl (yieldedAt rfl rfl (show a.eval (.tmp 23) = .bool false from (hv 5 (by omega) _ rfl _ rfl)))) (execLd3 rfl (hv 8 (by omega) _ rfl _ rfl) (cW X hS)) ⟨s, ⟨_, rfl, rfl⟩, hS, fun _ _ => rfl⟩
            | 10, _ => exact stepV rfl (wantedOf rfl (yieldedAt rfl rfl (show a.eval (.tmp 23) = .bool false from (hv 5 (by omega) _ rfl _ rfl)))) (execMvB rfl ((hf 0 (by decide)).trans t0)) ⟨s, ⟨_, rfl, rfl⟩, hS, fun _ _ => rfl⟩
            | 11, _ => exact stepV rfl (wantedOf rfl (yieldedAt rfl rfl (show a.eval (.tmp 23) = .bool false from (hv 5 (by omega) _ rfl _ rfl)))) (execMvB rfl ((hf 5 (by decide)).trans t5)) ⟨s, ⟨_, rfl, rfl⟩, hS, fun _ _ => rfl⟩
            | 12, _ => exact stepV rfl (wantedOf rfl (yieldedAt rfl rfl (show a.eval (.tmp 23) = .bool false from (hv 5 (by omega) _ rfl _ rfl)))) (By8.execSubI (p := N) (q := i) rfl (hv 10 (by omega) _ rfl _ rfl) (hv 11 (by omega) _ rfl _ rfl) (by omega) (by omega)) ⟨s, ⟨_, rfl, rfl⟩, hS, fun _ _ => rfl⟩
            | 13, _ => exact stepV rfl (wantedOf rfl (yieldedAt rfl rfl (show a.eval (.tmp 23) = .bool false from (hv 5 (by omega) _ rfl _ rfl)))) (execDec (execGe8 (p := w) (q := N - i) rfl (hv 9 (by omega) _ rfl _ rfl) (hv 12 (by omega) _ rfl _ rfl)) (decide_eq_false (by omega))) ⟨s, ⟨_, rfl, rfl⟩, hS, fun _ _ => rfl⟩
            | 14, _ => exact stepV rfl rfl (execPickF rfl (hv 5 (by omega) _ rfl _ rfl) (hv 13 (by omega) _ rfl _ rfl)) ⟨s, ⟨_, rfl, rfl⟩, hS, fun _ _ => rfl⟩
            | k_ + 15, h_ => exact absurd h_ (by simp)
          rintro _ a X6 h1 h2 h3 h4 hS
          clear BB
          replace hS : Below V.heap.size V X6 := hS
          have BB := hS
          clear hS
          replace t0 := (h3 0 (by decide)).trans t0
          replace t1 := (h3 1 (by decide)).trans t1
          replace t5 := (h3 5 (by decide)).trans t5
          have t32 : a.eval (.tmp 32) = .bool false := h4 14 _ rfl _ rfl
          replace A := (⟨h1, h2.trans A.2⟩ : a.tmps.size = 33 ∧ a.defers = [])
          clear h1 h2 h3 h4
          refine wp_cond_false t32 ?_
          refine wp_skip ?_
          clear t32
          refine wp_region_sq (σ := Unit) 33 [(0, 16), (1, 17), (2, 5)] (fun j_ s X => match j_ with | 0 => Below V.heap.size V X | 1 => Below V.heap.size V X | 2 => Below V.heap.size V X | _ => Below V.heap.size V X) (fun s => fun i_ => match i_ with | 0 => .int .i64 ((i : Nat) : Int) | 1 => .int .i64 ((i + 1 : Nat) : Int) | 2 => .int .i64 ((i + 1 : Nat) : Int) | _ => undef) () A.1 (by kernel_rfl) (by decide) (by decide) (BB) ?_ ?_
          · intro i_ hi_ s a X hf hv hn hS
            match i_, hi_ with
            | 0, _ => exact stepV rfl rfl (execMvB rfl ((hn 2 (by omega) _ rfl _ rfl).trans t5)) ⟨s, ⟨_, rfl, rfl⟩, hS, fun _ _ => rfl⟩
            | 1, _ => exact stepV rfl rfl (execAd8 (p := i) (q := 1) rfl (hv 0 (by omega) _ rfl _ rfl) rfl (by omega)) ⟨s, ⟨_, rfl, rfl⟩, hS, fun _ _ => rfl⟩
            | 2, _ => exact stepV rfl rfl (execAsgB rfl (hv 1 (by omega) _ rfl _ rfl)) ⟨s, ⟨_, rfl, rfl⟩, hS, fun _ _ => rfl⟩
            | k_ + 3, h_ => exact absurd h_ (by simp)
          rintro _ a X5 h1 h2 h3 h4 hS
          clear BB
          replace hS : Below V.heap.size V X5 := hS
          have BB := hS
          clear hS
          replace t0 := (h3 0 (by decide)).trans t0
          replace t1 := (h3 1 (by decide)).trans t1
          replace t5 : a.eval (.tmp 5) = .int .i64 ((i + 1 : Nat) : Int) := h4 2 _ rfl _ rfl
          replace A := (⟨h1, h2.trans A.2⟩ : a.tmps.size = 33 ∧ a.defers = [])
          clear h1 h2 h3 h4
          exact ⟨⟨i + 1, hlt, fitQ_succ hok (by omega), A, t0, t1, t5, BB⟩, by show m - (intOf (a.eval (.tmp 5))).toNat < m - (intOf (Act.eval _ (.tmp 5))).toNat; rw [t5, es]; show m - (i + 1) < m - i; omega⟩
    · rw [decide_eq_false hlt] at t15
      refine wp_cond_false t15 ?_
      refine wp_exit ?_
      first | refine exit_in ?_ | refine exit_then (exit_in ?_) | refine exit_then (exit_then (exit_in ?_))
      clear t15 es
      have hin : i = m := by omega
      rw [hin] at hok
      rw [hok]
      refine wp_seq ?_
      refine wp_region_sq (σ := Unit) 33 [(0, 4)] (fun j_ s X => match j_ with | 0 => Below V.heap.size V X | _ => Below V.heap.size V X) (fun s => fun i_ => match i_ with | 0 => .bool true | _ => undef) () A.1 (by kernel_rfl) (by decide) (by decide) (BB) ?_ ?_
      · intro i_ hi_ s a X hf hv hn hS
        match i_, hi_ with
        | 0, _ => exact stepV rfl rfl (execAsgB rfl rfl) ⟨s, ⟨_, rfl, rfl⟩, hS, fun _ _ => rfl⟩
        | k_ + 1, h_ => exact absurd h_ (by simp)
      rintro _ a X8 h1 h2 h3 h4 hS
      clear BB
      replace hS : Below V.heap.size V X8 := hS
      have BB := hS
      clear hS
      have t4 : a.eval (.tmp 4) = .bool true := h4 0 _ rfl _ rfl
      replace A := (⟨h1, h2.trans A.2⟩ : a.tmps.size = 33 ∧ a.defers = [])
      clear h1 h2 h3 h4
      clear t0 t1 t5
      refine wp_ret ?_
      repeat (first | refine ret_in ?_ | refine ret_then ?_)
      refine bodyPost_ret (results_tmp rfl _ _ _) A.2 ⟨?_, BB⟩
      show Ending.returned (a.eval (.tmp 4)) = _
      rw [t4]
  · rw [decide_eq_true hm] at t11
    refine wp_cond_true t11 ?_
    refine wp_seq ?_
    rw [decide_eq_false hm, Bool.false_and]
    refine wp_region_sq (σ := Unit) 33 [(0, 4)] (fun j_ s X => match j_ with | 0 => Below V.heap.size V X | _ => Below V.heap.size V X) (fun s => fun i_ => match i_ with | 0 => .bool false | _ => undef) () A.1 (by kernel_rfl) (by decide) (by decide) (BB) ?_ ?_
    · intro i_ hi_ s a X hf hv hn hS
      match i_, hi_ with
      | 0, _ => exact stepV rfl rfl (execAsgB rfl rfl) ⟨s, ⟨_, rfl, rfl⟩, hS, fun _ _ => rfl⟩
      | k_ + 1, h_ => exact absurd h_ (by simp)
    rintro _ a X2 h1 h2 h3 h4 hS
    clear BB
    replace hS : Below V.heap.size V X2 := hS
    have BB := hS
    clear hS
    have t4 : a.eval (.tmp 4) = .bool false := h4 0 _ rfl _ rfl
    replace A := (⟨h1, h2.trans A.2⟩ : a.tmps.size = 33 ∧ a.defers = [])
    clear h1 h2 h3 h4
    clear t0 t1
    refine wp_ret ?_
    repeat (first | refine ret_in ?_ | refine ret_then ?_)
    refine bodyPost_ret (results_tmp rfl _ _ _) A.2 ⟨?_, BB⟩
    show Ending.returned (a.eval (.tmp 4)) = _
    rw [t4]
set_option maxRecDepth 100000 in
set_option maxHeartbeats 4000000 in
/-- The reference's From, of no number below 0. -/
theorem rfrom_nat (N : Nat) (d : Nat → Int) (m : Nat) (v : Value) (V : World) (hv : SliceI V v m d) (hm17 : m ≤ 17592186043904) :
    Calls Try.prog 18 #[.int .i64 ((N : Nat) : Int), v] V fun e w' => ∃ r, e = .returned (.tuple #[r, .int .i64 ((frE (N : Int) d m : Nat) : Int)]) ∧ w'.ownsRow V.heap.size 3 1 r (zl (frE (N : Int) d m) ((N : Int)).toNat) (intsL (zl (frE (N : Int) d m) ((N : Int)).toNat) (fun j => (frA N (gN d) m j : Int))) ∧ Below V.heap.size V w' := by
  obtain ⟨ia, ic, rfl, -, -, hsh⟩ := id hv.shape
  have FI := hv
  go_enter Try.func18, Try.ntmps18
  refine wp_seq ?_
  refine wp_region_sqK 66 [(0, 4), (1, 5)] (fun i_ => match i_ with | 0 => .slice none 0 0 | 1 => .int .i64 ((0 : Nat) : Int) | _ => undef) rfl (by kernel_rfl) (by decide) (by decide) ?_ ?_
  · intro i_ hi_ a hf hv hn
    match i_, hi_ with
    | 0, _ => exact stepV rfl rfl (execAsgB rfl rfl) ⟨⟨_, rfl, rfl⟩, rfl⟩
    | 1, _ => exact stepV rfl rfl (execAsgB rfl rfl) ⟨⟨_, rfl, rfl⟩, rfl⟩
    | k_ + 2, h_ => exact absurd h_ (by simp)
  intro a h1 h2 h3 h4
  have t0 : a.eval (.tmp 0) = .int .i64 ((N : Nat) : Int) := (h3 0 (by decide)).trans rfl
  have t1 : a.eval (.tmp 1) = .slice ia m ic := (h3 1 (by decide)).trans rfl
  have A : a.tmps.size = 66 ∧ a.defers = [] := ⟨h1, h2⟩
  have BW : Below V.heap.size V V := Below.refl _ _
  clear h1 h2 h3 h4
  have BB := BW
  refine wp_seq ?_
  refine wp_seq ?_
  refine wp_region_sq (σ := Unit) 66 [(0, 11), (1, 12)] (fun j_ s X => match j_ with | 0 => Below V.heap.size V X | 1 => Below V.heap.size V X | _ => Below V.heap.size V X) (fun s => fun i_ => match i_ with | 0 => .int .i64 ((N : Nat) : Int) | 1 => .bool false | _ => undef) () A.1 (by kernel_rfl) (by decide) (by decide) (BB) ?_ ?_
  · intro i_ hi_ s a X hf hv hn hS
    match i_, hi_ with
    | 0, _ => exact stepV rfl rfl (execMvB rfl ((hf 0 (by decide)).trans t0)) ⟨s, ⟨_, rfl, rfl⟩, hS, fun _ _ => rfl⟩
    | 1, _ => exact stepV rfl rfl (execDec (execLtW (p := N) (q := 0) rfl (hv 0 (by omega) _ rfl _ rfl) rfl) (decide_eq_false (by omega))) ⟨s, ⟨_, rfl, rfl⟩, hS, fun _ _ => rfl⟩
    | k_ + 2, h_ => exact absurd h_ (by simp)
  rintro _ a X1 h1 h2 h3 h4 hS
  clear BB
  replace hS : Below V.heap.size V X1 := hS
  have BB := hS
  clear hS
  replace t0 := (h3 0 (by decide)).trans t0
  replace t1 := (h3 1 (by decide)).trans t1
  have t12 : a.eval (.tmp 12) = .bool false := h4 1 _ rfl _ rfl
  replace A := (⟨h1, h2.trans A.2⟩ : a.tmps.size = 66 ∧ a.defers = [])
  clear h1 h2 h3 h4
  refine wp_cond_false t12 ?_
  refine wp_skip ?_
  clear t12
  refine wp_seq ?_
  refine wp_seq ?_
  by_cases h1 : m = N - 1
  · by_cases hf : fitQ d N m = true
    · by_cases hN1 : N = m + 1
      · have hwf : ∀ X, Below V.heap.size V X → Calls Try.prog 39 #[.int .i64 ((N : Nat) : Int), .slice ia m ic] X fun e w' => e = .returned (.bool true) ∧ Below X.heap.size X w' := fun X hX => by have h_ := rfit N d m _ X (FI.on hX) (by omega) (by omega); rw [decide_eq_true h1, Bool.true_and, hf] at h_; exact h_
        refine wp_region_sq (σ := Unit) 66 [(0, 13), (1, 14), (2, 15), (3, 16), (4, 17), (5, 18), (6, 19), (7, 20), (8, 21), (9, 22), (10, 23), (11, 24), (12, 25), (13, 26), (14, 27), (15, 28), (16, 29), (17, 30), (18, 31), (19, 32), (20, 33)] (fun j_ s X => match j_ with | 0 => Below V.heap.size V X | 1 => Below V.heap.size V X | 2 => Below V.heap.size V X | 3 => Below V.heap.size V X | 4 => Below V.heap.size V X | 5 => Below V.heap.size V X | 6 => Below V.heap.size V X | 7 => Below V.heap.size V X | 8 => Below V.heap.size V X | 9 => Below V.heap.size V X | 10 => Below V.heap.size V X | 11 => Below V.heap.size V X | 12 => Below V.heap.size V X | 13 => Below V.heap.size V X | 14 => Below V.heap.size V X | 15 => Below V.heap.size V X | 16 => Below V.heap.size V X | 17 => Below V.heap.size V X | 18 => Below V.heap.size V X | 19 => Below V.heap.size V X | 20 => Below V.heap.size V X | _ => Below V.heap.size V X) (fun s => fun i_ => match i_ with | 0 => .int .i64 ((N : Nat) : Int) | 1 => .slice ia m ic | 2 => .int .i64 ((m : Nat) : Int) | 3 => .int .i64 ((m + 1 : Nat) : Int) | 4 => .bool false | 5 => .bool false | 6 => undef | 7 => undef | 8 => undef | 9 => undef | 10 => undef | 11 => undef | 12 => undef | 13 => undef | 14 => .bool false | 15 => .bool false | 16 => .int .i64 ((N : Nat) : Int) | 17 => .slice ia m ic | 18 => .bool true | 19 => .bool false | 20 => .bool false | _ => undef) () A.1 (by kernel_rfl) (by decide) (by decide) (BB) ?_ ?_
        · intro i_ hi_ s a X hf hv hn hS
          match i_, hi_ with
          | 0, _ => exact stepV rfl rfl (execMvB rfl ((hf 0 (by decide)).trans t0)) ⟨s, ⟨_, rfl, rfl⟩, hS, fun _ _ => rfl⟩
          | 1, _ => exact stepV rfl rfl (execMvB rfl ((hf 1 (by decide)).trans t1)) ⟨s, ⟨_, rfl, rfl⟩, hS, fun _ _ => rfl⟩
          | 2, _ => exact stepV rfl rfl (execLenI (len := m) rfl (hv 1 (by omega) _ rfl _ rfl) ((FI.on hS)).shp) ⟨s, ⟨_, rfl, rfl⟩, hS, fun _ _ => rfl⟩
          | 3, _ => exact stepV rfl rfl (execAd8 (p := m) (q := 1) rfl (hv 2 (by omega) _ rfl _ rfl) rfl (by omega)) ⟨s, ⟨_, rfl, rfl⟩, hS, fun _ _ => rfl⟩
          | 4, _ => exact stepV rfl rfl (execDec (execNeN (p := N) (q := m + 1) rfl (hv 0 (by omega) _ rfl _ rfl) (hv 3 (by omega) _ rfl _ rfl)) (decide_eq_false (by omega))) ⟨s, ⟨_, rfl, rfl⟩, hS, fun _ _ => rfl⟩
          | 5, _ => exact stepV rfl rfl (execMvB rfl (hv 4 (by omega) _ rfl _ rfl)) ⟨s, ⟨_, rfl, rfl⟩, hS, fun _ _ => rfl⟩
          | 6, _ => exact stepU rfl (unwantedOf rfl (yieldedAt rfl rfl (show a.eval (.tmp 18) = .bool (!true) from (hv 5 (by omega) _ rfl _ rfl)))) ⟨s, ⟨_, rfl, rfl⟩, hS, fun _ _ => rfl⟩
          | 7, _ => exact stepU rfl (unwantedOf rfl (yieldedAt rfl rfl (show a.eval (.tmp 18) = .bool (!true) from (hv 5 (by omega) _ rfl _ rfl)))) ⟨s, ⟨_, rfl, rfl⟩, hS, fun _ _ => rfl⟩
          | 8, _ => exact stepU rfl (unwantedOf rfl (yieldedAt rfl rfl (show a.eval (.tmp 18) = .bool (!true) from (hv 5 (by omega) _ rfl _ rfl)))) ⟨s, ⟨_, rfl, rfl⟩, hS, fun _ _ => rfl⟩
          | 9, _ => exact stepU rfl (unwantedNo rfl (yieldedNo rfl rfl (show a.eval (.tmp 21) = undef from (hv 8 (by omega) _ rfl _ rfl)))) ⟨s, ⟨_, rfl, rfl⟩, hS, fun _ _ => rfl⟩
          | 10, _ => exact stepU rfl (unwantedNo rfl (yieldedNo rfl rfl (show a.eval (.tmp 21) = undef from (hv 8 (by omega) _ rfl _ rfl)))) ⟨s, ⟨_, rfl, rfl⟩, hS, fun _ _ => rfl⟩
          | 11, _ => exact stepU rfl (unwantedNo rfl (yieldedNo rfl rfl (show a.eval (.tmp 21) = undef from (hv 8 (by omega) _ rfl _ rfl)))) ⟨s, ⟨_, rfl, rfl⟩, hS, fun _ _ => rfl⟩
          | 12, _ => exact stepU rfl (unwantedOf rfl (yieldedAt rfl rfl (show a.eval (.tmp 18) = .bool (!true) from (hv 5 (by omega) _ rfl _ rfl)))) ⟨s, ⟨_, rfl, rfl⟩, hS, fun _ _ => rfl⟩
          | 13, _ => exact stepU rfl (unwantedOf rfl (yieldedAt rfl rfl (show a.eval (.tmp 18) = .bool (!true) from (hv 5 (by omega) _ rfl _ rfl)))) ⟨s, ⟨_, rfl, rfl⟩, hS, fun _ _ => rfl⟩
          | 14, _ => exact stepV rfl rfl (execPickF rfl (hv 5 (by omega) _ rfl _ rfl) rfl) ⟨s, ⟨_, rfl, rfl⟩, hS, fun _ _ => rfl⟩
          | 15, _ => exact stepV rfl rfl (execMvB rfl (hv 14 (by omega) _ rfl _ rfl)) ⟨s, ⟨_, rfl, rfl⟩, hS, fun _ _ => rfl⟩
          | 16, _ => exact stepV rfl (wantedOf rfl (yieldedAt rfl rfl (show a.eval (.tmp 28) = .bool false from (hv 15 (by omega) _ rfl _ rfl)))) (execMvB rfl ((hf 0 (by decide)).trans t0)) ⟨s, ⟨_, rfl, rfl⟩, hS, fun _ _ => rfl⟩
          | 17, _ => exact stepV rfl (wantedOf rfl (yieldedAt rfl rfl (show a.eval (.tmp 28) = .bool false from (hv 15 (by omega) _ rfl _ rfl)))) (execMvB rfl ((hf 1 (by decide)).trans t1)) ⟨s, ⟨_, rfl, rfl⟩, hS, fun _ _ => rfl⟩
          | 18, _ => exact stepC rfl (wantedOf rfl (yieldedAt rfl rfl (show a.eval (.tmp 28) = .bool false from (hv 15 (by omega) _ rfl _ rfl)))) (execCall2 Try.func39 (by kernel_rfl) (by kernel_rfl) rfl (hv 16 (by omega) _ rfl _ rfl) (hv 17 (by omega) _ rfl _ rfl)) (hwf X hS) fun e w' hh => ⟨_, hh.1, s, ⟨_, rfl, rfl⟩, (hS).trans ((hh.2).mono (hS).size), fun _ _ => rfl⟩
          | 19, _ => exact stepV rfl (wantedOf rfl (yieldedAt rfl rfl (show a.eval (.tmp 28) = .bool false from (hv 15 (by omega) _ rfl _ rfl)))) (execNot8 rfl (hv 18 (by omega) _ rfl _ rfl)) ⟨s, ⟨_, rfl, rfl⟩, hS, fun _ _ => rfl⟩
          | 20, _ => exact stepV rfl rfl (execPickF rfl (hv 15 (by omega) _ rfl _ rfl) (hv 19 (by omega) _ rfl _ rfl)) ⟨s, ⟨_, rfl, rfl⟩, hS, fun _ _ => rfl⟩
          | k_ + 21, h_ => exact absurd h_ (by simp)
        rintro _ a X3 h1 h2 h3 h4 hS
        clear BB
        replace hS : Below V.heap.size V X3 := hS
        have BB := hS
        clear hS
        replace t0 := (h3 0 (by decide)).trans t0
        replace t1 := (h3 1 (by decide)).trans t1
        have t33 : a.eval (.tmp 33) = .bool false := h4 20 _ rfl _ rfl
        replace A := (⟨h1, h2.trans A.2⟩ : a.tmps.size = 66 ∧ a.defers = [])
        clear h1 h2 h3 h4
        refine wp_cond_false t33 ?_
        refine wp_skip ?_
        clear t33
        have hE : frE (N : Int) d m = 0 := frE_ok h1 hf
        have hd := fitQ_iff.1 hf
        refine wp_seq ?_
        refine wp_region_sq (σ := Value) 66 [(0, 34), (1, 35), (2, 6)] (fun j_ s X => match j_ with | 0 => Below V.heap.size V X | 1 => Below V.heap.size V X | 2 => Below V.heap.size V X ∧ (X.ownsRow V.heap.size 3 1 s (N) (intsL (N) (fun j => (frA N (gN d) 0 j : Int)))) | _ => Below V.heap.size V X ∧ (X.ownsRow V.heap.size 3 1 s (N) (intsL (N) (fun j => (frA N (gN d) 0 j : Int))))) (fun s => fun i_ => match i_ with | 0 => .int .i64 ((N : Nat) : Int) | 1 => s | 2 => s | _ => undef) undef A.1 (by kernel_rfl) (by decide) (by decide) (BB) ?_ ?_
        · intro i_ hi_ s a X hf hv hn hS
          match i_, hi_ with
          | 0, _ => exact stepV rfl rfl (execMvB rfl ((hf 0 (by decide)).trans t0)) ⟨s, ⟨_, rfl, rfl⟩, hS, fun _ _ => rfl⟩
          | 1, _ =>
            refine stepC rfl rfl (execCall1 Try.func23 (by kernel_rfl) (by kernel_rfl) rfl (hv 0 (by omega) _ rfl _ rfl)) (rident (N : Int) X (by omega)) fun e w' hh => ?_
            obtain ⟨r_, he, hk, hb⟩ := hh
            rw [Int.toNat_natCast] at hk
            refine ⟨_, he, r_, ⟨_, rfl, rfl⟩, ⟨(hS).trans ((hb).mono (hS).size), ownD_base hk (hS).size⟩, fun i hi => ?_⟩
            match i, hi with
            | 0, _ => rfl
            | n_ + 1, h_ => omega
          | 2, _ => exact stepV rfl rfl (execAsgB rfl (hv 1 (by omega) _ rfl _ rfl)) ⟨s, ⟨_, rfl, rfl⟩, hS, fun _ _ => rfl⟩
          | k_ + 3, h_ => exact absurd h_ (by simp)
        rintro v35 a X5 h1 h2 h3 h4 hS
        clear BB
        replace hS : Below V.heap.size V X5 ∧ (X5.ownsRow V.heap.size 3 1 v35 (N) (intsL (N) (fun j => (frA N (gN d) 0 j : Int)))) := hS
        obtain ⟨BB, FO⟩ := hS
        replace t0 := (h3 0 (by decide)).trans t0
        replace t1 := (h3 1 (by decide)).trans t1
        have t6 : a.eval (.tmp 6) = v35 := h4 2 _ rfl _ rfl
        replace A := (⟨h1, h2.trans A.2⟩ : a.tmps.size = 66 ∧ a.defers = [])
        clear h1 h2 h3 h4
        refine wp_seq ?_
        refine wp_seq ?_
        refine wp_region_sq (σ := Unit) 66 [(0, 7)] (fun j_ s X => match j_ with | 0 => Below V.heap.size V X ∧ (X.ownsRow V.heap.size 3 1 v35 (N) (intsL (N) (fun j => (frA N (gN d) 0 j : Int)))) | _ => Below V.heap.size V X ∧ (X.ownsRow V.heap.size 3 1 v35 (N) (intsL (N) (fun j => (frA N (gN d) 0 j : Int))))) (fun s => fun i_ => match i_ with | 0 => .int .i64 ((0 : Nat) : Int) | _ => undef) () A.1 (by kernel_rfl) (by decide) (by decide) ⟨BB, FO⟩ ?_ ?_
        · intro i_ hi_ s a X hf hv hn hS
          match i_, hi_ with
          | 0, _ => exact stepV rfl rfl (execAsgB rfl rfl) ⟨s, ⟨_, rfl, rfl⟩, hS, fun _ _ => rfl⟩
          | k_ + 1, h_ => exact absurd h_ (by simp)
        rintro _ a X6 h1 h2 h3 h4 hS
        clear BB
        clear FO
        replace hS : Below V.heap.size V X6 ∧ (X6.ownsRow V.heap.size 3 1 v35 (N) (intsL (N) (fun j => (frA N (gN d) 0 j : Int)))) := hS
        obtain ⟨BB, FO⟩ := hS
        replace t0 := (h3 0 (by decide)).trans t0
        replace t1 := (h3 1 (by decide)).trans t1
        replace t6 := (h3 6 (by decide)).trans t6
        have t7 : a.eval (.tmp 7) = .int .i64 ((0 : Nat) : Int) := h4 0 _ rfl _ rfl
        replace A := (⟨h1, h2.trans A.2⟩ : a.tmps.size = 66 ∧ a.defers = [])
        clear h1 h2 h3 h4
        refine wp_block ?_
        refine wp_loop (fun a W => ∃ (i : Nat), i ≤ m ∧ (a.tmps.size = 66 ∧ a.defers = []) ∧ a.eval (.tmp 0) = .int .i64 ((N : Nat) : Int) ∧ a.eval (.tmp 1) = .slice ia m ic ∧ a.eval (.tmp 6) = v35 ∧ a.eval (.tmp 7) = .int .i64 ((i : Nat) : Int) ∧ Below V.heap.size V W ∧ (W.ownsRow V.heap.size 3 1 v35 (N) (intsL (N) (fun j => (frA N (gN d) i j : Int))))) (fun a _ => m - (intOf (a.eval (.tmp 7))).toNat) ⟨0, Nat.zero_le _, A, t0, t1, t6, t7, BB, FO⟩ ?_
        clear A t0 t1 t6 t7 BB FO a
        rintro a XL7 ⟨i, hi, A, t0, t1, t6, t7, BB, FO⟩
        have es := t7
        refine wp_seq ?_
        refine wp_seq ?_
        refine wp_region_sq (σ := Unit) 66 [(0, 36), (1, 37), (2, 38), (3, 39)] (fun j_ s X => match j_ with | 0 => Below V.heap.size V X ∧ (X.ownsRow V.heap.size 3 1 v35 (N) (intsL (N) (fun j => (frA N (gN d) i j : Int)))) | 1 => Below V.heap.size V X ∧ (X.ownsRow V.heap.size 3 1 v35 (N) (intsL (N) (fun j => (frA N (gN d) i j : Int)))) | 2 => Below V.heap.size V X ∧ (X.ownsRow V.heap.size 3 1 v35 (N) (intsL (N) (fun j => (frA N (gN d) i j : Int)))) | 3 => Below V.heap.size V X ∧ (X.ownsRow V.heap.size 3 1 v35 (N) (intsL (N) (fun j => (frA N (gN d) i j : Int)))) | _ => Below V.heap.size V X ∧ (X.ownsRow V.heap.size 3 1 v35 (N) (intsL (N) (fun j => (frA N (gN d) i j : Int))))) (fun s => fun i_ => match i_ with | 0 => .int .i64 ((i : Nat) : Int) | 1 => .slice ia m ic | 2 => .int .i64 ((m : Nat) : Int) | 3 => .bool (decide (i < m)) | _ => undef) () A.1 (by kernel_rfl) (by decide) (by decide) ⟨BB, FO⟩ ?_ ?_
        · intro i_ hi_ s a X hf hv hn hS
          match i_, hi_ with
          | 0, _ => exact stepV rfl rfl (execMvB rfl ((hf 7 (by decide)).trans t7)) ⟨s, ⟨_, rfl, rfl⟩, hS, fun _ _ => rfl⟩
          | 1, _ => exact stepV rfl rfl (execMvB rfl ((hf 1 (by decide)).trans t1)) ⟨s, ⟨_, rfl, rfl⟩, hS, fun _ _ => rfl⟩
          | 2, _ => exact stepV rfl rfl (execLenI (len := m) rfl (hv 1 (by omega) _ rfl _ rfl) ((FI.on hS.1)).shp) ⟨s, ⟨_, rfl, rfl⟩, hS, fun _ _ => rfl⟩
          | 3, _ => exact stepV rfl rfl (execLtW (p := i) (q := m) rfl (hv 0 (by omega) _ rfl _ rfl) (hv 2 (by omega) _ rfl _ rfl)) ⟨s, ⟨_, rfl, rfl⟩, hS, fun _ _ => rfl⟩
          | k_ + 4, h_ => exact absurd h_ (by simp)
        rintro _ a X7 h1 h2 h3 h4 hS
        clear BB
        clear FO
        replace hS : Below V.heap.size V X7 ∧ (X7.ownsRow V.heap.size 3 1 v35 (N) (intsL (N) (fun j => (frA N (gN d) i j : Int)))) := hS
        obtain ⟨BB, FO⟩ := hS
        replace t0 := (h3 0 (by decide)).trans t0
        replace t1 := (h3 1 (by decide)).trans t1
        replace t6 := (h3 6 (by decide)).trans t6
        replace t7 := (h3 7 (by decide)).trans t7
        have t39 : a.eval (.tmp 39) = .bool (decide (i < m)) := h4 3 _ rfl _ rfl
        replace A := (⟨h1, h2.trans A.2⟩ : a.tmps.size = 66 ∧ a.defers = [])
        clear h1 h2 h3 h4
        by_cases hlt : i < m
        · rw [decide_eq_true hlt] at t39
          refine wp_cond_true t39 ?_
          refine wp_skip ?_
          clear t39
          refine wp_seq ?_
          refine wp_block ?_
          have hdi := hd i hlt
          obtain ⟨w, ew⟩ : ∃ w : Nat, d i = w := ⟨(d i).toNat, by omega⟩
          have hw : w < N := by omega
          have hg : gN d i = w := by show (d i).toNat = w; omega
          obtain ⟨ib, io, rfl, hib, hcell⟩ := hsh (by omega)
          have cI : ∀ k, k < m → ∀ X, Below V.heap.size V X → X.cell? ⟨ib, io + k, none⟩ = some (.int .i64 (d k)) := fun k hk X hX => by rw [cell_below hX hib]; exact hcell k hk
          have cW : ∀ X, Below V.heap.size V X → X.cell? ⟨ib, io + i, none⟩ = some (.int .i64 ((w : Nat) : Int)) := fun X hX => by rw [cI i hlt X hX, ew]
          obtain ⟨ga, ca, rfl, hga, _⟩ := ownL_some9 FO (by omega)
          obtain ⟨I, eI⟩ : ∃ I, N - 1 - i = I := ⟨_, rfl⟩
          have hI : I < N := by omega
          refine wp_seq ?_
          refine wp_region_detA 66 [(0, 42), (1, 43), (2, 44), (3, 45), (4, 46), (5, 47), (6, 48), (7, 49), (8, 8), (9, 9)] (fun i_ => match i_ with | 0 => .int .i64 ((N : Nat) : Int) | 1 => .int .i64 ((N - 1 : Nat) : Int) | 2 => .int .i64 ((i : Nat) : Int) | 3 => .int .i64 ((N - 1 - i : Nat) : Int) | 4 => .slice (some ⟨ib, io, none⟩) m ic | 5 => .int .i64 ((i : Nat) : Int) | 6 => .pointer (some ⟨ib, io + i, none⟩) | 7 => .int .i64 ((w : Nat) : Int) | 8 => .int .i64 ((N - 1 - i : Nat) : Int) | 9 => .int .i64 ((w : Nat) : Int) | _ => undef) (fun _ X => Below V.heap.size V X ∧ (X.ownsRow V.heap.size 3 1 (.slice (some ⟨ga, 0, none⟩) N ca) (N) (intsL (N) (fun j => (frA N (gN d) i j : Int))))) (by kernel_rfl) (by kernel_rfl) A.1 (by kernel_rfl) (by decide) (by decide) ⟨BB.drew, (ownD_below FO (Below.refl _ _).drew)⟩ ?_ ?_
          · intro i_ hi_ l_ a X hl_ hf hdep hl2 hcl hno hT
            match i_, hi_ with
            | 0, _ => exact stepV rfl rfl (execMvB rfl ((hf 0 (by decide)).trans t0)) ⟨⟨_, rfl, rfl⟩, hT⟩
            | 1, _ => exact stepV rfl rfl (By8.execSubI (p := N) (q := 1) rfl (hdep _ rfl 0 rfl _ rfl _ rfl) rfl (by omega) (by omega)) ⟨⟨_, rfl, rfl⟩, hT⟩
            | 2, _ => exact stepV rfl rfl (execMvB rfl ((hf 7 (by decide)).trans t7)) ⟨⟨_, rfl, rfl⟩, hT⟩
            | 3, _ => exact stepV rfl rfl (By8.execSubI (p := N - 1) (q := i) rfl (hdep _ rfl 1 rfl _ rfl _ rfl) (hdep _ rfl 2 rfl _ rfl _ rfl) (by omega) (by omega)) ⟨⟨_, rfl, rfl⟩, hT⟩
            | 4, _ => exact stepV rfl rfl (execMvB rfl ((hf 1 (by decide)).trans t1)) ⟨⟨_, rfl, rfl⟩, hT⟩
            | 5, _ => exact stepV rfl rfl (execMvB rfl ((hf 7 (by decide)).trans t7)) ⟨⟨_, rfl, rfl⟩, hT⟩
            | 6, _ => exact stepV rfl rfl (execIdxN (k := i) rfl (hdep _ rfl 4 rfl _ rfl _ rfl) (hdep _ rfl 5 rfl _ rfl _ rfl) hlt) ⟨⟨_, rfl, rfl⟩, hT⟩
            | 7, _ => exact stepV rfl rfl (execLd3 rfl (hdep _ rfl 6 rfl _ rfl _ rfl) (cW X hT.1)) ⟨⟨_, rfl, rfl⟩, hT⟩
            | 8, _ => exact stepV rfl rfl (execAsgB rfl (hdep _ rfl 3 rfl _ rfl _ rfl)) ⟨⟨_, rfl, rfl⟩, hT⟩
            | 9, _ => exact stepV rfl rfl (execAsgB rfl (hdep _ rfl 7 rfl _ rfl _ rfl)) ⟨⟨_, rfl, rfl⟩, hT⟩
            | k_ + 10, h_ => exact absurd h_ (by simp)
          intro l_ a X9 h1 h2 h3 h4 hall hT
          clear hall
          clear BB
          clear FO
          obtain ⟨BB, FO⟩ := hT
          replace t0 := (h3 0 (by decide)).trans t0
          replace t1 := (h3 1 (by decide)).trans t1
          replace t6 := (h3 6 (by decide)).trans t6
          replace t7 := (h3 7 (by decide)).trans t7
          have t8 : a.eval (.tmp 8) = .int .i64 ((N - 1 - i : Nat) : Int) := h4 (8, 8) (by decide)
          have t9 : a.eval (.tmp 9) = .int .i64 ((w : Nat) : Int) := h4 (9, 9) (by decide)
          replace A := (⟨h1, h2.trans A.2⟩ : a.tmps.size = 66 ∧ a.defers = [])
          clear h1 h2 h3 h4
          rw [eI] at t8
          refine wp_seq ?_
          refine wp_region_sq (σ := Unit) 66 [(0, 50), (1, 51), (2, 52), (3, 53), (4, 10)] (fun j_ s X => match j_ with | 0 => Below V.heap.size V X ∧ (X.ownsRow V.heap.size 3 1 (.slice (some ⟨ga, 0, none⟩) N ca) (N) (intsL (N) (fun j => (frA N (gN d) i j : Int)))) | 1 => Below V.heap.size V X ∧ (X.ownsRow V.heap.size 3 1 (.slice (some ⟨ga, 0, none⟩) N ca) (N) (intsL (N) (fun j => (frA N (gN d) i j : Int)))) | 2 => Below V.heap.size V X ∧ (X.ownsRow V.heap.size 3 1 (.slice (some ⟨ga, 0, none⟩) N ca) (N) (intsL (N) (fun j => (frA N (gN d) i j : Int)))) | 3 => Below V.heap.size V X ∧ (X.ownsRow V.heap.size 3 1 (.slice (some ⟨ga, 0, none⟩) N ca) (N) (intsL (N) (fun j => (frA N (gN d) i j : Int)))) | 4 => Below V.heap.size V X ∧ (X.ownsRow V.heap.size 3 1 (.slice (some ⟨ga, 0, none⟩) N ca) (N) (intsL (N) (fun j => (frA N (gN d) i j : Int)))) | _ => Below V.heap.size V X ∧ (X.ownsRow V.heap.size 3 1 (.slice (some ⟨ga, 0, none⟩) N ca) (N) (intsL (N) (fun j => (frA N (gN d) i j : Int))))) (fun s => fun i_ => match i_ with | 0 => .slice (some ⟨ga, 0, none⟩) N ca | 1 => .int .i64 ((I : Nat) : Int) | 2 => .pointer (some ⟨ga, 0 + I, none⟩) | 3 => .int .i64 ((frA N (gN d) i I : Nat) : Int) | 4 => .int .i64 ((frA N (gN d) i I : Nat) : Int) | _ => undef) () A.1 (by kernel_rfl) (by decide) (by decide) ⟨BB, FO⟩ ?_ ?_
          · intro i_ hi_ s a X hf hv hn hS
            match i_, hi_ with
            | 0, _ => exact stepV rfl rfl (execMvB rfl ((hf 6 (by decide)).trans t6)) ⟨s, ⟨_, rfl, rfl⟩, hS, fun _ _ => rfl⟩
            | 1, _ => exact stepV rfl rfl (execMvB rfl ((hf 8 (by decide)).trans t8)) ⟨s, ⟨_, rfl, rfl⟩, hS, fun _ _ => rfl⟩
            | 2, _ => exact stepV rfl rfl (execIdxN (k := I) rfl (hv 0 (by omega) _ rfl _ rfl) (hv 1 (by omega) _ rfl _ rfl) hI) ⟨s, ⟨_, rfl, rfl⟩, hS, fun _ _ => rfl⟩
            | 3, _ => exact stepV rfl rfl (execLd3 rfl (hv 2 (by omega) _ rfl _ rfl) (own_cellI hS.2 hI).1) ⟨s, ⟨_, rfl, rfl⟩, hS, fun _ _ => rfl⟩
            | 4, _ => exact stepV rfl rfl (execAsgB rfl (hv 3 (by omega) _ rfl _ rfl)) ⟨s, ⟨_, rfl, rfl⟩, hS, fun _ _ => rfl⟩
            | k_ + 5, h_ => exact absurd h_ (by simp)
          rintro _ a X10 h1 h2 h3 h4 hS
          clear BB
          clear FO
          replace hS : Below V.heap.size V X10 ∧ (X10.ownsRow V.heap.size 3 1 (.slice (some ⟨ga, 0, none⟩) N ca) (N) (intsL (N) (fun j => (frA N (gN d) i j : Int)))) := hS
          obtain ⟨BB, FO⟩ := hS
          replace t0 := (h3 0 (by decide)).trans t0
          replace t1 := (h3 1 (by decide)).trans t1
          replace t6 := (h3 6 (by decide)).trans t6
          replace t7 := (h3 7 (by decide)).trans t7
          replace t8 := (h3 8 (by decide)).trans t8
          replace t9 := (h3 9 (by decide)).trans t9
          have t10 : a.eval (.tmp 10) = .int .i64 ((frA N (gN d) i I : Nat) : Int) := h4 4 _ rfl _ rfl
          replace A := (⟨h1, h2.trans A.2⟩ : a.tmps.size = 66 ∧ a.defers = [])
          clear h1 h2 h3 h4
          refine wp_seq ?_
          refine wp_region_sq (σ := Unit) 66 [(0, 54), (1, 55), (2, 56), (3, 57), (4, 58), (5, 59), (6, 60)] (fun j_ s X => match j_ with | 0 => Below V.heap.size V X ∧ (X.ownsRow V.heap.size 3 1 (.slice (some ⟨ga, 0, none⟩) N ca) (N) (intsL (N) (fun j => (frA N (gN d) i j : Int)))) | 1 => Below V.heap.size V X ∧ (X.ownsRow V.heap.size 3 1 (.slice (some ⟨ga, 0, none⟩) N ca) (N) (intsL (N) (fun j => (frA N (gN d) i j : Int)))) | 2 => Below V.heap.size V X ∧ (X.ownsRow V.heap.size 3 1 (.slice (some ⟨ga, 0, none⟩) N ca) (N) (intsL (N) (fun j => (frA N (gN d) i j : Int)))) | 3 => Below V.heap.size V X ∧ (X.ownsRow V.heap.size 3 1 (.slice (some ⟨ga, 0, none⟩) N ca) (N) (intsL (N) (fun j => (frA N (gN d) i j : Int)))) | 4 => Below V.heap.size V X ∧ (X.ownsRow V.heap.size 3 1 (.slice (some ⟨ga, 0, none⟩) N ca) (N) (intsL (N) (fun j => (frA N (gN d) i j : Int)))) | 5 => Below V.heap.size V X ∧ (X.ownsRow V.heap.size 3 1 (.slice (some ⟨ga, 0, none⟩) N ca) (N) (intsL (N) (fun j => (frA N (gN d) i j : Int)))) | 6 => Below V.heap.size V X ∧ (X.ownsRow V.heap.size 3 1 (.slice (some ⟨ga, 0, none⟩) N ca) (N) (intsL (N) (fun j => (frA N (gN d) i j : Int)))) | 7 => Below V.heap.size V X ∧ (X.ownsRow V.heap.size 3 1 (.slice (some ⟨ga, 0, none⟩) N ca) (N) (intsL (N) (fun j => (frA N (gN d) i j : Int)))) | _ => Below V.heap.size V X ∧ (X.ownsRow V.heap.size 3 1 (.slice (some ⟨ga, 0, none⟩) N ca) (N) (intsL (N) (fun j => if j = I then ((frA N (gN d) i w : Nat) : Int) else (fun j => (frA N (gN d) i j : Int)) j)))) (fun s => fun i_ => match i_ with | 0 => .slice (some ⟨ga, 0, none⟩) N ca | 1 => .int .i64 ((I : Nat) : Int) | 2 => .slice (some ⟨ga, 0, none⟩) N ca | 3 => .int .i64 ((w : Nat) : Int) | 4 => .pointer (some ⟨ga, 0 + w, none⟩) | 5 => .int .i64 ((frA N (gN d) i w : Nat) : Int) | 6 => .pointer (some ⟨ga, 0 + I, none⟩) | 7 => undef | _ => undef) () A.1 (by kernel_rfl) (by decide) (by decide) ⟨BB, FO⟩ ?_ ?_
          · intro i_ hi_ s a X hf hv hn hS
            match i_, hi_ with
            | 0, _ => exact stepV rfl rfl (execMvB rfl ((hf 6 (by decide)).trans t6)) ⟨s, ⟨_, rfl, rfl⟩, hS, fun _ _ => rfl⟩
            | 1, _ => exact stepV rfl rfl (execMvB rfl ((hf 8 (by decide)).trans t8)) ⟨s, ⟨_, rfl, rfl⟩, hS, fun _ _ => rfl⟩
            | 2, _ => exact stepV rfl rfl (execMvB rfl ((hf 6 (by decide)).trans t6)) ⟨s, ⟨_, rfl, rfl⟩, hS, fun _ _ => rfl⟩
            | 3, _ => exact stepV rfl rfl (execMvB rfl ((hf 9 (by decide)).trans t9)) ⟨s, ⟨_, rfl, rfl⟩, hS, fun _ _ => rfl⟩
            | 4, _ => exact stepV rfl rfl (execIdxN (k := w) rfl (hv 2 (by omega) _ rfl _ rfl) (hv 3 (by omega) _ rfl _ rfl) hw) ⟨s, ⟨_, rfl, rfl⟩, hS, fun _ _ => rfl⟩
            | 5, _ => exact stepV rfl rfl (execLd3 rfl (hv 4 (by omega) _ rfl _ rfl) (own_cellI hS.2 hw).1) ⟨s, ⟨_, rfl, rfl⟩, hS, fun _ _ => rfl⟩
            | 6, _ => exact stepV rfl rfl (execIdxN (k := I) rfl (hv 0 (by omega) _ rfl _ rfl) (hv 1 (by omega) _ rfl _ rfl) hI) ⟨s, ⟨_, rfl, rfl⟩, hS, fun _ _ => rfl⟩
            | 7, _ =>
              obtain ⟨hc_, hf_⟩ := own_cellI hS.2 hI
              refine stepS rfl rfl (execStI9 rfl (hv 6 (by omega) _ rfl _ rfl) (hv 5 (by omega) _ rfl _ rfl) hc_ hf_) ⟨s, ⟨_, rfl, rfl⟩, ⟨(hS.1).setCell hga _, own_setF _ hS.2⟩, fun i hi => ?_⟩
              match i, hi with
              | 0, _ => rfl
              | 1, _ => rfl
              | 2, _ => rfl
              | 3, _ => rfl
              | 4, _ => rfl
              | 5, _ => rfl
              | 6, _ => rfl
              | n_ + 7, h_ => omega
            | k_ + 8, h_ => exact absurd h_ (by simp)
          rintro _ a X11 h1 h2 h3 h4 hS
          clear BB
          clear FO
          replace hS : Below V.heap.size V X11 ∧ (X11.ownsRow V.heap.size 3 1 (.slice (some ⟨ga, 0, none⟩) N ca) (N) (intsL (N) (fun j => if j = I then ((frA N (gN d) i w : Nat) : Int) else (fun j => (frA N (gN d) i j : Int)) j))) := hS
          obtain ⟨BB, FO1⟩ := hS
          replace t0 := (h3 0 (by decide)).trans t0
          replace t1 := (h3 1 (by decide)).trans t1
          replace t6 := (h3 6 (by decide)).trans t6
          replace t7 := (h3 7 (by decide)).trans t7
          replace t8 := (h3 8 (by decide)).trans t8
          replace t9 := (h3 9 (by decide)).trans t9
          replace t10 := (h3 10 (by decide)).trans t10
          replace A := (⟨h1, h2.trans A.2⟩ : a.tmps.size = 66 ∧ a.defers = [])
          clear h1 h2 h3 h4
          refine wp_region_sq (σ := Unit) 66 [(0, 61), (1, 62), (2, 63), (3, 64)] (fun j_ s X => match j_ with | 0 => Below V.heap.size V X ∧ (X.ownsRow V.heap.size 3 1 (.slice (some ⟨ga, 0, none⟩) N ca) (N) (intsL (N) (fun j => if j = I then ((frA N (gN d) i w : Nat) : Int) else (fun j => (frA N (gN d) i j : Int)) j))) | 1 => Below V.heap.size V X ∧ (X.ownsRow V.heap.size 3 1 (.slice (some ⟨ga, 0, none⟩) N ca) (N) (intsL (N) (fun j => if j = I then ((frA N (gN d) i w : Nat) : Int) else (fun j => (frA N (gN d) i j : Int)) j))) | 2 => Below V.heap.size V X ∧ (X.ownsRow V.heap.size 3 1 (.slice (some ⟨ga, 0, none⟩) N ca) (N) (intsL (N) (fun j => if j = I then ((frA N (gN d) i w : Nat) : Int) else (fun j => (frA N (gN d) i j : Int)) j))) | 3 => Below V.heap.size V X ∧ (X.ownsRow V.heap.size 3 1 (.slice (some ⟨ga, 0, none⟩) N ca) (N) (intsL (N) (fun j => if j = I then ((frA N (gN d) i w : Nat) : Int) else (fun j => (frA N (gN d) i j : Int)) j))) | 4 => Below V.heap.size V X ∧ (X.ownsRow V.heap.size 3 1 (.slice (some ⟨ga, 0, none⟩) N ca) (N) (intsL (N) (fun j => if j = I then ((frA N (gN d) i w : Nat) : Int) else (fun j => (frA N (gN d) i j : Int)) j))) | _ => Below V.heap.size V X ∧ (X.ownsRow V.heap.size 3 1 (.slice (some ⟨ga, 0, none⟩) N ca) (N) (intsL (N) (fun j => (frA N (gN d) (i + 1) j : Int))))) (fun s => fun i_ => match i_ with | 0 => .slice (some ⟨ga, 0, none⟩) N ca | 1 => .int .i64 ((w : Nat) : Int) | 2 => .int .i64 ((frA N (gN d) i I : Nat) : Int) | 3 => .pointer (some ⟨ga, 0 + w, none⟩) | 4 => undef | _ => undef) () A.1 (by kernel_rfl) (by decide) (by decide) ⟨BB, FO1⟩ ?_ ?_
          · intro i_ hi_ s a X hf hv hn hS
            match i_, hi_ with
            | 0, _ => exact stepV rfl rfl (execMvB rfl ((hf 6 (by decide)).trans t6)) ⟨s, ⟨_, rfl, rfl⟩, hS, fun _ _ => rfl⟩
            | 1, _ => exact stepV rfl rfl (execMvB rfl ((hf 9 (by decide)).trans t9)) ⟨s, ⟨_, rfl, rfl⟩, hS, fun _ _ => rfl⟩
            | 2, _ => exact stepV rfl rfl (execMvB rfl ((hf 10 (by decide)).trans t10)) ⟨s, ⟨_, rfl, rfl⟩, hS, fun _ _ => rfl⟩
            | 3, _ => exact stepV rfl rfl (execIdxN (k := w) rfl (hv 0 (by omega) _ rfl _ rfl) (hv 1 (by omega) _ rfl _ rfl) hw) ⟨s, ⟨_, rfl, rfl⟩, hS, fun _ _ => rfl⟩
            | 4, _ =>
              obtain ⟨hc_, hf_⟩ := own_cellI hS.2 hw
              refine stepS rfl rfl (execStI9 rfl (hv 3 (by omega) _ rfl _ rfl) (hv 2 (by omega) _ rfl _ rfl) hc_ hf_) ⟨s, ⟨_, rfl, rfl⟩, ⟨(hS.1).setCell hga _, fr_set hS.2 eI hg⟩, fun i hi => ?_⟩
              match i, hi with
              | 0, _ => rfl
              | 1, _ => rfl
              | 2, _ => rfl
              | 3, _ => rfl
              | n_ + 4, h_ => omega
            | k_ + 5, h_ => exact absurd h_ (by simp)
          rintro _ a X12 h1 h2 h3 h4 hS
          clear BB
          clear FO1
          replace hS : Below V.heap.size V X12 ∧ (X12.ownsRow V.heap.size 3 1 (.slice (some ⟨ga, 0, none⟩) N ca) (N) (intsL (N) (fun j => (frA N (gN d) (i + 1) j : Int)))) := hS
          obtain ⟨BB, FO2⟩ := hS
          replace t0 := (h3 0 (by decide)).trans t0
          replace t1 := (h3 1 (by decide)).trans t1
          replace t6 := (h3 6 (by decide)).trans t6
          replace t7 := (h3 7 (by decide)).trans t7
          replace A := (⟨h1, h2.trans A.2⟩ : a.tmps.size = 66 ∧ a.defers = [])
          clear h1 h2 h3 h4
          clear t8 t9 t10
          refine wp_region_sq (σ := Unit) 66 [(0, 40), (1, 41), (2, 7)] (fun j_ s X => match j_ with | 0 => Below V.heap.size V X ∧ (X.ownsRow V.heap.size 3 1 (.slice (some ⟨ga, 0, none⟩) N ca) (N) (intsL (N) (fun j => (frA N (gN d) (i + 1) j : Int)))) | 1 => Below V.heap.size V X ∧ (X.ownsRow V.heap.size 3 1 (.slice (some ⟨ga, 0, none⟩) N ca) (N) (intsL (N) (fun j => (frA N (gN d) (i + 1) j : Int)))) | 2 => Below V.heap.size V X ∧ (X.ownsRow V.heap.size 3 1 (.slice (some ⟨ga, 0, none⟩) N ca) (N) (intsL (N) (fun j => (frA N (gN d) (i + 1) j : Int)))) | _ => Below V.heap.size V X ∧ (X.ownsRow V.heap.size 3 1 (.slice (some ⟨ga, 0, none⟩) N ca) (N) (intsL (N) (fun j => (frA N (gN d) (i + 1) j : Int))))) (fun s => fun i_ => match i_ with | 0 => .int .i64 ((i : Nat) : Int) | 1 => .int .i64 ((i + 1 : Nat) : Int) | 2 => .int .i64 ((i + 1 : Nat) : Int) | _ => undef) () A.1 (by kernel_rfl) (by decide) (by decide) ⟨BB, FO2⟩ ?_ ?_
          · intro i_ hi_ s a X hf hv hn hS
            match i_, hi_ with
            | 0, _ => exact stepV rfl rfl (execMvB rfl ((hn 2 (by omega) _ rfl _ rfl).trans t7)) ⟨s, ⟨_, rfl, rfl⟩, hS, fun _ _ => rfl⟩
            | 1, _ => exact stepV rfl rfl (execAd8 (p := i) (q := 1) rfl (hv 0 (by omega) _ rfl _ rfl) rfl (by omega)) ⟨s, ⟨_, rfl, rfl⟩, hS, fun _ _ => rfl⟩
            | 2, _ => exact stepV rfl rfl (execAsgB rfl (hv 1 (by omega) _ rfl _ rfl)) ⟨s, ⟨_, rfl, rfl⟩, hS, fun _ _ => rfl⟩
            | k_ + 3, h_ => exact absurd h_ (by simp)
          rintro _ a X8 h1 h2 h3 h4 hS
          clear BB
          clear FO2
          replace hS : Below V.heap.size V X8 ∧ (X8.ownsRow V.heap.size 3 1 (.slice (some ⟨ga, 0, none⟩) N ca) (N) (intsL (N) (fun j => (frA N (gN d) (i + 1) j : Int)))) := hS
          obtain ⟨BB, FO2⟩ := hS
          replace t0 := (h3 0 (by decide)).trans t0
          replace t1 := (h3 1 (by decide)).trans t1
          replace t6 := (h3 6 (by decide)).trans t6
          replace t7 : a.eval (.tmp 7) = .int .i64 ((i + 1 : Nat) : Int) := h4 2 _ rfl _ rfl
          replace A := (⟨h1, h2.trans A.2⟩ : a.tmps.size = 66 ∧ a.defers = [])
          clear h1 h2 h3 h4
          exact ⟨⟨i + 1, hlt, A, t0, t1, t6, t7, BB, FO2⟩, by show m - (intOf (a.eval (.tmp 7))).toNat < m - (intOf (Act.eval _ (.tmp 7))).toNat; rw [t7, es]; show m - (i + 1) < m - i; omega⟩
        · rw [decide_eq_false hlt] at t39
          refine wp_cond_false t39 ?_
          refine wp_exit ?_
          first | refine exit_in ?_ | refine exit_then (exit_in ?_) | refine exit_then (exit_then (exit_in ?_))
          clear t39 es
          have hin : i = m := by omega
          rw [hin] at FO
          refine wp_seq ?_
          refine wp_region_sq (σ := Unit) 66 [(0, 65), (1, 4), (2, 5)] (fun j_ s X => match j_ with | 0 => Below V.heap.size V X ∧ (X.ownsRow V.heap.size 3 1 v35 (N) (intsL (N) (fun j => (frA N (gN d) m j : Int)))) | 1 => Below V.heap.size V X ∧ (X.ownsRow V.heap.size 3 1 v35 (N) (intsL (N) (fun j => (frA N (gN d) m j : Int)))) | 2 => Below V.heap.size V X ∧ (X.ownsRow V.heap.size 3 1 v35 (N) (intsL (N) (fun j => (frA N (gN d) m j : Int)))) | _ => Below V.heap.size V X ∧ (X.ownsRow V.heap.size 3 1 v35 (N) (intsL (N) (fun j => (frA N (gN d) m j : Int))))) (fun s => fun i_ => match i_ with | 0 => v35 | 1 => v35 | 2 => .int .i64 ((0 : Nat) : Int) | _ => undef) () A.1 (by kernel_rfl) (by decide) (by decide) ⟨BB, FO⟩ ?_ ?_
          · intro i_ hi_ s a X hf hv hn hS
            match i_, hi_ with
            | 0, _ => exact stepV rfl rfl (execMvB rfl ((hf 6 (by decide)).trans t6)) ⟨s, ⟨_, rfl, rfl⟩, hS, fun _ _ => rfl⟩
            | 1, _ => exact stepV rfl rfl (execAsgB rfl (hv 0 (by omega) _ rfl _ rfl)) ⟨s, ⟨_, rfl, rfl⟩, hS, fun _ _ => rfl⟩
            | 2, _ => exact stepV rfl rfl (execAsgB rfl rfl) ⟨s, ⟨_, rfl, rfl⟩, hS, fun _ _ => rfl⟩
            | k_ + 3, h_ => exact absurd h_ (by simp)
          rintro _ a X13 h1 h2 h3 h4 hS
          clear BB
          clear FO
          replace hS : Below V.heap.size V X13 ∧ (X13.ownsRow V.heap.size 3 1 v35 (N) (intsL (N) (fun j => (frA N (gN d) m j : Int)))) := hS
          obtain ⟨BB, FO⟩ := hS
          have t4 : a.eval (.tmp 4) = v35 := h4 1 _ rfl _ rfl
          have t5 : a.eval (.tmp 5) = .int .i64 ((0 : Nat) : Int) := h4 2 _ rfl _ rfl
          replace A := (⟨h1, h2.trans A.2⟩ : a.tmps.size = 66 ∧ a.defers = [])
          clear h1 h2 h3 h4
          clear t0 t1 t6 t7
          rw [hE, zl_ok, Int.toNat_natCast]
          refine wp_ret ?_
          refine bodyPost_ret (results_tmp2 rfl _ _ _) A.2 ⟨_, ?_, FO, BB⟩
          show Ending.returned (.tuple #[a.eval (.tmp 4), a.eval (.tmp 5)]) = _
          rw [t4, t5]
      · have hwf : ∀ X, Below V.heap.size V X → Calls Try.prog 39 #[.int .i64 ((N : Nat) : Int), .slice ia m ic] X fun e w' => e = .returned (.bool true) ∧ Below X.heap.size X w' := fun X hX => by have h_ := rfit N d m _ X (FI.on hX) (by omega) (by omega); rw [decide_eq_true h1, Bool.true_and, hf] at h_; exact h_
        refine wp_region_sq (σ := Unit) 66 [(0, 13), (1, 14), (2, 15), (3, 16), (4, 17), (5, 18), (6, 19), (7, 20), (8, 21), (9, 22), (10, 23), (11, 24), (12, 25), (13, 26), (14, 27), (15, 28), (16, 29), (17, 30), (18, 31), (19, 32), (20, 33)] (fun j_ s X => match j_ with | 0 => Below V.heap.size V X | 1 => Below V.heap.size V X | 2 => Below V.heap.size V X | 3 => Below V.heap.size V X | 4 => Below V.heap.size V X | 5 => Below V.heap.size V X | 6 => Below V.heap.size V X | 7 => Below V.heap.size V X | 8 => Below V.heap.size V X | 9 => Below V.heap.size V X | 10 => Below V.heap.size V X | 11 => Below V.heap.size V X | 12 => Below V.heap.size V X | 13 => Below V.heap.size V X | 14 => Below V.heap.size V X | 15 => Below V.heap.size V X | 16 => Below V.heap.size V X | 17 => Below V.heap.size V X | 18 => Below V.heap.size V X | 19 => Below V.heap.size V X | 20 => Below V.heap.size V X | _ => Below V.heap.size V X) (fun s => fun i_ => match i_ with | 0 => .int .i64 ((N : Nat) : Int) | 1 => .slice ia m ic | 2 => .int .i64 ((m : Nat) : Int) | 3 => .int .i64 ((m + 1 : Nat) : Int) | 4 => .bool true | 5 => .bool true | 6 => .int .i64 ((N : Nat) : Int) | 7 => .bool true | 8 => .bool true | 9 => .slice ia m ic | 10 => .int .i64 ((m : Nat) : Int) | 11 => .bool true | 12 => .bool true | 13 => .bool false | 14 => .bool false | 15 => .bool false | 16 => .int .i64 ((N : Nat) : Int) | 17 => .slice ia m ic | 18 => .bool true | 19 => .bool false | 20 => .bool false | _ => undef) () A.1 (by kernel_rfl) (by decide) (by decide) (BB) ?_ ?_
        · intro i_ hi_ s a X hf hv hn hS
          match i_, hi_ with
          | 0, _ => exact stepV rfl rfl (execMvB rfl ((hf 0 (by decide)).trans t0)) ⟨s, ⟨_, rfl, rfl⟩, hS, fun _ _ => rfl⟩
          | 1, _ => exact stepV rfl rfl (execMvB rfl ((hf 1 (by decide)).trans t1)) ⟨s, ⟨_, rfl, rfl⟩, hS, fun _ _ => rfl⟩
          | 2, _ => exact stepV rfl rfl (execLenI (len := m) rfl (hv 1 (by omega) _ rfl _ rfl) ((FI.on hS)).shp) ⟨s, ⟨_, rfl, rfl⟩, hS, fun _ _ => rfl⟩
          | 3, _ => exact stepV rfl rfl (execAd8 (p := m) (q := 1) rfl (hv 2 (by omega) _ rfl _ rfl) rfl (by omega)) ⟨s, ⟨_, rfl, rfl⟩, hS, fun _ _ => rfl⟩
          | 4, _ => exact stepV rfl rfl (execDec (execNeN (p := N) (q := m + 1) rfl (hv 0 (by omega) _ rfl _ rfl) (hv 3 (by omega) _ rfl _ rfl)) (decide_eq_true (by omega))) ⟨s, ⟨_, rfl, rfl⟩, hS, fun _ _ => rfl⟩
          | 5, _ => exact stepV rfl rfl (execMvB rfl (hv 4 (by omega) _ rfl _ rfl)) ⟨s, ⟨_, rfl, rfl⟩, hS, fun _ _ => rfl⟩
          | 6, _ => exact stepV rfl (wantedOf rfl (yieldedAt rfl rfl (show a.eval (.tmp 18) = .bool true from (hv 5 (by omega) _ rfl _ rfl)))) (execMvB rfl ((hf 0 (by decide)).trans t0)) ⟨s, ⟨_, rfl, rfl⟩, hS, fun _ _ => rfl⟩
          | 7, _ => exact stepV rfl (wantedOf rfl (yieldedAt rfl rfl (show a.eval (.tmp 18) = .bool true from (hv 5 (by omega) _ rfl _ rfl)))) (execDec (execEqN (p := N) (q := 0) rfl (hv 6 (by omega) _ rfl _ rfl) rfl) (decide_eq_true (by omega))) ⟨s, ⟨_, rfl, rfl⟩, hS, fun _ _ => rfl⟩
          | 8, _ => exact stepV rfl (wantedOf rfl (yieldedAt rfl rfl (show a.eval (.tmp 18) = .bool true from (hv 5 (by omega) _ rfl _ rfl)))) (execMvB rfl (hv 7 (by omega) _ rfl _ rfl)) ⟨s, ⟨_, rfl, rfl⟩, hS, fun _ _ => rfl⟩
          | 9, _ => exact stepV rfl (wantedOf rfl (yieldedAt rfl rfl (show a.eval (.tmp 21) = .bool true from (hv 8 (by omega) _ rfl _ rfl)))) (execMvB rfl ((hf 1 (by decide)).trans t1)) ⟨s, ⟨_, rfl, rfl⟩, hS, fun _ _ => rfl⟩
          | 10, _ => exact stepV rfl (wantedOf rfl (yieldedAt rfl rfl (show a.eval (.tmp 21) = .bool true from (hv 8 (by omega) _ rfl _ rfl)))) (execLenI (len := m) rfl (hv 9 (by omega) _ rfl _ rfl) ((FI.on hS)).shp) ⟨s, ⟨_, rfl, rfl⟩, hS, fun _ _ => rfl⟩
          | 11, _ => exact stepV rfl (wantedOf rfl (yieldedAt rfl rfl (show a.eval (.tmp 21) = .bool true from (hv 8 (by omega) _ rfl _ rfl)))) (execDec (execEqN (p := m) (q := 0) rfl (hv 10 (by omega) _ rfl _ rfl) rfl) (decide_eq_true (by omega))) ⟨s, ⟨_, rfl, rfl⟩, hS, fun _ _ => rfl⟩
          | 12, _ => exact stepV rfl (wantedOf rfl (yieldedAt rfl rfl (show a.eval (.tmp 18) = .bool true from (hv 5 (by omega) _ rfl _ rfl)))) (execPickT rfl (hv 8 (by omega) _ rfl _ rfl) (hv 11 (by omega) _ rfl _ rfl)) ⟨s, ⟨_, rfl, rfl⟩, hS, fun _ _ => rfl⟩
          | 13, _ => exact stepV rfl (wantedOf rfl (yieldedAt rfl rfl (show a.eval (.tmp 18) = .bool true from (hv 5 (by omega) _ rfl _ rfl)))) (execNot8 rfl (hv 12 (by omega) _ rfl _ rfl)) ⟨s, ⟨_, rfl, rfl⟩, hS, fun _ _ => rfl⟩
          | 14, _ => exact stepV rfl rfl (execPickT rfl (hv 5 (by omega) _ rfl _ rfl) (hv 13 (by omega) _ rfl _ rfl)) ⟨s, ⟨_, rfl, rfl⟩, hS, fun _ _ => rfl⟩
          | 15, _ => exact stepV rfl rfl (execMvB rfl (hv 14 (by omega) _ rfl _ rfl)) ⟨s, ⟨_, rfl, rfl⟩, hS, fun _ _ => rfl⟩
          | 16, _ => exact stepV rfl (wantedOf rfl (yieldedAt rfl rfl (show a.eval (.tmp 28) = .bool false from (hv 15 (by omega) _ rfl _ rfl)))) (execMvB rfl ((hf 0 (by decide)).trans t0)) ⟨s, ⟨_, rfl, rfl⟩, hS, fun _ _ => rfl⟩
          | 17, _ => exact stepV rfl (wantedOf rfl (yieldedAt rfl rfl (show a.eval (.tmp 28) = .bool false from (hv 15 (by omega) _ rfl _ rfl)))) (execMvB rfl ((hf 1 (by decide)).trans t1)) ⟨s, ⟨_, rfl, rfl⟩, hS, fun _ _ => rfl⟩
          | 18, _ => exact stepC rfl (wantedOf rfl (yieldedAt rfl rfl (show a.eval (.tmp 28) = .bool false from (hv 15 (by omega) _ rfl _ rfl)))) (execCall2 Try.func39 (by kernel_rfl) (by kernel_rfl) rfl (hv 16 (by omega) _ rfl _ rfl) (hv 17 (by omega) _ rfl _ rfl)) (hwf X hS) fun e w' hh => ⟨_, hh.1, s, ⟨_, rfl, rfl⟩, (hS).trans ((hh.2).mono (hS).size), fun _ _ => rfl⟩
          | 19, _ => exact stepV rfl (wantedOf rfl (yieldedAt rfl rfl (show a.eval (.tmp 28) = .bool false from (hv 15 (by omega) _ rfl _ rfl)))) (execNot8 rfl (hv 18 (by omega) _ rfl _ rfl)) ⟨s, ⟨_, rfl, rfl⟩, hS, fun _ _ => rfl⟩
          | 20, _ => exact stepV rfl rfl (execPickF rfl (hv 15 (by omega) _ rfl _ rfl) (hv 19 (by omega) _ rfl _ rfl)) ⟨s, ⟨_, rfl, rfl⟩, hS, fun _ _ => rfl⟩
          | k_ + 21, h_ => exact absurd h_ (by simp)
        rintro _ a X3 h1 h2 h3 h4 hS
        clear BB
        replace hS : Below V.heap.size V X3 := hS
        have BB := hS
        clear hS
        replace t0 := (h3 0 (by decide)).trans t0
        replace t1 := (h3 1 (by decide)).trans t1
        have t33 : a.eval (.tmp 33) = .bool false := h4 20 _ rfl _ rfl
        replace A := (⟨h1, h2.trans A.2⟩ : a.tmps.size = 66 ∧ a.defers = [])
        clear h1 h2 h3 h4
        refine wp_cond_false t33 ?_
        refine wp_skip ?_
        clear t33
        have hE : frE (N : Int) d m = 0 := frE_ok h1 hf
        have hd := fitQ_iff.1 hf
        refine wp_seq ?_
        refine wp_region_sq (σ := Value) 66 [(0, 34), (1, 35), (2, 6)] (fun j_ s X => match j_ with | 0 => Below V.heap.size V X | 1 => Below V.heap.size V X | 2 => Below V.heap.size V X ∧ (X.ownsRow V.heap.size 3 1 s (N) (intsL (N) (fun j => (frA N (gN d) 0 j : Int)))) | _ => Below V.heap.size V X ∧ (X.ownsRow V.heap.size 3 1 s (N) (intsL (N) (fun j => (frA N (gN d) 0 j : Int))))) (fun s => fun i_ => match i_ with | 0 => .int .i64 ((N : Nat) : Int) | 1 => s | 2 => s | _ => undef) undef A.1 (by kernel_rfl) (by decide) (by decide) (BB) ?_ ?_
        · intro i_ hi_ s a X hf hv hn hS
          match i_, hi_ with
          | 0, _ => exact stepV rfl rfl (execMvB rfl ((hf 0 (by decide)).trans t0)) ⟨s, ⟨_, rfl, rfl⟩, hS, fun _ _ => rfl⟩
          | 1, _ =>
            refine stepC rfl rfl (execCall1 Try.func23 (by kernel_rfl) (by kernel_rfl) rfl (hv 0 (by omega) _ rfl _ rfl)) (rident (N : Int) X (by omega)) fun e w' hh => ?_
            obtain ⟨r_, he, hk, hb⟩ := hh
            rw [Int.toNat_natCast] at hk
            refine ⟨_, he, r_, ⟨_, rfl, rfl⟩, ⟨(hS).trans ((hb).mono (hS).size), ownD_base hk (hS).size⟩, fun i hi => ?_⟩
            match i, hi with
            | 0, _ => rfl
            | n_ + 1, h_ => omega
          | 2, _ => exact stepV rfl rfl (execAsgB rfl (hv 1 (by omega) _ rfl _ rfl)) ⟨s, ⟨_, rfl, rfl⟩, hS, fun _ _ => rfl⟩
          | k_ + 3, h_ => exact absurd h_ (by simp)
        rintro v35 a X5 h1 h2 h3 h4 hS
        clear BB
        replace hS : Below V.heap.size V X5 ∧ (X5.ownsRow V.heap.size 3 1 v35 (N) (intsL (N) (fun j => (frA N (gN d) 0 j : Int)))) := hS
        obtain ⟨BB, FO⟩ := hS
        replace t0 := (h3 0 (by decide)).trans t0
        replace t1 := (h3 1 (by decide)).trans t1
        have t6 : a.eval (.tmp 6) = v35 := h4 2 _ rfl _ rfl
        replace A := (⟨h1, h2.trans A.2⟩ : a.tmps.size = 66 ∧ a.defers = [])
        clear h1 h2 h3 h4
        refine wp_seq ?_
        refine wp_seq ?_
        refine wp_region_sq (σ := Unit) 66 [(0, 7)] (fun j_ s X => match j_ with | 0 => Below V.heap.size V X ∧ (X.ownsRow V.heap.size 3 1 v35 (N) (intsL (N) (fun j => (frA N (gN d) 0 j : Int)))) | _ => Below V.heap.size V X ∧ (X.ownsRow V.heap.size 3 1 v35 (N) (intsL (N) (fun j => (frA N (gN d) 0 j : Int))))) (fun s => fun i_ => match i_ with | 0 => .int .i64 ((0 : Nat) : Int) | _ => undef) () A.1 (by kernel_rfl) (by decide) (by decide) ⟨BB, FO⟩ ?_ ?_
        · intro i_ hi_ s a X hf hv hn hS
          match i_, hi_ with
          | 0, _ => exact stepV rfl rfl (execAsgB rfl rfl) ⟨s, ⟨_, rfl, rfl⟩, hS, fun _ _ => rfl⟩
          | k_ + 1, h_ => exact absurd h_ (by simp)
        rintro _ a X6 h1 h2 h3 h4 hS
        clear BB
        clear FO
        replace hS : Below V.heap.size V X6 ∧ (X6.ownsRow V.heap.size 3 1 v35 (N) (intsL (N) (fun j => (frA N (gN d) 0 j : Int)))) := hS
        obtain ⟨BB, FO⟩ := hS
        replace t0 := (h3 0 (by decide)).trans t0
        replace t1 := (h3 1 (by decide)).trans t1
        replace t6 := (h3 6 (by decide)).trans t6
        have t7 : a.eval (.tmp 7) = .int .i64 ((0 : Nat) : Int) := h4 0 _ rfl _ rfl
        replace A := (⟨h1, h2.trans A.2⟩ : a.tmps.size = 66 ∧ a.defers = [])
        clear h1 h2 h3 h4
        refine wp_block ?_
        refine wp_loop (fun a W => ∃ (i : Nat), i ≤ m ∧ (a.tmps.size = 66 ∧ a.defers = []) ∧ a.eval (.tmp 0) = .int .i64 ((N : Nat) : Int) ∧ a.eval (.tmp 1) = .slice ia m ic ∧ a.eval (.tmp 6) = v35 ∧ a.eval (.tmp 7) = .int .i64 ((i : Nat) : Int) ∧ Below V.heap.size V W ∧ (W.ownsRow V.heap.size 3 1 v35 (N) (intsL (N) (fun j => (frA N (gN d) i j : Int))))) (fun a _ => m - (intOf (a.eval (.tmp 7))).toNat) ⟨0, Nat.zero_le _, A, t0, t1, t6, t7, BB, FO⟩ ?_
        clear A t0 t1 t6 t7 BB FO a
        rintro a XL7 ⟨i, hi, A, t0, t1, t6, t7, BB, FO⟩
        have es := t7
        refine wp_seq ?_
        refine wp_seq ?_
        refine wp_region_sq (σ := Unit) 66 [(0, 36), (1, 37), (2, 38), (3, 39)] (fun j_ s X => match j_ with | 0 => Below V.heap.size V X ∧ (X.ownsRow V.heap.size 3 1 v35 (N) (intsL (N) (fun j => (frA N (gN d) i j : Int)))) | 1 => Below V.heap.size V X ∧ (X.ownsRow V.heap.size 3 1 v35 (N) (intsL (N) (fun j => (frA N (gN d) i j : Int)))) | 2 => Below V.heap.size V X ∧ (X.ownsRow V.heap.size 3 1 v35 (N) (intsL (N) (fun j => (frA N (gN d) i j : Int)))) | 3 => Below V.heap.size V X ∧ (X.ownsRow V.heap.size 3 1 v35 (N) (intsL (N) (fun j => (frA N (gN d) i j : Int)))) | _ => Below V.heap.size V X ∧ (X.ownsRow V.heap.size 3 1 v35 (N) (intsL (N) (fun j => (frA N (gN d) i j : Int))))) (fun s => fun i_ => match i_ with | 0 => .int .i64 ((i : Nat) : Int) | 1 => .slice ia m ic | 2 => .int .i64 ((m : Nat) : Int) | 3 => .bool (decide (i < m)) | _ => undef) () A.1 (by kernel_rfl) (by decide) (by decide) ⟨BB, FO⟩ ?_ ?_
        · intro i_ hi_ s a X hf hv hn hS
          match i_, hi_ with
          | 0, _ => exact stepV rfl rfl (execMvB rfl ((hf 7 (by decide)).trans t7)) ⟨s, ⟨_, rfl, rfl⟩, hS, fun _ _ => rfl⟩
          | 1, _ => exact stepV rfl rfl (execMvB rfl ((hf 1 (by decide)).trans t1)) ⟨s, ⟨_, rfl, rfl⟩, hS, fun _ _ => rfl⟩
          | 2, _ => exact stepV rfl rfl (execLenI (len := m) rfl (hv 1 (by omega) _ rfl _ rfl) ((FI.on hS.1)).shp) ⟨s, ⟨_, rfl, rfl⟩, hS, fun _ _ => rfl⟩
          | 3, _ => exact stepV rfl rfl (execLtW (p := i) (q := m) rfl (hv 0 (by omega) _ rfl _ rfl) (hv 2 (by omega) _ rfl _ rfl)) ⟨s, ⟨_, rfl, rfl⟩, hS, fun _ _ => rfl⟩
          | k_ + 4, h_ => exact absurd h_ (by simp)
        rintro _ a X7 h1 h2 h3 h4 hS
        clear BB
        clear FO
        replace hS : Below V.heap.size V X7 ∧ (X7.ownsRow V.heap.size 3 1 v35 (N) (intsL (N) (fun j => (frA N (gN d) i j : Int)))) := hS
        obtain ⟨BB, FO⟩ := hS
        replace t0 := (h3 0 (by decide)).trans t0
        replace t1 := (h3 1 (by decide)).trans t1
        replace t6 := (h3 6 (by decide)).trans t6
        replace t7 := (h3 7 (by decide)).trans t7
        have t39 : a.eval (.tmp 39) = .bool (decide (i < m)) := h4 3 _ rfl _ rfl
        replace A := (⟨h1, h2.trans A.2⟩ : a.tmps.size = 66 ∧ a.defers = [])
        clear h1 h2 h3 h4
        by_cases hlt : i < m
        · rw [decide_eq_true hlt] at t39
          refine wp_cond_true t39 ?_
          refine wp_skip ?_
          clear t39
          refine wp_seq ?_
          refine wp_block ?_
          have hdi := hd i hlt
          obtain ⟨w, ew⟩ : ∃ w : Nat, d i = w := ⟨(d i).toNat, by omega⟩
          have hw : w < N := by omega
          have hg : gN d i = w := by show (d i).toNat = w; omega
          obtain ⟨ib, io, rfl, hib, hcell⟩ := hsh (by omega)
          have cI : ∀ k, k < m → ∀ X, Below V.heap.size V X → X.cell? ⟨ib, io + k, none⟩ = some (.int .i64 (d k)) := fun k hk X hX => by rw [cell_below hX hib]; exact hcell k hk
          have cW : ∀ X, Below V.heap.size V X → X.cell? ⟨ib, io + i, none⟩ = some (.int .i64 ((w : Nat) : Int)) := fun X hX => by rw [cI i hlt X hX, ew]
          obtain ⟨ga, ca, rfl, hga, _⟩ := ownL_some9 FO (by omega)
          obtain ⟨I, eI⟩ : ∃ I, N - 1 - i = I := ⟨_, rfl⟩
          have hI : I < N := by omega
          refine wp_seq ?_
          refine wp_region_detA 66 [(0, 42), (1, 43), (2, 44), (3, 45), (4, 46), (5, 47), (6, 48), (7, 49), (8, 8), (9, 9)] (fun i_ => match i_ with | 0 => .int .i64 ((N : Nat) : Int) | 1 => .int .i64 ((N - 1 : Nat) : Int) | 2 => .int .i64 ((i : Nat) : Int) | 3 => .int .i64 ((N - 1 - i : Nat) : Int) | 4 => .slice (some ⟨ib, io, none⟩) m ic | 5 => .int .i64 ((i : Nat) : Int) | 6 => .pointer (some ⟨ib, io + i, none⟩) | 7 => .int .i64 ((w : Nat) : Int) | 8 => .int .i64 ((N - 1 - i : Nat) : Int) | 9 => .int .i64 ((w : Nat) : Int) | _ => undef) (fun _ X => Below V.heap.size V X ∧ (X.ownsRow V.heap.size 3 1 (.slice (some ⟨ga, 0, none⟩) N ca) (N) (intsL (N) (fun j => (frA N (gN d) i j : Int))))) (by kernel_rfl) (by kernel_rfl) A.1 (by kernel_rfl) (by decide) (by decide) ⟨BB.drew, (ownD_below FO (Below.refl _ _).drew)⟩ ?_ ?_
          · intro i_ hi_ l_ a X hl_ hf hdep hl2 hcl hno hT
            match i_, hi_ with
            | 0, _ => exact stepV rfl rfl (execMvB rfl ((hf 0 (by decide)).trans t0)) ⟨⟨_, rfl, rfl⟩, hT⟩
            | 1, _ => exact stepV rfl rfl (By8.execSubI (p := N) (q := 1) rfl (hdep _ rfl 0 rfl _ rfl _ rfl) rfl (by omega) (by omega)) ⟨⟨_, rfl, rfl⟩, hT⟩
            | 2, _ => exact stepV rfl rfl (execMvB rfl ((hf 7 (by decide)).trans t7)) ⟨⟨_, rfl, rfl⟩, hT⟩
            | 3, _ => exact stepV rfl rfl (By8.execSubI (p := N - 1) (q := i) rfl (hdep _ rfl 1 rfl _ rfl _ rfl) (hdep _ rfl 2 rfl _ rfl _ rfl) (by omega) (by omega)) ⟨⟨_, rfl, rfl⟩, hT⟩
            | 4, _ => exact stepV rfl rfl (execMvB rfl ((hf 1 (by decide)).trans t1)) ⟨⟨_, rfl, rfl⟩, hT⟩
            | 5, _ => exact stepV rfl rfl (execMvB rfl ((hf 7 (by decide)).trans t7)) ⟨⟨_, rfl, rfl⟩, hT⟩
            | 6, _ => exact stepV rfl rfl (execIdxN (k := i) rfl (hdep _ rfl 4 rfl _ rfl _ rfl) (hdep _ rfl 5 rfl _ rfl _ rfl) hlt) ⟨⟨_, rfl, rfl⟩, hT⟩
            | 7, _ => exact stepV rfl rfl (execLd3 rfl (hdep _ rfl 6 rfl _ rfl _ rfl) (cW X hT.1)) ⟨⟨_, rfl, rfl⟩, hT⟩
            | 8, _ => exact stepV rfl rfl (execAsgB rfl (hdep _ rfl 3 rfl _ rfl _ rfl)) ⟨⟨_, rfl, rfl⟩, hT⟩
            | 9, _ => exact stepV rfl rfl (execAsgB rfl (hdep _ rfl 7 rfl _ rfl _ rfl)) ⟨⟨_, rfl, rfl⟩, hT⟩
            | k_ + 10, h_ => exact absurd h_ (by simp)
          intro l_ a X9 h1 h2 h3 h4 hall hT
          clear hall
          clear BB
          clear FO
          obtain ⟨BB, FO⟩ := hT
          replace t0 := (h3 0 (by decide)).trans t0
          replace t1 := (h3 1 (by decide)).trans t1
          replace t6 := (h3 6 (by decide)).trans t6
          replace t7 := (h3 7 (by decide)).trans t7
          have t8 : a.eval (.tmp 8) = .int .i64 ((N - 1 - i : Nat) : Int) := h4 (8, 8) (by decide)
          have t9 : a.eval (.tmp 9) = .int .i64 ((w : Nat) : Int) := h4 (9, 9) (by decide)
          replace A := (⟨h1, h2.trans A.2⟩ : a.tmps.size = 66 ∧ a.defers = [])
          clear h1 h2 h3 h4
          rw [eI] at t8
          refine wp_seq ?_
          refine wp_region_sq (σ := Unit) 66 [(0, 50), (1, 51), (2, 52), (3, 53), (4, 10)] (fun j_ s X => match j_ with | 0 => Below V.heap.size V X ∧ (X.ownsRow V.heap.size 3 1 (.slice (some ⟨ga, 0, none⟩) N ca) (N) (intsL (N) (fun j => (frA N (gN d) i j : Int)))) | 1 => Below V.heap.size V X ∧ (X.ownsRow V.heap.size 3 1 (.slice (some ⟨ga, 0, none⟩) N ca) (N) (intsL (N) (fun j => (frA N (gN d) i j : Int)))) | 2 => Below V.heap.size V X ∧ (X.ownsRow V.heap.size 3 1 (.slice (some ⟨ga, 0, none⟩) N ca) (N) (intsL (N) (fun j => (frA N (gN d) i j : Int)))) | 3 => Below V.heap.size V X ∧ (X.ownsRow V.heap.size 3 1 (.slice (some ⟨ga, 0, none⟩) N ca) (N) (intsL (N) (fun j => (frA N (gN d) i j : Int)))) | 4 => Below V.heap.size V X ∧ (X.ownsRow V.heap.size 3 1 (.slice (some ⟨ga, 0, none⟩) N ca) (N) (intsL (N) (fun j => (frA N (gN d) i j : Int)))) | _ => Below V.heap.size V X ∧ (X.ownsRow V.heap.size 3 1 (.slice (some ⟨ga, 0, none⟩) N ca) (N) (intsL (N) (fun j => (frA N (gN d) i j : Int))))) (fun s => fun i_ => match i_ with | 0 => .slice (some ⟨ga, 0, none⟩) N ca | 1 => .int .i64 ((I : Nat) : Int) | 2 => .pointer (some ⟨ga, 0 + I, none⟩) | 3 => .int .i64 ((frA N (gN d) i I : Nat) : Int) | 4 => .int .i64 ((frA N (gN d) i I : Nat) : Int) | _ => undef) () A.1 (by kernel_rfl) (by decide) (by decide) ⟨BB, FO⟩ ?_ ?_
          · intro i_ hi_ s a X hf hv hn hS
            match i_, hi_ with
            | 0, _ => exact stepV rfl rfl (execMvB rfl ((hf 6 (by decide)).trans t6)) ⟨s, ⟨_, rfl, rfl⟩, hS, fun _ _ => rfl⟩
            | 1, _ => exact stepV rfl rfl (execMvB rfl ((hf 8 (by decide)).trans t8)) ⟨s, ⟨_, rfl, rfl⟩, hS, fun _ _ => rfl⟩
            | 2, _ => exact stepV rfl rfl (execIdxN (k := I) rfl (hv 0 (by omega) _ rfl _ rfl) (hv 1 (by omega) _ rfl _ rfl) hI) ⟨s, ⟨_, rfl, rfl⟩, hS, fun _ _ => rfl⟩
            | 3, _ => exact stepV rfl rfl (execLd3 rfl (hv 2 (by omega) _ rfl _ rfl) (own_cellI hS.2 hI).1) ⟨s, ⟨_, rfl, rfl⟩, hS, fun _ _ => rfl⟩
            | 4, _ => exact stepV rfl rfl (execAsgB rfl (hv 3 (by omega) _ rfl _ rfl)) ⟨s, ⟨_, rfl, rfl⟩, hS, fun _ _ => rfl⟩
            | k_ + 5, h_ => exact absurd h_ (by simp)
          rintro _ a X10 h1 h2 h3 h4 hS
          clear BB
          clear FO
          replace hS : Below V.heap.size V X10 ∧ (X10.ownsRow V.heap.size 3 1 (.slice (some ⟨ga, 0, none⟩) N ca) (N) (intsL (N) (fun j => (frA N (gN d) i j : Int)))) := hS
          obtain ⟨BB, FO⟩ := hS
          replace t0 := (h3 0 (by decide)).trans t0
          replace t1 := (h3 1 (by decide)).trans t1
          replace t6 := (h3 6 (by decide)).trans t6
          replace t7 := (h3 7 (by decide)).trans t7
          replace t8 := (h3 8 (by decide)).trans t8
          replace t9 := (h3 9 (by decide)).trans t9
          have t10 : a.eval (.tmp 10) = .int .i64 ((frA N (gN d) i I : Nat) : Int) := h4 4 _ rfl _ rfl
          replace A := (⟨h1, h2.trans A.2⟩ : a.tmps.size = 66 ∧ a.defers = [])
          clear h1 h2 h3 h4
          refine wp_seq ?_
          refine wp_region_sq (σ := Unit) 66 [(0, 54), (1, 55), (2, 56), (3, 57), (4, 58), (5, 59), (6, 60)] (fun j_ s X => match j_ with | 0 => Below V.heap.size V X ∧ (X.ownsRow V.heap.size 3 1 (.slice (some ⟨ga, 0, none⟩) N ca) (N) (intsL (N) (fun j => (frA N (gN d) i j : Int)))) | 1 => Below V.heap.size V X ∧ (X.ownsRow V.heap.size 3 1 (.slice (some ⟨ga, 0, none⟩) N ca) (N) (intsL (N) (fun j => (frA N (gN d) i j : Int)))) | 2 => Below V.heap.size V X ∧ (X.ownsRow V.heap.size 3 1 (.slice (some ⟨ga, 0, none⟩) N ca) (N) (intsL (N) (fun j => (frA N (gN d) i j : Int)))) | 3 => Below V.heap.size V X ∧ (X.ownsRow V.heap.size 3 1 (.slice (some ⟨ga, 0, none⟩) N ca) (N) (intsL (N) (fun j => (frA N (gN d) i j : Int)))) | 4 => Below V.heap.size V X ∧ (X.ownsRow V.heap.size 3 1 (.slice (some ⟨ga, 0, none⟩) N ca) (N) (intsL (N) (fun j => (frA N (gN d) i j : Int)))) | 5 => Below V.heap.size V X ∧ (X.ownsRow V.heap.size 3 1 (.slice (some ⟨ga, 0, none⟩) N ca) (N) (intsL (N) (fun j => (frA N (gN d) i j : Int)))) | 6 => Below V.heap.size V X ∧ (X.ownsRow V.heap.size 3 1 (.slice (some ⟨ga, 0, none⟩) N ca) (N) (intsL (N) (fun j => (frA N (gN d) i j : Int)))) | 7 => Below V.heap.size V X ∧ (X.ownsRow V.heap.size 3 1 (.slice (some ⟨ga, 0, none⟩) N ca) (N) (intsL (N) (fun j => (frA N (gN d) i j : Int)))) | _ => Below V.heap.size V X ∧ (X.ownsRow V.heap.size 3 1 (.slice (some ⟨ga, 0, none⟩) N ca) (N) (intsL (N) (fun j => if j = I then ((frA N (gN d) i w : Nat) : Int) else (fun j => (frA N (gN d) i j : Int)) j)))) (fun s => fun i_ => match i_ with | 0 => .slice (some ⟨ga, 0, none⟩) N ca | 1 => .int .i64 ((I : Nat) : Int) | 2 => .slice (some ⟨ga, 0, none⟩) N ca | 3 => .int .i64 ((w : Nat) : Int) | 4 => .pointer (some ⟨ga, 0 + w, none⟩) | 5 => .int .i64 ((frA N (gN d) i w : Nat) : Int) | 6 => .pointer (some ⟨ga, 0 + I, none⟩) | 7 => undef | _ => undef) () A.1 (by kernel_rfl) (by decide) (by decide) ⟨BB, FO⟩ ?_ ?_
          · intro i_ hi_ s a X hf hv hn hS
            match i_, hi_ with
            | 0, _ => exact stepV rfl rfl (execMvB rfl ((hf 6 (by decide)).trans t6)) ⟨s, ⟨_, rfl, rfl⟩, hS, fun _ _ => rfl⟩
            | 1, _ => exact stepV rfl rfl (execMvB rfl ((hf 8 (by decide)).trans t8)) ⟨s, ⟨_, rfl, rfl⟩, hS, fun _ _ => rfl⟩
            | 2, _ => exact stepV rfl rfl (execMvB rfl ((hf 6 (by decide)).trans t6)) ⟨s, ⟨_, rfl, rfl⟩, hS, fun _ _ => rfl⟩
            | 3, _ => exact stepV rfl rfl (execMvB rfl ((hf 9 (by decide)).trans t9)) ⟨s, ⟨_, rfl, rfl⟩, hS, fun _ _ => rfl⟩
            | 4, _ => exact stepV rfl rfl (execIdxN (k := w) rfl (hv 2 (by omega) _ rfl _ rfl) (hv 3 (by omega) _ rfl _ rfl) hw) ⟨s, ⟨_, rfl, rfl⟩, hS, fun _ _ => rfl⟩
            | 5, _ => exact stepV rfl rfl (execLd3 rfl (hv 4 (by omega) _ rfl _ rfl) (own_cellI hS.2 hw).1) ⟨s, ⟨_, rfl, rfl⟩, hS, fun _ _ => rfl⟩
            | 6, _ => exact stepV rfl rfl (execIdxN (k := I) rfl (hv 0 (by omega) _ rfl _ rfl) (hv 1 (by omega) _ rfl _ rfl) hI) ⟨s, ⟨_, rfl, rfl⟩, hS, fun _ _ => rfl⟩
            | 7, _ =>
              obtain ⟨hc_, hf_⟩ := own_cellI hS.2 hI
              refine stepS rfl rfl (execStI9 rfl (hv 6 (by omega) _ rfl _ rfl) (hv 5 (by omega) _ rfl _ rfl) hc_ hf_) ⟨s, ⟨_, rfl, rfl⟩, ⟨(hS.1).setCell hga _, own_setF _ hS.2⟩, fun i hi => ?_⟩
              match i, hi with
              | 0, _ => rfl
              | 1, _ => rfl
              | 2, _ => rfl
              | 3, _ => rfl
              | 4, _ => rfl
              | 5, _ => rfl
              | 6, _ => rfl
              | n_ + 7, h_ => omega
            | k_ + 8, h_ => exact absurd h_ (by simp)
          rintro _ a X11 h1 h2 h3 h4 hS
          clear BB
          clear FO
          replace hS : Below V.heap.size V X11 ∧ (X11.ownsRow V.heap.size 3 1 (.slice (some ⟨ga, 0, none⟩) N ca) (N) (intsL (N) (fun j => if j = I then ((frA N (gN d) i w : Nat) : Int) else (fun j => (frA N (gN d) i j : Int)) j))) := hS
          obtain ⟨BB, FO1⟩ := hS
          replace t0 := (h3 0 (by decide)).trans t0
          replace t1 := (h3 1 (by decide)).trans t1
          replace t6 := (h3 6 (by decide)).trans t6
          replace t7 := (h3 7 (by decide)).trans t7
          replace t8 := (h3 8 (by decide)).trans t8
          replace t9 := (h3 9 (by decide)).trans t9
          replace t10 := (h3 10 (by decide)).trans t10
          replace A := (⟨h1, h2.trans A.2⟩ : a.tmps.size = 66 ∧ a.defers = [])
          clear h1 h2 h3 h4
          refine wp_region_sq (σ := Unit) 66 [(0, 61), (1, 62), (2, 63), (3, 64)] (fun j_ s X => match j_ with | 0 => Below V.heap.size V X ∧ (X.ownsRow V.heap.size 3 1 (.slice (some ⟨ga, 0, none⟩) N ca) (N) (intsL (N) (fun j => if j = I then ((frA N (gN d) i w : Nat) : Int) else (fun j => (frA N (gN d) i j : Int)) j))) | 1 => Below V.heap.size V X ∧ (X.ownsRow V.heap.size 3 1 (.slice (some ⟨ga, 0, none⟩) N ca) (N) (intsL (N) (fun j => if j = I then ((frA N (gN d) i w : Nat) : Int) else (fun j => (frA N (gN d) i j : Int)) j))) | 2 => Below V.heap.size V X ∧ (X.ownsRow V.heap.size 3 1 (.slice (some ⟨ga, 0, none⟩) N ca) (N) (intsL (N) (fun j => if j = I then ((frA N (gN d) i w : Nat) : Int) else (fun j => (frA N (gN d) i j : Int)) j))) | 3 => Below V.heap.size V X ∧ (X.ownsRow V.heap.size 3 1 (.slice (some ⟨ga, 0, none⟩) N ca) (N) (intsL (N) (fun j => if j = I then ((frA N (gN d) i w : Nat) : Int) else (fun j => (frA N (gN d) i j : Int)) j))) | 4 => Below V.heap.size V X ∧ (X.ownsRow V.heap.size 3 1 (.slice (some ⟨ga, 0, none⟩) N ca) (N) (intsL (N) (fun j => if j = I then ((frA N (gN d) i w : Nat) : Int) else (fun j => (frA N (gN d) i j : Int)) j))) | _ => Below V.heap.size V X ∧ (X.ownsRow V.heap.size 3 1 (.slice (some ⟨ga, 0, none⟩) N ca) (N) (intsL (N) (fun j => (frA N (gN d) (i + 1) j : Int))))) (fun s => fun i_ => match i_ with | 0 => .slice (some ⟨ga, 0, none⟩) N ca | 1 => .int .i64 ((w : Nat) : Int) | 2 => .int .i64 ((frA N (gN d) i I : Nat) : Int) | 3 => .pointer (some ⟨ga, 0 + w, none⟩) | 4 => undef | _ => undef) () A.1 (by kernel_rfl) (by decide) (by decide) ⟨BB, FO1⟩ ?_ ?_
          · intro i_ hi_ s a X hf hv hn hS
            match i_, hi_ with
            | 0, _ => exact stepV rfl rfl (execMvB rfl ((hf 6 (by decide)).trans t6)) ⟨s, ⟨_, rfl, rfl⟩, hS, fun _ _ => rfl⟩
            | 1, _ => exact stepV rfl rfl (execMvB rfl ((hf 9 (by decide)).trans t9)) ⟨s, ⟨_, rfl, rfl⟩, hS, fun _ _ => rfl⟩
            | 2, _ => exact stepV rfl rfl (execMvB rfl ((hf 10 (by decide)).trans t10)) ⟨s, ⟨_, rfl, rfl⟩, hS, fun _ _ => rfl⟩
            | 3, _ => exact stepV rfl rfl (execIdxN (k := w) rfl (hv 0 (by omega) _ rfl _ rfl) (hv 1 (by omega) _ rfl _ rfl) hw) ⟨s, ⟨_, rfl, rfl⟩, hS, fun _ _ => rfl⟩
            | 4, _ =>
              obtain ⟨hc_, hf_⟩ := own_cellI hS.2 hw
              refine stepS rfl rfl (execStI9 rfl (hv 3 (by omega) _ rfl _ rfl) (hv 2 (by omega) _ rfl _ rfl) hc_ hf_) ⟨s, ⟨_, rfl, rfl⟩, ⟨(hS.1).setCell hga _, fr_set hS.2 eI hg⟩, fun i hi => ?_⟩
              match i, hi with
              | 0, _ => rfl
              | 1, _ => rfl
              | 2, _ => rfl
              | 3, _ => rfl
              | n_ + 4, h_ => omega
            | k_ + 5, h_ => exact absurd h_ (by simp)
          rintro _ a X12 h1 h2 h3 h4 hS
          clear BB
          clear FO1
          replace hS : Below V.heap.size V X12 ∧ (X12.ownsRow V.heap.size 3 1 (.slice (some ⟨ga, 0, none⟩) N ca) (N) (intsL (N) (fun j => (frA N (gN d) (i + 1) j : Int)))) := hS
          obtain ⟨BB, FO2⟩ := hS
          replace t0 := (h3 0 (by decide)).trans t0
          replace t1 := (h3 1 (by decide)).trans t1
          replace t6 := (h3 6 (by decide)).trans t6
          replace t7 := (h3 7 (by decide)).trans t7
          replace A := (⟨h1, h2.trans A.2⟩ : a.tmps.size = 66 ∧ a.defers = [])
          clear h1 h2 h3 h4
          clear t8 t9 t10
          refine wp_region_sq (σ := Unit) 66 [(0, 40), (1, 41), (2, 7)] (fun j_ s X => match j_ with | 0 => Below V.heap.size V X ∧ (X.ownsRow V.heap.size 3 1 (.slice (some ⟨ga, 0, none⟩) N ca) (N) (intsL (N) (fun j => (frA N (gN d) (i + 1) j : Int)))) | 1 => Below V.heap.size V X ∧ (X.ownsRow V.heap.size 3 1 (.slice (some ⟨ga, 0, none⟩) N ca) (N) (intsL (N) (fun j => (frA N (gN d) (i + 1) j : Int)))) | 2 => Below V.heap.size V X ∧ (X.ownsRow V.heap.size 3 1 (.slice (some ⟨ga, 0, none⟩) N ca) (N) (intsL (N) (fun j => (frA N (gN d) (i + 1) j : Int)))) | _ => Below V.heap.size V X ∧ (X.ownsRow V.heap.size 3 1 (.slice (some ⟨ga, 0, none⟩) N ca) (N) (intsL (N) (fun j => (frA N (gN d) (i + 1) j : Int))))) (fun s => fun i_ => match i_ with | 0 => .int .i64 ((i : Nat) : Int) | 1 => .int .i64 ((i + 1 : Nat) : Int) | 2 => .int .i64 ((i + 1 : Nat) : Int) | _ => undef) () A.1 (by kernel_rfl) (by decide) (by decide) ⟨BB, FO2⟩ ?_ ?_
          · intro i_ hi_ s a X hf hv hn hS
            match i_, hi_ with
            | 0, _ => exact stepV rfl rfl (execMvB rfl ((hn 2 (by omega) _ rfl _ rfl).trans t7)) ⟨s, ⟨_, rfl, rfl⟩, hS, fun _ _ => rfl⟩
            | 1, _ => exact stepV rfl rfl (execAd8 (p := i) (q := 1) rfl (hv 0 (by omega) _ rfl _ rfl) rfl (by omega)) ⟨s, ⟨_, rfl, rfl⟩, hS, fun _ _ => rfl⟩
            | 2, _ => exact stepV rfl rfl (execAsgB rfl (hv 1 (by omega) _ rfl _ rfl)) ⟨s, ⟨_, rfl, rfl⟩, hS, fun _ _ => rfl⟩
            | k_ + 3, h_ => exact absurd h_ (by simp)
          rintro _ a X8 h1 h2 h3 h4 hS
          clear BB
          clear FO2
          replace hS : Below V.heap.size V X8 ∧ (X8.ownsRow V.heap.size 3 1 (.slice (some ⟨ga, 0, none⟩) N ca) (N) (intsL (N) (fun j => (frA N (gN d) (i + 1) j : Int)))) := hS
          obtain ⟨BB, FO2⟩ := hS
          replace t0 := (h3 0 (by decide)).trans t0
          replace t1 := (h3 1 (by decide)).trans t1
          replace t6 := (h3 6 (by decide)).trans t6
          replace t7 : a.eval (.tmp 7) = .int .i64 ((i + 1 : Nat) : Int) := h4 2 _ rfl _ rfl
          replace A := (⟨h1, h2.trans A.2⟩ : a.tmps.size = 66 ∧ a.defers = [])
          clear h1 h2 h3 h4
          exact ⟨⟨i + 1, hlt, A, t0, t1, t6, t7, BB, FO2⟩, by show m - (intOf (a.eval (.tmp 7))).toNat < m - (intOf (Act.eval _ (.tmp 7))).toNat; rw [t7, es]; show m - (i + 1) < m - i; omega⟩
        · rw [decide_eq_false hlt] at t39
          refine wp_cond_false t39 ?_
          refine wp_exit ?_
          first | refine exit_in ?_ | refine exit_then (exit_in ?_) | refine exit_then (exit_then (exit_in ?_))
          clear t39 es
          have hin : i = m := by omega
          rw [hin] at FO
          refine wp_seq ?_
          refine wp_region_sq (σ := Unit) 66 [(0, 65), (1, 4), (2, 5)] (fun j_ s X => match j_ with | 0 => Below V.heap.size V X ∧ (X.ownsRow V.heap.size 3 1 v35 (N) (intsL (N) (fun j => (frA N (gN d) m j : Int)))) | 1 => Below V.heap.size V X ∧ (X.ownsRow V.heap.size 3 1 v35 (N) (intsL (N) (fun j => (frA N (gN d) m j : Int)))) | 2 => Below V.heap.size V X ∧ (X.ownsRow V.heap.size 3 1 v35 (N) (intsL (N) (fun j => (frA N (gN d) m j : Int)))) | _ => Below V.heap.size V X ∧ (X.ownsRow V.heap.size 3 1 v35 (N) (intsL (N) (fun j => (frA N (gN d) m j : Int))))) (fun s => fun i_ => match i_ with | 0 => v35 | 1 => v35 | 2 => .int .i64 ((0 : Nat) : Int) | _ => undef) () A.1 (by kernel_rfl) (by decide) (by decide) ⟨BB, FO⟩ ?_ ?_
          · intro i_ hi_ s a X hf hv hn hS
            match i_, hi_ with
            | 0, _ => exact stepV rfl rfl (execMvB rfl ((hf 6 (by decide)).trans t6)) ⟨s, ⟨_, rfl, rfl⟩, hS, fun _ _ => rfl⟩
            | 1, _ => exact stepV rfl rfl (execAsgB rfl (hv 0 (by omega) _ rfl _ rfl)) ⟨s, ⟨_, rfl, rfl⟩, hS, fun _ _ => rfl⟩
            | 2, _ => exact stepV rfl rfl (execAsgB rfl rfl) ⟨s, ⟨_, rfl, rfl⟩, hS, fun _ _ => rfl⟩
            | k_ + 3, h_ => exact absurd h_ (by simp)
          rintro _ a X13 h1 h2 h3 h4 hS
          clear BB
          clear FO
          replace hS : Below V.heap.size V X13 ∧ (X13.ownsRow V.heap.size 3 1 v35 (N) (intsL (N) (fun j => (frA N (gN d) m j : Int)))) := hS
          obtain ⟨BB, FO⟩ := hS
          have t4 : a.eval (.tmp 4) = v35 := h4 1 _ rfl _ rfl
          have t5 : a.eval (.tmp 5) = .int .i64 ((0 : Nat) : Int) := h4 2 _ rfl _ rfl
          replace A := (⟨h1, h2.trans A.2⟩ : a.tmps.size = 66 ∧ a.defers = [])
          clear h1 h2 h3 h4
          clear t0 t1 t6 t7
          rw [hE, zl_ok, Int.toNat_natCast]
          refine wp_ret ?_
          refine bodyPost_ret (results_tmp2 rfl _ _ _) A.2 ⟨_, ?_, FO, BB⟩
          show Ending.returned (.tuple #[a.eval (.tmp 4), a.eval (.tmp 5)]) = _
          rw [t4, t5]
    · have hff := Bool.eq_false_iff.2 hf
      by_cases hN1 : N = m + 1
      · have hwf : ∀ X, Below V.heap.size V X → Calls Try.prog 39 #[.int .i64 ((N : Nat) : Int), .slice ia m ic] X fun e w' => e = .returned (.bool false) ∧ Below X.heap.size X w' := fun X hX => by have h_ := rfit N d m _ X (FI.on hX) (by omega) (by omega); rw [decide_eq_true h1, Bool.true_and, hff] at h_; exact h_
        refine wp_region_sq (σ := Unit) 66 [(0, 13), (1, 14), (2, 15), (3, 16), (4, 17), (5, 18), (6, 19), (7, 20), (8, 21), (9, 22), (10, 23), (11, 24), (12, 25), (13, 26), (14, 27), (15, 28), (16, 29), (17, 30), (18, 31), (19, 32), (20, 33)] (fun j_ s X => match j_ with | 0 => Below V.heap.size V X | 1 => Below V.heap.size V X | 2 => Below V.heap.size V X | 3 => Below V.heap.size V X | 4 => Below V.heap.size V X | 5 => Below V.heap.size V X | 6 => Below V.heap.size V X | 7 => Below V.heap.size V X | 8 => Below V.heap.size V X | 9 => Below V.heap.size V X | 10 => Below V.heap.size V X | 11 => Below V.heap.size V X | 12 => Below V.heap.size V X | 13 => Below V.heap.size V X | 14 => Below V.heap.size V X | 15 => Below V.heap.size V X | 16 => Below V.heap.size V X | 17 => Below V.heap.size V X | 18 => Below V.heap.size V X | 19 => Below V.heap.size V X | 20 => Below V.heap.size V X | _ => Below V.heap.size V X) (fun s => fun i_ => match i_ with | 0 => .int .i64 ((N : Nat) : Int) | 1 => .slice ia m ic | 2 => .int .i64 ((m : Nat) : Int) | 3 => .int .i64 ((m + 1 : Nat) : Int) | 4 => .bool false | 5 => .bool false | 6 => undef | 7 => undef | 8 => undef | 9 => undef | 10 => undef | 11 => undef | 12 => undef | 13 => undef | 14 => .bool false | 15 => .bool false | 16 => .int .i64 ((N : Nat) : Int) | 17 => .slice ia m ic | 18 => .bool false | 19 => .bool true | 20 => .bool true | _ => undef) () A.1 (by kernel_rfl) (by decide) (by decide) (BB) ?_ ?_
        · intro i_ hi_ s a X hf hv hn hS
          match i_, hi_ with
          | 0, _ => exact stepV rfl rfl (execMvB rfl ((hf 0 (by decide)).trans t0)) ⟨s, ⟨_, rfl, rfl⟩, hS, fun _ _ => rfl⟩
          | 1, _ => exact stepV rfl rfl (execMvB rfl ((hf 1 (by decide)).trans t1)) ⟨s, ⟨_, rfl, rfl⟩, hS, fun _ _ => rfl⟩
          | 2, _ => exact stepV rfl rfl (execLenI (len := m) rfl (hv 1 (by omega) _ rfl _ rfl) ((FI.on hS)).shp) ⟨s, ⟨_, rfl, rfl⟩, hS, fun _ _ => rfl⟩
          | 3, _ => exact stepV rfl rfl (execAd8 (p := m) (q := 1) rfl (hv 2 (by omega) _ rfl _ rfl) rfl (by omega)) ⟨s, ⟨_, rfl, rfl⟩, hS, fun _ _ => rfl⟩
          | 4, _ => exact stepV rfl rfl (execDec (execNeN (p := N) (q := m + 1) rfl (hv 0 (by omega) _ rfl _ rfl) (hv 3 (by omega) _ rfl _ rfl)) (decide_eq_false (by omega))) ⟨s, ⟨_, rfl, rfl⟩, hS, fun _ _ => rfl⟩
          | 5, _ => exact stepV rfl rfl (execMvB rfl (hv 4 (by omega) _ rfl _ rfl)) ⟨s, ⟨_, rfl, rfl⟩, hS, fun _ _ => rfl⟩
          | 6, _ => exact stepU rfl (unwantedOf rfl (yieldedAt rfl rfl (show a.eval (.tmp 18) = .bool (!true) from (hv 5 (by omega) _ rfl _ rfl)))) ⟨s, ⟨_, rfl, rfl⟩, hS, fun _ _ => rfl⟩
          | 7, _ => exact stepU rfl (unwantedOf rfl (yieldedAt rfl rfl (show a.eval (.tmp 18) = .bool (!true) from (hv 5 (by omega) _ rfl _ rfl)))) ⟨s, ⟨_, rfl, rfl⟩, hS, fun _ _ => rfl⟩
          | 8, _ => exact stepU rfl (unwantedOf rfl (yieldedAt rfl rfl (show a.eval (.tmp 18) = .bool (!true) from (hv 5 (by omega) _ rfl _ rfl)))) ⟨s, ⟨_, rfl, rfl⟩, hS, fun _ _ => rfl⟩
          | 9, _ => exact stepU rfl (unwantedNo rfl (yieldedNo rfl rfl (show a.eval (.tmp 21) = undef from (hv 8 (by omega) _ rfl _ rfl)))) ⟨s, ⟨_, rfl, rfl⟩, hS, fun _ _ => rfl⟩
          | 10, _ => exact stepU rfl (unwantedNo rfl (yieldedNo rfl rfl (show a.eval (.tmp 21) = undef from (hv 8 (by omega) _ rfl _ rfl)))) ⟨s, ⟨_, rfl, rfl⟩, hS, fun _ _ => rfl⟩
          | 11, _ => exact stepU rfl (unwantedNo rfl (yieldedNo rfl rfl (show a.eval (.tmp 21) = undef from (hv 8 (by omega) _ rfl _ rfl)))) ⟨s, ⟨_, rfl, rfl⟩, hS, fun _ _ => rfl⟩
          | 12, _ => exact stepU rfl (unwantedOf rfl (yieldedAt rfl rfl (show a.eval (.tmp 18) = .bool (!true) from (hv 5 (by omega) _ rfl _ rfl)))) ⟨s, ⟨_, rfl, rfl⟩, hS, fun _ _ => rfl⟩
          | 13, _ => exact stepU rfl (unwantedOf rfl (yieldedAt rfl rfl (show a.eval (.tmp 18) = .bool (!true) from (hv 5 (by omega) _ rfl _ rfl)))) ⟨s, ⟨_, rfl, rfl⟩, hS, fun _ _ => rfl⟩
          | 14, _ => exact stepV rfl rfl (execPickF rfl (hv 5 (by omega) _ rfl _ rfl) rfl) ⟨s, ⟨_, rfl, rfl⟩, hS, fun _ _ => rfl⟩
          | 15, _ => exact stepV rfl rfl (execMvB rfl (hv 14 (by omega) _ rfl _ rfl)) ⟨s, ⟨_, rfl, rfl⟩, hS, fun _ _ => rfl⟩
          | 16, _ => exact stepV rfl (wantedOf rfl (yieldedAt rfl rfl (show a.eval (.tmp 28) = .bool false from (hv 15 (by omega) _ rfl _ rfl)))) (execMvB rfl ((hf 0 (by decide)).trans t0)) ⟨s, ⟨_, rfl, rfl⟩, hS, fun _ _ => rfl⟩
          | 17, _ => exact stepV rfl (wantedOf rfl (yieldedAt rfl rfl (show a.eval (.tmp 28) = .bool false from (hv 15 (by omega) _ rfl _ rfl)))) (execMvB rfl ((hf 1 (by decide)).trans t1)) ⟨s, ⟨_, rfl, rfl⟩, hS, fun _ _ => rfl⟩
          | 18, _ => exact stepC rfl (wantedOf rfl (yieldedAt rfl rfl (show a.eval (.tmp 28) = .bool false from (hv 15 (by omega) _ rfl _ rfl)))) (execCall2 Try.func39 (by kernel_rfl) (by kernel_rfl) rfl (hv 16 (by omega) _ rfl _ rfl) (hv 17 (by omega) _ rfl _ rfl)) (hwf X hS) fun e w' hh => ⟨_, hh.1, s, ⟨_, rfl, rfl⟩, (hS).trans ((hh.2).mono (hS).size), fun _ _ => rfl⟩
          | 19, _ => exact stepV rfl (wantedOf rfl (yieldedAt rfl rfl (show a.eval (.tmp 28) = .bool false from (hv 15 (by omega) _ rfl _ rfl)))) (execNot8 rfl (hv 18 (by omega) _ rfl _ rfl)) ⟨s, ⟨_, rfl, rfl⟩, hS, fun _ _ => rfl⟩
          | 20, _ => exact stepV rfl rfl (execPickF rfl (hv 15 (by omega) _ rfl _ rfl) (hv 19 (by omega) _ rfl _ rfl)) ⟨s, ⟨_, rfl, rfl⟩, hS, fun _ _ => rfl⟩
          | k_ + 21, h_ => exact absurd h_ (by simp)
        rintro _ a X3 h1 h2 h3 h4 hS
        clear BB
        replace hS : Below V.heap.size V X3 := hS
        have BB := hS
        clear hS
        replace t0 := (h3 0 (by decide)).trans t0
        replace t1 := (h3 1 (by decide)).trans t1
        have t33 : a.eval (.tmp 33) = .bool true := h4 20 _ rfl _ rfl
        replace A := (⟨h1, h2.trans A.2⟩ : a.tmps.size = 66 ∧ a.defers = [])
        clear h1 h2 h3 h4
        refine wp_cond_true t33 ?_
        refine wp_seq ?_
        refine wp_region_sq (σ := Unit) 66 [(0, 4), (1, 5)] (fun j_ s X => match j_ with | 0 => Below V.heap.size V X | 1 => Below V.heap.size V X | _ => Below V.heap.size V X) (fun s => fun i_ => match i_ with | 0 => .slice none 0 0 | 1 => .int .i64 ((110 : Nat) : Int) | _ => undef) () A.1 (by kernel_rfl) (by decide) (by decide) (BB) ?_ ?_
        · intro i_ hi_ s a X hf hv hn hS
          match i_, hi_ with
          | 0, _ => exact stepV rfl rfl (execAsgB rfl rfl) ⟨s, ⟨_, rfl, rfl⟩, hS, fun _ _ => rfl⟩
          | 1, _ => exact stepV rfl rfl (execAsgB rfl rfl) ⟨s, ⟨_, rfl, rfl⟩, hS, fun _ _ => rfl⟩
          | k_ + 2, h_ => exact absurd h_ (by simp)
        rintro _ a X4 h1 h2 h3 h4 hS
        clear BB
        replace hS : Below V.heap.size V X4 := hS
        have BB := hS
        clear hS
        have t4 : a.eval (.tmp 4) = .slice none 0 0 := h4 0 _ rfl _ rfl
        have t5 : a.eval (.tmp 5) = .int .i64 ((110 : Nat) : Int) := h4 1 _ rfl _ rfl
        replace A := (⟨h1, h2.trans A.2⟩ : a.tmps.size = 66 ∧ a.defers = [])
        clear h1 h2 h3 h4
        clear t0 t1
        have hE : frE (N : Int) d m = 110 := frE_no (fun q => hf q.2)
        rw [hE, zl_no (by decide)]
        refine wp_ret ?_
        repeat (first | refine ret_in ?_ | refine ret_then ?_)
        refine bodyPost_ret (results_tmp2 rfl _ _ _) A.2 ⟨_, ?_, World.ownsRow_nil _ _ _ _, BB⟩
        show Ending.returned (.tuple #[a.eval (.tmp 4), a.eval (.tmp 5)]) = _
        rw [t4, t5]
      · have hwf : ∀ X, Below V.heap.size V X → Calls Try.prog 39 #[.int .i64 ((N : Nat) : Int), .slice ia m ic] X fun e w' => e = .returned (.bool false) ∧ Below X.heap.size X w' := fun X hX => by have h_ := rfit N d m _ X (FI.on hX) (by omega) (by omega); rw [decide_eq_true h1, Bool.true_and, hff] at h_; exact h_
        refine wp_region_sq (σ := Unit) 66 [(0, 13), (1, 14), (2, 15), (3, 16), (4, 17), (5, 18), (6, 19), (7, 20), (8, 21), (9, 22), (10, 23), (11, 24), (12, 25), (13, 26), (14, 27), (15, 28), (16, 29), (17, 30), (18, 31), (19, 32), (20, 33)] (fun j_ s X => match j_ with | 0 => Below V.heap.size V X | 1 => Below V.heap.size V X | 2 => Below V.heap.size V X | 3 => Below V.heap.size V X | 4 => Below V.heap.size V X | 5 => Below V.heap.size V X | 6 => Below V.heap.size V X | 7 => Below V.heap.size V X | 8 => Below V.heap.size V X | 9 => Below V.heap.size V X | 10 => Below V.heap.size V X | 11 => Below V.heap.size V X | 12 => Below V.heap.size V X | 13 => Below V.heap.size V X | 14 => Below V.heap.size V X | 15 => Below V.heap.size V X | 16 => Below V.heap.size V X | 17 => Below V.heap.size V X | 18 => Below V.heap.size V X | 19 => Below V.heap.size V X | 20 => Below V.heap.size V X | _ => Below V.heap.size V X) (fun s => fun i_ => match i_ with | 0 => .int .i64 ((N : Nat) : Int) | 1 => .slice ia m ic | 2 => .int .i64 ((m : Nat) : Int) | 3 => .int .i64 ((m + 1 : Nat) : Int) | 4 => .bool true | 5 => .bool true | 6 => .int .i64 ((N : Nat) : Int) | 7 => .bool true | 8 => .bool true | 9 => .slice ia m ic | 10 => .int .i64 ((m : Nat) : Int) | 11 => .bool true | 12 => .bool true | 13 => .bool false | 14 => .bool false | 15 => .bool false | 16 => .int .i64 ((N : Nat) : Int) | 17 => .slice ia m ic | 18 => .bool false | 19 => .bool true | 20 => .bool true | _ => undef) () A.1 (by kernel_rfl) (by decide) (by decide) (BB) ?_ ?_
        · intro i_ hi_ s a X hf hv hn hS
          match i_, hi_ with
          | 0, _ => exact stepV rfl rfl (execMvB rfl ((hf 0 (by decide)).trans t0)) ⟨s, ⟨_, rfl, rfl⟩, hS, fun _ _ => rfl⟩
          | 1, _ => exact stepV rfl rfl (execMvB rfl ((hf 1 (by decide)).trans t1)) ⟨s, ⟨_, rfl, rfl⟩, hS, fun _ _ => rfl⟩
          | 2, _ => exact stepV rfl rfl (execLenI (len := m) rfl (hv 1 (by omega) _ rfl _ rfl) ((FI.on hS)).shp) ⟨s, ⟨_, rfl, rfl⟩, hS, fun _ _ => rfl⟩
          | 3, _ => exact stepV rfl rfl (execAd8 (p := m) (q := 1) rfl (hv 2 (by omega) _ rfl _ rfl) rfl (by omega)) ⟨s, ⟨_, rfl, rfl⟩, hS, fun _ _ => rfl⟩
          | 4, _ => exact stepV rfl rfl (execDec (execNeN (p := N) (q := m + 1) rfl (hv 0 (by omega) _ rfl _ rfl) (hv 3 (by omega) _ rfl _ rfl)) (decide_eq_true (by omega))) ⟨s, ⟨_, rfl, rfl⟩, hS, fun _ _ => rfl⟩
          | 5, _ => exact stepV rfl rfl (execMvB rfl (hv 4 (by omega) _ rfl _ rfl)) ⟨s, ⟨_, rfl, rfl⟩, hS, fun _ _ => rfl⟩
          | 6, _ => exact stepV rfl (wantedOf rfl (yieldedAt rfl rfl (show a.eval (.tmp 18) = .bool true from (hv 5 (by omega) _ rfl _ rfl)))) (execMvB rfl ((hf 0 (by decide)).trans t0)) ⟨s, ⟨_, rfl, rfl⟩, hS, fun _ _ => rfl⟩
          | 7, _ => exact stepV rfl (wantedOf rfl (yieldedAt rfl rfl (show a.eval (.tmp 18) = .bool true from (hv 5 (by omega) _ rfl _ rfl)))) (execDec (execEqN (p := N) (q := 0) rfl (hv 6 (by omega) _ rfl _ rfl) rfl) (decide_eq_true (by omega))) ⟨s, ⟨_, rfl, rfl⟩, hS, fun _ _ => rfl⟩
          | 8, _ => exact stepV rfl (wantedOf rfl (yieldedAt rfl rfl (show a.eval (.tmp 18) = .bool true from (hv 5 (by omega) _ rfl _ rfl)))) (execMvB rfl (hv 7 (by omega) _ rfl _ rfl)) ⟨s, ⟨_, rfl, rfl⟩, hS, fun _ _ => rfl⟩
          | 9, _ => exact stepV rfl (wantedOf rfl (yieldedAt rfl rfl (show a.eval (.tmp 21) = .bool true from (hv 8 (by omega) _ rfl _ rfl)))) (execMvB rfl ((hf 1 (by decide)).trans t1)) ⟨s, ⟨_, rfl, rfl⟩, hS, fun _ _ => rfl⟩
          | 10, _ => exact stepV rfl (wantedOf rfl (yieldedAt rfl rfl (show a.eval (.tmp 21) = .bool true from (hv 8 (by omega) _ rfl _ rfl)))) (execLenI (len := m) rfl (hv 9 (by omega) _ rfl _ rfl) ((FI.on hS)).shp) ⟨s, ⟨_, rfl, rfl⟩, hS, fun _ _ => rfl⟩
          | 11, _ => exact stepV rfl (wantedOf rfl (yieldedAt rfl rfl (show a.eval (.tmp 21) = .bool true from (hv 8 (by omega) _ rfl _ rfl)))) (execDec (execEqN (p := m) (q := 0) rfl (hv 10 (by omega) _ rfl _ rfl) rfl) (decide_eq_true (by omega))) ⟨s, ⟨_, rfl, rfl⟩, hS, fun _ _ => rfl⟩
          | 12, _ => exact stepV rfl (wantedOf rfl (yieldedAt rfl rfl (show a.eval (.tmp 18) = .bool true from (hv 5 (by omega) _ rfl _ rfl)))) (execPickT rfl (hv 8 (by omega) _ rfl _ rfl) (hv 11 (by omega) _ rfl _ rfl)) ⟨s, ⟨_, rfl, rfl⟩, hS, fun _ _ => rfl⟩
          | 13, _ => exact stepV rfl (wantedOf rfl (yieldedAt rfl rfl (show a.eval (.tmp 18) = .bool true from (hv 5 (by omega) _ rfl _ rfl)))) (execNot8 rfl (hv 12 (by omega) _ rfl _ rfl)) ⟨s, ⟨_, rfl, rfl⟩, hS, fun _ _ => rfl⟩
          | 14, _ => exact stepV rfl rfl (execPickT rfl (hv 5 (by omega) _ rfl _ rfl) (hv 13 (by omega) _ rfl _ rfl)) ⟨s, ⟨_, rfl, rfl⟩, hS, fun _ _ => rfl⟩
          | 15, _ => exact stepV rfl rfl (execMvB rfl (hv 14 (by omega) _ rfl _ rfl)) ⟨s, ⟨_, rfl, rfl⟩, hS, fun _ _ => rfl⟩
          | 16, _ => exact stepV rfl (wantedOf rfl (yieldedAt rfl rfl (show a.eval (.tmp 28) = .bool false from (hv 15 (by omega) _ rfl _ rfl)))) (execMvB rfl ((hf 0 (by decide)).trans t0)) ⟨s, ⟨_, rfl, rfl⟩, hS, fun _ _ => rfl⟩
          | 17, _ => exact stepV rfl (wantedOf rfl (yieldedAt rfl rfl (show a.eval (.tmp 28) = .bool false from (hv 15 (by omega) _ rfl _ rfl)))) (execMvB rfl ((hf 1 (by decide)).trans t1)) ⟨s, ⟨_, rfl, rfl⟩, hS, fun _ _ => rfl⟩
          | 18, _ => exact stepC rfl (wantedOf rfl (yieldedAt rfl rfl (show a.eval (.tmp 28) = .bool false from (hv 15 (by omega) _ rfl _ rfl)))) (execCall2 Try.func39 (by kernel_rfl) (by kernel_rfl) rfl (hv 16 (by omega) _ rfl _ rfl) (hv 17 (by omega) _ rfl _ rfl)) (hwf X hS) fun e w' hh => ⟨_, hh.1, s, ⟨_, rfl, rfl⟩, (hS).trans ((hh.2).mono (hS).size), fun _ _ => rfl⟩
          | 19, _ => exact stepV rfl (wantedOf rfl (yieldedAt rfl rfl (show a.eval (.tmp 28) = .bool false from (hv 15 (by omega) _ rfl _ rfl)))) (execNot8 rfl (hv 18 (by omega) _ rfl _ rfl)) ⟨s, ⟨_, rfl, rfl⟩, hS, fun _ _ => rfl⟩
          | 20, _ => exact stepV rfl rfl (execPickF rfl (hv 15 (by omega) _ rfl _ rfl) (hv 19 (by omega) _ rfl _ rfl)) ⟨s, ⟨_, rfl, rfl⟩, hS, fun _ _ => rfl⟩
          | k_ + 21, h_ => exact absurd h_ (by simp)
        rintro _ a X3 h1 h2 h3 h4 hS
        clear BB
        replace hS : Below V.heap.size V X3 := hS
        have BB := hS
        clear hS
        replace t0 := (h3 0 (by decide)).trans t0
        replace t1 := (h3 1 (by decide)).trans t1
        have t33 : a.eval (.tmp 33) = .bool true := h4 20 _ rfl _ rfl
        replace A := (⟨h1, h2.trans A.2⟩ : a.tmps.size = 66 ∧ a.defers = [])
        clear h1 h2 h3 h4
        refine wp_cond_true t33 ?_
        refine wp_seq ?_
        refine wp_region_sq (σ := Unit) 66 [(0, 4), (1, 5)] (fun j_ s X => match j_ with | 0 => Below V.heap.size V X | 1 => Below V.heap.size V X | _ => Below V.heap.size V X) (fun s => fun i_ => match i_ with | 0 => .slice none 0 0 | 1 => .int .i64 ((110 : Nat) : Int) | _ => undef) () A.1 (by kernel_rfl) (by decide) (by decide) (BB) ?_ ?_
        · intro i_ hi_ s a X hf hv hn hS
          match i_, hi_ with
          | 0, _ => exact stepV rfl rfl (execAsgB rfl rfl) ⟨s, ⟨_, rfl, rfl⟩, hS, fun _ _ => rfl⟩
          | 1, _ => exact stepV rfl rfl (execAsgB rfl rfl) ⟨s, ⟨_, rfl, rfl⟩, hS, fun _ _ => rfl⟩
          | k_ + 2, h_ => exact absurd h_ (by simp)
        rintro _ a X4 h1 h2 h3 h4 hS
        clear BB
        replace hS : Below V.heap.size V X4 := hS
        have BB := hS
        clear hS
        have t4 : a.eval (.tmp 4) = .slice none 0 0 := h4 0 _ rfl _ rfl
        have t5 : a.eval (.tmp 5) = .int .i64 ((110 : Nat) : Int) := h4 1 _ rfl _ rfl
        replace A := (⟨h1, h2.trans A.2⟩ : a.tmps.size = 66 ∧ a.defers = [])
        clear h1 h2 h3 h4
        clear t0 t1
        have hE : frE (N : Int) d m = 110 := frE_no (fun q => hf q.2)
        rw [hE, zl_no (by decide)]
        refine wp_ret ?_
        repeat (first | refine ret_in ?_ | refine ret_then ?_)
        refine bodyPost_ret (results_tmp2 rfl _ _ _) A.2 ⟨_, ?_, World.ownsRow_nil _ _ _ _, BB⟩
        show Ending.returned (.tuple #[a.eval (.tmp 4), a.eval (.tmp 5)]) = _
        rw [t4, t5]
  · by_cases hN0 : N = 0
    · refine wp_region_sq (σ := Unit) 66 [(0, 13), (1, 14), (2, 15), (3, 16), (4, 17), (5, 18), (6, 19), (7, 20), (8, 21), (9, 22), (10, 23), (11, 24), (12, 25), (13, 26), (14, 27), (15, 28), (16, 29), (17, 30), (18, 31), (19, 32), (20, 33)] (fun j_ s X => match j_ with | 0 => Below V.heap.size V X | 1 => Below V.heap.size V X | 2 => Below V.heap.size V X | 3 => Below V.heap.size V X | 4 => Below V.heap.size V X | 5 => Below V.heap.size V X | 6 => Below V.heap.size V X | 7 => Below V.heap.size V X | 8 => Below V.heap.size V X | 9 => Below V.heap.size V X | 10 => Below V.heap.size V X | 11 => Below V.heap.size V X | 12 => Below V.heap.size V X | 13 => Below V.heap.size V X | 14 => Below V.heap.size V X | 15 => Below V.heap.size V X | 16 => Below V.heap.size V X | 17 => Below V.heap.size V X | 18 => Below V.heap.size V X | 19 => Below V.heap.size V X | 20 => Below V.heap.size V X | _ => Below V.heap.size V X) (fun s => fun i_ => match i_ with | 0 => .int .i64 ((N : Nat) : Int) | 1 => .slice ia m ic | 2 => .int .i64 ((m : Nat) : Int) | 3 => .int .i64 ((m + 1 : Nat) : Int) | 4 => .bool true | 5 => .bool true | 6 => .int .i64 ((N : Nat) : Int) | 7 => .bool true | 8 => .bool true | 9 => .slice ia m ic | 10 => .int .i64 ((m : Nat) : Int) | 11 => .bool false | 12 => .bool false | 13 => .bool true | 14 => .bool true | 15 => .bool true | 16 => undef | 17 => undef | 18 => undef | 19 => undef | 20 => .bool true | _ => undef) () A.1 (by kernel_rfl) (by decide) (by decide) (BB) ?_ ?_
      · intro i_ hi_ s a X hf hv hn hS
        match i_, hi_ with
        | 0, _ => exact stepV rfl rfl (execMvB rfl ((hf 0 (by decide)).trans t0)) ⟨s, ⟨_, rfl, rfl⟩, hS, fun _ _ => rfl⟩
        | 1, _ => exact stepV rfl rfl (execMvB rfl ((hf 1 (by decide)).trans t1)) ⟨s, ⟨_, rfl, rfl⟩, hS, fun _ _ => rfl⟩
        | 2, _ => exact stepV rfl rfl (execLenI (len := m) rfl (hv 1 (by omega) _ rfl _ rfl) ((FI.on hS)).shp) ⟨s, ⟨_, rfl, rfl⟩, hS, fun _ _ => rfl⟩
        | 3, _ => exact stepV rfl rfl (execAd8 (p := m) (q := 1) rfl (hv 2 (by omega) _ rfl _ rfl) rfl (by omega)) ⟨s, ⟨_, rfl, rfl⟩, hS, fun _ _ => rfl⟩
        | 4, _ => exact stepV rfl rfl (execDec (execNeN (p := N) (q := m + 1) rfl (hv 0 (by omega) _ rfl _ rfl) (hv 3 (by omega) _ rfl _ rfl)) (decide_eq_true (by omega))) ⟨s, ⟨_, rfl, rfl⟩, hS, fun _ _ => rfl⟩
        | 5, _ => exact stepV rfl rfl (execMvB rfl (hv 4 (by omega) _ rfl _ rfl)) ⟨s, ⟨_, rfl, rfl⟩, hS, fun _ _ => rfl⟩
        | 6, _ => exact stepV rfl (wantedOf rfl (yieldedAt rfl rfl (show a.eval (.tmp 18) = .bool true from (hv 5 (by omega) _ rfl _ rfl)))) (execMvB rfl ((hf 0 (by decide)).trans t0)) ⟨s, ⟨_, rfl, rfl⟩, hS, fun _ _ => rfl⟩
        | 7, _ => exact stepV rfl (wantedOf rfl (yieldedAt rfl rfl (show a.eval (.tmp 18) = .bool true from (hv 5 (by omega) _ rfl _ rfl)))) (execDec (execEqN (p := N) (q := 0) rfl (hv 6 (by omega) _ rfl _ rfl) rfl) (decide_eq_true (by omega))) ⟨s, ⟨_, rfl, rfl⟩, hS, fun _ _ => rfl⟩
        | 8, _ => exact stepV rfl (wantedOf rfl (yieldedAt rfl rfl (show a.eval (.tmp 18) = .bool true from (hv 5 (by omega) _ rfl _ rfl)))) (execMvB rfl (hv 7 (by omega) _ rfl _ rfl)) ⟨s, ⟨_, rfl, rfl⟩, hS, fun _ _ => rfl⟩
        | 9, _ => exact stepV rfl (wantedOf rfl (yieldedAt rfl rfl (show a.eval (.tmp 21) = .bool true from (hv 8 (by omega) _ rfl _ rfl)))) (execMvB rfl ((hf 1 (by decide)).trans t1)) ⟨s, ⟨_, rfl, rfl⟩, hS, fun _ _ => rfl⟩
        | 10, _ => exact stepV rfl (wantedOf rfl (yieldedAt rfl rfl (show a.eval (.tmp 21) = .bool true from (hv 8 (by omega) _ rfl _ rfl)))) (execLenI (len := m) rfl (hv 9 (by omega) _ rfl _ rfl) ((FI.on hS)).shp) ⟨s, ⟨_, rfl, rfl⟩, hS, fun _ _ => rfl⟩
        | 11, _ => exact stepV rfl (wantedOf rfl (yieldedAt rfl rfl (show a.eval (.tmp 21) = .bool true from (hv 8 (by omega) _ rfl _ rfl)))) (execDec (execEqN (p := m) (q := 0) rfl (hv 10 (by omega) _ rfl _ rfl) rfl) (decide_eq_false (by omega))) ⟨s, ⟨_, rfl, rfl⟩, hS, fun _ _ => rfl⟩
        | 12, _ => exact stepV rfl (wantedOf rfl (yieldedAt rfl rfl (show a.eval (.tmp 18) = .bool true from (hv 5 (by omega) _ rfl _ rfl)))) (execPickT rfl (hv 8 (by omega) _ rfl _ rfl) (hv 11 (by omega) _ rfl _ rfl)) ⟨s, ⟨_, rfl, rfl⟩, hS, fun _ _ => rfl⟩
        | 13, _ => exact stepV rfl (wantedOf rfl (yieldedAt rfl rfl (show a.eval (.tmp 18) = .bool true from (hv 5 (by omega) _ rfl _ rfl)))) (execNot8 rfl (hv 12 (by omega) _ rfl _ rfl)) ⟨s, ⟨_, rfl, rfl⟩, hS, fun _ _ => rfl⟩
        | 14, _ => exact stepV rfl rfl (execPickT rfl (hv 5 (by omega) _ rfl _ rfl) (hv 13 (by omega) _ rfl _ rfl)) ⟨s, ⟨_, rfl, rfl⟩, hS, fun _ _ => rfl⟩
        | 15, _ => exact stepV rfl rfl (execMvB rfl (hv 14 (by omega) _ rfl _ rfl)) ⟨s, ⟨_, rfl, rfl⟩, hS, fun _ _ => rfl⟩
        | 16, _ => exact stepU rfl (unwantedOf rfl (yieldedAt rfl rfl (show a.eval (.tmp 28) = .bool (!false) from (hv 15 (by omega) _ rfl _ rfl)))) ⟨s, ⟨_, rfl, rfl⟩, hS, fun _ _ => rfl⟩
        | 17, _ => exact stepU rfl (unwantedOf rfl (yieldedAt rfl rfl (show a.eval (.tmp 28) = .bool (!false) from (hv 15 (by omega) _ rfl _ rfl)))) ⟨s, ⟨_, rfl, rfl⟩, hS, fun _ _ => rfl⟩
        | 18, _ => exact stepU rfl (unwantedOf rfl (yieldedAt rfl rfl (show a.eval (.tmp 28) = .bool (!false) from (hv 15 (by omega) _ rfl _ rfl)))) ⟨s, ⟨_, rfl, rfl⟩, hS, fun _ _ => rfl⟩
        | 19, _ => exact stepU rfl (unwantedOf rfl (yieldedAt rfl rfl (show a.eval (.tmp 28) = .bool (!false) from (hv 15 (by omega) _ rfl _ rfl)))) ⟨s, ⟨_, rfl, rfl⟩, hS, fun _ _ => rfl⟩
        | 20, _ => exact stepV rfl rfl (execPickT rfl (hv 15 (by omega) _ rfl _ rfl) rfl) ⟨s, ⟨_, rfl, rfl⟩, hS, fun _ _ => rfl⟩
        | k_ + 21, h_ => exact absurd h_ (by simp)
      rintro _ a X3 h1 h2 h3 h4 hS
      clear BB
      replace hS : Below V.heap.size V X3 := hS
      have BB := hS
      clear hS
      replace t0 := (h3 0 (by decide)).trans t0
      replace t1 := (h3 1 (by decide)).trans t1
      have t33 : a.eval (.tmp 33) = .bool true := h4 20 _ rfl _ rfl
      replace A := (⟨h1, h2.trans A.2⟩ : a.tmps.size = 66 ∧ a.defers = [])
      clear h1 h2 h3 h4
      refine wp_cond_true t33 ?_
      refine wp_seq ?_
      refine wp_region_sq (σ := Unit) 66 [(0, 4), (1, 5)] (fun j_ s X => match j_ with | 0 => Below V.heap.size V X | 1 => Below V.heap.size V X | _ => Below V.heap.size V X) (fun s => fun i_ => match i_ with | 0 => .slice none 0 0 | 1 => .int .i64 ((110 : Nat) : Int) | _ => undef) () A.1 (by kernel_rfl) (by decide) (by decide) (BB) ?_ ?_
      · intro i_ hi_ s a X hf hv hn hS
        match i_, hi_ with
        | 0, _ => exact stepV rfl rfl (execAsgB rfl rfl) ⟨s, ⟨_, rfl, rfl⟩, hS, fun _ _ => rfl⟩
        | 1, _ => exact stepV rfl rfl (execAsgB rfl rfl) ⟨s, ⟨_, rfl, rfl⟩, hS, fun _ _ => rfl⟩
        | k_ + 2, h_ => exact absurd h_ (by simp)
      rintro _ a X4 h1 h2 h3 h4 hS
      clear BB
      replace hS : Below V.heap.size V X4 := hS
      have BB := hS
      clear hS
      have t4 : a.eval (.tmp 4) = .slice none 0 0 := h4 0 _ rfl _ rfl
      have t5 : a.eval (.tmp 5) = .int .i64 ((110 : Nat) : Int) := h4 1 _ rfl _ rfl
      replace A := (⟨h1, h2.trans A.2⟩ : a.tmps.size = 66 ∧ a.defers = [])
      clear h1 h2 h3 h4
      clear t0 t1
      have hE : frE (N : Int) d m = 110 := frE_no (fun q => h1 q.1)
      rw [hE, zl_no (by decide)]
      refine wp_ret ?_
      repeat (first | refine ret_in ?_ | refine ret_then ?_)
      refine bodyPost_ret (results_tmp2 rfl _ _ _) A.2 ⟨_, ?_, World.ownsRow_nil _ _ _ _, BB⟩
      show Ending.returned (.tuple #[a.eval (.tmp 4), a.eval (.tmp 5)]) = _
      rw [t4, t5]
    · refine wp_region_sq (σ := Unit) 66 [(0, 13), (1, 14), (2, 15), (3, 16), (4, 17), (5, 18), (6, 19), (7, 20), (8, 21), (9, 22), (10, 23), (11, 24), (12, 25), (13, 26), (14, 27), (15, 28), (16, 29), (17, 30), (18, 31), (19, 32), (20, 33)] (fun j_ s X => match j_ with | 0 => Below V.heap.size V X | 1 => Below V.heap.size V X | 2 => Below V.heap.size V X | 3 => Below V.heap.size V X | 4 => Below V.heap.size V X | 5 => Below V.heap.size V X | 6 => Below V.heap.size V X | 7 => Below V.heap.size V X | 8 => Below V.heap.size V X | 9 => Below V.heap.size V X | 10 => Below V.heap.size V X | 11 => Below V.heap.size V X | 12 => Below V.heap.size V X | 13 => Below V.heap.size V X | 14 => Below V.heap.size V X | 15 => Below V.heap.size V X | 16 => Below V.heap.size V X | 17 => Below V.heap.size V X | 18 => Below V.heap.size V X | 19 => Below V.heap.size V X | 20 => Below V.heap.size V X | _ => Below V.heap.size V X) (fun s => fun i_ => match i_ with | 0 => .int .i64 ((N : Nat) : Int) | 1 => .slice ia m ic | 2 => .int .i64 ((m : Nat) : Int) | 3 => .int .i64 ((m + 1 : Nat) : Int) | 4 => .bool true | 5 => .bool true | 6 => .int .i64 ((N : Nat) : Int) | 7 => .bool false | 8 => .bool false | 9 => undef | 10 => undef | 11 => undef | 12 => .bool false | 13 => .bool true | 14 => .bool true | 15 => .bool true | 16 => undef | 17 => undef | 18 => undef | 19 => undef | 20 => .bool true | _ => undef) () A.1 (by kernel_rfl) (by decide) (by decide) (BB) ?_ ?_
      · intro i_ hi_ s a X hf hv hn hS
        match i_, hi_ with
        | 0, _ => exact stepV rfl rfl (execMvB rfl ((hf 0 (by decide)).trans t0)) ⟨s, ⟨_, rfl, rfl⟩, hS, fun _ _ => rfl⟩
        | 1, _ => exact stepV rfl rfl (execMvB rfl ((hf 1 (by decide)).trans t1)) ⟨s, ⟨_, rfl, rfl⟩, hS, fun _ _ => rfl⟩
        | 2, _ => exact stepV rfl rfl (execLenI (len := m) rfl (hv 1 (by omega) _ rfl _ rfl) ((FI.on hS)).shp) ⟨s, ⟨_, rfl, rfl⟩, hS, fun _ _ => rfl⟩
        | 3, _ => exact stepV rfl rfl (execAd8 (p := m) (q := 1) rfl (hv 2 (by omega) _ rfl _ rfl) rfl (by omega)) ⟨s, ⟨_, rfl, rfl⟩, hS, fun _ _ => rfl⟩
        | 4, _ => exact stepV rfl rfl (execDec (execNeN (p := N) (q := m + 1) rfl (hv 0 (by omega) _ rfl _ rfl) (hv 3 (by omega) _ rfl _ rfl)) (decide_eq_true (by omega))) ⟨s, ⟨_, rfl, rfl⟩, hS, fun _ _ => rfl⟩
        | 5, _ => exact stepV rfl rfl (execMvB rfl (hv 4 (by omega) _ rfl _ rfl)) ⟨s, ⟨_, rfl, rfl⟩, hS, fun _ _ => rfl⟩
        | 6, _ => exact stepV rfl (wantedOf rfl (yieldedAt rfl rfl (show a.eval (.tmp 18) = .bool true from (hv 5 (by omega) _ rfl _ rfl)))) (execMvB rfl ((hf 0 (by decide)).trans t0)) ⟨s, ⟨_, rfl, rfl⟩, hS, fun _ _ => rfl⟩
        | 7, _ => exact stepV rfl (wantedOf rfl (yieldedAt rfl rfl (show a.eval (.tmp 18) = .bool true from (hv 5 (by omega) _ rfl _ rfl)))) (execDec (execEqN (p := N) (q := 0) rfl (hv 6 (by omega) _ rfl _ rfl) rfl) (decide_eq_false (by omega))) ⟨s, ⟨_, rfl, rfl⟩, hS, fun _ _ => rfl⟩
        | 8, _ => exact stepV rfl (wantedOf rfl (yieldedAt rfl rfl (show a.eval (.tmp 18) = .bool true from (hv 5 (by omega) _ rfl _ rfl)))) (execMvB rfl (hv 7 (by omega) _ rfl _ rfl)) ⟨s, ⟨_, rfl, rfl⟩, hS, fun _ _ => rfl⟩
        | 9, _ => exact stepU rfl (unwantedOf rfl (yieldedAt rfl rfl (show a.eval (.tmp 21) = .bool (!true) from (hv 8 (by omega) _ rfl _ rfl)))) ⟨s, ⟨_, rfl, rfl⟩, hS, fun _ _ => rfl⟩
        | 10, _ => exact stepU rfl (unwantedOf rfl (yieldedAt rfl rfl (show a.eval (.tmp 21) = .bool (!true) from (hv 8 (by omega) _ rfl _ rfl)))) ⟨s, ⟨_, rfl, rfl⟩, hS, fun _ _ => rfl⟩
        | 11, _ => exact stepU rfl (unwantedOf rfl (yieldedAt rfl rfl (show a.eval (.tmp 21) = .bool (!true) from (hv 8 (by omega) _ rfl _ rfl)))) ⟨s, ⟨_, rfl, rfl⟩, hS, fun _ _ => rfl⟩
        | 12, _ => exact stepV rfl (wantedOf rfl (yieldedAt rfl rfl (show a.eval (.tmp 18) = .bool true from (hv 5 (by omega) _ rfl _ rfl)))) (execPickF rfl (hv 8 (by omega) _ rfl _ rfl) rfl) ⟨s, ⟨_, rfl, rfl⟩, hS, fun _ _ => rfl⟩
        | 13, _ => exact stepV rfl (wantedOf rfl (yieldedAt rfl rfl (show a.eval (.tmp 18) = .bool true from (hv 5 (by omega) _ rfl _ rfl)))) (execNot8 rfl (hv 12 (by omega) _ rfl _ rfl)) ⟨s, ⟨_, rfl, rfl⟩, hS, fun _ _ => rfl⟩
        | 14, _ => exact stepV rfl rfl (execPickT rfl (hv 5 (by omega) _ rfl _ rfl) (hv 13 (by omega) _ rfl _ rfl)) ⟨s, ⟨_, rfl, rfl⟩, hS, fun _ _ => rfl⟩
        | 15, _ => exact stepV rfl rfl (execMvB rfl (hv 14 (by omega) _ rfl _ rfl)) ⟨s, ⟨_, rfl, rfl⟩, hS, fun _ _ => rfl⟩
        | 16, _ => exact stepU rfl (unwantedOf rfl (yieldedAt rfl rfl (show a.eval (.tmp 28) = .bool (!false) from (hv 15 (by omega) _ rfl _ rfl)))) ⟨s, ⟨_, rfl, rfl⟩, hS, fun _ _ => rfl⟩
        | 17, _ => exact stepU rfl (unwantedOf rfl (yieldedAt rfl rfl (show a.eval (.tmp 28) = .bool (!false) from (hv 15 (by omega) _ rfl _ rfl)))) ⟨s, ⟨_, rfl, rfl⟩, hS, fun _ _ => rfl⟩
        | 18, _ => exact stepU rfl (unwantedOf rfl (yieldedAt rfl rfl (show a.eval (.tmp 28) = .bool (!false) from (hv 15 (by omega) _ rfl _ rfl)))) ⟨s, ⟨_, rfl, rfl⟩, hS, fun _ _ => rfl⟩
        | 19, _ => exact stepU rfl (unwantedOf rfl (yieldedAt rfl rfl (show a.eval (.tmp 28) = .bool (!false) from (hv 15 (by omega) _ rfl _ rfl)))) ⟨s, ⟨_, rfl, rfl⟩, hS, fun _ _ => rfl⟩
        | 20, _ => exact stepV rfl rfl (execPickT rfl (hv 15 (by omega) _ rfl _ rfl) rfl) ⟨s, ⟨_, rfl, rfl⟩, hS, fun _ _ => rfl⟩
        | k_ + 21, h_ => exact absurd h_ (by simp)
      rintro _ a X3 h1 h2 h3 h4 hS
      clear BB
      replace hS : Below V.heap.size V X3 := hS
      have BB := hS
      clear hS
      replace t0 := (h3 0 (by decide)).trans t0
      replace t1 := (h3 1 (by decide)).trans t1
      have t33 : a.eval (.tmp 33) = .bool true := h4 20 _ rfl _ rfl
      replace A := (⟨h1, h2.trans A.2⟩ : a.tmps.size = 66 ∧ a.defers = [])
      clear h1 h2 h3 h4
      refine wp_cond_true t33 ?_
      refine wp_seq ?_
      refine wp_region_sq (σ := Unit) 66 [(0, 4), (1, 5)] (fun j_ s X => match j_ with | 0 => Below V.heap.size V X | 1 => Below V.heap.size V X | _ => Below V.heap.size V X) (fun s => fun i_ => match i_ with | 0 => .slice none 0 0 | 1 => .int .i64 ((110 : Nat) : Int) | _ => undef) () A.1 (by kernel_rfl) (by decide) (by decide) (BB) ?_ ?_
      · intro i_ hi_ s a X hf hv hn hS
        match i_, hi_ with
        | 0, _ => exact stepV rfl rfl (execAsgB rfl rfl) ⟨s, ⟨_, rfl, rfl⟩, hS, fun _ _ => rfl⟩
        | 1, _ => exact stepV rfl rfl (execAsgB rfl rfl) ⟨s, ⟨_, rfl, rfl⟩, hS, fun _ _ => rfl⟩
        | k_ + 2, h_ => exact absurd h_ (by simp)
      rintro _ a X4 h1 h2 h3 h4 hS
      clear BB
      replace hS : Below V.heap.size V X4 := hS
      have BB := hS
      clear hS
      have t4 : a.eval (.tmp 4) = .slice none 0 0 := h4 0 _ rfl _ rfl
      have t5 : a.eval (.tmp 5) = .int .i64 ((110 : Nat) : Int) := h4 1 _ rfl _ rfl
      replace A := (⟨h1, h2.trans A.2⟩ : a.tmps.size = 66 ∧ a.defers = [])
      clear h1 h2 h3 h4
      clear t0 t1
      have hE : frE (N : Int) d m = 110 := frE_no (fun q => h1 q.1)
      rw [hE, zl_no (by decide)]
      refine wp_ret ?_
      repeat (first | refine ret_in ?_ | refine ret_then ?_)
      refine bodyPost_ret (results_tmp2 rfl _ _ _) A.2 ⟨_, ?_, World.ownsRow_nil _ _ _ _, BB⟩
      show Ending.returned (.tuple #[a.eval (.tmp 4), a.eval (.tmp 5)]) = _
      rw [t4, t5]
end Go.Proofs.Ythiakjmjpchckaa.Prm
