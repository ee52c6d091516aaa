import Derived.Test.YthiakjmjpchckaaP9h
namespace Go.Proofs.Ythiakjmjpchckaa.Prm
open Go.RowKit Gf8 Aes By8 Cel Cf Tap Drw
/- Package perm as it landed: Check, Identity, drawsFor, Bounds, places, taken of ints, areBelow, countBelow. Written by tools/mkM9a.py. -/

theorem own_fill {W : World} {B n g cap i : Nat} {F : Nat → Int} {z : Int} (h : W.ownsRow B 3 1 (.slice (some ⟨g, 0, none⟩) n cap) n (intsL n (fun j => if j < i then F j else 0))) (e : z = F i) : (W.setCell ⟨g, 0 + i, none⟩ (.int .i64 z)).ownsRow B 3 1 (.slice (some ⟨g, 0, none⟩) n cap) n (intsL n (fun j => if j < (i + 1) then F j else 0)) := by
  have h2 := own_setF (k := i) z h
  rw [intsL_congr (g := fun j => if j < (i + 1) then F j else 0) (fun j _ => ?_)] at h2
  · exact h2
  · by_cases q : j = i
    · subst q
      rw [if_pos rfl, if_pos (by omega), e]
    · rw [if_neg q]
      by_cases q2 : j < i
      · rw [if_pos q2, if_pos (by omega)]
      · rw [if_neg q2, if_neg (by omega)]
theorem execMax0 {o : Oper} {a : Act} {w : World} {x : Operand} {k : Int} {n : Nat} (ho : o.op = .call { callee := .builtin .max, args := #[x, .const (.int .i64 0)], argTypes := #[3, 3] }) (hx : a.eval x = .int .i64 k) (hn : k.toNat = n) : (execOp a.eval o).run Try.prog w = .ok (.value (.int .i64 (n : Int))) w := by
  subst hn
  unfold execOp
  simp only [ho, resolve, invoke, builtin, List.map_toArray, List.map_cons, List.map_nil, hx]
  simp [go_sem]
  split <;> omega
set_option maxRecDepth 100000 in
set_option maxHeartbeats 4000000 in
/-- The program's Check. -/
theorem pcheck (f : Nat → Int) (n : Nat) (v : Value) (V : World) (hv : SliceI V v n f) (hn : n ≤ 17592186044416) :
    Calls Try.prog 10 #[v] V fun e w' => e = .returned (.int .i64 ((pE f n : Nat) : Int)) ∧ Below V.heap.size V w' := by
  obtain ⟨ia, ic, rfl, -, -, hsh⟩ := id hv.shape
  have FI := hv
  go_enter Try.func10, Try.ntmps10
  refine wp_seq ?_
  refine wp_region_sqK 33 [(0, 2)] (fun i_ => match i_ with | 0 => .int .i64 ((0 : Nat) : Int) | _ => undef) rfl (by kernel_rfl) (by decide) (by decide) ?_ ?_
  · intro i_ hi_ a hf hv hn
    match i_, hi_ with
    | 0, _ => exact stepV rfl rfl (execAsgB rfl rfl) ⟨⟨_, rfl, rfl⟩, rfl⟩
    | k_ + 1, h_ => exact absurd h_ (by simp)
  intro a h1 h2 h3 h4
  have t0 : a.eval (.tmp 0) = .slice ia n ic := (h3 0 (by decide)).trans rfl
  have A : a.tmps.size = 33 ∧ a.defers = [] := ⟨h1, h2⟩
  have BW : Below V.heap.size V V := Below.refl _ _
  clear h1 h2 h3 h4
  have BB := BW
  refine wp_seq ?_
  refine wp_region_sq (σ := Nat) 33 [(0, 6), (1, 7), (2, 8), (3, 3)] (fun j_ s X => match j_ with | 0 => Below V.heap.size V X | 1 => Below V.heap.size V X | 2 => Below V.heap.size V X | 3 => Below V.heap.size V X ∧ (X.ownsRow V.heap.size 4 1 (.slice (some ⟨s, 0, none⟩) n n) (n) (boolsL (n) (fun j => inI f (j : Int) 0))) ∧ (V.heap.size ≤ s) | _ => Below V.heap.size V X ∧ (X.ownsRow V.heap.size 4 1 (.slice (some ⟨s, 0, none⟩) n n) (n) (boolsL (n) (fun j => inI f (j : Int) 0))) ∧ (V.heap.size ≤ s)) (fun s => fun i_ => match i_ with | 0 => .slice ia n ic | 1 => .int .i64 ((n : Nat) : Int) | 2 => .slice (some ⟨s, 0, none⟩) n n | 3 => .slice (some ⟨s, 0, none⟩) n n | _ => undef) 0 A.1 (by kernel_rfl) (by decide) (by decide) (BB) ?_ ?_
  · intro i_ hi_ s a X hf hv hn hS
    match i_, hi_ with
    | 0, _ => exact stepV rfl rfl (execMvB rfl ((hf 0 (by decide)).trans t0)) ⟨s, ⟨_, rfl, rfl⟩, hS, fun _ _ => rfl⟩
    | 1, _ => exact stepV rfl rfl (execLenI (len := n) rfl (hv 0 (by omega) _ rfl _ rfl) ((FI.on hS)).shp) ⟨s, ⟨_, rfl, rfl⟩, hS, fun _ _ => rfl⟩
    | 2, _ =>
      refine stepV rfl rfl (execMkBl rfl (hv 1 (by omega) _ rfl _ rfl) (hv 1 (by omega) _ rfl _ rfl) (by omega)) ⟨X.heap.size, ⟨_, rfl, rfl⟩, ⟨(hS).trans (((belNew X _)).mono (hS).size), ownD_base (own_mkBl X n _ (by omega) (fun _ _ => rfl)) (hS).size, (hS).size⟩, fun i hi => ?_⟩
      match i, hi with
      | 0, _ => rfl
      | 1, _ => rfl
      | n_ + 2, h_ => omega
    | 3, _ => exact stepV rfl rfl (execAsgB rfl (hv 2 (by omega) _ rfl _ rfl)) ⟨s, ⟨_, rfl, rfl⟩, hS, fun _ _ => rfl⟩
    | k_ + 4, h_ => exact absurd h_ (by simp)
  rintro g3 a X1 h1 h2 h3 h4 hS
  clear BB
  replace hS : Below V.heap.size V X1 ∧ (X1.ownsRow V.heap.size 4 1 (.slice (some ⟨g3, 0, none⟩) n n) (n) (boolsL (n) (fun j => inI f (j : Int) 0))) ∧ (V.heap.size ≤ g3) := hS
  obtain ⟨BB, FXs, Fg⟩ := hS
  replace t0 := (h3 0 (by decide)).trans t0
  have t3 : a.eval (.tmp 3) = .slice (some ⟨g3, 0, none⟩) n n := h4 3 _ rfl _ rfl
  replace A := (⟨h1, h2.trans A.2⟩ : a.tmps.size = 33 ∧ a.defers = [])
  clear h1 h2 h3 h4
  refine wp_seq ?_
  refine wp_seq ?_
  refine wp_region_sq (σ := Unit) 33 [(0, 9), (1, 10), (2, 11)] (fun j_ s X => match j_ with | 0 => Below V.heap.size V X ∧ (X.ownsRow V.heap.size 4 1 (.slice (some ⟨g3, 0, none⟩) n n) (n) (boolsL (n) (fun j => inI f (j : Int) 0))) ∧ (V.heap.size ≤ g3) | 1 => Below V.heap.size V X ∧ (X.ownsRow V.heap.size 4 1 (.slice (some ⟨g3, 0, none⟩) n n) (n) (boolsL (n) (fun j => inI f (j : Int) 0))) ∧ (V.heap.size ≤ g3) | 2 => Below V.heap.size V X ∧ (X.ownsRow V.heap.size 4 1 (.slice (some ⟨g3, 0, none⟩) n n) (n) (boolsL (n) (fun j => inI f (j : Int) 0))) ∧ (V.heap.size ≤ g3) | _ => Below V.heap.size V X ∧ (X.ownsRow V.heap.size 4 1 (.slice (some ⟨g3, 0, none⟩) n n) (n) (boolsL (n) (fun j => inI f (j : Int) 0))) ∧ (V.heap.size ≤ g3)) (fun s => fun i_ => match i_ with | 0 => .slice ia n ic | 1 => .int .i64 ((n : Nat) : Int) | 2 => .int .i64 ((0 : Nat) : Int) | _ => undef) () A.1 (by kernel_rfl) (by decide) (by decide) ⟨BB, FXs, Fg⟩ ?_ ?_
  · intro i_ hi_ s a X hf hv hn hS
    match i_, hi_ with
    | 0, _ => exact stepV rfl rfl (execMvB rfl ((hf 0 (by decide)).trans t0)) ⟨s, ⟨_, rfl, rfl⟩, hS, fun _ _ => rfl⟩
    | 1, _ => exact stepV rfl rfl (execLenI (len := n) rfl (hv 0 (by omega) _ rfl _ rfl) ((FI.on hS.1)).shp) ⟨s, ⟨_, rfl, rfl⟩, hS, fun _ _ => rfl⟩
    | 2, _ => exact stepV rfl rfl (execMvB rfl rfl) ⟨s, ⟨_, rfl, rfl⟩, hS, fun _ _ => rfl⟩
    | k_ + 3, h_ => exact absurd h_ (by simp)
  rintro _ a X2 h1 h2 h3 h4 hS
  clear BB
  clear FXs
  clear Fg
  replace hS : Below V.heap.size V X2 ∧ (X2.ownsRow V.heap.size 4 1 (.slice (some ⟨g3, 0, none⟩) n n) (n) (boolsL (n) (fun j => inI f (j : Int) 0))) ∧ (V.heap.size ≤ g3) := hS
  obtain ⟨BB, FXs, Fg⟩ := hS
  replace t0 := (h3 0 (by decide)).trans t0
  replace t3 := (h3 3 (by decide)).trans t3
  have t9 : a.eval (.tmp 9) = .slice ia n ic := h4 0 _ rfl _ rfl
  have t10 : a.eval (.tmp 10) = .int .i64 ((n : Nat) : Int) := h4 1 _ rfl _ rfl
  have t11 : a.eval (.tmp 11) = .int .i64 ((0 : Nat) : Int) := h4 2 _ rfl _ rfl
  replace A := (⟨h1, h2.trans A.2⟩ : a.tmps.size = 33 ∧ a.defers = [])
  clear h1 h2 h3 h4
  refine wp_block ?_
  refine wp_loop (fun a W => ∃ (i : Nat), i ≤ n ∧ (okQ f n i = true) ∧ (a.tmps.size = 33 ∧ a.defers = []) ∧ a.eval (.tmp 0) = .slice ia n ic ∧ a.eval (.tmp 3) = .slice (some ⟨g3, 0, none⟩) n n ∧ a.eval (.tmp 9) = .slice ia n ic ∧ a.eval (.tmp 10) = .int .i64 ((n : Nat) : Int) ∧ a.eval (.tmp 11) = .int .i64 ((i : Nat) : Int) ∧ Below V.heap.size V W ∧ (W.ownsRow V.heap.size 4 1 (.slice (some ⟨g3, 0, none⟩) n n) (n) (boolsL (n) (fun j => inI f (j : Int) i)))) (fun a _ => n - (intOf (a.eval (.tmp 11))).toNat) ⟨0, Nat.zero_le _, rfl, A, t0, t3, t9, t10, t11, BB, FXs⟩ ?_
  clear A t0 t3 t9 t10 t11 BB FXs a
  rintro a XL3 ⟨i, hi, hok, A, t0, t3, t9, t10, t11, BB, FXs⟩
  have es := t11
  refine wp_seq ?_
  refine wp_region_sq (σ := Unit) 33 [(0, 12)] (fun j_ s X => match j_ with | 0 => Below V.heap.size V X ∧ (X.ownsRow V.heap.size 4 1 (.slice (some ⟨g3, 0, none⟩) n n) (n) (boolsL (n) (fun j => inI f (j : Int) i))) | _ => Below V.heap.size V X ∧ (X.ownsRow V.heap.size 4 1 (.slice (some ⟨g3, 0, none⟩) n n) (n) (boolsL (n) (fun j => inI f (j : Int) i)))) (fun s => fun i_ => match i_ with | 0 => .bool (decide (i < n)) | _ => undef) () A.1 (by kernel_rfl) (by decide) (by decide) ⟨BB, FXs⟩ ?_ ?_
  · intro i_ hi_ s a X hf hv hn hS
    match i_, hi_ with
    | 0, _ => exact stepV rfl rfl (execLtW (p := i) (q := n) rfl ((hf 11 (by decide)).trans t11) ((hf 10 (by decide)).trans t10)) ⟨s, ⟨_, rfl, rfl⟩, hS, fun _ _ => rfl⟩
    | k_ + 1, h_ => exact absurd h_ (by simp)
  rintro _ a X3 h1 h2 h3 h4 hS
  clear BB
  clear FXs
  replace hS : Below V.heap.size V X3 ∧ (X3.ownsRow V.heap.size 4 1 (.slice (some ⟨g3, 0, none⟩) n n) (n) (boolsL (n) (fun j => inI f (j : Int) i))) := hS
  obtain ⟨BB, FXs⟩ := hS
  replace t0 := (h3 0 (by decide)).trans t0
  replace t3 := (h3 3 (by decide)).trans t3
  replace t9 := (h3 9 (by decide)).trans t9
  replace t10 := (h3 10 (by decide)).trans t10
  replace t11 := (h3 11 (by decide)).trans t11
  have t12 : a.eval (.tmp 12) = .bool (decide (i < n)) := h4 0 _ rfl _ rfl
  replace A := (⟨h1, h2.trans A.2⟩ : a.tmps.size = 33 ∧ a.defers = [])
  clear h1 h2 h3 h4
  refine wp_seq ?_
  by_cases hlt : i < n
  · rw [decide_eq_true hlt] at t12
    refine wp_cond_true t12 ?_
    refine wp_skip ?_
    clear t12
    refine wp_seq ?_
    refine wp_block ?_
    obtain ⟨ib, io, rfl, hib, hcell⟩ := hsh (by omega)
    have cI : ∀ k, k < n → ∀ X, Below V.heap.size V X → X.cell? ⟨ib, io + k, none⟩ = some (.int .i64 (f k)) := fun k hk X hX => by rw [cell_below hX hib]; exact hcell k hk
    by_cases h1 : f i < 0
    · refine wp_seq ?_
      refine wp_region_sq (σ := Unit) 33 [(0, 13), (1, 14), (2, 5)] (fun j_ s X => match j_ with | 0 => Below V.heap.size V X ∧ (X.ownsRow V.heap.size 4 1 (.slice (some ⟨g3, 0, none⟩) n n) (n) (boolsL (n) (fun j => inI f (j : Int) i))) | 1 => Below V.heap.size V X ∧ (X.ownsRow V.heap.size 4 1 (.slice (some ⟨g3, 0, none⟩) n n) (n) (boolsL (n) (fun j => inI f (j : Int) i))) | 2 => Below V.heap.size V X ∧ (X.ownsRow V.heap.size 4 1 (.slice (some ⟨g3, 0, none⟩) n n) (n) (boolsL (n) (fun j => inI f (j : Int) i))) | _ => Below V.heap.size V X ∧ (X.ownsRow V.heap.size 4 1 (.slice (some ⟨g3, 0, none⟩) n n) (n) (boolsL (n) (fun j => inI f (j : Int) i)))) (fun s => fun i_ => match i_ with | 0 => .pointer (some ⟨ib, io + i, none⟩) | 1 => .int .i64 (f i) | 2 => .int .i64 (f i) | _ => undef) () A.1 (by kernel_rfl) (by decide) (by decide) ⟨BB, FXs⟩ ?_ ?_
      · intro i_ hi_ s a X hf hv hn hS
        match i_, hi_ with
        | 0, _ => exact stepV rfl rfl (execIdxN (k := i) rfl ((hf 9 (by decide)).trans t9) ((hf 11 (by decide)).trans t11) hlt) ⟨s, ⟨_, rfl, rfl⟩, hS, fun _ _ => rfl⟩
        | 1, _ => exact stepV rfl rfl (execLd3 rfl (hv 0 (by omega) _ rfl _ rfl) (cI i hlt X hS.1)) ⟨s, ⟨_, rfl, rfl⟩, hS, fun _ _ => rfl⟩
        | 2, _ => exact stepV rfl rfl (execAsgB rfl (hv 1 (by omega) _ rfl _ rfl)) ⟨s, ⟨_, rfl, rfl⟩, hS, fun _ _ => rfl⟩
        | k_ + 3, h_ => exact absurd h_ (by simp)
      rintro _ a X4 h1 h2 h3 h4 hS
      clear BB
      clear FXs
      replace hS : Below V.heap.size V X4 ∧ (X4.ownsRow V.heap.size 4 1 (.slice (some ⟨g3, 0, none⟩) n n) (n) (boolsL (n) (fun j => inI f (j : Int) i))) := hS
      obtain ⟨BB, FXs⟩ := hS
      replace t0 := (h3 0 (by decide)).trans t0
      replace t3 := (h3 3 (by decide)).trans t3
      replace t9 := (h3 9 (by decide)).trans t9
      replace t10 := (h3 10 (by decide)).trans t10
      replace t11 := (h3 11 (by decide)).trans t11
      have t5 : a.eval (.tmp 5) = .int .i64 (f i) := h4 2 _ rfl _ rfl
      replace A := (⟨h1, h2.trans A.2⟩ : a.tmps.size = 33 ∧ a.defers = [])
      clear h1 h2 h3 h4
      refine wp_seq ?_
      refine wp_seq ?_
      refine wp_region_sq (σ := Unit) 33 [(0, 15), (1, 16), (2, 17), (3, 18), (4, 19), (5, 20), (6, 21), (7, 22), (8, 23), (9, 24), (10, 25), (11, 26), (12, 27), (13, 28)] (fun j_ s X => match j_ with | 0 => Below V.heap.size V X ∧ (X.ownsRow V.heap.size 4 1 (.slice (some ⟨g3, 0, none⟩) n n) (n) (boolsL (n) (fun j => inI f (j : Int) i))) | 1 => Below V.heap.size V X ∧ (X.ownsRow V.heap.size 4 1 (.slice (some ⟨g3, 0, none⟩) n n) (n) (boolsL (n) (fun j => inI f (j : Int) i))) | 2 => Below V.heap.size V X ∧ (X.ownsRow V.heap.size 4 1 (.slice (some ⟨g3, 0, none⟩) n n) (n) (boolsL (n) (fun j => inI f (j : Int) i))) | 3 => Below V.heap.size V X ∧ (X.ownsRow V.heap.size 4 1 (.slice (some ⟨g3, 0, none⟩) n n) (n) (boolsL (n) (fun j => inI f (j : Int) i))) | 4 => Below V.heap.size V X ∧ (X.ownsRow V.heap.size 4 1 (.slice (some ⟨g3, 0, none⟩) n n) (n) (boolsL (n) (fun j => inI f (j : Int) i))) | 5 => Below V.heap.size V X ∧ (X.ownsRow V.heap.size 4 1 (.slice (some ⟨g3, 0, none⟩) n n) (n) (boolsL (n) (fun j => inI f (j : Int) i))) | 6 => Below V.heap.size V X ∧ (X.ownsRow V.heap.size 4 1 (.slice (some ⟨g3, 0, none⟩) n n) (n) (boolsL (n) (fun j => inI f (j : Int) i))) | 7 => Below V.heap.size V X ∧ (X.ownsRow V.heap.size 4 1 (.slice (some ⟨g3, 0, none⟩) n n) (n) (boolsL (n) (fun j => inI f (j : Int) i))) | 8 => Below V.heap.size V X ∧ (X.ownsRow V.heap.size 4 1 (.slice (some ⟨g3, 0, none⟩) n n) (n) (boolsL (n) (fun j => inI f (j : Int) i))) | 9 => Below V.heap.size V X ∧ (X.ownsRow V.heap.size 4 1 (.slice (some ⟨g3, 0, none⟩) n n) (n) (boolsL (n) (fun j => inI f (j : Int) i))) | 10 => Below V.heap.size V X ∧ (X.ownsRow V.heap.size 4 1 (.slice (some ⟨g3, 0, none⟩) n n) (n) (boolsL (n) (fun j => inI f (j : Int) i))) | 11 => Below V.heap.size V X ∧ (X.ownsRow V.heap.size 4 1 (.slice (some ⟨g3, 0, none⟩) n n) (n) (boolsL (n) (fun j => inI f (j : Int) i))) | 12 => Below V.heap.size V X ∧ (X.ownsRow V.heap.size 4 1 (.slice (some ⟨g3, 0, none⟩) n n) (n) (boolsL (n) (fun j => inI f (j : Int) i))) | 13 => Below V.heap.size V X ∧ (X.ownsRow V.heap.size 4 1 (.slice (some ⟨g3, 0, none⟩) n n) (n) (boolsL (n) (fun j => inI f (j : Int) i))) | _ => Below V.heap.size V X ∧ (X.ownsRow V.heap.size 4 1 (.slice (some ⟨g3, 0, none⟩) n n) (n) (boolsL (n) (fun j => inI f (j : Int) i)))) (fun s => fun i_ => match i_ with | 0 => .int .i64 (f i) | 1 => .bool true | 2 => .bool true | 3 => undef | 4 => undef | 5 => undef | 6 => undef | 7 => .bool true | 8 => .bool true | 9 => undef | 10 => undef | 11 => undef | 12 => undef | 13 => .bool true | _ => undef) () A.1 (by kernel_rfl) (by decide) (by decide) ⟨BB, FXs⟩ ?_ ?_
      · intro i_ hi_ s a X hf hv hn hS
        match i_, hi_ with
        | 0, _ => exact stepV rfl rfl (execMvB rfl ((hf 5 (by decide)).trans t5)) ⟨s, ⟨_, rfl, rfl⟩, hS, fun _ _ => rfl⟩
        | 1, _ => exact stepV rfl rfl (execLtCt (p := (f i)) (q := 0) rfl (hv 0 (by omega) _ rfl _ rfl) (by exact h1)) ⟨s, ⟨_, rfl, rfl⟩, hS, fun _ _ => rfl⟩
        | 2, _ => exact stepV rfl rfl (execMvB rfl (hv 1 (by omega) _ rfl _ rfl)) ⟨s, ⟨_, rfl, rfl⟩, hS, fun _ _ => rfl⟩
        | 3, _ => exact stepU rfl (unwantedOf rfl (yieldedAt rfl rfl (show a.eval (.tmp 17) = .bool (!false) from (hv 2 (by omega) _ rfl _ rfl)))) ⟨s, ⟨_, rfl, rfl⟩, hS, fun _ _ => rfl⟩
        | 4, _ => exact stepU rfl (unwantedOf rfl (yieldedAt rfl rfl (show a.eval (.tmp 17) = .bool (!false) from (hv 2 (by omega) _ rfl _ rfl)))) ⟨s, ⟨_, rfl, rfl⟩, hS, fun _ _ => rfl⟩
        | 5, _ => exact stepU rfl (unwantedOf rfl (yieldedAt rfl rfl (show a.eval (.tmp 17) = .bool (!false) from (hv 2 (by omega) _ rfl _ rfl)))) ⟨s, ⟨_, rfl, rfl⟩, hS, fun _ _ => rfl⟩
        | 6, _ => exact stepU rfl (unwantedOf rfl (yieldedAt rfl rfl (show a.eval (.tmp 17) = .bool (!false) from (hv 2 (by omega) _ rfl _ rfl)))) ⟨s, ⟨_, rfl, rfl⟩, hS, fun _ _ => rfl⟩
        | 7, _ => exact stepV rfl rfl (execPickT rfl (hv 2 (by omega) _ rfl _ rfl) rfl) ⟨s, ⟨_, rfl, rfl⟩, hS, fun _ _ => rfl⟩
        | 8, _ => exact stepV rfl rfl (execMvB rfl (hv 7 (by omega) _ rfl _ rfl)) ⟨s, ⟨_, rfl, rfl⟩, hS, fun _ _ => rfl⟩
        | 9, _ => exact stepU rfl (unwantedOf rfl (yieldedAt rfl rfl (show a.eval (.tmp 23) = .bool (!false) from (hv 8 (by omega) _ rfl _ rfl)))) ⟨s, ⟨_, rfl, rfl⟩, hS, fun _ _ => rfl⟩
        | 10, _ => exact stepU rfl (unwantedOf rfl (yieldedAt rfl rfl (show a.eval (.tmp 23) = .bool (!false) from (hv 8 (by omega) _ rfl _ rfl)))) ⟨s, ⟨_, rfl, rfl⟩, hS, fun _ _ => rfl⟩
        | 11, _ => exact stepU rfl (unwantedOf rfl (yieldedAt rfl rfl (show a.eval (.tmp 23) = .bool (!false) from (hv 8 (by omega) _ rfl _ rfl)))) ⟨s, ⟨_, rfl, rfl⟩, hS, fun _ _ => rfl⟩
        | 12, _ => exact stepU rfl (unwantedOf rfl (yieldedAt rfl rfl (show a.eval (.tmp 23) = .bool (!false) from (hv 8 (by omega) _ rfl _ rfl)))) ⟨s, ⟨_, rfl, rfl⟩, hS, fun _ _ => rfl⟩
        | 13, _ => exact stepV rfl rfl (execPickT rfl (hv 8 (by omega) _ rfl _ rfl) rfl) ⟨s, ⟨_, rfl, rfl⟩, hS, fun _ _ => rfl⟩
        | k_ + 14, h_ => exact absurd h_ (by simp)
      rintro _ a X5 h1 h2 h3 h4 hS
      clear BB
      clear FXs
      replace hS : Below V.heap.size V X5 ∧ (X5.ownsRow V.heap.size 4 1 (.slice (some ⟨g3, 0, none⟩) n n) (n) (boolsL (n) (fun j => inI f (j : Int) i))) := hS
      obtain ⟨BB, FXs⟩ := hS
      replace t0 := (h3 0 (by decide)).trans t0
      replace t3 := (h3 3 (by decide)).trans t3
      replace t9 := (h3 9 (by decide)).trans t9
      replace t10 := (h3 10 (by decide)).trans t10
      replace t11 := (h3 11 (by decide)).trans t11
      replace t5 := (h3 5 (by decide)).trans t5
      have t28 : a.eval (.tmp 28) = .bool true := h4 13 _ rfl _ rfl
      replace A := (⟨h1, h2.trans A.2⟩ : a.tmps.size = 33 ∧ a.defers = [])
      clear h1 h2 h3 h4
      refine wp_cond_true t28 ?_
      refine wp_seq ?_
      refine wp_region_sq (σ := Unit) 33 [(0, 2)] (fun j_ s X => match j_ with | 0 => Below V.heap.size V X ∧ (X.ownsRow V.heap.size 4 1 (.slice (some ⟨g3, 0, none⟩) n n) (n) (boolsL (n) (fun j => inI f (j : Int) i))) | _ => Below V.heap.size V X ∧ (X.ownsRow V.heap.size 4 1 (.slice (some ⟨g3, 0, none⟩) n n) (n) (boolsL (n) (fun j => inI f (j : Int) i)))) (fun s => fun i_ => match i_ with | 0 => .int .i64 ((110 : Nat) : Int) | _ => undef) () A.1 (by kernel_rfl) (by decide) (by decide) ⟨BB, FXs⟩ ?_ ?_
      · intro i_ hi_ s a X hf hv hn hS
        match i_, hi_ with
        | 0, _ => exact stepV rfl rfl (execAsgB rfl rfl) ⟨s, ⟨_, rfl, rfl⟩, hS, fun _ _ => rfl⟩
        | k_ + 1, h_ => exact absurd h_ (by simp)
      rintro _ a X6 h1 h2 h3 h4 hS
      clear BB
      clear FXs
      replace hS : Below V.heap.size V X6 ∧ (X6.ownsRow V.heap.size 4 1 (.slice (some ⟨g3, 0, none⟩) n n) (n) (boolsL (n) (fun j => inI f (j : Int) i))) := hS
      obtain ⟨BB, FXs⟩ := hS
      have t2 : a.eval (.tmp 2) = .int .i64 ((110 : Nat) : Int) := h4 0 _ rfl _ rfl
      replace A := (⟨h1, h2.trans A.2⟩ : a.tmps.size = 33 ∧ a.defers = [])
      clear h1 h2 h3 h4
      clear t0 t3 t9 t10 t11 t5 t28
      have hE : pE f n = 110 := pE_bad hlt (Or.inl h1)
      rw [hE]
      refine wp_ret ?_
      repeat (first | refine ret_in ?_ | refine ret_then ?_)
      refine bodyPost_ret (results_tmp rfl _ _ _) A.2 ⟨?_, BB⟩
      show Ending.returned (a.eval (.tmp 2)) = _
      rw [t2]
    · by_cases h2 : (n : Int) ≤ f i
      · obtain ⟨w, ew⟩ : ∃ w : Nat, f i = w := ⟨(f i).toNat, by omega⟩
        have cW : ∀ X, Below V.heap.size V X → X.cell? ⟨ib, io + i, none⟩ = some (.int .i64 ((w : Nat) : Int)) := fun X hX => by rw [cI i hlt X hX, ew]
        refine wp_seq ?_
        refine wp_region_sq (σ := Unit) 33 [(0, 13), (1, 14), (2, 5)] (fun j_ s X => match j_ with | 0 => Below V.heap.size V X ∧ (X.ownsRow V.heap.size 4 1 (.slice (some ⟨g3, 0, none⟩) n n) (n) (boolsL (n) (fun j => inI f (j : Int) i))) | 1 => Below V.heap.size V X ∧ (X.ownsRow V.heap.size 4 1 (.slice (some ⟨g3, 0, none⟩) n n) (n) (boolsL (n) (fun j => inI f (j : Int) i))) | 2 => Below V.heap.size V X ∧ (X.ownsRow V.heap.size 4 1 (.slice (some ⟨g3, 0, none⟩) n n) (n) (boolsL (n) (fun j => inI f (j : Int) i))) | _ => Below V.heap.size V X ∧ (X.ownsRow V.heap.size 4 1 (.slice (some ⟨g3, 0, none⟩) n n) (n) (boolsL (n) (fun j => inI f (j : Int) i)))) (fun s => fun i_ => match i_ with | 0 => .pointer (some ⟨ib, io + i, none⟩) | 1 => .int .i64 ((w : Nat) : Int) | 2 => .int .i64 ((w : Nat) : Int) | _ => undef) () A.1 (by kernel_rfl) (by decide) (by decide) ⟨BB, FXs⟩ ?_ ?_
        · intro i_ hi_ s a X hf hv hn hS
          match i_, hi_ with
          | 0, _ => exact stepV rfl rfl (execIdxN (k := i) rfl ((hf 9 (by decide)).trans t9) ((hf 11 (by decide)).trans t11) hlt) ⟨s, ⟨_, rfl, rfl⟩, hS, fun _ _ => rfl⟩
          | 1, _ => exact stepV rfl rfl (execLd3 rfl (hv 0 (by omega) _ rfl _ rfl) (cW X hS.1)) ⟨s, ⟨_, rfl, rfl⟩, hS, fun _ _ => rfl⟩
          | 2, _ => exact stepV rfl rfl (execAsgB rfl (hv 1 (by omega) _ rfl _ rfl)) ⟨s, ⟨_, rfl, rfl⟩, hS, fun _ _ => rfl⟩
          | k_ + 3, h_ => exact absurd h_ (by simp)
        rintro _ a X4 h1 h2 h3 h4 hS
        clear BB
        clear FXs
        replace hS : Below V.heap.size V X4 ∧ (X4.ownsRow V.heap.size 4 1 (.slice (some ⟨g3, 0, none⟩) n n) (n) (boolsL (n) (fun j => inI f (j : Int) i))) := hS
        obtain ⟨BB, FXs⟩ := hS
        replace t0 := (h3 0 (by decide)).trans t0
        replace t3 := (h3 3 (by decide)).trans t3
        replace t9 := (h3 9 (by decide)).trans t9
        replace t10 := (h3 10 (by decide)).trans t10
        replace t11 := (h3 11 (by decide)).trans t11
        have t5 : a.eval (.tmp 5) = .int .i64 ((w : Nat) : Int) := h4 2 _ rfl _ rfl
        replace A := (⟨h1, h2.trans A.2⟩ : a.tmps.size = 33 ∧ a.defers = [])
        clear h1 h2 h3 h4
        refine wp_seq ?_
        refine wp_seq ?_
        refine wp_region_sq (σ := Unit) 33 [(0, 15), (1, 16), (2, 17), (3, 18), (4, 19), (5, 20), (6, 21), (7, 22), (8, 23), (9, 24), (10, 25), (11, 26), (12, 27), (13, 28)] (fun j_ s X => match j_ with | 0 => Below V.heap.size V X ∧ (X.ownsRow V.heap.size 4 1 (.slice (some ⟨g3, 0, none⟩) n n) (n) (boolsL (n) (fun j => inI f (j : Int) i))) | 1 => Below V.heap.size V X ∧ (X.ownsRow V.heap.size 4 1 (.slice (some ⟨g3, 0, none⟩) n n) (n) (boolsL (n) (fun j => inI f (j : Int) i))) | 2 => Below V.heap.size V X ∧ (X.ownsRow V.heap.size 4 1 (.slice (some ⟨g3, 0, none⟩) n n) (n) (boolsL (n) (fun j => inI f (j : Int) i))) | 3 => Below V.heap.size V X ∧ (X.ownsRow V.heap.size 4 1 (.slice (some ⟨g3, 0, none⟩) n n) (n) (boolsL (n) (fun j => inI f (j : Int) i))) | 4 => Below V.heap.size V X ∧ (X.ownsRow V.heap.size 4 1 (.slice (some ⟨g3, 0, none⟩) n n) (n) (boolsL (n) (fun j => inI f (j : Int) i))) | 5 => Below V.heap.size V X ∧ (X.ownsRow V.heap.size 4 1 (.slice (some ⟨g3, 0, none⟩) n n) (n) (boolsL (n) (fun j => inI f (j : Int) i))) | 6 => Below V.heap.size V X ∧ (X.ownsRow V.heap.size 4 1 (.slice (some ⟨g3, 0, none⟩) n n) (n) (boolsL (n) (fun j => inI f (j : Int) i))) | 7 => Below V.heap.size V X ∧ (X.ownsRow V.heap.size 4 1 (.slice (some ⟨g3, 0, none⟩) n n) (n) (boolsL (n) (fun j => inI f (j : Int) i))) | 8 => Below V.heap.size V X ∧ (X.ownsRow V.heap.size 4 1 (.slice (some ⟨g3, 0, none⟩) n n) (n) (boolsL (n) (fun j => inI f (j : Int) i))) | 9 => Below V.heap.size V X ∧ (X.ownsRow V.heap.size 4 1 (.slice (some ⟨g3, 0, none⟩) n n) (n) (boolsL (n) (fun j => inI f (j : Int) i))) | 10 => Below V.heap.size V X ∧ (X.ownsRow V.heap.size 4 1 (.slice (some ⟨g3, 0, none⟩) n n) (n) (boolsL (n) (fun j => inI f (j : Int) i))) | 11 => Below V.heap.size V X ∧ (X.ownsRow V.heap.size 4 1 (.slice (some ⟨g3, 0, none⟩) n n) (n) (boolsL (n) (fun j => inI f (j : Int) i))) | 12 => Below V.heap.size V X ∧ (X.ownsRow V.heap.size 4 1 (.slice (some ⟨g3, 0, none⟩) n n) (n) (boolsL (n) (fun j => inI f (j : Int) i))) | 13 => Below V.heap.size V X ∧ (X.ownsRow V.heap.size 4 1 (.slice (some ⟨g3, 0, none⟩) n n) (n) (boolsL (n) (fun j => inI f (j : Int) i))) | _ => Below V.heap.size V X ∧ (X.ownsRow V.heap.size 4 1 (.slice (some ⟨g3, 0, none⟩) n n) (n) (boolsL (n) (fun j => inI f (j : Int) i)))) (fun s => fun i_ => match i_ with | 0 => .int .i64 ((w : Nat) : Int) | 1 => .bool false | 2 => .bool false | 3 => .int .i64 ((w : Nat) : Int) | 4 => .slice (some ⟨ib, io, none⟩) n ic | 5 => .int .i64 ((n : Nat) : Int) | 6 => .bool true | 7 => .bool true | 8 => .bool true | 9 => undef | 10 => undef | 11 => undef | 12 => undef | 13 => .bool true | _ => undef) () A.1 (by kernel_rfl) (by decide) (by decide) ⟨BB, FXs⟩ ?_ ?_
        · intro i_ hi_ s a X hf hv hn hS
          match i_, hi_ with
          | 0, _ => exact stepV rfl rfl (execMvB rfl ((hf 5 (by decide)).trans t5)) ⟨s, ⟨_, rfl, rfl⟩, hS, fun _ _ => rfl⟩
          | 1, _ => exact stepV rfl rfl (execDec (execLtW (p := w) (q := 0) rfl (hv 0 (by omega) _ rfl _ rfl) rfl) (decide_eq_false (by omega))) ⟨s, ⟨_, rfl, rfl⟩, hS, fun _ _ => rfl⟩
          | 2, _ => exact stepV rfl rfl (execMvB rfl (hv 1 (by omega) _ rfl _ rfl)) ⟨s, ⟨_, rfl, rfl⟩, hS, fun _ _ => rfl⟩
          | 3, _ => exact stepV rfl (wantedOf rfl (yieldedAt rfl rfl (show a.eval (.tmp 17) = .bool false from (hv 2 (by omega) _ rfl _ rfl)))) (execMvB rfl ((hf 5 (by decide)).trans t5)) ⟨s, ⟨_, rfl, rfl⟩, hS, fun _ _ => rfl⟩
          | 4, _ => exact stepV rfl (wantedOf rfl (yieldedAt rfl rfl (show a.eval (.tmp 17) = .bool false from (hv 2 (by omega) _ rfl _ rfl)))) (execMvB rfl ((hf 0 (by decide)).trans t0)) ⟨s, ⟨_, rfl, rfl⟩, hS, fun _ _ => rfl⟩
          | 5, _ => exact stepV rfl (wantedOf rfl (yieldedAt rfl rfl (show a.eval (.tmp 17) = .bool false from (hv 2 (by omega) _ rfl _ rfl)))) (execLenI (len := n) rfl (hv 4 (by omega) _ rfl _ rfl) ((FI.on hS.1)).shp) ⟨s, ⟨_, rfl, rfl⟩, hS, fun _ _ => rfl⟩
          | 6, _ => exact stepV rfl (wantedOf rfl (yieldedAt rfl rfl (show a.eval (.tmp 17) = .bool false from (hv 2 (by omega) _ rfl _ rfl)))) (execDec (execGe8 (p := w) (q := n) rfl (hv 3 (by omega) _ rfl _ rfl) (hv 5 (by omega) _ rfl _ rfl)) (decide_eq_true (by omega))) ⟨s, ⟨_, rfl, rfl⟩, hS, fun _ _ => rfl⟩
          | 7, _ => exact stepV rfl rfl (execPickF rfl (hv 2 (by omega) _ rfl _ rfl) (hv 6 (by omega) _ rfl _ rfl)) ⟨s, ⟨_, rfl, rfl⟩, hS, fun _ _ => rfl⟩
          | 8, _ => exact stepV rfl rfl (execMvB rfl (hv 7 (by omega) _ rfl _ rfl)) ⟨s, ⟨_, rfl, rfl⟩, hS, fun _ _ => rfl⟩
          | 9, _ => exact stepU rfl (unwantedOf rfl (yieldedAt rfl rfl (show a.eval (.tmp 23) = .bool (!false) from (hv 8 (by omega) _ rfl _ rfl)))) ⟨s, ⟨_, rfl, rfl⟩, hS, fun _ _ => rfl⟩
          | 10, _ => exact stepU rfl (unwantedOf rfl (yieldedAt rfl rfl (show a.eval (.tmp 23) = .bool (!false) from (hv 8 (by omega) _ rfl _ rfl)))) ⟨s, ⟨_, rfl, rfl⟩, hS, fun _ _ => rfl⟩
          | 11, _ => exact stepU rfl (unwantedOf rfl (yieldedAt rfl rfl (show a.eval (.tmp 23) = .bool (!false) from (hv 8 (by omega) _ rfl _ rfl)))) ⟨s, ⟨_, rfl, rfl⟩, hS, fun _ _ => rfl⟩
          | 12, _ => exact stepU rfl (unwantedOf rfl (yieldedAt rfl rfl (show a.eval (.tmp 23) = .bool (!false) from (hv 8 (by omega) _ rfl _ rfl)))) ⟨s, ⟨_, rfl, rfl⟩, hS, fun _ _ => rfl⟩
          | 13, _ => exact stepV rfl rfl (execPickT rfl (hv 8 (by omega) _ rfl _ rfl) rfl) ⟨s, ⟨_, rfl, rfl⟩, hS, fun _ _ => rfl⟩
          | k_ + 14, h_ => exact absurd h_ (by simp)
        rintro _ a X5 h1 h2 h3 h4 hS
        clear BB
        clear FXs
        replace hS : Below V.heap.size V X5 ∧ (X5.ownsRow V.heap.size 4 1 (.slice (some ⟨g3, 0, none⟩) n n) (n) (boolsL (n) (fun j => inI f (j : Int) i))) := hS
        obtain ⟨BB, FXs⟩ := hS
        replace t0 := (h3 0 (by decide)).trans t0
        replace t3 := (h3 3 (by decide)).trans t3
        replace t9 := (h3 9 (by decide)).trans t9
        replace t10 := (h3 10 (by decide)).trans t10
        replace t11 := (h3 11 (by decide)).trans t11
        replace t5 := (h3 5 (by decide)).trans t5
        have t28 : a.eval (.tmp 28) = .bool true := h4 13 _ rfl _ rfl
        replace A := (⟨h1, h2.trans A.2⟩ : a.tmps.size = 33 ∧ a.defers = [])
        clear h1 h2 h3 h4
        refine wp_cond_true t28 ?_
        refine wp_seq ?_
        refine wp_region_sq (σ := Unit) 33 [(0, 2)] (fun j_ s X => match j_ with | 0 => Below V.heap.size V X ∧ (X.ownsRow V.heap.size 4 1 (.slice (some ⟨g3, 0, none⟩) n n) (n) (boolsL (n) (fun j => inI f (j : Int) i))) | _ => Below V.heap.size V X ∧ (X.ownsRow V.heap.size 4 1 (.slice (some ⟨g3, 0, none⟩) n n) (n) (boolsL (n) (fun j => inI f (j : Int) i)))) (fun s => fun i_ => match i_ with | 0 => .int .i64 ((110 : Nat) : Int) | _ => undef) () A.1 (by kernel_rfl) (by decide) (by decide) ⟨BB, FXs⟩ ?_ ?_
        · intro i_ hi_ s a X hf hv hn hS
          match i_, hi_ with
          | 0, _ => exact stepV rfl rfl (execAsgB rfl rfl) ⟨s, ⟨_, rfl, rfl⟩, hS, fun _ _ => rfl⟩
          | k_ + 1, h_ => exact absurd h_ (by simp)
        rintro _ a X6 h1 h2 h3 h4 hS
        clear BB
        clear FXs
        replace hS : Below V.heap.size V X6 ∧ (X6.ownsRow V.heap.size 4 1 (.slice (some ⟨g3, 0, none⟩) n n) (n) (boolsL (n) (fun j => inI f (j : Int) i))) := hS
        obtain ⟨BB, FXs⟩ := hS
        have t2 : a.eval (.tmp 2) = .int .i64 ((110 : Nat) : Int) := h4 0 _ rfl _ rfl
        replace A := (⟨h1, h2.trans A.2⟩ : a.tmps.size = 33 ∧ a.defers = [])
        clear h1 h2 h3 h4
        clear t0 t3 t9 t10 t11 t5 t28
        have hE : pE f n = 110 := pE_bad hlt (Or.inr (Or.inl (by omega)))
        rw [hE]
        refine wp_ret ?_
        repeat (first | refine ret_in ?_ | refine ret_then ?_)
        refine bodyPost_ret (results_tmp rfl _ _ _) A.2 ⟨?_, BB⟩
        show Ending.returned (a.eval (.tmp 2)) = _
        rw [t2]
      · by_cases h3 : inI f (f i) i = true
        · obtain ⟨w, ew⟩ : ∃ w : Nat, f i = w := ⟨(f i).toNat, by omega⟩
          have cW : ∀ X, Below V.heap.size V X → X.cell? ⟨ib, io + i, none⟩ = some (.int .i64 ((w : Nat) : Int)) := fun X hX => by rw [cI i hlt X hX, ew]
          have hw : w < n := by omega
          have hsn : inI f (w : Int) i = true := by rw [← ew]; exact h3
          refine wp_seq ?_
          refine wp_region_sq (σ := Unit) 33 [(0, 13), (1, 14), (2, 5)] (fun j_ s X => match j_ with | 0 => Below V.heap.size V X ∧ (X.ownsRow V.heap.size 4 1 (.slice (some ⟨g3, 0, none⟩) n n) (n) (boolsL (n) (fun j => inI f (j : Int) i))) | 1 => Below V.heap.size V X ∧ (X.ownsRow V.heap.size 4 1 (.slice (some ⟨g3, 0, none⟩) n n) (n) (boolsL (n) (fun j => inI f (j : Int) i))) | 2 => Below V.heap.size V X ∧ (X.ownsRow V.heap.size 4 1 (.slice (some ⟨g3, 0, none⟩) n n) (n) (boolsL (n) (fun j => inI f (j : Int) i))) | _ => Below V.heap.size V X ∧ (X.ownsRow V.heap.size 4 1 (.slice (some ⟨g3, 0, none⟩) n n) (n) (boolsL (n) (fun j => inI f (j : Int) i)))) (fun s => fun i_ => match i_ with | 0 => .pointer (some ⟨ib, io + i, none⟩) | 1 => .int .i64 ((w : Nat) : Int) | 2 => .int .i64 ((w : Nat) : Int) | _ => undef) () A.1 (by kernel_rfl) (by decide) (by decide) ⟨BB, FXs⟩ ?_ ?_
          · intro i_ hi_ s a X hf hv hn hS
            match i_, hi_ with
            | 0, _ => exact stepV rfl rfl (execIdxN (k := i) rfl ((hf 9 (by decide)).trans t9) ((hf 11 (by decide)).trans t11) hlt) ⟨s, ⟨_, rfl, rfl⟩, hS, fun _ _ => rfl⟩
            | 1, _ => exact stepV rfl rfl (execLd3 rfl (hv 0 (by omega) _ rfl _ rfl) (cW X hS.1)) ⟨s, ⟨_, rfl, rfl⟩, hS, fun _ _ => rfl⟩
            | 2, _ => exact stepV rfl rfl (execAsgB rfl (hv 1 (by omega) _ rfl _ rfl)) ⟨s, ⟨_, rfl, rfl⟩, hS, fun _ _ => rfl⟩
            | k_ + 3, h_ => exact absurd h_ (by simp)
          rintro _ a X4 h1 h2 h3 h4 hS
          clear BB
          clear FXs
          replace hS : Below V.heap.size V X4 ∧ (X4.ownsRow V.heap.size 4 1 (.slice (some ⟨g3, 0, none⟩) n n) (n) (boolsL (n) (fun j => inI f (j : Int) i))) := hS
          obtain ⟨BB, FXs⟩ := hS
          replace t0 := (h3 0 (by decide)).trans t0
          replace t3 := (h3 3 (by decide)).trans t3
          replace t9 := (h3 9 (by decide)).trans t9
          replace t10 := (h3 10 (by decide)).trans t10
          replace t11 := (h3 11 (by decide)).trans t11
          have t5 : a.eval (.tmp 5) = .int .i64 ((w : Nat) : Int) := h4 2 _ rfl _ rfl
          replace A := (⟨h1, h2.trans A.2⟩ : a.tmps.size = 33 ∧ a.defers = [])
          clear h1 h2 h3 h4
          refine wp_seq ?_
          refine wp_seq ?_
          refine wp_region_sq (σ := Unit) 33 [(0, 15), (1, 16), (2, 17), (3, 18), (4, 19), (5, 20), (6, 21), (7, 22), (8, 23), (9, 24), (10, 25), (11, 26), (12, 27), (13, 28)] (fun j_ s X => match j_ with | 0 => Below V.heap.size V X ∧ (X.ownsRow V.heap.size 4 1 (.slice (some ⟨g3, 0, none⟩) n n) (n) (boolsL (n) (fun j => inI f (j : Int) i))) | 1 => Below V.heap.size V X ∧ (X.ownsRow V.heap.size 4 1 (.slice (some ⟨g3, 0, none⟩) n n) (n) (boolsL (n) (fun j => inI f (j : Int) i))) | 2 => Below V.heap.size V X ∧ (X.ownsRow V.heap.size 4 1 (.slice (some ⟨g3, 0, none⟩) n n) (n) (boolsL (n) (fun j => inI f (j : Int) i))) | 3 => Below V.heap.size V X ∧ (X.ownsRow V.heap.size 4 1 (.slice (some ⟨g3, 0, none⟩) n n) (n) (boolsL (n) (fun j => inI f (j : Int) i))) | 4 => Below V.heap.size V X ∧ (X.ownsRow V.heap.size 4 1 (.slice (some ⟨g3, 0, none⟩) n n) (n) (boolsL (n) (fun j => inI f (j : Int) i))) | 5 => Below V.heap.size V X ∧ (X.ownsRow V.heap.size 4 1 (.slice (some ⟨g3, 0, none⟩) n n) (n) (boolsL (n) (fun j => inI f (j : Int) i))) | 6 => Below V.heap.size V X ∧ (X.ownsRow V.heap.size 4 1 (.slice (some ⟨g3, 0, none⟩) n n) (n) (boolsL (n) (fun j => inI f (j : Int) i))) | 7 => Below V.heap.size V X ∧ (X.ownsRow V.heap.size 4 1 (.slice (some ⟨g3, 0, none⟩) n n) (n) (boolsL (n) (fun j => inI f (j : Int) i))) | 8 => Below V.heap.size V X ∧ (X.ownsRow V.heap.size 4 1 (.slice (some ⟨g3, 0, none⟩) n n) (n) (boolsL (n) (fun j => inI f (j : Int) i))) | 9 => Below V.heap.size V X ∧ (X.ownsRow V.heap.size 4 1 (.slice (some ⟨g3, 0, none⟩) n n) (n) (boolsL (n) (fun j => inI f (j : Int) i))) | 10 => Below V.heap.size V X ∧ (X.ownsRow V.heap.size 4 1 (.slice (some ⟨g3, 0, none⟩) n n) (n) (boolsL (n) (fun j => inI f (j : Int) i))) | 11 => Below V.heap.size V X ∧ (X.ownsRow V.heap.size 4 1 (.slice (some ⟨g3, 0, none⟩) n n) (n) (boolsL (n) (fun j => inI f (j : Int) i))) | 12 => Below V.heap.size V X ∧ (X.ownsRow V.heap.size 4 1 (.slice (some ⟨g3, 0, none⟩) n n) (n) (boolsL (n) (fun j => inI f (j : Int) i))) | 13 => Below V.heap.size V X ∧ (X.ownsRow V.heap.size 4 1 (.slice (some ⟨g3, 0, none⟩) n n) (n) (boolsL (n) (fun j => inI f (j : Int) i))) | _ => Below V.heap.size V X ∧ (X.ownsRow V.heap.size 4 1 (.slice (some ⟨g3, 0, none⟩) n n) (n) (boolsL (n) (fun j => inI f (j : Int) i)))) (fun s => fun i_ => match i_ with | 0 => .int .i64 ((w : Nat) : Int) | 1 => .bool false | 2 => .bool false | 3 => .int .i64 ((w : Nat) : Int) | 4 => .slice (some ⟨ib, io, none⟩) n ic | 5 => .int .i64 ((n : Nat) : Int) | 6 => .bool false | 7 => .bool false | 8 => .bool false | 9 => .slice (some ⟨g3, 0, none⟩) n n | 10 => .int .i64 ((w : Nat) : Int) | 11 => .pointer (some ⟨g3, 0 + w, none⟩) | 12 => .bool true | 13 => .bool true | _ => undef) () A.1 (by kernel_rfl) (by decide) (by decide) ⟨BB, FXs⟩ ?_ ?_
          · intro i_ hi_ s a X hf hv hn hS
            match i_, hi_ with
            | 0, _ => exact stepV rfl rfl (execMvB rfl ((hf 5 (by decide)).trans t5)) ⟨s, ⟨_, rfl, rfl⟩, hS, fun _ _ => rfl⟩
            | 1, _ => exact stepV rfl rfl (execDec (execLtW (p := w) (q := 0) rfl (hv 0 (by omega) _ rfl _ rfl) rfl) (decide_eq_false (by omega))) ⟨s, ⟨_, rfl, rfl⟩, hS, fun _ _ => rfl⟩
            | 2, _ => exact stepV rfl rfl (execMvB rfl (hv 1 (by omega) _ rfl _ rfl)) ⟨s, ⟨_, rfl, rfl⟩, hS, fun _ _ => rfl⟩
            | 3, _ => exact stepV rfl (wantedOf rfl (yieldedAt rfl rfl (show a.eval (.tmp 17) = .bool false from (hv 2 (by omega) _ rfl _ rfl)))) (execMvB rfl ((hf 5 (by decide)).trans t5)) ⟨s, ⟨_, rfl, rfl⟩, hS, fun _ _ => rfl⟩
            | 4, _ => exact stepV rfl (wantedOf rfl (yieldedAt rfl rfl (show a.eval (.tmp 17) = .bool false from (hv 2 (by omega) _ rfl _ rfl)))) (execMvB rfl ((hf 0 (by decide)).trans t0)) ⟨s, ⟨_, rfl, rfl⟩, hS, fun _ _ => rfl⟩
            | 5, _ => exact stepV rfl (wantedOf rfl (yieldedAt rfl rfl (show a.eval (.tmp 17) = .bool false from (hv 2 (by omega) _ rfl _ rfl)))) (execLenI (len := n) rfl (hv 4 (by omega) _ rfl _ rfl) ((FI.on hS.1)).shp) ⟨s, ⟨_, rfl, rfl⟩, hS, fun _ _ => rfl⟩
            | 6, _ => exact stepV rfl (wantedOf rfl (yieldedAt rfl rfl (show a.eval (.tmp 17) = .bool false from (hv 2 (by omega) _ rfl _ rfl)))) (execDec (execGe8 (p := w) (q := n) rfl (hv 3 (by omega) _ rfl _ rfl) (hv 5 (by omega) _ rfl _ rfl)) (decide_eq_false (by omega))) ⟨s, ⟨_, rfl, rfl⟩, hS, fun _ _ => rfl⟩
            | 7, _ => exact stepV rfl rfl (execPickF rfl (hv 2 (by omega) _ rfl _ rfl) (hv 6 (by omega) _ rfl _ rfl)) ⟨s, ⟨_, rfl, rfl⟩, hS, fun _ _ => rfl⟩
            | 8, _ => exact stepV rfl rfl (execMvB rfl (hv 7 (by omega) _ rfl _ rfl)) ⟨s, ⟨_, rfl, rfl⟩, hS, fun _ _ => rfl⟩
            | 9, _ => exact stepV rfl (wantedOf rfl (yieldedAt rfl rfl (show a.eval (.tmp 23) = .bool false from (hv 8 (by omega) _ rfl _ rfl)))) (execMvB rfl ((hf 3 (by decide)).trans t3)) ⟨s, ⟨_, rfl, rfl⟩, hS, fun _ _ => rfl⟩
            | 10, _ => exact stepV rfl (wantedOf rfl (yieldedAt rfl rfl (show a.eval (.tmp 23) = .bool false from (hv 8 (by omega) _ rfl _ rfl)))) (execMvB rfl ((hf 5 (by decide)).trans t5)) ⟨s, ⟨_, rfl, rfl⟩, hS, fun _ _ => rfl⟩
            | 11, _ => exact stepV rfl (wantedOf rfl (yieldedAt rfl rfl (show a.eval (.tmp 23) = .bool false from (hv 8 (by omega) _ rfl _ rfl)))) (execIdxBl (k := w) rfl (hv 9 (by omega) _ rfl _ rfl) (hv 10 (by omega) _ rfl _ rfl) hw) ⟨s, ⟨_, rfl, rfl⟩, hS, fun _ _ => rfl⟩
            | 12, _ => exact stepV rfl (wantedOf rfl (yieldedAt rfl rfl (show a.eval (.tmp 23) = .bool false from (hv 8 (by omega) _ rfl _ rfl)))) (execLdBl rfl (hv 11 (by omega) _ rfl _ rfl) (by rw [(own_cellBl hS.2 hw).1, hsn])) ⟨s, ⟨_, rfl, rfl⟩, hS, fun _ _ => rfl⟩
            | 13, _ => exact stepV rfl rfl (execPickF rfl (hv 8 (by omega) _ rfl _ rfl) (hv 12 (by omega) _ rfl _ rfl)) ⟨s, ⟨_, rfl, rfl⟩, hS, fun _ _ => rfl⟩
            | k_ + 14, h_ => exact absurd h_ (by simp)
          rintro _ a X5 h1 h2 h3 h4 hS
          clear BB
          clear FXs
          replace hS : Below V.heap.size V X5 ∧ (X5.ownsRow V.heap.size 4 1 (.slice (some ⟨g3, 0, none⟩) n n) (n) (boolsL (n) (fun j => inI f (j : Int) i))) := hS
          obtain ⟨BB, FXs⟩ := hS
          replace t0 := (h3 0 (by decide)).trans t0
          replace t3 := (h3 3 (by decide)).trans t3
          replace t9 := (h3 9 (by decide)).trans t9
          replace t10 := (h3 10 (by decide)).trans t10
          replace t11 := (h3 11 (by decide)).trans t11
          replace t5 := (h3 5 (by decide)).trans t5
          have t28 : a.eval (.tmp 28) = .bool true := h4 13 _ rfl _ rfl
          replace A := (⟨h1, h2.trans A.2⟩ : a.tmps.size = 33 ∧ a.defers = [])
          clear h1 h2 h3 h4
          refine wp_cond_true t28 ?_
          refine wp_seq ?_
          refine wp_region_sq (σ := Unit) 33 [(0, 2)] (fun j_ s X => match j_ with | 0 => Below V.heap.size V X ∧ (X.ownsRow V.heap.size 4 1 (.slice (some ⟨g3, 0, none⟩) n n) (n) (boolsL (n) (fun j => inI f (j : Int) i))) | _ => Below V.heap.size V X ∧ (X.ownsRow V.heap.size 4 1 (.slice (some ⟨g3, 0, none⟩) n n) (n) (boolsL (n) (fun j => inI f (j : Int) i)))) (fun s => fun i_ => match i_ with | 0 => .int .i64 ((110 : Nat) : Int) | _ => undef) () A.1 (by kernel_rfl) (by decide) (by decide) ⟨BB, FXs⟩ ?_ ?_
          · intro i_ hi_ s a X hf hv hn hS
            match i_, hi_ with
            | 0, _ => exact stepV rfl rfl (execAsgB rfl rfl) ⟨s, ⟨_, rfl, rfl⟩, hS, fun _ _ => rfl⟩
            | k_ + 1, h_ => exact absurd h_ (by simp)
          rintro _ a X6 h1 h2 h3 h4 hS
          clear BB
          clear FXs
          replace hS : Below V.heap.size V X6 ∧ (X6.ownsRow V.heap.size 4 1 (.slice (some ⟨g3, 0, none⟩) n n) (n) (boolsL (n) (fun j => inI f (j : Int) i))) := hS
          obtain ⟨BB, FXs⟩ := hS
          have t2 : a.eval (.tmp 2) = .int .i64 ((110 : Nat) : Int) := h4 0 _ rfl _ rfl
          replace A := (⟨h1, h2.trans A.2⟩ : a.tmps.size = 33 ∧ a.defers = [])
          clear h1 h2 h3 h4
          clear t0 t3 t9 t10 t11 t5 t28
          have hE : pE f n = 110 := pE_bad hlt (Or.inr (Or.inr h3))
          rw [hE]
          refine wp_ret ?_
          repeat (first | refine ret_in ?_ | refine ret_then ?_)
          refine bodyPost_ret (results_tmp rfl _ _ _) A.2 ⟨?_, BB⟩
          show Ending.returned (a.eval (.tmp 2)) = _
          rw [t2]
        · obtain ⟨w, ew⟩ : ∃ w : Nat, f i = w := ⟨(f i).toNat, by omega⟩
          have cW : ∀ X, Below V.heap.size V X → X.cell? ⟨ib, io + i, none⟩ = some (.int .i64 ((w : Nat) : Int)) := fun X hX => by rw [cI i hlt X hX, ew]
          have hw : w < n := by omega
          have hsn : inI f (w : Int) i = false := by rw [← ew]; exact Bool.eq_false_iff.2 h3
          refine wp_seq ?_
          refine wp_region_sq (σ := Unit) 33 [(0, 13), (1, 14), (2, 5)] (fun j_ s X => match j_ with | 0 => Below V.heap.size V X ∧ (X.ownsRow V.heap.size 4 1 (.slice (some ⟨g3, 0, none⟩) n n) (n) (boolsL (n) (fun j => inI f (j : Int) i))) | 1 => Below V.heap.size V X ∧ (X.ownsRow V.heap.size 4 1 (.slice (some ⟨g3, 0, none⟩) n n) (n) (boolsL (n) (fun j => inI f (j : Int) i))) | 2 => Below V.heap.size V X ∧ (X.ownsRow V.heap.size 4 1 (.slice (some ⟨g3, 0, none⟩) n n) (n) (boolsL (n) (fun j => inI f (j : Int) i))) | _ => Below V.heap.size V X ∧ (X.ownsRow V.heap.size 4 1 (.slice (some ⟨g3, 0, none⟩) n n) (n) (boolsL (n) (fun j => inI f (j : Int) i)))) (fun s => fun i_ => match i_ with | 0 => .pointer (some ⟨ib, io + i, none⟩) | 1 => .int .i64 ((w : Nat) : Int) | 2 => .int .i64 ((w : Nat) : Int) | _ => undef) () A.1 (by kernel_rfl) (by decide) (by decide) ⟨BB, FXs⟩ ?_ ?_
          · intro i_ hi_ s a X hf hv hn hS
            match i_, hi_ with
            | 0, _ => exact stepV rfl rfl (execIdxN (k := i) rfl ((hf 9 (by decide)).trans t9) ((hf 11 (by decide)).trans t11) hlt) ⟨s, ⟨_, rfl, rfl⟩, hS, fun _ _ => rfl⟩
            | 1, _ => exact stepV rfl rfl (execLd3 rfl (hv 0 (by omega) _ rfl _ rfl) (cW X hS.1)) ⟨s, ⟨_, rfl, rfl⟩, hS, fun _ _ => rfl⟩
            | 2, _ => exact stepV rfl rfl (execAsgB rfl (hv 1 (by omega) _ rfl _ rfl)) ⟨s, ⟨_, rfl, rfl⟩, hS, fun _ _ => rfl⟩
            | k_ + 3, h_ => exact absurd h_ (by simp)
          rintro _ a X4 h1 h2 h3 h4 hS
          clear BB
          clear FXs
          replace hS : Below V.heap.size V X4 ∧ (X4.ownsRow V.heap.size 4 1 (.slice (some ⟨g3, 0, none⟩) n n) (n) (boolsL (n) (fun j => inI f (j : Int) i))) := hS
          obtain ⟨BB, FXs⟩ := hS
          replace t0 := (h3 0 (by decide)).trans t0
          replace t3 := (h3 3 (by decide)).trans t3
          replace t9 := (h3 9 (by decide)).trans t9
          replace t10 := (h3 10 (by decide)).trans t10
          replace t11 := (h3 11 (by decide)).trans t11
          have t5 : a.eval (.tmp 5) = .int .i64 ((w : Nat) : Int) := h4 2 _ rfl _ rfl
          replace A := (⟨h1, h2.trans A.2⟩ : a.tmps.size = 33 ∧ a.defers = [])
          clear h1 h2 h3 h4
          refine wp_seq ?_
          refine wp_seq ?_
          refine wp_region_sq (σ := Unit) 33 [(0, 15), (1, 16), (2, 17), (3, 18), (4, 19), (5, 20), (6, 21), (7, 22), (8, 23), (9, 24), (10, 25), (11, 26), (12, 27), (13, 28)] (fun j_ s X => match j_ with | 0 => Below V.heap.size V X ∧ (X.ownsRow V.heap.size 4 1 (.slice (some ⟨g3, 0, none⟩) n n) (n) (boolsL (n) (fun j => inI f (j : Int) i))) | 1 => Below V.heap.size V X ∧ (X.ownsRow V.heap.size 4 1 (.slice (some ⟨g3, 0, none⟩) n n) (n) (boolsL (n) (fun j => inI f (j : Int) i))) | 2 => Below V.heap.size V X ∧ (X.ownsRow V.heap.size 4 1 (.slice (some ⟨g3, 0, none⟩) n n) (n) (boolsL (n) (fun j => inI f (j : Int) i))) | 3 => Below V.heap.size V X ∧ (X.ownsRow V.heap.size 4 1 (.slice (some ⟨g3, 0, none⟩) n n) (n) (boolsL (n) (fun j => inI f (j : Int) i))) | 4 => Below V.heap.size V X ∧ (X.ownsRow V.heap.size 4 1 (.slice (some ⟨g3, 0, none⟩) n n) (n) (boolsL (n) (fun j => inI f (j : Int) i))) | 5 => Below V.heap.size V X ∧ (X.ownsRow V.heap.size 4 1 (.slice (some ⟨g3, 0, none⟩) n n) (n) (boolsL (n) (fun j => inI f (j : Int) i))) | 6 => Below V.heap.size V X ∧ (X.ownsRow V.heap.size 4 1 (.slice (some ⟨g3, 0, none⟩) n n) (n) (boolsL (n) (fun j => inI f (j : Int) i))) | 7 => Below V.heap.size V X ∧ (X.ownsRow V.heap.size 4 1 (.slice (some ⟨g3, 0, none⟩) n n) (n) (boolsL (n) (fun j => inI f (j : Int) i))) | 8 => Below V.heap.size V X ∧ (X.ownsRow V.heap.size 4 1 (.slice (some ⟨g3, 0, none⟩) n n) (n) (boolsL (n) (fun j => inI f (j : Int) i))) | 9 => Below V.heap.size V X ∧ (X.ownsRow V.heap.size 4 1 (.slice (some ⟨g3, 0, none⟩) n n) (n) (boolsL (n) (fun j => inI f (j : Int) i))) | 10 => Below V.heap.size V X ∧ (X.ownsRow V.heap.size 4 1 (.slice (some ⟨g3, 0, none⟩) n n) (n) (boolsL (n) (fun j => inI f (j : Int) i))) | 11 => Below V.heap.size V X ∧ (X.ownsRow V.heap.size 4 1 (.slice (some ⟨g3, 0, none⟩) n n) (n) (boolsL (n) (fun j => inI f (j : Int) i))) | 12 => Below V.heap.size V X ∧ (X.ownsRow V.heap.size 4 1 (.slice (some ⟨g3, 0, none⟩) n n) (n) (boolsL (n) (fun j => inI f (j : Int) i))) | 13 => Below V.heap.size V X ∧ (X.ownsRow V.heap.size 4 1 (.slice (some ⟨g3, 0, none⟩) n n) (n) (boolsL (n) (fun j => inI f (j : Int) i))) | _ => Below V.heap.size V X ∧ (X.ownsRow V.heap.size 4 1 (.slice (some ⟨g3, 0, none⟩) n n) (n) (boolsL (n) (fun j => inI f (j : Int) i)))) (fun s => fun i_ => match i_ with | 0 => .int .i64 ((w : Nat) : Int) | 1 => .bool false | 2 => .bool false | 3 => .int .i64 ((w : Nat) : Int) | 4 => .slice (some ⟨ib, io, none⟩) n ic | 5 => .int .i64 ((n : Nat) : Int) | 6 => .bool false | 7 => .bool false | 8 => .bool false | 9 => .slice (some ⟨g3, 0, none⟩) n n | 10 => .int .i64 ((w : Nat) : Int) | 11 => .pointer (some ⟨g3, 0 + w, none⟩) | 12 => .bool false | 13 => .bool false | _ => undef) () A.1 (by kernel_rfl) (by decide) (by decide) ⟨BB, FXs⟩ ?_ ?_
          · intro i_ hi_ s a X hf hv hn hS
            match i_, hi_ with
            | 0, _ => exact stepV rfl rfl (execMvB rfl ((hf 5 (by decide)).trans t5)) ⟨s, ⟨_, rfl, rfl⟩, hS, fun _ _ => rfl⟩
            | 1, _ => exact stepV rfl rfl (execDec (execLtW (p := w) (q := 0) rfl (hv 0 (by omega) _ rfl _ rfl) rfl) (decide_eq_false (by omega))) ⟨s, ⟨_, rfl, rfl⟩, hS, fun _ _ => rfl⟩
            | 2, _ => exact stepV rfl rfl (execMvB rfl (hv 1 (by omega) _ rfl _ rfl)) ⟨s, ⟨_, rfl, rfl⟩, hS, fun _ _ => rfl⟩
            | 3, _ => exact stepV rfl (wantedOf rfl (yieldedAt rfl rfl (show a.eval (.tmp 17) = .bool false from (hv 2 (by omega) _ rfl _ rfl)))) (execMvB rfl ((hf 5 (by decide)).trans t5)) ⟨s, ⟨_, rfl, rfl⟩, hS, fun _ _ => rfl⟩
            | 4, _ => exact stepV rfl (wantedOf rfl (yieldedAt rfl rfl (show a.eval (.tmp 17) = .bool false from (hv 2 (by omega) _ rfl _ rfl)))) (execMvB rfl ((hf 0 (by decide)).trans t0)) ⟨s, ⟨_, rfl, rfl⟩, hS, fun _ _ => rfl⟩
            | 5, _ => exact stepV rfl (wantedOf rfl (yieldedAt rfl rfl (show a.eval (.tmp 17) = .bool false from (hv 2 (by omega) _ rfl _ rfl)))) (execLenI (len := n) rfl (hv 4 (by omega) _ rfl _ rfl) ((FI.on hS.1)).shp) ⟨s, ⟨_, rfl, rfl⟩, hS, fun _ _ => rfl⟩
            | 6, _ => exact stepV rfl (wantedOf rfl (yieldedAt rfl rfl (show a.eval (.tmp 17) = .bool false from (hv 2 (by omega) _ rfl _ rfl)))) (execDec (execGe8 (p := w) (q := n) rfl (hv 3 (by omega) _ rfl _ rfl) (hv 5 (by omega) _ rfl _ rfl)) (decide_eq_false (by omega))) ⟨s, ⟨_, rfl, rfl⟩, hS, fun _ _ => rfl⟩
            | 7, _ => exact stepV rfl rfl (execPickF rfl (hv 2 (by omega) _ rfl _ rfl) (hv 6 (by omega) _ rfl _ rfl)) ⟨s, ⟨_, rfl, rfl⟩, hS, fun _ _ => rfl⟩
            | 8, _ => exact stepV rfl rfl (execMvB rfl (hv 7 (by omega) _ rfl _ rfl)) ⟨s, ⟨_, rfl, rfl⟩, hS, fun _ _ => rfl⟩
            | 9, _ => exact stepV rfl (wantedOf rfl (yieldedAt rfl rfl (show a.eval (.tmp 23) = .bool false from (hv 8 (by omega) _ rfl _ rfl)))) (execMvB rfl ((hf 3 (by decide)).trans t3)) ⟨s, ⟨_, rfl, rfl⟩, hS, fun _ _ => rfl⟩
            | 10, _ => exact stepV rfl (wantedOf rfl (yieldedAt rfl rfl (show a.eval (.tmp 23) = .bool false from (hv 8 (by omega) _ rfl _ rfl)))) (execMvB rfl ((hf 5 (by decide)).trans t5)) ⟨s, ⟨_, rfl, rfl⟩, hS, fun _ _ => rfl⟩
            | 11, _ => exact stepV rfl (wantedOf rfl (yieldedAt rfl rfl (show a.eval (.tmp 23) = .bool false from (hv 8 (by omega) _ rfl _ rfl)))) (execIdxBl (k := w) rfl (hv 9 (by omega) _ rfl _ rfl) (hv 10 (by omega) _ rfl _ rfl) hw) ⟨s, ⟨_, rfl, rfl⟩, hS, fun _ _ => rfl⟩
            | 12, _ => exact stepV rfl (wantedOf rfl (yieldedAt rfl rfl (show a.eval (.tmp 23) = .bool false from (hv 8 (by omega) _ rfl _ rfl)))) (execLdBl rfl (hv 11 (by omega) _ rfl _ rfl) (by rw [(own_cellBl hS.2 hw).1, hsn])) ⟨s, ⟨_, rfl, rfl⟩, hS, fun _ _ => rfl⟩
            | 13, _ => exact stepV rfl rfl (execPickF rfl (hv 8 (by omega) _ rfl _ rfl) (hv 12 (by omega) _ rfl _ rfl)) ⟨s, ⟨_, rfl, rfl⟩, hS, fun _ _ => rfl⟩
            | k_ + 14, h_ => exact absurd h_ (by simp)
          rintro _ a X5 h1 h2 h3 h4 hS
          clear BB
          clear FXs
          replace hS : Below V.heap.size V X5 ∧ (X5.ownsRow V.heap.size 4 1 (.slice (some ⟨g3, 0, none⟩) n n) (n) (boolsL (n) (fun j => inI f (j : Int) i))) := hS
          obtain ⟨BB, FXs⟩ := hS
          replace t0 := (h3 0 (by decide)).trans t0
          replace t3 := (h3 3 (by decide)).trans t3
          replace t9 := (h3 9 (by decide)).trans t9
          replace t10 := (h3 10 (by decide)).trans t10
          replace t11 := (h3 11 (by decide)).trans t11
          replace t5 := (h3 5 (by decide)).trans t5
          have t28 : a.eval (.tmp 28) = .bool false := h4 13 _ rfl _ rfl
          replace A := (⟨h1, h2.trans A.2⟩ : a.tmps.size = 33 ∧ a.defers = [])
          clear h1 h2 h3 h4
          refine wp_cond_false t28 ?_
          refine wp_skip ?_
          clear t28
          refine wp_region_sq (σ := Unit) 33 [(0, 29), (1, 30), (2, 31)] (fun j_ s X => match j_ with | 0 => Below V.heap.size V X ∧ (X.ownsRow V.heap.size 4 1 (.slice (some ⟨g3, 0, none⟩) n n) (n) (boolsL (n) (fun j => inI f (j : Int) i))) | 1 => Below V.heap.size V X ∧ (X.ownsRow V.heap.size 4 1 (.slice (some ⟨g3, 0, none⟩) n n) (n) (boolsL (n) (fun j => inI f (j : Int) i))) | 2 => Below V.heap.size V X ∧ (X.ownsRow V.heap.size 4 1 (.slice (some ⟨g3, 0, none⟩) n n) (n) (boolsL (n) (fun j => inI f (j : Int) i))) | 3 => Below V.heap.size V X ∧ (X.ownsRow V.heap.size 4 1 (.slice (some ⟨g3, 0, none⟩) n n) (n) (boolsL (n) (fun j => inI f (j : Int) i))) | _ => Below V.heap.size V X ∧ (X.ownsRow V.heap.size 4 1 (.slice (some ⟨g3, 0, none⟩) n n) (n) (boolsL (n) (fun j => inI f (j : Int) (i + 1))))) (fun s => fun i_ => match i_ with | 0 => .slice (some ⟨g3, 0, none⟩) n n | 1 => .int .i64 ((w : Nat) : Int) | 2 => .pointer (some ⟨g3, 0 + w, none⟩) | 3 => undef | _ => undef) () A.1 (by kernel_rfl) (by decide) (by decide) ⟨BB, FXs⟩ ?_ ?_
          · intro i_ hi_ s a X hf hv hn hS
            match i_, hi_ with
            | 0, _ => exact stepV rfl rfl (execMvB rfl ((hf 3 (by decide)).trans t3)) ⟨s, ⟨_, rfl, rfl⟩, hS, fun _ _ => rfl⟩
            | 1, _ => exact stepV rfl rfl (execMvB rfl ((hf 5 (by decide)).trans t5)) ⟨s, ⟨_, rfl, rfl⟩, hS, fun _ _ => rfl⟩
            | 2, _ => exact stepV rfl rfl (execIdxBl (k := w) rfl (hv 0 (by omega) _ rfl _ rfl) (hv 1 (by omega) _ rfl _ rfl) hw) ⟨s, ⟨_, rfl, rfl⟩, hS, fun _ _ => rfl⟩
            | 3, _ =>
              obtain ⟨hc_, hf_⟩ := own_cellBl hS.2 hw
              refine stepS rfl rfl (execStBl rfl (hv 2 (by omega) _ rfl _ rfl) rfl hc_ hf_) ⟨s, ⟨_, rfl, rfl⟩, ⟨(hS.1).setCell Fg _, seen_set hS.2 ew⟩, fun i hi => ?_⟩
              match i, hi with
              | 0, _ => rfl
              | 1, _ => rfl
              | 2, _ => rfl
              | n_ + 3, h_ => omega
            | k_ + 4, h_ => exact absurd h_ (by simp)
          rintro _ a X7 h1 h2 h3 h4 hS
          clear BB
          clear FXs
          replace hS : Below V.heap.size V X7 ∧ (X7.ownsRow V.heap.size 4 1 (.slice (some ⟨g3, 0, none⟩) n n) (n) (boolsL (n) (fun j => inI f (j : Int) (i + 1)))) := hS
          obtain ⟨BB, FS2⟩ := hS
          replace t0 := (h3 0 (by decide)).trans t0
          replace t3 := (h3 3 (by decide)).trans t3
          replace t9 := (h3 9 (by decide)).trans t9
          replace t10 := (h3 10 (by decide)).trans t10
          replace t11 := (h3 11 (by decide)).trans t11
          replace A := (⟨h1, h2.trans A.2⟩ : a.tmps.size = 33 ∧ a.defers = [])
          clear h1 h2 h3 h4
          clear t5
          refine wp_region_sq (σ := Unit) 33 [(0, 32), (1, 11)] (fun j_ s X => match j_ with | 0 => Below V.heap.size V X ∧ (X.ownsRow V.heap.size 4 1 (.slice (some ⟨g3, 0, none⟩) n n) (n) (boolsL (n) (fun j => inI f (j : Int) (i + 1)))) | 1 => Below V.heap.size V X ∧ (X.ownsRow V.heap.size 4 1 (.slice (some ⟨g3, 0, none⟩) n n) (n) (boolsL (n) (fun j => inI f (j : Int) (i + 1)))) | _ => Below V.heap.size V X ∧ (X.ownsRow V.heap.size 4 1 (.slice (some ⟨g3, 0, none⟩) n n) (n) (boolsL (n) (fun j => inI f (j : Int) (i + 1))))) (fun s => fun i_ => match i_ with | 0 => .int .i64 ((i + 1 : Nat) : Int) | 1 => .int .i64 ((i + 1 : Nat) : Int) | _ => undef) () A.1 (by kernel_rfl) (by decide) (by decide) ⟨BB, FS2⟩ ?_ ?_
          · intro i_ hi_ s a X hf hv hn hS
            match i_, hi_ with
            | 0, _ => exact stepV rfl rfl (execAd8 (p := i) (q := 1) rfl ((hn 1 (by omega) _ rfl _ rfl).trans t11) rfl (by omega)) ⟨s, ⟨_, rfl, rfl⟩, hS, fun _ _ => rfl⟩
            | 1, _ => exact stepV rfl rfl (execMvB rfl (hv 0 (by omega) _ rfl _ rfl)) ⟨s, ⟨_, rfl, rfl⟩, hS, fun _ _ => rfl⟩
            | k_ + 2, h_ => exact absurd h_ (by simp)
          rintro _ a X8 h1 h2 h3 h4 hS
          clear BB
          clear FS2
          replace hS : Below V.heap.size V X8 ∧ (X8.ownsRow V.heap.size 4 1 (.slice (some ⟨g3, 0, none⟩) n n) (n) (boolsL (n) (fun j => inI f (j : Int) (i + 1)))) := hS
          obtain ⟨BB, FS2⟩ := hS
          replace t0 := (h3 0 (by decide)).trans t0
          replace t3 := (h3 3 (by decide)).trans t3
          replace t9 := (h3 9 (by decide)).trans t9
          replace t10 := (h3 10 (by decide)).trans t10
          replace t11 : a.eval (.tmp 11) = .int .i64 ((i + 1 : Nat) : Int) := h4 1 _ rfl _ rfl
          replace A := (⟨h1, h2.trans A.2⟩ : a.tmps.size = 33 ∧ a.defers = [])
          clear h1 h2 h3 h4
          exact ⟨⟨i + 1, hlt, okQ_succ hok h1 h2 h3, A, t0, t3, t9, t10, t11, BB, FS2⟩, by show n - (intOf (a.eval (.tmp 11))).toNat < n - (intOf (Act.eval _ (.tmp 11))).toNat; rw [t11, es]; show n - (i + 1) < n - i; omega⟩
  · rw [decide_eq_false hlt] at t12
    refine wp_cond_false t12 ?_
    refine wp_exit ?_
    first | refine exit_in ?_ | refine exit_then (exit_in ?_) | refine exit_then (exit_then (exit_in ?_))
    clear t12 es
    have hin : i = n := by omega
    rw [hin] at hok
    have hE : pE f n = 0 := if_pos hok
    rw [hE]
    clear FXs
    refine wp_seq ?_
    refine wp_region_sq (σ := Unit) 33 [(0, 2)] (fun j_ s X => match j_ with | 0 => Below V.heap.size V X | _ => Below V.heap.size V X) (fun s => fun i_ => match i_ with | 0 => .int .i64 ((0 : Nat) : Int) | _ => undef) () A.1 (by kernel_rfl) (by decide) (by decide) (BB) ?_ ?_
    · intro i_ hi_ s a X hf hv hn hS
      match i_, hi_ with
      | 0, _ => exact stepV rfl rfl (execAsgB rfl rfl) ⟨s, ⟨_, rfl, rfl⟩, hS, fun _ _ => rfl⟩
      | k_ + 1, h_ => exact absurd h_ (by simp)
    rintro _ a X9 h1 h2 h3 h4 hS
    clear BB
    replace hS : Below V.heap.size V X9 := hS
    have BB := hS
    clear hS
    have t2 : a.eval (.tmp 2) = .int .i64 ((0 : Nat) : Int) := h4 0 _ rfl _ rfl
    replace A := (⟨h1, h2.trans A.2⟩ : a.tmps.size = 33 ∧ a.defers = [])
    clear h1 h2 h3 h4
    clear t0 t3 t9 t10 t11
    refine wp_ret ?_
    repeat (first | refine ret_in ?_ | refine ret_then ?_)
    refine bodyPost_ret (results_tmp rfl _ _ _) A.2 ⟨?_, BB⟩
    show Ending.returned (a.eval (.tmp 2)) = _
    rw [t2]
set_option maxRecDepth 100000 in
set_option maxHeartbeats 4000000 in
/-- The program's Identity. -/
theorem pident (k : Int) (V : World) (hk : k ≤ 17592186044416) :
    Calls Try.prog 22 #[.int .i64 k] V fun e w' => ∃ r, e = .returned r ∧ w'.ownsRow V.heap.size 3 1 r k.toNat (intsL k.toNat (fun j => (j : Int))) ∧ Below V.heap.size V w' := by
  obtain ⟨n, hkn⟩ : ∃ n, k.toNat = n := ⟨_, rfl⟩
  have hn17 : n ≤ 17592186044416 := by omega
  rw [hkn]
  go_enter Try.func22, Try.ntmps22
  refine wp_seq ?_
  refine wp_region_sqK 19 [(0, 2)] (fun i_ => match i_ with | 0 => .slice none 0 0 | _ => undef) rfl (by kernel_rfl) (by decide) (by decide) ?_ ?_
  · intro i_ hi_ a hf hv hn
    match i_, hi_ with
    | 0, _ => exact stepV rfl rfl (execAsgB rfl rfl) ⟨⟨_, rfl, rfl⟩, rfl⟩
    | k_ + 1, h_ => exact absurd h_ (by simp)
  intro a h1 h2 h3 h4
  have t0 : a.eval (.tmp 0) = .int .i64 k := (h3 0 (by decide)).trans rfl
  have A : a.tmps.size = 19 ∧ a.defers = [] := ⟨h1, h2⟩
  have BW : Below V.heap.size V V := Below.refl _ _
  clear h1 h2 h3 h4
  have BB := BW
  refine wp_seq ?_
  refine wp_region_sq (σ := Nat) 19 [(0, 5), (1, 6), (2, 7), (3, 3)] (fun j_ s X => match j_ with | 0 => Below V.heap.size V X | 1 => Below V.heap.size V X | 2 => Below V.heap.size V X | 3 => Below V.heap.size V X ∧ (X.ownsRow V.heap.size 3 1 (.slice (some ⟨s, 0, none⟩) n n) (n) (intsL (n) (fun j => if j < 0 then (j : Int) else 0))) ∧ (V.heap.size ≤ s) | _ => Below V.heap.size V X ∧ (X.ownsRow V.heap.size 3 1 (.slice (some ⟨s, 0, none⟩) n n) (n) (intsL (n) (fun j => if j < 0 then (j : Int) else 0))) ∧ (V.heap.size ≤ s)) (fun s => fun i_ => match i_ with | 0 => .int .i64 k | 1 => .int .i64 ((n : Nat) : Int) | 2 => .slice (some ⟨s, 0, none⟩) n n | 3 => .slice (some ⟨s, 0, none⟩) n n | _ => undef) 0 A.1 (by kernel_rfl) (by decide) (by decide) (BB) ?_ ?_
  · intro i_ hi_ s a X hf hv hn hS
    match i_, hi_ with
    | 0, _ => exact stepV rfl rfl (execMvB rfl ((hf 0 (by decide)).trans t0)) ⟨s, ⟨_, rfl, rfl⟩, hS, fun _ _ => rfl⟩
    | 1, _ => exact stepV rfl rfl (execMax0 rfl (hv 0 (by omega) _ rfl _ rfl) hkn) ⟨s, ⟨_, rfl, rfl⟩, hS, fun _ _ => rfl⟩
    | 2, _ =>
      refine stepV rfl rfl (execMkN rfl (hv 1 (by omega) _ rfl _ rfl) (hv 1 (by omega) _ rfl _ rfl) hn17) ⟨X.heap.size, ⟨_, rfl, rfl⟩, ⟨(hS).trans (((belNew X _)).mono (hS).size), ownD_base (own_mkZ X n _ hn17 (fun j_ _ => if_neg (Nat.not_lt_zero _))) (hS).size, (hS).size⟩, fun i hi => ?_⟩
      match i, hi with
      | 0, _ => rfl
      | 1, _ => rfl
      | n_ + 2, h_ => omega
    | 3, _ => exact stepV rfl rfl (execAsgB rfl (hv 2 (by omega) _ rfl _ rfl)) ⟨s, ⟨_, rfl, rfl⟩, hS, fun _ _ => rfl⟩
    | k_ + 4, h_ => exact absurd h_ (by simp)
  rintro g3 a X1 h1 h2 h3 h4 hS
  clear BB
  replace hS : Below V.heap.size V X1 ∧ (X1.ownsRow V.heap.size 3 1 (.slice (some ⟨g3, 0, none⟩) n n) (n) (intsL (n) (fun j => if j < 0 then (j : Int) else 0))) ∧ (V.heap.size ≤ g3) := hS
  obtain ⟨BB, FO, Fg⟩ := hS
  have t3 : a.eval (.tmp 3) = .slice (some ⟨g3, 0, none⟩) n n := h4 3 _ rfl _ rfl
  replace A := (⟨h1, h2.trans A.2⟩ : a.tmps.size = 19 ∧ a.defers = [])
  clear h1 h2 h3 h4
  clear t0
  refine wp_seq ?_
  refine wp_seq ?_
  refine wp_region_sq (σ := Unit) 19 [(0, 8), (1, 9), (2, 10)] (fun j_ s X => match j_ with | 0 => Below V.heap.size V X ∧ (X.ownsRow V.heap.size 3 1 (.slice (some ⟨g3, 0, none⟩) n n) (n) (intsL (n) (fun j => if j < 0 then (j : Int) else 0))) ∧ (V.heap.size ≤ g3) | 1 => Below V.heap.size V X ∧ (X.ownsRow V.heap.size 3 1 (.slice (some ⟨g3, 0, none⟩) n n) (n) (intsL (n) (fun j => if j < 0 then (j : Int) else 0))) ∧ (V.heap.size ≤ g3) | 2 => Below V.heap.size V X ∧ (X.ownsRow V.heap.size 3 1 (.slice (some ⟨g3, 0, none⟩) n n) (n) (intsL (n) (fun j => if j < 0 then (j : Int) else 0))) ∧ (V.heap.size ≤ g3) | _ => Below V.heap.size V X ∧ (X.ownsRow V.heap.size 3 1 (.slice (some ⟨g3, 0, none⟩) n n) (n) (intsL (n) (fun j => if j < 0 then (j : Int) else 0))) ∧ (V.heap.size ≤ g3)) (fun s => fun i_ => match i_ with | 0 => .slice (some ⟨g3, 0, none⟩) n n | 1 => .int .i64 ((n : Nat) : Int) | 2 => .int .i64 ((0 : Nat) : Int) | _ => undef) () A.1 (by kernel_rfl) (by decide) (by decide) ⟨BB, FO, Fg⟩ ?_ ?_
  · intro i_ hi_ s a X hf hv hn hS
    match i_, hi_ with
    | 0, _ => exact stepV rfl rfl (execMvB rfl ((hf 3 (by decide)).trans t3)) ⟨s, ⟨_, rfl, rfl⟩, hS, fun _ _ => rfl⟩
    | 1, _ => exact stepV rfl rfl (execLenI (len := n) rfl (hv 0 (by omega) _ rfl _ rfl) (shpO hS.2.1)) ⟨s, ⟨_, rfl, rfl⟩, hS, fun _ _ => rfl⟩
    | 2, _ => exact stepV rfl rfl (execMvB rfl rfl) ⟨s, ⟨_, rfl, rfl⟩, hS, fun _ _ => rfl⟩
    | k_ + 3, h_ => exact absurd h_ (by simp)
  rintro _ a X2 h1 h2 h3 h4 hS
  clear BB
  clear FO
  clear Fg
  replace hS : Below V.heap.size V X2 ∧ (X2.ownsRow V.heap.size 3 1 (.slice (some ⟨g3, 0, none⟩) n n) (n) (intsL (n) (fun j => if j < 0 then (j : Int) else 0))) ∧ (V.heap.size ≤ g3) := hS
  obtain ⟨BB, FO, Fg⟩ := hS
  replace t3 := (h3 3 (by decide)).trans t3
  have t9 : a.eval (.tmp 9) = .int .i64 ((n : Nat) : Int) := h4 1 _ rfl _ rfl
  have t10 : a.eval (.tmp 10) = .int .i64 ((0 : Nat) : Int) := h4 2 _ rfl _ rfl
  replace A := (⟨h1, h2.trans A.2⟩ : a.tmps.size = 19 ∧ a.defers = [])
  clear h1 h2 h3 h4
  refine wp_block ?_
  refine wp_loop (fun a W => ∃ (i : Nat), i ≤ n ∧ (a.tmps.size = 19 ∧ a.defers = []) ∧ a.eval (.tmp 3) = .slice (some ⟨g3, 0, none⟩) n n ∧ a.eval (.tmp 9) = .int .i64 ((n : Nat) : Int) ∧ a.eval (.tmp 10) = .int .i64 ((i : Nat) : Int) ∧ Below V.heap.size V W ∧ (W.ownsRow V.heap.size 3 1 (.slice (some ⟨g3, 0, none⟩) n n) (n) (intsL (n) (fun j => if j < i then (j : Int) else 0)))) (fun a _ => n - (intOf (a.eval (.tmp 10))).toNat) ⟨0, Nat.zero_le _, A, t3, t9, t10, BB, FO⟩ ?_
  clear A t3 t9 t10 BB FO a
  rintro a XL3 ⟨i, hi, A, t3, t9, t10, BB, FO⟩
  have es := t10
  refine wp_seq ?_
  refine wp_region_sq (σ := Unit) 19 [(0, 11)] (fun j_ s X => match j_ with | 0 => Below V.heap.size V X ∧ (X.ownsRow V.heap.size 3 1 (.slice (some ⟨g3, 0, none⟩) n n) (n) (intsL (n) (fun j => if j < i then (j : Int) else 0))) | _ => Below V.heap.size V X ∧ (X.ownsRow V.heap.size 3 1 (.slice (some ⟨g3, 0, none⟩) n n) (n) (intsL (n) (fun j => if j < i then (j : Int) else 0)))) (fun s => fun i_ => match i_ with | 0 => .bool (decide (i < n)) | _ => undef) () A.1 (by kernel_rfl) (by decide) (by decide) ⟨BB, FO⟩ ?_ ?_
  · intro i_ hi_ s a X hf hv hn hS
    match i_, hi_ with
    | 0, _ => exact stepV rfl rfl (execLtW (p := i) (q := n) rfl ((hf 10 (by decide)).trans t10) ((hf 9 (by decide)).trans t9)) ⟨s, ⟨_, rfl, rfl⟩, hS, fun _ _ => rfl⟩
    | k_ + 1, h_ => exact absurd h_ (by simp)
  rintro _ a X3 h1 h2 h3 h4 hS
  clear BB
  clear FO
  replace hS : Below V.heap.size V X3 ∧ (X3.ownsRow V.heap.size 3 1 (.slice (some ⟨g3, 0, none⟩) n n) (n) (intsL (n) (fun j => if j < i then (j : Int) else 0))) := hS
  obtain ⟨BB, FO⟩ := hS
  replace t3 := (h3 3 (by decide)).trans t3
  replace t9 := (h3 9 (by decide)).trans t9
  replace t10 := (h3 10 (by decide)).trans t10
  have t11 : a.eval (.tmp 11) = .bool (decide (i < n)) := h4 0 _ rfl _ rfl
  replace A := (⟨h1, h2.trans A.2⟩ : a.tmps.size = 19 ∧ a.defers = [])
  clear h1 h2 h3 h4
  refine wp_seq ?_
  by_cases hlt : i < n
  · rw [decide_eq_true hlt] at t11
    refine wp_cond_true t11 ?_
    refine wp_skip ?_
    clear t11
    refine wp_seq ?_
    refine wp_block ?_
    refine wp_seq ?_
    refine wp_region_sq (σ := Unit) 19 [(0, 12), (1, 4)] (fun j_ s X => match j_ with | 0 => Below V.heap.size V X ∧ (X.ownsRow V.heap.size 3 1 (.slice (some ⟨g3, 0, none⟩) n n) (n) (intsL (n) (fun j => if j < i then (j : Int) else 0))) | 1 => Below V.heap.size V X ∧ (X.ownsRow V.heap.size 3 1 (.slice (some ⟨g3, 0, none⟩) n n) (n) (intsL (n) (fun j => if j < i then (j : Int) else 0))) | _ => Below V.heap.size V X ∧ (X.ownsRow V.heap.size 3 1 (.slice (some ⟨g3, 0, none⟩) n n) (n) (intsL (n) (fun j => if j < i then (j : Int) else 0)))) (fun s => fun i_ => match i_ with | 0 => .int .i64 ((i : Nat) : Int) | 1 => .int .i64 ((i : Nat) : Int) | _ => undef) () A.1 (by kernel_rfl) (by decide) (by decide) ⟨BB, FO⟩ ?_ ?_
    · intro i_ hi_ s a X hf hv hn hS
      match i_, hi_ with
      | 0, _ => exact stepV rfl rfl (execMvB rfl ((hf 10 (by decide)).trans t10)) ⟨s, ⟨_, rfl, rfl⟩, hS, fun _ _ => rfl⟩
      | 1, _ => exact stepV rfl rfl (execAsgB rfl (hv 0 (by omega) _ rfl _ rfl)) ⟨s, ⟨_, rfl, rfl⟩, hS, fun _ _ => rfl⟩
      | k_ + 2, h_ => exact absurd h_ (by simp)
    rintro _ a X4 h1 h2 h3 h4 hS
    clear BB
    clear FO
    replace hS : Below V.heap.size V X4 ∧ (X4.ownsRow V.heap.size 3 1 (.slice (some ⟨g3, 0, none⟩) n n) (n) (intsL (n) (fun j => if j < i then (j : Int) else 0))) := hS
    obtain ⟨BB, FO⟩ := hS
    replace t3 := (h3 3 (by decide)).trans t3
    replace t9 := (h3 9 (by decide)).trans t9
    replace t10 := (h3 10 (by decide)).trans t10
    have t4 : a.eval (.tmp 4) = .int .i64 ((i : Nat) : Int) := h4 1 _ rfl _ rfl
    replace A := (⟨h1, h2.trans A.2⟩ : a.tmps.size = 19 ∧ a.defers = [])
    clear h1 h2 h3 h4
    refine wp_region_sq (σ := Unit) 19 [(0, 13), (1, 14), (2, 15), (3, 16)] (fun j_ s X => match j_ with | 0 => Below V.heap.size V X ∧ (X.ownsRow V.heap.size 3 1 (.slice (some ⟨g3, 0, none⟩) n n) (n) (intsL (n) (fun j => if j < i then (j : Int) else 0))) | 1 => Below V.heap.size V X ∧ (X.ownsRow V.heap.size 3 1 (.slice (some ⟨g3, 0, none⟩) n n) (n) (intsL (n) (fun j => if j < i then (j : Int) else 0))) | 2 => Below V.heap.size V X ∧ (X.ownsRow V.heap.size 3 1 (.slice (some ⟨g3, 0, none⟩) n n) (n) (intsL (n) (fun j => if j < i then (j : Int) else 0))) | 3 => Below V.heap.size V X ∧ (X.ownsRow V.heap.size 3 1 (.slice (some ⟨g3, 0, none⟩) n n) (n) (intsL (n) (fun j => if j < i then (j : Int) else 0))) | 4 => Below V.heap.size V X ∧ (X.ownsRow V.heap.size 3 1 (.slice (some ⟨g3, 0, none⟩) n n) (n) (intsL (n) (fun j => if j < i then (j : Int) else 0))) | _ => Below V.heap.size V X ∧ (X.ownsRow V.heap.size 3 1 (.slice (some ⟨g3, 0, none⟩) n n) (n) (intsL (n) (fun j => if j < (i + 1) then (j : Int) else 0)))) (fun s => fun i_ => match i_ with | 0 => .slice (some ⟨g3, 0, none⟩) n n | 1 => .int .i64 ((i : Nat) : Int) | 2 => .int .i64 ((i : Nat) : Int) | 3 => .pointer (some ⟨g3, 0 + i, none⟩) | 4 => undef | _ => undef) () A.1 (by kernel_rfl) (by decide) (by decide) ⟨BB, FO⟩ ?_ ?_
    · intro i_ hi_ s a X hf hv hn hS
      match i_, hi_ with
      | 0, _ => exact stepV rfl rfl (execMvB rfl ((hf 3 (by decide)).trans t3)) ⟨s, ⟨_, rfl, rfl⟩, hS, fun _ _ => rfl⟩
      | 1, _ => exact stepV rfl rfl (execMvB rfl ((hf 4 (by decide)).trans t4)) ⟨s, ⟨_, rfl, rfl⟩, hS, fun _ _ => rfl⟩
      | 2, _ => exact stepV rfl rfl (execMvB rfl ((hf 4 (by decide)).trans t4)) ⟨s, ⟨_, rfl, rfl⟩, hS, fun _ _ => rfl⟩
      | 3, _ => exact stepV rfl rfl (execIdxN (k := i) rfl (hv 0 (by omega) _ rfl _ rfl) (hv 1 (by omega) _ rfl _ rfl) hlt) ⟨s, ⟨_, rfl, rfl⟩, hS, fun _ _ => rfl⟩
      | 4, _ =>
        obtain ⟨hc_, hf_⟩ := own_cellI hS.2 hlt
        refine stepS rfl rfl (execStI9 rfl (hv 3 (by omega) _ rfl _ rfl) (hv 2 (by omega) _ rfl _ rfl) hc_ hf_) ⟨s, ⟨_, rfl, rfl⟩, ⟨(hS.1).setCell Fg _, own_fill hS.2 rfl⟩, fun i hi => ?_⟩
        match i, hi with
        | 0, _ => rfl
        | 1, _ => rfl
        | 2, _ => rfl
        | 3, _ => rfl
        | n_ + 4, h_ => omega
      | k_ + 5, h_ => exact absurd h_ (by simp)
    rintro _ a X5 h1 h2 h3 h4 hS
    clear BB
    clear FO
    replace hS : Below V.heap.size V X5 ∧ (X5.ownsRow V.heap.size 3 1 (.slice (some ⟨g3, 0, none⟩) n n) (n) (intsL (n) (fun j => if j < (i + 1) then (j : Int) else 0))) := hS
    obtain ⟨BB, FO2⟩ := hS
    replace t3 := (h3 3 (by decide)).trans t3
    replace t9 := (h3 9 (by decide)).trans t9
    replace t10 := (h3 10 (by decide)).trans t10
    replace A := (⟨h1, h2.trans A.2⟩ : a.tmps.size = 19 ∧ a.defers = [])
    clear h1 h2 h3 h4
    clear t4
    refine wp_region_sq (σ := Unit) 19 [(0, 17), (1, 10)] (fun j_ s X => match j_ with | 0 => Below V.heap.size V X ∧ (X.ownsRow V.heap.size 3 1 (.slice (some ⟨g3, 0, none⟩) n n) (n) (intsL (n) (fun j => if j < (i + 1) then (j : Int) else 0))) | 1 => Below V.heap.size V X ∧ (X.ownsRow V.heap.size 3 1 (.slice (some ⟨g3, 0, none⟩) n n) (n) (intsL (n) (fun j => if j < (i + 1) then (j : Int) else 0))) | _ => Below V.heap.size V X ∧ (X.ownsRow V.heap.size 3 1 (.slice (some ⟨g3, 0, none⟩) n n) (n) (intsL (n) (fun j => if j < (i + 1) then (j : Int) else 0)))) (fun s => fun i_ => match i_ with | 0 => .int .i64 ((i + 1 : Nat) : Int) | 1 => .int .i64 ((i + 1 : Nat) : Int) | _ => undef) () A.1 (by kernel_rfl) (by decide) (by decide) ⟨BB, FO2⟩ ?_ ?_
    · intro i_ hi_ s a X hf hv hn hS
      match i_, hi_ with
      | 0, _ => exact stepV rfl rfl (execAd8 (p := i) (q := 1) rfl ((hn 1 (by omega) _ rfl _ rfl).trans t10) rfl (by omega)) ⟨s, ⟨_, rfl, rfl⟩, hS, fun _ _ => rfl⟩
      | 1, _ => exact stepV rfl rfl (execMvB rfl (hv 0 (by omega) _ rfl _ rfl)) ⟨s, ⟨_, rfl, rfl⟩, hS, fun _ _ => rfl⟩
      | k_ + 2, h_ => exact absurd h_ (by simp)
    rintro _ a X6 h1 h2 h3 h4 hS
    clear BB
    clear FO2
    replace hS : Below V.heap.size V X6 ∧ (X6.ownsRow V.heap.size 3 1 (.slice (some ⟨g3, 0, none⟩) n n) (n) (intsL (n) (fun j => if j < (i + 1) then (j : Int) else 0))) := hS
    obtain ⟨BB, FO2⟩ := hS
    replace t3 := (h3 3 (by decide)).trans t3
    replace t9 := (h3 9 (by decide)).trans t9
    replace t10 : a.eval (.tmp 10) = .int .i64 ((i + 1 : Nat) : Int) := h4 1 _ rfl _ rfl
    replace A := (⟨h1, h2.trans A.2⟩ : a.tmps.size = 19 ∧ a.defers = [])
    clear h1 h2 h3 h4
    exact ⟨⟨i + 1, hlt, A, t3, t9, t10, BB, FO2⟩, by show n - (intOf (a.eval (.tmp 10))).toNat < n - (intOf (Act.eval _ (.tmp 10))).toNat; rw [t10, es]; show n - (i + 1) < n - i; omega⟩
  · rw [decide_eq_false hlt] at t11
    refine wp_cond_false t11 ?_
    refine wp_exit ?_
    first | refine exit_in ?_ | refine exit_then (exit_in ?_) | refine exit_then (exit_then (exit_in ?_))
    clear t11 es
    have hin : i = n := by omega
    rw [hin] at FO
    rw [intsL_congr (g := fun j => (j : Int)) (fun j hj => if_pos hj)] at FO
    refine wp_seq ?_
    refine wp_region_sq (σ := Unit) 19 [(0, 18), (1, 2)] (fun j_ s X => match j_ with | 0 => Below V.heap.size V X ∧ (X.ownsRow V.heap.size 3 1 (.slice (some ⟨g3, 0, none⟩) n n) (n) (intsL (n) (fun j => (j : Int)))) | 1 => Below V.heap.size V X ∧ (X.ownsRow V.heap.size 3 1 (.slice (some ⟨g3, 0, none⟩) n n) (n) (intsL (n) (fun j => (j : Int)))) | _ => Below V.heap.size V X ∧ (X.ownsRow V.heap.size 3 1 (.slice (some ⟨g3, 0, none⟩) n n) (n) (intsL (n) (fun j => (j : Int))))) (fun s => fun i_ => match i_ with | 0 => .slice (some ⟨g3, 0, none⟩) n n | 1 => .slice (some ⟨g3, 0, none⟩) n n | _ => undef) () A.1 (by kernel_rfl) (by decide) (by decide) ⟨BB, FO⟩ ?_ ?_
    · intro i_ hi_ s a X hf hv hn hS
      match i_, hi_ with
      | 0, _ => exact stepV rfl rfl (execMvB rfl ((hf 3 (by decide)).trans t3)) ⟨s, ⟨_, rfl, rfl⟩, hS, fun _ _ => rfl⟩
      | 1, _ => exact stepV rfl rfl (execAsgB rfl (hv 0 (by omega) _ rfl _ rfl)) ⟨s, ⟨_, rfl, rfl⟩, hS, fun _ _ => rfl⟩
      | k_ + 2, h_ => exact absurd h_ (by simp)
    rintro _ a X7 h1 h2 h3 h4 hS
    clear BB
    clear FO
    replace hS : Below V.heap.size V X7 ∧ (X7.ownsRow V.heap.size 3 1 (.slice (some ⟨g3, 0, none⟩) n n) (n) (intsL (n) (fun j => (j : Int)))) := hS
    obtain ⟨BB, FO⟩ := hS
    have t2 : a.eval (.tmp 2) = .slice (some ⟨g3, 0, none⟩) n n := h4 1 _ rfl _ rfl
    replace A := (⟨h1, h2.trans A.2⟩ : a.tmps.size = 19 ∧ a.defers = [])
    clear h1 h2 h3 h4
    clear t3 t9 t10
    refine wp_ret ?_
    refine bodyPost_ret (results_tmp rfl _ _ _) A.2 ⟨_, ?_, FO, BB⟩
    show Ending.returned (a.eval (.tmp 2)) = _
    rw [t2]
set_option maxRecDepth 100000 in
set_option maxHeartbeats 4000000 in
/-- How many draws. -/
theorem pdrawsFor (k : Int) (V : World) (hk : k < 9223372036854775808) :
    Calls Try.prog 36 #[.int .i64 k] V fun e w' => e = .returned (.int .i64 (((k - 1).toNat : Nat) : Int)) ∧ Below V.heap.size V w' := by
  go_enter Try.func36, Try.ntmps36
  refine wp_seq ?_
  refine wp_region_sqK 7 [(0, 2)] (fun i_ => match i_ with | 0 => .int .i64 ((0 : Nat) : Int) | _ => undef) rfl (by kernel_rfl) (by decide) (by decide) ?_ ?_
  · intro i_ hi_ a hf hv hn
    match i_, hi_ with
    | 0, _ => exact stepV rfl rfl (execAsgB rfl rfl) ⟨⟨_, rfl, rfl⟩, rfl⟩
    | k_ + 1, h_ => exact absurd h_ (by simp)
  intro a h1 h2 h3 h4
  have t0 : a.eval (.tmp 0) = .int .i64 k := (h3 0 (by decide)).trans rfl
  have A : a.tmps.size = 7 ∧ a.defers = [] := ⟨h1, h2⟩
  have BW : Below V.heap.size V V := Below.refl _ _
  clear h1 h2 h3 h4
  have BB := BW
  refine wp_seq ?_
  refine wp_seq ?_
  by_cases h1 : k < 2
  · refine wp_region_sq (σ := Unit) 7 [(0, 3), (1, 4)] (fun j_ s X => match j_ with | 0 => Below V.heap.size V X | 1 => Below V.heap.size V X | _ => Below V.heap.size V X) (fun s => fun i_ => match i_ with | 0 => .int .i64 k | 1 => .bool true | _ => undef) () A.1 (by kernel_rfl) (by decide) (by decide) (BB) ?_ ?_
    · intro i_ hi_ s a X hf hv hn hS
      match i_, hi_ with
      | 0, _ => exact stepV rfl rfl (execMvB rfl ((hf 0 (by decide)).trans t0)) ⟨s, ⟨_, rfl, rfl⟩, hS, fun _ _ => rfl⟩
      | 1, _ => exact stepV rfl rfl (execLtCt (p := k) (q := 2) rfl (hv 0 (by omega) _ rfl _ rfl) (by exact h1)) ⟨s, ⟨_, rfl, rfl⟩, hS, fun _ _ => rfl⟩
      | k_ + 2, h_ => exact absurd h_ (by simp)
    rintro _ a X1 h1 h2 h3 h4 hS
    clear BB
    replace hS : Below V.heap.size V X1 := hS
    have BB := hS
    clear hS
    replace t0 := (h3 0 (by decide)).trans t0
    have t4 : a.eval (.tmp 4) = .bool true := h4 1 _ rfl _ rfl
    replace A := (⟨h1, h2.trans A.2⟩ : a.tmps.size = 7 ∧ a.defers = [])
    clear h1 h2 h3 h4
    refine wp_cond_true t4 ?_
    refine wp_seq ?_
    refine wp_region_sq (σ := Unit) 7 [(0, 2)] (fun j_ s X => match j_ with | 0 => Below V.heap.size V X | _ => Below V.heap.size V X) (fun s => fun i_ => match i_ with | 0 => .int .i64 ((0 : Nat) : Int) | _ => undef) () A.1 (by kernel_rfl) (by decide) (by decide) (BB) ?_ ?_
    · intro i_ hi_ s a X hf hv hn hS
      match i_, hi_ with
      | 0, _ => exact stepV rfl rfl (execAsgB rfl rfl) ⟨s, ⟨_, rfl, rfl⟩, hS, fun _ _ => rfl⟩
      | k_ + 1, h_ => exact absurd h_ (by simp)
    rintro _ a X2 h1 h2 h3 h4 hS
    clear BB
    replace hS : Below V.heap.size V X2 := hS
    have BB := hS
    clear hS
    have t2 : a.eval (.tmp 2) = .int .i64 ((0 : Nat) : Int) := h4 0 _ rfl _ rfl
    replace A := (⟨h1, h2.trans A.2⟩ : a.tmps.size = 7 ∧ a.defers = [])
    clear h1 h2 h3 h4
    clear t0
    have hE : (k - 1).toNat = 0 := by omega
    rw [hE]
    refine wp_ret ?_
    repeat (first | refine ret_in ?_ | refine ret_then ?_)
    refine bodyPost_ret (results_tmp rfl _ _ _) A.2 ⟨?_, BB⟩
    show Ending.returned (a.eval (.tmp 2)) = _
    rw [t2]
  · refine wp_region_sq (σ := Unit) 7 [(0, 3), (1, 4)] (fun j_ s X => match j_ with | 0 => Below V.heap.size V X | 1 => Below V.heap.size V X | _ => Below V.heap.size V X) (fun s => fun i_ => match i_ with | 0 => .int .i64 k | 1 => .bool false | _ => undef) () A.1 (by kernel_rfl) (by decide) (by decide) (BB) ?_ ?_
    · intro i_ hi_ s a X hf hv hn hS
      match i_, hi_ with
      | 0, _ => exact stepV rfl rfl (execMvB rfl ((hf 0 (by decide)).trans t0)) ⟨s, ⟨_, rfl, rfl⟩, hS, fun _ _ => rfl⟩
      | 1, _ => exact stepV rfl rfl (execLtCf (p := k) (q := 2) rfl (hv 0 (by omega) _ rfl _ rfl) (by exact h1)) ⟨s, ⟨_, rfl, rfl⟩, hS, fun _ _ => rfl⟩
      | k_ + 2, h_ => exact absurd h_ (by simp)
    rintro _ a X1 h1 h2 h3 h4 hS
    clear BB
    replace hS : Below V.heap.size V X1 := hS
    have BB := hS
    clear hS
    replace t0 := (h3 0 (by decide)).trans t0
    have t4 : a.eval (.tmp 4) = .bool false := h4 1 _ rfl _ rfl
    replace A := (⟨h1, h2.trans A.2⟩ : a.tmps.size = 7 ∧ a.defers = [])
    clear h1 h2 h3 h4
    refine wp_cond_false t4 ?_
    refine wp_skip ?_
    clear t4
    refine wp_seq ?_
    refine wp_region_sq (σ := Unit) 7 [(0, 5), (1, 6), (2, 2)] (fun j_ s X => match j_ with | 0 => Below V.heap.size V X | 1 => Below V.heap.size V X | 2 => Below V.heap.size V X | _ => Below V.heap.size V X) (fun s => fun i_ => match i_ with | 0 => .int .i64 k | 1 => .int .i64 (((k - 1).toNat : Nat) : Int) | 2 => .int .i64 (((k - 1).toNat : Nat) : Int) | _ => undef) () A.1 (by kernel_rfl) (by decide) (by decide) (BB) ?_ ?_
    · intro i_ hi_ s a X hf hv hn hS
      match i_, hi_ with
      | 0, _ => exact stepV rfl rfl (execMvB rfl ((hf 0 (by decide)).trans t0)) ⟨s, ⟨_, rfl, rfl⟩, hS, fun _ _ => rfl⟩
      | 1, _ => exact stepV rfl rfl (execSubIg (q := 1) (z := (((k - 1).toNat : Nat) : Int)) rfl (hv 0 (by omega) _ rfl _ rfl) rfl (by omega) (by omega) (by omega)) ⟨s, ⟨_, rfl, rfl⟩, hS, fun _ _ => rfl⟩
      | 2, _ => exact stepV rfl rfl (execAsgB rfl (hv 1 (by omega) _ rfl _ rfl)) ⟨s, ⟨_, rfl, rfl⟩, hS, fun _ _ => rfl⟩
      | k_ + 3, h_ => exact absurd h_ (by simp)
    rintro _ a X3 h1 h2 h3 h4 hS
    clear BB
    replace hS : Below V.heap.size V X3 := hS
    have BB := hS
    clear hS
    have t2 : a.eval (.tmp 2) = .int .i64 (((k - 1).toNat : Nat) : Int) := h4 2 _ rfl _ rfl
    replace A := (⟨h1, h2.trans A.2⟩ : a.tmps.size = 7 ∧ a.defers = [])
    clear h1 h2 h3 h4
    clear t0
    refine wp_ret ?_
    repeat (first | refine ret_in ?_ | refine ret_then ?_)
    refine bodyPost_ret (results_tmp rfl _ _ _) A.2 ⟨?_, BB⟩
    show Ending.returned (a.eval (.tmp 2)) = _
    rw [t2]
set_option maxRecDepth 100000 in
set_option maxHeartbeats 4000000 in
/-- The program's Bounds. -/
theorem pbounds (k : Int) (V : World) (hk : k ≤ 17592186044416) :
    Calls Try.prog 24 #[.int .i64 k] V fun e w' => ∃ r, e = .returned r ∧ w'.ownsRow V.heap.size 3 1 r (k - 1).toNat (intsL (k - 1).toNat (fun j => k - (j : Int))) ∧ Below V.heap.size V w' := by
  obtain ⟨n, hkn⟩ : ∃ n, (k - 1).toNat = n := ⟨_, rfl⟩
  have hn17 : n ≤ 17592186044416 := by omega
  rw [hkn]
  go_enter Try.func24, Try.ntmps24
  refine wp_seq ?_
  refine wp_region_sqK 21 [(0, 2)] (fun i_ => match i_ with | 0 => .slice none 0 0 | _ => undef) rfl (by kernel_rfl) (by decide) (by decide) ?_ ?_
  · intro i_ hi_ a hf hv hn
    match i_, hi_ with
    | 0, _ => exact stepV rfl rfl (execAsgB rfl rfl) ⟨⟨_, rfl, rfl⟩, rfl⟩
    | k_ + 1, h_ => exact absurd h_ (by simp)
  intro a h1 h2 h3 h4
  have t0 : a.eval (.tmp 0) = .int .i64 k := (h3 0 (by decide)).trans rfl
  have A : a.tmps.size = 21 ∧ a.defers = [] := ⟨h1, h2⟩
  have BW : Below V.heap.size V V := Below.refl _ _
  clear h1 h2 h3 h4
  have BB := BW
  refine wp_seq ?_
  refine wp_region_sq (σ := Nat) 21 [(0, 5), (1, 6), (2, 7), (3, 3)] (fun j_ s X => match j_ with | 0 => Below V.heap.size V X | 1 => Below V.heap.size V X | 2 => Below V.heap.size V X | 3 => Below V.heap.size V X ∧ (X.ownsRow V.heap.size 3 1 (.slice (some ⟨s, 0, none⟩) n n) (n) (intsL (n) (fun j => if j < 0 then k - (j : Int) else 0))) ∧ (V.heap.size ≤ s) | _ => Below V.heap.size V X ∧ (X.ownsRow V.heap.size 3 1 (.slice (some ⟨s, 0, none⟩) n n) (n) (intsL (n) (fun j => if j < 0 then k - (j : Int) else 0))) ∧ (V.heap.size ≤ s)) (fun s => fun i_ => match i_ with | 0 => .int .i64 k | 1 => .int .i64 ((n : Nat) : Int) | 2 => .slice (some ⟨s, 0, none⟩) n n | 3 => .slice (some ⟨s, 0, none⟩) n n | _ => undef) 0 A.1 (by kernel_rfl) (by decide) (by decide) (BB) ?_ ?_
  · intro i_ hi_ s a X hf hv hn hS
    match i_, hi_ with
    | 0, _ => exact stepV rfl rfl (execMvB rfl ((hf 0 (by decide)).trans t0)) ⟨s, ⟨_, rfl, rfl⟩, hS, fun _ _ => rfl⟩
    | 1, _ => exact stepC rfl rfl (execCall1 Try.func36 (by kernel_rfl) (by kernel_rfl) rfl (hv 0 (by omega) _ rfl _ rfl)) (hkn ▸ pdrawsFor k X (by omega)) fun e w' hh => ⟨_, hh.1, s, ⟨_, rfl, rfl⟩, (hS).trans ((hh.2).mono (hS).size), fun _ _ => rfl⟩
    | 2, _ =>
      refine stepV rfl rfl (execMkN rfl (hv 1 (by omega) _ rfl _ rfl) (hv 1 (by omega) _ rfl _ rfl) hn17) ⟨X.heap.size, ⟨_, rfl, rfl⟩, ⟨(hS).trans (((belNew X _)).mono (hS).size), ownD_base (own_mkZ X n _ hn17 (fun j_ _ => if_neg (Nat.not_lt_zero _))) (hS).size, (hS).size⟩, fun i hi => ?_⟩
      match i, hi with
      | 0, _ => rfl
      | 1, _ => rfl
      | n_ + 2, h_ => omega
    | 3, _ => exact stepV rfl rfl (execAsgB rfl (hv 2 (by omega) _ rfl _ rfl)) ⟨s, ⟨_, rfl, rfl⟩, hS, fun _ _ => rfl⟩
    | k_ + 4, h_ => exact absurd h_ (by simp)
  rintro g3 a X1 h1 h2 h3 h4 hS
  clear BB
  replace hS : Below V.heap.size V X1 ∧ (X1.ownsRow V.heap.size 3 1 (.slice (some ⟨g3, 0, none⟩) n n) (n) (intsL (n) (fun j => if j < 0 then k - (j : Int) else 0))) ∧ (V.heap.size ≤ g3) := hS
  obtain ⟨BB, FO, Fg⟩ := hS
  replace t0 := (h3 0 (by decide)).trans t0
  have t3 : a.eval (.tmp 3) = .slice (some ⟨g3, 0, none⟩) n n := h4 3 _ rfl _ rfl
  replace A := (⟨h1, h2.trans A.2⟩ : a.tmps.size = 21 ∧ a.defers = [])
  clear h1 h2 h3 h4
  refine wp_seq ?_
  refine wp_seq ?_
  refine wp_region_sq (σ := Unit) 21 [(0, 8), (1, 9), (2, 10)] (fun j_ s X => match j_ with | 0 => Below V.heap.size V X ∧ (X.ownsRow V.heap.size 3 1 (.slice (some ⟨g3, 0, none⟩) n n) (n) (intsL (n) (fun j => if j < 0 then k - (j : Int) else 0))) ∧ (V.heap.size ≤ g3) | 1 => Below V.heap.size V X ∧ (X.ownsRow V.heap.size 3 1 (.slice (some ⟨g3, 0, none⟩) n n) (n) (intsL (n) (fun j => if j < 0 then k - (j : Int) else 0))) ∧ (V.heap.size ≤ g3) | 2 => Below V.heap.size V X ∧ (X.ownsRow V.heap.size 3 1 (.slice (some ⟨g3, 0, none⟩) n n) (n) (intsL (n) (fun j => if j < 0 then k - (j : Int) else 0))) ∧ (V.heap.size ≤ g3) | _ => Below V.heap.size V X ∧ (X.ownsRow V.heap.size 3 1 (.slice (some ⟨g3, 0, none⟩) n n) (n) (intsL (n) (fun j => if j < 0 then k - (j : Int) else 0))) ∧ (V.heap.size ≤ g3)) (fun s => fun i_ => match i_ with | 0 => .slice (some ⟨g3, 0, none⟩) n n | 1 => .int .i64 ((n : Nat) : Int) | 2 => .int .i64 ((0 : Nat) : Int) | _ => undef) () A.1 (by kernel_rfl) (by decide) (by decide) ⟨BB, FO, Fg⟩ ?_ ?_
  · intro i_ hi_ s a X hf hv hn hS
    match i_, hi_ with
    | 0, _ => exact stepV rfl rfl (execMvB rfl ((hf 3 (by decide)).trans t3)) ⟨s, ⟨_, rfl, rfl⟩, hS, fun _ _ => rfl⟩
    | 1, _ => exact stepV rfl rfl (execLenI (len := n) rfl (hv 0 (by omega) _ rfl _ rfl) (shpO hS.2.1)) ⟨s, ⟨_, rfl, rfl⟩, hS, fun _ _ => rfl⟩
    | 2, _ => exact stepV rfl rfl (execMvB rfl rfl) ⟨s, ⟨_, rfl, rfl⟩, hS, fun _ _ => rfl⟩
    | k_ + 3, h_ => exact absurd h_ (by simp)
  rintro _ a X2 h1 h2 h3 h4 hS
  clear BB
  clear FO
  clear Fg
  replace hS : Below V.heap.size V X2 ∧ (X2.ownsRow V.heap.size 3 1 (.slice (some ⟨g3, 0, none⟩) n n) (n) (intsL (n) (fun j => if j < 0 then k - (j : Int) else 0))) ∧ (V.heap.size ≤ g3) := hS
  obtain ⟨BB, FO, Fg⟩ := hS
  replace t0 := (h3 0 (by decide)).trans t0
  replace t3 := (h3 3 (by decide)).trans t3
  have t9 : a.eval (.tmp 9) = .int .i64 ((n : Nat) : Int) := h4 1 _ rfl _ rfl
  have t10 : a.eval (.tmp 10) = .int .i64 ((0 : Nat) : Int) := h4 2 _ rfl _ rfl
  replace A := (⟨h1, h2.trans A.2⟩ : a.tmps.size = 21 ∧ a.defers = [])
  clear h1 h2 h3 h4
  refine wp_block ?_
  refine wp_loop (fun a W => ∃ (i : Nat), i ≤ n ∧ (a.tmps.size = 21 ∧ a.defers = []) ∧ a.eval (.tmp 0) = .int .i64 k ∧ a.eval (.tmp 3) = .slice (some ⟨g3, 0, none⟩) n n ∧ a.eval (.tmp 9) = .int .i64 ((n : Nat) : Int) ∧ a.eval (.tmp 10) = .int .i64 ((i : Nat) : Int) ∧ Below V.heap.size V W ∧ (W.ownsRow V.heap.size 3 1 (.slice (some ⟨g3, 0, none⟩) n n) (n) (intsL (n) (fun j => if j < i then k - (j : Int) else 0)))) (fun a _ => n - (intOf (a.eval (.tmp 10))).toNat) ⟨0, Nat.zero_le _, A, t0, t3, t9, t10, BB, FO⟩ ?_
  clear A t0 t3 t9 t10 BB FO a
  rintro a XL3 ⟨i, hi, A, t0, t3, t9, t10, BB, FO⟩
  have es := t10
  refine wp_seq ?_
  refine wp_region_sq (σ := Unit) 21 [(0, 11)] (fun j_ s X => match j_ with | 0 => Below V.heap.size V X ∧ (X.ownsRow V.heap.size 3 1 (.slice (some ⟨g3, 0, none⟩) n n) (n) (intsL (n) (fun j => if j < i then k - (j : Int) else 0))) | _ => Below V.heap.size V X ∧ (X.ownsRow V.heap.size 3 1 (.slice (some ⟨g3, 0, none⟩) n n) (n) (intsL (n) (fun j => if j < i then k - (j : Int) else 0)))) (fun s => fun i_ => match i_ with | 0 => .bool (decide (i < n)) | _ => undef) () A.1 (by kernel_rfl) (by decide) (by decide) ⟨BB, FO⟩ ?_ ?_
  · intro i_ hi_ s a X hf hv hn hS
    match i_, hi_ with
    | 0, _ => exact stepV rfl rfl (execLtW (p := i) (q := n) rfl ((hf 10 (by decide)).trans t10) ((hf 9 (by decide)).trans t9)) ⟨s, ⟨_, rfl, rfl⟩, hS, fun _ _ => rfl⟩
    | k_ + 1, h_ => exact absurd h_ (by simp)
  rintro _ a X3 h1 h2 h3 h4 hS
  clear BB
  clear FO
  replace hS : Below V.heap.size V X3 ∧ (X3.ownsRow V.heap.size 3 1 (.slice (some ⟨g3, 0, none⟩) n n) (n) (intsL (n) (fun j => if j < i then k - (j : Int) else 0))) := hS
  obtain ⟨BB, FO⟩ := hS
  replace t0 := (h3 0 (by decide)).trans t0
  replace t3 := (h3 3 (by decide)).trans t3
  replace t9 := (h3 9 (by decide)).trans t9
  replace t10 := (h3 10 (by decide)).trans t10
  have t11 : a.eval (.tmp 11) = .bool (decide (i < n)) := h4 0 _ rfl _ rfl
  replace A := (⟨h1, h2.trans A.2⟩ : a.tmps.size = 21 ∧ a.defers = [])
  clear h1 h2 h3 h4
  refine wp_seq ?_
  by_cases hlt : i < n
  · rw [decide_eq_true hlt] at t11
    refine wp_cond_true t11 ?_
    refine wp_skip ?_
    clear t11
    refine wp_seq ?_
    refine wp_block ?_
    refine wp_seq ?_
    refine wp_region_sq (σ := Unit) 21 [(0, 12), (1, 4)] (fun j_ s X => match j_ with | 0 => Below V.heap.size V X ∧ (X.ownsRow V.heap.size 3 1 (.slice (some ⟨g3, 0, none⟩) n n) (n) (intsL (n) (fun j => if j < i then k - (j : Int) else 0))) | 1 => Below V.heap.size V X ∧ (X.ownsRow V.heap.size 3 1 (.slice (some ⟨g3, 0, none⟩) n n) (n) (intsL (n) (fun j => if j < i then k - (j : Int) else 0))) | _ => Below V.heap.size V X ∧ (X.ownsRow V.heap.size 3 1 (.slice (some ⟨g3, 0, none⟩) n n) (n) (intsL (n) (fun j => if j < i then k - (j : Int) else 0)))) (fun s => fun i_ => match i_ with | 0 => .int .i64 ((i : Nat) : Int) | 1 => .int .i64 ((i : Nat) : Int) | _ => undef) () A.1 (by kernel_rfl) (by decide) (by decide) ⟨BB, FO⟩ ?_ ?_
    · intro i_ hi_ s a X hf hv hn hS
      match i_, hi_ with
      | 0, _ => exact stepV rfl rfl (execMvB rfl ((hf 10 (by decide)).trans t10)) ⟨s, ⟨_, rfl, rfl⟩, hS, fun _ _ => rfl⟩
      | 1, _ => exact stepV rfl rfl (execAsgB rfl (hv 0 (by omega) _ rfl _ rfl)) ⟨s, ⟨_, rfl, rfl⟩, hS, fun _ _ => rfl⟩
      | k_ + 2, h_ => exact absurd h_ (by simp)
    rintro _ a X4 h1 h2 h3 h4 hS
    clear BB
    clear FO
    replace hS : Below V.heap.size V X4 ∧ (X4.ownsRow V.heap.size 3 1 (.slice (some ⟨g3, 0, none⟩) n n) (n) (intsL (n) (fun j => if j < i then k - (j : Int) else 0))) := hS
    obtain ⟨BB, FO⟩ := hS
    replace t0 := (h3 0 (by decide)).trans t0
    replace t3 := (h3 3 (by decide)).trans t3
    replace t9 := (h3 9 (by decide)).trans t9
    replace t10 := (h3 10 (by decide)).trans t10
    have t4 : a.eval (.tmp 4) = .int .i64 ((i : Nat) : Int) := h4 1 _ rfl _ rfl
    replace A := (⟨h1, h2.trans A.2⟩ : a.tmps.size = 21 ∧ a.defers = [])
    clear h1 h2 h3 h4
    refine wp_region_sq (σ := Unit) 21 [(0, 13), (1, 14), (2, 15), (3, 16), (4, 17), (5, 18)] (fun j_ s X => match j_ with | 0 => Below V.heap.size V X ∧ (X.ownsRow V.heap.size 3 1 (.slice (some ⟨g3, 0, none⟩) n n) (n) (intsL (n) (fun j => if j < i then k - (j : Int) else 0))) | 1 => Below V.heap.size V X ∧ (X.ownsRow V.heap.size 3 1 (.slice (some ⟨g3, 0, none⟩) n n) (n) (intsL (n) (fun j => if j < i then k - (j : Int) else 0))) | 2 => Below V.heap.size V X ∧ (X.ownsRow V.heap.size 3 1 (.slice (some ⟨g3, 0, none⟩) n n) (n) (intsL (n) (fun j => if j < i then k - (j : Int) else 0))) | 3 => Below V.heap.size V X ∧ (X.ownsRow V.heap.size 3 1 (.slice (some ⟨g3, 0, none⟩) n n) (n) (intsL (n) (fun j => if j < i then k - (j : Int) else 0))) | 4 => Below V.heap.size V X ∧ (X.ownsRow V.heap.size 3 1 (.slice (some ⟨g3, 0, none⟩) n n) (n) (intsL (n) (fun j => if j < i then k - (j : Int) else 0))) | 5 => Below V.heap.size V X ∧ (X.ownsRow V.heap.size 3 1 (.slice (some ⟨g3, 0, none⟩) n n) (n) (intsL (n) (fun j => if j < i then k - (j : Int) else 0))) | 6 => Below V.heap.size V X ∧ (X.ownsRow V.heap.size 3 1 (.slice (some ⟨g3, 0, none⟩) n n) (n) (intsL (n) (fun j => if j < i then k - (j : Int) else 0))) | _ => Below V.heap.size V X ∧ (X.ownsRow V.heap.size 3 1 (.slice (some ⟨g3, 0, none⟩) n n) (n) (intsL (n) (fun j => if j < (i + 1) then k - (j : Int) else 0)))) (fun s => fun i_ => match i_ with | 0 => .slice (some ⟨g3, 0, none⟩) n n | 1 => .int .i64 ((i : Nat) : Int) | 2 => .int .i64 k | 3 => .int .i64 ((i : Nat) : Int) | 4 => .int .i64 (k - (i : Int)) | 5 => .pointer (some ⟨g3, 0 + i, none⟩) | 6 => undef | _ => undef) () A.1 (by kernel_rfl) (by decide) (by decide) ⟨BB, FO⟩ ?_ ?_
    · intro i_ hi_ s a X hf hv hn hS
      match i_, hi_ with
      | 0, _ => exact stepV rfl rfl (execMvB rfl ((hf 3 (by decide)).trans t3)) ⟨s, ⟨_, rfl, rfl⟩, hS, fun _ _ => rfl⟩
      | 1, _ => exact stepV rfl rfl (execMvB rfl ((hf 4 (by decide)).trans t4)) ⟨s, ⟨_, rfl, rfl⟩, hS, fun _ _ => rfl⟩
      | 2, _ => exact stepV rfl rfl (execMvB rfl ((hf 0 (by decide)).trans t0)) ⟨s, ⟨_, rfl, rfl⟩, hS, fun _ _ => rfl⟩
      | 3, _ => exact stepV rfl rfl (execMvB rfl ((hf 4 (by decide)).trans t4)) ⟨s, ⟨_, rfl, rfl⟩, hS, fun _ _ => rfl⟩
      | 4, _ => exact stepV rfl rfl (execSubIg (z := k - (i : Int)) rfl (hv 2 (by omega) _ rfl _ rfl) (hv 3 (by omega) _ rfl _ rfl) rfl (by omega) (by omega)) ⟨s, ⟨_, rfl, rfl⟩, hS, fun _ _ => rfl⟩
      | 5, _ => exact stepV rfl rfl (execIdxN (k := i) rfl (hv 0 (by omega) _ rfl _ rfl) (hv 1 (by omega) _ rfl _ rfl) hlt) ⟨s, ⟨_, rfl, rfl⟩, hS, fun _ _ => rfl⟩
      | 6, _ =>
        obtain ⟨hc_, hf_⟩ := own_cellI hS.2 hlt
        refine stepS rfl rfl (execStI9 rfl (hv 5 (by omega) _ rfl _ rfl) (hv 4 (by omega) _ rfl _ rfl) hc_ hf_) ⟨s, ⟨_, rfl, rfl⟩, ⟨(hS.1).setCell Fg _, own_fill hS.2 rfl⟩, fun i hi => ?_⟩
        match i, hi with
        | 0, _ => rfl
        | 1, _ => rfl
        | 2, _ => rfl
        | 3, _ => rfl
        | 4, _ => rfl
        | 5, _ => rfl
        | n_ + 6, h_ => omega
      | k_ + 7, h_ => exact absurd h_ (by simp)
    rintro _ a X5 h1 h2 h3 h4 hS
    clear BB
    clear FO
    replace hS : Below V.heap.size V X5 ∧ (X5.ownsRow V.heap.size 3 1 (.slice (some ⟨g3, 0, none⟩) n n) (n) (intsL (n) (fun j => if j < (i + 1) then k - (j : Int) else 0))) := hS
    obtain ⟨BB, FO2⟩ := hS
    replace t0 := (h3 0 (by decide)).trans t0
    replace t3 := (h3 3 (by decide)).trans t3
    replace t9 := (h3 9 (by decide)).trans t9
    replace t10 := (h3 10 (by decide)).trans t10
    replace A := (⟨h1, h2.trans A.2⟩ : a.tmps.size = 21 ∧ a.defers = [])
    clear h1 h2 h3 h4
    clear t4
    refine wp_region_sq (σ := Unit) 21 [(0, 19), (1, 10)] (fun j_ s X => match j_ with | 0 => Below V.heap.size V X ∧ (X.ownsRow V.heap.size 3 1 (.slice (some ⟨g3, 0, none⟩) n n) (n) (intsL (n) (fun j => if j < (i + 1) then k - (j : Int) else 0))) | 1 => Below V.heap.size V X ∧ (X.ownsRow V.heap.size 3 1 (.slice (some ⟨g3, 0, none⟩) n n) (n) (intsL (n) (fun j => if j < (i + 1) then k - (j : Int) else 0))) | _ => Below V.heap.size V X ∧ (X.ownsRow V.heap.size 3 1 (.slice (some ⟨g3, 0, none⟩) n n) (n) (intsL (n) (fun j => if j < (i + 1) then k - (j : Int) else 0)))) (fun s => fun i_ => match i_ with | 0 => .int .i64 ((i + 1 : Nat) : Int) | 1 => .int .i64 ((i + 1 : Nat) : Int) | _ => undef) () A.1 (by kernel_rfl) (by decide) (by decide) ⟨BB, FO2⟩ ?_ ?_
    · intro i_ hi_ s a X hf hv hn hS
      match i_, hi_ with
      | 0, _ => exact stepV rfl rfl (execAd8 (p := i) (q := 1) rfl ((hn 1 (by omega) _ rfl _ rfl).trans t10) rfl (by omega)) ⟨s, ⟨_, rfl, rfl⟩, hS, fun _ _ => rfl⟩
      | 1, _ => exact stepV rfl rfl (execMvB rfl (hv 0 (by omega) _ rfl _ rfl)) ⟨s, ⟨_, rfl, rfl⟩, hS, fun _ _ => rfl⟩
      | k_ + 2, h_ => exact absurd h_ (by simp)
    rintro _ a X6 h1 h2 h3 h4 hS
    clear BB
    clear FO2
    replace hS : Below V.heap.size V X6 ∧ (X6.ownsRow V.heap.size 3 1 (.slice (some ⟨g3, 0, none⟩) n n) (n) (intsL (n) (fun j => if j < (i + 1) then k - (j : Int) else 0))) := hS
    obtain ⟨BB, FO2⟩ := hS
    replace t0 := (h3 0 (by decide)).trans t0
    replace t3 := (h3 3 (by decide)).trans t3
    replace t9 := (h3 9 (by decide)).trans t9
    replace t10 : a.eval (.tmp 10) = .int .i64 ((i + 1 : Nat) : Int) := h4 1 _ rfl _ rfl
    replace A := (⟨h1, h2.trans A.2⟩ : a.tmps.size = 21 ∧ a.defers = [])
    clear h1 h2 h3 h4
    exact ⟨⟨i + 1, hlt, A, t0, t3, t9, t10, BB, FO2⟩, by show n - (intOf (a.eval (.tmp 10))).toNat < n - (intOf (Act.eval _ (.tmp 10))).toNat; rw [t10, es]; show n - (i + 1) < n - i; omega⟩
  · rw [decide_eq_false hlt] at t11
    refine wp_cond_false t11 ?_
    refine wp_exit ?_
    first | refine exit_in ?_ | refine exit_then (exit_in ?_) | refine exit_then (exit_then (exit_in ?_))
    clear t11 es
    have hin : i = n := by omega
    rw [hin] at FO
    rw [intsL_congr (g := fun j => k - (j : Int)) (fun j hj => if_pos hj)] at FO
    refine wp_seq ?_
    refine wp_region_sq (σ := Unit) 21 [(0, 20), (1, 2)] (fun j_ s X => match j_ with | 0 => Below V.heap.size V X ∧ (X.ownsRow V.heap.size 3 1 (.slice (some ⟨g3, 0, none⟩) n n) (n) (intsL (n) (fun j => k - (j : Int)))) | 1 => Below V.heap.size V X ∧ (X.ownsRow V.heap.size 3 1 (.slice (some ⟨g3, 0, none⟩) n n) (n) (intsL (n) (fun j => k - (j : Int)))) | _ => Below V.heap.size V X ∧ (X.ownsRow V.heap.size 3 1 (.slice (some ⟨g3, 0, none⟩) n n) (n) (intsL (n) (fun j => k - (j : Int))))) (fun s => fun i_ => match i_ with | 0 => .slice (some ⟨g3, 0, none⟩) n n | 1 => .slice (some ⟨g3, 0, none⟩) n n | _ => undef) () A.1 (by kernel_rfl) (by decide) (by decide) ⟨BB, FO⟩ ?_ ?_
    · intro i_ hi_ s a X hf hv hn hS
      match i_, hi_ with
      | 0, _ => exact stepV rfl rfl (execMvB rfl ((hf 3 (by decide)).trans t3)) ⟨s, ⟨_, rfl, rfl⟩, hS, fun _ _ => rfl⟩
      | 1, _ => exact stepV rfl rfl (execAsgB rfl (hv 0 (by omega) _ rfl _ rfl)) ⟨s, ⟨_, rfl, rfl⟩, hS, fun _ _ => rfl⟩
      | k_ + 2, h_ => exact absurd h_ (by simp)
    rintro _ a X7 h1 h2 h3 h4 hS
    clear BB
    clear FO
    replace hS : Below V.heap.size V X7 ∧ (X7.ownsRow V.heap.size 3 1 (.slice (some ⟨g3, 0, none⟩) n n) (n) (intsL (n) (fun j => k - (j : Int)))) := hS
    obtain ⟨BB, FO⟩ := hS
    have t2 : a.eval (.tmp 2) = .slice (some ⟨g3, 0, none⟩) n n := h4 1 _ rfl _ rfl
    replace A := (⟨h1, h2.trans A.2⟩ : a.tmps.size = 21 ∧ a.defers = [])
    clear h1 h2 h3 h4
    clear t0 t3 t9 t10
    refine wp_ret ?_
    refine bodyPost_ret (results_tmp rfl _ _ _) A.2 ⟨_, ?_, FO, BB⟩
    show Ending.returned (a.eval (.tmp 2)) = _
    rw [t2]
set_option maxRecDepth 100000 in
set_option maxHeartbeats 4000000 in
/-- Where each number stands. -/
theorem pplaces (f : Nat → Int) (n : Nat) (v : Value) (V : World) (hv : SliceI V v n f) (hn17 : n ≤ 17592186044416) (hrange : ∀ i, i < n → 0 ≤ f i ∧ f i < n) :
    Calls Try.prog 35 #[v] V fun e w' => ∃ r, e = .returned r ∧ w'.ownsRow V.heap.size 3 1 r n (intsL n (fun j => (posN (gN f) j n : Int))) ∧ Below V.heap.size V w' := by
  obtain ⟨ia, ic, rfl, -, -, hsh⟩ := id hv.shape
  have FI := hv
  go_enter Try.func35, Try.ntmps35
  refine wp_seq ?_
  refine wp_region_sqK 22 [(0, 2)] (fun i_ => match i_ with | 0 => .slice none 0 0 | _ => undef) rfl (by kernel_rfl) (by decide) (by decide) ?_ ?_
  · intro i_ hi_ a hf hv hn
    match i_, hi_ with
    | 0, _ => exact stepV rfl rfl (execAsgB rfl rfl) ⟨⟨_, rfl, rfl⟩, rfl⟩
    | k_ + 1, h_ => exact absurd h_ (by simp)
  intro a h1 h2 h3 h4
  have t0 : a.eval (.tmp 0) = .slice ia n ic := (h3 0 (by decide)).trans rfl
  have A : a.tmps.size = 22 ∧ a.defers = [] := ⟨h1, h2⟩
  have BW : Below V.heap.size V V := Below.refl _ _
  clear h1 h2 h3 h4
  have BB := BW
  refine wp_seq ?_
  refine wp_region_sq (σ := Nat) 22 [(0, 6), (1, 7), (2, 8), (3, 3)] (fun j_ s X => match j_ with | 0 => Below V.heap.size V X | 1 => Below V.heap.size V X | 2 => Below V.heap.size V X | 3 => Below V.heap.size V X ∧ (X.ownsRow V.heap.size 3 1 (.slice (some ⟨s, 0, none⟩) n n) (n) (intsL (n) (fun j => (posN (gN f) j 0 : Int)))) ∧ (V.heap.size ≤ s) | _ => Below V.heap.size V X ∧ (X.ownsRow V.heap.size 3 1 (.slice (some ⟨s, 0, none⟩) n n) (n) (intsL (n) (fun j => (posN (gN f) j 0 : Int)))) ∧ (V.heap.size ≤ s)) (fun s => fun i_ => match i_ with | 0 => .slice ia n ic | 1 => .int .i64 ((n : Nat) : Int) | 2 => .slice (some ⟨s, 0, none⟩) n n | 3 => .slice (some ⟨s, 0, none⟩) n n | _ => undef) 0 A.1 (by kernel_rfl) (by decide) (by decide) (BB) ?_ ?_
  · intro i_ hi_ s a X hf hv hn hS
    match i_, hi_ with
    | 0, _ => exact stepV rfl rfl (execMvB rfl ((hf 0 (by decide)).trans t0)) ⟨s, ⟨_, rfl, rfl⟩, hS, fun _ _ => rfl⟩
    | 1, _ => exact stepV rfl rfl (execLenI (len := n) rfl (hv 0 (by omega) _ rfl _ rfl) ((FI.on hS)).shp) ⟨s, ⟨_, rfl, rfl⟩, hS, fun _ _ => rfl⟩
    | 2, _ =>
      refine stepV rfl rfl (execMkN rfl (hv 1 (by omega) _ rfl _ rfl) (hv 1 (by omega) _ rfl _ rfl) hn17) ⟨X.heap.size, ⟨_, rfl, rfl⟩, ⟨(hS).trans (((belNew X _)).mono (hS).size), ownD_base (own_mkZ X n _ hn17 (fun _ _ => rfl)) (hS).size, (hS).size⟩, fun i hi => ?_⟩
      match i, hi with
      | 0, _ => rfl
      | 1, _ => rfl
      | n_ + 2, h_ => omega
    | 3, _ => exact stepV rfl rfl (execAsgB rfl (hv 2 (by omega) _ rfl _ rfl)) ⟨s, ⟨_, rfl, rfl⟩, hS, fun _ _ => rfl⟩
    | k_ + 4, h_ => exact absurd h_ (by simp)
  rintro g3 a X1 h1 h2 h3 h4 hS
  clear BB
  replace hS : Below V.heap.size V X1 ∧ (X1.ownsRow V.heap.size 3 1 (.slice (some ⟨g3, 0, none⟩) n n) (n) (intsL (n) (fun j => (posN (gN f) j 0 : Int)))) ∧ (V.heap.size ≤ g3) := hS
  obtain ⟨BB, FO, Fg⟩ := hS
  replace t0 := (h3 0 (by decide)).trans t0
  have t3 : a.eval (.tmp 3) = .slice (some ⟨g3, 0, none⟩) n n := h4 3 _ rfl _ rfl
  replace A := (⟨h1, h2.trans A.2⟩ : a.tmps.size = 22 ∧ a.defers = [])
  clear h1 h2 h3 h4
  refine wp_seq ?_
  refine wp_seq ?_
  refine wp_region_sq (σ := Unit) 22 [(0, 9), (1, 10), (2, 11)] (fun j_ s X => match j_ with | 0 => Below V.heap.size V X ∧ (X.ownsRow V.heap.size 3 1 (.slice (some ⟨g3, 0, none⟩) n n) (n) (intsL (n) (fun j => (posN (gN f) j 0 : Int)))) ∧ (V.heap.size ≤ g3) | 1 => Below V.heap.size V X ∧ (X.ownsRow V.heap.size 3 1 (.slice (some ⟨g3, 0, none⟩) n n) (n) (intsL (n) (fun j => (posN (gN f) j 0 : Int)))) ∧ (V.heap.size ≤ g3) | 2 => Below V.heap.size V X ∧ (X.ownsRow V.heap.size 3 1 (.slice (some ⟨g3, 0, none⟩) n n) (n) (intsL (n) (fun j => (posN (gN f) j 0 : Int)))) ∧ (V.heap.size ≤ g3) | _ => Below V.heap.size V X ∧ (X.ownsRow V.heap.size 3 1 (.slice (some ⟨g3, 0, none⟩) n n) (n) (intsL (n) (fun j => (posN (gN f) j 0 : Int)))) ∧ (V.heap.size ≤ g3)) (fun s => fun i_ => match i_ with | 0 => .slice ia n ic | 1 => .int .i64 ((n : Nat) : Int) | 2 => .int .i64 ((0 : Nat) : Int) | _ => undef) () A.1 (by kernel_rfl) (by decide) (by decide) ⟨BB, FO, Fg⟩ ?_ ?_
  · intro i_ hi_ s a X hf hv hn hS
    match i_, hi_ with
    | 0, _ => exact stepV rfl rfl (execMvB rfl ((hf 0 (by decide)).trans t0)) ⟨s, ⟨_, rfl, rfl⟩, hS, fun _ _ => rfl⟩
    | 1, _ => exact stepV rfl rfl (execLenI (len := n) rfl (hv 0 (by omega) _ rfl _ rfl) ((FI.on hS.1)).shp) ⟨s, ⟨_, rfl, rfl⟩, hS, fun _ _ => rfl⟩
    | 2, _ => exact stepV rfl rfl (execMvB rfl rfl) ⟨s, ⟨_, rfl, rfl⟩, hS, fun _ _ => rfl⟩
    | k_ + 3, h_ => exact absurd h_ (by simp)
  rintro _ a X2 h1 h2 h3 h4 hS
  clear BB
  clear FO
  clear Fg
  replace hS : Below V.heap.size V X2 ∧ (X2.ownsRow V.heap.size 3 1 (.slice (some ⟨g3, 0, none⟩) n n) (n) (intsL (n) (fun j => (posN (gN f) j 0 : Int)))) ∧ (V.heap.size ≤ g3) := hS
  obtain ⟨BB, FO, Fg⟩ := hS
  replace t3 := (h3 3 (by decide)).trans t3
  have t9 : a.eval (.tmp 9) = .slice ia n ic := h4 0 _ rfl _ rfl
  have t10 : a.eval (.tmp 10) = .int .i64 ((n : Nat) : Int) := h4 1 _ rfl _ rfl
  have t11 : a.eval (.tmp 11) = .int .i64 ((0 : Nat) : Int) := h4 2 _ rfl _ rfl
  replace A := (⟨h1, h2.trans A.2⟩ : a.tmps.size = 22 ∧ a.defers = [])
  clear h1 h2 h3 h4
  clear t0
  refine wp_block ?_
  refine wp_loop (fun a W => ∃ (i : Nat), i ≤ n ∧ (a.tmps.size = 22 ∧ a.defers = []) ∧ a.eval (.tmp 3) = .slice (some ⟨g3, 0, none⟩) n n ∧ a.eval (.tmp 9) = .slice ia n ic ∧ a.eval (.tmp 10) = .int .i64 ((n : Nat) : Int) ∧ a.eval (.tmp 11) = .int .i64 ((i : Nat) : Int) ∧ Below V.heap.size V W ∧ (W.ownsRow V.heap.size 3 1 (.slice (some ⟨g3, 0, none⟩) n n) (n) (intsL (n) (fun j => (posN (gN f) j i : Int))))) (fun a _ => n - (intOf (a.eval (.tmp 11))).toNat) ⟨0, Nat.zero_le _, A, t3, t9, t10, t11, BB, FO⟩ ?_
  clear A t3 t9 t10 t11 BB FO a
  rintro a XL3 ⟨i, hi, A, t3, t9, t10, t11, BB, FO⟩
  have es := t11
  refine wp_seq ?_
  refine wp_region_sq (σ := Unit) 22 [(0, 12)] (fun j_ s X => match j_ with | 0 => Below V.heap.size V X ∧ (X.ownsRow V.heap.size 3 1 (.slice (some ⟨g3, 0, none⟩) n n) (n) (intsL (n) (fun j => (posN (gN f) j i : Int)))) | _ => Below V.heap.size V X ∧ (X.ownsRow V.heap.size 3 1 (.slice (some ⟨g3, 0, none⟩) n n) (n) (intsL (n) (fun j => (posN (gN f) j i : Int))))) (fun s => fun i_ => match i_ with | 0 => .bool (decide (i < n)) | _ => undef) () A.1 (by kernel_rfl) (by decide) (by decide) ⟨BB, FO⟩ ?_ ?_
  · intro i_ hi_ s a X hf hv hn hS
    match i_, hi_ with
    | 0, _ => exact stepV rfl rfl (execLtW (p := i) (q := n) rfl ((hf 11 (by decide)).trans t11) ((hf 10 (by decide)).trans t10)) ⟨s, ⟨_, rfl, rfl⟩, hS, fun _ _ => rfl⟩
    | k_ + 1, h_ => exact absurd h_ (by simp)
  rintro _ a X3 h1 h2 h3 h4 hS
  clear BB
  clear FO
  replace hS : Below V.heap.size V X3 ∧ (X3.ownsRow V.heap.size 3 1 (.slice (some ⟨g3, 0, none⟩) n n) (n) (intsL (n) (fun j => (posN (gN f) j i : Int)))) := hS
  obtain ⟨BB, FO⟩ := hS
  replace t3 := (h3 3 (by decide)).trans t3
  replace t9 := (h3 9 (by decide)).trans t9
  replace t10 := (h3 10 (by decide)).trans t10
  replace t11 := (h3 11 (by decide)).trans t11
  have t12 : a.eval (.tmp 12) = .bool (decide (i < n)) := h4 0 _ rfl _ rfl
  replace A := (⟨h1, h2.trans A.2⟩ : a.tmps.size = 22 ∧ a.defers = [])
  clear h1 h2 h3 h4
  refine wp_seq ?_
  by_cases hlt : i < n
  · rw [decide_eq_true hlt] at t12
    refine wp_cond_true t12 ?_
    refine wp_skip ?_
    clear t12
    refine wp_seq ?_
    refine wp_block ?_
    obtain ⟨w, ew⟩ : ∃ w : Nat, f i = w := ⟨(f i).toNat, by have := hrange i hlt; omega⟩
    have hw : w < n := by have := hrange i hlt; omega
    obtain ⟨ib, io, rfl, hib, hcell⟩ := hsh (by omega)
    have cI : ∀ k, k < n → ∀ X, Below V.heap.size V X → X.cell? ⟨ib, io + k, none⟩ = some (.int .i64 (f k)) := fun k hk X hX => by rw [cell_below hX hib]; exact hcell k hk
    have cW : ∀ X, Below V.heap.size V X → X.cell? ⟨ib, io + i, none⟩ = some (.int .i64 ((w : Nat) : Int)) := fun X hX => by rw [cI i hlt X hX, ew]
    refine wp_seq ?_
    refine wp_region_sq (σ := Unit) 22 [(0, 13), (1, 14), (2, 15), (3, 4), (4, 5)] (fun j_ s X => match j_ with | 0 => Below V.heap.size V X ∧ (X.ownsRow V.heap.size 3 1 (.slice (some ⟨g3, 0, none⟩) n n) (n) (intsL (n) (fun j => (posN (gN f) j i : Int)))) | 1 => Below V.heap.size V X ∧ (X.ownsRow V.heap.size 3 1 (.slice (some ⟨g3, 0, none⟩) n n) (n) (intsL (n) (fun j => (posN (gN f) j i : Int)))) | 2 => Below V.heap.size V X ∧ (X.ownsRow V.heap.size 3 1 (.slice (some ⟨g3, 0, none⟩) n n) (n) (intsL (n) (fun j => (posN (gN f) j i : Int)))) | 3 => Below V.heap.size V X ∧ (X.ownsRow V.heap.size 3 1 (.slice (some ⟨g3, 0, none⟩) n n) (n) (intsL (n) (fun j => (posN (gN f) j i : Int)))) | 4 => Below V.heap.size V X ∧ (X.ownsRow V.heap.size 3 1 (.slice (some ⟨g3, 0, none⟩) n n) (n) (intsL (n) (fun j => (posN (gN f) j i : Int)))) | _ => Below V.heap.size V X ∧ (X.ownsRow V.heap.size 3 1 (.slice (some ⟨g3, 0, none⟩) n n) (n) (intsL (n) (fun j => (posN (gN f) j i : Int))))) (fun s => fun i_ => match i_ with | 0 => .int .i64 ((i : Nat) : Int) | 1 => .pointer (some ⟨ib, io + i, none⟩) | 2 => .int .i64 ((w : Nat) : Int) | 3 => .int .i64 ((i : Nat) : Int) | 4 => .int .i64 ((w : Nat) : Int) | _ => undef) () A.1 (by kernel_rfl) (by decide) (by decide) ⟨BB, FO⟩ ?_ ?_
    · intro i_ hi_ s a X hf hv hn hS
      match i_, hi_ with
      | 0, _ => exact stepV rfl rfl (execMvB rfl ((hf 11 (by decide)).trans t11)) ⟨s, ⟨_, rfl, rfl⟩, hS, fun _ _ => rfl⟩
      | 1, _ => exact stepV rfl rfl (execIdxN (k := i) rfl ((hf 9 (by decide)).trans t9) ((hf 11 (by decide)).trans t11) hlt) ⟨s, ⟨_, rfl, rfl⟩, hS, fun _ _ => rfl⟩
      | 2, _ => exact stepV rfl rfl (execLd3 rfl (hv 1 (by omega) _ rfl _ rfl) (cW X hS.1)) ⟨s, ⟨_, rfl, rfl⟩, hS, fun _ _ => rfl⟩
      | 3, _ => exact stepV rfl rfl (execAsgB rfl (hv 0 (by omega) _ rfl _ rfl)) ⟨s, ⟨_, rfl, rfl⟩, hS, fun _ _ => rfl⟩
      | 4, _ => exact stepV rfl rfl (execAsgB rfl (hv 2 (by omega) _ rfl _ rfl)) ⟨s, ⟨_, rfl, rfl⟩, hS, fun _ _ => rfl⟩
      | k_ + 5, h_ => exact absurd h_ (by simp)
    rintro _ a X4 h1 h2 h3 h4 hS
    clear BB
    clear FO
    replace hS : Below V.heap.size V X4 ∧ (X4.ownsRow V.heap.size 3 1 (.slice (some ⟨g3, 0, none⟩) n n) (n) (intsL (n) (fun j => (posN (gN f) j i : Int)))) := hS
    obtain ⟨BB, FO⟩ := hS
    replace t3 := (h3 3 (by decide)).trans t3
    replace t9 := (h3 9 (by decide)).trans t9
    replace t10 := (h3 10 (by decide)).trans t10
    replace t11 := (h3 11 (by decide)).trans t11
    have t4 : a.eval (.tmp 4) = .int .i64 ((i : Nat) : Int) := h4 3 _ rfl _ rfl
    have t5 : a.eval (.tmp 5) = .int .i64 ((w : Nat) : Int) := h4 4 _ rfl _ rfl
    replace A := (⟨h1, h2.trans A.2⟩ : a.tmps.size = 22 ∧ a.defers = [])
    clear h1 h2 h3 h4
    refine wp_region_sq (σ := Unit) 22 [(0, 16), (1, 17), (2, 18), (3, 19)] (fun j_ s X => match j_ with | 0 => Below V.heap.size V X ∧ (X.ownsRow V.heap.size 3 1 (.slice (some ⟨g3, 0, none⟩) n n) (n) (intsL (n) (fun j => (posN (gN f) j i : Int)))) | 1 => Below V.heap.size V X ∧ (X.ownsRow V.heap.size 3 1 (.slice (some ⟨g3, 0, none⟩) n n) (n) (intsL (n) (fun j => (posN (gN f) j i : Int)))) | 2 => Below V.heap.size V X ∧ (X.ownsRow V.heap.size 3 1 (.slice (some ⟨g3, 0, none⟩) n n) (n) (intsL (n) (fun j => (posN (gN f) j i : Int)))) | 3 => Below V.heap.size V X ∧ (X.ownsRow V.heap.size 3 1 (.slice (some ⟨g3, 0, none⟩) n n) (n) (intsL (n) (fun j => (posN (gN f) j i : Int)))) | 4 => Below V.heap.size V X ∧ (X.ownsRow V.heap.size 3 1 (.slice (some ⟨g3, 0, none⟩) n n) (n) (intsL (n) (fun j => (posN (gN f) j i : Int)))) | _ => Below V.heap.size V X ∧ (X.ownsRow V.heap.size 3 1 (.slice (some ⟨g3, 0, none⟩) n n) (n) (intsL (n) (fun j => (posN (gN f) j (i + 1) : Int))))) (fun s => fun i_ => match i_ with | 0 => .slice (some ⟨g3, 0, none⟩) n n | 1 => .int .i64 ((w : Nat) : Int) | 2 => .int .i64 ((i : Nat) : Int) | 3 => .pointer (some ⟨g3, 0 + w, none⟩) | 4 => undef | _ => undef) () A.1 (by kernel_rfl) (by decide) (by decide) ⟨BB, FO⟩ ?_ ?_
    · intro i_ hi_ s a X hf hv hn hS
      match i_, hi_ with
      | 0, _ => exact stepV rfl rfl (execMvB rfl ((hf 3 (by decide)).trans t3)) ⟨s, ⟨_, rfl, rfl⟩, hS, fun _ _ => rfl⟩
      | 1, _ => exact stepV rfl rfl (execMvB rfl ((hf 5 (by decide)).trans t5)) ⟨s, ⟨_, rfl, rfl⟩, hS, fun _ _ => rfl⟩
      | 2, _ => exact stepV rfl rfl (execMvB rfl ((hf 4 (by decide)).trans t4)) ⟨s, ⟨_, rfl, rfl⟩, hS, fun _ _ => rfl⟩
      | 3, _ => exact stepV rfl rfl (execIdxN (k := w) rfl (hv 0 (by omega) _ rfl _ rfl) (hv 1 (by omega) _ rfl _ rfl) hw) ⟨s, ⟨_, rfl, rfl⟩, hS, fun _ _ => rfl⟩
      | 4, _ =>
        obtain ⟨hc_, hf_⟩ := own_cellI hS.2 hw
        refine stepS rfl rfl (execStI9 rfl (hv 3 (by omega) _ rfl _ rfl) (hv 2 (by omega) _ rfl _ rfl) hc_ hf_) ⟨s, ⟨_, rfl, rfl⟩, ⟨(hS.1).setCell Fg _, inv_set hS.2 ew⟩, fun i hi => ?_⟩
        match i, hi with
        | 0, _ => rfl
        | 1, _ => rfl
        | 2, _ => rfl
        | 3, _ => rfl
        | n_ + 4, h_ => omega
      | k_ + 5, h_ => exact absurd h_ (by simp)
    rintro _ a X5 h1 h2 h3 h4 hS
    clear BB
    clear FO
    replace hS : Below V.heap.size V X5 ∧ (X5.ownsRow V.heap.size 3 1 (.slice (some ⟨g3, 0, none⟩) n n) (n) (intsL (n) (fun j => (posN (gN f) j (i + 1) : Int)))) := hS
    obtain ⟨BB, FO2⟩ := hS
    replace t3 := (h3 3 (by decide)).trans t3
    replace t9 := (h3 9 (by decide)).trans t9
    replace t10 := (h3 10 (by decide)).trans t10
    replace t11 := (h3 11 (by decide)).trans t11
    replace A := (⟨h1, h2.trans A.2⟩ : a.tmps.size = 22 ∧ a.defers = [])
    clear h1 h2 h3 h4
    clear t4 t5
    refine wp_region_sq (σ := Unit) 22 [(0, 20), (1, 11)] (fun j_ s X => match j_ with | 0 => Below V.heap.size V X ∧ (X.ownsRow V.heap.size 3 1 (.slice (some ⟨g3, 0, none⟩) n n) (n) (intsL (n) (fun j => (posN (gN f) j (i + 1) : Int)))) | 1 => Below V.heap.size V X ∧ (X.ownsRow V.heap.size 3 1 (.slice (some ⟨g3, 0, none⟩) n n) (n) (intsL (n) (fun j => (posN (gN f) j (i + 1) : Int)))) | _ => Below V.heap.size V X ∧ (X.ownsRow V.heap.size 3 1 (.slice (some ⟨g3, 0, none⟩) n n) (n) (intsL (n) (fun j => (posN (gN f) j (i + 1) : Int))))) (fun s => fun i_ => match i_ with | 0 => .int .i64 ((i + 1 : Nat) : Int) | 1 => .int .i64 ((i + 1 : Nat) : Int) | _ => undef) () A.1 (by kernel_rfl) (by decide) (by decide) ⟨BB, FO2⟩ ?_ ?_
    · intro i_ hi_ s a X hf hv hn hS
      match i_, hi_ with
      | 0, _ => exact stepV rfl rfl (execAd8 (p := i) (q := 1) rfl ((hn 1 (by omega) _ rfl _ rfl).trans t11) rfl (by omega)) ⟨s, ⟨_, rfl, rfl⟩, hS, fun _ _ => rfl⟩
      | 1, _ => exact stepV rfl rfl (execMvB rfl (hv 0 (by omega) _ rfl _ rfl)) ⟨s, ⟨_, rfl, rfl⟩, hS, fun _ _ => rfl⟩
      | k_ + 2, h_ => exact absurd h_ (by simp)
    rintro _ a X6 h1 h2 h3 h4 hS
    clear BB
    clear FO2
    replace hS : Below V.heap.size V X6 ∧ (X6.ownsRow V.heap.size 3 1 (.slice (some ⟨g3, 0, none⟩) n n) (n) (intsL (n) (fun j => (posN (gN f) j (i + 1) : Int)))) := hS
    obtain ⟨BB, FO2⟩ := hS
    replace t3 := (h3 3 (by decide)).trans t3
    replace t9 := (h3 9 (by decide)).trans t9
    replace t10 := (h3 10 (by decide)).trans t10
    replace t11 : a.eval (.tmp 11) = .int .i64 ((i + 1 : Nat) : Int) := h4 1 _ rfl _ rfl
    replace A := (⟨h1, h2.trans A.2⟩ : a.tmps.size = 22 ∧ a.defers = [])
    clear h1 h2 h3 h4
    exact ⟨⟨i + 1, hlt, A, t3, t9, t10, t11, BB, FO2⟩, by show n - (intOf (a.eval (.tmp 11))).toNat < n - (intOf (Act.eval _ (.tmp 11))).toNat; rw [t11, es]; show n - (i + 1) < n - i; omega⟩
  · rw [decide_eq_false hlt] at t12
    refine wp_cond_false t12 ?_
    refine wp_exit ?_
    first | refine exit_in ?_ | refine exit_then (exit_in ?_) | refine exit_then (exit_then (exit_in ?_))
    clear t12 es
    have hin : i = n := by omega
    rw [hin] at FO
    refine wp_seq ?_
    refine wp_region_sq (σ := Unit) 22 [(0, 21), (1, 2)] (fun j_ s X => match j_ with | 0 => Below V.heap.size V X ∧ (X.ownsRow V.heap.size 3 1 (.slice (some ⟨g3, 0, none⟩) n n) (n) (intsL (n) (fun j => (posN (gN f) j n : Int)))) | 1 => Below V.heap.size V X ∧ (X.ownsRow V.heap.size 3 1 (.slice (some ⟨g3, 0, none⟩) n n) (n) (intsL (n) (fun j => (posN (gN f) j n : Int)))) | _ => Below V.heap.size V X ∧ (X.ownsRow V.heap.size 3 1 (.slice (some ⟨g3, 0, none⟩) n n) (n) (intsL (n) (fun j => (posN (gN f) j n : Int))))) (fun s => fun i_ => match i_ with | 0 => .slice (some ⟨g3, 0, none⟩) n n | 1 => .slice (some ⟨g3, 0, none⟩) n n | _ => undef) () A.1 (by kernel_rfl) (by decide) (by decide) ⟨BB, FO⟩ ?_ ?_
    · intro i_ hi_ s a X hf hv hn hS
      match i_, hi_ with
      | 0, _ => exact stepV rfl rfl (execMvB rfl ((hf 3 (by decide)).trans t3)) ⟨s, ⟨_, rfl, rfl⟩, hS, fun _ _ => rfl⟩
      | 1, _ => exact stepV rfl rfl (execAsgB rfl (hv 0 (by omega) _ rfl _ rfl)) ⟨s, ⟨_, rfl, rfl⟩, hS, fun _ _ => rfl⟩
      | k_ + 2, h_ => exact absurd h_ (by simp)
    rintro _ a X7 h1 h2 h3 h4 hS
    clear BB
    clear FO
    replace hS : Below V.heap.size V X7 ∧ (X7.ownsRow V.heap.size 3 1 (.slice (some ⟨g3, 0, none⟩) n n) (n) (intsL (n) (fun j => (posN (gN f) j n : Int)))) := hS
    obtain ⟨BB, FO⟩ := hS
    have t2 : a.eval (.tmp 2) = .slice (some ⟨g3, 0, none⟩) n n := h4 1 _ rfl _ rfl
    replace A := (⟨h1, h2.trans A.2⟩ : a.tmps.size = 22 ∧ a.defers = [])
    clear h1 h2 h3 h4
    clear t3 t9 t10 t11
    refine wp_ret ?_
    refine bodyPost_ret (results_tmp rfl _ _ _) A.2 ⟨_, ?_, FO, BB⟩
    show Ending.returned (a.eval (.tmp 2)) = _
    rw [t2]
set_option maxRecDepth 100000 in
set_option maxHeartbeats 4000000 in
/-- What the list holds at each of these places. -/
theorem ptaken (f g : Nat → Int) (n m : Nat) (v u0 : Value) (V : World) (hv : SliceI V v n f) (hn17 : n ≤ 17592186044416) (hu : SliceI V u0 m g) (hfl : ∀ i, i < n → 0 ≤ f i ∧ f i < m) :
    Calls Try.prog 43 #[v, u0] V fun e w' => ∃ r, e = .returned r ∧ w'.ownsRow V.heap.size 3 1 r n (intsL n (fun j => g (f j).toNat)) ∧ Below V.heap.size V w' := by
  obtain ⟨ia, ic, rfl, -, -, hsh⟩ := id hv.shape
  obtain ⟨ja, jc, rfl, -, -, hsj⟩ := id hu.shape
  have FI := hv
  have FJ := hu
  go_enter Try.func43, Try.ntmps43
  refine wp_seq ?_
  refine wp_region_sqK 27 [(0, 4)] (fun i_ => match i_ with | 0 => .slice none 0 0 | _ => undef) rfl (by kernel_rfl) (by decide) (by decide) ?_ ?_
  · intro i_ hi_ a hf hv hn
    match i_, hi_ with
    | 0, _ => exact stepV rfl rfl (execAsgB rfl rfl) ⟨⟨_, rfl, rfl⟩, rfl⟩
    | k_ + 1, h_ => exact absurd h_ (by simp)
  intro a h1 h2 h3 h4
  have t0 : a.eval (.tmp 0) = .slice ia n ic := (h3 0 (by decide)).trans rfl
  have t1 : a.eval (.tmp 1) = .slice ja m jc := (h3 1 (by decide)).trans rfl
  have A : a.tmps.size = 27 ∧ a.defers = [] := ⟨h1, h2⟩
  have BW : Below V.heap.size V V := Below.refl _ _
  clear h1 h2 h3 h4
  have BB := BW
  refine wp_seq ?_
  refine wp_region_sq (σ := Nat) 27 [(0, 8), (1, 9), (2, 10), (3, 5)] (fun j_ s X => match j_ with | 0 => Below V.heap.size V X | 1 => Below V.heap.size V X | 2 => Below V.heap.size V X | 3 => Below V.heap.size V X ∧ (X.ownsRow V.heap.size 3 1 (.slice (some ⟨s, 0, none⟩) n n) (n) (intsL (n) (fun j => if j < 0 then g (f j).toNat else 0))) ∧ (V.heap.size ≤ s) | _ => Below V.heap.size V X ∧ (X.ownsRow V.heap.size 3 1 (.slice (some ⟨s, 0, none⟩) n n) (n) (intsL (n) (fun j => if j < 0 then g (f j).toNat else 0))) ∧ (V.heap.size ≤ s)) (fun s => fun i_ => match i_ with | 0 => .slice ia n ic | 1 => .int .i64 ((n : Nat) : Int) | 2 => .slice (some ⟨s, 0, none⟩) n n | 3 => .slice (some ⟨s, 0, none⟩) n n | _ => undef) 0 A.1 (by kernel_rfl) (by decide) (by decide) (BB) ?_ ?_
  · intro i_ hi_ s a X hf hv hn hS
    match i_, hi_ with
    | 0, _ => exact stepV rfl rfl (execMvB rfl ((hf 0 (by decide)).trans t0)) ⟨s, ⟨_, rfl, rfl⟩, hS, fun _ _ => rfl⟩
    | 1, _ => exact stepV rfl rfl (execLenI (len := n) rfl (hv 0 (by omega) _ rfl _ rfl) ((FI.on hS)).shp) ⟨s, ⟨_, rfl, rfl⟩, hS, fun _ _ => rfl⟩
    | 2, _ =>
      refine stepV rfl rfl (execMkN rfl (hv 1 (by omega) _ rfl _ rfl) (hv 1 (by omega) _ rfl _ rfl) hn17) ⟨X.heap.size, ⟨_, rfl, rfl⟩, ⟨(hS).trans (((belNew X _)).mono (hS).size), ownD_base (own_mkZ X n _ hn17 (fun j_ _ => if_neg (Nat.not_lt_zero _))) (hS).size, (hS).size⟩, fun i hi => ?_⟩
      match i, hi with
      | 0, _ => rfl
      | 1, _ => rfl
      | n_ + 2, h_ => omega
    | 3, _ => exact stepV rfl rfl (execAsgB rfl (hv 2 (by omega) _ rfl _ rfl)) ⟨s, ⟨_, rfl, rfl⟩, hS, fun _ _ => rfl⟩
    | k_ + 4, h_ => exact absurd h_ (by simp)
  rintro g5 a X1 h1 h2 h3 h4 hS
  clear BB
  replace hS : Below V.heap.size V X1 ∧ (X1.ownsRow V.heap.size 3 1 (.slice (some ⟨g5, 0, none⟩) n n) (n) (intsL (n) (fun j => if j < 0 then g (f j).toNat else 0))) ∧ (V.heap.size ≤ g5) := hS
  obtain ⟨BB, FO, Fg⟩ := hS
  replace t0 := (h3 0 (by decide)).trans t0
  replace t1 := (h3 1 (by decide)).trans t1
  have t5 : a.eval (.tmp 5) = .slice (some ⟨g5, 0, none⟩) n n := h4 3 _ rfl _ rfl
  replace A := (⟨h1, h2.trans A.2⟩ : a.tmps.size = 27 ∧ a.defers = [])
  clear h1 h2 h3 h4
  refine wp_seq ?_
  refine wp_seq ?_
  refine wp_region_sq (σ := Unit) 27 [(0, 11), (1, 12), (2, 13)] (fun j_ s X => match j_ with | 0 => Below V.heap.size V X ∧ (X.ownsRow V.heap.size 3 1 (.slice (some ⟨g5, 0, none⟩) n n) (n) (intsL (n) (fun j => if j < 0 then g (f j).toNat else 0))) ∧ (V.heap.size ≤ g5) | 1 => Below V.heap.size V X ∧ (X.ownsRow V.heap.size 3 1 (.slice (some ⟨g5, 0, none⟩) n n) (n) (intsL (n) (fun j => if j < 0 then g (f j).toNat else 0))) ∧ (V.heap.size ≤ g5) | 2 => Below V.heap.size V X ∧ (X.ownsRow V.heap.size 3 1 (.slice (some ⟨g5, 0, none⟩) n n) (n) (intsL (n) (fun j => if j < 0 then g (f j).toNat else 0))) ∧ (V.heap.size ≤ g5) | _ => Below V.heap.size V X ∧ (X.ownsRow V.heap.size 3 1 (.slice (some ⟨g5, 0, none⟩) n n) (n) (intsL (n) (fun j => if j < 0 then g (f j).toNat else 0))) ∧ (V.heap.size ≤ g5)) (fun s => fun i_ => match i_ with | 0 => .slice ia n ic | 1 => .int .i64 ((n : Nat) : Int) | 2 => .int .i64 ((0 : Nat) : Int) | _ => undef) () A.1 (by kernel_rfl) (by decide) (by decide) ⟨BB, FO, Fg⟩ ?_ ?_
  · intro i_ hi_ s a X hf hv hn hS
    match i_, hi_ with
    | 0, _ => exact stepV rfl rfl (execMvB rfl ((hf 0 (by decide)).trans t0)) ⟨s, ⟨_, rfl, rfl⟩, hS, fun _ _ => rfl⟩
    | 1, _ => exact stepV rfl rfl (execLenI (len := n) rfl (hv 0 (by omega) _ rfl _ rfl) ((FI.on hS.1)).shp) ⟨s, ⟨_, rfl, rfl⟩, hS, fun _ _ => rfl⟩
    | 2, _ => exact stepV rfl rfl (execMvB rfl rfl) ⟨s, ⟨_, rfl, rfl⟩, hS, fun _ _ => rfl⟩
    | k_ + 3, h_ => exact absurd h_ (by simp)
  rintro _ a X2 h1 h2 h3 h4 hS
  clear BB
  clear FO
  clear Fg
  replace hS : Below V.heap.size V X2 ∧ (X2.ownsRow V.heap.size 3 1 (.slice (some ⟨g5, 0, none⟩) n n) (n) (intsL (n) (fun j => if j < 0 then g (f j).toNat else 0))) ∧ (V.heap.size ≤ g5) := hS
  obtain ⟨BB, FO, Fg⟩ := hS
  replace t1 := (h3 1 (by decide)).trans t1
  replace t5 := (h3 5 (by decide)).trans t5
  have t11 : a.eval (.tmp 11) = .slice ia n ic := h4 0 _ rfl _ rfl
  have t12 : a.eval (.tmp 12) = .int .i64 ((n : Nat) : Int) := h4 1 _ rfl _ rfl
  have t13 : a.eval (.tmp 13) = .int .i64 ((0 : Nat) : Int) := h4 2 _ rfl _ rfl
  replace A := (⟨h1, h2.trans A.2⟩ : a.tmps.size = 27 ∧ a.defers = [])
  clear h1 h2 h3 h4
  clear t0
  refine wp_block ?_
  refine wp_loop (fun a W => ∃ (i : Nat), i ≤ n ∧ (a.tmps.size = 27 ∧ a.defers = []) ∧ a.eval (.tmp 1) = .slice ja m jc ∧ a.eval (.tmp 5) = .slice (some ⟨g5, 0, none⟩) n n ∧ a.eval (.tmp 11) = .slice ia n ic ∧ a.eval (.tmp 12) = .int .i64 ((n : Nat) : Int) ∧ a.eval (.tmp 13) = .int .i64 ((i : Nat) : Int) ∧ Below V.heap.size V W ∧ (W.ownsRow V.heap.size 3 1 (.slice (some ⟨g5, 0, none⟩) n n) (n) (intsL (n) (fun j => if j < i then g (f j).toNat else 0)))) (fun a _ => n - (intOf (a.eval (.tmp 13))).toNat) ⟨0, Nat.zero_le _, A, t1, t5, t11, t12, t13, BB, FO⟩ ?_
  clear A t1 t5 t11 t12 t13 BB FO a
  rintro a XL3 ⟨i, hi, A, t1, t5, t11, t12, t13, BB, FO⟩
  have es := t13
  refine wp_seq ?_
  refine wp_region_sq (σ := Unit) 27 [(0, 14)] (fun j_ s X => match j_ with | 0 => Below V.heap.size V X ∧ (X.ownsRow V.heap.size 3 1 (.slice (some ⟨g5, 0, none⟩) n n) (n) (intsL (n) (fun j => if j < i then g (f j).toNat else 0))) | _ => Below V.heap.size V X ∧ (X.ownsRow V.heap.size 3 1 (.slice (some ⟨g5, 0, none⟩) n n) (n) (intsL (n) (fun j => if j < i then g (f j).toNat else 0)))) (fun s => fun i_ => match i_ with | 0 => .bool (decide (i < n)) | _ => undef) () A.1 (by kernel_rfl) (by decide) (by decide) ⟨BB, FO⟩ ?_ ?_
  · intro i_ hi_ s a X hf hv hn hS
    match i_, hi_ with
    | 0, _ => exact stepV rfl rfl (execLtW (p := i) (q := n) rfl ((hf 13 (by decide)).trans t13) ((hf 12 (by decide)).trans t12)) ⟨s, ⟨_, rfl, rfl⟩, hS, fun _ _ => rfl⟩
    | k_ + 1, h_ => exact absurd h_ (by simp)
  rintro _ a X3 h1 h2 h3 h4 hS
  clear BB
  clear FO
  replace hS : Below V.heap.size V X3 ∧ (X3.ownsRow V.heap.size 3 1 (.slice (some ⟨g5, 0, none⟩) n n) (n) (intsL (n) (fun j => if j < i then g (f j).toNat else 0))) := hS
  obtain ⟨BB, FO⟩ := hS
  replace t1 := (h3 1 (by decide)).trans t1
  replace t5 := (h3 5 (by decide)).trans t5
  replace t11 := (h3 11 (by decide)).trans t11
  replace t12 := (h3 12 (by decide)).trans t12
  replace t13 := (h3 13 (by decide)).trans t13
  have t14 : a.eval (.tmp 14) = .bool (decide (i < n)) := h4 0 _ rfl _ rfl
  replace A := (⟨h1, h2.trans A.2⟩ : a.tmps.size = 27 ∧ a.defers = [])
  clear h1 h2 h3 h4
  refine wp_seq ?_
  by_cases hlt : i < n
  · rw [decide_eq_true hlt] at t14
    refine wp_cond_true t14 ?_
    refine wp_skip ?_
    clear t14
    refine wp_seq ?_
    refine wp_block ?_
    obtain ⟨w, ew⟩ : ∃ w : Nat, f i = w := ⟨(f i).toNat, by have := hfl i hlt; omega⟩
    have hw : w < m := by have := hfl i hlt; omega
    obtain ⟨ib, io, rfl, hib, hcell⟩ := hsh (by omega)
    have cI : ∀ k, k < n → ∀ X, Below V.heap.size V X → X.cell? ⟨ib, io + k, none⟩ = some (.int .i64 (f k)) := fun k hk X hX => by rw [cell_below hX hib]; exact hcell k hk
    have cW : ∀ X, Below V.heap.size V X → X.cell? ⟨ib, io + i, none⟩ = some (.int .i64 ((w : Nat) : Int)) := fun X hX => by rw [cI i hlt X hX, ew]
    obtain ⟨jb, jo, rfl, hjb, hcelj⟩ := hsj (by omega)
    have cJ : ∀ X, Below V.heap.size V X → X.cell? ⟨jb, jo + w, none⟩ = some (.int .i64 (g (f i).toNat)) := fun X hX => by rw [cell_below hX hjb, hcelj w hw, ew]; rfl
    refine wp_seq ?_
    refine wp_region_sq (σ := Unit) 27 [(0, 15), (1, 16), (2, 17), (3, 6), (4, 7)] (fun j_ s X => match j_ with | 0 => Below V.heap.size V X ∧ (X.ownsRow V.heap.size 3 1 (.slice (some ⟨g5, 0, none⟩) n n) (n) (intsL (n) (fun j => if j < i then g (f j).toNat else 0))) | 1 => Below V.heap.size V X ∧ (X.ownsRow V.heap.size 3 1 (.slice (some ⟨g5, 0, none⟩) n n) (n) (intsL (n) (fun j => if j < i then g (f j).toNat else 0))) | 2 => Below V.heap.size V X ∧ (X.ownsRow V.heap.size 3 1 (.slice (some ⟨g5, 0, none⟩) n n) (n) (intsL (n) (fun j => if j < i then g (f j).toNat else 0))) | 3 => Below V.heap.size V X ∧ (X.ownsRow V.heap.size 3 1 (.slice (some ⟨g5, 0, none⟩) n n) (n) (intsL (n) (fun j => if j < i then g (f j).toNat else 0))) | 4 => Below V.heap.size V X ∧ (X.ownsRow V.heap.size 3 1 (.slice (some ⟨g5, 0, none⟩) n n) (n) (intsL (n) (fun j => if j < i then g (f j).toNat else 0))) | _ => Below V.heap.size V X ∧ (X.ownsRow V.heap.size 3 1 (.slice (some ⟨g5, 0, none⟩) n n) (n) (intsL (n) (fun j => if j < i then g (f j).toNat else 0)))) (fun s => fun i_ => match i_ with | 0 => .int .i64 ((i : Nat) : Int) | 1 => .pointer (some ⟨ib, io + i, none⟩) | 2 => .int .i64 ((w : Nat) : Int) | 3 => .int .i64 ((i : Nat) : Int) | 4 => .int .i64 ((w : Nat) : Int) | _ => undef) () A.1 (by kernel_rfl) (by decide) (by decide) ⟨BB, FO⟩ ?_ ?_
    · intro i_ hi_ s a X hf hv hn hS
      match i_, hi_ with
      | 0, _ => exact stepV rfl rfl (execMvB rfl ((hf 13 (by decide)).trans t13)) ⟨s, ⟨_, rfl, rfl⟩, hS, fun _ _ => rfl⟩
      | 1, _ => exact stepV rfl rfl (execIdxN (k := i) rfl ((hf 11 (by decide)).trans t11) ((hf 13 (by decide)).trans t13) hlt) ⟨s, ⟨_, rfl, rfl⟩, hS, fun _ _ => rfl⟩
      | 2, _ => exact stepV rfl rfl (execLd3 rfl (hv 1 (by omega) _ rfl _ rfl) (cW X hS.1)) ⟨s, ⟨_, rfl, rfl⟩, hS, fun _ _ => rfl⟩
      | 3, _ => exact stepV rfl rfl (execAsgB rfl (hv 0 (by omega) _ rfl _ rfl)) ⟨s, ⟨_, rfl, rfl⟩, hS, fun _ _ => rfl⟩
      | 4, _ => exact stepV rfl rfl (execAsgB rfl (hv 2 (by omega) _ rfl _ rfl)) ⟨s, ⟨_, rfl, rfl⟩, hS, fun _ _ => rfl⟩
      | k_ + 5, h_ => exact absurd h_ (by simp)
    rintro _ a X4 h1 h2 h3 h4 hS
    clear BB
    clear FO
    replace hS : Below V.heap.size V X4 ∧ (X4.ownsRow V.heap.size 3 1 (.slice (some ⟨g5, 0, none⟩) n n) (n) (intsL (n) (fun j => if j < i then g (f j).toNat else 0))) := hS
    obtain ⟨BB, FO⟩ := hS
    replace t1 := (h3 1 (by decide)).trans t1
    replace t5 := (h3 5 (by decide)).trans t5
    replace t11 := (h3 11 (by decide)).trans t11
    replace t12 := (h3 12 (by decide)).trans t12
    replace t13 := (h3 13 (by decide)).trans t13
    have t6 : a.eval (.tmp 6) = .int .i64 ((i : Nat) : Int) := h4 3 _ rfl _ rfl
    have t7 : a.eval (.tmp 7) = .int .i64 ((w : Nat) : Int) := h4 4 _ rfl _ rfl
    replace A := (⟨h1, h2.trans A.2⟩ : a.tmps.size = 27 ∧ a.defers = [])
    clear h1 h2 h3 h4
    refine wp_region_sq (σ := Unit) 27 [(0, 18), (1, 19), (2, 20), (3, 21), (4, 22), (5, 23), (6, 24)] (fun j_ s X => match j_ with | 0 => Below V.heap.size V X ∧ (X.ownsRow V.heap.size 3 1 (.slice (some ⟨g5, 0, none⟩) n n) (n) (intsL (n) (fun j => if j < i then g (f j).toNat else 0))) | 1 => Below V.heap.size V X ∧ (X.ownsRow V.heap.size 3 1 (.slice (some ⟨g5, 0, none⟩) n n) (n) (intsL (n) (fun j => if j < i then g (f j).toNat else 0))) | 2 => Below V.heap.size V X ∧ (X.ownsRow V.heap.size 3 1 (.slice (some ⟨g5, 0, none⟩) n n) (n) (intsL (n) (fun j => if j < i then g (f j).toNat else 0))) | 3 => Below V.heap.size V X ∧ (X.ownsRow V.heap.size 3 1 (.slice (some ⟨g5, 0, none⟩) n n) (n) (intsL (n) (fun j => if j < i then g (f j).toNat else 0))) | 4 => Below V.heap.size V X ∧ (X.ownsRow V.heap.size 3 1 (.slice (some ⟨g5, 0, none⟩) n n) (n) (intsL (n) (fun j => if j < i then g (f j).toNat else 0))) | 5 => Below V.heap.size V X ∧ (X.ownsRow V.heap.size 3 1 (.slice (some ⟨g5, 0, none⟩) n n) (n) (intsL (n) (fun j => if j < i then g (f j).toNat else 0))) | 6 => Below V.heap.size V X ∧ (X.ownsRow V.heap.size 3 1 (.slice (some ⟨g5, 0, none⟩) n n) (n) (intsL (n) (fun j => if j < i then g (f j).toNat else 0))) | 7 => Below V.heap.size V X ∧ (X.ownsRow V.heap.size 3 1 (.slice (some ⟨g5, 0, none⟩) n n) (n) (intsL (n) (fun j => if j < i then g (f j).toNat else 0))) | _ => Below V.heap.size V X ∧ (X.ownsRow V.heap.size 3 1 (.slice (some ⟨g5, 0, none⟩) n n) (n) (intsL (n) (fun j => if j < (i + 1) then g (f j).toNat else 0)))) (fun s => fun i_ => match i_ with | 0 => .slice (some ⟨g5, 0, none⟩) n n | 1 => .int .i64 ((i : Nat) : Int) | 2 => .slice (some ⟨jb, jo, none⟩) m jc | 3 => .int .i64 ((w : Nat) : Int) | 4 => .pointer (some ⟨jb, jo + w, none⟩) | 5 => .int .i64 (g (f i).toNat) | 6 => .pointer (some ⟨g5, 0 + i, none⟩) | 7 => undef | _ => undef) () A.1 (by kernel_rfl) (by decide) (by decide) ⟨BB, FO⟩ ?_ ?_
    · intro i_ hi_ s a X hf hv hn hS
      match i_, hi_ with
      | 0, _ => exact stepV rfl rfl (execMvB rfl ((hf 5 (by decide)).trans t5)) ⟨s, ⟨_, rfl, rfl⟩, hS, fun _ _ => rfl⟩
      | 1, _ => exact stepV rfl rfl (execMvB rfl ((hf 6 (by decide)).trans t6)) ⟨s, ⟨_, rfl, rfl⟩, hS, fun _ _ => rfl⟩
      | 2, _ => exact stepV rfl rfl (execMvB rfl ((hf 1 (by decide)).trans t1)) ⟨s, ⟨_, rfl, rfl⟩, hS, fun _ _ => rfl⟩
      | 3, _ => exact stepV rfl rfl (execMvB rfl ((hf 7 (by decide)).trans t7)) ⟨s, ⟨_, rfl, rfl⟩, hS, fun _ _ => rfl⟩
      | 4, _ => exact stepV rfl rfl (execIdxN (k := w) rfl (hv 2 (by omega) _ rfl _ rfl) (hv 3 (by omega) _ rfl _ rfl) hw) ⟨s, ⟨_, rfl, rfl⟩, hS, fun _ _ => rfl⟩
      | 5, _ => exact stepV rfl rfl (execLd3 rfl (hv 4 (by omega) _ rfl _ rfl) (cJ X hS.1)) ⟨s, ⟨_, rfl, rfl⟩, hS, fun _ _ => rfl⟩
      | 6, _ => exact stepV rfl rfl (execIdxN (k := i) rfl (hv 0 (by omega) _ rfl _ rfl) (hv 1 (by omega) _ rfl _ rfl) hlt) ⟨s, ⟨_, rfl, rfl⟩, hS, fun _ _ => rfl⟩
      | 7, _ =>
        obtain ⟨hc_, hf_⟩ := own_cellI hS.2 hlt
        refine stepS rfl rfl (execStI9 rfl (hv 6 (by omega) _ rfl _ rfl) (hv 5 (by omega) _ rfl _ rfl) hc_ hf_) ⟨s, ⟨_, rfl, rfl⟩, ⟨(hS.1).setCell Fg _, own_fill (F := fun j => g (f j).toNat) hS.2 rfl⟩, fun i hi => ?_⟩
        match i, hi with
        | 0, _ => rfl
        | 1, _ => rfl
        | 2, _ => rfl
        | 3, _ => rfl
        | 4, _ => rfl
        | 5, _ => rfl
        | 6, _ => rfl
        | n_ + 7, h_ => omega
      | k_ + 8, h_ => exact absurd h_ (by simp)
    rintro _ a X5 h1 h2 h3 h4 hS
    clear BB
    clear FO
    replace hS : Below V.heap.size V X5 ∧ (X5.ownsRow V.heap.size 3 1 (.slice (some ⟨g5, 0, none⟩) n n) (n) (intsL (n) (fun j => if j < (i + 1) then g (f j).toNat else 0))) := hS
    obtain ⟨BB, FO2⟩ := hS
    replace t1 := (h3 1 (by decide)).trans t1
    replace t5 := (h3 5 (by decide)).trans t5
    replace t11 := (h3 11 (by decide)).trans t11
    replace t12 := (h3 12 (by decide)).trans t12
    replace t13 := (h3 13 (by decide)).trans t13
    replace A := (⟨h1, h2.trans A.2⟩ : a.tmps.size = 27 ∧ a.defers = [])
    clear h1 h2 h3 h4
    clear t6 t7
    refine wp_region_sq (σ := Unit) 27 [(0, 25), (1, 13)] (fun j_ s X => match j_ with | 0 => Below V.heap.size V X ∧ (X.ownsRow V.heap.size 3 1 (.slice (some ⟨g5, 0, none⟩) n n) (n) (intsL (n) (fun j => if j < (i + 1) then g (f j).toNat else 0))) | 1 => Below V.heap.size V X ∧ (X.ownsRow V.heap.size 3 1 (.slice (some ⟨g5, 0, none⟩) n n) (n) (intsL (n) (fun j => if j < (i + 1) then g (f j).toNat else 0))) | _ => Below V.heap.size V X ∧ (X.ownsRow V.heap.size 3 1 (.slice (some ⟨g5, 0, none⟩) n n) (n) (intsL (n) (fun j => if j < (i + 1) then g (f j).toNat else 0)))) (fun s => fun i_ => match i_ with | 0 => .int .i64 ((i + 1 : Nat) : Int) | 1 => .int .i64 ((i + 1 : Nat) : Int) | _ => undef) () A.1 (by kernel_rfl) (by decide) (by decide) ⟨BB, FO2⟩ ?_ ?_
    · intro i_ hi_ s a X hf hv hn hS
      match i_, hi_ with
      | 0, _ => exact stepV rfl rfl (execAd8 (p := i) (q := 1) rfl ((hn 1 (by omega) _ rfl _ rfl).trans t13) rfl (by omega)) ⟨s, ⟨_, rfl, rfl⟩, hS, fun _ _ => rfl⟩
      | 1, _ => exact stepV rfl rfl (execMvB rfl (hv 0 (by omega) _ rfl _ rfl)) ⟨s, ⟨_, rfl, rfl⟩, hS, fun _ _ => rfl⟩
      | k_ + 2, h_ => exact absurd h_ (by simp)
    rintro _ a X6 h1 h2 h3 h4 hS
    clear BB
    clear FO2
    replace hS : Below V.heap.size V X6 ∧ (X6.ownsRow V.heap.size 3 1 (.slice (some ⟨g5, 0, none⟩) n n) (n) (intsL (n) (fun j => if j < (i + 1) then g (f j).toNat else 0))) := hS
    obtain ⟨BB, FO2⟩ := hS
    replace t1 := (h3 1 (by decide)).trans t1
    replace t5 := (h3 5 (by decide)).trans t5
    replace t11 := (h3 11 (by decide)).trans t11
    replace t12 := (h3 12 (by decide)).trans t12
    replace t13 : a.eval (.tmp 13) = .int .i64 ((i + 1 : Nat) : Int) := h4 1 _ rfl _ rfl
    replace A := (⟨h1, h2.trans A.2⟩ : a.tmps.size = 27 ∧ a.defers = [])
    clear h1 h2 h3 h4
    exact ⟨⟨i + 1, hlt, A, t1, t5, t11, t12, t13, BB, FO2⟩, by show n - (intOf (a.eval (.tmp 13))).toNat < n - (intOf (Act.eval _ (.tmp 13))).toNat; rw [t13, es]; show n - (i + 1) < n - i; omega⟩
  · rw [decide_eq_false hlt] at t14
    refine wp_cond_false t14 ?_
    refine wp_exit ?_
    first | refine exit_in ?_ | refine exit_then (exit_in ?_) | refine exit_then (exit_then (exit_in ?_))
    clear t14 es
    have hin : i = n := by omega
    rw [hin] at FO
    rw [intsL_congr (g := fun j => g (f j).toNat) (fun j hj => if_pos hj)] at FO
    refine wp_seq ?_
    refine wp_region_sq (σ := Unit) 27 [(0, 26), (1, 4)] (fun j_ s X => match j_ with | 0 => Below V.heap.size V X ∧ (X.ownsRow V.heap.size 3 1 (.slice (some ⟨g5, 0, none⟩) n n) (n) (intsL (n) (fun j => g (f j).toNat))) | 1 => Below V.heap.size V X ∧ (X.ownsRow V.heap.size 3 1 (.slice (some ⟨g5, 0, none⟩) n n) (n) (intsL (n) (fun j => g (f j).toNat))) | _ => Below V.heap.size V X ∧ (X.ownsRow V.heap.size 3 1 (.slice (some ⟨g5, 0, none⟩) n n) (n) (intsL (n) (fun j => g (f j).toNat)))) (fun s => fun i_ => match i_ with | 0 => .slice (some ⟨g5, 0, none⟩) n n | 1 => .slice (some ⟨g5, 0, none⟩) n n | _ => undef) () A.1 (by kernel_rfl) (by decide) (by decide) ⟨BB, FO⟩ ?_ ?_
    · intro i_ hi_ s a X hf hv hn hS
      match i_, hi_ with
      | 0, _ => exact stepV rfl rfl (execMvB rfl ((hf 5 (by decide)).trans t5)) ⟨s, ⟨_, rfl, rfl⟩, hS, fun _ _ => rfl⟩
      | 1, _ => exact stepV rfl rfl (execAsgB rfl (hv 0 (by omega) _ rfl _ rfl)) ⟨s, ⟨_, rfl, rfl⟩, hS, fun _ _ => rfl⟩
      | k_ + 2, h_ => exact absurd h_ (by simp)
    rintro _ a X7 h1 h2 h3 h4 hS
    clear BB
    clear FO
    replace hS : Below V.heap.size V X7 ∧ (X7.ownsRow V.heap.size 3 1 (.slice (some ⟨g5, 0, none⟩) n n) (n) (intsL (n) (fun j => g (f j).toNat))) := hS
    obtain ⟨BB, FO⟩ := hS
    have t4 : a.eval (.tmp 4) = .slice (some ⟨g5, 0, none⟩) n n := h4 1 _ rfl _ rfl
    replace A := (⟨h1, h2.trans A.2⟩ : a.tmps.size = 27 ∧ a.defers = [])
    clear h1 h2 h3 h4
    clear t1 t5 t11 t12 t13
    refine wp_ret ?_
    refine bodyPost_ret (results_tmp rfl _ _ _) A.2 ⟨_, ?_, FO, BB⟩
    show Ending.returned (a.eval (.tmp 4)) = _
    rw [t4]
set_option maxRecDepth 100000 in
set_option maxHeartbeats 4000000 in
/-- Below N, N - 1, .. in turn. -/
theorem pareBelow (N : Nat) (d : Nat → Int) (m : Nat) (v : Value) (V : World) (hv : SliceI V v m d) (hm17 : m ≤ 17592186044416) (hN : N ≤ 17592186044417) (hmN : m ≤ N) :
    Calls Try.prog 40 #[v, .int .i64 ((N : Nat) : Int)] V fun e w' => e = .returned (.bool (fitQ d N m)) ∧ Below V.heap.size V w' := by
  obtain ⟨ia, ic, rfl, -, -, hsh⟩ := id hv.shape
  have FI := hv
  go_enter Try.func40, Try.ntmps40
  refine wp_seq ?_
  refine wp_region_sqK 24 [(0, 4)] (fun i_ => match i_ with | 0 => .bool false | _ => undef) rfl (by kernel_rfl) (by decide) (by decide) ?_ ?_
  · intro i_ hi_ a hf hv hn
    match i_, hi_ with
    | 0, _ => exact stepV rfl rfl (execAsgB rfl rfl) ⟨⟨_, rfl, rfl⟩, rfl⟩
    | k_ + 1, h_ => exact absurd h_ (by simp)
  intro a h1 h2 h3 h4
  have t0 : a.eval (.tmp 0) = .slice ia m ic := (h3 0 (by decide)).trans rfl
  have t1 : a.eval (.tmp 1) = .int .i64 ((N : Nat) : Int) := (h3 1 (by decide)).trans rfl
  have A : a.tmps.size = 24 ∧ a.defers = [] := ⟨h1, h2⟩
  have BW : Below V.heap.size V V := Below.refl _ _
  clear h1 h2 h3 h4
  have BB := BW
  refine wp_seq ?_
  refine wp_seq ?_
  refine wp_region_sq (σ := Unit) 24 [(0, 7), (1, 8), (2, 9)] (fun j_ s X => match j_ with | 0 => Below V.heap.size V X | 1 => Below V.heap.size V X | 2 => Below V.heap.size V X | _ => Below V.heap.size V X) (fun s => fun i_ => match i_ with | 0 => .slice ia m ic | 1 => .int .i64 ((m : Nat) : Int) | 2 => .int .i64 ((0 : Nat) : Int) | _ => undef) () A.1 (by kernel_rfl) (by decide) (by decide) (BB) ?_ ?_
  · intro i_ hi_ s a X hf hv hn hS
    match i_, hi_ with
    | 0, _ => exact stepV rfl rfl (execMvB rfl ((hf 0 (by decide)).trans t0)) ⟨s, ⟨_, rfl, rfl⟩, hS, fun _ _ => rfl⟩
    | 1, _ => exact stepV rfl rfl (execLenI (len := m) rfl (hv 0 (by omega) _ rfl _ rfl) ((FI.on hS)).shp) ⟨s, ⟨_, rfl, rfl⟩, hS, fun _ _ => rfl⟩
    | 2, _ => exact stepV rfl rfl (execMvB rfl rfl) ⟨s, ⟨_, rfl, rfl⟩, hS, fun _ _ => rfl⟩
    | k_ + 3, h_ => exact absurd h_ (by simp)
  rintro _ a X1 h1 h2 h3 h4 hS
  clear BB
  replace hS : Below V.heap.size V X1 := hS
  have BB := hS
  clear hS
  replace t1 := (h3 1 (by decide)).trans t1
  have t7 : a.eval (.tmp 7) = .slice ia m ic := h4 0 _ rfl _ rfl
  have t8 : a.eval (.tmp 8) = .int .i64 ((m : Nat) : Int) := h4 1 _ rfl _ rfl
  have t9 : a.eval (.tmp 9) = .int .i64 ((0 : Nat) : Int) := h4 2 _ rfl _ rfl
  replace A := (⟨h1, h2.trans A.2⟩ : a.tmps.size = 24 ∧ a.defers = [])
  clear h1 h2 h3 h4
  clear t0
  refine wp_block ?_
  refine wp_loop (fun a W => ∃ (i : Nat), i ≤ m ∧ (fitQ d N i = true) ∧ (a.tmps.size = 24 ∧ a.defers = []) ∧ a.eval (.tmp 1) = .int .i64 ((N : Nat) : Int) ∧ a.eval (.tmp 7) = .slice ia m ic ∧ a.eval (.tmp 8) = .int .i64 ((m : Nat) : Int) ∧ a.eval (.tmp 9) = .int .i64 ((i : Nat) : Int) ∧ Below V.heap.size V W) (fun a _ => m - (intOf (a.eval (.tmp 9))).toNat) ⟨0, Nat.zero_le _, rfl, A, t1, t7, t8, t9, BB⟩ ?_
  clear A t1 t7 t8 t9 BB a
  rintro a XL2 ⟨i, hi, hok, A, t1, t7, t8, t9, BB⟩
  have es := t9
  refine wp_seq ?_
  refine wp_region_sq (σ := Unit) 24 [(0, 10)] (fun j_ s X => match j_ with | 0 => Below V.heap.size V X | _ => Below V.heap.size V X) (fun s => fun i_ => match i_ with | 0 => .bool (decide (i < m)) | _ => undef) () A.1 (by kernel_rfl) (by decide) (by decide) (BB) ?_ ?_
  · intro i_ hi_ s a X hf hv hn hS
    match i_, hi_ with
    | 0, _ => exact stepV rfl rfl (execLtW (p := i) (q := m) rfl ((hf 9 (by decide)).trans t9) ((hf 8 (by decide)).trans t8)) ⟨s, ⟨_, rfl, rfl⟩, hS, fun _ _ => rfl⟩
    | k_ + 1, h_ => exact absurd h_ (by simp)
  rintro _ a X2 h1 h2 h3 h4 hS
  clear BB
  replace hS : Below V.heap.size V X2 := hS
  have BB := hS
  clear hS
  replace t1 := (h3 1 (by decide)).trans t1
  replace t7 := (h3 7 (by decide)).trans t7
  replace t8 := (h3 8 (by decide)).trans t8
  replace t9 := (h3 9 (by decide)).trans t9
  have t10 : a.eval (.tmp 10) = .bool (decide (i < m)) := h4 0 _ rfl _ rfl
  replace A := (⟨h1, h2.trans A.2⟩ : a.tmps.size = 24 ∧ a.defers = [])
  clear h1 h2 h3 h4
  refine wp_seq ?_
  by_cases hlt : i < m
  · rw [decide_eq_true hlt] at t10
    refine wp_cond_true t10 ?_
    refine wp_skip ?_
    clear t10
    refine wp_seq ?_
    refine wp_block ?_
    obtain ⟨ib, io, rfl, hib, hcell⟩ := hsh (by omega)
    have cI : ∀ k, k < m → ∀ X, Below V.heap.size V X → X.cell? ⟨ib, io + k, none⟩ = some (.int .i64 (d k)) := fun k hk X hX => by rw [cell_below hX hib]; exact hcell k hk
    by_cases h1 : d i < 0
    · refine wp_seq ?_
      refine wp_region_sq (σ := Unit) 24 [(0, 11), (1, 12), (2, 13), (3, 5), (4, 6)] (fun j_ s X => match j_ with | 0 => Below V.heap.size V X | 1 => Below V.heap.size V X | 2 => Below V.heap.size V X | 3 => Below V.heap.size V X | 4 => Below V.heap.size V X | _ => Below V.heap.size V X) (fun s => fun i_ => match i_ with | 0 => .int .i64 ((i : Nat) : Int) | 1 => .pointer (some ⟨ib, io + i, none⟩) | 2 => .int .i64 (d i) | 3 => .int .i64 ((i : Nat) : Int) | 4 => .int .i64 (d i) | _ => undef) () A.1 (by kernel_rfl) (by decide) (by decide) (BB) ?_ ?_
      · intro i_ hi_ s a X hf hv hn hS
        match i_, hi_ with
        | 0, _ => exact stepV rfl rfl (execMvB rfl ((hf 9 (by decide)).trans t9)) ⟨s, ⟨_, rfl, rfl⟩, hS, fun _ _ => rfl⟩
        | 1, _ => exact stepV rfl rfl (execIdxN (k := i) rfl ((hf 7 (by decide)).trans t7) ((hf 9 (by decide)).trans t9) hlt) ⟨s, ⟨_, rfl, rfl⟩, hS, fun _ _ => rfl⟩
        | 2, _ => exact stepV rfl rfl (execLd3 rfl (hv 1 (by omega) _ rfl _ rfl) (cI i hlt X hS)) ⟨s, ⟨_, rfl, rfl⟩, hS, fun _ _ => rfl⟩
        | 3, _ => exact stepV rfl rfl (execAsgB rfl (hv 0 (by omega) _ rfl _ rfl)) ⟨s, ⟨_, rfl, rfl⟩, hS, fun _ _ => rfl⟩
        | 4, _ => exact stepV rfl rfl (execAsgB rfl (hv 2 (by omega) _ rfl _ rfl)) ⟨s, ⟨_, rfl, rfl⟩, hS, fun _ _ => rfl⟩
        | k_ + 5, h_ => exact absurd h_ (by simp)
      rintro _ a X3 h1 h2 h3 h4 hS
      clear BB
      replace hS : Below V.heap.size V X3 := hS
      have BB := hS
      clear hS
      replace t1 := (h3 1 (by decide)).trans t1
      replace t7 := (h3 7 (by decide)).trans t7
      replace t8 := (h3 8 (by decide)).trans t8
      replace t9 := (h3 9 (by decide)).trans t9
      have t5 : a.eval (.tmp 5) = .int .i64 ((i : Nat) : Int) := h4 3 _ rfl _ rfl
      have t6 : a.eval (.tmp 6) = .int .i64 (d i) := h4 4 _ rfl _ rfl
      replace A := (⟨h1, h2.trans A.2⟩ : a.tmps.size = 24 ∧ a.defers = [])
      clear h1 h2 h3 h4
      refine wp_seq ?_
      refine wp_region_sq (σ := Unit) 24 [(0, 14), (1, 15), (2, 16), (3, 17), (4, 18), (5, 19), (6, 20), (7, 21), (8, 22)] (fun j_ s X => match j_ with | 0 => Below V.heap.size V X | 1 => Below V.heap.size V X | 2 => Below V.heap.size V X | 3 => Below V.heap.size V X | 4 => Below V.heap.size V X | 5 => Below V.heap.size V X | 6 => Below V.heap.size V X | 7 => Below V.heap.size V X | 8 => Below V.heap.size V X | _ => Below V.heap.size V X) (fun s => fun i_ => match i_ with | 0 => .int .i64 (d i) | 1 => .bool true | 2 => .bool true | 3 => undef | 4 => undef | 5 => undef | 6 => undef | 7 => undef | 8 => .bool true | _ => undef) () A.1 (by kernel_rfl) (by decide) (by decide) (BB) ?_ ?_
      · intro i_ hi_ s a X hf hv hn hS
        match i_, hi_ with
        | 0, _ => exact stepV rfl rfl (execMvB rfl ((hf 6 (by decide)).trans t6)) ⟨s, ⟨_, rfl, rfl⟩, hS, fun _ _ => rfl⟩
        | 1, _ => exact stepV rfl rfl (execLtCt (p := (d i)) (q := 0) rfl (hv 0 (by omega) _ rfl _ rfl) (by exact h1)) ⟨s, ⟨_, rfl, rfl⟩, hS, fun _ _ => rfl⟩
        | 2, _ => exact stepV rfl rfl (execMvB rfl (hv 1 (by omega) _ rfl _ rfl)) ⟨s, ⟨_, rfl, rfl⟩, hS, fun _ _ => rfl⟩
        | 3, _ => exact stepU rfl (unwantedOf rfl (yieldedAt rfl rfl (show a.eval (.tmp 16) = .bool (!false) from (hv 2 (by omega) _ rfl _ rfl)))) ⟨s, ⟨_, rfl, rfl⟩, hS, fun _ _ => rfl⟩
        | 4, _ => exact stepU rfl (unwantedOf rfl (yieldedAt rfl rfl (show a.eval (.tmp 16) = .bool (!false) from (hv 2 (by omega) _ rfl _ rfl)))) ⟨s, ⟨_, rfl, rfl⟩, hS, fun _ _ => rfl⟩
        | 5, _ => exact stepU rfl (unwantedOf rfl (yieldedAt rfl rfl (show a.eval (.tmp 16) = .bool (!false) from (hv 2 (by omega) _ rfl _ rfl)))) ⟨s, ⟨_, rfl, rfl⟩, hS, fun _ _ => rfl⟩
        | 6, _ => exact stepU rfl (unwantedOf rfl (yieldedAt rfl rfl (show a.eval (.tmp 16) = .bool (!false) from (hv 2 (by omega) _ rfl _ rfl)))) ⟨s, ⟨_, rfl, rfl⟩, hS, fun _ _ => rfl⟩
        | 7, _ => exact stepU rfl (unwantedOf rfl (yieldedAt rfl rfl (show a.eval (.tmp 16) = .bool (!false) from (hv 2 (by omega) _ rfl _ rfl)))) ⟨s, ⟨_, rfl, rfl⟩, hS, fun _ _ => rfl⟩
        | 8, _ => exact stepV rfl rfl (execPickT rfl (hv 2 (by omega) _ rfl _ rfl) rfl) ⟨s, ⟨_, rfl, rfl⟩, hS, fun _ _ => rfl⟩
        | k_ + 9, h_ => exact absurd h_ (by simp)
      rintro _ a X4 h1 h2 h3 h4 hS
      clear BB
      replace hS : Below V.heap.size V X4 := hS
      have BB := hS
      clear hS
      replace t1 := (h3 1 (by decide)).trans t1
      replace t7 := (h3 7 (by decide)).trans t7
      replace t8 := (h3 8 (by decide)).trans t8
      replace t9 := (h3 9 (by decide)).trans t9
      have t22 : a.eval (.tmp 22) = .bool true := h4 8 _ rfl _ rfl
      replace A := (⟨h1, h2.trans A.2⟩ : a.tmps.size = 24 ∧ a.defers = [])
      clear h1 h2 h3 h4
      clear t5 t6
      refine wp_cond_true t22 ?_
      refine wp_seq ?_
      refine wp_region_sq (σ := Unit) 24 [(0, 4)] (fun j_ s X => match j_ with | 0 => Below V.heap.size V X | _ => Below V.heap.size V X) (fun s => fun i_ => match i_ with | 0 => .bool false | _ => undef) () A.1 (by kernel_rfl) (by decide) (by decide) (BB) ?_ ?_
      · intro i_ hi_ s a X hf hv hn hS
        match i_, hi_ with
        | 0, _ => exact stepV rfl rfl (execAsgB rfl rfl) ⟨s, ⟨_, rfl, rfl⟩, hS, fun _ _ => rfl⟩
        | k_ + 1, h_ => exact absurd h_ (by simp)
      rintro _ a X5 h1 h2 h3 h4 hS
      clear BB
      replace hS : Below V.heap.size V X5 := hS
      have BB := hS
      clear hS
      have t4 : a.eval (.tmp 4) = .bool false := h4 0 _ rfl _ rfl
      replace A := (⟨h1, h2.trans A.2⟩ : a.tmps.size = 24 ∧ a.defers = [])
      clear h1 h2 h3 h4
      clear t1 t7 t8 t9 t22
      have hy : fitQ d N m = false := fitQ_bad hlt (by omega)
      rw [hy]
      refine wp_ret ?_
      repeat (first | refine ret_in ?_ | refine ret_then ?_)
      refine bodyPost_ret (results_tmp rfl _ _ _) A.2 ⟨?_, BB⟩
      show Ending.returned (a.eval (.tmp 4)) = _
      rw [t4]
    · by_cases h2 : (N : Int) - i ≤ d i
      · obtain ⟨w, ew⟩ : ∃ w : Nat, d i = w := ⟨(d i).toNat, by omega⟩
        have cW : ∀ X, Below V.heap.size V X → X.cell? ⟨ib, io + i, none⟩ = some (.int .i64 ((w : Nat) : Int)) := fun X hX => by rw [cI i hlt X hX, ew]
        refine wp_seq ?_
        refine wp_region_sq (σ := Unit) 24 [(0, 11), (1, 12), (2, 13), (3, 5), (4, 6)] (fun j_ s X => match j_ with | 0 => Below V.heap.size V X | 1 => Below V.heap.size V X | 2 => Below V.heap.size V X | 3 => Below V.heap.size V X | 4 => Below V.heap.size V X | _ => Below V.heap.size V X) (fun s => fun i_ => match i_ with | 0 => .int .i64 ((i : Nat) : Int) | 1 => .pointer (some ⟨ib, io + i, none⟩) | 2 => .int .i64 ((w : Nat) : Int) | 3 => .int .i64 ((i : Nat) : Int) | 4 => .int .i64 ((w : Nat) : Int) | _ => undef) () A.1 (by kernel_rfl) (by decide) (by decide) (BB) ?_ ?_
        · intro i_ hi_ s a X hf hv hn hS
          match i_, hi_ with
          | 0, _ => exact stepV rfl rfl (execMvB rfl ((hf 9 (by decide)).trans t9)) ⟨s, ⟨_, rfl, rfl⟩, hS, fun _ _ => rfl⟩
          | 1, _ => exact stepV rfl rfl (execIdxN (k := i) rfl ((hf 7 (by decide)).trans t7) ((hf 9 (by decide)).trans t9) hlt) ⟨s, ⟨_, rfl, rfl⟩, hS, fun _ _ => rfl⟩
          | 2, _ => exact stepV rfl rfl (execLd3 rfl (hv 1 (by omega) _ rfl _ rfl) (cW X hS)) ⟨s, ⟨_, rfl, rfl⟩, hS, fun _ _ => rfl⟩
          | 3, _ => exact stepV rfl rfl (execAsgB rfl (hv 0 (by omega) _ rfl _ rfl)) ⟨s, ⟨_, rfl, rfl⟩, hS, fun _ _ => rfl⟩
          | 4, _ => exact stepV rfl rfl (execAsgB rfl (hv 2 (by omega) _ rfl _ rfl)) ⟨s, ⟨_, rfl, rfl⟩, hS, fun _ _ => rfl⟩
          | k_ + 5, h_ => exact absurd h_ (by simp)
        rintro _ a X3 h1 h2 h3 h4 hS
        clear BB
        replace hS : Below V.heap.size V X3 := hS
        have BB := hS
        clear hS
        replace t1 := (h3 1 (by decide)).trans t1
        replace t7 := (h3 7 (by decide)).trans t7
        replace t8 := (h3 8 (by decide)).trans t8
        replace t9 := (h3 9 (by decide)).trans t9
        have t5 : a.eval (.tmp 5) = .int .i64 ((i : Nat) : Int) := h4 3 _ rfl _ rfl
        have t6 : a.eval (.tmp 6) = .int .i64 ((w : Nat) : Int) := h4 4 _ rfl _ rfl
        replace A := (⟨h1, h2.trans A.2⟩ : a.tmps.size = 24 ∧ a.defers = [])
        clear h1 h2 h3 h4
        refine wp_seq ?_
        refine wp_region_sq (σ := Unit) 24 [(0, 14), (1, 15), (2, 16), (3, 17), (4, 18), (5, 19), (6, 20), (7, 21), (8, 22)] (fun j_ s X => match j_ with | 0 => Below V.heap.size V X | 1 => Below V.heap.size V X | 2 => Below V.heap.size V X | 3 => Below V.heap.size V X | 4 => Below V.heap.size V X | 5 => Below V.heap.size V X | 6 => Below V.heap.size V X | 7 => Below V.heap.size V X | 8 => Below V.heap.size V X | _ => Below V.heap.size V X) (fun s => fun i_ => match i_ with | 0 => .int .i64 ((w : Nat) : Int) | 1 => .bool false | 2 => .bool false | 3 => .int .i64 ((w : Nat) : Int) | 4 => .int .i64 ((N : Nat) : Int) | 5 => .int .i64 ((i : Nat) : Int) | 6 => .int .i64 ((N - i : Nat) : Int) | 7 => .bool true | 8 => .bool true | _ => undef) () A.1 (by kernel_rfl) (by decide) (by decide) (BB) ?_ ?_
        · intro i_ hi_ s a X hf hv hn hS
          match i_, hi_ with
          | 0, _ => exact stepV rfl rfl (execMvB rfl ((hf 6 (by decide)).trans t6)) ⟨s, ⟨_, rfl, rfl⟩, hS, fun _ _ => rfl⟩
          | 1, _ => exact stepV rfl rfl (execDec (execLtW (p := w) (q := 0) rfl (hv 0 (by omega) _ rfl _ rfl) rfl) (decide_eq_false (by omega))) ⟨s, ⟨_, rfl, rfl⟩, hS, fun _ _ => rfl⟩
          | 2, _ => exact stepV rfl rfl (execMvB rfl (hv 1 (by omega) _ rfl _ rfl)) ⟨s, ⟨_, rfl, rfl⟩, hS, fun _ _ => rfl⟩
          | 3, _ => exact stepV rfl (wantedOf rfl (yieldedAt rfl rfl (show a.eval (.tmp 16) = .bool false from (hv 2 (by omega) _ rfl _ rfl)))) (execMvB rfl ((hf 6 (by decide)).trans t6)) ⟨s, ⟨_, rfl, rfl⟩, hS, fun _ _ => rfl⟩
          | 4, _ => exact stepV rfl (wantedOf rfl (yieldedAt rfl rfl (show a.eval (.tmp 16) = .bool false from (hv 2 (by omega) _ rfl _ rfl)))) (execMvB rfl ((hf 1 (by decide)).trans t1)) ⟨s, ⟨_, rfl, rfl⟩, hS, fun _ _ => rfl⟩
          | 5, _ => exact stepV rfl (wantedOf rfl (yieldedAt rfl rfl (show a.eval (.tmp 16) = .bool false from (hv 2 (by omega) _ rfl _ rfl)))) (execMvB rfl ((hf 5 (by decide)).trans t5)) ⟨s, ⟨_, rfl, rfl⟩, hS, fun _ _ => rfl⟩
          | 6, _ => exact stepV rfl (wantedOf rfl (yieldedAt rfl rfl (show a.eval (.tmp 16) = .bool false from (hv 2 (by omega) _ rfl _ rfl)))) (By8.execSubI (p := N) (q := i) rfl (hv 4 (by omega) _ rfl _ rfl) (hv 5 (by omega) _ rfl _ rfl) (by omega) (by omega)) ⟨s, ⟨_, rfl, rfl⟩, hS, fun _ _ => rfl⟩
          | 7, _ => exact stepV rfl (wantedOf rfl (yieldedAt rfl rfl (show a.eval (.tmp 16) = .bool false from (hv 2 (by omega) _ rfl _ rfl)))) (execDec (execGe8 (p := w) (q := N - i) rfl (hv 3 (by omega) _ rfl _ rfl) (hv 6 (by omega) _ rfl _ rfl)) (decide_eq_true (by omega))) ⟨s, ⟨_, rfl, rfl⟩, hS, fun _ _ => rfl⟩
          | 8, _ => exact stepV rfl rfl (execPickF rfl (hv 2 (by omega) _ rfl _ rfl) (hv 7 (by omega) _ rfl _ rfl)) ⟨s, ⟨_, rfl, rfl⟩, hS, fun _ _ => rfl⟩
          | k_ + 9, h_ => exact absurd h_ (by simp)
        rintro _ a X4 h1 h2 h3 h4 hS
        clear BB
        replace hS : Below V.heap.size V X4 := hS
        have BB := hS
        clear hS
        replace t1 := (h3 1 (by decide)).trans t1
        replace t7 := (h3 7 (by decide)).trans t7
        replace t8 := (h3 8 (by decide)).trans t8
        replace t9 := (h3 9 (by decide)).trans t9
        have t22 : a.eval (.tmp 22) = .bool true := h4 8 _ rfl _ rfl
        replace A := (⟨h1, h2.trans A.2⟩ : a.tmps.size = 24 ∧ a.defers = [])
        clear h1 h2 h3 h4
        clear t5 t6
        refine wp_cond_true t22 ?_
        refine wp_seq ?_
        refine wp_region_sq (σ := Unit) 24 [(0, 4)] (fun j_ s X => match j_ with | 0 => Below V.heap.size V X | _ => Below V.heap.size V X) (fun s => fun i_ => match i_ with | 0 => .bool false | _ => undef) () A.1 (by kernel_rfl) (by decide) (by decide) (BB) ?_ ?_
        · intro i_ hi_ s a X hf hv hn hS
          match i_, hi_ with
          | 0, _ => exact stepV rfl rfl (execAsgB rfl rfl) ⟨s, ⟨_, rfl, rfl⟩, hS, fun _ _ => rfl⟩
          | k_ + 1, h_ => exact absurd h_ (by simp)
        rintro _ a X5 h1 h2 h3 h4 hS
        clear BB
        replace hS : Below V.heap.size V X5 := hS
        have BB := hS
        clear hS
        have t4 : a.eval (.tmp 4) = .bool false := h4 0 _ rfl _ rfl
        replace A := (⟨h1, h2.trans A.2⟩ : a.tmps.size = 24 ∧ a.defers = [])
        clear h1 h2 h3 h4
        clear t1 t7 t8 t9 t22
        have hy : fitQ d N m = false := fitQ_bad hlt (by omega)
        rw [hy]
        refine wp_ret ?_
        repeat (first | refine ret_in ?_ | refine ret_then ?_)
        refine bodyPost_ret (results_tmp rfl _ _ _) A.2 ⟨?_, BB⟩
        show Ending.returned (a.eval (.tmp 4)) = _
        rw [t4]
      · obtain ⟨w, ew⟩ : ∃ w : Nat, d i = w := ⟨(d i).toNat, by omega⟩
        have cW : ∀ X, Below V.heap.size V X → X.cell? ⟨ib, io + i, none⟩ = some (.int .i64 ((w : Nat) : Int)) := fun X hX => by rw [cI i hlt X hX, ew]
        refine wp_seq ?_
        refine wp_region_sq (σ := Unit) 24 [(0, 11), (1, 12), (2, 13), (3, 5), (4, 6)] (fun j_ s X => match j_ with | 0 => Below V.heap.size V X | 1 => Below V.heap.size V X | 2 => Below V.heap.size V X | 3 => Below V.heap.size V X | 4 => Below V.heap.size V X | _ => Below V.heap.size V X) (fun s => fun i_ => match i_ with | 0 => .int .i64 ((i : Nat) : Int) | 1 => .pointer (some ⟨ib, io + i, none⟩) | 2 => .int .i64 ((w : Nat) : Int) | 3 => .int .i64 ((i : Nat) : Int) | 4 => .int .i64 ((w : Nat) : Int) | _ => undef) () A.1 (by kernel_rfl) (by decide) (by decide) (BB) ?_ ?_
        · intro i_ hi_ s a X hf hv hn hS
          match i_, hi_ with
          | 0, _ => exact stepV rfl rfl (execMvB rfl ((hf 9 (by decide)).trans t9)) ⟨s, ⟨_, rfl, rfl⟩, hS, fun _ _ => rfl⟩
          | 1, _ => exact stepV rfl rfl (execIdxN (k := i) rfl ((hf 7 (by decide)).trans t7) ((hf 9 (by decide)).trans t9) hlt) ⟨s, ⟨_, rfl, rfl⟩, hS, fun _ _ => rfl⟩
          | 2, _ => exact stepV rfl rfl (execLd3 rfl (hv 1 (by omega) _ rfl _ rfl) (cW X hS)) ⟨s, ⟨_, rfl, rfl⟩, hS, fun _ _ => rfl⟩
          | 3, _ => exact stepV rfl rfl (execAsgB rfl (hv 0 (by omega) _ rfl _ rfl)) ⟨s, ⟨_, rfl, rfl⟩, hS, fun _ _ => rfl⟩
          | 4, _ => exact stepV rfl rfl (execAsgB rfl (hv 2 (by omega) _ rfl _ rfl)) ⟨s, ⟨_, rfl, rfl⟩, hS, fun _ _ => rfl⟩
          | k_ + 5, h_ => exact absurd h_ (by simp)
        rintro _ a X3 h1 h2 h3 h4 hS
        clear BB
        replace hS : Below V.heap.size V X3 := hS
        have BB := hS
        clear hS
        replace t1 := (h3 1 (by decide)).trans t1
        replace t7 := (h3 7 (by decide)).trans t7
        replace t8 := (h3 8 (by decide)).trans t8
        replace t9 := (h3 9 (by decide)).trans t9
        have t5 : a.eval (.tmp 5) = .int .i64 ((i : Nat) : Int) := h4 3 _ rfl _ rfl
        have t6 : a.eval (.tmp 6) = .int .i64 ((w : Nat) : Int) := h4 4 _ rfl _ rfl
        replace A := (⟨h1, h2.trans A.2⟩ : a.tmps.size = 24 ∧ a.defers = [])
        clear h1 h2 h3 h4
        refine wp_seq ?_
        refine wp_region_sq (σ := Unit) 24 [(0, 14), (1, 15), (2, 16), (3, 17), (4, 18), (5, 19), (6, 20), (7, 21), (8, 22)] (fun j_ s X => match j_ with | 0 => Below V.heap.size V X | 1 => Below V.heap.size V X | 2 => Below V.heap.size V X | 3 => Below V.heap.size V X | 4 => Below V.heap.size V X | 5 => Below V.heap.size V X | 6 => Below V.heap.size V X | 7 => Below V.heap.size V X | 8 => Below V.heap.size V X | _ => Below V.heap.size V X) (fun s => fun i_ => match i_ with | 0 => .int .i64 ((w : Nat) : Int) | 1 => .bool false | 2 => .bool false | 3 => .int .i64 ((w : Nat) : Int) | 4 => .int .i64 ((N : Nat) : Int) | 5 => .int .i64 ((i : Nat) : Int) | 6 => .int .i64 ((N - i : Nat) : Int) | 7 => .bool false | 8 => .bool false | _ => undef) () A.1 (by kernel_rfl) (by decide) (by decide) (BB) ?_ ?_
        · intro i_ hi_ s a X hf hv hn hS
          match i_, hi_ with
          | 0, _ => exact stepV rfl rfl (execMvB rfl ((hf 6 (by decide)).trans t6)) ⟨s, ⟨_, rfl, rfl⟩, hS, fun _ _ => rfl⟩
          | 1, _ => exact stepV rfl rfl (execDec (execLtW (p := w) (q := 0) rfl (hv 0 (by omega) _ rfl _ rfl) rfl) (decide_eq_false (by omega))) ⟨s, ⟨_, rfl, rfl⟩, hS, fun _ _ => rfl⟩
          | 2, _ => exact stepV rfl rfl (execMvB rfl (hv 1 (by omega) _ rfl _ rfl)) ⟨s, ⟨_, rfl, rfl⟩, hS, fun _ _ => rfl⟩
          | 3, _ => exact stepV rfl (wantedOf rfl (yieldedAt rfl rfl (show a.eval (.tmp 16) = .bool false from (hv 2 (by omega) _ rfl _ rfl)))) (execMvB rfl ((hf 6 (by decide)).trans t6)) ⟨s, ⟨_, rfl, rfl⟩, hS, fun _ _ => rfl⟩
          | 4, _ => exact stepV rfl (wantedOf rfl (yieldedAt rfl rfl (show a.eval (.tmp 16) = .bool false from (hv 2 (by omega) _ rfl _ rfl)))) (execMvB rfl ((hf 1 (by decide)).trans t1)) ⟨s, ⟨_, rfl, rfl⟩, hS, fun _ _ => rfl⟩
          | 5, _ => exact stepV rfl (wantedOf rfl (yieldedAt rfl rfl (show a.eval (.tmp 16) = .bool false from (hv 2 (by omega) _ rfl _ rfl)))) (execMvB rfl ((hf 5 (by decide)).trans t5)) ⟨s, ⟨_, rfl, rfl⟩, hS, fun _ _ => rfl⟩
          | 6, _ => exact stepV rfl (wantedOf rfl (yieldedAt rfl rfl (show a.eval (.tmp 16) = .bool false from (hv 2 (by omega) _ rfl _ rfl)))) (By8.execSubI (p := N) (q := i) rfl (hv 4 (by omega) _ rfl _ rfl) (hv 5 (by omega) _ rfl _ rfl) (by omega) (by omega)) ⟨s, ⟨_, rfl, rfl⟩, hS, fun _ _ => rfl⟩
          | 7, _ => exact stepV rfl (wantedOf rfl (yieldedAt rfl rfl (show a.eval (.tmp 16) = .bool false from (hv 2 (by omega) _ rfl _ rfl)))) (execDec (execGe8 (p := w) (q := N - i) rfl (hv 3 (by omega) _ rfl _ rfl) (hv 6 (by omega) _ rfl _ rfl)) (decide_eq_false (by omega))) ⟨s, ⟨_, rfl, rfl⟩, hS, fun _ _ => rfl⟩
          | 8, _ => exact stepV rfl rfl (execPickF rfl (hv 2 (by omega) _ rfl _ rfl) (hv 7 (by omega) _ rfl _ rfl)) ⟨s, ⟨_, rfl, rfl⟩, hS, fun _ _ => rfl⟩
          | k_ + 9, h_ => exact absurd h_ (by simp)
        rintro _ a X4 h1 h2 h3 h4 hS
        clear BB
        replace hS : Below V.heap.size V X4 := hS
        have BB := hS
        clear hS
        replace t1 := (h3 1 (by decide)).trans t1
        replace t7 := (h3 7 (by decide)).trans t7
        replace t8 := (h3 8 (by decide)).trans t8
        replace t9 := (h3 9 (by decide)).trans t9
        have t22 : a.eval (.tmp 22) = .bool false := h4 8 _ rfl _ rfl
        replace A := (⟨h1, h2.trans A.2⟩ : a.tmps.size = 24 ∧ a.defers = [])
        clear h1 h2 h3 h4
        clear t5 t6
        refine wp_cond_false t22 ?_
        refine wp_skip ?_
        clear t22
        refine wp_region_sq (σ := Unit) 24 [(0, 23), (1, 9)] (fun j_ s X => match j_ with | 0 => Below V.heap.size V X | 1 => Below V.heap.size V X | _ => Below V.heap.size V X) (fun s => fun i_ => match i_ with | 0 => .int .i64 ((i + 1 : Nat) : Int) | 1 => .int .i64 ((i + 1 : Nat) : Int) | _ => undef) () A.1 (by kernel_rfl) (by decide) (by decide) (BB) ?_ ?_
        · intro i_ hi_ s a X hf hv hn hS
          match i_, hi_ with
          | 0, _ => exact stepV rfl rfl (execAd8 (p := i) (q := 1) rfl ((hn 1 (by omega) _ rfl _ rfl).trans t9) rfl (by omega)) ⟨s, ⟨_, rfl, rfl⟩, hS, fun _ _ => rfl⟩
          | 1, _ => exact stepV rfl rfl (execMvB rfl (hv 0 (by omega) _ rfl _ rfl)) ⟨s, ⟨_, rfl, rfl⟩, hS, fun _ _ => rfl⟩
          | k_ + 2, h_ => exact absurd h_ (by simp)
        rintro _ a X6 h1 h2 h3 h4 hS
        clear BB
        replace hS : Below V.heap.size V X6 := hS
        have BB := hS
        clear hS
        replace t1 := (h3 1 (by decide)).trans t1
        replace t7 := (h3 7 (by decide)).trans t7
        replace t8 := (h3 8 (by decide)).trans t8
        replace t9 : a.eval (.tmp 9) = .int .i64 ((i + 1 : Nat) : Int) := h4 1 _ rfl _ rfl
        replace A := (⟨h1, h2.trans A.2⟩ : a.tmps.size = 24 ∧ a.defers = [])
        clear h1 h2 h3 h4
        exact ⟨⟨i + 1, hlt, fitQ_succ hok (by omega), A, t1, t7, t8, t9, BB⟩, by show m - (intOf (a.eval (.tmp 9))).toNat < m - (intOf (Act.eval _ (.tmp 9))).toNat; rw [t9, es]; show m - (i + 1) < m - i; omega⟩
  · rw [decide_eq_false hlt] at t10
    refine wp_cond_false t10 ?_
    refine wp_exit ?_
    first | refine exit_in ?_ | refine exit_then (exit_in ?_) | refine exit_then (exit_then (exit_in ?_))
    clear t10 es
    have hin : i = m := by omega
    rw [hin] at hok
    rw [hok]
    refine wp_seq ?_
    refine wp_region_sq (σ := Unit) 24 [(0, 4)] (fun j_ s X => match j_ with | 0 => Below V.heap.size V X | _ => Below V.heap.size V X) (fun s => fun i_ => match i_ with | 0 => .bool true | _ => undef) () A.1 (by kernel_rfl) (by decide) (by decide) (BB) ?_ ?_
    · intro i_ hi_ s a X hf hv hn hS
      match i_, hi_ with
      | 0, _ => exact stepV rfl rfl (execAsgB rfl rfl) ⟨s, ⟨_, rfl, rfl⟩, hS, fun _ _ => rfl⟩
      | k_ + 1, h_ => exact absurd h_ (by simp)
    rintro _ a X7 h1 h2 h3 h4 hS
    clear BB
    replace hS : Below V.heap.size V X7 := hS
    have BB := hS
    clear hS
    have t4 : a.eval (.tmp 4) = .bool true := h4 0 _ rfl _ rfl
    replace A := (⟨h1, h2.trans A.2⟩ : a.tmps.size = 24 ∧ a.defers = [])
    clear h1 h2 h3 h4
    clear t1 t7 t8 t9
    refine wp_ret ?_
    repeat (first | refine ret_in ?_ | refine ret_then ?_)
    refine bodyPost_ret (results_tmp rfl _ _ _) A.2 ⟨?_, BB⟩
    show Ending.returned (a.eval (.tmp 4)) = _
    rw [t4]
set_option maxRecDepth 100000 in
set_option maxHeartbeats 4000000 in
/-- How many are below. -/
theorem pcountBelow (p : Nat → Nat) (x n : Nat) (v : Value) (V : World) (hv : SliceI V v n (fun j => (p j : Int))) (hn17 : n ≤ 17592186044416) :
    Calls Try.prog 38 #[v, .int .i64 ((x : Nat) : Int)] V fun e w' => e = .returned (.int .i64 ((cnt p x n : Nat) : Int)) ∧ Below V.heap.size V w' := by
  obtain ⟨ia, ic, rfl, -, -, hsh⟩ := id hv.shape
  have FI := hv
  go_enter Try.func38, Try.ntmps38
  refine wp_seq ?_
  refine wp_region_sqK 21 [(0, 4)] (fun i_ => match i_ with | 0 => .int .i64 ((0 : Nat) : Int) | _ => undef) rfl (by kernel_rfl) (by decide) (by decide) ?_ ?_
  · intro i_ hi_ a hf hv hn
    match i_, hi_ with
    | 0, _ => exact stepV rfl rfl (execAsgB rfl rfl) ⟨⟨_, rfl, rfl⟩, rfl⟩
    | k_ + 1, h_ => exact absurd h_ (by simp)
  intro a h1 h2 h3 h4
  have t0 : a.eval (.tmp 0) = .slice ia n ic := (h3 0 (by decide)).trans rfl
  have t1 : a.eval (.tmp 1) = .int .i64 ((x : Nat) : Int) := (h3 1 (by decide)).trans rfl
  have A : a.tmps.size = 21 ∧ a.defers = [] := ⟨h1, h2⟩
  have BW : Below V.heap.size V V := Below.refl _ _
  clear h1 h2 h3 h4
  have BB := BW
  refine wp_seq ?_
  refine wp_region_sq (σ := Unit) 21 [(0, 5)] (fun j_ s X => match j_ with | 0 => Below V.heap.size V X | _ => Below V.heap.size V X) (fun s => fun i_ => match i_ with | 0 => .int .i64 ((0 : Nat) : Int) | _ => undef) () A.1 (by kernel_rfl) (by decide) (by decide) (BB) ?_ ?_
  · intro i_ hi_ s a X hf hv hn hS
    match i_, hi_ with
    | 0, _ => exact stepV rfl rfl (execAsgB rfl rfl) ⟨s, ⟨_, rfl, rfl⟩, hS, fun _ _ => rfl⟩
    | k_ + 1, h_ => exact absurd h_ (by simp)
  rintro _ a X1 h1 h2 h3 h4 hS
  clear BB
  replace hS : Below V.heap.size V X1 := hS
  have BB := hS
  clear hS
  replace t0 := (h3 0 (by decide)).trans t0
  replace t1 := (h3 1 (by decide)).trans t1
  have t5 : a.eval (.tmp 5) = .int .i64 ((0 : Nat) : Int) := h4 0 _ rfl _ rfl
  replace A := (⟨h1, h2.trans A.2⟩ : a.tmps.size = 21 ∧ a.defers = [])
  clear h1 h2 h3 h4
  refine wp_seq ?_
  refine wp_seq ?_
  refine wp_region_sq (σ := Unit) 21 [(0, 8), (1, 9), (2, 10)] (fun j_ s X => match j_ with | 0 => Below V.heap.size V X | 1 => Below V.heap.size V X | 2 => Below V.heap.size V X | _ => Below V.heap.size V X) (fun s => fun i_ => match i_ with | 0 => .slice ia n ic | 1 => .int .i64 ((n : Nat) : Int) | 2 => .int .i64 ((0 : Nat) : Int) | _ => undef) () A.1 (by kernel_rfl) (by decide) (by decide) (BB) ?_ ?_
  · intro i_ hi_ s a X hf hv hn hS
    match i_, hi_ with
    | 0, _ => exact stepV rfl rfl (execMvB rfl ((hf 0 (by decide)).trans t0)) ⟨s, ⟨_, rfl, rfl⟩, hS, fun _ _ => rfl⟩
    | 1, _ => exact stepV rfl rfl (execLenI (len := n) rfl (hv 0 (by omega) _ rfl _ rfl) ((FI.on hS)).shp) ⟨s, ⟨_, rfl, rfl⟩, hS, fun _ _ => rfl⟩
    | 2, _ => exact stepV rfl rfl (execMvB rfl rfl) ⟨s, ⟨_, rfl, rfl⟩, hS, fun _ _ => rfl⟩
    | k_ + 3, h_ => exact absurd h_ (by simp)
  rintro _ a X2 h1 h2 h3 h4 hS
  clear BB
  replace hS : Below V.heap.size V X2 := hS
  have BB := hS
  clear hS
  replace t1 := (h3 1 (by decide)).trans t1
  replace t5 := (h3 5 (by decide)).trans t5
  have t8 : a.eval (.tmp 8) = .slice ia n ic := h4 0 _ rfl _ rfl
  have t9 : a.eval (.tmp 9) = .int .i64 ((n : Nat) : Int) := h4 1 _ rfl _ rfl
  have t10 : a.eval (.tmp 10) = .int .i64 ((0 : Nat) : Int) := h4 2 _ rfl _ rfl
  replace A := (⟨h1, h2.trans A.2⟩ : a.tmps.size = 21 ∧ a.defers = [])
  clear h1 h2 h3 h4
  clear t0
  refine wp_block ?_
  refine wp_loop (fun a W => ∃ (i : Nat), i ≤ n ∧ (a.tmps.size = 21 ∧ a.defers = []) ∧ a.eval (.tmp 1) = .int .i64 ((x : Nat) : Int) ∧ a.eval (.tmp 5) = .int .i64 ((cnt p x i : Nat) : Int) ∧ a.eval (.tmp 8) = .slice ia n ic ∧ a.eval (.tmp 9) = .int .i64 ((n : Nat) : Int) ∧ a.eval (.tmp 10) = .int .i64 ((i : Nat) : Int) ∧ Below V.heap.size V W) (fun a _ => n - (intOf (a.eval (.tmp 10))).toNat) ⟨0, Nat.zero_le _, A, t1, t5, t8, t9, t10, BB⟩ ?_
  clear A t1 t5 t8 t9 t10 BB a
  rintro a XL3 ⟨i, hi, A, t1, t5, t8, t9, t10, BB⟩
  have es := t10
  refine wp_seq ?_
  refine wp_region_sq (σ := Unit) 21 [(0, 11)] (fun j_ s X => match j_ with | 0 => Below V.heap.size V X | _ => Below V.heap.size V X) (fun s => fun i_ => match i_ with | 0 => .bool (decide (i < n)) | _ => undef) () A.1 (by kernel_rfl) (by decide) (by decide) (BB) ?_ ?_
  · intro i_ hi_ s a X hf hv hn hS
    match i_, hi_ with
    | 0, _ => exact stepV rfl rfl (execLtW (p := i) (q := n) rfl ((hf 10 (by decide)).trans t10) ((hf 9 (by decide)).trans t9)) ⟨s, ⟨_, rfl, rfl⟩, hS, fun _ _ => rfl⟩
    | k_ + 1, h_ => exact absurd h_ (by simp)
  rintro _ a X3 h1 h2 h3 h4 hS
  clear BB
  replace hS : Below V.heap.size V X3 := hS
  have BB := hS
  clear hS
  replace t1 := (h3 1 (by decide)).trans t1
  replace t5 := (h3 5 (by decide)).trans t5
  replace t8 := (h3 8 (by decide)).trans t8
  replace t9 := (h3 9 (by decide)).trans t9
  replace t10 := (h3 10 (by decide)).trans t10
  have t11 : a.eval (.tmp 11) = .bool (decide (i < n)) := h4 0 _ rfl _ rfl
  replace A := (⟨h1, h2.trans A.2⟩ : a.tmps.size = 21 ∧ a.defers = [])
  clear h1 h2 h3 h4
  refine wp_seq ?_
  by_cases hlt : i < n
  · rw [decide_eq_true hlt] at t11
    refine wp_cond_true t11 ?_
    refine wp_skip ?_
    clear t11
    refine wp_seq ?_
    refine wp_block ?_
    obtain ⟨ib, io, rfl, hib, hcell⟩ := hsh (by omega)
    have cI : ∀ X, Below V.heap.size V X → X.cell? ⟨ib, io + i, none⟩ = some (.int .i64 ((p i : Nat) : Int)) := fun X hX => by rw [cell_below hX hib]; exact hcell i hlt
    have hcle := cnt_le p x i
    by_cases hpx : p i < x
    · refine wp_seq ?_
      refine wp_region_sq (σ := Unit) 21 [(0, 12), (1, 13), (2, 7)] (fun j_ s X => match j_ with | 0 => Below V.heap.size V X | 1 => Below V.heap.size V X | 2 => Below V.heap.size V X | _ => Below V.heap.size V X) (fun s => fun i_ => match i_ with | 0 => .pointer (some ⟨ib, io + i, none⟩) | 1 => .int .i64 ((p i : Nat) : Int) | 2 => .int .i64 ((p i : Nat) : Int) | _ => undef) () A.1 (by kernel_rfl) (by decide) (by decide) (BB) ?_ ?_
      · intro i_ hi_ s a X hf hv hn hS
        match i_, hi_ with
        | 0, _ => exact stepV rfl rfl (execIdxN (k := i) rfl ((hf 8 (by decide)).trans t8) ((hf 10 (by decide)).trans t10) hlt) ⟨s, ⟨_, rfl, rfl⟩, hS, fun _ _ => rfl⟩
        | 1, _ => exact stepV rfl rfl (execLd3 rfl (hv 0 (by omega) _ rfl _ rfl) (cI X hS)) ⟨s, ⟨_, rfl, rfl⟩, hS, fun _ _ => rfl⟩
        | 2, _ => exact stepV rfl rfl (execAsgB rfl (hv 1 (by omega) _ rfl _ rfl)) ⟨s, ⟨_, rfl, rfl⟩, hS, fun _ _ => rfl⟩
        | k_ + 3, h_ => exact absurd h_ (by simp)
      rintro _ a X4 h1 h2 h3 h4 hS
      clear BB
      replace hS : Below V.heap.size V X4 := hS
      have BB := hS
      clear hS
      replace t1 := (h3 1 (by decide)).trans t1
      replace t5 := (h3 5 (by decide)).trans t5
      replace t8 := (h3 8 (by decide)).trans t8
      replace t9 := (h3 9 (by decide)).trans t9
      replace t10 := (h3 10 (by decide)).trans t10
      have t7 : a.eval (.tmp 7) = .int .i64 ((p i : Nat) : Int) := h4 2 _ rfl _ rfl
      replace A := (⟨h1, h2.trans A.2⟩ : a.tmps.size = 21 ∧ a.defers = [])
      clear h1 h2 h3 h4
      refine wp_seq ?_
      refine wp_region_sq (σ := Unit) 21 [(0, 14), (1, 15), (2, 16)] (fun j_ s X => match j_ with | 0 => Below V.heap.size V X | 1 => Below V.heap.size V X | 2 => Below V.heap.size V X | _ => Below V.heap.size V X) (fun s => fun i_ => match i_ with | 0 => .int .i64 ((p i : Nat) : Int) | 1 => .int .i64 ((x : Nat) : Int) | 2 => .bool true | _ => undef) () A.1 (by kernel_rfl) (by decide) (by decide) (BB) ?_ ?_
      · intro i_ hi_ s a X hf hv hn hS
        match i_, hi_ with
        | 0, _ => exact stepV rfl rfl (execMvB rfl ((hf 7 (by decide)).trans t7)) ⟨s, ⟨_, rfl, rfl⟩, hS, fun _ _ => rfl⟩
        | 1, _ => exact stepV rfl rfl (execMvB rfl ((hf 1 (by decide)).trans t1)) ⟨s, ⟨_, rfl, rfl⟩, hS, fun _ _ => rfl⟩
        | 2, _ => exact stepV rfl rfl (execDec (execLtW (p := p i) (q := x) rfl (hv 0 (by omega) _ rfl _ rfl) (hv 1 (by omega) _ rfl _ rfl)) (decide_eq_true (by omega))) ⟨s, ⟨_, rfl, rfl⟩, hS, fun _ _ => rfl⟩
        | k_ + 3, h_ => exact absurd h_ (by simp)
      rintro _ a X5 h1 h2 h3 h4 hS
      clear BB
      replace hS : Below V.heap.size V X5 := hS
      have BB := hS
      clear hS
      replace t1 := (h3 1 (by decide)).trans t1
      replace t5 := (h3 5 (by decide)).trans t5
      replace t8 := (h3 8 (by decide)).trans t8
      replace t9 := (h3 9 (by decide)).trans t9
      replace t10 := (h3 10 (by decide)).trans t10
      have t16 : a.eval (.tmp 16) = .bool true := h4 2 _ rfl _ rfl
      replace A := (⟨h1, h2.trans A.2⟩ : a.tmps.size = 21 ∧ a.defers = [])
      clear h1 h2 h3 h4
      clear t7
      refine wp_cond_true t16 ?_
      clear t16
      refine wp_region_sq (σ := Unit) 21 [(0, 17), (1, 18), (2, 5)] (fun j_ s X => match j_ with | 0 => Below V.heap.size V X | 1 => Below V.heap.size V X | 2 => Below V.heap.size V X | _ => Below V.heap.size V X) (fun s => fun i_ => match i_ with | 0 => .int .i64 ((cnt p x i : Nat) : Int) | 1 => .int .i64 ((cnt p x i + 1 : Nat) : Int) | 2 => .int .i64 ((cnt p x i + 1 : Nat) : Int) | _ => undef) () A.1 (by kernel_rfl) (by decide) (by decide) (BB) ?_ ?_
      · intro i_ hi_ s a X hf hv hn hS
        match i_, hi_ with
        | 0, _ => exact stepV rfl rfl (execMvB rfl ((hn 2 (by omega) _ rfl _ rfl).trans t5)) ⟨s, ⟨_, rfl, rfl⟩, hS, fun _ _ => rfl⟩
        | 1, _ => exact stepV rfl rfl (execAd8 (p := cnt p x i) (q := 1) rfl (hv 0 (by omega) _ rfl _ rfl) rfl (by omega)) ⟨s, ⟨_, rfl, rfl⟩, hS, fun _ _ => rfl⟩
        | 2, _ => exact stepV rfl rfl (execAsgB rfl (hv 1 (by omega) _ rfl _ rfl)) ⟨s, ⟨_, rfl, rfl⟩, hS, fun _ _ => rfl⟩
        | k_ + 3, h_ => exact absurd h_ (by simp)
      rintro _ a X6 h1 h2 h3 h4 hS
      clear BB
      replace hS : Below V.heap.size V X6 := hS
      have BB := hS
      clear hS
      replace t1 := (h3 1 (by decide)).trans t1
      replace t5 : a.eval (.tmp 5) = .int .i64 ((cnt p x i + 1 : Nat) : Int) := h4 2 _ rfl _ rfl
      replace t8 := (h3 8 (by decide)).trans t8
      replace t9 := (h3 9 (by decide)).trans t9
      replace t10 := (h3 10 (by decide)).trans t10
      replace A := (⟨h1, h2.trans A.2⟩ : a.tmps.size = 21 ∧ a.defers = [])
      clear h1 h2 h3 h4
      have ec : cnt p x (i + 1) = cnt p x i + 1 := by simp only [cnt, if_pos hpx]
      rw [← ec] at t5
      refine wp_region_sq (σ := Unit) 21 [(0, 19), (1, 10)] (fun j_ s X => match j_ with | 0 => Below V.heap.size V X | 1 => Below V.heap.size V X | _ => Below V.heap.size V X) (fun s => fun i_ => match i_ with | 0 => .int .i64 ((i + 1 : Nat) : Int) | 1 => .int .i64 ((i + 1 : Nat) : Int) | _ => undef) () A.1 (by kernel_rfl) (by decide) (by decide) (BB) ?_ ?_
      · intro i_ hi_ s a X hf hv hn hS
        match i_, hi_ with
        | 0, _ => exact stepV rfl rfl (execAd8 (p := i) (q := 1) rfl ((hn 1 (by omega) _ rfl _ rfl).trans t10) rfl (by omega)) ⟨s, ⟨_, rfl, rfl⟩, hS, fun _ _ => rfl⟩
        | 1, _ => exact stepV rfl rfl (execMvB rfl (hv 0 (by omega) _ rfl _ rfl)) ⟨s, ⟨_, rfl, rfl⟩, hS, fun _ _ => rfl⟩
        | k_ + 2, h_ => exact absurd h_ (by simp)
      rintro _ a X7 h1 h2 h3 h4 hS
      clear BB
      replace hS : Below V.heap.size V X7 := hS
      have BB := hS
      clear hS
      replace t1 := (h3 1 (by decide)).trans t1
      replace t5 := (h3 5 (by decide)).trans t5
      replace t8 := (h3 8 (by decide)).trans t8
      replace t9 := (h3 9 (by decide)).trans t9
      replace t10 : a.eval (.tmp 10) = .int .i64 ((i + 1 : Nat) : Int) := h4 1 _ rfl _ rfl
      replace A := (⟨h1, h2.trans A.2⟩ : a.tmps.size = 21 ∧ a.defers = [])
      clear h1 h2 h3 h4
      exact ⟨⟨i + 1, hlt, A, t1, t5, t8, t9, t10, BB⟩, by show n - (intOf (a.eval (.tmp 10))).toNat < n - (intOf (Act.eval _ (.tmp 10))).toNat; rw [t10, es]; show n - (i + 1) < n - i; omega⟩
    · refine wp_seq ?_
      refine wp_region_sq (σ := Unit) 21 [(0, 12), (1, 13), (2, 7)] (fun j_ s X => match j_ with | 0 => Below V.heap.size V X | 1 => Below V.heap.size V X | 2 => Below V.heap.size V X | _ => Below V.heap.size V X) (fun s => fun i_ => match i_ with | 0 => .pointer (some ⟨ib, io + i, none⟩) | 1 => .int .i64 ((p i : Nat) : Int) | 2 => .int .i64 ((p i : Nat) : Int) | _ => undef) () A.1 (by kernel_rfl) (by decide) (by decide) (BB) ?_ ?_
      · intro i_ hi_ s a X hf hv hn hS
        match i_, hi_ with
        | 0, _ => exact stepV rfl rfl (execIdxN (k := i) rfl ((hf 8 (by decide)).trans t8) ((hf 10 (by decide)).trans t10) hlt) ⟨s, ⟨_, rfl, rfl⟩, hS, fun _ _ => rfl⟩
        | 1, _ => exact stepV rfl rfl (execLd3 rfl (hv 0 (by omega) _ rfl _ rfl) (cI X hS)) ⟨s, ⟨_, rfl, rfl⟩, hS, fun _ _ => rfl⟩
        | 2, _ => exact stepV rfl rfl (execAsgB rfl (hv 1 (by omega) _ rfl _ rfl)) ⟨s, ⟨_, rfl, rfl⟩, hS, fun _ _ => rfl⟩
        | k_ + 3, h_ => exact absurd h_ (by simp)
      rintro _ a X4 h1 h2 h3 h4 hS
      clear BB
      replace hS : Below V.heap.size V X4 := hS
      have BB := hS
      clear hS
      replace t1 := (h3 1 (by decide)).trans t1
      replace t5 := (h3 5 (by decide)).trans t5
      replace t8 := (h3 8 (by decide)).trans t8
      replace t9 := (h3 9 (by decide)).trans t9
      replace t10 := (h3 10 (by decide)).trans t10
      have t7 : a.eval (.tmp 7) = .int .i64 ((p i : Nat) : Int) := h4 2 _ rfl _ rfl
      replace A := (⟨h1, h2.trans A.2⟩ : a.tmps.size = 21 ∧ a.defers = [])
      clear h1 h2 h3 h4
      refine wp_seq ?_
      refine wp_region_sq (σ := Unit) 21 [(0, 14), (1, 15), (2, 16)] (fun j_ s X => match j_ with | 0 => Below V.heap.size V X | 1 => Below V.heap.size V X | 2 => Below V.heap.size V X | _ => Below V.heap.size V X) (fun s => fun i_ => match i_ with | 0 => .int .i64 ((p i : Nat) : Int) | 1 => .int .i64 ((x : Nat) : Int) | 2 => .bool false | _ => undef) () A.1 (by kernel_rfl) (by decide) (by decide) (BB) ?_ ?_
      · intro i_ hi_ s a X hf hv hn hS
        match i_, hi_ with
        | 0, _ => exact stepV rfl rfl (execMvB rfl ((hf 7 (by decide)).trans t7)) ⟨s, ⟨_, rfl, rfl⟩, hS, fun _ _ => rfl⟩
        | 1, _ => exact stepV rfl rfl (execMvB rfl ((hf 1 (by decide)).trans t1)) ⟨s, ⟨_, rfl, rfl⟩, hS, fun _ _ => rfl⟩
        | 2, _ => exact stepV rfl rfl (execDec (execLtW (p := p i) (q := x) rfl (hv 0 (by omega) _ rfl _ rfl) (hv 1 (by omega) _ rfl _ rfl)) (decide_eq_false (by omega))) ⟨s, ⟨_, rfl, rfl⟩, hS, fun _ _ => rfl⟩
        | k_ + 3, h_ => exact absurd h_ (by simp)
      rintro _ a X5 h1 h2 h3 h4 hS
      clear BB
      replace hS : Below V.heap.size V X5 := hS
      have BB := hS
      clear hS
      replace t1 := (h3 1 (by decide)).trans t1
      replace t5 := (h3 5 (by decide)).trans t5
      replace t8 := (h3 8 (by decide)).trans t8
      replace t9 := (h3 9 (by decide)).trans t9
      replace t10 := (h3 10 (by decide)).trans t10
      have t16 : a.eval (.tmp 16) = .bool false := h4 2 _ rfl _ rfl
      replace A := (⟨h1, h2.trans A.2⟩ : a.tmps.size = 21 ∧ a.defers = [])
      clear h1 h2 h3 h4
      clear t7
      refine wp_cond_false t16 ?_
      refine wp_skip ?_
      clear t16
      have ec : cnt p x (i + 1) = cnt p x i := by simp only [cnt, if_neg hpx]; rfl
      rw [← ec] at t5
      refine wp_region_sq (σ := Unit) 21 [(0, 19), (1, 10)] (fun j_ s X => match j_ with | 0 => Below V.heap.size V X | 1 => Below V.heap.size V X | _ => Below V.heap.size V X) (fun s => fun i_ => match i_ with | 0 => .int .i64 ((i + 1 : Nat) : Int) | 1 => .int .i64 ((i + 1 : Nat) : Int) | _ => undef) () A.1 (by kernel_rfl) (by decide) (by decide) (BB) ?_ ?_
      · intro i_ hi_ s a X hf hv hn hS
        match i_, hi_ with
        | 0, _ => exact stepV rfl rfl (execAd8 (p := i) (q := 1) rfl ((hn 1 (by omega) _ rfl _ rfl).trans t10) rfl (by omega)) ⟨s, ⟨_, rfl, rfl⟩, hS, fun _ _ => rfl⟩
        | 1, _ => exact stepV rfl rfl (execMvB rfl (hv 0 (by omega) _ rfl _ rfl)) ⟨s, ⟨_, rfl, rfl⟩, hS, fun _ _ => rfl⟩
        | k_ + 2, h_ => exact absurd h_ (by simp)
      rintro _ a X7 h1 h2 h3 h4 hS
      clear BB
      replace hS : Below V.heap.size V X7 := hS
      have BB := hS
      clear hS
      replace t1 := (h3 1 (by decide)).trans t1
      replace t5 := (h3 5 (by decide)).trans t5
      replace t8 := (h3 8 (by decide)).trans t8
      replace t9 := (h3 9 (by decide)).trans t9
      replace t10 : a.eval (.tmp 10) = .int .i64 ((i + 1 : Nat) : Int) := h4 1 _ rfl _ rfl
      replace A := (⟨h1, h2.trans A.2⟩ : a.tmps.size = 21 ∧ a.defers = [])
      clear h1 h2 h3 h4
      exact ⟨⟨i + 1, hlt, A, t1, t5, t8, t9, t10, BB⟩, by show n - (intOf (a.eval (.tmp 10))).toNat < n - (intOf (Act.eval _ (.tmp 10))).toNat; rw [t10, es]; show n - (i + 1) < n - i; omega⟩
  · rw [decide_eq_false hlt] at t11
    refine wp_cond_false t11 ?_
    refine wp_exit ?_
    first | refine exit_in ?_ | refine exit_then (exit_in ?_) | refine exit_then (exit_then (exit_in ?_))
    clear t11 es
    have hin : i = n := by omega
    rw [hin] at t5
    refine wp_seq ?_
    refine wp_region_sq (σ := Unit) 21 [(0, 20), (1, 4)] (fun j_ s X => match j_ with | 0 => Below V.heap.size V X | 1 => Below V.heap.size V X | _ => Below V.heap.size V X) (fun s => fun i_ => match i_ with | 0 => .int .i64 ((cnt p x n : Nat) : Int) | 1 => .int .i64 ((cnt p x n : Nat) : Int) | _ => undef) () A.1 (by kernel_rfl) (by decide) (by decide) (BB) ?_ ?_
    · intro i_ hi_ s a X hf hv hn hS
      match i_, hi_ with
      | 0, _ => exact stepV rfl rfl (execMvB rfl ((hf 5 (by decide)).trans t5)) ⟨s, ⟨_, rfl, rfl⟩, hS, fun _ _ => rfl⟩
      | 1, _ => exact stepV rfl rfl (execAsgB rfl (hv 0 (by omega) _ rfl _ rfl)) ⟨s, ⟨_, rfl, rfl⟩, hS, fun _ _ => rfl⟩
      | k_ + 2, h_ => exact absurd h_ (by simp)
    rintro _ a X8 h1 h2 h3 h4 hS
    clear BB
    replace hS : Below V.heap.size V X8 := hS
    have BB := hS
    clear hS
    have t4 : a.eval (.tmp 4) = .int .i64 ((cnt p x n : Nat) : Int) := h4 1 _ rfl _ rfl
    replace A := (⟨h1, h2.trans A.2⟩ : a.tmps.size = 21 ∧ a.defers = [])
    clear h1 h2 h3 h4
    clear t1 t5 t8 t9 t10
    refine wp_ret ?_
    repeat (first | refine ret_in ?_ | refine ret_then ?_)
    refine bodyPost_ret (results_tmp rfl _ _ _) A.2 ⟨?_, BB⟩
    show Ending.returned (a.eval (.tmp 4)) = _
    rw [t4]
end Go.Proofs.Ythiakjmjpchckaa.Prm
