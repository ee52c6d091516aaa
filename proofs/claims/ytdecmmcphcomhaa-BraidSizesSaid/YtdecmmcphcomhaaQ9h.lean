import Derived.Test.YtdecmmcphcomhaaQ9g
namespace Go.Proofs.Ytdecmmcphcomhaa.Brd
open Go.RowKit Gf8 Aes By8 Cel Cf Tap Drw Prm
/- Stage 12's reference: Bounds. Written by tools/mkQ9h.py. -/

def bdN (k : Int) : Nat := if k ≤ 256 then k.toNat else 0
set_option maxRecDepth 100000 in
set_option maxHeartbeats 4000000 in
/-- The reference's Bounds. -/
theorem rbounds12 (k : Int) (V : World) :
    Calls Try.prog 11 #[.int .i64 k] V fun e w' => ∃ r, e = .returned r ∧ w'.ownsRow V.heap.size 3 1 r (bdN k) (intsL (bdN k) (fun j => k - (j : Int))) ∧ Below V.heap.size V w' := by
  go_enter Try.func11, Try.ntmps11
  refine wp_seq ?_
  refine wp_region_sqK 18 [(0, 2)] (fun i_ => match i_ with | 0 => .slice none 0 0 | _ => undef) rfl (by kernel_rfl) (by decide) (by decide) ?_ ?_
  · intro i_ hi_ a hf hv hn
    match i_, hi_ with
    | 0, _ => exact stepV rfl rfl (execAsgB rfl rfl) ⟨⟨_, rfl, rfl⟩, rfl⟩
    | k_ + 1, h_ => exact absurd h_ (by simp)
  intro a h1 h2 h3 h4
  have t0 : a.eval (.tmp 0) = .int .i64 k := (h3 0 (by decide)).trans rfl
  have A : a.tmps.size = 18 ∧ a.defers = [] := ⟨h1, h2⟩
  have BW : Below V.heap.size V V := Below.refl _ _
  clear h1 h2 h3 h4
  have BB := BW
  refine wp_seq ?_
  refine wp_region_sq (σ := Unit) 18 [(0, 3)] (fun j_ s X => match j_ with | 0 => Below V.heap.size V X | _ => Below V.heap.size V X) (fun s => fun i_ => match i_ with | 0 => .slice none 0 0 | _ => undef) () A.1 (by kernel_rfl) (by decide) (by decide) (BB) ?_ ?_
  · intro i_ hi_ s a X hf hv hn hS
    match i_, hi_ with
    | 0, _ => exact stepV rfl rfl (execAsgB rfl rfl) ⟨s, ⟨_, rfl, rfl⟩, hS, fun _ _ => rfl⟩
    | k_ + 1, h_ => exact absurd h_ (by simp)
  rintro _ a X1 h1 h2 h3 h4 hS
  clear BB
  replace hS : Below V.heap.size V X1 := hS
  have BB := hS
  clear hS
  replace t0 := (h3 0 (by decide)).trans t0
  have t3 : a.eval (.tmp 3) = .slice none 0 0 := h4 0 _ rfl _ rfl
  replace A := (⟨h1, h2.trans A.2⟩ : a.tmps.size = 18 ∧ a.defers = [])
  clear h1 h2 h3 h4
  refine wp_seq ?_
  refine wp_seq ?_
  by_cases hk : 256 < k
  · refine wp_region_sq (σ := Unit) 18 [(0, 5), (1, 6)] (fun j_ s X => match j_ with | 0 => Below V.heap.size V X | 1 => Below V.heap.size V X | _ => Below V.heap.size V X) (fun s => fun i_ => match i_ with | 0 => .int .i64 k | 1 => .bool true | _ => undef) () A.1 (by kernel_rfl) (by decide) (by decide) (BB) ?_ ?_
    · intro i_ hi_ s a X hf hv hn hS
      match i_, hi_ with
      | 0, _ => exact stepV rfl rfl (execMvB rfl ((hf 0 (by decide)).trans t0)) ⟨s, ⟨_, rfl, rfl⟩, hS, fun _ _ => rfl⟩
      | 1, _ => exact stepV rfl rfl (execGtCt (p := k) (q := 256) rfl (hv 0 (by omega) _ rfl _ rfl) (by exact hk)) ⟨s, ⟨_, rfl, rfl⟩, hS, fun _ _ => rfl⟩
      | k_ + 2, h_ => exact absurd h_ (by simp)
    rintro _ a X2 h1 h2 h3 h4 hS
    clear BB
    replace hS : Below V.heap.size V X2 := hS
    have BB := hS
    clear hS
    replace t3 := (h3 3 (by decide)).trans t3
    have t6 : a.eval (.tmp 6) = .bool true := h4 1 _ rfl _ rfl
    replace A := (⟨h1, h2.trans A.2⟩ : a.tmps.size = 18 ∧ a.defers = [])
    clear h1 h2 h3 h4
    clear t0
    refine wp_cond_true t6 ?_
    refine wp_seq ?_
    refine wp_region_sq (σ := Unit) 18 [(0, 7), (1, 2)] (fun j_ s X => match j_ with | 0 => Below V.heap.size V X | 1 => Below V.heap.size V X | _ => Below V.heap.size V X) (fun s => fun i_ => match i_ with | 0 => .slice none 0 0 | 1 => .slice none 0 0 | _ => undef) () A.1 (by kernel_rfl) (by decide) (by decide) (BB) ?_ ?_
    · intro i_ hi_ s a X hf hv hn hS
      match i_, hi_ with
      | 0, _ => exact stepV rfl rfl (execMvB rfl ((hf 3 (by decide)).trans t3)) ⟨s, ⟨_, rfl, rfl⟩, hS, fun _ _ => rfl⟩
      | 1, _ => exact stepV rfl rfl (execAsgB rfl (hv 0 (by omega) _ rfl _ rfl)) ⟨s, ⟨_, rfl, rfl⟩, hS, fun _ _ => rfl⟩
      | k_ + 2, h_ => exact absurd h_ (by simp)
    rintro _ a X3 h1 h2 h3 h4 hS
    clear BB
    replace hS : Below V.heap.size V X3 := hS
    have BB := hS
    clear hS
    have t2 : a.eval (.tmp 2) = .slice none 0 0 := h4 1 _ rfl _ rfl
    replace A := (⟨h1, h2.trans A.2⟩ : a.tmps.size = 18 ∧ a.defers = [])
    clear h1 h2 h3 h4
    clear t3
    have hE : bdN k = 0 := if_neg (by omega)
    rw [hE]
    refine wp_ret ?_
    repeat (first | refine ret_in ?_ | refine ret_then ?_)
    refine bodyPost_ret (results_tmp rfl _ _ _) A.2 ⟨_, ?_, World.ownsRow_nil _ _ _ _, BB⟩
    show Ending.returned (a.eval (.tmp 2)) = _
    rw [t2]
  · refine wp_region_sq (σ := Unit) 18 [(0, 5), (1, 6)] (fun j_ s X => match j_ with | 0 => Below V.heap.size V X | 1 => Below V.heap.size V X | _ => Below V.heap.size V X) (fun s => fun i_ => match i_ with | 0 => .int .i64 k | 1 => .bool false | _ => undef) () A.1 (by kernel_rfl) (by decide) (by decide) (BB) ?_ ?_
    · intro i_ hi_ s a X hf hv hn hS
      match i_, hi_ with
      | 0, _ => exact stepV rfl rfl (execMvB rfl ((hf 0 (by decide)).trans t0)) ⟨s, ⟨_, rfl, rfl⟩, hS, fun _ _ => rfl⟩
      | 1, _ => exact stepV rfl rfl (execGtCf (p := k) (q := 256) rfl (hv 0 (by omega) _ rfl _ rfl) (by exact hk)) ⟨s, ⟨_, rfl, rfl⟩, hS, fun _ _ => rfl⟩
      | k_ + 2, h_ => exact absurd h_ (by simp)
    rintro _ a X2 h1 h2 h3 h4 hS
    clear BB
    replace hS : Below V.heap.size V X2 := hS
    have BB := hS
    clear hS
    replace t0 := (h3 0 (by decide)).trans t0
    replace t3 := (h3 3 (by decide)).trans t3
    have t6 : a.eval (.tmp 6) = .bool false := h4 1 _ rfl _ rfl
    replace A := (⟨h1, h2.trans A.2⟩ : a.tmps.size = 18 ∧ a.defers = [])
    clear h1 h2 h3 h4
    refine wp_cond_false t6 ?_
    refine wp_skip ?_
    clear t6
    have hE : bdN k = k.toNat := if_pos (by omega)
    rw [hE]
    have FO : X2.ownsRow V.heap.size 3 1 (.slice none 0 0) 0 (intsL 0 (fun j => k - (j : Int))) := World.ownsRow_nil _ _ _ _
    refine wp_seq ?_
    refine wp_seq ?_
    refine wp_region_sq (σ := Unit) 18 [(0, 8), (1, 4)] (fun j_ s X => match j_ with | 0 => Below V.heap.size V X ∧ (X.ownsRow V.heap.size 3 1 (.slice none 0 0) (0) (intsL (0) (fun j => k - (j : Int)))) | 1 => Below V.heap.size V X ∧ (X.ownsRow V.heap.size 3 1 (.slice none 0 0) (0) (intsL (0) (fun j => k - (j : Int)))) | _ => Below V.heap.size V X ∧ (X.ownsRow V.heap.size 3 1 (.slice none 0 0) (0) (intsL (0) (fun j => k - (j : Int))))) (fun s => fun i_ => match i_ with | 0 => .int .i64 k | 1 => .int .i64 k | _ => undef) () A.1 (by kernel_rfl) (by decide) (by decide) ⟨BB, FO⟩ ?_ ?_
    · intro i_ hi_ s a X hf hv hn hS
      match i_, hi_ with
      | 0, _ => exact stepV rfl rfl (execMvB rfl ((hf 0 (by decide)).trans t0)) ⟨s, ⟨_, rfl, rfl⟩, hS, fun _ _ => rfl⟩
      | 1, _ => exact stepV rfl rfl (execAsgB rfl (hv 0 (by omega) _ rfl _ rfl)) ⟨s, ⟨_, rfl, rfl⟩, hS, fun _ _ => rfl⟩
      | k_ + 2, h_ => exact absurd h_ (by simp)
    rintro _ a X4 h1 h2 h3 h4 hS
    clear BB
    clear FO
    replace hS : Below V.heap.size V X4 ∧ (X4.ownsRow V.heap.size 3 1 (.slice none 0 0) (0) (intsL (0) (fun j => k - (j : Int)))) := hS
    obtain ⟨BB, FO⟩ := hS
    replace t3 := (h3 3 (by decide)).trans t3
    have t4 : a.eval (.tmp 4) = .int .i64 k := h4 1 _ rfl _ rfl
    replace A := (⟨h1, h2.trans A.2⟩ : a.tmps.size = 18 ∧ a.defers = [])
    clear h1 h2 h3 h4
    clear t0
    rw [show k = k - ((0 : Nat) : Int) by omega] at t4
    refine wp_block ?_
    refine wp_loop (fun a W => ∃ (i : Nat) (u : Value), i ≤ k.toNat ∧ (a.tmps.size = 18 ∧ a.defers = []) ∧ a.eval (.tmp 3) = u ∧ a.eval (.tmp 4) = .int .i64 (k - (i : Int)) ∧ Below V.heap.size V W ∧ (W.ownsRow V.heap.size 3 1 u (i) (intsL (i) (fun j => k - (j : Int))))) (fun a _ => (intOf (a.eval (.tmp 4))).toNat) ⟨0, _, Nat.zero_le _, A, t3, t4, BB, FO⟩ ?_
    clear A t3 t4 BB FO a
    rintro a XL ⟨i, u, hi, A, t3, t4, BB, FO⟩
    have es := t4
    refine wp_seq ?_
    refine wp_seq ?_
    by_cases hlt : 1 ≤ k - (i : Int)
    · refine wp_region_sq (σ := Unit) 18 [(0, 9), (1, 10)] (fun j_ s X => match j_ with | 0 => Below V.heap.size V X ∧ (X.ownsRow V.heap.size 3 1 u (i) (intsL (i) (fun j => k - (j : Int)))) | 1 => Below V.heap.size V X ∧ (X.ownsRow V.heap.size 3 1 u (i) (intsL (i) (fun j => k - (j : Int)))) | _ => Below V.heap.size V X ∧ (X.ownsRow V.heap.size 3 1 u (i) (intsL (i) (fun j => k - (j : Int))))) (fun s => fun i_ => match i_ with | 0 => .int .i64 (k - (i : Int)) | 1 => .bool true | _ => undef) () A.1 (by kernel_rfl) (by decide) (by decide) ⟨BB, FO⟩ ?_ ?_
      · intro i_ hi_ s a X hf hv hn hS
        match i_, hi_ with
        | 0, _ => exact stepV rfl rfl (execMvB rfl ((hf 4 (by decide)).trans t4)) ⟨s, ⟨_, rfl, rfl⟩, hS, fun _ _ => rfl⟩
        | 1, _ => exact stepV rfl rfl (execGeIt (q := 1) rfl (hv 0 (by omega) _ rfl _ rfl) rfl hlt) ⟨s, ⟨_, rfl, rfl⟩, hS, fun _ _ => rfl⟩
        | k_ + 2, h_ => exact absurd h_ (by simp)
      rintro _ a X5 h1 h2 h3 h4 hS
      clear BB
      clear FO
      replace hS : Below V.heap.size V X5 ∧ (X5.ownsRow V.heap.size 3 1 u (i) (intsL (i) (fun j => k - (j : Int)))) := hS
      obtain ⟨BB, FO⟩ := hS
      replace t3 := (h3 3 (by decide)).trans t3
      replace t4 := (h3 4 (by decide)).trans t4
      have t10 : a.eval (.tmp 10) = .bool true := h4 1 _ rfl _ rfl
      replace A := (⟨h1, h2.trans A.2⟩ : a.tmps.size = 18 ∧ a.defers = [])
      clear h1 h2 h3 h4
      refine wp_cond_true t10 ?_
      refine wp_skip ?_
      clear t10
      refine wp_seq ?_
      refine wp_block ?_
      refine wp_region_sq (σ := Nat × Value) 18 [(0, 13), (1, 14), (2, 15), (3, 16), (4, 3)] (fun j_ s X => match j_ with | 0 => Below V.heap.size V X ∧ (X.ownsRow V.heap.size 3 1 u (i) (intsL (i) (fun j => k - (j : Int)))) | 1 => Below V.heap.size V X ∧ (X.ownsRow V.heap.size 3 1 u (i) (intsL (i) (fun j => k - (j : Int)))) | 2 => Below V.heap.size V X ∧ (X.ownsRow V.heap.size 3 1 u (i) (intsL (i) (fun j => k - (j : Int)))) | 3 => Below V.heap.size V X ∧ (X.ownsRow V.heap.size 3 1 u (i) (intsL (i) (fun j => k - (j : Int)))) ∧ (X.heap[s.1]? = some (.cells #[.int .i64 (k - (i : Int))] 3)) | 4 => Below V.heap.size V X ∧ (X.ownsRow V.heap.size 3 1 s.2 (i + 1) (intsL (i + 1) (fun j => k - (j : Int)))) | _ => Below V.heap.size V X ∧ (X.ownsRow V.heap.size 3 1 s.2 (i + 1) (intsL (i + 1) (fun j => k - (j : Int))))) (fun s => fun i_ => match i_ with | 0 => u | 1 => .int .i64 (k - (i : Int)) | 2 => .slice (some ⟨s.1, 0, none⟩) 1 1 | 3 => s.2 | 4 => s.2 | _ => undef) (0, undef) A.1 (by kernel_rfl) (by decide) (by decide) ⟨BB, FO⟩ ?_ ?_
      · intro i_ hi_ s a X hf hv hn hS
        match i_, hi_ with
        | 0, _ => exact stepV rfl rfl (execMvB rfl ((hn 4 (by omega) _ rfl _ rfl).trans t3)) ⟨s, ⟨_, rfl, rfl⟩, hS, fun _ _ => rfl⟩
        | 1, _ => exact stepV rfl rfl (execMvB rfl ((hf 4 (by decide)).trans t4)) ⟨s, ⟨_, rfl, rfl⟩, hS, fun _ _ => rfl⟩
        | 2, _ =>
          refine stepV rfl rfl (execBsI (z := k - (i : Int)) rfl (hv 1 (by omega) _ rfl _ rfl)) ⟨(X.heap.size, s.2), ⟨_, rfl, rfl⟩, ⟨(hS.1).trans (((belNew X _)).mono (hS.1).size), (ownD_below hS.2 (belNew X _)), heapNew X _⟩, fun i hi => ?_⟩
          match i, hi with
          | 0, _ => rfl
          | 1, _ => rfl
          | n_ + 2, h_ => omega
        | 3, _ =>
          refine stepAppI (f := fun j => k - (j : Int)) rfl rfl rfl (hv 0 (by omega) _ rfl _ rfl) (hv 2 (by omega) _ rfl _ rfl) hS.2.1 hS.2.2 (by omega) (hS.1).size fun v' W' own' gr => ⟨(s.1, v'), ⟨_, rfl, rfl⟩, ⟨(hS.1).grown gr (hS.1).size (fun k hk => (hS.2.1.lt k hk).1), own'⟩, fun i hi => ?_⟩
          match i, hi with
          | 0, _ => rfl
          | 1, _ => rfl
          | 2, _ => rfl
          | n_ + 3, h_ => omega
        | 4, _ => exact stepV rfl rfl (execAsgB rfl (hv 3 (by omega) _ rfl _ rfl)) ⟨s, ⟨_, rfl, rfl⟩, hS, fun _ _ => rfl⟩
        | k_ + 5, h_ => exact absurd h_ (by simp)
      rintro ⟨g15, v16⟩ a X7 h1 h2 h3 h4 hS
      clear BB
      clear FO
      replace hS : Below V.heap.size V X7 ∧ (X7.ownsRow V.heap.size 3 1 v16 (i + 1) (intsL (i + 1) (fun j => k - (j : Int)))) := hS
      obtain ⟨BB, FO2⟩ := hS
      replace t3 : a.eval (.tmp 3) = v16 := h4 4 _ rfl _ rfl
      replace t4 := (h3 4 (by decide)).trans t4
      replace A := (⟨h1, h2.trans A.2⟩ : a.tmps.size = 18 ∧ a.defers = [])
      clear h1 h2 h3 h4
      refine wp_region_sq (σ := Unit) 18 [(0, 11), (1, 12), (2, 4)] (fun j_ s X => match j_ with | 0 => Below V.heap.size V X ∧ (X.ownsRow V.heap.size 3 1 v16 (i + 1) (intsL (i + 1) (fun j => k - (j : Int)))) | 1 => Below V.heap.size V X ∧ (X.ownsRow V.heap.size 3 1 v16 (i + 1) (intsL (i + 1) (fun j => k - (j : Int)))) | 2 => Below V.heap.size V X ∧ (X.ownsRow V.heap.size 3 1 v16 (i + 1) (intsL (i + 1) (fun j => k - (j : Int)))) | _ => Below V.heap.size V X ∧ (X.ownsRow V.heap.size 3 1 v16 (i + 1) (intsL (i + 1) (fun j => k - (j : Int))))) (fun s => fun i_ => match i_ with | 0 => .int .i64 (k - (i : Int)) | 1 => .int .i64 (k - ((i + 1 : Nat) : Int)) | 2 => .int .i64 (k - ((i + 1 : Nat) : Int)) | _ => undef) () A.1 (by kernel_rfl) (by decide) (by decide) ⟨BB, FO2⟩ ?_ ?_
      · intro i_ hi_ s a X hf hv hn hS
        match i_, hi_ with
        | 0, _ => exact stepV rfl rfl (execMvB rfl ((hn 2 (by omega) _ rfl _ rfl).trans t4)) ⟨s, ⟨_, rfl, rfl⟩, hS, fun _ _ => rfl⟩
        | 1, _ => exact stepV rfl rfl (execSubIg (z := k - ((i + 1 : Nat) : Int)) rfl (hv 0 (by omega) _ rfl _ rfl) rfl (by omega) (by omega) (by omega)) ⟨s, ⟨_, rfl, rfl⟩, hS, fun _ _ => rfl⟩
        | 2, _ => exact stepV rfl rfl (execAsgB rfl (hv 1 (by omega) _ rfl _ rfl)) ⟨s, ⟨_, rfl, rfl⟩, hS, fun _ _ => rfl⟩
        | k_ + 3, h_ => exact absurd h_ (by simp)
      rintro _ a X6 h1 h2 h3 h4 hS
      clear BB
      clear FO2
      replace hS : Below V.heap.size V X6 ∧ (X6.ownsRow V.heap.size 3 1 v16 (i + 1) (intsL (i + 1) (fun j => k - (j : Int)))) := hS
      obtain ⟨BB, FO2⟩ := hS
      replace t3 := (h3 3 (by decide)).trans t3
      replace t4 : a.eval (.tmp 4) = .int .i64 (k - ((i + 1 : Nat) : Int)) := h4 2 _ rfl _ rfl
      replace A := (⟨h1, h2.trans A.2⟩ : a.tmps.size = 18 ∧ a.defers = [])
      clear h1 h2 h3 h4
      refine ⟨⟨i + 1, _, by omega, A, t3, t4, BB, FO2⟩, ?_⟩
      show (intOf (a.eval (.tmp 4))).toNat < (intOf (Act.eval _ (.tmp 4))).toNat
      rw [t4, es]
      show (k - ((i + 1 : Nat) : Int)).toNat < (k - (i : Int)).toNat
      omega
    · refine wp_region_sq (σ := Unit) 18 [(0, 9), (1, 10)] (fun j_ s X => match j_ with | 0 => Below V.heap.size V X ∧ (X.ownsRow V.heap.size 3 1 u (i) (intsL (i) (fun j => k - (j : Int)))) | 1 => Below V.heap.size V X ∧ (X.ownsRow V.heap.size 3 1 u (i) (intsL (i) (fun j => k - (j : Int)))) | _ => Below V.heap.size V X ∧ (X.ownsRow V.heap.size 3 1 u (i) (intsL (i) (fun j => k - (j : Int))))) (fun s => fun i_ => match i_ with | 0 => .int .i64 (k - (i : Int)) | 1 => .bool false | _ => undef) () A.1 (by kernel_rfl) (by decide) (by decide) ⟨BB, FO⟩ ?_ ?_
      · intro i_ hi_ s a X hf hv hn hS
        match i_, hi_ with
        | 0, _ => exact stepV rfl rfl (execMvB rfl ((hf 4 (by decide)).trans t4)) ⟨s, ⟨_, rfl, rfl⟩, hS, fun _ _ => rfl⟩
        | 1, _ => exact stepV rfl rfl (execGeIf (q := 1) rfl (hv 0 (by omega) _ rfl _ rfl) rfl hlt) ⟨s, ⟨_, rfl, rfl⟩, hS, fun _ _ => rfl⟩
        | k_ + 2, h_ => exact absurd h_ (by simp)
      rintro _ a X5 h1 h2 h3 h4 hS
      clear BB
      clear FO
      replace hS : Below V.heap.size V X5 ∧ (X5.ownsRow V.heap.size 3 1 u (i) (intsL (i) (fun j => k - (j : Int)))) := hS
      obtain ⟨BB, FO⟩ := hS
      replace t3 := (h3 3 (by decide)).trans t3
      have t10 : a.eval (.tmp 10) = .bool false := h4 1 _ rfl _ rfl
      replace A := (⟨h1, h2.trans A.2⟩ : a.tmps.size = 18 ∧ a.defers = [])
      clear h1 h2 h3 h4
      clear t4
      refine wp_cond_false t10 ?_
      refine wp_exit ?_
      first | refine exit_in ?_ | refine exit_then (exit_in ?_) | refine exit_then (exit_then (exit_in ?_))
      clear t10 es
      have hin : i = k.toNat := by omega
      rw [hin] at FO
      refine wp_seq ?_
      refine wp_region_sq (σ := Unit) 18 [(0, 17), (1, 2)] (fun j_ s X => match j_ with | 0 => Below V.heap.size V X ∧ (X.ownsRow V.heap.size 3 1 u (k.toNat) (intsL (k.toNat) (fun j => k - (j : Int)))) | 1 => Below V.heap.size V X ∧ (X.ownsRow V.heap.size 3 1 u (k.toNat) (intsL (k.toNat) (fun j => k - (j : Int)))) | _ => Below V.heap.size V X ∧ (X.ownsRow V.heap.size 3 1 u (k.toNat) (intsL (k.toNat) (fun j => k - (j : Int))))) (fun s => fun i_ => match i_ with | 0 => u | 1 => u | _ => undef) () A.1 (by kernel_rfl) (by decide) (by decide) ⟨BB, FO⟩ ?_ ?_
      · intro i_ hi_ s a X hf hv hn hS
        match i_, hi_ with
        | 0, _ => exact stepV rfl rfl (execMvB rfl ((hf 3 (by decide)).trans t3)) ⟨s, ⟨_, rfl, rfl⟩, hS, fun _ _ => rfl⟩
        | 1, _ => exact stepV rfl rfl (execAsgB rfl (hv 0 (by omega) _ rfl _ rfl)) ⟨s, ⟨_, rfl, rfl⟩, hS, fun _ _ => rfl⟩
        | k_ + 2, h_ => exact absurd h_ (by simp)
      rintro _ a X8 h1 h2 h3 h4 hS
      clear BB
      clear FO
      replace hS : Below V.heap.size V X8 ∧ (X8.ownsRow V.heap.size 3 1 u (k.toNat) (intsL (k.toNat) (fun j => k - (j : Int)))) := hS
      obtain ⟨BB, FO⟩ := hS
      have t2 : a.eval (.tmp 2) = u := h4 1 _ rfl _ rfl
      replace A := (⟨h1, h2.trans A.2⟩ : a.tmps.size = 18 ∧ a.defers = [])
      clear h1 h2 h3 h4
      clear t3
      refine wp_ret ?_
      refine bodyPost_ret (results_tmp rfl _ _ _) A.2 ⟨u, ?_, FO, BB⟩
      show Ending.returned (a.eval (.tmp 2)) = _
      rw [t2]
end Go.Proofs.Ytdecmmcphcomhaa.Brd
