import Derived.Test.YtldhhfkplongiaaN9c
namespace Go.Proofs.Ytldhhfkplongiaa.Prm
open Go.RowKit Gf8 Aes By8 Cel Cf Tap Drw
/- PermKeeps: the marks; what was handed in is written over. Written by tools/mkN9d.py. -/

theorem mark_in {ff : Nat → Nat → Int} {t j : Nat} {z : Int} (h : ∀ l, l < j → ff t l = z) : ∀ l, l < j + 1 → updF ff t j z t l = z := fun l hl => by
  rw [updF_at]
  by_cases q : l = j
  · rw [if_pos q]
  · rw [if_neg q]
    exact h l (by omega)
theorem mark_out {ff : Nat → Nat → Int} {nn : Nat → Nat} {i : Nat} (h : ∀ s, s < i → ∀ j, j < nn (2 + s) → ff (2 + s) j = -100 - (s : Int)) (hi : ∀ l, l < nn (2 + i) → ff (2 + i) l = -100 - (i : Int)) : ∀ s, s < i + 1 → ∀ j, j < nn (2 + s) → ff (2 + s) j = -100 - (s : Int) := fun s hs => by
  by_cases q : s = i
  · subst q
    exact hi
  · exact h s (by omega)
set_option maxRecDepth 100000 in
set_option maxHeartbeats 4000000 in
/-- PermKeeps, from region 41: the marks. -/
theorem keeps41 (I : Impl) (V : World) (f g : Nat → Int) (n m : Nat) (pv qv : Value) (hp : SliceI V pv n f) (hq : SliceI V qv m g) (hn17 : n ≤ 17592186043904) (hm17 : m ≤ 17592186043904) (S : World) (x : Nat → Value) (ff : Nat → Nat → Int) (gl cl gw cw bw : Nat) (BB : Below V.heap.size V S) (h2 : ∀ t, 2 ≤ t → ff t = ffK f g n m t) (FK : (K2 V S 38 x (nnK f g n m) ff (.slice (some ⟨gl, 0, none⟩) 18 cl) (.slice (some ⟨gw, 0, none⟩) 18 cw) bw 18))
    (a : Act) (A : a.tmps.size = 312 ∧ a.defers = []) (t0 : a.eval (.tmp 0) = pv) (t1 : a.eval (.tmp 1) = qv) (t9 : a.eval (.tmp 9) = .slice (some ⟨gl, 0, none⟩) 18 cl) (t10 : a.eval (.tmp 10) = .slice (some ⟨gw, 0, none⟩) 18 cw) :
    (findR 41 (Try.f3.body.getD .skip)).wp Try.prog (bodyPost Try.prog Try.f3 fun e w' => e = .returned (.bool true) ∧ Below V.heap.size V w') a S := by
  have FI := hp
  have FJ := hq
  refine wp_seq ?_
  refine wp_seq ?_
  refine wp_region_sq (σ := Unit) 312 [(0, 31)] (fun j_ s X => match j_ with | 0 => Below V.heap.size V X ∧ (K2 V X 38 x (nnK f g n m) ff (.slice (some ⟨gl, 0, none⟩) 18 cl) (.slice (some ⟨gw, 0, none⟩) 18 cw) bw 18) | _ => Below V.heap.size V X ∧ (K2 V X 38 x (nnK f g n m) ff (.slice (some ⟨gl, 0, none⟩) 18 cl) (.slice (some ⟨gw, 0, none⟩) 18 cw) bw 18)) (fun s => fun i_ => match i_ with | 0 => .int .i64 ((0 : Nat) : Int) | _ => undef) () A.1 (by kernel_rfl) (by decide) (by decide) ⟨BB, FK⟩ ?_ ?_
  · intro i_ hi_ s a X hf hv hn hS
    match i_, hi_ with
    | 0, _ => exact stepV rfl rfl (execAsgB rfl rfl) ⟨s, ⟨_, rfl, rfl⟩, hS, fun _ _ => rfl⟩
    | k_ + 1, h_ => exact absurd h_ (by simp)
  rintro _ a X41 h1 h2 h3 h4 hS
  clear BB
  clear FK
  replace hS : Below V.heap.size V X41 ∧ (K2 V X41 38 x (nnK f g n m) ff (.slice (some ⟨gl, 0, none⟩) 18 cl) (.slice (some ⟨gw, 0, none⟩) 18 cw) bw 18) := hS
  obtain ⟨BB, FK⟩ := hS
  replace t0 := (h3 0 (by decide)).trans t0
  replace t1 := (h3 1 (by decide)).trans t1
  replace t9 := (h3 9 (by decide)).trans t9
  replace t10 := (h3 10 (by decide)).trans t10
  have t31 : a.eval (.tmp 31) = .int .i64 ((0 : Nat) : Int) := h4 0 _ rfl _ rfl
  replace A := (⟨h1, h2.trans A.2⟩ : a.tmps.size = 312 ∧ a.defers = [])
  clear h1 h2 h3 h4
  refine wp_block ?_
  refine wp_loop (fun a W => ∃ (i : Nat) (ff1 : Nat → Nat → Int), i ≤ 18 ∧ (∀ t, 20 ≤ t → ff1 t = ffK f g n m t) ∧ (∀ s, s < i → ∀ j, j < nnK f g n m (2 + s) → ff1 (2 + s) j = -100 - (s : Int)) ∧ (a.tmps.size = 312 ∧ a.defers = []) ∧ a.eval (.tmp 0) = pv ∧ a.eval (.tmp 1) = qv ∧ a.eval (.tmp 9) = .slice (some ⟨gl, 0, none⟩) 18 cl ∧ a.eval (.tmp 10) = .slice (some ⟨gw, 0, none⟩) 18 cw ∧ a.eval (.tmp 31) = .int .i64 ((i : Nat) : Int) ∧ Below V.heap.size V W ∧ (K2 V W 38 x (nnK f g n m) ff1 (.slice (some ⟨gl, 0, none⟩) 18 cl) (.slice (some ⟨gw, 0, none⟩) 18 cw) bw 18)) (fun a _ => 18 - (intOf (a.eval (.tmp 31))).toNat) ⟨0, ff, Nat.zero_le _, fun t ht => h2 t (by omega), fun s hs => absurd hs (Nat.not_lt_zero _), A, t0, t1, t9, t10, t31, BB, FK⟩ ?_
  clear A t0 t1 t9 t10 t31 BB FK a
  rintro a XL42 ⟨i, ff1, hi, h20, hmk, A, t0, t1, t9, t10, t31, BB, FK⟩
  have esi := t31
  refine wp_seq ?_
  refine wp_seq ?_
  refine wp_region_sq (σ := Unit) 312 [(0, 232), (1, 233), (2, 234), (3, 235)] (fun j_ s X => match j_ with | 0 => Below V.heap.size V X ∧ (K2 V X 38 x (nnK f g n m) ff1 (.slice (some ⟨gl, 0, none⟩) 18 cl) (.slice (some ⟨gw, 0, none⟩) 18 cw) bw 18) | 1 => Below V.heap.size V X ∧ (K2 V X 38 x (nnK f g n m) ff1 (.slice (some ⟨gl, 0, none⟩) 18 cl) (.slice (some ⟨gw, 0, none⟩) 18 cw) bw 18) | 2 => Below V.heap.size V X ∧ (K2 V X 38 x (nnK f g n m) ff1 (.slice (some ⟨gl, 0, none⟩) 18 cl) (.slice (some ⟨gw, 0, none⟩) 18 cw) bw 18) | 3 => Below V.heap.size V X ∧ (K2 V X 38 x (nnK f g n m) ff1 (.slice (some ⟨gl, 0, none⟩) 18 cl) (.slice (some ⟨gw, 0, none⟩) 18 cw) bw 18) | _ => Below V.heap.size V X ∧ (K2 V X 38 x (nnK f g n m) ff1 (.slice (some ⟨gl, 0, none⟩) 18 cl) (.slice (some ⟨gw, 0, none⟩) 18 cw) bw 18)) (fun s => fun i_ => match i_ with | 0 => .int .i64 ((i : Nat) : Int) | 1 => .slice (some ⟨gl, 0, none⟩) 18 cl | 2 => .int .i64 ((18 : Nat) : Int) | 3 => .bool (decide (i < 18)) | _ => undef) () A.1 (by kernel_rfl) (by decide) (by decide) ⟨BB, FK⟩ ?_ ?_
  · intro i_ hi_ s a X hf hv hn hS
    match i_, hi_ with
    | 0, _ => exact stepV rfl rfl (execMvB rfl ((hf 31 (by decide)).trans t31)) ⟨s, ⟨_, rfl, rfl⟩, hS, fun _ _ => rfl⟩
    | 1, _ => exact stepV rfl rfl (execMvB rfl ((hf 9 (by decide)).trans t9)) ⟨s, ⟨_, rfl, rfl⟩, hS, fun _ _ => rfl⟩
    | 2, _ => exact stepV rfl rfl (execLenLI (len := 18) rfl (hv 1 (by omega) _ rfl _ rfl) ⟨_, _, rfl⟩) ⟨s, ⟨_, rfl, rfl⟩, hS, fun _ _ => rfl⟩
    | 3, _ => exact stepV rfl rfl (execLtW (p := i) (q := 18) rfl (hv 0 (by omega) _ rfl _ rfl) (hv 2 (by omega) _ rfl _ rfl)) ⟨s, ⟨_, rfl, rfl⟩, hS, fun _ _ => rfl⟩
    | k_ + 4, h_ => exact absurd h_ (by simp)
  rintro _ a X42 h1 h2 h3 h4 hS
  clear BB
  clear FK
  replace hS : Below V.heap.size V X42 ∧ (K2 V X42 38 x (nnK f g n m) ff1 (.slice (some ⟨gl, 0, none⟩) 18 cl) (.slice (some ⟨gw, 0, none⟩) 18 cw) bw 18) := hS
  obtain ⟨BB, FK⟩ := hS
  replace t0 := (h3 0 (by decide)).trans t0
  replace t1 := (h3 1 (by decide)).trans t1
  replace t9 := (h3 9 (by decide)).trans t9
  replace t10 := (h3 10 (by decide)).trans t10
  replace t31 := (h3 31 (by decide)).trans t31
  have t235 : a.eval (.tmp 235) = .bool (decide (i < 18)) := h4 3 _ rfl _ rfl
  replace A := (⟨h1, h2.trans A.2⟩ : a.tmps.size = 312 ∧ a.defers = [])
  clear h1 h2 h3 h4
  by_cases lti : i < 18
  · rw [decide_eq_true lti] at t235
    refine wp_cond_true t235 ?_
    refine wp_skip ?_
    clear t235
    refine wp_seq ?_
    refine wp_block ?_
    have hnl := nnK_le (f := f) (g := g) (t := 2 + i) hn17 hm17
    refine wp_seq ?_
    refine wp_region_sq (σ := Unit) 312 [(0, 32)] (fun j_ s X => match j_ with | 0 => Below V.heap.size V X ∧ (K2 V X 38 x (nnK f g n m) ff1 (.slice (some ⟨gl, 0, none⟩) 18 cl) (.slice (some ⟨gw, 0, none⟩) 18 cw) bw 18) | _ => Below V.heap.size V X ∧ (K2 V X 38 x (nnK f g n m) ff1 (.slice (some ⟨gl, 0, none⟩) 18 cl) (.slice (some ⟨gw, 0, none⟩) 18 cw) bw 18)) (fun s => fun i_ => match i_ with | 0 => .int .i64 ((0 : Nat) : Int) | _ => undef) () A.1 (by kernel_rfl) (by decide) (by decide) ⟨BB, FK⟩ ?_ ?_
    · intro i_ hi_ s a X hf hv hn hS
      match i_, hi_ with
      | 0, _ => exact stepV rfl rfl (execAsgB rfl rfl) ⟨s, ⟨_, rfl, rfl⟩, hS, fun _ _ => rfl⟩
      | k_ + 1, h_ => exact absurd h_ (by simp)
    rintro _ a X44 h1 h2 h3 h4 hS
    clear BB
    clear FK
    replace hS : Below V.heap.size V X44 ∧ (K2 V X44 38 x (nnK f g n m) ff1 (.slice (some ⟨gl, 0, none⟩) 18 cl) (.slice (some ⟨gw, 0, none⟩) 18 cw) bw 18) := hS
    obtain ⟨BB, FK⟩ := hS
    replace t0 := (h3 0 (by decide)).trans t0
    replace t1 := (h3 1 (by decide)).trans t1
    replace t9 := (h3 9 (by decide)).trans t9
    replace t10 := (h3 10 (by decide)).trans t10
    replace t31 := (h3 31 (by decide)).trans t31
    have t32 : a.eval (.tmp 32) = .int .i64 ((0 : Nat) : Int) := h4 0 _ rfl _ rfl
    replace A := (⟨h1, h2.trans A.2⟩ : a.tmps.size = 312 ∧ a.defers = [])
    clear h1 h2 h3 h4
    refine wp_block ?_
    refine wp_loop (fun a W => ∃ (j : Nat) (ff2 : Nat → Nat → Int), j ≤ nnK f g n m (2 + i) ∧ (∀ t, 20 ≤ t → ff2 t = ffK f g n m t) ∧ (∀ s, s < i → ∀ j, j < nnK f g n m (2 + s) → ff2 (2 + s) j = -100 - (s : Int)) ∧ (∀ l, l < j → ff2 (2 + i) l = -100 - (i : Int)) ∧ (a.tmps.size = 312 ∧ a.defers = []) ∧ a.eval (.tmp 0) = pv ∧ a.eval (.tmp 1) = qv ∧ a.eval (.tmp 9) = .slice (some ⟨gl, 0, none⟩) 18 cl ∧ a.eval (.tmp 10) = .slice (some ⟨gw, 0, none⟩) 18 cw ∧ a.eval (.tmp 31) = .int .i64 ((i : Nat) : Int) ∧ a.eval (.tmp 32) = .int .i64 ((j : Nat) : Int) ∧ Below V.heap.size V W ∧ (K2 V W 38 x (nnK f g n m) ff2 (.slice (some ⟨gl, 0, none⟩) 18 cl) (.slice (some ⟨gw, 0, none⟩) 18 cw) bw 18)) (fun a _ => nnK f g n m (2 + i) - (intOf (a.eval (.tmp 32))).toNat) ⟨0, ff1, Nat.zero_le _, h20, hmk, fun l hl => absurd hl (Nat.not_lt_zero _), A, t0, t1, t9, t10, t31, t32, BB, FK⟩ ?_
    clear A t0 t1 t9 t10 t31 t32 BB FK a
    rintro a XL45 ⟨j, ff2, hj, h20, hmk, hin, A, t0, t1, t9, t10, t31, t32, BB, FK⟩
    have esj := t32
    refine wp_seq ?_
    refine wp_seq ?_
    refine wp_region_sq (σ := Unit) 312 [(0, 238), (1, 239), (2, 240), (3, 241), (4, 242), (5, 243), (6, 244)] (fun j_ s X => match j_ with | 0 => Below V.heap.size V X ∧ (K2 V X 38 x (nnK f g n m) ff2 (.slice (some ⟨gl, 0, none⟩) 18 cl) (.slice (some ⟨gw, 0, none⟩) 18 cw) bw 18) | 1 => Below V.heap.size V X ∧ (K2 V X 38 x (nnK f g n m) ff2 (.slice (some ⟨gl, 0, none⟩) 18 cl) (.slice (some ⟨gw, 0, none⟩) 18 cw) bw 18) | 2 => Below V.heap.size V X ∧ (K2 V X 38 x (nnK f g n m) ff2 (.slice (some ⟨gl, 0, none⟩) 18 cl) (.slice (some ⟨gw, 0, none⟩) 18 cw) bw 18) | 3 => Below V.heap.size V X ∧ (K2 V X 38 x (nnK f g n m) ff2 (.slice (some ⟨gl, 0, none⟩) 18 cl) (.slice (some ⟨gw, 0, none⟩) 18 cw) bw 18) | 4 => Below V.heap.size V X ∧ (K2 V X 38 x (nnK f g n m) ff2 (.slice (some ⟨gl, 0, none⟩) 18 cl) (.slice (some ⟨gw, 0, none⟩) 18 cw) bw 18) | 5 => Below V.heap.size V X ∧ (K2 V X 38 x (nnK f g n m) ff2 (.slice (some ⟨gl, 0, none⟩) 18 cl) (.slice (some ⟨gw, 0, none⟩) 18 cw) bw 18) | 6 => Below V.heap.size V X ∧ (K2 V X 38 x (nnK f g n m) ff2 (.slice (some ⟨gl, 0, none⟩) 18 cl) (.slice (some ⟨gw, 0, none⟩) 18 cw) bw 18) | _ => Below V.heap.size V X ∧ (K2 V X 38 x (nnK f g n m) ff2 (.slice (some ⟨gl, 0, none⟩) 18 cl) (.slice (some ⟨gw, 0, none⟩) 18 cw) bw 18)) (fun s => fun i_ => match i_ with | 0 => .int .i64 ((j : Nat) : Int) | 1 => .slice (some ⟨gl, 0, none⟩) 18 cl | 2 => .int .i64 ((i : Nat) : Int) | 3 => .pointer (some ⟨gl, 0 + i, none⟩) | 4 => x (2 + i) | 5 => .int .i64 ((nnK f g n m (2 + i) : Nat) : Int) | 6 => .bool (decide (j < nnK f g n m (2 + i))) | _ => undef) () A.1 (by kernel_rfl) (by decide) (by decide) ⟨BB, FK⟩ ?_ ?_
    · intro i_ hi_ s a X hf hv hn hS
      match i_, hi_ with
      | 0, _ => exact stepV rfl rfl (execMvB rfl ((hf 32 (by decide)).trans t32)) ⟨s, ⟨_, rfl, rfl⟩, hS, fun _ _ => rfl⟩
      | 1, _ => exact stepV rfl rfl (execMvB rfl ((hf 9 (by decide)).trans t9)) ⟨s, ⟨_, rfl, rfl⟩, hS, fun _ _ => rfl⟩
      | 2, _ => exact stepV rfl rfl (execMvB rfl ((hf 31 (by decide)).trans t31)) ⟨s, ⟨_, rfl, rfl⟩, hS, fun _ _ => rfl⟩
      | 3, _ => exact stepV rfl rfl (execIdxLI (k := i) rfl (hv 1 (by omega) _ rfl _ rfl) (hv 2 (by omega) _ rfl _ rfl) (by omega)) ⟨s, ⟨_, rfl, rfl⟩, hS, fun _ _ => rfl⟩
      | 4, _ => exact stepV rfl rfl (execLdLI rfl (hv 3 (by omega) _ rfl _ rfl) (ownL_cellI (hS.2).k1.li (by omega))) ⟨s, ⟨_, rfl, rfl⟩, hS, fun _ _ => rfl⟩
      | 5, _ => exact stepV rfl rfl (execLenI (len := nnK f g n m (2 + i)) rfl (hv 4 (by omega) _ rfl _ rfl) (shpO ((hS.2).k1.fam.rows (2 + i) (by omega)))) ⟨s, ⟨_, rfl, rfl⟩, hS, fun _ _ => rfl⟩
      | 6, _ => exact stepV rfl rfl (execLtW (p := j) (q := nnK f g n m (2 + i)) rfl (hv 0 (by omega) _ rfl _ rfl) (hv 5 (by omega) _ rfl _ rfl)) ⟨s, ⟨_, rfl, rfl⟩, hS, fun _ _ => rfl⟩
      | k_ + 7, h_ => exact absurd h_ (by simp)
    rintro _ a X45 h1 h2 h3 h4 hS
    clear BB
    clear FK
    replace hS : Below V.heap.size V X45 ∧ (K2 V X45 38 x (nnK f g n m) ff2 (.slice (some ⟨gl, 0, none⟩) 18 cl) (.slice (some ⟨gw, 0, none⟩) 18 cw) bw 18) := hS
    obtain ⟨BB, FK⟩ := hS
    replace t0 := (h3 0 (by decide)).trans t0
    replace t1 := (h3 1 (by decide)).trans t1
    replace t9 := (h3 9 (by decide)).trans t9
    replace t10 := (h3 10 (by decide)).trans t10
    replace t31 := (h3 31 (by decide)).trans t31
    replace t32 := (h3 32 (by decide)).trans t32
    have t244 : a.eval (.tmp 244) = .bool (decide (j < nnK f g n m (2 + i))) := h4 6 _ rfl _ rfl
    replace A := (⟨h1, h2.trans A.2⟩ : a.tmps.size = 312 ∧ a.defers = [])
    clear h1 h2 h3 h4
    by_cases ltj : j < nnK f g n m (2 + i)
    · rw [decide_eq_true ltj] at t244
      refine wp_cond_true t244 ?_
      refine wp_skip ?_
      clear t244
      refine wp_seq ?_
      refine wp_block ?_
      obtain ⟨g0, c0, ex0, _, _⟩ := ownL_some9 (FK.k1.fam.rows (2 + i) (by omega)) (by omega)
      refine wp_region_sq (σ := Unit) 312 [(0, 247), (1, 248), (2, 249), (3, 250), (4, 251), (5, 252), (6, 253), (7, 254)] (fun j_ s X => match j_ with | 0 => Below V.heap.size V X ∧ (K2 V X 38 x (nnK f g n m) ff2 (.slice (some ⟨gl, 0, none⟩) 18 cl) (.slice (some ⟨gw, 0, none⟩) 18 cw) bw 18) | 1 => Below V.heap.size V X ∧ (K2 V X 38 x (nnK f g n m) ff2 (.slice (some ⟨gl, 0, none⟩) 18 cl) (.slice (some ⟨gw, 0, none⟩) 18 cw) bw 18) | 2 => Below V.heap.size V X ∧ (K2 V X 38 x (nnK f g n m) ff2 (.slice (some ⟨gl, 0, none⟩) 18 cl) (.slice (some ⟨gw, 0, none⟩) 18 cw) bw 18) | 3 => Below V.heap.size V X ∧ (K2 V X 38 x (nnK f g n m) ff2 (.slice (some ⟨gl, 0, none⟩) 18 cl) (.slice (some ⟨gw, 0, none⟩) 18 cw) bw 18) | 4 => Below V.heap.size V X ∧ (K2 V X 38 x (nnK f g n m) ff2 (.slice (some ⟨gl, 0, none⟩) 18 cl) (.slice (some ⟨gw, 0, none⟩) 18 cw) bw 18) | 5 => Below V.heap.size V X ∧ (K2 V X 38 x (nnK f g n m) ff2 (.slice (some ⟨gl, 0, none⟩) 18 cl) (.slice (some ⟨gw, 0, none⟩) 18 cw) bw 18) | 6 => Below V.heap.size V X ∧ (K2 V X 38 x (nnK f g n m) ff2 (.slice (some ⟨gl, 0, none⟩) 18 cl) (.slice (some ⟨gw, 0, none⟩) 18 cw) bw 18) | 7 => Below V.heap.size V X ∧ (K2 V X 38 x (nnK f g n m) ff2 (.slice (some ⟨gl, 0, none⟩) 18 cl) (.slice (some ⟨gw, 0, none⟩) 18 cw) bw 18) | 8 => Below V.heap.size V X ∧ (K2 V X 38 x (nnK f g n m) ff2 (.slice (some ⟨gl, 0, none⟩) 18 cl) (.slice (some ⟨gw, 0, none⟩) 18 cw) bw 18) | _ => Below V.heap.size V X ∧ (K2 V X 38 x (nnK f g n m) (updF ff2 (2 + i) j (-100 - (i : Int))) (.slice (some ⟨gl, 0, none⟩) 18 cl) (.slice (some ⟨gw, 0, none⟩) 18 cw) bw 18)) (fun s => fun i_ => match i_ with | 0 => .slice (some ⟨gl, 0, none⟩) 18 cl | 1 => .int .i64 ((i : Nat) : Int) | 2 => .pointer (some ⟨gl, 0 + i, none⟩) | 3 => x (2 + i) | 4 => .int .i64 ((j : Nat) : Int) | 5 => .int .i64 ((i : Nat) : Int) | 6 => .int .i64 (-100 - (i : Int)) | 7 => .pointer (some ⟨g0, 0 + j, none⟩) | 8 => undef | _ => undef) () A.1 (by kernel_rfl) (by decide) (by decide) ⟨BB, FK⟩ ?_ ?_
      · intro i_ hi_ s a X hf hv hn hS
        match i_, hi_ with
        | 0, _ => exact stepV rfl rfl (execMvB rfl ((hf 9 (by decide)).trans t9)) ⟨s, ⟨_, rfl, rfl⟩, hS, fun _ _ => rfl⟩
        | 1, _ => exact stepV rfl rfl (execMvB rfl ((hf 31 (by decide)).trans t31)) ⟨s, ⟨_, rfl, rfl⟩, hS, fun _ _ => rfl⟩
        | 2, _ => exact stepV rfl rfl (execIdxLI (k := i) rfl (hv 0 (by omega) _ rfl _ rfl) (hv 1 (by omega) _ rfl _ rfl) (by omega)) ⟨s, ⟨_, rfl, rfl⟩, hS, fun _ _ => rfl⟩
        | 3, _ => exact stepV rfl rfl (execLdLI rfl (hv 2 (by omega) _ rfl _ rfl) (ownL_cellI (hS.2).k1.li (by omega))) ⟨s, ⟨_, rfl, rfl⟩, hS, fun _ _ => rfl⟩
        | 4, _ => exact stepV rfl rfl (execMvB rfl ((hf 32 (by decide)).trans t32)) ⟨s, ⟨_, rfl, rfl⟩, hS, fun _ _ => rfl⟩
        | 5, _ => exact stepV rfl rfl (execMvB rfl ((hf 31 (by decide)).trans t31)) ⟨s, ⟨_, rfl, rfl⟩, hS, fun _ _ => rfl⟩
        | 6, _ => exact stepV rfl rfl (execSubIg (p := -100) (q := (i : Int)) (z := -100 - (i : Int)) rfl rfl (hv 5 (by omega) _ rfl _ rfl) rfl (by omega) (by omega)) ⟨s, ⟨_, rfl, rfl⟩, hS, fun _ _ => rfl⟩
        | 7, _ => exact stepV rfl rfl (execIdxN (k := j) rfl ((hv 3 (by omega) _ rfl _ rfl).trans ex0) (hv 4 (by omega) _ rfl _ rfl) ltj) ⟨s, ⟨_, rfl, rfl⟩, hS, fun _ _ => rfl⟩
        | 8, _ =>
          obtain ⟨hc_, hf_⟩ := hS.2.k1.fam.cell (by omega) ex0 ltj
          refine stepS rfl rfl (execStI9 rfl (hv 7 (by omega) _ rfl _ rfl) (hv 6 (by omega) _ rfl _ rfl) hc_ hf_) ⟨s, ⟨_, rfl, rfl⟩, ⟨(hS.2.set (j := j) (by omega) ex0 _).k1.bel, hS.2.set (j := j) (by omega) ex0 _⟩, fun i hi => ?_⟩
          match i, hi with
          | 0, _ => rfl
          | 1, _ => rfl
          | 2, _ => rfl
          | 3, _ => rfl
          | 4, _ => rfl
          | 5, _ => rfl
          | 6, _ => rfl
          | 7, _ => rfl
          | n_ + 8, h_ => omega
        | k_ + 9, h_ => exact absurd h_ (by simp)
      rintro _ a X47 h1 h2 h3 h4 hS
      clear BB
      clear FK
      replace hS : Below V.heap.size V X47 ∧ (K2 V X47 38 x (nnK f g n m) (updF ff2 (2 + i) j (-100 - (i : Int))) (.slice (some ⟨gl, 0, none⟩) 18 cl) (.slice (some ⟨gw, 0, none⟩) 18 cw) bw 18) := hS
      obtain ⟨BB, FKn⟩ := hS
      replace t0 := (h3 0 (by decide)).trans t0
      replace t1 := (h3 1 (by decide)).trans t1
      replace t9 := (h3 9 (by decide)).trans t9
      replace t10 := (h3 10 (by decide)).trans t10
      replace t31 := (h3 31 (by decide)).trans t31
      replace t32 := (h3 32 (by decide)).trans t32
      replace A := (⟨h1, h2.trans A.2⟩ : a.tmps.size = 312 ∧ a.defers = [])
      clear h1 h2 h3 h4
      refine wp_region_sq (σ := Unit) 312 [(0, 245), (1, 246), (2, 32)] (fun j_ s X => match j_ with | 0 => Below V.heap.size V X ∧ (K2 V X 38 x (nnK f g n m) (updF ff2 (2 + i) j (-100 - (i : Int))) (.slice (some ⟨gl, 0, none⟩) 18 cl) (.slice (some ⟨gw, 0, none⟩) 18 cw) bw 18) | 1 => Below V.heap.size V X ∧ (K2 V X 38 x (nnK f g n m) (updF ff2 (2 + i) j (-100 - (i : Int))) (.slice (some ⟨gl, 0, none⟩) 18 cl) (.slice (some ⟨gw, 0, none⟩) 18 cw) bw 18) | 2 => Below V.heap.size V X ∧ (K2 V X 38 x (nnK f g n m) (updF ff2 (2 + i) j (-100 - (i : Int))) (.slice (some ⟨gl, 0, none⟩) 18 cl) (.slice (some ⟨gw, 0, none⟩) 18 cw) bw 18) | _ => Below V.heap.size V X ∧ (K2 V X 38 x (nnK f g n m) (updF ff2 (2 + i) j (-100 - (i : Int))) (.slice (some ⟨gl, 0, none⟩) 18 cl) (.slice (some ⟨gw, 0, none⟩) 18 cw) bw 18)) (fun s => fun i_ => match i_ with | 0 => .int .i64 ((j : Nat) : Int) | 1 => .int .i64 ((j + 1 : Nat) : Int) | 2 => .int .i64 ((j + 1 : Nat) : Int) | _ => undef) () A.1 (by kernel_rfl) (by decide) (by decide) ⟨BB, FKn⟩ ?_ ?_
      · intro i_ hi_ s a X hf hv hn hS
        match i_, hi_ with
        | 0, _ => exact stepV rfl rfl (execMvB rfl ((hn 2 (by omega) _ rfl _ rfl).trans t32)) ⟨s, ⟨_, rfl, rfl⟩, hS, fun _ _ => rfl⟩
        | 1, _ => exact stepV rfl rfl (execAd8 (p := j) (q := 1) rfl (hv 0 (by omega) _ rfl _ rfl) rfl (by omega)) ⟨s, ⟨_, rfl, rfl⟩, hS, fun _ _ => rfl⟩
        | 2, _ => exact stepV rfl rfl (execAsgB rfl (hv 1 (by omega) _ rfl _ rfl)) ⟨s, ⟨_, rfl, rfl⟩, hS, fun _ _ => rfl⟩
        | k_ + 3, h_ => exact absurd h_ (by simp)
      rintro _ a X46 h1 h2 h3 h4 hS
      clear BB
      clear FKn
      replace hS : Below V.heap.size V X46 ∧ (K2 V X46 38 x (nnK f g n m) (updF ff2 (2 + i) j (-100 - (i : Int))) (.slice (some ⟨gl, 0, none⟩) 18 cl) (.slice (some ⟨gw, 0, none⟩) 18 cw) bw 18) := hS
      obtain ⟨BB, FKn⟩ := hS
      replace t0 := (h3 0 (by decide)).trans t0
      replace t1 := (h3 1 (by decide)).trans t1
      replace t9 := (h3 9 (by decide)).trans t9
      replace t10 := (h3 10 (by decide)).trans t10
      replace t31 := (h3 31 (by decide)).trans t31
      replace t32 : a.eval (.tmp 32) = .int .i64 ((j + 1 : Nat) : Int) := h4 2 _ rfl _ rfl
      replace A := (⟨h1, h2.trans A.2⟩ : a.tmps.size = 312 ∧ a.defers = [])
      clear h1 h2 h3 h4
      exact ⟨⟨j + 1, _, ltj, fun t ht => (updF_o (by omega)).trans (h20 t ht), fun s hs l hl => by rw [updF_o (by omega)]; exact hmk s hs l hl, mark_in hin, A, t0, t1, t9, t10, t31, t32, BB, FKn⟩, by show nnK f g n m (2 + i) - (intOf (a.eval (.tmp 32))).toNat < nnK f g n m (2 + i) - (intOf (Act.eval _ (.tmp 32))).toNat; rw [t32, esj]; show nnK f g n m (2 + i) - (j + 1) < nnK f g n m (2 + i) - j; omega⟩
    · rw [decide_eq_false ltj] at t244
      refine wp_cond_false t244 ?_
      refine wp_exit ?_
      first | refine exit_in ?_ | refine exit_then (exit_in ?_) | refine exit_then (exit_then (exit_in ?_))
      clear t244 esj
      obtain rfl : j = nnK f g n m (2 + i) := by omega
      clear t32 ltj hj
      refine wp_region_sq (σ := Unit) 312 [(0, 236), (1, 237), (2, 31)] (fun j_ s X => match j_ with | 0 => Below V.heap.size V X ∧ (K2 V X 38 x (nnK f g n m) ff2 (.slice (some ⟨gl, 0, none⟩) 18 cl) (.slice (some ⟨gw, 0, none⟩) 18 cw) bw 18) | 1 => Below V.heap.size V X ∧ (K2 V X 38 x (nnK f g n m) ff2 (.slice (some ⟨gl, 0, none⟩) 18 cl) (.slice (some ⟨gw, 0, none⟩) 18 cw) bw 18) | 2 => Below V.heap.size V X ∧ (K2 V X 38 x (nnK f g n m) ff2 (.slice (some ⟨gl, 0, none⟩) 18 cl) (.slice (some ⟨gw, 0, none⟩) 18 cw) bw 18) | _ => Below V.heap.size V X ∧ (K2 V X 38 x (nnK f g n m) ff2 (.slice (some ⟨gl, 0, none⟩) 18 cl) (.slice (some ⟨gw, 0, none⟩) 18 cw) bw 18)) (fun s => fun i_ => match i_ with | 0 => .int .i64 ((i : Nat) : Int) | 1 => .int .i64 ((i + 1 : Nat) : Int) | 2 => .int .i64 ((i + 1 : Nat) : Int) | _ => undef) () A.1 (by kernel_rfl) (by decide) (by decide) ⟨BB, FK⟩ ?_ ?_
      · intro i_ hi_ s a X hf hv hn hS
        match i_, hi_ with
        | 0, _ => exact stepV rfl rfl (execMvB rfl ((hn 2 (by omega) _ rfl _ rfl).trans t31)) ⟨s, ⟨_, rfl, rfl⟩, hS, fun _ _ => rfl⟩
        | 1, _ => exact stepV rfl rfl (execAd8 (p := i) (q := 1) rfl (hv 0 (by omega) _ rfl _ rfl) rfl (by omega)) ⟨s, ⟨_, rfl, rfl⟩, hS, fun _ _ => rfl⟩
        | 2, _ => exact stepV rfl rfl (execAsgB rfl (hv 1 (by omega) _ rfl _ rfl)) ⟨s, ⟨_, rfl, rfl⟩, hS, fun _ _ => rfl⟩
        | k_ + 3, h_ => exact absurd h_ (by simp)
      rintro _ a X43 h1 h2 h3 h4 hS
      clear BB
      clear FK
      replace hS : Below V.heap.size V X43 ∧ (K2 V X43 38 x (nnK f g n m) ff2 (.slice (some ⟨gl, 0, none⟩) 18 cl) (.slice (some ⟨gw, 0, none⟩) 18 cw) bw 18) := hS
      obtain ⟨BB, FK⟩ := hS
      replace t0 := (h3 0 (by decide)).trans t0
      replace t1 := (h3 1 (by decide)).trans t1
      replace t9 := (h3 9 (by decide)).trans t9
      replace t10 := (h3 10 (by decide)).trans t10
      replace t31 : a.eval (.tmp 31) = .int .i64 ((i + 1 : Nat) : Int) := h4 2 _ rfl _ rfl
      replace A := (⟨h1, h2.trans A.2⟩ : a.tmps.size = 312 ∧ a.defers = [])
      clear h1 h2 h3 h4
      exact ⟨⟨i + 1, ff2, lti, h20, mark_out hmk hin, A, t0, t1, t9, t10, t31, BB, FK⟩, by show 18 - (intOf (a.eval (.tmp 31))).toNat < 18 - (intOf (Act.eval _ (.tmp 31))).toNat; rw [t31, esi]; show 18 - (i + 1) < 18 - i; omega⟩
  · rw [decide_eq_false lti] at t235
    refine wp_cond_false t235 ?_
    refine wp_exit ?_
    first | refine exit_in ?_ | refine exit_then (exit_in ?_) | refine exit_then (exit_then (exit_in ?_))
    clear t235 esi
    obtain rfl : i = 18 := by omega
    clear t31 lti hi
    exact keeps48 I V f g n m pv qv hp hq hn17 hm17 _ x ff1 gl cl gw cw bw BB h20 hmk FK a A t0 t1 t9 t10
set_option maxRecDepth 100000 in
set_option maxHeartbeats 4000000 in
/-- PermKeeps, from region 28: what was handed in is written over. -/
theorem keeps28 (I : Impl) (V : World) (f g : Nat → Int) (n m : Nat) (pv qv : Value) (hp : SliceI V pv n f) (hq : SliceI V qv m g) (hn17 : n ≤ 17592186043904) (hm17 : m ≤ 17592186043904) (S : World) (x : Nat → Value) (ff : Nat → Nat → Int) (gl cl gw cw bw gr cr gs cs : Nat) (BB : Below V.heap.size V S) (h2 : ∀ t, 2 ≤ t → ff t = ffK f g n m t) (e0 : x 0 = .slice (some ⟨gr, 0, none⟩) (nnK f g n m 0) cr) (e1 : x 1 = .slice (some ⟨gs, 0, none⟩) (nnK f g n m 1) cs) (FK : (K2 V S 38 x (nnK f g n m) ff (.slice (some ⟨gl, 0, none⟩) 18 cl) (.slice (some ⟨gw, 0, none⟩) 18 cw) bw 18))
    (a : Act) (A : a.tmps.size = 312 ∧ a.defers = []) (t0 : a.eval (.tmp 0) = pv) (t1 : a.eval (.tmp 1) = qv) (t7 : a.eval (.tmp 7) = .slice (some ⟨gr, 0, none⟩) n cr) (t8 : a.eval (.tmp 8) = .slice (some ⟨gs, 0, none⟩) m cs) (t9 : a.eval (.tmp 9) = .slice (some ⟨gl, 0, none⟩) 18 cl) (t10 : a.eval (.tmp 10) = .slice (some ⟨gw, 0, none⟩) 18 cw) :
    (findR 28 (Try.f3.body.getD .skip)).wp Try.prog (bodyPost Try.prog Try.f3 fun e w' => e = .returned (.bool true) ∧ Below V.heap.size V w') a S := by
  have FI := hp
  have FJ := hq
  refine wp_seq ?_
  refine wp_seq ?_
  refine wp_region_sq (σ := Unit) 312 [(0, 28)] (fun j_ s X => match j_ with | 0 => Below V.heap.size V X ∧ (K2 V X 38 x (nnK f g n m) ff (.slice (some ⟨gl, 0, none⟩) 18 cl) (.slice (some ⟨gw, 0, none⟩) 18 cw) bw 18) | _ => Below V.heap.size V X ∧ (K2 V X 38 x (nnK f g n m) ff (.slice (some ⟨gl, 0, none⟩) 18 cl) (.slice (some ⟨gw, 0, none⟩) 18 cw) bw 18)) (fun s => fun i_ => match i_ with | 0 => .int .i64 ((0 : Nat) : Int) | _ => undef) () A.1 (by kernel_rfl) (by decide) (by decide) ⟨BB, FK⟩ ?_ ?_
  · intro i_ hi_ s a X hf hv hn hS
    match i_, hi_ with
    | 0, _ => exact stepV rfl rfl (execAsgB rfl rfl) ⟨s, ⟨_, rfl, rfl⟩, hS, fun _ _ => rfl⟩
    | k_ + 1, h_ => exact absurd h_ (by simp)
  rintro _ a X28 h1 h2 h3 h4 hS
  clear BB
  clear FK
  replace hS : Below V.heap.size V X28 ∧ (K2 V X28 38 x (nnK f g n m) ff (.slice (some ⟨gl, 0, none⟩) 18 cl) (.slice (some ⟨gw, 0, none⟩) 18 cw) bw 18) := hS
  obtain ⟨BB, FK⟩ := hS
  replace t0 := (h3 0 (by decide)).trans t0
  replace t1 := (h3 1 (by decide)).trans t1
  replace t7 := (h3 7 (by decide)).trans t7
  replace t8 := (h3 8 (by decide)).trans t8
  replace t9 := (h3 9 (by decide)).trans t9
  replace t10 := (h3 10 (by decide)).trans t10
  have t28 : a.eval (.tmp 28) = .int .i64 ((0 : Nat) : Int) := h4 0 _ rfl _ rfl
  replace A := (⟨h1, h2.trans A.2⟩ : a.tmps.size = 312 ∧ a.defers = [])
  clear h1 h2 h3 h4
  refine wp_block ?_
  refine wp_loop (fun a W => ∃ (i : Nat) (ff1 : Nat → Nat → Int), i ≤ n ∧ (∀ t, 2 ≤ t → ff1 t = ffK f g n m t) ∧ (a.tmps.size = 312 ∧ a.defers = []) ∧ a.eval (.tmp 0) = pv ∧ a.eval (.tmp 1) = qv ∧ a.eval (.tmp 7) = .slice (some ⟨gr, 0, none⟩) n cr ∧ a.eval (.tmp 8) = .slice (some ⟨gs, 0, none⟩) m cs ∧ a.eval (.tmp 9) = .slice (some ⟨gl, 0, none⟩) 18 cl ∧ a.eval (.tmp 10) = .slice (some ⟨gw, 0, none⟩) 18 cw ∧ a.eval (.tmp 28) = .int .i64 ((i : Nat) : Int) ∧ Below V.heap.size V W ∧ (K2 V W 38 x (nnK f g n m) ff1 (.slice (some ⟨gl, 0, none⟩) 18 cl) (.slice (some ⟨gw, 0, none⟩) 18 cw) bw 18)) (fun a _ => n - (intOf (a.eval (.tmp 28))).toNat) ⟨0, ff, Nat.zero_le _, h2, A, t0, t1, t7, t8, t9, t10, t28, BB, FK⟩ ?_
  clear A t0 t1 t7 t8 t9 t10 t28 BB FK a
  rintro a XL29 ⟨i, ff1, hi, h2, A, t0, t1, t7, t8, t9, t10, t28, BB, FK⟩
  have esi := t28
  refine wp_seq ?_
  refine wp_seq ?_
  refine wp_region_sq (σ := Unit) 312 [(0, 198), (1, 199), (2, 200), (3, 201)] (fun j_ s X => match j_ with | 0 => Below V.heap.size V X ∧ (K2 V X 38 x (nnK f g n m) ff1 (.slice (some ⟨gl, 0, none⟩) 18 cl) (.slice (some ⟨gw, 0, none⟩) 18 cw) bw 18) | 1 => Below V.heap.size V X ∧ (K2 V X 38 x (nnK f g n m) ff1 (.slice (some ⟨gl, 0, none⟩) 18 cl) (.slice (some ⟨gw, 0, none⟩) 18 cw) bw 18) | 2 => Below V.heap.size V X ∧ (K2 V X 38 x (nnK f g n m) ff1 (.slice (some ⟨gl, 0, none⟩) 18 cl) (.slice (some ⟨gw, 0, none⟩) 18 cw) bw 18) | 3 => Below V.heap.size V X ∧ (K2 V X 38 x (nnK f g n m) ff1 (.slice (some ⟨gl, 0, none⟩) 18 cl) (.slice (some ⟨gw, 0, none⟩) 18 cw) bw 18) | _ => Below V.heap.size V X ∧ (K2 V X 38 x (nnK f g n m) ff1 (.slice (some ⟨gl, 0, none⟩) 18 cl) (.slice (some ⟨gw, 0, none⟩) 18 cw) bw 18)) (fun s => fun i_ => match i_ with | 0 => .int .i64 ((i : Nat) : Int) | 1 => .slice (some ⟨gr, 0, none⟩) n cr | 2 => .int .i64 ((n : Nat) : Int) | 3 => .bool (decide (i < n)) | _ => undef) () A.1 (by kernel_rfl) (by decide) (by decide) ⟨BB, FK⟩ ?_ ?_
  · intro i_ hi_ s a X hf hv hn hS
    match i_, hi_ with
    | 0, _ => exact stepV rfl rfl (execMvB rfl ((hf 28 (by decide)).trans t28)) ⟨s, ⟨_, rfl, rfl⟩, hS, fun _ _ => rfl⟩
    | 1, _ => exact stepV rfl rfl (execMvB rfl ((hf 7 (by decide)).trans t7)) ⟨s, ⟨_, rfl, rfl⟩, hS, fun _ _ => rfl⟩
    | 2, _ => exact stepV rfl rfl (execLenI (len := n) rfl (hv 1 (by omega) _ rfl _ rfl) ⟨_, _, rfl⟩) ⟨s, ⟨_, rfl, rfl⟩, hS, fun _ _ => rfl⟩
    | 3, _ => exact stepV rfl rfl (execLtW (p := i) (q := n) rfl (hv 0 (by omega) _ rfl _ rfl) (hv 2 (by omega) _ rfl _ rfl)) ⟨s, ⟨_, rfl, rfl⟩, hS, fun _ _ => rfl⟩
    | k_ + 4, h_ => exact absurd h_ (by simp)
  rintro _ a X29 h1 h2 h3 h4 hS
  clear BB
  clear FK
  replace hS : Below V.heap.size V X29 ∧ (K2 V X29 38 x (nnK f g n m) ff1 (.slice (some ⟨gl, 0, none⟩) 18 cl) (.slice (some ⟨gw, 0, none⟩) 18 cw) bw 18) := hS
  obtain ⟨BB, FK⟩ := hS
  replace t0 := (h3 0 (by decide)).trans t0
  replace t1 := (h3 1 (by decide)).trans t1
  replace t7 := (h3 7 (by decide)).trans t7
  replace t8 := (h3 8 (by decide)).trans t8
  replace t9 := (h3 9 (by decide)).trans t9
  replace t10 := (h3 10 (by decide)).trans t10
  replace t28 := (h3 28 (by decide)).trans t28
  have t201 : a.eval (.tmp 201) = .bool (decide (i < n)) := h4 3 _ rfl _ rfl
  replace A := (⟨h1, h2.trans A.2⟩ : a.tmps.size = 312 ∧ a.defers = [])
  clear h1 h2 h3 h4
  by_cases lti : i < n
  · rw [decide_eq_true lti] at t201
    refine wp_cond_true t201 ?_
    refine wp_skip ?_
    clear t201
    refine wp_seq ?_
    refine wp_block ?_
    refine wp_region_sq (σ := Unit) 312 [(0, 204), (1, 205), (2, 206)] (fun j_ s X => match j_ with | 0 => Below V.heap.size V X ∧ (K2 V X 38 x (nnK f g n m) ff1 (.slice (some ⟨gl, 0, none⟩) 18 cl) (.slice (some ⟨gw, 0, none⟩) 18 cw) bw 18) | 1 => Below V.heap.size V X ∧ (K2 V X 38 x (nnK f g n m) ff1 (.slice (some ⟨gl, 0, none⟩) 18 cl) (.slice (some ⟨gw, 0, none⟩) 18 cw) bw 18) | 2 => Below V.heap.size V X ∧ (K2 V X 38 x (nnK f g n m) ff1 (.slice (some ⟨gl, 0, none⟩) 18 cl) (.slice (some ⟨gw, 0, none⟩) 18 cw) bw 18) | 3 => Below V.heap.size V X ∧ (K2 V X 38 x (nnK f g n m) ff1 (.slice (some ⟨gl, 0, none⟩) 18 cl) (.slice (some ⟨gw, 0, none⟩) 18 cw) bw 18) | _ => Below V.heap.size V X ∧ (K2 V X 38 x (nnK f g n m) (updF ff1 0 i (-1)) (.slice (some ⟨gl, 0, none⟩) 18 cl) (.slice (some ⟨gw, 0, none⟩) 18 cw) bw 18)) (fun s => fun i_ => match i_ with | 0 => .slice (some ⟨gr, 0, none⟩) n cr | 1 => .int .i64 ((i : Nat) : Int) | 2 => .pointer (some ⟨gr, 0 + i, none⟩) | 3 => undef | _ => undef) () A.1 (by kernel_rfl) (by decide) (by decide) ⟨BB, FK⟩ ?_ ?_
    · intro i_ hi_ s a X hf hv hn hS
      match i_, hi_ with
      | 0, _ => exact stepV rfl rfl (execMvB rfl ((hf 7 (by decide)).trans t7)) ⟨s, ⟨_, rfl, rfl⟩, hS, fun _ _ => rfl⟩
      | 1, _ => exact stepV rfl rfl (execMvB rfl ((hf 28 (by decide)).trans t28)) ⟨s, ⟨_, rfl, rfl⟩, hS, fun _ _ => rfl⟩
      | 2, _ => exact stepV rfl rfl (execIdxN (k := i) rfl (hv 0 (by omega) _ rfl _ rfl) (hv 1 (by omega) _ rfl _ rfl) (by omega)) ⟨s, ⟨_, rfl, rfl⟩, hS, fun _ _ => rfl⟩
      | 3, _ =>
        obtain ⟨hc_, hf_⟩ := hS.2.k1.fam.cell (t := 0) (j := i) (by omega) e0 (Nat.lt_of_lt_of_le lti (Nat.le_add_right n 2))
        refine stepS rfl rfl (execStI9 rfl (hv 2 (by omega) _ rfl _ rfl) rfl hc_ hf_) ⟨s, ⟨_, rfl, rfl⟩, ⟨(hS.2.set (t := 0) (j := i) (by omega) e0 _).k1.bel, hS.2.set (t := 0) (j := i) (by omega) e0 _⟩, fun i hi => ?_⟩
        match i, hi with
        | 0, _ => rfl
        | 1, _ => rfl
        | 2, _ => rfl
        | n_ + 3, h_ => omega
      | k_ + 4, h_ => exact absurd h_ (by simp)
    rintro _ a X31 h1 h2 h3 h4 hS
    clear BB
    clear FK
    replace hS : Below V.heap.size V X31 ∧ (K2 V X31 38 x (nnK f g n m) (updF ff1 0 i (-1)) (.slice (some ⟨gl, 0, none⟩) 18 cl) (.slice (some ⟨gw, 0, none⟩) 18 cw) bw 18) := hS
    obtain ⟨BB, FKn⟩ := hS
    replace t0 := (h3 0 (by decide)).trans t0
    replace t1 := (h3 1 (by decide)).trans t1
    replace t7 := (h3 7 (by decide)).trans t7
    replace t8 := (h3 8 (by decide)).trans t8
    replace t9 := (h3 9 (by decide)).trans t9
    replace t10 := (h3 10 (by decide)).trans t10
    replace t28 := (h3 28 (by decide)).trans t28
    replace A := (⟨h1, h2.trans A.2⟩ : a.tmps.size = 312 ∧ a.defers = [])
    clear h1 h2 h3 h4
    refine wp_region_sq (σ := Unit) 312 [(0, 202), (1, 203), (2, 28)] (fun j_ s X => match j_ with | 0 => Below V.heap.size V X ∧ (K2 V X 38 x (nnK f g n m) (updF ff1 0 i (-1)) (.slice (some ⟨gl, 0, none⟩) 18 cl) (.slice (some ⟨gw, 0, none⟩) 18 cw) bw 18) | 1 => Below V.heap.size V X ∧ (K2 V X 38 x (nnK f g n m) (updF ff1 0 i (-1)) (.slice (some ⟨gl, 0, none⟩) 18 cl) (.slice (some ⟨gw, 0, none⟩) 18 cw) bw 18) | 2 => Below V.heap.size V X ∧ (K2 V X 38 x (nnK f g n m) (updF ff1 0 i (-1)) (.slice (some ⟨gl, 0, none⟩) 18 cl) (.slice (some ⟨gw, 0, none⟩) 18 cw) bw 18) | _ => Below V.heap.size V X ∧ (K2 V X 38 x (nnK f g n m) (updF ff1 0 i (-1)) (.slice (some ⟨gl, 0, none⟩) 18 cl) (.slice (some ⟨gw, 0, none⟩) 18 cw) bw 18)) (fun s => fun i_ => match i_ with | 0 => .int .i64 ((i : Nat) : Int) | 1 => .int .i64 ((i + 1 : Nat) : Int) | 2 => .int .i64 ((i + 1 : Nat) : Int) | _ => undef) () A.1 (by kernel_rfl) (by decide) (by decide) ⟨BB, FKn⟩ ?_ ?_
    · intro i_ hi_ s a X hf hv hn hS
      match i_, hi_ with
      | 0, _ => exact stepV rfl rfl (execMvB rfl ((hn 2 (by omega) _ rfl _ rfl).trans t28)) ⟨s, ⟨_, rfl, rfl⟩, hS, fun _ _ => rfl⟩
      | 1, _ => exact stepV rfl rfl (execAd8 (p := i) (q := 1) rfl (hv 0 (by omega) _ rfl _ rfl) rfl (by omega)) ⟨s, ⟨_, rfl, rfl⟩, hS, fun _ _ => rfl⟩
      | 2, _ => exact stepV rfl rfl (execAsgB rfl (hv 1 (by omega) _ rfl _ rfl)) ⟨s, ⟨_, rfl, rfl⟩, hS, fun _ _ => rfl⟩
      | k_ + 3, h_ => exact absurd h_ (by simp)
    rintro _ a X30 h1 h2 h3 h4 hS
    clear BB
    clear FKn
    replace hS : Below V.heap.size V X30 ∧ (K2 V X30 38 x (nnK f g n m) (updF ff1 0 i (-1)) (.slice (some ⟨gl, 0, none⟩) 18 cl) (.slice (some ⟨gw, 0, none⟩) 18 cw) bw 18) := hS
    obtain ⟨BB, FKn⟩ := hS
    replace t0 := (h3 0 (by decide)).trans t0
    replace t1 := (h3 1 (by decide)).trans t1
    replace t7 := (h3 7 (by decide)).trans t7
    replace t8 := (h3 8 (by decide)).trans t8
    replace t9 := (h3 9 (by decide)).trans t9
    replace t10 := (h3 10 (by decide)).trans t10
    replace t28 : a.eval (.tmp 28) = .int .i64 ((i + 1 : Nat) : Int) := h4 2 _ rfl _ rfl
    replace A := (⟨h1, h2.trans A.2⟩ : a.tmps.size = 312 ∧ a.defers = [])
    clear h1 h2 h3 h4
    exact ⟨⟨i + 1, _, lti, fun t ht => (updF_o (by omega)).trans (h2 t ht), A, t0, t1, t7, t8, t9, t10, t28, BB, FKn⟩, by show n - (intOf (a.eval (.tmp 28))).toNat < n - (intOf (Act.eval _ (.tmp 28))).toNat; rw [t28, esi]; show n - (i + 1) < n - i; omega⟩
  · rw [decide_eq_false lti] at t201
    refine wp_cond_false t201 ?_
    refine wp_exit ?_
    first | refine exit_in ?_ | refine exit_then (exit_in ?_) | refine exit_then (exit_then (exit_in ?_))
    clear t201 esi
    clear t28 lti hi
    clear i
    refine wp_seq ?_
    refine wp_seq ?_
    refine wp_region_sq (σ := Unit) 312 [(0, 29)] (fun j_ s X => match j_ with | 0 => Below V.heap.size V X ∧ (K2 V X 38 x (nnK f g n m) ff1 (.slice (some ⟨gl, 0, none⟩) 18 cl) (.slice (some ⟨gw, 0, none⟩) 18 cw) bw 18) | _ => Below V.heap.size V X ∧ (K2 V X 38 x (nnK f g n m) ff1 (.slice (some ⟨gl, 0, none⟩) 18 cl) (.slice (some ⟨gw, 0, none⟩) 18 cw) bw 18)) (fun s => fun i_ => match i_ with | 0 => .int .i64 ((0 : Nat) : Int) | _ => undef) () A.1 (by kernel_rfl) (by decide) (by decide) ⟨BB, FK⟩ ?_ ?_
    · intro i_ hi_ s a X hf hv hn hS
      match i_, hi_ with
      | 0, _ => exact stepV rfl rfl (execAsgB rfl rfl) ⟨s, ⟨_, rfl, rfl⟩, hS, fun _ _ => rfl⟩
      | k_ + 1, h_ => exact absurd h_ (by simp)
    rintro _ a X32 h1 h2 h3 h4 hS
    clear BB
    clear FK
    replace hS : Below V.heap.size V X32 ∧ (K2 V X32 38 x (nnK f g n m) ff1 (.slice (some ⟨gl, 0, none⟩) 18 cl) (.slice (some ⟨gw, 0, none⟩) 18 cw) bw 18) := hS
    obtain ⟨BB, FK⟩ := hS
    replace t0 := (h3 0 (by decide)).trans t0
    replace t1 := (h3 1 (by decide)).trans t1
    replace t7 := (h3 7 (by decide)).trans t7
    replace t8 := (h3 8 (by decide)).trans t8
    replace t9 := (h3 9 (by decide)).trans t9
    replace t10 := (h3 10 (by decide)).trans t10
    have t29 : a.eval (.tmp 29) = .int .i64 ((0 : Nat) : Int) := h4 0 _ rfl _ rfl
    replace A := (⟨h1, h2.trans A.2⟩ : a.tmps.size = 312 ∧ a.defers = [])
    clear h1 h2 h3 h4
    refine wp_block ?_
    refine wp_loop (fun a W => ∃ (i : Nat) (ff3 : Nat → Nat → Int), i ≤ m ∧ (∀ t, 2 ≤ t → ff3 t = ffK f g n m t) ∧ (a.tmps.size = 312 ∧ a.defers = []) ∧ a.eval (.tmp 0) = pv ∧ a.eval (.tmp 1) = qv ∧ a.eval (.tmp 7) = .slice (some ⟨gr, 0, none⟩) n cr ∧ a.eval (.tmp 8) = .slice (some ⟨gs, 0, none⟩) m cs ∧ a.eval (.tmp 9) = .slice (some ⟨gl, 0, none⟩) 18 cl ∧ a.eval (.tmp 10) = .slice (some ⟨gw, 0, none⟩) 18 cw ∧ a.eval (.tmp 29) = .int .i64 ((i : Nat) : Int) ∧ Below V.heap.size V W ∧ (K2 V W 38 x (nnK f g n m) ff3 (.slice (some ⟨gl, 0, none⟩) 18 cl) (.slice (some ⟨gw, 0, none⟩) 18 cw) bw 18)) (fun a _ => m - (intOf (a.eval (.tmp 29))).toNat) ⟨0, ff1, Nat.zero_le _, h2, A, t0, t1, t7, t8, t9, t10, t29, BB, FK⟩ ?_
    clear A t0 t1 t7 t8 t9 t10 t29 BB FK a
    rintro a XL33 ⟨i, ff3, hi, h2, A, t0, t1, t7, t8, t9, t10, t29, BB, FK⟩
    have esi := t29
    refine wp_seq ?_
    refine wp_seq ?_
    refine wp_region_sq (σ := Unit) 312 [(0, 207), (1, 208), (2, 209), (3, 210)] (fun j_ s X => match j_ with | 0 => Below V.heap.size V X ∧ (K2 V X 38 x (nnK f g n m) ff3 (.slice (some ⟨gl, 0, none⟩) 18 cl) (.slice (some ⟨gw, 0, none⟩) 18 cw) bw 18) | 1 => Below V.heap.size V X ∧ (K2 V X 38 x (nnK f g n m) ff3 (.slice (some ⟨gl, 0, none⟩) 18 cl) (.slice (some ⟨gw, 0, none⟩) 18 cw) bw 18) | 2 => Below V.heap.size V X ∧ (K2 V X 38 x (nnK f g n m) ff3 (.slice (some ⟨gl, 0, none⟩) 18 cl) (.slice (some ⟨gw, 0, none⟩) 18 cw) bw 18) | 3 => Below V.heap.size V X ∧ (K2 V X 38 x (nnK f g n m) ff3 (.slice (some ⟨gl, 0, none⟩) 18 cl) (.slice (some ⟨gw, 0, none⟩) 18 cw) bw 18) | _ => Below V.heap.size V X ∧ (K2 V X 38 x (nnK f g n m) ff3 (.slice (some ⟨gl, 0, none⟩) 18 cl) (.slice (some ⟨gw, 0, none⟩) 18 cw) bw 18)) (fun s => fun i_ => match i_ with | 0 => .int .i64 ((i : Nat) : Int) | 1 => .slice (some ⟨gs, 0, none⟩) m cs | 2 => .int .i64 ((m : Nat) : Int) | 3 => .bool (decide (i < m)) | _ => undef) () A.1 (by kernel_rfl) (by decide) (by decide) ⟨BB, FK⟩ ?_ ?_
    · intro i_ hi_ s a X hf hv hn hS
      match i_, hi_ with
      | 0, _ => exact stepV rfl rfl (execMvB rfl ((hf 29 (by decide)).trans t29)) ⟨s, ⟨_, rfl, rfl⟩, hS, fun _ _ => rfl⟩
      | 1, _ => exact stepV rfl rfl (execMvB rfl ((hf 8 (by decide)).trans t8)) ⟨s, ⟨_, rfl, rfl⟩, hS, fun _ _ => rfl⟩
      | 2, _ => exact stepV rfl rfl (execLenI (len := m) rfl (hv 1 (by omega) _ rfl _ rfl) ⟨_, _, rfl⟩) ⟨s, ⟨_, rfl, rfl⟩, hS, fun _ _ => rfl⟩
      | 3, _ => exact stepV rfl rfl (execLtW (p := i) (q := m) rfl (hv 0 (by omega) _ rfl _ rfl) (hv 2 (by omega) _ rfl _ rfl)) ⟨s, ⟨_, rfl, rfl⟩, hS, fun _ _ => rfl⟩
      | k_ + 4, h_ => exact absurd h_ (by simp)
    rintro _ a X33 h1 h2 h3 h4 hS
    clear BB
    clear FK
    replace hS : Below V.heap.size V X33 ∧ (K2 V X33 38 x (nnK f g n m) ff3 (.slice (some ⟨gl, 0, none⟩) 18 cl) (.slice (some ⟨gw, 0, none⟩) 18 cw) bw 18) := hS
    obtain ⟨BB, FK⟩ := hS
    replace t0 := (h3 0 (by decide)).trans t0
    replace t1 := (h3 1 (by decide)).trans t1
    replace t7 := (h3 7 (by decide)).trans t7
    replace t8 := (h3 8 (by decide)).trans t8
    replace t9 := (h3 9 (by decide)).trans t9
    replace t10 := (h3 10 (by decide)).trans t10
    replace t29 := (h3 29 (by decide)).trans t29
    have t210 : a.eval (.tmp 210) = .bool (decide (i < m)) := h4 3 _ rfl _ rfl
    replace A := (⟨h1, h2.trans A.2⟩ : a.tmps.size = 312 ∧ a.defers = [])
    clear h1 h2 h3 h4
    by_cases lti : i < m
    · rw [decide_eq_true lti] at t210
      refine wp_cond_true t210 ?_
      refine wp_skip ?_
      clear t210
      refine wp_seq ?_
      refine wp_block ?_
      refine wp_region_sq (σ := Unit) 312 [(0, 213), (1, 214), (2, 215)] (fun j_ s X => match j_ with | 0 => Below V.heap.size V X ∧ (K2 V X 38 x (nnK f g n m) ff3 (.slice (some ⟨gl, 0, none⟩) 18 cl) (.slice (some ⟨gw, 0, none⟩) 18 cw) bw 18) | 1 => Below V.heap.size V X ∧ (K2 V X 38 x (nnK f g n m) ff3 (.slice (some ⟨gl, 0, none⟩) 18 cl) (.slice (some ⟨gw, 0, none⟩) 18 cw) bw 18) | 2 => Below V.heap.size V X ∧ (K2 V X 38 x (nnK f g n m) ff3 (.slice (some ⟨gl, 0, none⟩) 18 cl) (.slice (some ⟨gw, 0, none⟩) 18 cw) bw 18) | 3 => Below V.heap.size V X ∧ (K2 V X 38 x (nnK f g n m) ff3 (.slice (some ⟨gl, 0, none⟩) 18 cl) (.slice (some ⟨gw, 0, none⟩) 18 cw) bw 18) | _ => Below V.heap.size V X ∧ (K2 V X 38 x (nnK f g n m) (updF ff3 1 i (-2)) (.slice (some ⟨gl, 0, none⟩) 18 cl) (.slice (some ⟨gw, 0, none⟩) 18 cw) bw 18)) (fun s => fun i_ => match i_ with | 0 => .slice (some ⟨gs, 0, none⟩) m cs | 1 => .int .i64 ((i : Nat) : Int) | 2 => .pointer (some ⟨gs, 0 + i, none⟩) | 3 => undef | _ => undef) () A.1 (by kernel_rfl) (by decide) (by decide) ⟨BB, FK⟩ ?_ ?_
      · intro i_ hi_ s a X hf hv hn hS
        match i_, hi_ with
        | 0, _ => exact stepV rfl rfl (execMvB rfl ((hf 8 (by decide)).trans t8)) ⟨s, ⟨_, rfl, rfl⟩, hS, fun _ _ => rfl⟩
        | 1, _ => exact stepV rfl rfl (execMvB rfl ((hf 29 (by decide)).trans t29)) ⟨s, ⟨_, rfl, rfl⟩, hS, fun _ _ => rfl⟩
        | 2, _ => exact stepV rfl rfl (execIdxN (k := i) rfl (hv 0 (by omega) _ rfl _ rfl) (hv 1 (by omega) _ rfl _ rfl) (by omega)) ⟨s, ⟨_, rfl, rfl⟩, hS, fun _ _ => rfl⟩
        | 3, _ =>
          obtain ⟨hc_, hf_⟩ := hS.2.k1.fam.cell (t := 1) (j := i) (by omega) e1 (Nat.lt_of_lt_of_le lti (Nat.le_add_right m 2))
          refine stepS rfl rfl (execStI9 rfl (hv 2 (by omega) _ rfl _ rfl) rfl hc_ hf_) ⟨s, ⟨_, rfl, rfl⟩, ⟨(hS.2.set (t := 1) (j := i) (by omega) e1 _).k1.bel, hS.2.set (t := 1) (j := i) (by omega) e1 _⟩, fun i hi => ?_⟩
          match i, hi with
          | 0, _ => rfl
          | 1, _ => rfl
          | 2, _ => rfl
          | n_ + 3, h_ => omega
        | k_ + 4, h_ => exact absurd h_ (by simp)
      rintro _ a X35 h1 h2 h3 h4 hS
      clear BB
      clear FK
      replace hS : Below V.heap.size V X35 ∧ (K2 V X35 38 x (nnK f g n m) (updF ff3 1 i (-2)) (.slice (some ⟨gl, 0, none⟩) 18 cl) (.slice (some ⟨gw, 0, none⟩) 18 cw) bw 18) := hS
      obtain ⟨BB, FKn⟩ := hS
      replace t0 := (h3 0 (by decide)).trans t0
      replace t1 := (h3 1 (by decide)).trans t1
      replace t7 := (h3 7 (by decide)).trans t7
      replace t8 := (h3 8 (by decide)).trans t8
      replace t9 := (h3 9 (by decide)).trans t9
      replace t10 := (h3 10 (by decide)).trans t10
      replace t29 := (h3 29 (by decide)).trans t29
      replace A := (⟨h1, h2.trans A.2⟩ : a.tmps.size = 312 ∧ a.defers = [])
      clear h1 h2 h3 h4
      refine wp_region_sq (σ := Unit) 312 [(0, 211), (1, 212), (2, 29)] (fun j_ s X => match j_ with | 0 => Below V.heap.size V X ∧ (K2 V X 38 x (nnK f g n m) (updF ff3 1 i (-2)) (.slice (some ⟨gl, 0, none⟩) 18 cl) (.slice (some ⟨gw, 0, none⟩) 18 cw) bw 18) | 1 => Below V.heap.size V X ∧ (K2 V X 38 x (nnK f g n m) (updF ff3 1 i (-2)) (.slice (some ⟨gl, 0, none⟩) 18 cl) (.slice (some ⟨gw, 0, none⟩) 18 cw) bw 18) | 2 => Below V.heap.size V X ∧ (K2 V X 38 x (nnK f g n m) (updF ff3 1 i (-2)) (.slice (some ⟨gl, 0, none⟩) 18 cl) (.slice (some ⟨gw, 0, none⟩) 18 cw) bw 18) | _ => Below V.heap.size V X ∧ (K2 V X 38 x (nnK f g n m) (updF ff3 1 i (-2)) (.slice (some ⟨gl, 0, none⟩) 18 cl) (.slice (some ⟨gw, 0, none⟩) 18 cw) bw 18)) (fun s => fun i_ => match i_ with | 0 => .int .i64 ((i : Nat) : Int) | 1 => .int .i64 ((i + 1 : Nat) : Int) | 2 => .int .i64 ((i + 1 : Nat) : Int) | _ => undef) () A.1 (by kernel_rfl) (by decide) (by decide) ⟨BB, FKn⟩ ?_ ?_
      · intro i_ hi_ s a X hf hv hn hS
        match i_, hi_ with
        | 0, _ => exact stepV rfl rfl (execMvB rfl ((hn 2 (by omega) _ rfl _ rfl).trans t29)) ⟨s, ⟨_, rfl, rfl⟩, hS, fun _ _ => rfl⟩
        | 1, _ => exact stepV rfl rfl (execAd8 (p := i) (q := 1) rfl (hv 0 (by omega) _ rfl _ rfl) rfl (by omega)) ⟨s, ⟨_, rfl, rfl⟩, hS, fun _ _ => rfl⟩
        | 2, _ => exact stepV rfl rfl (execAsgB rfl (hv 1 (by omega) _ rfl _ rfl)) ⟨s, ⟨_, rfl, rfl⟩, hS, fun _ _ => rfl⟩
        | k_ + 3, h_ => exact absurd h_ (by simp)
      rintro _ a X34 h1 h2 h3 h4 hS
      clear BB
      clear FKn
      replace hS : Below V.heap.size V X34 ∧ (K2 V X34 38 x (nnK f g n m) (updF ff3 1 i (-2)) (.slice (some ⟨gl, 0, none⟩) 18 cl) (.slice (some ⟨gw, 0, none⟩) 18 cw) bw 18) := hS
      obtain ⟨BB, FKn⟩ := hS
      replace t0 := (h3 0 (by decide)).trans t0
      replace t1 := (h3 1 (by decide)).trans t1
      replace t7 := (h3 7 (by decide)).trans t7
      replace t8 := (h3 8 (by decide)).trans t8
      replace t9 := (h3 9 (by decide)).trans t9
      replace t10 := (h3 10 (by decide)).trans t10
      replace t29 : a.eval (.tmp 29) = .int .i64 ((i + 1 : Nat) : Int) := h4 2 _ rfl _ rfl
      replace A := (⟨h1, h2.trans A.2⟩ : a.tmps.size = 312 ∧ a.defers = [])
      clear h1 h2 h3 h4
      exact ⟨⟨i + 1, _, lti, fun t ht => (updF_o (by omega)).trans (h2 t ht), A, t0, t1, t7, t8, t9, t10, t29, BB, FKn⟩, by show m - (intOf (a.eval (.tmp 29))).toNat < m - (intOf (Act.eval _ (.tmp 29))).toNat; rw [t29, esi]; show m - (i + 1) < m - i; omega⟩
    · rw [decide_eq_false lti] at t210
      refine wp_cond_false t210 ?_
      refine wp_exit ?_
      first | refine exit_in ?_ | refine exit_then (exit_in ?_) | refine exit_then (exit_then (exit_in ?_))
      clear t210 esi
      clear t29 lti hi
      clear i
      refine wp_seq ?_
      refine wp_seq ?_
      refine wp_region_sq (σ := Unit) 312 [(0, 30)] (fun j_ s X => match j_ with | 0 => Below V.heap.size V X ∧ (K2 V X 38 x (nnK f g n m) ff3 (.slice (some ⟨gl, 0, none⟩) 18 cl) (.slice (some ⟨gw, 0, none⟩) 18 cw) bw 18) | _ => Below V.heap.size V X ∧ (K2 V X 38 x (nnK f g n m) ff3 (.slice (some ⟨gl, 0, none⟩) 18 cl) (.slice (some ⟨gw, 0, none⟩) 18 cw) bw 18)) (fun s => fun i_ => match i_ with | 0 => .int .i64 ((0 : Nat) : Int) | _ => undef) () A.1 (by kernel_rfl) (by decide) (by decide) ⟨BB, FK⟩ ?_ ?_
      · intro i_ hi_ s a X hf hv hn hS
        match i_, hi_ with
        | 0, _ => exact stepV rfl rfl (execAsgB rfl rfl) ⟨s, ⟨_, rfl, rfl⟩, hS, fun _ _ => rfl⟩
        | k_ + 1, h_ => exact absurd h_ (by simp)
      rintro _ a X36 h1 h2 h3 h4 hS
      clear BB
      clear FK
      replace hS : Below V.heap.size V X36 ∧ (K2 V X36 38 x (nnK f g n m) ff3 (.slice (some ⟨gl, 0, none⟩) 18 cl) (.slice (some ⟨gw, 0, none⟩) 18 cw) bw 18) := hS
      obtain ⟨BB, FK⟩ := hS
      replace t0 := (h3 0 (by decide)).trans t0
      replace t1 := (h3 1 (by decide)).trans t1
      replace t9 := (h3 9 (by decide)).trans t9
      replace t10 := (h3 10 (by decide)).trans t10
      have t30 : a.eval (.tmp 30) = .int .i64 ((0 : Nat) : Int) := h4 0 _ rfl _ rfl
      replace A := (⟨h1, h2.trans A.2⟩ : a.tmps.size = 312 ∧ a.defers = [])
      clear h1 h2 h3 h4
      clear t7 t8
      refine wp_block ?_
      refine wp_loop (fun a W => ∃ (i : Nat), i ≤ 18 ∧ (a.tmps.size = 312 ∧ a.defers = []) ∧ a.eval (.tmp 0) = pv ∧ a.eval (.tmp 1) = qv ∧ a.eval (.tmp 9) = .slice (some ⟨gl, 0, none⟩) 18 cl ∧ a.eval (.tmp 10) = .slice (some ⟨gw, 0, none⟩) 18 cw ∧ a.eval (.tmp 30) = .int .i64 ((i : Nat) : Int) ∧ Below V.heap.size V W ∧ (K2 V W 38 x (nnK f g n m) ff3 (.slice (some ⟨gl, 0, none⟩) 18 cl) (.slice (some ⟨gw, 0, none⟩) 18 cw) bw 18)) (fun a _ => 18 - (intOf (a.eval (.tmp 30))).toNat) ⟨0, Nat.zero_le _, A, t0, t1, t9, t10, t30, BB, FK⟩ ?_
      clear A t0 t1 t9 t10 t30 BB FK a
      rintro a XL37 ⟨i, hi, A, t0, t1, t9, t10, t30, BB, FK⟩
      have esi := t30
      refine wp_seq ?_
      refine wp_seq ?_
      refine wp_region_sq (σ := Unit) 312 [(0, 216), (1, 217), (2, 218), (3, 219)] (fun j_ s X => match j_ with | 0 => Below V.heap.size V X ∧ (K2 V X 38 x (nnK f g n m) ff3 (.slice (some ⟨gl, 0, none⟩) 18 cl) (.slice (some ⟨gw, 0, none⟩) 18 cw) bw 18) | 1 => Below V.heap.size V X ∧ (K2 V X 38 x (nnK f g n m) ff3 (.slice (some ⟨gl, 0, none⟩) 18 cl) (.slice (some ⟨gw, 0, none⟩) 18 cw) bw 18) | 2 => Below V.heap.size V X ∧ (K2 V X 38 x (nnK f g n m) ff3 (.slice (some ⟨gl, 0, none⟩) 18 cl) (.slice (some ⟨gw, 0, none⟩) 18 cw) bw 18) | 3 => Below V.heap.size V X ∧ (K2 V X 38 x (nnK f g n m) ff3 (.slice (some ⟨gl, 0, none⟩) 18 cl) (.slice (some ⟨gw, 0, none⟩) 18 cw) bw 18) | _ => Below V.heap.size V X ∧ (K2 V X 38 x (nnK f g n m) ff3 (.slice (some ⟨gl, 0, none⟩) 18 cl) (.slice (some ⟨gw, 0, none⟩) 18 cw) bw 18)) (fun s => fun i_ => match i_ with | 0 => .int .i64 ((i : Nat) : Int) | 1 => .slice (some ⟨gl, 0, none⟩) 18 cl | 2 => .int .i64 ((18 : Nat) : Int) | 3 => .bool (decide (i < 18)) | _ => undef) () A.1 (by kernel_rfl) (by decide) (by decide) ⟨BB, FK⟩ ?_ ?_
      · intro i_ hi_ s a X hf hv hn hS
        match i_, hi_ with
        | 0, _ => exact stepV rfl rfl (execMvB rfl ((hf 30 (by decide)).trans t30)) ⟨s, ⟨_, rfl, rfl⟩, hS, fun _ _ => rfl⟩
        | 1, _ => exact stepV rfl rfl (execMvB rfl ((hf 9 (by decide)).trans t9)) ⟨s, ⟨_, rfl, rfl⟩, hS, fun _ _ => rfl⟩
        | 2, _ => exact stepV rfl rfl (execLenLI (len := 18) rfl (hv 1 (by omega) _ rfl _ rfl) ⟨_, _, rfl⟩) ⟨s, ⟨_, rfl, rfl⟩, hS, fun _ _ => rfl⟩
        | 3, _ => exact stepV rfl rfl (execLtW (p := i) (q := 18) rfl (hv 0 (by omega) _ rfl _ rfl) (hv 2 (by omega) _ rfl _ rfl)) ⟨s, ⟨_, rfl, rfl⟩, hS, fun _ _ => rfl⟩
        | k_ + 4, h_ => exact absurd h_ (by simp)
      rintro _ a X37 h1 h2 h3 h4 hS
      clear BB
      clear FK
      replace hS : Below V.heap.size V X37 ∧ (K2 V X37 38 x (nnK f g n m) ff3 (.slice (some ⟨gl, 0, none⟩) 18 cl) (.slice (some ⟨gw, 0, none⟩) 18 cw) bw 18) := hS
      obtain ⟨BB, FK⟩ := hS
      replace t0 := (h3 0 (by decide)).trans t0
      replace t1 := (h3 1 (by decide)).trans t1
      replace t9 := (h3 9 (by decide)).trans t9
      replace t10 := (h3 10 (by decide)).trans t10
      replace t30 := (h3 30 (by decide)).trans t30
      have t219 : a.eval (.tmp 219) = .bool (decide (i < 18)) := h4 3 _ rfl _ rfl
      replace A := (⟨h1, h2.trans A.2⟩ : a.tmps.size = 312 ∧ a.defers = [])
      clear h1 h2 h3 h4
      by_cases lti : i < 18
      · rw [decide_eq_true lti] at t219
        refine wp_cond_true t219 ?_
        refine wp_skip ?_
        clear t219
        refine wp_seq ?_
        refine wp_block ?_
        refine wp_seq ?_
        refine wp_region_detA 312 [(0, 222), (1, 223), (2, 224), (3, 225), (4, 226), (5, 227), (6, 228), (7, 229), (8, 230), (9, 231)] (fun i_ => match i_ with | 0 => .slice (some ⟨gl, 0, none⟩) 18 cl | 1 => .int .i64 ((i : Nat) : Int) | 2 => .pointer (some ⟨gl, 0 + i, none⟩) | 3 => x (2 + i) | 4 => .slice (some ⟨gw, 0, none⟩) 18 cw | 5 => .int .i64 ((i : Nat) : Int) | 6 => .pointer (some ⟨gw, 0 + i, none⟩) | 7 => x (20 + i) | 8 => .bool true | 9 => .bool false | _ => undef) (fun _ X => Below V.heap.size V X ∧ (K2 V X 38 x (nnK f g n m) ff3 (.slice (some ⟨gl, 0, none⟩) 18 cl) (.slice (some ⟨gw, 0, none⟩) 18 cw) bw 18)) (by kernel_rfl) (by kernel_rfl) A.1 (by kernel_rfl) (by decide) (by decide) ⟨BB.drew, (FK.on (Below.refl _ _).drew)⟩ ?_ ?_
        · intro i_ hi_ l_ a X hl_ hf hdep hl2 hcl hno hT
          match i_, hi_ with
          | 0, _ => exact stepV rfl rfl (execMvB rfl ((hf 9 (by decide)).trans t9)) ⟨⟨_, rfl, rfl⟩, hT⟩
          | 1, _ => exact stepV rfl rfl (execMvB rfl ((hf 30 (by decide)).trans t30)) ⟨⟨_, rfl, rfl⟩, hT⟩
          | 2, _ => exact stepV rfl rfl (execIdxLI (k := i) rfl (hdep _ rfl 0 rfl _ rfl _ rfl) (hdep _ rfl 1 rfl _ rfl _ rfl) (by omega)) ⟨⟨_, rfl, rfl⟩, hT⟩
          | 3, _ => exact stepV rfl rfl (execLdLI rfl (hdep _ rfl 2 rfl _ rfl _ rfl) (ownL_cellI (hT.2).k1.li (by omega))) ⟨⟨_, rfl, rfl⟩, hT⟩
          | 4, _ => exact stepV rfl rfl (execMvB rfl ((hf 10 (by decide)).trans t10)) ⟨⟨_, rfl, rfl⟩, hT⟩
          | 5, _ => exact stepV rfl rfl (execMvB rfl ((hf 30 (by decide)).trans t30)) ⟨⟨_, rfl, rfl⟩, hT⟩
          | 6, _ => exact stepV rfl rfl (execIdxLI (k := i) rfl (hdep _ rfl 4 rfl _ rfl _ rfl) (hdep _ rfl 5 rfl _ rfl _ rfl) (by omega)) ⟨⟨_, rfl, rfl⟩, hT⟩
          | 7, _ => exact stepV rfl rfl (execLdLI rfl (hdep _ rfl 6 rfl _ rfl _ rfl) (ownL_cellI (hT.2).wa (by omega))) ⟨⟨_, rfl, rfl⟩, hT⟩
          | 8, _ => exact stepC rfl rfl (execCall2 Try.func14 (by kernel_rfl) (by kernel_rfl) rfl (hdep _ rfl 3 rfl _ rfl _ rfl) (hdep _ rfl 7 rfl _ rfl _ rfl)) (sameP _ _ (lenC f g n m (i % 9)) _ _ X (K2.want (t := 2 + i) (c := i % 9) hT.2 hq.fits hn17 hm17 (h2 _ (by omega)) (by omega) (by omega) (by omega)) (K2.want (t := 20 + i) (c := i % 9) hT.2 hq.fits hn17 hm17 (h2 _ (by omega)) (by omega) (by omega) (by omega)) (fun _ _ => rfl) (Nat.le_trans (lenC_le hn17 hm17) (by decide))) fun e w' hh => ⟨_, hh.1, ⟨_, rfl, rfl⟩, ⟨hT.1.trans (hh.2.mono hT.1.size), (hT.2.on hh.2)⟩⟩
          | 9, _ => exact stepV rfl rfl (execNot8 rfl (hdep _ rfl 8 rfl _ rfl _ rfl)) ⟨⟨_, rfl, rfl⟩, hT⟩
          | k_ + 10, h_ => exact absurd h_ (by simp)
        intro l_ a X39 h1 h2 h3 h4 hall hT
        clear hall
        clear BB
        clear FK
        obtain ⟨BB, FK⟩ := hT
        replace t0 := (h3 0 (by decide)).trans t0
        replace t1 := (h3 1 (by decide)).trans t1
        replace t9 := (h3 9 (by decide)).trans t9
        replace t10 := (h3 10 (by decide)).trans t10
        replace t30 := (h3 30 (by decide)).trans t30
        have t231 : a.eval (.tmp 231) = .bool false := h4 (9, 231) (by decide)
        replace A := (⟨h1, h2.trans A.2⟩ : a.tmps.size = 312 ∧ a.defers = [])
        clear h1 h2 h3 h4
        refine wp_cond_false t231 ?_
        refine wp_skip ?_
        clear t231
        refine wp_region_sq (σ := Unit) 312 [(0, 220), (1, 221), (2, 30)] (fun j_ s X => match j_ with | 0 => Below V.heap.size V X ∧ (K2 V X 38 x (nnK f g n m) ff3 (.slice (some ⟨gl, 0, none⟩) 18 cl) (.slice (some ⟨gw, 0, none⟩) 18 cw) bw 18) | 1 => Below V.heap.size V X ∧ (K2 V X 38 x (nnK f g n m) ff3 (.slice (some ⟨gl, 0, none⟩) 18 cl) (.slice (some ⟨gw, 0, none⟩) 18 cw) bw 18) | 2 => Below V.heap.size V X ∧ (K2 V X 38 x (nnK f g n m) ff3 (.slice (some ⟨gl, 0, none⟩) 18 cl) (.slice (some ⟨gw, 0, none⟩) 18 cw) bw 18) | _ => Below V.heap.size V X ∧ (K2 V X 38 x (nnK f g n m) ff3 (.slice (some ⟨gl, 0, none⟩) 18 cl) (.slice (some ⟨gw, 0, none⟩) 18 cw) bw 18)) (fun s => fun i_ => match i_ with | 0 => .int .i64 ((i : Nat) : Int) | 1 => .int .i64 ((i + 1 : Nat) : Int) | 2 => .int .i64 ((i + 1 : Nat) : Int) | _ => undef) () A.1 (by kernel_rfl) (by decide) (by decide) ⟨BB, FK⟩ ?_ ?_
        · intro i_ hi_ s a X hf hv hn hS
          match i_, hi_ with
          | 0, _ => exact stepV rfl rfl (execMvB rfl ((hn 2 (by omega) _ rfl _ rfl).trans t30)) ⟨s, ⟨_, rfl, rfl⟩, hS, fun _ _ => rfl⟩
          | 1, _ => exact stepV rfl rfl (execAd8 (p := i) (q := 1) rfl (hv 0 (by omega) _ rfl _ rfl) rfl (by omega)) ⟨s, ⟨_, rfl, rfl⟩, hS, fun _ _ => rfl⟩
          | 2, _ => exact stepV rfl rfl (execAsgB rfl (hv 1 (by omega) _ rfl _ rfl)) ⟨s, ⟨_, rfl, rfl⟩, hS, fun _ _ => rfl⟩
          | k_ + 3, h_ => exact absurd h_ (by simp)
        rintro _ a X38 h1 h2 h3 h4 hS
        clear BB
        clear FK
        replace hS : Below V.heap.size V X38 ∧ (K2 V X38 38 x (nnK f g n m) ff3 (.slice (some ⟨gl, 0, none⟩) 18 cl) (.slice (some ⟨gw, 0, none⟩) 18 cw) bw 18) := hS
        obtain ⟨BB, FK⟩ := hS
        replace t0 := (h3 0 (by decide)).trans t0
        replace t1 := (h3 1 (by decide)).trans t1
        replace t9 := (h3 9 (by decide)).trans t9
        replace t10 := (h3 10 (by decide)).trans t10
        replace t30 : a.eval (.tmp 30) = .int .i64 ((i + 1 : Nat) : Int) := h4 2 _ rfl _ rfl
        replace A := (⟨h1, h2.trans A.2⟩ : a.tmps.size = 312 ∧ a.defers = [])
        clear h1 h2 h3 h4
        exact ⟨⟨i + 1, lti, A, t0, t1, t9, t10, t30, BB, FK⟩, by show 18 - (intOf (a.eval (.tmp 30))).toNat < 18 - (intOf (Act.eval _ (.tmp 30))).toNat; rw [t30, esi]; show 18 - (i + 1) < 18 - i; omega⟩
      · rw [decide_eq_false lti] at t219
        refine wp_cond_false t219 ?_
        refine wp_exit ?_
        first | refine exit_in ?_ | refine exit_then (exit_in ?_) | refine exit_then (exit_then (exit_in ?_))
        clear t219 esi
        obtain rfl : i = 18 := by omega
        clear t30 lti hi
        exact keeps41 I V f g n m pv qv hp hq hn17 hm17 _ x ff3 gl cl gw cw bw BB h2 FK a A t0 t1 t9 t10
end Go.Proofs.Ytldhhfkplongiaa.Prm
