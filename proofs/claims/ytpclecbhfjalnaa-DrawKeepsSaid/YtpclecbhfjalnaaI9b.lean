import Derived.Test.YtpclecbhfjalnaaI9a
namespace Go.Proofs.Ytpclecbhfjalnaa.Drw
open Go.RowKit Gf8 Aes By8 Cel Cf Tap
/- DrawKeeps: what was handed in is written over. Written by tools/mkI9b.py. -/

theorem xor85 {z : Nat} (h : z < 256) : z ^^^ 85 < 256 := Nat.xor_lt_two_pow (n := 8) h (by decide)
set_option maxRecDepth 100000 in
set_option maxHeartbeats 4000000 in
theorem keepsB (I : Impl) (V S : World) (l n gp cp gb cb na nx nb ny : Nat) (va vx vb vk vy : Value) (fa : Nat → Int) (qy : Nat → Nat) (hl : l ≤ 140737488351232) (hn17 : n ≤ 17592186044416) (hnb : nb ≤ 17592186044416)
    (BB : Below V.heap.size V S) (FK : KpB V S gp cp gb cb l n S) (hsa : ∃ g c, va = .slice g na c) (ha20 : 20 ≤ na) (hsx : ∃ g c, vx = .slice g nx c) (hx20 : 20 ≤ nx)
    (FVb : SliceI S vb nb fa) (FVk : SliceI S vk nb fa) (FVy : SliceN S vy ny qy) (dVb : ∀ k, vb.ownBlock = some k → ¬ (k = gp ∨ k = gb)) (dVk : ∀ k, vk.ownBlock = some k → ¬ (k = gp ∨ k = gb)) (dVy : ∀ k, vy.ownBlock = some k → ¬ (k = gp ∨ k = gb))
    (a : Act) (A : a.tmps.size = 309 ∧ a.defers = []) (t10 : a.eval (.tmp 10) = .slice (some ⟨gp, 0, none⟩) l cp) (t11 : a.eval (.tmp 11) = .slice (some ⟨gb, 0, none⟩) n cb) (t13 : a.eval (.tmp 13) = va) (t16 : a.eval (.tmp 16) = vb) (t19 : a.eval (.tmp 19) = vx) (t21 : a.eval (.tmp 21) = vy) (t23 : a.eval (.tmp 23) = vk) (t24 : a.eval (.tmp 24) = .string (strN qy ny)) :
    (findR 29 (Try.f8.body.getD .skip)).wp Try.prog (bodyPost Try.prog Try.f8 fun e w' => e = .returned (.bool true) ∧ Below V.heap.size V w') a S := by
  refine wp_seq ?_
  refine wp_seq ?_
  refine wp_region_sq (σ := Unit) 309 [(0, 28)] (fun j_ s X => match j_ with | 0 => Below V.heap.size V X ∧ (KpB V S gp cp gb cb l n X) | _ => Below V.heap.size V X ∧ (KpB V S gp cp gb cb l n X)) (fun s => fun i_ => match i_ with | 0 => .int .i64 ((0 : Nat) : Int) | _ => undef) () A.1 (by kernel_rfl) (by decide) (by decide) ⟨BB, FK⟩ ?_ ?_
  · intro i_ hi_ s a X hf hv hn hS
    match i_, hi_ with
    | 0, _ => exact stepV rfl rfl (execAsgB rfl rfl) ⟨s, ⟨_, rfl, rfl⟩, hS, fun _ _ => rfl⟩
    | k_ + 1, h_ => exact absurd h_ (by simp)
  rintro _ a X29 h1 h2 h3 h4 hS
  clear BB
  clear FK
  replace hS : Below V.heap.size V X29 ∧ (KpB V S gp cp gb cb l n X29) := hS
  obtain ⟨BB, FK⟩ := hS
  replace t10 := (h3 10 (by decide)).trans t10
  replace t11 := (h3 11 (by decide)).trans t11
  replace t13 := (h3 13 (by decide)).trans t13
  replace t16 := (h3 16 (by decide)).trans t16
  replace t19 := (h3 19 (by decide)).trans t19
  replace t21 := (h3 21 (by decide)).trans t21
  replace t23 := (h3 23 (by decide)).trans t23
  replace t24 := (h3 24 (by decide)).trans t24
  have t28 : a.eval (.tmp 28) = .int .i64 ((0 : Nat) : Int) := h4 0 _ rfl _ rfl
  replace A := (⟨h1, h2.trans A.2⟩ : a.tmps.size = 309 ∧ a.defers = [])
  clear h1 h2 h3 h4
  refine wp_block ?_
  refine wp_loop (fun a W => ∃ i : Nat, i ≤ l ∧ (a.tmps.size = 309 ∧ a.defers = []) ∧ a.eval (.tmp 10) = .slice (some ⟨gp, 0, none⟩) l cp ∧ a.eval (.tmp 11) = .slice (some ⟨gb, 0, none⟩) n cb ∧ a.eval (.tmp 13) = va ∧ a.eval (.tmp 16) = vb ∧ a.eval (.tmp 19) = vx ∧ a.eval (.tmp 21) = vy ∧ a.eval (.tmp 23) = vk ∧ a.eval (.tmp 24) = .string (strN (qy) (ny)) ∧ a.eval (.tmp 28) = .int .i64 ((i : Nat) : Int) ∧ Below V.heap.size V W ∧ (KpB V S gp cp gb cb l n W)) (fun a _ => l - (intOf (a.eval (.tmp 28))).toNat) ⟨0, Nat.zero_le _, A, t10, t11, t13, t16, t19, t21, t23, t24, t28, BB, FK⟩ ?_
  clear A t10 t11 t13 t16 t19 t21 t23 t24 t28 BB FK a
  rintro a XL29 ⟨i, hi, A, t10, t11, t13, t16, t19, t21, t23, t24, t28, BB, FK⟩
  have es := t28
  refine wp_seq ?_
  refine wp_seq ?_
  refine wp_region_sq (σ := Unit) 309 [(0, 240), (1, 241), (2, 242), (3, 243)] (fun j_ s X => match j_ with | 0 => Below V.heap.size V X ∧ (KpB V S gp cp gb cb l n X) | 1 => Below V.heap.size V X ∧ (KpB V S gp cp gb cb l n X) | 2 => Below V.heap.size V X ∧ (KpB V S gp cp gb cb l n X) | 3 => Below V.heap.size V X ∧ (KpB V S gp cp gb cb l n X) | _ => Below V.heap.size V X ∧ (KpB V S gp cp gb cb l n X)) (fun s => fun i_ => match i_ with | 0 => .int .i64 ((i : Nat) : Int) | 1 => .slice (some ⟨gp, 0, none⟩) l cp | 2 => .int .i64 ((l : Nat) : Int) | 3 => .bool (decide (i < l)) | _ => undef) () A.1 (by kernel_rfl) (by decide) (by decide) ⟨BB, FK⟩ ?_ ?_
  · intro i_ hi_ s a X hf hv hn hS
    match i_, hi_ with
    | 0, _ => exact stepV rfl rfl (execMvB rfl ((hf 28 (by decide)).trans t28)) ⟨s, ⟨_, rfl, rfl⟩, hS, fun _ _ => rfl⟩
    | 1, _ => exact stepV rfl rfl (execMvB rfl ((hf 10 (by decide)).trans t10)) ⟨s, ⟨_, rfl, rfl⟩, hS, fun _ _ => rfl⟩
    | 2, _ => exact stepV rfl rfl (execLenV (len := l) rfl (hv 1 (by omega) _ rfl _ rfl) ⟨_, _, rfl⟩) ⟨s, ⟨_, rfl, rfl⟩, hS, fun _ _ => rfl⟩
    | 3, _ => exact stepV rfl rfl (execLtW (p := i) (q := l) rfl (hv 0 (by omega) _ rfl _ rfl) (hv 2 (by omega) _ rfl _ rfl)) ⟨s, ⟨_, rfl, rfl⟩, hS, fun _ _ => rfl⟩
    | k_ + 4, h_ => exact absurd h_ (by simp)
  rintro _ a X30 h1 h2 h3 h4 hS
  clear BB
  clear FK
  replace hS : Below V.heap.size V X30 ∧ (KpB V S gp cp gb cb l n X30) := hS
  obtain ⟨BB, FK⟩ := hS
  replace t10 := (h3 10 (by decide)).trans t10
  replace t11 := (h3 11 (by decide)).trans t11
  replace t13 := (h3 13 (by decide)).trans t13
  replace t16 := (h3 16 (by decide)).trans t16
  replace t19 := (h3 19 (by decide)).trans t19
  replace t21 := (h3 21 (by decide)).trans t21
  replace t23 := (h3 23 (by decide)).trans t23
  replace t24 := (h3 24 (by decide)).trans t24
  replace t28 := (h3 28 (by decide)).trans t28
  have t243 : a.eval (.tmp 243) = .bool (decide (i < l)) := h4 3 _ rfl _ rfl
  replace A := (⟨h1, h2.trans A.2⟩ : a.tmps.size = 309 ∧ a.defers = [])
  clear h1 h2 h3 h4
  by_cases hlt : i < l
  · rw [decide_eq_true hlt] at t243
    refine wp_cond_true t243 ?_
    refine wp_skip ?_
    clear t243
    refine wp_seq ?_
    refine wp_block ?_
    refine wp_region_sq (σ := Nat) 309 [(0, 246), (1, 247), (2, 248), (3, 249), (4, 250), (5, 251)] (fun j_ s X => match j_ with | 0 => Below V.heap.size V X ∧ (KpB V S gp cp gb cb l n X) | 1 => Below V.heap.size V X ∧ (KpB V S gp cp gb cb l n X) | 2 => Below V.heap.size V X ∧ (KpB V S gp cp gb cb l n X) | 3 => Below V.heap.size V X ∧ (KpB V S gp cp gb cb l n X) | 4 => Below V.heap.size V X ∧ (KpB V S gp cp gb cb l n X) ∧ (s < 256) | 5 => Below V.heap.size V X ∧ (KpB V S gp cp gb cb l n X) ∧ (s < 256) | 6 => Below V.heap.size V X ∧ (KpB V S gp cp gb cb l n X) ∧ (s < 256) | _ => Below V.heap.size V X ∧ (KpB V S gp cp gb cb l n X)) (fun s => fun i_ => match i_ with | 0 => .slice (some ⟨gp, 0, none⟩) l cp | 1 => .int .i64 ((i : Nat) : Int) | 2 => .pointer (some ⟨gp, 0 + i, none⟩) | 3 => .int .u8 ((s : Nat) : Int) | 4 => .int .u8 ((s ^^^ 85 : Nat) : Int) | 5 => .pointer (some ⟨gp, 0 + i, none⟩) | 6 => undef | _ => undef) 0 A.1 (by kernel_rfl) (by decide) (by decide) ⟨BB, FK⟩ ?_ ?_
    · intro i_ hi_ s a X hf hv hn hS
      match i_, hi_ with
      | 0, _ => exact stepV rfl rfl (execMvB rfl ((hf 10 (by decide)).trans t10)) ⟨s, ⟨_, rfl, rfl⟩, hS, fun _ _ => rfl⟩
      | 1, _ => exact stepV rfl rfl (execMvB rfl ((hf 28 (by decide)).trans t28)) ⟨s, ⟨_, rfl, rfl⟩, hS, fun _ _ => rfl⟩
      | 2, _ => exact stepV rfl rfl (execIdxB9 (k := i) rfl (hv 0 (by omega) _ rfl _ rfl) (hv 1 (by omega) _ rfl _ rfl) hlt) ⟨s, ⟨_, rfl, rfl⟩, hS, fun _ _ => rfl⟩
      | 3, _ =>
        obtain ⟨z_, hz_, hc_, hf_⟩ := hS.2.atP (j := i) (by omega)
        refine stepV rfl rfl (execLdB rfl (hv 2 (by omega) _ rfl _ rfl) hc_) ⟨z_, ⟨_, rfl, rfl⟩, ⟨(hS.1).trans (((Below.refl _ _)).mono (hS.1).size), (hS.2.on (Below.refl _ _)), hz_⟩, fun i hi => ?_⟩
        match i, hi with
        | 0, _ => rfl
        | 1, _ => rfl
        | 2, _ => rfl
        | n_ + 3, h_ => omega
      | 4, _ => exact stepV rfl rfl (execXor5 (p := s) (q := 85) rfl (hv 3 (by omega) _ rfl _ rfl) rfl hS.2.2 (by decide)) ⟨s, ⟨_, rfl, rfl⟩, hS, fun _ _ => rfl⟩
      | 5, _ => exact stepV rfl rfl (execIdxB9 (k := i) rfl (hv 0 (by omega) _ rfl _ rfl) (hv 1 (by omega) _ rfl _ rfl) hlt) ⟨s, ⟨_, rfl, rfl⟩, hS, fun _ _ => rfl⟩
      | 6, _ =>
        obtain ⟨z_, hz_, hc_, hf_⟩ := hS.2.1.atP (j := i) (by omega)
        refine stepS rfl rfl (execStB9d rfl (hv 5 (by omega) _ rfl _ rfl) (hv 4 (by omega) _ rfl _ rfl) hc_ hf_) ⟨s, ⟨_, rfl, rfl⟩, ⟨(hS.2.1.setP (j := i) (xor85 hS.2.2)).bel, hS.2.1.setP (j := i) (xor85 hS.2.2)⟩, fun i hi => ?_⟩
        match i, hi with
        | 0, _ => rfl
        | 1, _ => rfl
        | 2, _ => rfl
        | 3, _ => rfl
        | 4, _ => rfl
        | 5, _ => rfl
        | n_ + 6, h_ => omega
      | k_ + 7, h_ => exact absurd h_ (by simp)
    rintro z249 a X32 h1 h2 h3 h4 hS
    clear BB
    clear FK
    replace hS : Below V.heap.size V X32 ∧ (KpB V S gp cp gb cb l n X32) := hS
    obtain ⟨BB, FK2⟩ := hS
    replace t10 := (h3 10 (by decide)).trans t10
    replace t11 := (h3 11 (by decide)).trans t11
    replace t13 := (h3 13 (by decide)).trans t13
    replace t16 := (h3 16 (by decide)).trans t16
    replace t19 := (h3 19 (by decide)).trans t19
    replace t21 := (h3 21 (by decide)).trans t21
    replace t23 := (h3 23 (by decide)).trans t23
    replace t24 := (h3 24 (by decide)).trans t24
    replace t28 := (h3 28 (by decide)).trans t28
    replace A := (⟨h1, h2.trans A.2⟩ : a.tmps.size = 309 ∧ a.defers = [])
    clear h1 h2 h3 h4
    refine wp_region_sq (σ := Unit) 309 [(0, 244), (1, 245), (2, 28)] (fun j_ s X => match j_ with | 0 => Below V.heap.size V X ∧ (KpB V S gp cp gb cb l n X) | 1 => Below V.heap.size V X ∧ (KpB V S gp cp gb cb l n X) | 2 => Below V.heap.size V X ∧ (KpB V S gp cp gb cb l n X) | _ => Below V.heap.size V X ∧ (KpB V S gp cp gb cb l n X)) (fun s => fun i_ => match i_ with | 0 => .int .i64 ((i : Nat) : Int) | 1 => .int .i64 ((i + 1 : Nat) : Int) | 2 => .int .i64 ((i + 1 : Nat) : Int) | _ => undef) () A.1 (by kernel_rfl) (by decide) (by decide) ⟨BB, FK2⟩ ?_ ?_
    · intro i_ hi_ s a X hf hv hn hS
      match i_, hi_ with
      | 0, _ => exact stepV rfl rfl (execMvB rfl ((hn 2 (by omega) _ rfl _ rfl).trans t28)) ⟨s, ⟨_, rfl, rfl⟩, hS, fun _ _ => rfl⟩
      | 1, _ => exact stepV rfl rfl (execAd8 (p := i) (q := 1) rfl (hv 0 (by omega) _ rfl _ rfl) rfl (by omega)) ⟨s, ⟨_, rfl, rfl⟩, hS, fun _ _ => rfl⟩
      | 2, _ => exact stepV rfl rfl (execAsgB rfl (hv 1 (by omega) _ rfl _ rfl)) ⟨s, ⟨_, rfl, rfl⟩, hS, fun _ _ => rfl⟩
      | k_ + 3, h_ => exact absurd h_ (by simp)
    rintro _ a X31 h1 h2 h3 h4 hS
    clear BB
    clear FK2
    replace hS : Below V.heap.size V X31 ∧ (KpB V S gp cp gb cb l n X31) := hS
    obtain ⟨BB, FK2⟩ := hS
    replace t10 := (h3 10 (by decide)).trans t10
    replace t11 := (h3 11 (by decide)).trans t11
    replace t13 := (h3 13 (by decide)).trans t13
    replace t16 := (h3 16 (by decide)).trans t16
    replace t19 := (h3 19 (by decide)).trans t19
    replace t21 := (h3 21 (by decide)).trans t21
    replace t23 := (h3 23 (by decide)).trans t23
    replace t24 := (h3 24 (by decide)).trans t24
    replace t28 : a.eval (.tmp 28) = .int .i64 ((i + 1 : Nat) : Int) := h4 2 _ rfl _ rfl
    replace A := (⟨h1, h2.trans A.2⟩ : a.tmps.size = 309 ∧ a.defers = [])
    clear h1 h2 h3 h4
    exact ⟨⟨i + 1, hlt, A, t10, t11, t13, t16, t19, t21, t23, t24, t28, BB, FK2⟩, by show l - (intOf (a.eval (.tmp 28))).toNat < l - (intOf (Act.eval _ (.tmp 28))).toNat; rw [t28, es]; show l - (i + 1) < l - i; omega⟩
  · rw [decide_eq_false hlt] at t243
    refine wp_cond_false t243 ?_
    refine wp_exit ?_
    first | refine exit_in ?_ | refine exit_then (exit_in ?_) | refine exit_then (exit_then (exit_in ?_))
    clear t243 t28 es hlt hi
    clear i
    refine wp_seq ?_
    refine wp_seq ?_
    refine wp_region_sq (σ := Unit) 309 [(0, 29)] (fun j_ s X => match j_ with | 0 => Below V.heap.size V X ∧ (KpB V S gp cp gb cb l n X) | _ => Below V.heap.size V X ∧ (KpB V S gp cp gb cb l n X)) (fun s => fun i_ => match i_ with | 0 => .int .i64 ((0 : Nat) : Int) | _ => undef) () A.1 (by kernel_rfl) (by decide) (by decide) ⟨BB, FK⟩ ?_ ?_
    · intro i_ hi_ s a X hf hv hn hS
      match i_, hi_ with
      | 0, _ => exact stepV rfl rfl (execAsgB rfl rfl) ⟨s, ⟨_, rfl, rfl⟩, hS, fun _ _ => rfl⟩
      | k_ + 1, h_ => exact absurd h_ (by simp)
    rintro _ a X33 h1 h2 h3 h4 hS
    clear BB
    clear FK
    replace hS : Below V.heap.size V X33 ∧ (KpB V S gp cp gb cb l n X33) := hS
    obtain ⟨BB, FK⟩ := hS
    replace t10 := (h3 10 (by decide)).trans t10
    replace t11 := (h3 11 (by decide)).trans t11
    replace t13 := (h3 13 (by decide)).trans t13
    replace t16 := (h3 16 (by decide)).trans t16
    replace t19 := (h3 19 (by decide)).trans t19
    replace t21 := (h3 21 (by decide)).trans t21
    replace t23 := (h3 23 (by decide)).trans t23
    replace t24 := (h3 24 (by decide)).trans t24
    have t29 : a.eval (.tmp 29) = .int .i64 ((0 : Nat) : Int) := h4 0 _ rfl _ rfl
    replace A := (⟨h1, h2.trans A.2⟩ : a.tmps.size = 309 ∧ a.defers = [])
    clear h1 h2 h3 h4
    refine wp_block ?_
    refine wp_loop (fun a W => ∃ i : Nat, i ≤ n ∧ (a.tmps.size = 309 ∧ a.defers = []) ∧ a.eval (.tmp 10) = .slice (some ⟨gp, 0, none⟩) l cp ∧ a.eval (.tmp 11) = .slice (some ⟨gb, 0, none⟩) n cb ∧ a.eval (.tmp 13) = va ∧ a.eval (.tmp 16) = vb ∧ a.eval (.tmp 19) = vx ∧ a.eval (.tmp 21) = vy ∧ a.eval (.tmp 23) = vk ∧ a.eval (.tmp 24) = .string (strN (qy) (ny)) ∧ a.eval (.tmp 29) = .int .i64 ((i : Nat) : Int) ∧ Below V.heap.size V W ∧ (KpB V S gp cp gb cb l n W)) (fun a _ => n - (intOf (a.eval (.tmp 29))).toNat) ⟨0, Nat.zero_le _, A, t10, t11, t13, t16, t19, t21, t23, t24, t29, BB, FK⟩ ?_
    clear A t10 t11 t13 t16 t19 t21 t23 t24 t29 BB FK a
    rintro a XL33 ⟨i, hi, A, t10, t11, t13, t16, t19, t21, t23, t24, t29, BB, FK⟩
    have es := t29
    refine wp_seq ?_
    refine wp_seq ?_
    refine wp_region_sq (σ := Unit) 309 [(0, 252), (1, 253), (2, 254), (3, 255)] (fun j_ s X => match j_ with | 0 => Below V.heap.size V X ∧ (KpB V S gp cp gb cb l n X) | 1 => Below V.heap.size V X ∧ (KpB V S gp cp gb cb l n X) | 2 => Below V.heap.size V X ∧ (KpB V S gp cp gb cb l n X) | 3 => Below V.heap.size V X ∧ (KpB V S gp cp gb cb l n X) | _ => Below V.heap.size V X ∧ (KpB V S gp cp gb cb l n X)) (fun s => fun i_ => match i_ with | 0 => .int .i64 ((i : Nat) : Int) | 1 => .slice (some ⟨gb, 0, none⟩) n cb | 2 => .int .i64 ((n : Nat) : Int) | 3 => .bool (decide (i < n)) | _ => undef) () A.1 (by kernel_rfl) (by decide) (by decide) ⟨BB, FK⟩ ?_ ?_
    · intro i_ hi_ s a X hf hv hn hS
      match i_, hi_ with
      | 0, _ => exact stepV rfl rfl (execMvB rfl ((hf 29 (by decide)).trans t29)) ⟨s, ⟨_, rfl, rfl⟩, hS, fun _ _ => rfl⟩
      | 1, _ => exact stepV rfl rfl (execMvB rfl ((hf 11 (by decide)).trans t11)) ⟨s, ⟨_, rfl, rfl⟩, hS, fun _ _ => rfl⟩
      | 2, _ => exact stepV rfl rfl (execLenI (len := n) rfl (hv 1 (by omega) _ rfl _ rfl) ⟨_, _, rfl⟩) ⟨s, ⟨_, rfl, rfl⟩, hS, fun _ _ => rfl⟩
      | 3, _ => exact stepV rfl rfl (execLtW (p := i) (q := n) rfl (hv 0 (by omega) _ rfl _ rfl) (hv 2 (by omega) _ rfl _ rfl)) ⟨s, ⟨_, rfl, rfl⟩, hS, fun _ _ => rfl⟩
      | k_ + 4, h_ => exact absurd h_ (by simp)
    rintro _ a X34 h1 h2 h3 h4 hS
    clear BB
    clear FK
    replace hS : Below V.heap.size V X34 ∧ (KpB V S gp cp gb cb l n X34) := hS
    obtain ⟨BB, FK⟩ := hS
    replace t10 := (h3 10 (by decide)).trans t10
    replace t11 := (h3 11 (by decide)).trans t11
    replace t13 := (h3 13 (by decide)).trans t13
    replace t16 := (h3 16 (by decide)).trans t16
    replace t19 := (h3 19 (by decide)).trans t19
    replace t21 := (h3 21 (by decide)).trans t21
    replace t23 := (h3 23 (by decide)).trans t23
    replace t24 := (h3 24 (by decide)).trans t24
    replace t29 := (h3 29 (by decide)).trans t29
    have t255 : a.eval (.tmp 255) = .bool (decide (i < n)) := h4 3 _ rfl _ rfl
    replace A := (⟨h1, h2.trans A.2⟩ : a.tmps.size = 309 ∧ a.defers = [])
    clear h1 h2 h3 h4
    by_cases hlt : i < n
    · rw [decide_eq_true hlt] at t255
      refine wp_cond_true t255 ?_
      refine wp_skip ?_
      clear t255
      refine wp_seq ?_
      refine wp_block ?_
      refine wp_region_sq (σ := Unit) 309 [(0, 258), (1, 259), (2, 260)] (fun j_ s X => match j_ with | 0 => Below V.heap.size V X ∧ (KpB V S gp cp gb cb l n X) | 1 => Below V.heap.size V X ∧ (KpB V S gp cp gb cb l n X) | 2 => Below V.heap.size V X ∧ (KpB V S gp cp gb cb l n X) | 3 => Below V.heap.size V X ∧ (KpB V S gp cp gb cb l n X) | _ => Below V.heap.size V X ∧ (KpB V S gp cp gb cb l n X)) (fun s => fun i_ => match i_ with | 0 => .slice (some ⟨gb, 0, none⟩) n cb | 1 => .int .i64 ((i : Nat) : Int) | 2 => .pointer (some ⟨gb, 0 + i, none⟩) | 3 => undef | _ => undef) () A.1 (by kernel_rfl) (by decide) (by decide) ⟨BB, FK⟩ ?_ ?_
      · intro i_ hi_ s a X hf hv hn hS
        match i_, hi_ with
        | 0, _ => exact stepV rfl rfl (execMvB rfl ((hf 11 (by decide)).trans t11)) ⟨s, ⟨_, rfl, rfl⟩, hS, fun _ _ => rfl⟩
        | 1, _ => exact stepV rfl rfl (execMvB rfl ((hf 29 (by decide)).trans t29)) ⟨s, ⟨_, rfl, rfl⟩, hS, fun _ _ => rfl⟩
        | 2, _ => exact stepV rfl rfl (execIdxN (k := i) rfl (hv 0 (by omega) _ rfl _ rfl) (hv 1 (by omega) _ rfl _ rfl) hlt) ⟨s, ⟨_, rfl, rfl⟩, hS, fun _ _ => rfl⟩
        | 3, _ =>
          obtain ⟨z_, hc_, hf_⟩ := hS.2.atB (j := i) (by omega)
          refine stepS rfl rfl (execStI9 rfl (hv 2 (by omega) _ rfl _ rfl) rfl hc_ hf_) ⟨s, ⟨_, rfl, rfl⟩, ⟨(hS.2.setB (j := i)).bel, hS.2.setB (j := i)⟩, fun i hi => ?_⟩
          match i, hi with
          | 0, _ => rfl
          | 1, _ => rfl
          | 2, _ => rfl
          | n_ + 3, h_ => omega
        | k_ + 4, h_ => exact absurd h_ (by simp)
      rintro _ a X36 h1 h2 h3 h4 hS
      clear BB
      clear FK
      replace hS : Below V.heap.size V X36 ∧ (KpB V S gp cp gb cb l n X36) := hS
      obtain ⟨BB, FK2⟩ := hS
      replace t10 := (h3 10 (by decide)).trans t10
      replace t11 := (h3 11 (by decide)).trans t11
      replace t13 := (h3 13 (by decide)).trans t13
      replace t16 := (h3 16 (by decide)).trans t16
      replace t19 := (h3 19 (by decide)).trans t19
      replace t21 := (h3 21 (by decide)).trans t21
      replace t23 := (h3 23 (by decide)).trans t23
      replace t24 := (h3 24 (by decide)).trans t24
      replace t29 := (h3 29 (by decide)).trans t29
      replace A := (⟨h1, h2.trans A.2⟩ : a.tmps.size = 309 ∧ a.defers = [])
      clear h1 h2 h3 h4
      refine wp_region_sq (σ := Unit) 309 [(0, 256), (1, 257), (2, 29)] (fun j_ s X => match j_ with | 0 => Below V.heap.size V X ∧ (KpB V S gp cp gb cb l n X) | 1 => Below V.heap.size V X ∧ (KpB V S gp cp gb cb l n X) | 2 => Below V.heap.size V X ∧ (KpB V S gp cp gb cb l n X) | _ => Below V.heap.size V X ∧ (KpB V S gp cp gb cb l n X)) (fun s => fun i_ => match i_ with | 0 => .int .i64 ((i : Nat) : Int) | 1 => .int .i64 ((i + 1 : Nat) : Int) | 2 => .int .i64 ((i + 1 : Nat) : Int) | _ => undef) () A.1 (by kernel_rfl) (by decide) (by decide) ⟨BB, FK2⟩ ?_ ?_
      · intro i_ hi_ s a X hf hv hn hS
        match i_, hi_ with
        | 0, _ => exact stepV rfl rfl (execMvB rfl ((hn 2 (by omega) _ rfl _ rfl).trans t29)) ⟨s, ⟨_, rfl, rfl⟩, hS, fun _ _ => rfl⟩
        | 1, _ => exact stepV rfl rfl (execAd8 (p := i) (q := 1) rfl (hv 0 (by omega) _ rfl _ rfl) rfl (by omega)) ⟨s, ⟨_, rfl, rfl⟩, hS, fun _ _ => rfl⟩
        | 2, _ => exact stepV rfl rfl (execAsgB rfl (hv 1 (by omega) _ rfl _ rfl)) ⟨s, ⟨_, rfl, rfl⟩, hS, fun _ _ => rfl⟩
        | k_ + 3, h_ => exact absurd h_ (by simp)
      rintro _ a X35 h1 h2 h3 h4 hS
      clear BB
      clear FK2
      replace hS : Below V.heap.size V X35 ∧ (KpB V S gp cp gb cb l n X35) := hS
      obtain ⟨BB, FK2⟩ := hS
      replace t10 := (h3 10 (by decide)).trans t10
      replace t11 := (h3 11 (by decide)).trans t11
      replace t13 := (h3 13 (by decide)).trans t13
      replace t16 := (h3 16 (by decide)).trans t16
      replace t19 := (h3 19 (by decide)).trans t19
      replace t21 := (h3 21 (by decide)).trans t21
      replace t23 := (h3 23 (by decide)).trans t23
      replace t24 := (h3 24 (by decide)).trans t24
      replace t29 : a.eval (.tmp 29) = .int .i64 ((i + 1 : Nat) : Int) := h4 2 _ rfl _ rfl
      replace A := (⟨h1, h2.trans A.2⟩ : a.tmps.size = 309 ∧ a.defers = [])
      clear h1 h2 h3 h4
      exact ⟨⟨i + 1, hlt, A, t10, t11, t13, t16, t19, t21, t23, t24, t29, BB, FK2⟩, by show n - (intOf (a.eval (.tmp 29))).toNat < n - (intOf (Act.eval _ (.tmp 29))).toNat; rw [t29, es]; show n - (i + 1) < n - i; omega⟩
    · rw [decide_eq_false hlt] at t255
      refine wp_cond_false t255 ?_
      refine wp_exit ?_
      first | refine exit_in ?_ | refine exit_then (exit_in ?_) | refine exit_then (exit_then (exit_in ?_))
      clear t255 t29 es hlt hi
      clear i
      obtain ⟨q, hq, hqb⟩ := FK.rp
      obtain ⟨f, hf, hfb⟩ := FK.rb
      have FP := own_pre hq hqb
      have FI := own_preI hf hfb
      replace FVb := sliceI_sv FVb FK.sav dVb
      replace FVk := sliceI_sv FVk FK.sav dVk
      replace FVy := sliceN_sv FVy FK.sav dVy
      have BW := BB
      have hpb := FP.bytes
      clear BB FK hq hf hqb hfb
      obtain ⟨ip, hip⟩ : ∃ ip : Value, ip = .slice (some ⟨gp, 0, none⟩) l cp := ⟨_, rfl⟩
      obtain ⟨ib, hib⟩ : ∃ ib : Value, ib = .slice (some ⟨gb, 0, none⟩) n cb := ⟨_, rfl⟩
      rw [← hip] at FP t10
      rw [← hib] at FI t11
      refine wp_seq ?_
      refine wp_region_sq (σ := Value) 309 [(0, 262), (1, 263), (2, 264), (3, 261), (4, 265), (5, 266), (6, 267), (7, 30), (8, 31), (9, 32)] (fun j_ s X => match j_ with | 0 => Below X34.heap.size X34 X | 1 => Below X34.heap.size X34 X | 2 => Below X34.heap.size X34 X | 3 => Below X34.heap.size X34 X ∧ (SliceI X s (allN q l f n) (fun i => (dA q l f i : Int))) | 4 => Below X34.heap.size X34 X ∧ (SliceI X s (allN q l f n) (fun i => (dA q l f i : Int))) | 5 => Below X34.heap.size X34 X ∧ (SliceI X s (allN q l f n) (fun i => (dA q l f i : Int))) | 6 => Below X34.heap.size X34 X ∧ (SliceI X s (allN q l f n) (fun i => (dA q l f i : Int))) | 7 => Below X34.heap.size X34 X ∧ (SliceI X s (allN q l f n) (fun i => (dA q l f i : Int))) | 8 => Below X34.heap.size X34 X ∧ (SliceI X s (allN q l f n) (fun i => (dA q l f i : Int))) | 9 => Below X34.heap.size X34 X ∧ (SliceI X s (allN q l f n) (fun i => (dA q l f i : Int))) | _ => Below X34.heap.size X34 X ∧ (SliceI X s (allN q l f n) (fun i => (dA q l f i : Int)))) (fun s => fun i_ => match i_ with | 0 => ip | 1 => ib | 2 => .tuple #[s, .int .i64 ((allK q l f n : Nat) : Int), .int .i64 ((allE q l f n : Nat) : Int)] | 3 => .tuple #[s, .int .i64 ((allK q l f n : Nat) : Int), .int .i64 ((allE q l f n : Nat) : Int)] | 4 => s | 5 => .int .i64 ((allK q l f n : Nat) : Int) | 6 => .int .i64 ((allE q l f n : Nat) : Int) | 7 => s | 8 => .int .i64 ((allK q l f n : Nat) : Int) | 9 => .int .i64 ((allE q l f n : Nat) : Int) | _ => undef) undef A.1 (by kernel_rfl) (by decide) (by decide) (Below.refl _ _) ?_ ?_
      · intro i_ hi_ s a X hf hv hn hS
        match i_, hi_ with
        | 0, _ => exact stepV rfl rfl (execMvB rfl ((hf 10 (by decide)).trans t10)) ⟨s, ⟨_, rfl, rfl⟩, hS, fun _ _ => rfl⟩
        | 1, _ => exact stepV rfl rfl (execMvB rfl ((hf 11 (by decide)).trans t11)) ⟨s, ⟨_, rfl, rfl⟩, hS, fun _ _ => rfl⟩
        | 2, _ =>
          refine stepC rfl rfl (execCall2 Try.func16 (by kernel_rfl) (by kernel_rfl) rfl (hv 0 (by omega) _ rfl _ rfl) (hv 1 (by omega) _ rfl _ rfl)) (rall_any q l f n _ _ X (FP.on hS) (by omega) (FI.on hS) (by omega)) fun e w' hh => ?_
          obtain ⟨r_, he, hk, hb⟩ := hh
          refine ⟨_, he, r_, ⟨_, rfl, rfl⟩, ⟨(hS).trans ((hb).mono (hS).size), own_ints hk (dA_fits _ _ _ _)⟩, fun i hi => ?_⟩
          match i, hi with
          | 0, _ => rfl
          | 1, _ => rfl
          | n_ + 2, h_ => omega
        | 3, _ => exact stepV rfl rfl (execMvB rfl (hv 2 (by omega) _ rfl _ rfl)) ⟨s, ⟨_, rfl, rfl⟩, hS, fun _ _ => rfl⟩
        | 4, _ => exact stepV rfl rfl (execExtT rfl (hv 3 (by omega) _ rfl _ rfl) rfl) ⟨s, ⟨_, rfl, rfl⟩, hS, fun _ _ => rfl⟩
        | 5, _ => exact stepV rfl rfl (execExtT rfl (hv 3 (by omega) _ rfl _ rfl) rfl) ⟨s, ⟨_, rfl, rfl⟩, hS, fun _ _ => rfl⟩
        | 6, _ => exact stepV rfl rfl (execExtT rfl (hv 3 (by omega) _ rfl _ rfl) rfl) ⟨s, ⟨_, rfl, rfl⟩, hS, fun _ _ => rfl⟩
        | 7, _ => exact stepV rfl rfl (execAsgB rfl (hv 4 (by omega) _ rfl _ rfl)) ⟨s, ⟨_, rfl, rfl⟩, hS, fun _ _ => rfl⟩
        | 8, _ => exact stepV rfl rfl (execAsgB rfl (hv 5 (by omega) _ rfl _ rfl)) ⟨s, ⟨_, rfl, rfl⟩, hS, fun _ _ => rfl⟩
        | 9, _ => exact stepV rfl rfl (execAsgB rfl (hv 6 (by omega) _ rfl _ rfl)) ⟨s, ⟨_, rfl, rfl⟩, hS, fun _ _ => rfl⟩
        | k_ + 10, h_ => exact absurd h_ (by simp)
      rintro v264 a X37 h1 h2 h3 h4 hS
      replace hS : Below X34.heap.size X34 X37 ∧ (SliceI X37 v264 (allN q l f n) (fun i => (dA q l f i : Int))) := hS
      obtain ⟨bX, Fv264⟩ := hS
      replace t10 := (h3 10 (by decide)).trans t10
      replace t11 := (h3 11 (by decide)).trans t11
      replace t13 := (h3 13 (by decide)).trans t13
      replace t16 := (h3 16 (by decide)).trans t16
      replace t19 := (h3 19 (by decide)).trans t19
      replace t21 := (h3 21 (by decide)).trans t21
      replace t23 := (h3 23 (by decide)).trans t23
      replace t24 := (h3 24 (by decide)).trans t24
      have t30 : a.eval (.tmp 30) = v264 := h4 7 _ rfl _ rfl
      have t31 : a.eval (.tmp 31) = .int .i64 ((allK q l f n : Nat) : Int) := h4 8 _ rfl _ rfl
      have t32 : a.eval (.tmp 32) = .int .i64 ((allE q l f n : Nat) : Int) := h4 9 _ rfl _ rfl
      replace FP := (FP.on bX)
      replace FI := (FI.on bX)
      replace FVb := (FVb.on bX)
      replace FVk := (FVk.on bX)
      replace FVy := (FVy.on bX)
      have ZX37 := bX.size
      replace BW := BW.trans (bX.mono BW.size)
      clear bX
      replace A := (⟨h1, h2.trans A.2⟩ : a.tmps.size = 309 ∧ a.defers = [])
      clear h1 h2 h3 h4
      refine wp_seq ?_
      refine wp_region_sq (σ := Value) 309 [(0, 269), (1, 270), (2, 271), (3, 268), (4, 272), (5, 273), (6, 274), (7, 33), (8, 34), (9, 35)] (fun j_ s X => match j_ with | 0 => Below X37.heap.size X37 X | 1 => Below X37.heap.size X37 X | 2 => Below X37.heap.size X37 X | 3 => Below X37.heap.size X37 X ∧ (SliceI X s (allN q l f n) (fun i => (dA q l f i : Int))) ∧ (∀ l_ c_, s = .slice none l_ c_ → c_ = 0) | 4 => Below X37.heap.size X37 X ∧ (SliceI X s (allN q l f n) (fun i => (dA q l f i : Int))) ∧ (∀ l_ c_, s = .slice none l_ c_ → c_ = 0) | 5 => Below X37.heap.size X37 X ∧ (SliceI X s (allN q l f n) (fun i => (dA q l f i : Int))) ∧ (∀ l_ c_, s = .slice none l_ c_ → c_ = 0) | 6 => Below X37.heap.size X37 X ∧ (SliceI X s (allN q l f n) (fun i => (dA q l f i : Int))) ∧ (∀ l_ c_, s = .slice none l_ c_ → c_ = 0) | 7 => Below X37.heap.size X37 X ∧ (SliceI X s (allN q l f n) (fun i => (dA q l f i : Int))) ∧ (∀ l_ c_, s = .slice none l_ c_ → c_ = 0) | 8 => Below X37.heap.size X37 X ∧ (SliceI X s (allN q l f n) (fun i => (dA q l f i : Int))) ∧ (∀ l_ c_, s = .slice none l_ c_ → c_ = 0) | 9 => Below X37.heap.size X37 X ∧ (SliceI X s (allN q l f n) (fun i => (dA q l f i : Int))) ∧ (∀ l_ c_, s = .slice none l_ c_ → c_ = 0) | _ => Below X37.heap.size X37 X ∧ (SliceI X s (allN q l f n) (fun i => (dA q l f i : Int))) ∧ (∀ l_ c_, s = .slice none l_ c_ → c_ = 0)) (fun s => fun i_ => match i_ with | 0 => ip | 1 => ib | 2 => .tuple #[s, .int .i64 ((allK q l f n : Nat) : Int), .int .i64 ((allE q l f n : Nat) : Int)] | 3 => .tuple #[s, .int .i64 ((allK q l f n : Nat) : Int), .int .i64 ((allE q l f n : Nat) : Int)] | 4 => s | 5 => .int .i64 ((allK q l f n : Nat) : Int) | 6 => .int .i64 ((allE q l f n : Nat) : Int) | 7 => s | 8 => .int .i64 ((allK q l f n : Nat) : Int) | 9 => .int .i64 ((allE q l f n : Nat) : Int) | _ => undef) undef A.1 (by kernel_rfl) (by decide) (by decide) (Below.refl _ _) ?_ ?_
      · intro i_ hi_ s a X hf hv hn hS
        match i_, hi_ with
        | 0, _ => exact stepV rfl rfl (execMvB rfl ((hf 10 (by decide)).trans t10)) ⟨s, ⟨_, rfl, rfl⟩, hS, fun _ _ => rfl⟩
        | 1, _ => exact stepV rfl rfl (execMvB rfl ((hf 11 (by decide)).trans t11)) ⟨s, ⟨_, rfl, rfl⟩, hS, fun _ _ => rfl⟩
        | 2, _ =>
          refine stepC rfl rfl (execCall2 Try.func17 (by kernel_rfl) (by kernel_rfl) rfl (hv 0 (by omega) _ rfl _ rfl) (hv 1 (by omega) _ rfl _ rfl)) (I.all q l f n _ _ X (FP.on hS) (by omega) (FI.on hS) (by omega)) fun e w' hh => ?_
          obtain ⟨r_, he, hk, hb⟩ := hh
          refine ⟨_, he, r_, ⟨_, rfl, rfl⟩, ⟨(hS).trans ((hb).mono (hS).size), own_ints hk (dA_fits _ _ _ _), own_nilI hk⟩, fun i hi => ?_⟩
          match i, hi with
          | 0, _ => rfl
          | 1, _ => rfl
          | n_ + 2, h_ => omega
        | 3, _ => exact stepV rfl rfl (execMvB rfl (hv 2 (by omega) _ rfl _ rfl)) ⟨s, ⟨_, rfl, rfl⟩, hS, fun _ _ => rfl⟩
        | 4, _ => exact stepV rfl rfl (execExtT rfl (hv 3 (by omega) _ rfl _ rfl) rfl) ⟨s, ⟨_, rfl, rfl⟩, hS, fun _ _ => rfl⟩
        | 5, _ => exact stepV rfl rfl (execExtT rfl (hv 3 (by omega) _ rfl _ rfl) rfl) ⟨s, ⟨_, rfl, rfl⟩, hS, fun _ _ => rfl⟩
        | 6, _ => exact stepV rfl rfl (execExtT rfl (hv 3 (by omega) _ rfl _ rfl) rfl) ⟨s, ⟨_, rfl, rfl⟩, hS, fun _ _ => rfl⟩
        | 7, _ => exact stepV rfl rfl (execAsgB rfl (hv 4 (by omega) _ rfl _ rfl)) ⟨s, ⟨_, rfl, rfl⟩, hS, fun _ _ => rfl⟩
        | 8, _ => exact stepV rfl rfl (execAsgB rfl (hv 5 (by omega) _ rfl _ rfl)) ⟨s, ⟨_, rfl, rfl⟩, hS, fun _ _ => rfl⟩
        | 9, _ => exact stepV rfl rfl (execAsgB rfl (hv 6 (by omega) _ rfl _ rfl)) ⟨s, ⟨_, rfl, rfl⟩, hS, fun _ _ => rfl⟩
        | k_ + 10, h_ => exact absurd h_ (by simp)
      rintro v271 a X38 h1 h2 h3 h4 hS
      replace hS : Below X37.heap.size X37 X38 ∧ (SliceI X38 v271 (allN q l f n) (fun i => (dA q l f i : Int))) ∧ (∀ l_ c_, v271 = .slice none l_ c_ → c_ = 0) := hS
      obtain ⟨bX, Fv271, Kv271⟩ := hS
      replace t13 := (h3 13 (by decide)).trans t13
      replace t16 := (h3 16 (by decide)).trans t16
      replace t19 := (h3 19 (by decide)).trans t19
      replace t21 := (h3 21 (by decide)).trans t21
      replace t23 := (h3 23 (by decide)).trans t23
      replace t24 := (h3 24 (by decide)).trans t24
      replace t30 := (h3 30 (by decide)).trans t30
      replace t31 := (h3 31 (by decide)).trans t31
      replace t32 := (h3 32 (by decide)).trans t32
      have t33 : a.eval (.tmp 33) = v271 := h4 7 _ rfl _ rfl
      have t34 : a.eval (.tmp 34) = .int .i64 ((allK q l f n : Nat) : Int) := h4 8 _ rfl _ rfl
      have t35 : a.eval (.tmp 35) = .int .i64 ((allE q l f n : Nat) : Int) := h4 9 _ rfl _ rfl
      replace FP := (FP.on bX)
      replace FI := (FI.on bX)
      replace FVb := (FVb.on bX)
      replace FVk := (FVk.on bX)
      replace FVy := (FVy.on bX)
      replace Fv264 := (Fv264.on bX)
      have ZX38 := bX.size
      replace BW := BW.trans (bX.mono BW.size)
      clear bX
      replace A := (⟨h1, h2.trans A.2⟩ : a.tmps.size = 309 ∧ a.defers = [])
      clear h1 h2 h3 h4
      clear t10 t11
      refine wp_seq ?_
      refine wp_region_sq (σ := Unit) 309 [(0, 275), (1, 276), (2, 277), (3, 278), (4, 279), (5, 280), (6, 281), (7, 282), (8, 283), (9, 284), (10, 285), (11, 286), (12, 287), (13, 288), (14, 289), (15, 290), (16, 291), (17, 292), (18, 293), (19, 294), (20, 295), (21, 296), (22, 297), (23, 298), (24, 299), (25, 300), (26, 301), (27, 302), (28, 303), (29, 304), (30, 305), (31, 306), (32, 307), (33, 308), (34, 6)] (fun j_ s X => match j_ with | 0 => Below X38.heap.size X38 X | 1 => Below X38.heap.size X38 X | 2 => Below X38.heap.size X38 X | 3 => Below X38.heap.size X38 X | 4 => Below X38.heap.size X38 X | 5 => Below X38.heap.size X38 X | 6 => Below X38.heap.size X38 X | 7 => Below X38.heap.size X38 X | 8 => Below X38.heap.size X38 X | 9 => Below X38.heap.size X38 X | 10 => Below X38.heap.size X38 X | 11 => Below X38.heap.size X38 X | 12 => Below X38.heap.size X38 X | 13 => Below X38.heap.size X38 X | 14 => Below X38.heap.size X38 X | 15 => Below X38.heap.size X38 X | 16 => Below X38.heap.size X38 X | 17 => Below X38.heap.size X38 X | 18 => Below X38.heap.size X38 X | 19 => Below X38.heap.size X38 X | 20 => Below X38.heap.size X38 X | 21 => Below X38.heap.size X38 X | 22 => Below X38.heap.size X38 X | 23 => Below X38.heap.size X38 X | 24 => Below X38.heap.size X38 X | 25 => Below X38.heap.size X38 X | 26 => Below X38.heap.size X38 X | 27 => Below X38.heap.size X38 X | 28 => Below X38.heap.size X38 X | 29 => Below X38.heap.size X38 X | 30 => Below X38.heap.size X38 X | 31 => Below X38.heap.size X38 X | 32 => Below X38.heap.size X38 X | 33 => Below X38.heap.size X38 X | 34 => Below X38.heap.size X38 X | _ => Below X38.heap.size X38 X) (fun s => fun i_ => match i_ with | 0 => vb | 1 => vk | 2 => .bool true | 3 => .bool true | 4 => vy | 5 => .string (strN (qy) (ny)) | 6 => .string (strN (qy) (ny)) | 7 => .bool true | 8 => .bool true | 9 => .bool true | 10 => v271 | 11 => v264 | 12 => .bool true | 13 => .bool true | 14 => .bool true | 15 => .int .i64 ((allK q l f n : Nat) : Int) | 16 => .int .i64 ((allK q l f n : Nat) : Int) | 17 => .bool true | 18 => .bool true | 19 => .bool true | 20 => .int .i64 ((allE q l f n : Nat) : Int) | 21 => .int .i64 ((allE q l f n : Nat) : Int) | 22 => .bool true | 23 => .bool true | 24 => .bool true | 25 => va | 26 => .int .i64 ((na : Nat) : Int) | 27 => .bool true | 28 => .bool true | 29 => .bool true | 30 => vx | 31 => .int .i64 ((nx : Nat) : Int) | 32 => .bool true | 33 => .bool true | 34 => .bool true | _ => undef) () A.1 (by kernel_rfl) (by decide) (by decide) (Below.refl _ _) ?_ ?_
      · intro i_ hi_ s a X hf hv hn hS
        match i_, hi_ with
        | 0, _ => exact stepV rfl rfl (execMvB rfl ((hf 16 (by decide)).trans t16)) ⟨s, ⟨_, rfl, rfl⟩, hS, fun _ _ => rfl⟩
        | 1, _ => exact stepV rfl rfl (execMvB rfl ((hf 23 (by decide)).trans t23)) ⟨s, ⟨_, rfl, rfl⟩, hS, fun _ _ => rfl⟩
        | 2, _ => exact stepC rfl rfl (execCall2 Try.func18 (by kernel_rfl) (by kernel_rfl) rfl (hv 0 (by omega) _ rfl _ rfl) (hv 1 (by omega) _ rfl _ rfl)) (sameI _ _ (nb) _ _ X (FVb.on hS) (FVk.on hS) (by intro i hi; rfl) (by have := allN_le q l f n; omega)) fun e w' hh => ⟨_, hh.1, s, ⟨_, rfl, rfl⟩, (hS).trans ((hh.2).mono (hS).size), fun _ _ => rfl⟩
        | 3, _ => exact stepV rfl rfl (execMvB rfl (hv 2 (by omega) _ rfl _ rfl)) ⟨s, ⟨_, rfl, rfl⟩, hS, fun _ _ => rfl⟩
        | 4, _ => exact stepV rfl (wantedOf rfl (yieldedAt rfl rfl (show a.eval (.tmp 278) = .bool true from (hv 3 (by omega) _ rfl _ rfl)))) (execMvB rfl ((hf 21 (by decide)).trans t21)) ⟨s, ⟨_, rfl, rfl⟩, hS, fun _ _ => rfl⟩
        | 5, _ => exact stepV rfl (wantedOf rfl (yieldedAt rfl rfl (show a.eval (.tmp 278) = .bool true from (hv 3 (by omega) _ rfl _ rfl)))) (By8.execStr rfl (hv 4 (by omega) _ rfl _ rfl) (FVy.on hS)) ⟨s, ⟨_, rfl, rfl⟩, hS, fun _ _ => rfl⟩
        | 6, _ => exact stepV rfl (wantedOf rfl (yieldedAt rfl rfl (show a.eval (.tmp 278) = .bool true from (hv 3 (by omega) _ rfl _ rfl)))) (execMvB rfl ((hf 24 (by decide)).trans t24)) ⟨s, ⟨_, rfl, rfl⟩, hS, fun _ _ => rfl⟩
        | 7, _ => exact stepV rfl (wantedOf rfl (yieldedAt rfl rfl (show a.eval (.tmp 278) = .bool true from (hv 3 (by omega) _ rfl _ rfl)))) (By8.execEqlS rfl (hv 5 (by omega) _ rfl _ rfl) (hv 6 (by omega) _ rfl _ rfl)) ⟨s, ⟨_, rfl, rfl⟩, hS, fun _ _ => rfl⟩
        | 8, _ => exact stepV rfl rfl (execPickT rfl (hv 3 (by omega) _ rfl _ rfl) (hv 7 (by omega) _ rfl _ rfl)) ⟨s, ⟨_, rfl, rfl⟩, hS, fun _ _ => rfl⟩
        | 9, _ => exact stepV rfl rfl (execMvB rfl (hv 8 (by omega) _ rfl _ rfl)) ⟨s, ⟨_, rfl, rfl⟩, hS, fun _ _ => rfl⟩
        | 10, _ => exact stepV rfl (wantedOf rfl (yieldedAt rfl rfl (show a.eval (.tmp 284) = .bool true from (hv 9 (by omega) _ rfl _ rfl)))) (execMvB rfl ((hf 33 (by decide)).trans t33)) ⟨s, ⟨_, rfl, rfl⟩, hS, fun _ _ => rfl⟩
        | 11, _ => exact stepV rfl (wantedOf rfl (yieldedAt rfl rfl (show a.eval (.tmp 284) = .bool true from (hv 9 (by omega) _ rfl _ rfl)))) (execMvB rfl ((hf 30 (by decide)).trans t30)) ⟨s, ⟨_, rfl, rfl⟩, hS, fun _ _ => rfl⟩
        | 12, _ => exact stepC rfl (wantedOf rfl (yieldedAt rfl rfl (show a.eval (.tmp 284) = .bool true from (hv 9 (by omega) _ rfl _ rfl)))) (execCall2 Try.func18 (by kernel_rfl) (by kernel_rfl) rfl (hv 10 (by omega) _ rfl _ rfl) (hv 11 (by omega) _ rfl _ rfl)) (sameI _ _ (allN q l f n) _ _ X (Fv271.on hS) (Fv264.on hS) (by intro i hi; rfl) (by have := allN_le q l f n; omega)) fun e w' hh => ⟨_, hh.1, s, ⟨_, rfl, rfl⟩, (hS).trans ((hh.2).mono (hS).size), fun _ _ => rfl⟩
        | 13, _ => exact stepV rfl rfl (execPickT rfl (hv 9 (by omega) _ rfl _ rfl) (hv 12 (by omega) _ rfl _ rfl)) ⟨s, ⟨_, rfl, rfl⟩, hS, fun _ _ => rfl⟩
        | 14, _ => exact stepV rfl rfl (execMvB rfl (hv 13 (by omega) _ rfl _ rfl)) ⟨s, ⟨_, rfl, rfl⟩, hS, fun _ _ => rfl⟩
        | 15, _ => exact stepV rfl (wantedOf rfl (yieldedAt rfl rfl (show a.eval (.tmp 289) = .bool true from (hv 14 (by omega) _ rfl _ rfl)))) (execMvB rfl ((hf 34 (by decide)).trans t34)) ⟨s, ⟨_, rfl, rfl⟩, hS, fun _ _ => rfl⟩
        | 16, _ => exact stepV rfl (wantedOf rfl (yieldedAt rfl rfl (show a.eval (.tmp 289) = .bool true from (hv 14 (by omega) _ rfl _ rfl)))) (execMvB rfl ((hf 31 (by decide)).trans t31)) ⟨s, ⟨_, rfl, rfl⟩, hS, fun _ _ => rfl⟩
        | 17, _ => exact stepV rfl (wantedOf rfl (yieldedAt rfl rfl (show a.eval (.tmp 289) = .bool true from (hv 14 (by omega) _ rfl _ rfl)))) (execDec (execEqN (p := allK q l f n) (q := allK q l f n) rfl (hv 15 (by omega) _ rfl _ rfl) (hv 16 (by omega) _ rfl _ rfl)) (decide_eq_true (by rfl))) ⟨s, ⟨_, rfl, rfl⟩, hS, fun _ _ => rfl⟩
        | 18, _ => exact stepV rfl rfl (execPickT rfl (hv 14 (by omega) _ rfl _ rfl) (hv 17 (by omega) _ rfl _ rfl)) ⟨s, ⟨_, rfl, rfl⟩, hS, fun _ _ => rfl⟩
        | 19, _ => exact stepV rfl rfl (execMvB rfl (hv 18 (by omega) _ rfl _ rfl)) ⟨s, ⟨_, rfl, rfl⟩, hS, fun _ _ => rfl⟩
        | 20, _ => exact stepV rfl (wantedOf rfl (yieldedAt rfl rfl (show a.eval (.tmp 294) = .bool true from (hv 19 (by omega) _ rfl _ rfl)))) (execMvB rfl ((hf 35 (by decide)).trans t35)) ⟨s, ⟨_, rfl, rfl⟩, hS, fun _ _ => rfl⟩
        | 21, _ => exact stepV rfl (wantedOf rfl (yieldedAt rfl rfl (show a.eval (.tmp 294) = .bool true from (hv 19 (by omega) _ rfl _ rfl)))) (execMvB rfl ((hf 32 (by decide)).trans t32)) ⟨s, ⟨_, rfl, rfl⟩, hS, fun _ _ => rfl⟩
        | 22, _ => exact stepV rfl (wantedOf rfl (yieldedAt rfl rfl (show a.eval (.tmp 294) = .bool true from (hv 19 (by omega) _ rfl _ rfl)))) (execDec (execEqN (p := allE q l f n) (q := allE q l f n) rfl (hv 20 (by omega) _ rfl _ rfl) (hv 21 (by omega) _ rfl _ rfl)) (decide_eq_true (by rfl))) ⟨s, ⟨_, rfl, rfl⟩, hS, fun _ _ => rfl⟩
        | 23, _ => exact stepV rfl rfl (execPickT rfl (hv 19 (by omega) _ rfl _ rfl) (hv 22 (by omega) _ rfl _ rfl)) ⟨s, ⟨_, rfl, rfl⟩, hS, fun _ _ => rfl⟩
        | 24, _ => exact stepV rfl rfl (execMvB rfl (hv 23 (by omega) _ rfl _ rfl)) ⟨s, ⟨_, rfl, rfl⟩, hS, fun _ _ => rfl⟩
        | 25, _ => exact stepV rfl (wantedOf rfl (yieldedAt rfl rfl (show a.eval (.tmp 299) = .bool true from (hv 24 (by omega) _ rfl _ rfl)))) (execMvB rfl ((hf 13 (by decide)).trans t13)) ⟨s, ⟨_, rfl, rfl⟩, hS, fun _ _ => rfl⟩
        | 26, _ => exact stepV rfl (wantedOf rfl (yieldedAt rfl rfl (show a.eval (.tmp 299) = .bool true from (hv 24 (by omega) _ rfl _ rfl)))) (execLenI (len := na) rfl (hv 25 (by omega) _ rfl _ rfl) hsa) ⟨s, ⟨_, rfl, rfl⟩, hS, fun _ _ => rfl⟩
        | 27, _ => exact stepV rfl (wantedOf rfl (yieldedAt rfl rfl (show a.eval (.tmp 299) = .bool true from (hv 24 (by omega) _ rfl _ rfl)))) (execDec (execGe8 (p := na) (q := 20) rfl (hv 26 (by omega) _ rfl _ rfl) rfl) (decide_eq_true (by omega))) ⟨s, ⟨_, rfl, rfl⟩, hS, fun _ _ => rfl⟩
        | 28, _ => exact stepV rfl rfl (execPickT rfl (hv 24 (by omega) _ rfl _ rfl) (hv 27 (by omega) _ rfl _ rfl)) ⟨s, ⟨_, rfl, rfl⟩, hS, fun _ _ => rfl⟩
        | 29, _ => exact stepV rfl rfl (execMvB rfl (hv 28 (by omega) _ rfl _ rfl)) ⟨s, ⟨_, rfl, rfl⟩, hS, fun _ _ => rfl⟩
        | 30, _ => exact stepV rfl (wantedOf rfl (yieldedAt rfl rfl (show a.eval (.tmp 304) = .bool true from (hv 29 (by omega) _ rfl _ rfl)))) (execMvB rfl ((hf 19 (by decide)).trans t19)) ⟨s, ⟨_, rfl, rfl⟩, hS, fun _ _ => rfl⟩
        | 31, _ => exact stepV rfl (wantedOf rfl (yieldedAt rfl rfl (show a.eval (.tmp 304) = .bool true from (hv 29 (by omega) _ rfl _ rfl)))) (execLenV (len := nx) rfl (hv 30 (by omega) _ rfl _ rfl) hsx) ⟨s, ⟨_, rfl, rfl⟩, hS, fun _ _ => rfl⟩
        | 32, _ => exact stepV rfl (wantedOf rfl (yieldedAt rfl rfl (show a.eval (.tmp 304) = .bool true from (hv 29 (by omega) _ rfl _ rfl)))) (execDec (execGe8 (p := nx) (q := 20) rfl (hv 31 (by omega) _ rfl _ rfl) rfl) (decide_eq_true (by omega))) ⟨s, ⟨_, rfl, rfl⟩, hS, fun _ _ => rfl⟩
        | 33, _ => exact stepV rfl rfl (execPickT rfl (hv 29 (by omega) _ rfl _ rfl) (hv 32 (by omega) _ rfl _ rfl)) ⟨s, ⟨_, rfl, rfl⟩, hS, fun _ _ => rfl⟩
        | 34, _ => exact stepV rfl rfl (execAsgB rfl (hv 33 (by omega) _ rfl _ rfl)) ⟨s, ⟨_, rfl, rfl⟩, hS, fun _ _ => rfl⟩
        | k_ + 35, h_ => exact absurd h_ (by simp)
      rintro _ a X39 h1 h2 h3 h4 hS
      replace hS : Below X38.heap.size X38 X39 := hS
      have bX := hS
      clear hS
      have t6 : a.eval (.tmp 6) = .bool true := h4 34 _ rfl _ rfl
      replace FP := (FP.on bX)
      replace FI := (FI.on bX)
      replace FVb := (FVb.on bX)
      replace FVk := (FVk.on bX)
      replace FVy := (FVy.on bX)
      replace Fv264 := (Fv264.on bX)
      replace Fv271 := (Fv271.on bX)
      replace Kv271 := Kv271
      have ZX39 := bX.size
      replace BW := BW.trans (bX.mono BW.size)
      clear bX
      replace A := (⟨h1, h2.trans A.2⟩ : a.tmps.size = 309 ∧ a.defers = [])
      clear h1 h2 h3 h4
      clear t13 t16 t19 t21 t23 t24 t30 t31 t32 t33 t34 t35
      refine wp_ret ?_
      refine bodyPost_ret (results_tmp rfl _ _ _) A.2 ⟨?_, BW⟩
      show Ending.returned (a.eval (.tmp 6)) = _
      rw [t6]
end Go.Proofs.Ytpclecbhfjalnaa.Drw
