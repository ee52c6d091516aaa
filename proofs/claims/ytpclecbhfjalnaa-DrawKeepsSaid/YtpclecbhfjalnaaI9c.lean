import Derived.Test.YtpclecbhfjalnaaI9b
namespace Go.Proofs.Ytpclecbhfjalnaa.Drw
open Go.RowKit Gf8 Aes By8 Cel Cf Tap
/- DrawKeeps: a and x are written over and appended to. Written by tools/mkI9c.py. -/

section
variable {V S W : World} {a0 x0 va vx : Value} {na nx : Nat}
theorem KpA.atA' {g c j : Nat} (h : KpA V S a0 x0 W va na vx nx) (e : va = .slice (some ⟨g, 0, none⟩) na c) (hj : j < na) : ∃ z, W.cell? ⟨g, 0 + j, none⟩ = some (.int .i64 z) ∧ W.frozen? ⟨g, 0 + j, none⟩ = false := by
  rw [e] at h
  exact h.atA hj
theorem KpA.atX' {g c j : Nat} (h : KpA V S a0 x0 W va na vx nx) (e : vx = .slice (some ⟨g, 0, none⟩) nx c) (hj : j < nx) : ∃ z : Nat, z < 256 ∧ W.cell? ⟨g, 0 + j, none⟩ = some (.int .u8 ((z : Nat) : Int)) ∧ W.frozen? ⟨g, 0 + j, none⟩ = false := by
  rw [e] at h
  exact h.atX hj
theorem KpA.setA' {g c j : Nat} (h : KpA V S a0 x0 W va na vx nx) (e : va = .slice (some ⟨g, 0, none⟩) na c) (z : Int) : KpA V S a0 x0 (W.setCell ⟨g, 0 + j, none⟩ (.int .i64 z)) va na vx nx := by
  rw [e] at h ⊢
  exact h.setA z
theorem KpA.setX' {g c j z : Nat} (h : KpA V S a0 x0 W va na vx nx) (e : vx = .slice (some ⟨g, 0, none⟩) nx c) (hz : z < 256) : KpA V S a0 x0 (W.setCell ⟨g, 0 + j, none⟩ (.int .u8 ((z : Nat) : Int))) va na vx nx := by
  rw [e] at h ⊢
  exact h.setX hz
end
set_option maxRecDepth 100000 in
set_option maxHeartbeats 4000000 in
theorem keepsA (I : Impl) (V S : World) (p : Nat → Nat) (l : Nat) (pv : Value) (hpv : SliceN V pv l p) (hl : l ≤ 140737488351232) (n : Nat) (hn : n ≤ 17592186043904) (gp cp gb cb : Nat) (fp : Nat → Nat) (fb : Nat → Int) (ip ib : Value) (hip : ip = .slice (some ⟨gp, 0, none⟩) l cp) (hib : ib = .slice (some ⟨gb, 0, none⟩) n cb)
    (BB : Below V.heap.size V S) (FP : S.ownsRow V.heap.size 5 1 (.slice (some ⟨gp, 0, none⟩) (l + 2) cp) (l + 2) (bytesL (l + 2) fp)) (hfp : ∀ j, j < l + 2 → fp j < 256) (hpp : ∀ j, j < l → fp j = p j)
    (FB : S.ownsRow V.heap.size 3 1 (.slice (some ⟨gb, 0, none⟩) (n + 2) cb) (n + 2) (intsL (n + 2) fb)) (hfb : ∀ j, j < n + 2 → -9223372036854775808 ≤ fb j ∧ fb j < 9223372036854775808)
    (a0 x0 vb vk vy : Value) (na nb nx : Nat) (fa : Nat → Int) (qy : Nat → Nat) (hna : na ≤ 17592186043904) (hnb : nb ≤ 17592186043904) (hnx : nx ≤ 140737488351232) (FK : KpA V S a0 x0 S a0 na x0 nx)
    (FVb : SliceI S vb nb fa) (FVk : SliceI S vk nb fa) (FVy : SliceN S vy nx qy) (dP : ¬ KGa a0 x0 gp) (dB : ¬ KGa a0 x0 gb) (dVb : ∀ k, vb.ownBlock = some k → ¬ KGa a0 x0 k ∧ ¬ (k = gp ∨ k = gb)) (dVk : ∀ k, vk.ownBlock = some k → ¬ KGa a0 x0 k ∧ ¬ (k = gp ∨ k = gb)) (dVy : ∀ k, vy.ownBlock = some k → ¬ KGa a0 x0 k ∧ ¬ (k = gp ∨ k = gb))
    (a : Act) (A : a.tmps.size = 309 ∧ a.defers = []) (t0 : a.eval (.tmp 0) = pv) (t10 : a.eval (.tmp 10) = ip) (t11 : a.eval (.tmp 11) = ib) (t13 : a.eval (.tmp 13) = a0) (t16 : a.eval (.tmp 16) = vb) (t19 : a.eval (.tmp 19) = x0) (t21 : a.eval (.tmp 21) = vy) (t23 : a.eval (.tmp 23) = vk) (t24 : a.eval (.tmp 24) = .string (strN (qy) (nx))) :
    (findR 14 (Try.f8.body.getD .skip)).wp Try.prog (bodyPost Try.prog Try.f8 fun e w' => e = .returned (.bool true) ∧ Below V.heap.size V w') a S := by
  have hsa := FK.shA
  have hsx := FK.shX
  refine wp_seq ?_
  refine wp_seq ?_
  refine wp_region_sq (σ := Unit) 309 [(0, 25)] (fun j_ s X => match j_ with | 0 => Below V.heap.size V X ∧ (KpA V S a0 x0 X a0 na x0 nx) | _ => Below V.heap.size V X ∧ (KpA V S a0 x0 X a0 na x0 nx)) (fun s => fun i_ => match i_ with | 0 => .int .i64 ((0 : Nat) : Int) | _ => undef) () A.1 (by kernel_rfl) (by decide) (by decide) ⟨BB, FK⟩ ?_ ?_
  · intro i_ hi_ s a X hf hv hn hS
    match i_, hi_ with
    | 0, _ => exact stepV rfl rfl (execAsgB rfl rfl) ⟨s, ⟨_, rfl, rfl⟩, hS, fun _ _ => rfl⟩
    | k_ + 1, h_ => exact absurd h_ (by simp)
  rintro _ a X14 h1 h2 h3 h4 hS
  clear BB
  clear FK
  replace hS : Below V.heap.size V X14 ∧ (KpA V S a0 x0 X14 a0 na x0 nx) := hS
  obtain ⟨BB, FK⟩ := hS
  replace t0 := (h3 0 (by decide)).trans t0
  replace t10 := (h3 10 (by decide)).trans t10
  replace t11 := (h3 11 (by decide)).trans t11
  replace t13 := (h3 13 (by decide)).trans t13
  replace t16 := (h3 16 (by decide)).trans t16
  replace t19 := (h3 19 (by decide)).trans t19
  replace t21 := (h3 21 (by decide)).trans t21
  replace t23 := (h3 23 (by decide)).trans t23
  replace t24 := (h3 24 (by decide)).trans t24
  have t25 : a.eval (.tmp 25) = .int .i64 ((0 : Nat) : Int) := h4 0 _ rfl _ rfl
  replace A := (⟨h1, h2.trans A.2⟩ : a.tmps.size = 309 ∧ a.defers = [])
  clear h1 h2 h3 h4
  refine wp_block ?_
  refine wp_loop (fun a W => ∃ i : Nat, i ≤ na ∧ (a.tmps.size = 309 ∧ a.defers = []) ∧ a.eval (.tmp 0) = pv ∧ a.eval (.tmp 10) = ip ∧ a.eval (.tmp 11) = ib ∧ a.eval (.tmp 13) = a0 ∧ a.eval (.tmp 16) = vb ∧ a.eval (.tmp 19) = x0 ∧ a.eval (.tmp 21) = vy ∧ a.eval (.tmp 23) = vk ∧ a.eval (.tmp 24) = .string (strN (qy) (nx)) ∧ a.eval (.tmp 25) = .int .i64 ((i : Nat) : Int) ∧ Below V.heap.size V W ∧ (KpA V S a0 x0 W a0 na x0 nx)) (fun a _ => na - (intOf (a.eval (.tmp 25))).toNat) ⟨0, Nat.zero_le _, A, t0, t10, t11, t13, t16, t19, t21, t23, t24, t25, BB, FK⟩ ?_
  clear A t0 t10 t11 t13 t16 t19 t21 t23 t24 t25 BB FK a
  rintro a XL14 ⟨i, hi, A, t0, t10, t11, t13, t16, t19, t21, t23, t24, t25, BB, FK⟩
  have es := t25
  refine wp_seq ?_
  refine wp_seq ?_
  refine wp_region_sq (σ := Unit) 309 [(0, 192), (1, 193), (2, 194), (3, 195)] (fun j_ s X => match j_ with | 0 => Below V.heap.size V X ∧ (KpA V S a0 x0 X a0 na x0 nx) | 1 => Below V.heap.size V X ∧ (KpA V S a0 x0 X a0 na x0 nx) | 2 => Below V.heap.size V X ∧ (KpA V S a0 x0 X a0 na x0 nx) | 3 => Below V.heap.size V X ∧ (KpA V S a0 x0 X a0 na x0 nx) | _ => Below V.heap.size V X ∧ (KpA V S a0 x0 X a0 na x0 nx)) (fun s => fun i_ => match i_ with | 0 => .int .i64 ((i : Nat) : Int) | 1 => a0 | 2 => .int .i64 ((na : Nat) : Int) | 3 => .bool (decide (i < na)) | _ => undef) () A.1 (by kernel_rfl) (by decide) (by decide) ⟨BB, FK⟩ ?_ ?_
  · intro i_ hi_ s a X hf hv hn hS
    match i_, hi_ with
    | 0, _ => exact stepV rfl rfl (execMvB rfl ((hf 25 (by decide)).trans t25)) ⟨s, ⟨_, rfl, rfl⟩, hS, fun _ _ => rfl⟩
    | 1, _ => exact stepV rfl rfl (execMvB rfl ((hf 13 (by decide)).trans t13)) ⟨s, ⟨_, rfl, rfl⟩, hS, fun _ _ => rfl⟩
    | 2, _ => exact stepV rfl rfl (execLenI (len := na) rfl (hv 1 (by omega) _ rfl _ rfl) hsa) ⟨s, ⟨_, rfl, rfl⟩, hS, fun _ _ => rfl⟩
    | 3, _ => exact stepV rfl rfl (execLtW (p := i) (q := na) rfl (hv 0 (by omega) _ rfl _ rfl) (hv 2 (by omega) _ rfl _ rfl)) ⟨s, ⟨_, rfl, rfl⟩, hS, fun _ _ => rfl⟩
    | k_ + 4, h_ => exact absurd h_ (by simp)
  rintro _ a X15 h1 h2 h3 h4 hS
  clear BB
  clear FK
  replace hS : Below V.heap.size V X15 ∧ (KpA V S a0 x0 X15 a0 na x0 nx) := hS
  obtain ⟨BB, FK⟩ := hS
  replace t0 := (h3 0 (by decide)).trans t0
  replace t10 := (h3 10 (by decide)).trans t10
  replace t11 := (h3 11 (by decide)).trans t11
  replace t13 := (h3 13 (by decide)).trans t13
  replace t16 := (h3 16 (by decide)).trans t16
  replace t19 := (h3 19 (by decide)).trans t19
  replace t21 := (h3 21 (by decide)).trans t21
  replace t23 := (h3 23 (by decide)).trans t23
  replace t24 := (h3 24 (by decide)).trans t24
  replace t25 := (h3 25 (by decide)).trans t25
  have t195 : a.eval (.tmp 195) = .bool (decide (i < na)) := h4 3 _ rfl _ rfl
  replace A := (⟨h1, h2.trans A.2⟩ : a.tmps.size = 309 ∧ a.defers = [])
  clear h1 h2 h3 h4
  by_cases hlt : i < na
  · rw [decide_eq_true hlt] at t195
    refine wp_cond_true t195 ?_
    refine wp_skip ?_
    clear t195
    refine wp_seq ?_
    refine wp_block ?_
    obtain ⟨ga, ca, hva⟩ := FK.soA (by omega)
    refine wp_region_sq (σ := Unit) 309 [(0, 198), (1, 199), (2, 200)] (fun j_ s X => match j_ with | 0 => Below V.heap.size V X ∧ (KpA V S a0 x0 X a0 na x0 nx) | 1 => Below V.heap.size V X ∧ (KpA V S a0 x0 X a0 na x0 nx) | 2 => Below V.heap.size V X ∧ (KpA V S a0 x0 X a0 na x0 nx) | 3 => Below V.heap.size V X ∧ (KpA V S a0 x0 X a0 na x0 nx) | _ => Below V.heap.size V X ∧ (KpA V S a0 x0 X a0 na x0 nx)) (fun s => fun i_ => match i_ with | 0 => a0 | 1 => .int .i64 ((i : Nat) : Int) | 2 => .pointer (some ⟨ga, 0 + i, none⟩) | 3 => undef | _ => undef) () A.1 (by kernel_rfl) (by decide) (by decide) ⟨BB, FK⟩ ?_ ?_
    · intro i_ hi_ s a X hf hv hn hS
      match i_, hi_ with
      | 0, _ => exact stepV rfl rfl (execMvB rfl ((hf 13 (by decide)).trans t13)) ⟨s, ⟨_, rfl, rfl⟩, hS, fun _ _ => rfl⟩
      | 1, _ => exact stepV rfl rfl (execMvB rfl ((hf 25 (by decide)).trans t25)) ⟨s, ⟨_, rfl, rfl⟩, hS, fun _ _ => rfl⟩
      | 2, _ => exact stepV rfl rfl (execIdxN (k := i) rfl ((hv 0 (by omega) _ rfl _ rfl).trans hva) (hv 1 (by omega) _ rfl _ rfl) hlt) ⟨s, ⟨_, rfl, rfl⟩, hS, fun _ _ => rfl⟩
      | 3, _ =>
        obtain ⟨z_, hc_, hf_⟩ := hS.2.atA' hva hlt
        refine stepS rfl rfl (execStI9 rfl (hv 2 (by omega) _ rfl _ rfl) rfl hc_ hf_) ⟨s, ⟨_, rfl, rfl⟩, ⟨(hS.2.setA' (j := i) hva (-1)).bel, hS.2.setA' (j := i) hva (-1)⟩, fun i hi => ?_⟩
        match i, hi with
        | 0, _ => rfl
        | 1, _ => rfl
        | 2, _ => rfl
        | n_ + 3, h_ => omega
      | k_ + 4, h_ => exact absurd h_ (by simp)
    rintro _ a X17 h1 h2 h3 h4 hS
    clear BB
    clear FK
    replace hS : Below V.heap.size V X17 ∧ (KpA V S a0 x0 X17 a0 na x0 nx) := hS
    obtain ⟨BB, FK2⟩ := hS
    replace t0 := (h3 0 (by decide)).trans t0
    replace t10 := (h3 10 (by decide)).trans t10
    replace t11 := (h3 11 (by decide)).trans t11
    replace t13 := (h3 13 (by decide)).trans t13
    replace t16 := (h3 16 (by decide)).trans t16
    replace t19 := (h3 19 (by decide)).trans t19
    replace t21 := (h3 21 (by decide)).trans t21
    replace t23 := (h3 23 (by decide)).trans t23
    replace t24 := (h3 24 (by decide)).trans t24
    replace t25 := (h3 25 (by decide)).trans t25
    replace A := (⟨h1, h2.trans A.2⟩ : a.tmps.size = 309 ∧ a.defers = [])
    clear h1 h2 h3 h4
    refine wp_region_sq (σ := Unit) 309 [(0, 196), (1, 197), (2, 25)] (fun j_ s X => match j_ with | 0 => Below V.heap.size V X ∧ (KpA V S a0 x0 X a0 na x0 nx) | 1 => Below V.heap.size V X ∧ (KpA V S a0 x0 X a0 na x0 nx) | 2 => Below V.heap.size V X ∧ (KpA V S a0 x0 X a0 na x0 nx) | _ => Below V.heap.size V X ∧ (KpA V S a0 x0 X a0 na x0 nx)) (fun s => fun i_ => match i_ with | 0 => .int .i64 ((i : Nat) : Int) | 1 => .int .i64 ((i + 1 : Nat) : Int) | 2 => .int .i64 ((i + 1 : Nat) : Int) | _ => undef) () A.1 (by kernel_rfl) (by decide) (by decide) ⟨BB, FK2⟩ ?_ ?_
    · intro i_ hi_ s a X hf hv hn hS
      match i_, hi_ with
      | 0, _ => exact stepV rfl rfl (execMvB rfl ((hn 2 (by omega) _ rfl _ rfl).trans t25)) ⟨s, ⟨_, rfl, rfl⟩, hS, fun _ _ => rfl⟩
      | 1, _ => exact stepV rfl rfl (execAd8 (p := i) (q := 1) rfl (hv 0 (by omega) _ rfl _ rfl) rfl (by omega)) ⟨s, ⟨_, rfl, rfl⟩, hS, fun _ _ => rfl⟩
      | 2, _ => exact stepV rfl rfl (execAsgB rfl (hv 1 (by omega) _ rfl _ rfl)) ⟨s, ⟨_, rfl, rfl⟩, hS, fun _ _ => rfl⟩
      | k_ + 3, h_ => exact absurd h_ (by simp)
    rintro _ a X16 h1 h2 h3 h4 hS
    clear BB
    clear FK2
    replace hS : Below V.heap.size V X16 ∧ (KpA V S a0 x0 X16 a0 na x0 nx) := hS
    obtain ⟨BB, FK2⟩ := hS
    replace t0 := (h3 0 (by decide)).trans t0
    replace t10 := (h3 10 (by decide)).trans t10
    replace t11 := (h3 11 (by decide)).trans t11
    replace t13 := (h3 13 (by decide)).trans t13
    replace t16 := (h3 16 (by decide)).trans t16
    replace t19 := (h3 19 (by decide)).trans t19
    replace t21 := (h3 21 (by decide)).trans t21
    replace t23 := (h3 23 (by decide)).trans t23
    replace t24 := (h3 24 (by decide)).trans t24
    replace t25 : a.eval (.tmp 25) = .int .i64 ((i + 1 : Nat) : Int) := h4 2 _ rfl _ rfl
    replace A := (⟨h1, h2.trans A.2⟩ : a.tmps.size = 309 ∧ a.defers = [])
    clear h1 h2 h3 h4
    exact ⟨⟨i + 1, hlt, A, t0, t10, t11, t13, t16, t19, t21, t23, t24, t25, BB, FK2⟩, by show na - (intOf (a.eval (.tmp 25))).toNat < na - (intOf (Act.eval _ (.tmp 25))).toNat; rw [t25, es]; show na - (i + 1) < na - i; omega⟩
  · rw [decide_eq_false hlt] at t195
    refine wp_cond_false t195 ?_
    refine wp_exit ?_
    first | refine exit_in ?_ | refine exit_then (exit_in ?_) | refine exit_then (exit_then (exit_in ?_))
    clear t195 t25 es hlt hi
    clear i
    refine wp_seq ?_
    refine wp_seq ?_
    refine wp_region_sq (σ := Unit) 309 [(0, 26)] (fun j_ s X => match j_ with | 0 => Below V.heap.size V X ∧ (KpA V S a0 x0 X a0 na x0 nx) | _ => Below V.heap.size V X ∧ (KpA V S a0 x0 X a0 na x0 nx)) (fun s => fun i_ => match i_ with | 0 => .int .i64 ((0 : Nat) : Int) | _ => undef) () A.1 (by kernel_rfl) (by decide) (by decide) ⟨BB, FK⟩ ?_ ?_
    · intro i_ hi_ s a X hf hv hn hS
      match i_, hi_ with
      | 0, _ => exact stepV rfl rfl (execAsgB rfl rfl) ⟨s, ⟨_, rfl, rfl⟩, hS, fun _ _ => rfl⟩
      | k_ + 1, h_ => exact absurd h_ (by simp)
    rintro _ a X18 h1 h2 h3 h4 hS
    clear BB
    clear FK
    replace hS : Below V.heap.size V X18 ∧ (KpA V S a0 x0 X18 a0 na x0 nx) := hS
    obtain ⟨BB, FK⟩ := hS
    replace t0 := (h3 0 (by decide)).trans t0
    replace t10 := (h3 10 (by decide)).trans t10
    replace t11 := (h3 11 (by decide)).trans t11
    replace t13 := (h3 13 (by decide)).trans t13
    replace t16 := (h3 16 (by decide)).trans t16
    replace t19 := (h3 19 (by decide)).trans t19
    replace t21 := (h3 21 (by decide)).trans t21
    replace t23 := (h3 23 (by decide)).trans t23
    replace t24 := (h3 24 (by decide)).trans t24
    have t26 : a.eval (.tmp 26) = .int .i64 ((0 : Nat) : Int) := h4 0 _ rfl _ rfl
    replace A := (⟨h1, h2.trans A.2⟩ : a.tmps.size = 309 ∧ a.defers = [])
    clear h1 h2 h3 h4
    refine wp_block ?_
    refine wp_loop (fun a W => ∃ i : Nat, i ≤ nx ∧ (a.tmps.size = 309 ∧ a.defers = []) ∧ a.eval (.tmp 0) = pv ∧ a.eval (.tmp 10) = ip ∧ a.eval (.tmp 11) = ib ∧ a.eval (.tmp 13) = a0 ∧ a.eval (.tmp 16) = vb ∧ a.eval (.tmp 19) = x0 ∧ a.eval (.tmp 21) = vy ∧ a.eval (.tmp 23) = vk ∧ a.eval (.tmp 24) = .string (strN (qy) (nx)) ∧ a.eval (.tmp 26) = .int .i64 ((i : Nat) : Int) ∧ Below V.heap.size V W ∧ (KpA V S a0 x0 W a0 na x0 nx)) (fun a _ => nx - (intOf (a.eval (.tmp 26))).toNat) ⟨0, Nat.zero_le _, A, t0, t10, t11, t13, t16, t19, t21, t23, t24, t26, BB, FK⟩ ?_
    clear A t0 t10 t11 t13 t16 t19 t21 t23 t24 t26 BB FK a
    rintro a XL18 ⟨i, hi, A, t0, t10, t11, t13, t16, t19, t21, t23, t24, t26, BB, FK⟩
    have es := t26
    refine wp_seq ?_
    refine wp_seq ?_
    refine wp_region_sq (σ := Unit) 309 [(0, 201), (1, 202), (2, 203), (3, 204)] (fun j_ s X => match j_ with | 0 => Below V.heap.size V X ∧ (KpA V S a0 x0 X a0 na x0 nx) | 1 => Below V.heap.size V X ∧ (KpA V S a0 x0 X a0 na x0 nx) | 2 => Below V.heap.size V X ∧ (KpA V S a0 x0 X a0 na x0 nx) | 3 => Below V.heap.size V X ∧ (KpA V S a0 x0 X a0 na x0 nx) | _ => Below V.heap.size V X ∧ (KpA V S a0 x0 X a0 na x0 nx)) (fun s => fun i_ => match i_ with | 0 => .int .i64 ((i : Nat) : Int) | 1 => x0 | 2 => .int .i64 ((nx : Nat) : Int) | 3 => .bool (decide (i < nx)) | _ => undef) () A.1 (by kernel_rfl) (by decide) (by decide) ⟨BB, FK⟩ ?_ ?_
    · intro i_ hi_ s a X hf hv hn hS
      match i_, hi_ with
      | 0, _ => exact stepV rfl rfl (execMvB rfl ((hf 26 (by decide)).trans t26)) ⟨s, ⟨_, rfl, rfl⟩, hS, fun _ _ => rfl⟩
      | 1, _ => exact stepV rfl rfl (execMvB rfl ((hf 19 (by decide)).trans t19)) ⟨s, ⟨_, rfl, rfl⟩, hS, fun _ _ => rfl⟩
      | 2, _ => exact stepV rfl rfl (execLenV (len := nx) rfl (hv 1 (by omega) _ rfl _ rfl) hsx) ⟨s, ⟨_, rfl, rfl⟩, hS, fun _ _ => rfl⟩
      | 3, _ => exact stepV rfl rfl (execLtW (p := i) (q := nx) rfl (hv 0 (by omega) _ rfl _ rfl) (hv 2 (by omega) _ rfl _ rfl)) ⟨s, ⟨_, rfl, rfl⟩, hS, fun _ _ => rfl⟩
      | k_ + 4, h_ => exact absurd h_ (by simp)
    rintro _ a X19 h1 h2 h3 h4 hS
    clear BB
    clear FK
    replace hS : Below V.heap.size V X19 ∧ (KpA V S a0 x0 X19 a0 na x0 nx) := hS
    obtain ⟨BB, FK⟩ := hS
    replace t0 := (h3 0 (by decide)).trans t0
    replace t10 := (h3 10 (by decide)).trans t10
    replace t11 := (h3 11 (by decide)).trans t11
    replace t13 := (h3 13 (by decide)).trans t13
    replace t16 := (h3 16 (by decide)).trans t16
    replace t19 := (h3 19 (by decide)).trans t19
    replace t21 := (h3 21 (by decide)).trans t21
    replace t23 := (h3 23 (by decide)).trans t23
    replace t24 := (h3 24 (by decide)).trans t24
    replace t26 := (h3 26 (by decide)).trans t26
    have t204 : a.eval (.tmp 204) = .bool (decide (i < nx)) := h4 3 _ rfl _ rfl
    replace A := (⟨h1, h2.trans A.2⟩ : a.tmps.size = 309 ∧ a.defers = [])
    clear h1 h2 h3 h4
    by_cases hlt : i < nx
    · rw [decide_eq_true hlt] at t204
      refine wp_cond_true t204 ?_
      refine wp_skip ?_
      clear t204
      refine wp_seq ?_
      refine wp_block ?_
      obtain ⟨gx, cx, hvx⟩ := FK.soX (by omega)
      refine wp_region_sq (σ := Nat) 309 [(0, 207), (1, 208), (2, 209), (3, 210), (4, 211), (5, 212)] (fun j_ s X => match j_ with | 0 => Below V.heap.size V X ∧ (KpA V S a0 x0 X a0 na x0 nx) | 1 => Below V.heap.size V X ∧ (KpA V S a0 x0 X a0 na x0 nx) | 2 => Below V.heap.size V X ∧ (KpA V S a0 x0 X a0 na x0 nx) | 3 => Below V.heap.size V X ∧ (KpA V S a0 x0 X a0 na x0 nx) | 4 => Below V.heap.size V X ∧ (KpA V S a0 x0 X a0 na x0 nx) ∧ (s < 256) | 5 => Below V.heap.size V X ∧ (KpA V S a0 x0 X a0 na x0 nx) ∧ (s < 256) | 6 => Below V.heap.size V X ∧ (KpA V S a0 x0 X a0 na x0 nx) ∧ (s < 256) | _ => Below V.heap.size V X ∧ (KpA V S a0 x0 X a0 na x0 nx)) (fun s => fun i_ => match i_ with | 0 => x0 | 1 => .int .i64 ((i : Nat) : Int) | 2 => .pointer (some ⟨gx, 0 + i, none⟩) | 3 => .int .u8 ((s : Nat) : Int) | 4 => .int .u8 ((s ^^^ 85 : Nat) : Int) | 5 => .pointer (some ⟨gx, 0 + i, none⟩) | 6 => undef | _ => undef) 0 A.1 (by kernel_rfl) (by decide) (by decide) ⟨BB, FK⟩ ?_ ?_
      · intro i_ hi_ s a X hf hv hn hS
        match i_, hi_ with
        | 0, _ => exact stepV rfl rfl (execMvB rfl ((hf 19 (by decide)).trans t19)) ⟨s, ⟨_, rfl, rfl⟩, hS, fun _ _ => rfl⟩
        | 1, _ => exact stepV rfl rfl (execMvB rfl ((hf 26 (by decide)).trans t26)) ⟨s, ⟨_, rfl, rfl⟩, hS, fun _ _ => rfl⟩
        | 2, _ => exact stepV rfl rfl (execIdxB9 (k := i) rfl ((hv 0 (by omega) _ rfl _ rfl).trans hvx) (hv 1 (by omega) _ rfl _ rfl) hlt) ⟨s, ⟨_, rfl, rfl⟩, hS, fun _ _ => rfl⟩
        | 3, _ =>
          obtain ⟨z_, hz_, hc_, hf_⟩ := hS.2.atX' hvx hlt
          refine stepV rfl rfl (execLdB rfl (hv 2 (by omega) _ rfl _ rfl) hc_) ⟨z_, ⟨_, rfl, rfl⟩, ⟨(hS.1).trans (((Below.refl _ _)).mono (hS.1).size), (hS.2.on (Below.refl _ _)), hz_⟩, fun i hi => ?_⟩
          match i, hi with
          | 0, _ => rfl
          | 1, _ => rfl
          | 2, _ => rfl
          | n_ + 3, h_ => omega
        | 4, _ => exact stepV rfl rfl (execXor5 (p := s) (q := 85) rfl (hv 3 (by omega) _ rfl _ rfl) rfl hS.2.2 (by decide)) ⟨s, ⟨_, rfl, rfl⟩, hS, fun _ _ => rfl⟩
        | 5, _ => exact stepV rfl rfl (execIdxB9 (k := i) rfl ((hv 0 (by omega) _ rfl _ rfl).trans hvx) (hv 1 (by omega) _ rfl _ rfl) hlt) ⟨s, ⟨_, rfl, rfl⟩, hS, fun _ _ => rfl⟩
        | 6, _ =>
          obtain ⟨z_, hz_, hc_, hf_⟩ := hS.2.1.atX' hvx hlt
          refine stepS rfl rfl (execStB9d rfl (hv 5 (by omega) _ rfl _ rfl) (hv 4 (by omega) _ rfl _ rfl) hc_ hf_) ⟨s, ⟨_, rfl, rfl⟩, ⟨(hS.2.1.setX' (j := i) hvx (xor85 hS.2.2)).bel, hS.2.1.setX' (j := i) hvx (xor85 hS.2.2)⟩, fun i hi => ?_⟩
          match i, hi with
          | 0, _ => rfl
          | 1, _ => rfl
          | 2, _ => rfl
          | 3, _ => rfl
          | 4, _ => rfl
          | 5, _ => rfl
          | n_ + 6, h_ => omega
        | k_ + 7, h_ => exact absurd h_ (by simp)
      rintro z210 a X21 h1 h2 h3 h4 hS
      clear BB
      clear FK
      replace hS : Below V.heap.size V X21 ∧ (KpA V S a0 x0 X21 a0 na x0 nx) := hS
      obtain ⟨BB, FK2⟩ := hS
      replace t0 := (h3 0 (by decide)).trans t0
      replace t10 := (h3 10 (by decide)).trans t10
      replace t11 := (h3 11 (by decide)).trans t11
      replace t13 := (h3 13 (by decide)).trans t13
      replace t16 := (h3 16 (by decide)).trans t16
      replace t19 := (h3 19 (by decide)).trans t19
      replace t21 := (h3 21 (by decide)).trans t21
      replace t23 := (h3 23 (by decide)).trans t23
      replace t24 := (h3 24 (by decide)).trans t24
      replace t26 := (h3 26 (by decide)).trans t26
      replace A := (⟨h1, h2.trans A.2⟩ : a.tmps.size = 309 ∧ a.defers = [])
      clear h1 h2 h3 h4
      refine wp_region_sq (σ := Unit) 309 [(0, 205), (1, 206), (2, 26)] (fun j_ s X => match j_ with | 0 => Below V.heap.size V X ∧ (KpA V S a0 x0 X a0 na x0 nx) | 1 => Below V.heap.size V X ∧ (KpA V S a0 x0 X a0 na x0 nx) | 2 => Below V.heap.size V X ∧ (KpA V S a0 x0 X a0 na x0 nx) | _ => Below V.heap.size V X ∧ (KpA V S a0 x0 X a0 na x0 nx)) (fun s => fun i_ => match i_ with | 0 => .int .i64 ((i : Nat) : Int) | 1 => .int .i64 ((i + 1 : Nat) : Int) | 2 => .int .i64 ((i + 1 : Nat) : Int) | _ => undef) () A.1 (by kernel_rfl) (by decide) (by decide) ⟨BB, FK2⟩ ?_ ?_
      · intro i_ hi_ s a X hf hv hn hS
        match i_, hi_ with
        | 0, _ => exact stepV rfl rfl (execMvB rfl ((hn 2 (by omega) _ rfl _ rfl).trans t26)) ⟨s, ⟨_, rfl, rfl⟩, hS, fun _ _ => rfl⟩
        | 1, _ => exact stepV rfl rfl (execAd8 (p := i) (q := 1) rfl (hv 0 (by omega) _ rfl _ rfl) rfl (by omega)) ⟨s, ⟨_, rfl, rfl⟩, hS, fun _ _ => rfl⟩
        | 2, _ => exact stepV rfl rfl (execAsgB rfl (hv 1 (by omega) _ rfl _ rfl)) ⟨s, ⟨_, rfl, rfl⟩, hS, fun _ _ => rfl⟩
        | k_ + 3, h_ => exact absurd h_ (by simp)
      rintro _ a X20 h1 h2 h3 h4 hS
      clear BB
      clear FK2
      replace hS : Below V.heap.size V X20 ∧ (KpA V S a0 x0 X20 a0 na x0 nx) := hS
      obtain ⟨BB, FK2⟩ := hS
      replace t0 := (h3 0 (by decide)).trans t0
      replace t10 := (h3 10 (by decide)).trans t10
      replace t11 := (h3 11 (by decide)).trans t11
      replace t13 := (h3 13 (by decide)).trans t13
      replace t16 := (h3 16 (by decide)).trans t16
      replace t19 := (h3 19 (by decide)).trans t19
      replace t21 := (h3 21 (by decide)).trans t21
      replace t23 := (h3 23 (by decide)).trans t23
      replace t24 := (h3 24 (by decide)).trans t24
      replace t26 : a.eval (.tmp 26) = .int .i64 ((i + 1 : Nat) : Int) := h4 2 _ rfl _ rfl
      replace A := (⟨h1, h2.trans A.2⟩ : a.tmps.size = 309 ∧ a.defers = [])
      clear h1 h2 h3 h4
      exact ⟨⟨i + 1, hlt, A, t0, t10, t11, t13, t16, t19, t21, t23, t24, t26, BB, FK2⟩, by show nx - (intOf (a.eval (.tmp 26))).toNat < nx - (intOf (Act.eval _ (.tmp 26))).toNat; rw [t26, es]; show nx - (i + 1) < nx - i; omega⟩
    · rw [decide_eq_false hlt] at t204
      refine wp_cond_false t204 ?_
      refine wp_exit ?_
      first | refine exit_in ?_ | refine exit_then (exit_in ?_) | refine exit_then (exit_then (exit_in ?_))
      clear t204 t26 es hlt hi
      clear i
      refine wp_seq ?_
      refine wp_seq ?_
      refine wp_region_sq (σ := Unit) 309 [(0, 27)] (fun j_ s X => match j_ with | 0 => Below V.heap.size V X ∧ (KpA V S a0 x0 X a0 na x0 nx) | _ => Below V.heap.size V X ∧ (KpA V S a0 x0 X a0 na x0 nx)) (fun s => fun i_ => match i_ with | 0 => .int .i64 ((0 : Nat) : Int) | _ => undef) () A.1 (by kernel_rfl) (by decide) (by decide) ⟨BB, FK⟩ ?_ ?_
      · intro i_ hi_ s a X hf hv hn hS
        match i_, hi_ with
        | 0, _ => exact stepV rfl rfl (execAsgB rfl rfl) ⟨s, ⟨_, rfl, rfl⟩, hS, fun _ _ => rfl⟩
        | k_ + 1, h_ => exact absurd h_ (by simp)
      rintro _ a X22 h1 h2 h3 h4 hS
      clear BB
      clear FK
      replace hS : Below V.heap.size V X22 ∧ (KpA V S a0 x0 X22 a0 na x0 nx) := hS
      obtain ⟨BB, FK⟩ := hS
      replace t0 := (h3 0 (by decide)).trans t0
      replace t10 := (h3 10 (by decide)).trans t10
      replace t11 := (h3 11 (by decide)).trans t11
      replace t13 := (h3 13 (by decide)).trans t13
      replace t16 := (h3 16 (by decide)).trans t16
      replace t19 := (h3 19 (by decide)).trans t19
      replace t21 := (h3 21 (by decide)).trans t21
      replace t23 := (h3 23 (by decide)).trans t23
      replace t24 := (h3 24 (by decide)).trans t24
      have t27 : a.eval (.tmp 27) = .int .i64 ((0 : Nat) : Int) := h4 0 _ rfl _ rfl
      replace A := (⟨h1, h2.trans A.2⟩ : a.tmps.size = 309 ∧ a.defers = [])
      clear h1 h2 h3 h4
      refine wp_block ?_
      refine wp_loop (fun a W => ∃ (i : Nat) (va vx : Value), i ≤ 20 ∧ (a.tmps.size = 309 ∧ a.defers = []) ∧ a.eval (.tmp 0) = pv ∧ a.eval (.tmp 10) = ip ∧ a.eval (.tmp 11) = ib ∧ a.eval (.tmp 13) = va ∧ a.eval (.tmp 16) = vb ∧ a.eval (.tmp 19) = vx ∧ a.eval (.tmp 21) = vy ∧ a.eval (.tmp 23) = vk ∧ a.eval (.tmp 24) = .string (strN (qy) (nx)) ∧ a.eval (.tmp 27) = .int .i64 ((i : Nat) : Int) ∧ Below V.heap.size V W ∧ KpA V S a0 x0 W va (na + i) vx (nx + i)) (fun a _ => 20 - (intOf (a.eval (.tmp 27))).toNat) ⟨0, _, _, Nat.zero_le _, A, t0, t10, t11, t13, t16, t19, t21, t23, t24, t27, BB, FK⟩ ?_
      clear A t0 t10 t11 t13 t16 t19 t21 t23 t24 t27 BB FK a
      rintro a XL22 ⟨i, va, vx, hi, A, t0, t10, t11, t13, t16, t19, t21, t23, t24, t27, BB, FK⟩
      have es := t27
      refine wp_seq ?_
      refine wp_seq ?_
      refine wp_region_sq (σ := Unit) 309 [(0, 213), (1, 214)] (fun j_ s X => match j_ with | 0 => Below V.heap.size V X ∧ (KpA V S a0 x0 X va (na + i) vx (nx + i)) | 1 => Below V.heap.size V X ∧ (KpA V S a0 x0 X va (na + i) vx (nx + i)) | _ => Below V.heap.size V X ∧ (KpA V S a0 x0 X va (na + i) vx (nx + i))) (fun s => fun i_ => match i_ with | 0 => .int .i64 ((i : Nat) : Int) | 1 => .bool (decide (i < 20)) | _ => undef) () A.1 (by kernel_rfl) (by decide) (by decide) ⟨BB, FK⟩ ?_ ?_
      · intro i_ hi_ s a X hf hv hn hS
        match i_, hi_ with
        | 0, _ => exact stepV rfl rfl (execMvB rfl ((hf 27 (by decide)).trans t27)) ⟨s, ⟨_, rfl, rfl⟩, hS, fun _ _ => rfl⟩
        | 1, _ => exact stepV rfl rfl (execLtW (p := i) (q := 20) rfl (hv 0 (by omega) _ rfl _ rfl) rfl) ⟨s, ⟨_, rfl, rfl⟩, hS, fun _ _ => rfl⟩
        | k_ + 2, h_ => exact absurd h_ (by simp)
      rintro _ a X23 h1 h2 h3 h4 hS
      clear BB
      clear FK
      replace hS : Below V.heap.size V X23 ∧ (KpA V S a0 x0 X23 va (na + i) vx (nx + i)) := hS
      obtain ⟨BB, FK⟩ := hS
      replace t0 := (h3 0 (by decide)).trans t0
      replace t10 := (h3 10 (by decide)).trans t10
      replace t11 := (h3 11 (by decide)).trans t11
      replace t13 := (h3 13 (by decide)).trans t13
      replace t16 := (h3 16 (by decide)).trans t16
      replace t19 := (h3 19 (by decide)).trans t19
      replace t21 := (h3 21 (by decide)).trans t21
      replace t23 := (h3 23 (by decide)).trans t23
      replace t24 := (h3 24 (by decide)).trans t24
      replace t27 := (h3 27 (by decide)).trans t27
      have t214 : a.eval (.tmp 214) = .bool (decide (i < 20)) := h4 1 _ rfl _ rfl
      replace A := (⟨h1, h2.trans A.2⟩ : a.tmps.size = 309 ∧ a.defers = [])
      clear h1 h2 h3 h4
      by_cases hlt : i < 20
      · rw [decide_eq_true hlt] at t214
        refine wp_cond_true t214 ?_
        refine wp_skip ?_
        clear t214
        refine wp_seq ?_
        refine wp_block ?_
        refine wp_seq ?_
        refine wp_region_sq (σ := Nat × Value) 309 [(0, 217), (1, 218), (2, 219), (3, 13)] (fun j_ s X => match j_ with | 0 => Below V.heap.size V X ∧ (KpA V S a0 x0 X va (na + i) vx (nx + i)) | 1 => Below V.heap.size V X ∧ (KpA V S a0 x0 X va (na + i) vx (nx + i)) | 2 => Below V.heap.size V X ∧ (KpA V S a0 x0 X va (na + i) vx (nx + i)) ∧ (X.heap[s.1]? = some (.cells #[.int .i64 (-2)] 3)) | 3 => Below V.heap.size V X ∧ (KpA V S a0 x0 X s.2 (na + i + 1) vx (nx + i)) | _ => Below V.heap.size V X ∧ (KpA V S a0 x0 X s.2 (na + i + 1) vx (nx + i))) (fun s => fun i_ => match i_ with | 0 => va | 1 => .slice (some ⟨s.1, 0, none⟩) 1 1 | 2 => s.2 | 3 => s.2 | _ => undef) (0, undef) A.1 (by kernel_rfl) (by decide) (by decide) ⟨BB, FK⟩ ?_ ?_
        · intro i_ hi_ s a X hf hv hn hS
          match i_, hi_ with
          | 0, _ => exact stepV rfl rfl (execMvB rfl ((hn 3 (by omega) _ rfl _ rfl).trans t13)) ⟨s, ⟨_, rfl, rfl⟩, hS, fun _ _ => rfl⟩
          | 1, _ =>
            refine stepV rfl rfl (execBsI (z := -2) rfl rfl) ⟨(X.heap.size, s.2), ⟨_, rfl, rfl⟩, ⟨(hS.1).trans (((belNew X _)).mono (hS.1).size), (hS.2.on (belNew X _)), heapNew X _⟩, fun i hi => ?_⟩
            match i, hi with
            | 0, _ => rfl
            | n_ + 1, h_ => omega
          | 2, _ =>
            refine stepAppA rfl rfl rfl (hv 0 (by omega) _ rfl _ rfl) (hv 1 (by omega) _ rfl _ rfl) hS.2.1 hS.2.2 (by omega) fun v' W' kp' => ⟨(s.1, v'), ⟨_, rfl, rfl⟩, ⟨kp'.bel, kp'⟩, fun i hi => ?_⟩
            match i, hi with
            | 0, _ => rfl
            | 1, _ => rfl
            | n_ + 2, h_ => omega
          | 3, _ => exact stepV rfl rfl (execAsgB rfl (hv 2 (by omega) _ rfl _ rfl)) ⟨s, ⟨_, rfl, rfl⟩, hS, fun _ _ => rfl⟩
          | k_ + 4, h_ => exact absurd h_ (by simp)
        rintro ⟨g218, v219⟩ a X25 h1 h2 h3 h4 hS
        clear BB
        clear FK
        replace hS : Below V.heap.size V X25 ∧ (KpA V S a0 x0 X25 v219 (na + i + 1) vx (nx + i)) := hS
        obtain ⟨BB, FK2⟩ := hS
        replace t0 := (h3 0 (by decide)).trans t0
        replace t10 := (h3 10 (by decide)).trans t10
        replace t11 := (h3 11 (by decide)).trans t11
        replace t13 : a.eval (.tmp 13) = v219 := h4 3 _ rfl _ rfl
        replace t16 := (h3 16 (by decide)).trans t16
        replace t19 := (h3 19 (by decide)).trans t19
        replace t21 := (h3 21 (by decide)).trans t21
        replace t23 := (h3 23 (by decide)).trans t23
        replace t24 := (h3 24 (by decide)).trans t24
        replace t27 := (h3 27 (by decide)).trans t27
        replace A := (⟨h1, h2.trans A.2⟩ : a.tmps.size = 309 ∧ a.defers = [])
        clear h1 h2 h3 h4
        refine wp_region_sq (σ := Nat × Value) 309 [(0, 220), (1, 221), (2, 222), (3, 19)] (fun j_ s X => match j_ with | 0 => Below V.heap.size V X ∧ (KpA V S a0 x0 X v219 (na + i + 1) vx (nx + i)) | 1 => Below V.heap.size V X ∧ (KpA V S a0 x0 X v219 (na + i + 1) vx (nx + i)) | 2 => Below V.heap.size V X ∧ (KpA V S a0 x0 X v219 (na + i + 1) vx (nx + i)) ∧ (X.heap[s.1]? = some (.cells #[.int .u8 ((119 : Nat) : Int)] 5)) | 3 => Below V.heap.size V X ∧ (KpA V S a0 x0 X v219 (na + i + 1) s.2 (nx + i + 1)) | _ => Below V.heap.size V X ∧ (KpA V S a0 x0 X v219 (na + i + 1) s.2 (nx + i + 1))) (fun s => fun i_ => match i_ with | 0 => vx | 1 => .slice (some ⟨s.1, 0, none⟩) 1 1 | 2 => s.2 | 3 => s.2 | _ => undef) (0, undef) A.1 (by kernel_rfl) (by decide) (by decide) ⟨BB, FK2⟩ ?_ ?_
        · intro i_ hi_ s a X hf hv hn hS
          match i_, hi_ with
          | 0, _ => exact stepV rfl rfl (execMvB rfl ((hn 3 (by omega) _ rfl _ rfl).trans t19)) ⟨s, ⟨_, rfl, rfl⟩, hS, fun _ _ => rfl⟩
          | 1, _ =>
            refine stepV rfl rfl (execBsU rfl) ⟨(X.heap.size, s.2), ⟨_, rfl, rfl⟩, ⟨(hS.1).trans (((belNew X _)).mono (hS.1).size), (hS.2.on (belNew X _)), heapNew X _⟩, fun i hi => ?_⟩
            match i, hi with
            | 0, _ => rfl
            | n_ + 1, h_ => omega
          | 2, _ =>
            refine stepAppX (z := 119) rfl rfl rfl (hv 0 (by omega) _ rfl _ rfl) (hv 1 (by omega) _ rfl _ rfl) hS.2.1 hS.2.2 (by omega) (by omega) fun v' W' kp' => ⟨(s.1, v'), ⟨_, rfl, rfl⟩, ⟨kp'.bel, kp'⟩, fun i hi => ?_⟩
            match i, hi with
            | 0, _ => rfl
            | 1, _ => rfl
            | n_ + 2, h_ => omega
          | 3, _ => exact stepV rfl rfl (execAsgB rfl (hv 2 (by omega) _ rfl _ rfl)) ⟨s, ⟨_, rfl, rfl⟩, hS, fun _ _ => rfl⟩
          | k_ + 4, h_ => exact absurd h_ (by simp)
        rintro ⟨g221, v222⟩ a X26 h1 h2 h3 h4 hS
        clear BB
        clear FK2
        replace hS : Below V.heap.size V X26 ∧ (KpA V S a0 x0 X26 v219 (na + i + 1) v222 (nx + i + 1)) := hS
        obtain ⟨BB, FK3⟩ := hS
        replace t0 := (h3 0 (by decide)).trans t0
        replace t10 := (h3 10 (by decide)).trans t10
        replace t11 := (h3 11 (by decide)).trans t11
        replace t13 := (h3 13 (by decide)).trans t13
        replace t16 := (h3 16 (by decide)).trans t16
        replace t19 : a.eval (.tmp 19) = v222 := h4 3 _ rfl _ rfl
        replace t21 := (h3 21 (by decide)).trans t21
        replace t23 := (h3 23 (by decide)).trans t23
        replace t24 := (h3 24 (by decide)).trans t24
        replace t27 := (h3 27 (by decide)).trans t27
        replace A := (⟨h1, h2.trans A.2⟩ : a.tmps.size = 309 ∧ a.defers = [])
        clear h1 h2 h3 h4
        refine wp_region_sq (σ := Unit) 309 [(0, 215), (1, 216), (2, 27)] (fun j_ s X => match j_ with | 0 => Below V.heap.size V X ∧ (KpA V S a0 x0 X v219 (na + i + 1) v222 (nx + i + 1)) | 1 => Below V.heap.size V X ∧ (KpA V S a0 x0 X v219 (na + i + 1) v222 (nx + i + 1)) | 2 => Below V.heap.size V X ∧ (KpA V S a0 x0 X v219 (na + i + 1) v222 (nx + i + 1)) | _ => Below V.heap.size V X ∧ (KpA V S a0 x0 X v219 (na + i + 1) v222 (nx + i + 1))) (fun s => fun i_ => match i_ with | 0 => .int .i64 ((i : Nat) : Int) | 1 => .int .i64 ((i + 1 : Nat) : Int) | 2 => .int .i64 ((i + 1 : Nat) : Int) | _ => undef) () A.1 (by kernel_rfl) (by decide) (by decide) ⟨BB, FK3⟩ ?_ ?_
        · intro i_ hi_ s a X hf hv hn hS
          match i_, hi_ with
          | 0, _ => exact stepV rfl rfl (execMvB rfl ((hn 2 (by omega) _ rfl _ rfl).trans t27)) ⟨s, ⟨_, rfl, rfl⟩, hS, fun _ _ => rfl⟩
          | 1, _ => exact stepV rfl rfl (execAd8 (p := i) (q := 1) rfl (hv 0 (by omega) _ rfl _ rfl) rfl (by omega)) ⟨s, ⟨_, rfl, rfl⟩, hS, fun _ _ => rfl⟩
          | 2, _ => exact stepV rfl rfl (execAsgB rfl (hv 1 (by omega) _ rfl _ rfl)) ⟨s, ⟨_, rfl, rfl⟩, hS, fun _ _ => rfl⟩
          | k_ + 3, h_ => exact absurd h_ (by simp)
        rintro _ a X24 h1 h2 h3 h4 hS
        clear BB
        clear FK3
        replace hS : Below V.heap.size V X24 ∧ (KpA V S a0 x0 X24 v219 (na + i + 1) v222 (nx + i + 1)) := hS
        obtain ⟨BB, FK3⟩ := hS
        replace t0 := (h3 0 (by decide)).trans t0
        replace t10 := (h3 10 (by decide)).trans t10
        replace t11 := (h3 11 (by decide)).trans t11
        replace t13 := (h3 13 (by decide)).trans t13
        replace t16 := (h3 16 (by decide)).trans t16
        replace t19 := (h3 19 (by decide)).trans t19
        replace t21 := (h3 21 (by decide)).trans t21
        replace t23 := (h3 23 (by decide)).trans t23
        replace t24 := (h3 24 (by decide)).trans t24
        replace t27 : a.eval (.tmp 27) = .int .i64 ((i + 1 : Nat) : Int) := h4 2 _ rfl _ rfl
        replace A := (⟨h1, h2.trans A.2⟩ : a.tmps.size = 309 ∧ a.defers = [])
        clear h1 h2 h3 h4
        exact ⟨⟨i + 1, _, _, hlt, A, t0, t10, t11, t13, t16, t19, t21, t23, t24, t27, BB, FK3⟩, by show 20 - (intOf (a.eval (.tmp 27))).toNat < 20 - (intOf (Act.eval _ (.tmp 27))).toNat; rw [t27, es]; show 20 - (i + 1) < 20 - i; omega⟩
      · rw [decide_eq_false hlt] at t214
        refine wp_cond_false t214 ?_
        refine wp_exit ?_
        first | refine exit_in ?_ | refine exit_then (exit_in ?_) | refine exit_then (exit_then (exit_in ?_))
        clear t214 t27 es
        have hi20 : i = 20 := by omega
        subst hi20
        clear hlt hi
        have hsa2 := FK.shA
        have hsx2 := FK.shX
        have FPr := own_sv FP FK.sav (fun k e => Option.some.inj e ▸ dP)
        have FBr := own_sv FB FK.sav (fun k e => Option.some.inj e ▸ dB)
        replace FVb := sliceI_sv FVb FK.sav (fun k e => (dVb k e).1)
        replace FVk := sliceI_sv FVk FK.sav (fun k e => (dVk k e).1)
        replace FVy := sliceN_sv FVy FK.sav (fun k e => (dVy k e).1)
        have FPi := sliceN_cg (own_pre FPr hfp) hpp
        rw [← hip] at FPi
        have FPv := hpv.on BB
        have BW := BB
        clear BB FK FP FB
        refine wp_seq ?_
        refine wp_seq ?_
        refine wp_region_sq (σ := Unit) 309 [(0, 223), (1, 224), (2, 225), (3, 226), (4, 227), (5, 228), (6, 229), (7, 230), (8, 231), (9, 232), (10, 233), (11, 234), (12, 235), (13, 236), (14, 237), (15, 238), (16, 239)] (fun j_ s X => match j_ with | 0 => Below X23.heap.size X23 X | 1 => Below X23.heap.size X23 X | 2 => Below X23.heap.size X23 X | 3 => Below X23.heap.size X23 X | 4 => Below X23.heap.size X23 X | 5 => Below X23.heap.size X23 X | 6 => Below X23.heap.size X23 X | 7 => Below X23.heap.size X23 X | 8 => Below X23.heap.size X23 X | 9 => Below X23.heap.size X23 X | 10 => Below X23.heap.size X23 X | 11 => Below X23.heap.size X23 X | 12 => Below X23.heap.size X23 X | 13 => Below X23.heap.size X23 X | 14 => Below X23.heap.size X23 X | 15 => Below X23.heap.size X23 X | 16 => Below X23.heap.size X23 X | _ => Below X23.heap.size X23 X) (fun s => fun i_ => match i_ with | 0 => vb | 1 => vk | 2 => .bool true | 3 => .bool false | 4 => .bool false | 5 => vy | 6 => .string (strN (qy) (nx)) | 7 => .string (strN (qy) (nx)) | 8 => .bool false | 9 => .bool false | 10 => .bool false | 11 => ip | 12 => .string (strN (p) (l)) | 13 => pv | 14 => .string (strN (p) (l)) | 15 => .bool false | 16 => .bool false | _ => undef) () A.1 (by kernel_rfl) (by decide) (by decide) (Below.refl _ _) ?_ ?_
        · intro i_ hi_ s a X hf hv hn hS
          match i_, hi_ with
          | 0, _ => exact stepV rfl rfl (execMvB rfl ((hf 16 (by decide)).trans t16)) ⟨s, ⟨_, rfl, rfl⟩, hS, fun _ _ => rfl⟩
          | 1, _ => exact stepV rfl rfl (execMvB rfl ((hf 23 (by decide)).trans t23)) ⟨s, ⟨_, rfl, rfl⟩, hS, fun _ _ => rfl⟩
          | 2, _ => exact stepC rfl rfl (execCall2 Try.func18 (by kernel_rfl) (by kernel_rfl) rfl (hv 0 (by omega) _ rfl _ rfl) (hv 1 (by omega) _ rfl _ rfl)) (sameI _ _ (nb) _ _ X (FVb.on hS) (FVk.on hS) (by intro i hi; rfl) (by omega)) fun e w' hh => ⟨_, hh.1, s, ⟨_, rfl, rfl⟩, (hS).trans ((hh.2).mono (hS).size), fun _ _ => rfl⟩
          | 3, _ => exact stepV rfl rfl (execNot8 rfl (hv 2 (by omega) _ rfl _ rfl)) ⟨s, ⟨_, rfl, rfl⟩, hS, fun _ _ => rfl⟩
          | 4, _ => exact stepV rfl rfl (execMvB rfl (hv 3 (by omega) _ rfl _ rfl)) ⟨s, ⟨_, rfl, rfl⟩, hS, fun _ _ => rfl⟩
          | 5, _ => exact stepV rfl (wantedOf rfl (yieldedAt rfl rfl (show a.eval (.tmp 227) = .bool false from (hv 4 (by omega) _ rfl _ rfl)))) (execMvB rfl ((hf 21 (by decide)).trans t21)) ⟨s, ⟨_, rfl, rfl⟩, hS, fun _ _ => rfl⟩
          | 6, _ => exact stepV rfl (wantedOf rfl (yieldedAt rfl rfl (show a.eval (.tmp 227) = .bool false from (hv 4 (by omega) _ rfl _ rfl)))) (By8.execStr rfl (hv 5 (by omega) _ rfl _ rfl) (FVy.on hS)) ⟨s, ⟨_, rfl, rfl⟩, hS, fun _ _ => rfl⟩
          | 7, _ => exact stepV rfl (wantedOf rfl (yieldedAt rfl rfl (show a.eval (.tmp 227) = .bool false from (hv 4 (by omega) _ rfl _ rfl)))) (execMvB rfl ((hf 24 (by decide)).trans t24)) ⟨s, ⟨_, rfl, rfl⟩, hS, fun _ _ => rfl⟩
          | 8, _ => exact stepV rfl (wantedOf rfl (yieldedAt rfl rfl (show a.eval (.tmp 227) = .bool false from (hv 4 (by omega) _ rfl _ rfl)))) (By8.execNeqS rfl (hv 6 (by omega) _ rfl _ rfl) (hv 7 (by omega) _ rfl _ rfl)) ⟨s, ⟨_, rfl, rfl⟩, hS, fun _ _ => rfl⟩
          | 9, _ => exact stepV rfl rfl (execPickF rfl (hv 4 (by omega) _ rfl _ rfl) (hv 8 (by omega) _ rfl _ rfl)) ⟨s, ⟨_, rfl, rfl⟩, hS, fun _ _ => rfl⟩
          | 10, _ => exact stepV rfl rfl (execMvB rfl (hv 9 (by omega) _ rfl _ rfl)) ⟨s, ⟨_, rfl, rfl⟩, hS, fun _ _ => rfl⟩
          | 11, _ => exact stepV rfl (wantedOf rfl (yieldedAt rfl rfl (show a.eval (.tmp 233) = .bool false from (hv 10 (by omega) _ rfl _ rfl)))) (execMvB rfl ((hf 10 (by decide)).trans t10)) ⟨s, ⟨_, rfl, rfl⟩, hS, fun _ _ => rfl⟩
          | 12, _ => exact stepV rfl (wantedOf rfl (yieldedAt rfl rfl (show a.eval (.tmp 233) = .bool false from (hv 10 (by omega) _ rfl _ rfl)))) (By8.execStr rfl (hv 11 (by omega) _ rfl _ rfl) (FPi.on hS)) ⟨s, ⟨_, rfl, rfl⟩, hS, fun _ _ => rfl⟩
          | 13, _ => exact stepV rfl (wantedOf rfl (yieldedAt rfl rfl (show a.eval (.tmp 233) = .bool false from (hv 10 (by omega) _ rfl _ rfl)))) (execMvB rfl ((hf 0 (by decide)).trans t0)) ⟨s, ⟨_, rfl, rfl⟩, hS, fun _ _ => rfl⟩
          | 14, _ => exact stepV rfl (wantedOf rfl (yieldedAt rfl rfl (show a.eval (.tmp 233) = .bool false from (hv 10 (by omega) _ rfl _ rfl)))) (By8.execStr rfl (hv 13 (by omega) _ rfl _ rfl) (FPv.on hS)) ⟨s, ⟨_, rfl, rfl⟩, hS, fun _ _ => rfl⟩
          | 15, _ => exact stepV rfl (wantedOf rfl (yieldedAt rfl rfl (show a.eval (.tmp 233) = .bool false from (hv 10 (by omega) _ rfl _ rfl)))) (By8.execNeqS rfl (hv 12 (by omega) _ rfl _ rfl) (hv 14 (by omega) _ rfl _ rfl)) ⟨s, ⟨_, rfl, rfl⟩, hS, fun _ _ => rfl⟩
          | 16, _ => exact stepV rfl rfl (execPickF rfl (hv 10 (by omega) _ rfl _ rfl) (hv 15 (by omega) _ rfl _ rfl)) ⟨s, ⟨_, rfl, rfl⟩, hS, fun _ _ => rfl⟩
          | k_ + 17, h_ => exact absurd h_ (by simp)
        rintro _ a X27 h1 h2 h3 h4 hS
        replace hS : Below X23.heap.size X23 X27 := hS
        have bX := hS
        clear hS
        replace t10 := (h3 10 (by decide)).trans t10
        replace t11 := (h3 11 (by decide)).trans t11
        replace t13 := (h3 13 (by decide)).trans t13
        replace t16 := (h3 16 (by decide)).trans t16
        replace t19 := (h3 19 (by decide)).trans t19
        replace t21 := (h3 21 (by decide)).trans t21
        replace t23 := (h3 23 (by decide)).trans t23
        replace t24 := (h3 24 (by decide)).trans t24
        have t239 : a.eval (.tmp 239) = .bool false := h4 16 _ rfl _ rfl
        replace FPr := (ownsRow_below FPr bX)
        replace FBr := (ownD_below FBr bX)
        replace FVb := (FVb.on bX)
        replace FVk := (FVk.on bX)
        replace FVy := (FVy.on bX)
        replace FPi := (FPi.on bX)
        replace FPv := (FPv.on bX)
        have ZX27 := bX.size
        replace BW := BW.trans (bX.mono BW.size)
        clear bX
        replace A := (⟨h1, h2.trans A.2⟩ : a.tmps.size = 309 ∧ a.defers = [])
        clear h1 h2 h3 h4
        clear t0
        refine wp_cond_false t239 ?_
        refine wp_skip ?_
        clear t239
        rw [hip] at t10
        rw [hib] at t11
        exact keepsB I V X27 l n gp cp gb cb (na + 20) (nx + 20) nb nx va vx vb vk vy fa qy hl (by omega) (by omega) BW ⟨BW, Saved.refl _ _, ⟨fp, FPr, hfp⟩, ⟨fb, FBr, hfb⟩⟩ hsa2 (by omega) hsx2 (by omega) FVb FVk FVy (fun k e => (dVb k e).2) (fun k e => (dVk k e).2) (fun k e => (dVy k e).2) a A t10 t11 t13 t16 t19 t21 t23 t24
end Go.Proofs.Ytpclecbhfjalnaa.Drw
