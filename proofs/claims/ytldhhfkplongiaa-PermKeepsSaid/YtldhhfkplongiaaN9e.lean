import Derived.Test.YtldhhfkplongiaaN9d
namespace Go.Proofs.Ytldhhfkplongiaa.Prm
open Go.RowKit Gf8 Aes By8 Cel Cf Tap Drw
/- PermKeeps: the copies. Written by tools/mkN9e.py. -/

theorem nnK_c {f g : Nat → Int} {n m t c : Nat} (h2 : 2 ≤ t) (hc : (t - 2) % 9 = c) : nnK f g n m t = lenC f g n m c := by unfold nnK; rw [if_neg (by omega), if_neg (by omega), hc]
theorem ffK_c {f g : Nat → Int} {n m t c : Nat} (h2 : 2 ≤ t) (hc : (t - 2) % 9 = c) : ffK f g n m t = funC f g n m c := by unfold ffK; rw [if_neg (by omega), if_neg (by omega), hc]
theorem lit1 (x : Nat → Value) (i : Nat) (v : Value) : ∀ j, j < 1 → (#[v] : Array Value)[j]? = some (updX x (20 + i) v (20 + (i + j))) := fun j hj => by
  obtain rfl : j = 0 := by omega
  exact (congrArg some (updX_at x (20 + i) v)).symm
section
variable {B k gr cr n m : Nat} {x : Nat → Value} {f g : Nat → Int} {W : World}
theorem FmI.inX (h : FmI B k x (nnK f g n m) (ffK f g n m) W) (hk : 0 < k) (e0 : x 0 = .slice (some ⟨gr, 0, none⟩) (nnK f g n m 0) cr) (hf : ∀ j, j < n → -9223372036854775808 ≤ f j ∧ f j < 9223372036854775808) : SliceI W (.slice (some ⟨gr, 0, none⟩) n cr) n f := by
  have h1 := h.rows 0 hk
  rw [e0] at h1
  have h2 : W.ownsRow B 3 1 (.slice (some ⟨gr, 0, none⟩) (n + 2) cr) (n + 2) (intsL (n + 2) (catI n f (fun j => if j = 0 then -77 else -78))) := h1
  exact (own_preI h2 (catI_fits hf (two_fits (by omega) (by omega)))).cg fun j hj => catI_lo hj
theorem FmI.inY (h : FmI B k x (nnK f g n m) (ffK f g n m) W) (hk : 1 < k) (e1 : x 1 = .slice (some ⟨gr, 0, none⟩) (nnK f g n m 1) cr) (hg : ∀ j, j < m → -9223372036854775808 ≤ g j ∧ g j < 9223372036854775808) : SliceI W (.slice (some ⟨gr, 0, none⟩) m cr) m g := by
  have h1 := h.rows 1 hk
  rw [e1] at h1
  have h2 : W.ownsRow B 3 1 (.slice (some ⟨gr, 0, none⟩) (m + 2) cr) (m + 2) (intsL (m + 2) (catI m g (fun j => if j = 0 then -79 else -80))) := h1
  exact (own_preI h2 (catI_fits hg (two_fits (by omega) (by omega)))).cg fun j hj => catI_lo hj
theorem FmI.cX (h : FmI B k x (nnK f g n m) (ffK f g n m) W) (hk : 0 < k) (e0 : x 0 = .slice (some ⟨gr, 0, none⟩) (nnK f g n m 0) cr) : W.cell? ⟨gr, 0 + n, none⟩ = some (.int .i64 (-77)) ∧ W.cell? ⟨gr, 0 + (n + 1), none⟩ = some (.int .i64 (-78)) := by
  have a1 := (h.cell hk e0 (j := n) (show n < n + 2 by omega)).1
  have a2 := (h.cell hk e0 (j := n + 1) (show n + 1 < n + 2 by omega)).1
  have d1 : catI n f (fun j => if j = 0 then (-77 : Int) else -78) (n + 0) = (fun j => if j = 0 then (-77 : Int) else -78) 0 := catI_hi
  have d2 : catI n f (fun j => if j = 0 then (-77 : Int) else -78) (n + 1) = (fun j => if j = 0 then (-77 : Int) else -78) 1 := catI_hi
  have b1 : ffK f g n m 0 n = -77 := d1
  have b2 : ffK f g n m 0 (n + 1) = -78 := d2
  rw [b1] at a1
  rw [b2] at a2
  exact ⟨a1, a2⟩
theorem FmI.cY (h : FmI B k x (nnK f g n m) (ffK f g n m) W) (hk : 1 < k) (e1 : x 1 = .slice (some ⟨gr, 0, none⟩) (nnK f g n m 1) cr) : W.cell? ⟨gr, 0 + m, none⟩ = some (.int .i64 (-79)) ∧ W.cell? ⟨gr, 0 + (m + 1), none⟩ = some (.int .i64 (-80)) := by
  have a1 := (h.cell hk e1 (j := m) (show m < m + 2 by omega)).1
  have a2 := (h.cell hk e1 (j := m + 1) (show m + 1 < m + 2 by omega)).1
  have d1 : catI m g (fun j => if j = 0 then (-79 : Int) else -80) (m + 0) = (fun j => if j = 0 then (-79 : Int) else -80) 0 := catI_hi
  have d2 : catI m g (fun j => if j = 0 then (-79 : Int) else -80) (m + 1) = (fun j => if j = 0 then (-79 : Int) else -80) 1 := catI_hi
  have b1 : ffK f g n m 1 m = -79 := d1
  have b2 : ffK f g n m 1 (m + 1) = -80 := d2
  rw [b1] at a1
  rw [b2] at a2
  exact ⟨a1, a2⟩
end
set_option maxRecDepth 100000 in
set_option maxHeartbeats 4000000 in
/-- PermKeeps, from region 17: the copies. -/
theorem keeps17 (I : Impl) (V : World) (f g : Nat → Int) (n m : Nat) (pv qv : Value) (hp : SliceI V pv n f) (hq : SliceI V qv m g) (hn17 : n ≤ 17592186043904) (hm17 : m ≤ 17592186043904) (S : World) (x : Nat → Value) (gl cl gr cr gs cs : Nat) (BB : Below V.heap.size V S) (e0 : x 0 = .slice (some ⟨gr, 0, none⟩) (nnK f g n m 0) cr) (e1 : x 1 = .slice (some ⟨gs, 0, none⟩) (nnK f g n m 1) cs) (FK1 : (K1 V S 20 x (nnK f g n m) (ffK f g n m) (.slice (some ⟨gl, 0, none⟩) 18 cl) 18))
    (a : Act) (A : a.tmps.size = 312 ∧ a.defers = []) (t0 : a.eval (.tmp 0) = pv) (t1 : a.eval (.tmp 1) = qv) (t5 : a.eval (.tmp 5) = .slice (some ⟨gr, 0, none⟩) (n + 2) cr) (t6 : a.eval (.tmp 6) = .slice (some ⟨gs, 0, none⟩) (m + 2) cs) (t7 : a.eval (.tmp 7) = .slice (some ⟨gr, 0, none⟩) n cr) (t8 : a.eval (.tmp 8) = .slice (some ⟨gs, 0, none⟩) m cs) (t9 : a.eval (.tmp 9) = .slice (some ⟨gl, 0, none⟩) 18 cl) (t10 : a.eval (.tmp 10) = .slice none 0 0) :
    (findR 17 (Try.f3.body.getD .skip)).wp Try.prog (bodyPost Try.prog Try.f3 fun e w' => e = .returned (.bool true) ∧ Below V.heap.size V w') a S := by
  have FI := hp
  have FJ := hq
  refine wp_seq ?_
  refine wp_seq ?_
  refine wp_region_sq (σ := Unit) 312 [(0, 26)] (fun j_ s X => match j_ with | 0 => Below V.heap.size V X ∧ (K1 V X 20 x (nnK f g n m) (ffK f g n m) (.slice (some ⟨gl, 0, none⟩) 18 cl) 18) | _ => Below V.heap.size V X ∧ (K1 V X 20 x (nnK f g n m) (ffK f g n m) (.slice (some ⟨gl, 0, none⟩) 18 cl) 18)) (fun s => fun i_ => match i_ with | 0 => .int .i64 ((0 : Nat) : Int) | _ => undef) () A.1 (by kernel_rfl) (by decide) (by decide) ⟨BB, FK1⟩ ?_ ?_
  · intro i_ hi_ s a X hf hv hn hS
    match i_, hi_ with
    | 0, _ => exact stepV rfl rfl (execAsgB rfl rfl) ⟨s, ⟨_, rfl, rfl⟩, hS, fun _ _ => rfl⟩
    | k_ + 1, h_ => exact absurd h_ (by simp)
  rintro _ a X17 h1 h2 h3 h4 hS
  clear BB
  clear FK1
  replace hS : Below V.heap.size V X17 ∧ (K1 V X17 20 x (nnK f g n m) (ffK f g n m) (.slice (some ⟨gl, 0, none⟩) 18 cl) 18) := hS
  obtain ⟨BB, FK1⟩ := hS
  replace t0 := (h3 0 (by decide)).trans t0
  replace t1 := (h3 1 (by decide)).trans t1
  replace t5 := (h3 5 (by decide)).trans t5
  replace t6 := (h3 6 (by decide)).trans t6
  replace t7 := (h3 7 (by decide)).trans t7
  replace t8 := (h3 8 (by decide)).trans t8
  replace t9 := (h3 9 (by decide)).trans t9
  replace t10 := (h3 10 (by decide)).trans t10
  have t26 : a.eval (.tmp 26) = .int .i64 ((0 : Nat) : Int) := h4 0 _ rfl _ rfl
  replace A := (⟨h1, h2.trans A.2⟩ : a.tmps.size = 312 ∧ a.defers = [])
  clear h1 h2 h3 h4
  obtain ⟨bw, hbw⟩ : ∃ bw, bw = X17.heap.size := ⟨_, rfl⟩
  have FK : K2 V X17 (20 + 0) x (nnK f g n m) (ffK f g n m) (.slice (some ⟨gl, 0, none⟩) 18 cl) (.slice none 0 0) bw 0 := ⟨FK1, World.ownsRow_nil _ _ _ _, fun g e => by rw [hbw]; exact (FK1.li.lt g e).2, by rw [hbw]; exact FK1.bel.size, by rw [hbw]; exact Nat.le_refl _⟩
  clear FK1 hbw
  refine wp_block ?_
  refine wp_loop (fun a W => ∃ (i : Nat) (xx : Nat → Value) (wv : Value), i ≤ 18 ∧ (xx 0 = .slice (some ⟨gr, 0, none⟩) (nnK f g n m 0) cr) ∧ (xx 1 = .slice (some ⟨gs, 0, none⟩) (nnK f g n m 1) cs) ∧ (a.tmps.size = 312 ∧ a.defers = []) ∧ a.eval (.tmp 0) = pv ∧ a.eval (.tmp 1) = qv ∧ a.eval (.tmp 5) = .slice (some ⟨gr, 0, none⟩) (n + 2) cr ∧ a.eval (.tmp 6) = .slice (some ⟨gs, 0, none⟩) (m + 2) cs ∧ a.eval (.tmp 7) = .slice (some ⟨gr, 0, none⟩) n cr ∧ a.eval (.tmp 8) = .slice (some ⟨gs, 0, none⟩) m cs ∧ a.eval (.tmp 9) = .slice (some ⟨gl, 0, none⟩) 18 cl ∧ a.eval (.tmp 10) = wv ∧ a.eval (.tmp 26) = .int .i64 ((i : Nat) : Int) ∧ Below V.heap.size V W ∧ (K2 V W (20 + i) xx (nnK f g n m) (ffK f g n m) (.slice (some ⟨gl, 0, none⟩) 18 cl) wv bw i)) (fun a _ => 18 - (intOf (a.eval (.tmp 26))).toNat) ⟨0, x, _, Nat.zero_le _, e0, e1, A, t0, t1, t5, t6, t7, t8, t9, t10, t26, BB, FK⟩ ?_
  clear A t0 t1 t5 t6 t7 t8 t9 t10 t26 BB FK a
  rintro a XL18 ⟨i, xx, wv, hi, e0, e1, A, t0, t1, t5, t6, t7, t8, t9, t10, t26, BB, FK⟩
  have esi := t26
  refine wp_seq ?_
  refine wp_seq ?_
  refine wp_region_sq (σ := Unit) 312 [(0, 124), (1, 125), (2, 126), (3, 127)] (fun j_ s X => match j_ with | 0 => Below V.heap.size V X ∧ (K2 V X (20 + i) xx (nnK f g n m) (ffK f g n m) (.slice (some ⟨gl, 0, none⟩) 18 cl) wv bw i) | 1 => Below V.heap.size V X ∧ (K2 V X (20 + i) xx (nnK f g n m) (ffK f g n m) (.slice (some ⟨gl, 0, none⟩) 18 cl) wv bw i) | 2 => Below V.heap.size V X ∧ (K2 V X (20 + i) xx (nnK f g n m) (ffK f g n m) (.slice (some ⟨gl, 0, none⟩) 18 cl) wv bw i) | 3 => Below V.heap.size V X ∧ (K2 V X (20 + i) xx (nnK f g n m) (ffK f g n m) (.slice (some ⟨gl, 0, none⟩) 18 cl) wv bw i) | _ => Below V.heap.size V X ∧ (K2 V X (20 + i) xx (nnK f g n m) (ffK f g n m) (.slice (some ⟨gl, 0, none⟩) 18 cl) wv bw i)) (fun s => fun i_ => match i_ with | 0 => .int .i64 ((i : Nat) : Int) | 1 => .slice (some ⟨gl, 0, none⟩) 18 cl | 2 => .int .i64 ((18 : Nat) : Int) | 3 => .bool (decide (i < 18)) | _ => undef) () A.1 (by kernel_rfl) (by decide) (by decide) ⟨BB, FK⟩ ?_ ?_
  · intro i_ hi_ s a X hf hv hn hS
    match i_, hi_ with
    | 0, _ => exact stepV rfl rfl (execMvB rfl ((hf 26 (by decide)).trans t26)) ⟨s, ⟨_, rfl, rfl⟩, hS, fun _ _ => rfl⟩
    | 1, _ => exact stepV rfl rfl (execMvB rfl ((hf 9 (by decide)).trans t9)) ⟨s, ⟨_, rfl, rfl⟩, hS, fun _ _ => rfl⟩
    | 2, _ => exact stepV rfl rfl (execLenLI (len := 18) rfl (hv 1 (by omega) _ rfl _ rfl) ⟨_, _, rfl⟩) ⟨s, ⟨_, rfl, rfl⟩, hS, fun _ _ => rfl⟩
    | 3, _ => exact stepV rfl rfl (execLtW (p := i) (q := 18) rfl (hv 0 (by omega) _ rfl _ rfl) (hv 2 (by omega) _ rfl _ rfl)) ⟨s, ⟨_, rfl, rfl⟩, hS, fun _ _ => rfl⟩
    | k_ + 4, h_ => exact absurd h_ (by simp)
  rintro _ a X18 h1 h2 h3 h4 hS
  clear BB
  clear FK
  replace hS : Below V.heap.size V X18 ∧ (K2 V X18 (20 + i) xx (nnK f g n m) (ffK f g n m) (.slice (some ⟨gl, 0, none⟩) 18 cl) wv bw i) := hS
  obtain ⟨BB, FK⟩ := hS
  replace t0 := (h3 0 (by decide)).trans t0
  replace t1 := (h3 1 (by decide)).trans t1
  replace t5 := (h3 5 (by decide)).trans t5
  replace t6 := (h3 6 (by decide)).trans t6
  replace t7 := (h3 7 (by decide)).trans t7
  replace t8 := (h3 8 (by decide)).trans t8
  replace t9 := (h3 9 (by decide)).trans t9
  replace t10 := (h3 10 (by decide)).trans t10
  replace t26 := (h3 26 (by decide)).trans t26
  have t127 : a.eval (.tmp 127) = .bool (decide (i < 18)) := h4 3 _ rfl _ rfl
  replace A := (⟨h1, h2.trans A.2⟩ : a.tmps.size = 312 ∧ a.defers = [])
  clear h1 h2 h3 h4
  by_cases lti : i < 18
  · rw [decide_eq_true lti] at t127
    refine wp_cond_true t127 ?_
    refine wp_skip ?_
    clear t127
    refine wp_seq ?_
    refine wp_block ?_
    refine wp_region_sq (σ := Nat × Nat × Value × Nat × Value) 312 [(0, 130), (1, 131), (2, 132), (3, 133), (4, 134), (5, 135), (6, 136), (7, 137), (8, 138), (9, 10)] (fun j_ s X => match j_ with | 0 => Below V.heap.size V X ∧ (K2 V X (20 + i) xx (nnK f g n m) (ffK f g n m) (.slice (some ⟨gl, 0, none⟩) 18 cl) wv bw i) | 1 => Below V.heap.size V X ∧ (K2 V X (20 + i) xx (nnK f g n m) (ffK f g n m) (.slice (some ⟨gl, 0, none⟩) 18 cl) wv bw i) | 2 => Below V.heap.size V X ∧ (K2 V X (20 + i) xx (nnK f g n m) (ffK f g n m) (.slice (some ⟨gl, 0, none⟩) 18 cl) wv bw i) ∧ (X.ownsRow s.2.1 3 1 (.slice (some ⟨s.1, 0, none⟩) 0 0) 0 (intsL 0 (fun _ => 0))) ∧ (∀ t, t < 20 + i → ∀ b, (xx t).ownBlock = some b → b < s.2.1) ∧ (V.heap.size ≤ s.2.1) ∧ (s.2.1 ≤ X.heap.size) | 3 => Below V.heap.size V X ∧ (K2 V X (20 + i) xx (nnK f g n m) (ffK f g n m) (.slice (some ⟨gl, 0, none⟩) 18 cl) wv bw i) ∧ (X.ownsRow s.2.1 3 1 (.slice (some ⟨s.1, 0, none⟩) 0 0) 0 (intsL 0 (fun _ => 0))) ∧ (∀ t, t < 20 + i → ∀ b, (xx t).ownBlock = some b → b < s.2.1) ∧ (V.heap.size ≤ s.2.1) ∧ (s.2.1 ≤ X.heap.size) | 4 => Below V.heap.size V X ∧ (K2 V X (20 + i) xx (nnK f g n m) (ffK f g n m) (.slice (some ⟨gl, 0, none⟩) 18 cl) wv bw i) ∧ (X.ownsRow s.2.1 3 1 (.slice (some ⟨s.1, 0, none⟩) 0 0) 0 (intsL 0 (fun _ => 0))) ∧ (∀ t, t < 20 + i → ∀ b, (xx t).ownBlock = some b → b < s.2.1) ∧ (V.heap.size ≤ s.2.1) ∧ (s.2.1 ≤ X.heap.size) | 5 => Below V.heap.size V X ∧ (K2 V X (20 + i) xx (nnK f g n m) (ffK f g n m) (.slice (some ⟨gl, 0, none⟩) 18 cl) wv bw i) ∧ (X.ownsRow s.2.1 3 1 (.slice (some ⟨s.1, 0, none⟩) 0 0) 0 (intsL 0 (fun _ => 0))) ∧ (∀ t, t < 20 + i → ∀ b, (xx t).ownBlock = some b → b < s.2.1) ∧ (V.heap.size ≤ s.2.1) ∧ (s.2.1 ≤ X.heap.size) | 6 => Below V.heap.size V X ∧ (K2 V X (20 + i) xx (nnK f g n m) (ffK f g n m) (.slice (some ⟨gl, 0, none⟩) 18 cl) wv bw i) ∧ (X.ownsRow s.2.1 3 1 (.slice (some ⟨s.1, 0, none⟩) 0 0) 0 (intsL 0 (fun _ => 0))) ∧ (∀ t, t < 20 + i → ∀ b, (xx t).ownBlock = some b → b < s.2.1) ∧ (V.heap.size ≤ s.2.1) ∧ (s.2.1 ≤ X.heap.size) | 7 => Below V.heap.size V X ∧ (V.heap.size ≤ s.2.1) ∧ (K2 V X (20 + i + 1) (updX xx (20 + i) s.2.2.1) (nnK f g n m) (ffK f g n m) (.slice (some ⟨gl, 0, none⟩) 18 cl) wv bw i) | 8 => Below V.heap.size V X ∧ (V.heap.size ≤ s.2.1) ∧ (K2 V X (20 + i + 1) (updX xx (20 + i) s.2.2.1) (nnK f g n m) (ffK f g n m) (.slice (some ⟨gl, 0, none⟩) 18 cl) wv bw i) ∧ (X.heap[s.2.2.2.1]? = some (.cells #[s.2.2.1] 22)) | 9 => Below V.heap.size V X ∧ (V.heap.size ≤ s.2.1) ∧ (K2 V X (20 + i + 1) (updX xx (20 + i) s.2.2.1) (nnK f g n m) (ffK f g n m) (.slice (some ⟨gl, 0, none⟩) 18 cl) s.2.2.2.2 bw (i + 1)) | _ => Below V.heap.size V X ∧ (V.heap.size ≤ s.2.1) ∧ (K2 V X (20 + i + 1) (updX xx (20 + i) s.2.2.1) (nnK f g n m) (ffK f g n m) (.slice (some ⟨gl, 0, none⟩) 18 cl) s.2.2.2.2 bw (i + 1))) (fun s => fun i_ => match i_ with | 0 => wv | 1 => .slice (some ⟨s.1, 0, none⟩) 0 0 | 2 => .slice (some ⟨gl, 0, none⟩) 18 cl | 3 => .int .i64 ((i : Nat) : Int) | 4 => .pointer (some ⟨gl, 0 + i, none⟩) | 5 => xx (2 + i) | 6 => s.2.2.1 | 7 => .slice (some ⟨s.2.2.2.1, 0, none⟩) 1 1 | 8 => s.2.2.2.2 | 9 => s.2.2.2.2 | _ => undef) (0, 0, undef, 0, undef) A.1 (by kernel_rfl) (by decide) (by decide) ⟨BB, FK⟩ ?_ ?_
    · intro i_ hi_ s a X hf hv hn hS
      match i_, hi_ with
      | 0, _ => exact stepV rfl rfl (execMvB rfl ((hn 9 (by omega) _ rfl _ rfl).trans t10)) ⟨s, ⟨_, rfl, rfl⟩, hS, fun _ _ => rfl⟩
      | 1, _ =>
        refine stepV rfl rfl (execBs0I rfl) ⟨(X.heap.size, X.heap.size, s.2.2.1, s.2.2.2.1, s.2.2.2.2), ⟨_, rfl, rfl⟩, ⟨(hS.1).trans (((belNew X _)).mono (hS.1).size), (hS.2.on (belNew X _)), own_noneI X _, hS.2.k1.blt, (hS.1).size, (belNew X _).size⟩, fun i hi => ?_⟩
        match i, hi with
        | 0, _ => rfl
        | n_ + 1, h_ => omega
      | 2, _ => exact stepV rfl rfl (execMvB rfl ((hf 9 (by decide)).trans t9)) ⟨s, ⟨_, rfl, rfl⟩, hS, fun _ _ => rfl⟩
      | 3, _ => exact stepV rfl rfl (execMvB rfl ((hf 26 (by decide)).trans t26)) ⟨s, ⟨_, rfl, rfl⟩, hS, fun _ _ => rfl⟩
      | 4, _ => exact stepV rfl rfl (execIdxLI (k := i) rfl (hv 2 (by omega) _ rfl _ rfl) (hv 3 (by omega) _ rfl _ rfl) (by omega)) ⟨s, ⟨_, rfl, rfl⟩, hS, fun _ _ => rfl⟩
      | 5, _ => exact stepV rfl rfl (execLdLI rfl (hv 4 (by omega) _ rfl _ rfl) (ownL_cellI (hS.2.1).k1.li (by omega))) ⟨s, ⟨_, rfl, rfl⟩, hS, fun _ _ => rfl⟩
      | 6, _ =>
        refine stepAppIs (f := fun _ => 0) (g := funC f g n m (i % 9)) (m := lenC f g n m (i % 9)) rfl rfl rfl (hv 1 (by omega) _ rfl _ rfl) (hv 5 (by omega) _ rfl _ rfl) hS.2.2.1 (K2.want (t := 2 + i) (c := i % 9) hS.2.1 hq.fits hn17 hm17 rfl (by omega) (by omega) (by omega)) (own_nilI (hS.2.1.k1.fam.rows (2 + i) (by omega))) (by have := lenC_le (f := f) (g := g) (c := i % 9) hn17 hm17; omega) hS.2.2.2.2.2 fun v' W' own' gr => ⟨(s.1, s.2.1, v', s.2.2.2.1, s.2.2.2.2), ⟨_, rfl, rfl⟩, ⟨(hS.1).grown gr (hS.1).size (fun k hk => Nat.le_trans hS.2.2.2.2.1 (hS.2.2.1.lt k hk).1), hS.2.2.2.2.1, (hS.2.1.over hS.2.2.2.1 hS.2.2.2.2.1 hS.2.2.1 gr).add (by omega) hS.2.2.2.1 (own_cat0 own') hS.2.2.2.2.1 (nnK_c (by omega) (by omega)) (fun j _ => by rw [ffK_c (c := i % 9) (by omega) (by omega)])⟩, fun i hi => ?_⟩
        match i, hi with
        | 0, _ => rfl
        | 1, _ => rfl
        | 2, _ => rfl
        | 3, _ => rfl
        | 4, _ => rfl
        | 5, _ => rfl
        | n_ + 6, h_ => omega
      | 7, _ =>
        refine stepV rfl rfl (execBsLI rfl (hv 6 (by omega) _ rfl _ rfl) (by have h_ := hS.2.2.k1.shp (t := 20 + i) (by omega); rw [updX_at] at h_; exact h_)) ⟨(s.1, s.2.1, s.2.2.1, X.heap.size, s.2.2.2.2), ⟨_, rfl, rfl⟩, ⟨(hS.1).trans (((belNew X _)).mono (hS.1).size), hS.2.1, (hS.2.2.on (belNew X _)), heapNew X _⟩, fun i hi => ?_⟩
        match i, hi with
        | 0, _ => rfl
        | 1, _ => rfl
        | 2, _ => rfl
        | 3, _ => rfl
        | 4, _ => rfl
        | 5, _ => rfl
        | 6, _ => rfl
        | n_ + 7, h_ => omega
      | 8, _ =>
        refine stepAppLI (z := fun t => updX xx (20 + i) s.2.2.1 (20 + t)) rfl rfl rfl (hv 0 (by omega) _ rfl _ rfl) (hv 7 (by omega) _ rfl _ rfl) hS.2.2.1.wa hS.2.2.2 rfl (lit1 xx i _) (fun j hj => one_shp (hS.2.2.1.k1.shp (t := 20 + (i + j)) (by omega))) (fun _ _ => rfl) (by omega) hS.2.2.1.b2 fun v' W' own' gr => ⟨(s.1, s.2.1, s.2.2.1, s.2.2.2.1, v'), ⟨_, rfl, rfl⟩, ⟨(hS.2.2.1.app own' gr).k1.bel, hS.2.1, hS.2.2.1.app own' gr⟩, fun i hi => ?_⟩
        match i, hi with
        | 0, _ => rfl
        | 1, _ => rfl
        | 2, _ => rfl
        | 3, _ => rfl
        | 4, _ => rfl
        | 5, _ => rfl
        | 6, _ => rfl
        | 7, _ => rfl
        | n_ + 8, h_ => omega
      | 9, _ => exact stepV rfl rfl (execAsgB rfl (hv 8 (by omega) _ rfl _ rfl)) ⟨s, ⟨_, rfl, rfl⟩, hS, fun _ _ => rfl⟩
      | k_ + 10, h_ => exact absurd h_ (by simp)
    rintro ⟨g131, b131, v136, g137, v138⟩ a X20 h1 h2 h3 h4 hS
    clear BB
    clear FK
    replace hS : Below V.heap.size V X20 ∧ (V.heap.size ≤ b131) ∧ (K2 V X20 (20 + i + 1) (updX xx (20 + i) v136) (nnK f g n m) (ffK f g n m) (.slice (some ⟨gl, 0, none⟩) 18 cl) v138 bw (i + 1)) := hS
    obtain ⟨BB, Fc, FKm⟩ := hS
    replace t0 := (h3 0 (by decide)).trans t0
    replace t1 := (h3 1 (by decide)).trans t1
    replace t5 := (h3 5 (by decide)).trans t5
    replace t6 := (h3 6 (by decide)).trans t6
    replace t7 := (h3 7 (by decide)).trans t7
    replace t8 := (h3 8 (by decide)).trans t8
    replace t9 := (h3 9 (by decide)).trans t9
    replace t10 : a.eval (.tmp 10) = v138 := h4 9 _ rfl _ rfl
    replace t26 := (h3 26 (by decide)).trans t26
    replace A := (⟨h1, h2.trans A.2⟩ : a.tmps.size = 312 ∧ a.defers = [])
    clear h1 h2 h3 h4
    refine wp_region_sq (σ := Unit) 312 [(0, 128), (1, 129), (2, 26)] (fun j_ s X => match j_ with | 0 => Below V.heap.size V X ∧ (V.heap.size ≤ b131) ∧ (K2 V X (20 + i + 1) (updX xx (20 + i) v136) (nnK f g n m) (ffK f g n m) (.slice (some ⟨gl, 0, none⟩) 18 cl) v138 bw (i + 1)) | 1 => Below V.heap.size V X ∧ (V.heap.size ≤ b131) ∧ (K2 V X (20 + i + 1) (updX xx (20 + i) v136) (nnK f g n m) (ffK f g n m) (.slice (some ⟨gl, 0, none⟩) 18 cl) v138 bw (i + 1)) | 2 => Below V.heap.size V X ∧ (V.heap.size ≤ b131) ∧ (K2 V X (20 + i + 1) (updX xx (20 + i) v136) (nnK f g n m) (ffK f g n m) (.slice (some ⟨gl, 0, none⟩) 18 cl) v138 bw (i + 1)) | _ => Below V.heap.size V X ∧ (V.heap.size ≤ b131) ∧ (K2 V X (20 + i + 1) (updX xx (20 + i) v136) (nnK f g n m) (ffK f g n m) (.slice (some ⟨gl, 0, none⟩) 18 cl) v138 bw (i + 1))) (fun s => fun i_ => match i_ with | 0 => .int .i64 ((i : Nat) : Int) | 1 => .int .i64 ((i + 1 : Nat) : Int) | 2 => .int .i64 ((i + 1 : Nat) : Int) | _ => undef) () A.1 (by kernel_rfl) (by decide) (by decide) ⟨BB, Fc, FKm⟩ ?_ ?_
    · intro i_ hi_ s a X hf hv hn hS
      match i_, hi_ with
      | 0, _ => exact stepV rfl rfl (execMvB rfl ((hn 2 (by omega) _ rfl _ rfl).trans t26)) ⟨s, ⟨_, rfl, rfl⟩, hS, fun _ _ => rfl⟩
      | 1, _ => exact stepV rfl rfl (execAd8 (p := i) (q := 1) rfl (hv 0 (by omega) _ rfl _ rfl) rfl (by omega)) ⟨s, ⟨_, rfl, rfl⟩, hS, fun _ _ => rfl⟩
      | 2, _ => exact stepV rfl rfl (execAsgB rfl (hv 1 (by omega) _ rfl _ rfl)) ⟨s, ⟨_, rfl, rfl⟩, hS, fun _ _ => rfl⟩
      | k_ + 3, h_ => exact absurd h_ (by simp)
    rintro _ a X19 h1 h2 h3 h4 hS
    clear BB
    clear Fc
    clear FKm
    replace hS : Below V.heap.size V X19 ∧ (V.heap.size ≤ b131) ∧ (K2 V X19 (20 + i + 1) (updX xx (20 + i) v136) (nnK f g n m) (ffK f g n m) (.slice (some ⟨gl, 0, none⟩) 18 cl) v138 bw (i + 1)) := hS
    obtain ⟨BB, Fc, FKm⟩ := hS
    replace t0 := (h3 0 (by decide)).trans t0
    replace t1 := (h3 1 (by decide)).trans t1
    replace t5 := (h3 5 (by decide)).trans t5
    replace t6 := (h3 6 (by decide)).trans t6
    replace t7 := (h3 7 (by decide)).trans t7
    replace t8 := (h3 8 (by decide)).trans t8
    replace t9 := (h3 9 (by decide)).trans t9
    replace t10 := (h3 10 (by decide)).trans t10
    replace t26 : a.eval (.tmp 26) = .int .i64 ((i + 1 : Nat) : Int) := h4 2 _ rfl _ rfl
    replace A := (⟨h1, h2.trans A.2⟩ : a.tmps.size = 312 ∧ a.defers = [])
    clear h1 h2 h3 h4
    exact ⟨⟨i + 1, _, _, lti, (updX_lt _ _ (by omega)).trans e0, (updX_lt _ _ (by omega)).trans e1, A, t0, t1, t5, t6, t7, t8, t9, t10, t26, BB, FKm⟩, by show 18 - (intOf (a.eval (.tmp 26))).toNat < 18 - (intOf (Act.eval _ (.tmp 26))).toNat; rw [t26, esi]; show 18 - (i + 1) < 18 - i; omega⟩
  · rw [decide_eq_false lti] at t127
    refine wp_cond_false t127 ?_
    refine wp_exit ?_
    first | refine exit_in ?_ | refine exit_then (exit_in ?_) | refine exit_then (exit_then (exit_in ?_))
    clear t127 esi
    obtain rfl : i = 18 := by omega
    clear t26 lti hi
    replace FK : (K2 V X18 38 xx (nnK f g n m) (ffK f g n m) (.slice (some ⟨gl, 0, none⟩) 18 cl) wv bw 18) := FK
    obtain ⟨gw, cw, rfl, _, _⟩ := ownL_some9 FK.wa (by decide)
    refine wp_seq ?_
    refine wp_seq ?_
    refine wp_region_sq (σ := Unit) 312 [(0, 27)] (fun j_ s X => match j_ with | 0 => Below V.heap.size V X ∧ (K2 V X 38 xx (nnK f g n m) (ffK f g n m) (.slice (some ⟨gl, 0, none⟩) 18 cl) (.slice (some ⟨gw, 0, none⟩) 18 cw) bw 18) | _ => Below V.heap.size V X ∧ (K2 V X 38 xx (nnK f g n m) (ffK f g n m) (.slice (some ⟨gl, 0, none⟩) 18 cl) (.slice (some ⟨gw, 0, none⟩) 18 cw) bw 18)) (fun s => fun i_ => match i_ with | 0 => .int .i64 ((0 : Nat) : Int) | _ => undef) () A.1 (by kernel_rfl) (by decide) (by decide) ⟨BB, FK⟩ ?_ ?_
    · intro i_ hi_ s a X hf hv hn hS
      match i_, hi_ with
      | 0, _ => exact stepV rfl rfl (execAsgB rfl rfl) ⟨s, ⟨_, rfl, rfl⟩, hS, fun _ _ => rfl⟩
      | k_ + 1, h_ => exact absurd h_ (by simp)
    rintro _ a X21 h1 h2 h3 h4 hS
    clear BB
    clear FK
    replace hS : Below V.heap.size V X21 ∧ (K2 V X21 38 xx (nnK f g n m) (ffK f g n m) (.slice (some ⟨gl, 0, none⟩) 18 cl) (.slice (some ⟨gw, 0, none⟩) 18 cw) bw 18) := hS
    obtain ⟨BB, FK⟩ := hS
    replace t0 := (h3 0 (by decide)).trans t0
    replace t1 := (h3 1 (by decide)).trans t1
    replace t5 := (h3 5 (by decide)).trans t5
    replace t6 := (h3 6 (by decide)).trans t6
    replace t7 := (h3 7 (by decide)).trans t7
    replace t8 := (h3 8 (by decide)).trans t8
    replace t9 := (h3 9 (by decide)).trans t9
    replace t10 := (h3 10 (by decide)).trans t10
    have t27 : a.eval (.tmp 27) = .int .i64 ((0 : Nat) : Int) := h4 0 _ rfl _ rfl
    replace A := (⟨h1, h2.trans A.2⟩ : a.tmps.size = 312 ∧ a.defers = [])
    clear h1 h2 h3 h4
    refine wp_block ?_
    refine wp_loop (fun a W => ∃ (i : Nat), i ≤ 9 ∧ (a.tmps.size = 312 ∧ a.defers = []) ∧ a.eval (.tmp 0) = pv ∧ a.eval (.tmp 1) = qv ∧ a.eval (.tmp 5) = .slice (some ⟨gr, 0, none⟩) (n + 2) cr ∧ a.eval (.tmp 6) = .slice (some ⟨gs, 0, none⟩) (m + 2) cs ∧ a.eval (.tmp 7) = .slice (some ⟨gr, 0, none⟩) n cr ∧ a.eval (.tmp 8) = .slice (some ⟨gs, 0, none⟩) m cs ∧ a.eval (.tmp 9) = .slice (some ⟨gl, 0, none⟩) 18 cl ∧ a.eval (.tmp 10) = .slice (some ⟨gw, 0, none⟩) 18 cw ∧ a.eval (.tmp 27) = .int .i64 ((i : Nat) : Int) ∧ Below V.heap.size V W ∧ (K2 V W 38 xx (nnK f g n m) (ffK f g n m) (.slice (some ⟨gl, 0, none⟩) 18 cl) (.slice (some ⟨gw, 0, none⟩) 18 cw) bw 18)) (fun a _ => 9 - (intOf (a.eval (.tmp 27))).toNat) ⟨0, Nat.zero_le _, A, t0, t1, t5, t6, t7, t8, t9, t10, t27, BB, FK⟩ ?_
    clear A t0 t1 t5 t6 t7 t8 t9 t10 t27 BB FK a
    rintro a XL22 ⟨i, hi, A, t0, t1, t5, t6, t7, t8, t9, t10, t27, BB, FK⟩
    have esi := t27
    refine wp_seq ?_
    refine wp_seq ?_
    refine wp_region_sq (σ := Unit) 312 [(0, 139), (1, 140)] (fun j_ s X => match j_ with | 0 => Below V.heap.size V X ∧ (K2 V X 38 xx (nnK f g n m) (ffK f g n m) (.slice (some ⟨gl, 0, none⟩) 18 cl) (.slice (some ⟨gw, 0, none⟩) 18 cw) bw 18) | 1 => Below V.heap.size V X ∧ (K2 V X 38 xx (nnK f g n m) (ffK f g n m) (.slice (some ⟨gl, 0, none⟩) 18 cl) (.slice (some ⟨gw, 0, none⟩) 18 cw) bw 18) | _ => Below V.heap.size V X ∧ (K2 V X 38 xx (nnK f g n m) (ffK f g n m) (.slice (some ⟨gl, 0, none⟩) 18 cl) (.slice (some ⟨gw, 0, none⟩) 18 cw) bw 18)) (fun s => fun i_ => match i_ with | 0 => .int .i64 ((i : Nat) : Int) | 1 => .bool (decide (i < 9)) | _ => undef) () A.1 (by kernel_rfl) (by decide) (by decide) ⟨BB, FK⟩ ?_ ?_
    · intro i_ hi_ s a X hf hv hn hS
      match i_, hi_ with
      | 0, _ => exact stepV rfl rfl (execMvB rfl ((hf 27 (by decide)).trans t27)) ⟨s, ⟨_, rfl, rfl⟩, hS, fun _ _ => rfl⟩
      | 1, _ => exact stepV rfl rfl (execLtW (p := i) (q := 9) rfl (hv 0 (by omega) _ rfl _ rfl) rfl) ⟨s, ⟨_, rfl, rfl⟩, hS, fun _ _ => rfl⟩
      | k_ + 2, h_ => exact absurd h_ (by simp)
    rintro _ a X22 h1 h2 h3 h4 hS
    clear BB
    clear FK
    replace hS : Below V.heap.size V X22 ∧ (K2 V X22 38 xx (nnK f g n m) (ffK f g n m) (.slice (some ⟨gl, 0, none⟩) 18 cl) (.slice (some ⟨gw, 0, none⟩) 18 cw) bw 18) := hS
    obtain ⟨BB, FK⟩ := hS
    replace t0 := (h3 0 (by decide)).trans t0
    replace t1 := (h3 1 (by decide)).trans t1
    replace t5 := (h3 5 (by decide)).trans t5
    replace t6 := (h3 6 (by decide)).trans t6
    replace t7 := (h3 7 (by decide)).trans t7
    replace t8 := (h3 8 (by decide)).trans t8
    replace t9 := (h3 9 (by decide)).trans t9
    replace t10 := (h3 10 (by decide)).trans t10
    replace t27 := (h3 27 (by decide)).trans t27
    have t140 : a.eval (.tmp 140) = .bool (decide (i < 9)) := h4 1 _ rfl _ rfl
    replace A := (⟨h1, h2.trans A.2⟩ : a.tmps.size = 312 ∧ a.defers = [])
    clear h1 h2 h3 h4
    by_cases lti : i < 9
    · rw [decide_eq_true lti] at t140
      refine wp_cond_true t140 ?_
      refine wp_skip ?_
      clear t140
      refine wp_seq ?_
      refine wp_block ?_
      refine wp_seq ?_
      refine wp_region_detA 312 [(0, 143), (1, 144), (2, 145), (3, 146), (4, 147), (5, 148), (6, 149), (7, 150), (8, 151), (9, 152), (10, 153)] (fun i_ => match i_ with | 0 => .slice (some ⟨gw, 0, none⟩) 18 cw | 1 => .int .i64 ((i : Nat) : Int) | 2 => .pointer (some ⟨gw, 0 + i, none⟩) | 3 => xx (20 + i) | 4 => .slice (some ⟨gw, 0, none⟩) 18 cw | 5 => .int .i64 ((i : Nat) : Int) | 6 => .int .i64 ((i + 9 : Nat) : Int) | 7 => .pointer (some ⟨gw, 0 + (i + 9), none⟩) | 8 => xx (20 + (i + 9)) | 9 => .bool true | 10 => .bool false | _ => undef) (fun _ X => Below V.heap.size V X ∧ (K2 V X 38 xx (nnK f g n m) (ffK f g n m) (.slice (some ⟨gl, 0, none⟩) 18 cl) (.slice (some ⟨gw, 0, none⟩) 18 cw) bw 18)) (by kernel_rfl) (by kernel_rfl) A.1 (by kernel_rfl) (by decide) (by decide) ⟨BB.drew, (FK.on (Below.refl _ _).drew)⟩ ?_ ?_
      · intro i_ hi_ l_ a X hl_ hf hdep hl2 hcl hno hT
        match i_, hi_ with
        | 0, _ => exact stepV rfl rfl (execMvB rfl ((hf 10 (by decide)).trans t10)) ⟨⟨_, rfl, rfl⟩, hT⟩
        | 1, _ => exact stepV rfl rfl (execMvB rfl ((hf 27 (by decide)).trans t27)) ⟨⟨_, rfl, rfl⟩, hT⟩
        | 2, _ => exact stepV rfl rfl (execIdxLI (k := i) rfl (hdep _ rfl 0 rfl _ rfl _ rfl) (hdep _ rfl 1 rfl _ rfl _ rfl) (by omega)) ⟨⟨_, rfl, rfl⟩, hT⟩
        | 3, _ => exact stepV rfl rfl (execLdLI rfl (hdep _ rfl 2 rfl _ rfl _ rfl) (ownL_cellI (hT.2).wa (by omega))) ⟨⟨_, rfl, rfl⟩, hT⟩
        | 4, _ => exact stepV rfl rfl (execMvB rfl ((hf 10 (by decide)).trans t10)) ⟨⟨_, rfl, rfl⟩, hT⟩
        | 5, _ => exact stepV rfl rfl (execMvB rfl ((hf 27 (by decide)).trans t27)) ⟨⟨_, rfl, rfl⟩, hT⟩
        | 6, _ => exact stepV rfl rfl (execAd8 (p := i) (q := 9) rfl (hdep _ rfl 5 rfl _ rfl _ rfl) rfl (by omega)) ⟨⟨_, rfl, rfl⟩, hT⟩
        | 7, _ => exact stepV rfl rfl (execIdxLI (k := i + 9) rfl (hdep _ rfl 4 rfl _ rfl _ rfl) (hdep _ rfl 6 rfl _ rfl _ rfl) (by omega)) ⟨⟨_, rfl, rfl⟩, hT⟩
        | 8, _ => exact stepV rfl rfl (execLdLI rfl (hdep _ rfl 7 rfl _ rfl _ rfl) (ownL_cellI (hT.2).wa (by omega))) ⟨⟨_, rfl, rfl⟩, hT⟩
        | 9, _ => exact stepC rfl rfl (execCall2 Try.func14 (by kernel_rfl) (by kernel_rfl) rfl (hdep _ rfl 3 rfl _ rfl _ rfl) (hdep _ rfl 8 rfl _ rfl _ rfl)) (sameP _ _ (lenC f g n m (i % 9)) _ _ X (K2.want (t := 20 + i) (c := i % 9) hT.2 hq.fits hn17 hm17 rfl (by omega) (by omega) (by omega)) (K2.want (t := 20 + (i + 9)) (c := i % 9) hT.2 hq.fits hn17 hm17 rfl (by omega) (by omega) (by omega)) (fun _ _ => rfl) (Nat.le_trans (lenC_le hn17 hm17) (by decide))) fun e w' hh => ⟨_, hh.1, ⟨_, rfl, rfl⟩, ⟨hT.1.trans (hh.2.mono hT.1.size), (hT.2.on hh.2)⟩⟩
        | 10, _ => exact stepV rfl rfl (execNot8 rfl (hdep _ rfl 9 rfl _ rfl _ rfl)) ⟨⟨_, rfl, rfl⟩, hT⟩
        | k_ + 11, h_ => exact absurd h_ (by simp)
      intro l_ a X24 h1 h2 h3 h4 hall hT
      clear hall
      clear BB
      clear FK
      obtain ⟨BB, FK⟩ := hT
      replace t0 := (h3 0 (by decide)).trans t0
      replace t1 := (h3 1 (by decide)).trans t1
      replace t5 := (h3 5 (by decide)).trans t5
      replace t6 := (h3 6 (by decide)).trans t6
      replace t7 := (h3 7 (by decide)).trans t7
      replace t8 := (h3 8 (by decide)).trans t8
      replace t9 := (h3 9 (by decide)).trans t9
      replace t10 := (h3 10 (by decide)).trans t10
      replace t27 := (h3 27 (by decide)).trans t27
      have t153 : a.eval (.tmp 153) = .bool false := h4 (10, 153) (by decide)
      replace A := (⟨h1, h2.trans A.2⟩ : a.tmps.size = 312 ∧ a.defers = [])
      clear h1 h2 h3 h4
      refine wp_cond_false t153 ?_
      refine wp_skip ?_
      clear t153
      refine wp_region_sq (σ := Unit) 312 [(0, 141), (1, 142), (2, 27)] (fun j_ s X => match j_ with | 0 => Below V.heap.size V X ∧ (K2 V X 38 xx (nnK f g n m) (ffK f g n m) (.slice (some ⟨gl, 0, none⟩) 18 cl) (.slice (some ⟨gw, 0, none⟩) 18 cw) bw 18) | 1 => Below V.heap.size V X ∧ (K2 V X 38 xx (nnK f g n m) (ffK f g n m) (.slice (some ⟨gl, 0, none⟩) 18 cl) (.slice (some ⟨gw, 0, none⟩) 18 cw) bw 18) | 2 => Below V.heap.size V X ∧ (K2 V X 38 xx (nnK f g n m) (ffK f g n m) (.slice (some ⟨gl, 0, none⟩) 18 cl) (.slice (some ⟨gw, 0, none⟩) 18 cw) bw 18) | _ => Below V.heap.size V X ∧ (K2 V X 38 xx (nnK f g n m) (ffK f g n m) (.slice (some ⟨gl, 0, none⟩) 18 cl) (.slice (some ⟨gw, 0, none⟩) 18 cw) bw 18)) (fun s => fun i_ => match i_ with | 0 => .int .i64 ((i : Nat) : Int) | 1 => .int .i64 ((i + 1 : Nat) : Int) | 2 => .int .i64 ((i + 1 : Nat) : Int) | _ => undef) () A.1 (by kernel_rfl) (by decide) (by decide) ⟨BB, FK⟩ ?_ ?_
      · intro i_ hi_ s a X hf hv hn hS
        match i_, hi_ with
        | 0, _ => exact stepV rfl rfl (execMvB rfl ((hn 2 (by omega) _ rfl _ rfl).trans t27)) ⟨s, ⟨_, rfl, rfl⟩, hS, fun _ _ => rfl⟩
        | 1, _ => exact stepV rfl rfl (execAd8 (p := i) (q := 1) rfl (hv 0 (by omega) _ rfl _ rfl) rfl (by omega)) ⟨s, ⟨_, rfl, rfl⟩, hS, fun _ _ => rfl⟩
        | 2, _ => exact stepV rfl rfl (execAsgB rfl (hv 1 (by omega) _ rfl _ rfl)) ⟨s, ⟨_, rfl, rfl⟩, hS, fun _ _ => rfl⟩
        | k_ + 3, h_ => exact absurd h_ (by simp)
      rintro _ a X23 h1 h2 h3 h4 hS
      clear BB
      clear FK
      replace hS : Below V.heap.size V X23 ∧ (K2 V X23 38 xx (nnK f g n m) (ffK f g n m) (.slice (some ⟨gl, 0, none⟩) 18 cl) (.slice (some ⟨gw, 0, none⟩) 18 cw) bw 18) := hS
      obtain ⟨BB, FK⟩ := hS
      replace t0 := (h3 0 (by decide)).trans t0
      replace t1 := (h3 1 (by decide)).trans t1
      replace t5 := (h3 5 (by decide)).trans t5
      replace t6 := (h3 6 (by decide)).trans t6
      replace t7 := (h3 7 (by decide)).trans t7
      replace t8 := (h3 8 (by decide)).trans t8
      replace t9 := (h3 9 (by decide)).trans t9
      replace t10 := (h3 10 (by decide)).trans t10
      replace t27 : a.eval (.tmp 27) = .int .i64 ((i + 1 : Nat) : Int) := h4 2 _ rfl _ rfl
      replace A := (⟨h1, h2.trans A.2⟩ : a.tmps.size = 312 ∧ a.defers = [])
      clear h1 h2 h3 h4
      exact ⟨⟨i + 1, lti, A, t0, t1, t5, t6, t7, t8, t9, t10, t27, BB, FK⟩, by show 9 - (intOf (a.eval (.tmp 27))).toNat < 9 - (intOf (Act.eval _ (.tmp 27))).toNat; rw [t27, esi]; show 9 - (i + 1) < 9 - i; omega⟩
    · rw [decide_eq_false lti] at t140
      refine wp_cond_false t140 ?_
      refine wp_exit ?_
      first | refine exit_in ?_ | refine exit_then (exit_in ?_) | refine exit_then (exit_then (exit_in ?_))
      clear t140 esi
      obtain rfl : i = 9 := by omega
      clear t27 lti hi
      refine wp_seq ?_
      refine wp_seq ?_
      refine wp_region_sq (σ := Unit) 312 [(0, 154), (1, 155), (2, 156), (3, 157), (4, 158), (5, 159), (6, 160), (7, 161), (8, 162), (9, 163), (10, 164), (11, 165), (12, 166), (13, 167), (14, 168), (15, 169), (16, 170), (17, 171), (18, 172), (19, 173), (20, 174), (21, 175), (22, 176), (23, 177), (24, 178), (25, 179), (26, 180), (27, 181), (28, 182), (29, 183), (30, 184), (31, 185), (32, 186), (33, 187), (34, 188), (35, 189), (36, 190), (37, 191), (38, 192), (39, 193), (40, 194), (41, 195), (42, 196), (43, 197)] (fun j_ s X => match j_ with | 0 => Below V.heap.size V X ∧ (K2 V X 38 xx (nnK f g n m) (ffK f g n m) (.slice (some ⟨gl, 0, none⟩) 18 cl) (.slice (some ⟨gw, 0, none⟩) 18 cw) bw 18) | 1 => Below V.heap.size V X ∧ (K2 V X 38 xx (nnK f g n m) (ffK f g n m) (.slice (some ⟨gl, 0, none⟩) 18 cl) (.slice (some ⟨gw, 0, none⟩) 18 cw) bw 18) | 2 => Below V.heap.size V X ∧ (K2 V X 38 xx (nnK f g n m) (ffK f g n m) (.slice (some ⟨gl, 0, none⟩) 18 cl) (.slice (some ⟨gw, 0, none⟩) 18 cw) bw 18) | 3 => Below V.heap.size V X ∧ (K2 V X 38 xx (nnK f g n m) (ffK f g n m) (.slice (some ⟨gl, 0, none⟩) 18 cl) (.slice (some ⟨gw, 0, none⟩) 18 cw) bw 18) | 4 => Below V.heap.size V X ∧ (K2 V X 38 xx (nnK f g n m) (ffK f g n m) (.slice (some ⟨gl, 0, none⟩) 18 cl) (.slice (some ⟨gw, 0, none⟩) 18 cw) bw 18) | 5 => Below V.heap.size V X ∧ (K2 V X 38 xx (nnK f g n m) (ffK f g n m) (.slice (some ⟨gl, 0, none⟩) 18 cl) (.slice (some ⟨gw, 0, none⟩) 18 cw) bw 18) | 6 => Below V.heap.size V X ∧ (K2 V X 38 xx (nnK f g n m) (ffK f g n m) (.slice (some ⟨gl, 0, none⟩) 18 cl) (.slice (some ⟨gw, 0, none⟩) 18 cw) bw 18) | 7 => Below V.heap.size V X ∧ (K2 V X 38 xx (nnK f g n m) (ffK f g n m) (.slice (some ⟨gl, 0, none⟩) 18 cl) (.slice (some ⟨gw, 0, none⟩) 18 cw) bw 18) | 8 => Below V.heap.size V X ∧ (K2 V X 38 xx (nnK f g n m) (ffK f g n m) (.slice (some ⟨gl, 0, none⟩) 18 cl) (.slice (some ⟨gw, 0, none⟩) 18 cw) bw 18) | 9 => Below V.heap.size V X ∧ (K2 V X 38 xx (nnK f g n m) (ffK f g n m) (.slice (some ⟨gl, 0, none⟩) 18 cl) (.slice (some ⟨gw, 0, none⟩) 18 cw) bw 18) | 10 => Below V.heap.size V X ∧ (K2 V X 38 xx (nnK f g n m) (ffK f g n m) (.slice (some ⟨gl, 0, none⟩) 18 cl) (.slice (some ⟨gw, 0, none⟩) 18 cw) bw 18) | 11 => Below V.heap.size V X ∧ (K2 V X 38 xx (nnK f g n m) (ffK f g n m) (.slice (some ⟨gl, 0, none⟩) 18 cl) (.slice (some ⟨gw, 0, none⟩) 18 cw) bw 18) | 12 => Below V.heap.size V X ∧ (K2 V X 38 xx (nnK f g n m) (ffK f g n m) (.slice (some ⟨gl, 0, none⟩) 18 cl) (.slice (some ⟨gw, 0, none⟩) 18 cw) bw 18) | 13 => Below V.heap.size V X ∧ (K2 V X 38 xx (nnK f g n m) (ffK f g n m) (.slice (some ⟨gl, 0, none⟩) 18 cl) (.slice (some ⟨gw, 0, none⟩) 18 cw) bw 18) | 14 => Below V.heap.size V X ∧ (K2 V X 38 xx (nnK f g n m) (ffK f g n m) (.slice (some ⟨gl, 0, none⟩) 18 cl) (.slice (some ⟨gw, 0, none⟩) 18 cw) bw 18) | 15 => Below V.heap.size V X ∧ (K2 V X 38 xx (nnK f g n m) (ffK f g n m) (.slice (some ⟨gl, 0, none⟩) 18 cl) (.slice (some ⟨gw, 0, none⟩) 18 cw) bw 18) | 16 => Below V.heap.size V X ∧ (K2 V X 38 xx (nnK f g n m) (ffK f g n m) (.slice (some ⟨gl, 0, none⟩) 18 cl) (.slice (some ⟨gw, 0, none⟩) 18 cw) bw 18) | 17 => Below V.heap.size V X ∧ (K2 V X 38 xx (nnK f g n m) (ffK f g n m) (.slice (some ⟨gl, 0, none⟩) 18 cl) (.slice (some ⟨gw, 0, none⟩) 18 cw) bw 18) | 18 => Below V.heap.size V X ∧ (K2 V X 38 xx (nnK f g n m) (ffK f g n m) (.slice (some ⟨gl, 0, none⟩) 18 cl) (.slice (some ⟨gw, 0, none⟩) 18 cw) bw 18) | 19 => Below V.heap.size V X ∧ (K2 V X 38 xx (nnK f g n m) (ffK f g n m) (.slice (some ⟨gl, 0, none⟩) 18 cl) (.slice (some ⟨gw, 0, none⟩) 18 cw) bw 18) | 20 => Below V.heap.size V X ∧ (K2 V X 38 xx (nnK f g n m) (ffK f g n m) (.slice (some ⟨gl, 0, none⟩) 18 cl) (.slice (some ⟨gw, 0, none⟩) 18 cw) bw 18) | 21 => Below V.heap.size V X ∧ (K2 V X 38 xx (nnK f g n m) (ffK f g n m) (.slice (some ⟨gl, 0, none⟩) 18 cl) (.slice (some ⟨gw, 0, none⟩) 18 cw) bw 18) | 22 => Below V.heap.size V X ∧ (K2 V X 38 xx (nnK f g n m) (ffK f g n m) (.slice (some ⟨gl, 0, none⟩) 18 cl) (.slice (some ⟨gw, 0, none⟩) 18 cw) bw 18) | 23 => Below V.heap.size V X ∧ (K2 V X 38 xx (nnK f g n m) (ffK f g n m) (.slice (some ⟨gl, 0, none⟩) 18 cl) (.slice (some ⟨gw, 0, none⟩) 18 cw) bw 18) | 24 => Below V.heap.size V X ∧ (K2 V X 38 xx (nnK f g n m) (ffK f g n m) (.slice (some ⟨gl, 0, none⟩) 18 cl) (.slice (some ⟨gw, 0, none⟩) 18 cw) bw 18) | 25 => Below V.heap.size V X ∧ (K2 V X 38 xx (nnK f g n m) (ffK f g n m) (.slice (some ⟨gl, 0, none⟩) 18 cl) (.slice (some ⟨gw, 0, none⟩) 18 cw) bw 18) | 26 => Below V.heap.size V X ∧ (K2 V X 38 xx (nnK f g n m) (ffK f g n m) (.slice (some ⟨gl, 0, none⟩) 18 cl) (.slice (some ⟨gw, 0, none⟩) 18 cw) bw 18) | 27 => Below V.heap.size V X ∧ (K2 V X 38 xx (nnK f g n m) (ffK f g n m) (.slice (some ⟨gl, 0, none⟩) 18 cl) (.slice (some ⟨gw, 0, none⟩) 18 cw) bw 18) | 28 => Below V.heap.size V X ∧ (K2 V X 38 xx (nnK f g n m) (ffK f g n m) (.slice (some ⟨gl, 0, none⟩) 18 cl) (.slice (some ⟨gw, 0, none⟩) 18 cw) bw 18) | 29 => Below V.heap.size V X ∧ (K2 V X 38 xx (nnK f g n m) (ffK f g n m) (.slice (some ⟨gl, 0, none⟩) 18 cl) (.slice (some ⟨gw, 0, none⟩) 18 cw) bw 18) | 30 => Below V.heap.size V X ∧ (K2 V X 38 xx (nnK f g n m) (ffK f g n m) (.slice (some ⟨gl, 0, none⟩) 18 cl) (.slice (some ⟨gw, 0, none⟩) 18 cw) bw 18) | 31 => Below V.heap.size V X ∧ (K2 V X 38 xx (nnK f g n m) (ffK f g n m) (.slice (some ⟨gl, 0, none⟩) 18 cl) (.slice (some ⟨gw, 0, none⟩) 18 cw) bw 18) | 32 => Below V.heap.size V X ∧ (K2 V X 38 xx (nnK f g n m) (ffK f g n m) (.slice (some ⟨gl, 0, none⟩) 18 cl) (.slice (some ⟨gw, 0, none⟩) 18 cw) bw 18) | 33 => Below V.heap.size V X ∧ (K2 V X 38 xx (nnK f g n m) (ffK f g n m) (.slice (some ⟨gl, 0, none⟩) 18 cl) (.slice (some ⟨gw, 0, none⟩) 18 cw) bw 18) | 34 => Below V.heap.size V X ∧ (K2 V X 38 xx (nnK f g n m) (ffK f g n m) (.slice (some ⟨gl, 0, none⟩) 18 cl) (.slice (some ⟨gw, 0, none⟩) 18 cw) bw 18) | 35 => Below V.heap.size V X ∧ (K2 V X 38 xx (nnK f g n m) (ffK f g n m) (.slice (some ⟨gl, 0, none⟩) 18 cl) (.slice (some ⟨gw, 0, none⟩) 18 cw) bw 18) | 36 => Below V.heap.size V X ∧ (K2 V X 38 xx (nnK f g n m) (ffK f g n m) (.slice (some ⟨gl, 0, none⟩) 18 cl) (.slice (some ⟨gw, 0, none⟩) 18 cw) bw 18) | 37 => Below V.heap.size V X ∧ (K2 V X 38 xx (nnK f g n m) (ffK f g n m) (.slice (some ⟨gl, 0, none⟩) 18 cl) (.slice (some ⟨gw, 0, none⟩) 18 cw) bw 18) | 38 => Below V.heap.size V X ∧ (K2 V X 38 xx (nnK f g n m) (ffK f g n m) (.slice (some ⟨gl, 0, none⟩) 18 cl) (.slice (some ⟨gw, 0, none⟩) 18 cw) bw 18) | 39 => Below V.heap.size V X ∧ (K2 V X 38 xx (nnK f g n m) (ffK f g n m) (.slice (some ⟨gl, 0, none⟩) 18 cl) (.slice (some ⟨gw, 0, none⟩) 18 cw) bw 18) | 40 => Below V.heap.size V X ∧ (K2 V X 38 xx (nnK f g n m) (ffK f g n m) (.slice (some ⟨gl, 0, none⟩) 18 cl) (.slice (some ⟨gw, 0, none⟩) 18 cw) bw 18) | 41 => Below V.heap.size V X ∧ (K2 V X 38 xx (nnK f g n m) (ffK f g n m) (.slice (some ⟨gl, 0, none⟩) 18 cl) (.slice (some ⟨gw, 0, none⟩) 18 cw) bw 18) | 42 => Below V.heap.size V X ∧ (K2 V X 38 xx (nnK f g n m) (ffK f g n m) (.slice (some ⟨gl, 0, none⟩) 18 cl) (.slice (some ⟨gw, 0, none⟩) 18 cw) bw 18) | 43 => Below V.heap.size V X ∧ (K2 V X 38 xx (nnK f g n m) (ffK f g n m) (.slice (some ⟨gl, 0, none⟩) 18 cl) (.slice (some ⟨gw, 0, none⟩) 18 cw) bw 18) | _ => Below V.heap.size V X ∧ (K2 V X 38 xx (nnK f g n m) (ffK f g n m) (.slice (some ⟨gl, 0, none⟩) 18 cl) (.slice (some ⟨gw, 0, none⟩) 18 cw) bw 18)) (fun s => fun i_ => match i_ with | 0 => .slice (some ⟨gr, 0, none⟩) n cr | 1 => pv | 2 => .bool true | 3 => .bool false | 4 => .bool false | 5 => .slice (some ⟨gs, 0, none⟩) m cs | 6 => qv | 7 => .bool true | 8 => .bool false | 9 => .bool false | 10 => .bool false | 11 => .slice (some ⟨gr, 0, none⟩) (n + 2) cr | 12 => pv | 13 => .int .i64 ((n : Nat) : Int) | 14 => .pointer (some ⟨gr, 0 + n, none⟩) | 15 => .int .i64 (-77) | 16 => .bool false | 17 => .bool false | 18 => .bool false | 19 => .slice (some ⟨gr, 0, none⟩) (n + 2) cr | 20 => pv | 21 => .int .i64 ((n : Nat) : Int) | 22 => .int .i64 ((n + 1 : Nat) : Int) | 23 => .pointer (some ⟨gr, 0 + (n + 1), none⟩) | 24 => .int .i64 (-78) | 25 => .bool false | 26 => .bool false | 27 => .bool false | 28 => .slice (some ⟨gs, 0, none⟩) (m + 2) cs | 29 => qv | 30 => .int .i64 ((m : Nat) : Int) | 31 => .pointer (some ⟨gs, 0 + m, none⟩) | 32 => .int .i64 (-79) | 33 => .bool false | 34 => .bool false | 35 => .bool false | 36 => .slice (some ⟨gs, 0, none⟩) (m + 2) cs | 37 => qv | 38 => .int .i64 ((m : Nat) : Int) | 39 => .int .i64 ((m + 1 : Nat) : Int) | 40 => .pointer (some ⟨gs, 0 + (m + 1), none⟩) | 41 => .int .i64 (-80) | 42 => .bool false | 43 => .bool false | _ => undef) () A.1 (by kernel_rfl) (by decide) (by decide) ⟨BB, FK⟩ ?_ ?_
      · intro i_ hi_ s a X hf hv hn hS
        match i_, hi_ with
        | 0, _ => exact stepV rfl rfl (execMvB rfl ((hf 7 (by decide)).trans t7)) ⟨s, ⟨_, rfl, rfl⟩, hS, fun _ _ => rfl⟩
        | 1, _ => exact stepV rfl rfl (execMvB rfl ((hf 0 (by decide)).trans t0)) ⟨s, ⟨_, rfl, rfl⟩, hS, fun _ _ => rfl⟩
        | 2, _ => exact stepC rfl rfl (execCall2 Try.func14 (by kernel_rfl) (by kernel_rfl) rfl (hv 0 (by omega) _ rfl _ rfl) (hv 1 (by omega) _ rfl _ rfl)) (sameP _ _ n _ _ X (hS.2.k1.fam.inX (by omega) e0 hp.fits) (FI.on hS.1) (fun _ _ => rfl) (by omega)) fun e w' hh => ⟨_, hh.1, s, ⟨_, rfl, rfl⟩, ⟨(hS.1).trans ((hh.2).mono (hS.1).size), (hS.2.on hh.2)⟩, fun _ _ => rfl⟩
        | 3, _ => exact stepV rfl rfl (execNot8 rfl (hv 2 (by omega) _ rfl _ rfl)) ⟨s, ⟨_, rfl, rfl⟩, hS, fun _ _ => rfl⟩
        | 4, _ => exact stepV rfl rfl (execMvB rfl (hv 3 (by omega) _ rfl _ rfl)) ⟨s, ⟨_, rfl, rfl⟩, hS, fun _ _ => rfl⟩
        | 5, _ => exact stepV rfl (wantedOf rfl (yieldedAt rfl rfl (show a.eval (.tmp 158) = .bool false from (hv 4 (by omega) _ rfl _ rfl)))) (execMvB rfl ((hf 8 (by decide)).trans t8)) ⟨s, ⟨_, rfl, rfl⟩, hS, fun _ _ => rfl⟩
        | 6, _ => exact stepV rfl (wantedOf rfl (yieldedAt rfl rfl (show a.eval (.tmp 158) = .bool false from (hv 4 (by omega) _ rfl _ rfl)))) (execMvB rfl ((hf 1 (by decide)).trans t1)) ⟨s, ⟨_, rfl, rfl⟩, hS, fun _ _ => rfl⟩
        | 7, _ => exact stepC rfl (wantedOf rfl (yieldedAt rfl rfl (show a.eval (.tmp 158) = .bool false from (hv 4 (by omega) _ rfl _ rfl)))) (execCall2 Try.func14 (by kernel_rfl) (by kernel_rfl) rfl (hv 5 (by omega) _ rfl _ rfl) (hv 6 (by omega) _ rfl _ rfl)) (sameP _ _ m _ _ X (hS.2.k1.fam.inY (by omega) e1 hq.fits) (FJ.on hS.1) (fun _ _ => rfl) (by omega)) fun e w' hh => ⟨_, hh.1, s, ⟨_, rfl, rfl⟩, ⟨(hS.1).trans ((hh.2).mono (hS.1).size), (hS.2.on hh.2)⟩, fun _ _ => rfl⟩
        | 8, _ => exact stepV rfl (wantedOf rfl (yieldedAt rfl rfl (show a.eval (.tmp 158) = .bool false from (hv 4 (by omega) _ rfl _ rfl)))) (execNot8 rfl (hv 7 (by omega) _ rfl _ rfl)) ⟨s, ⟨_, rfl, rfl⟩, hS, fun _ _ => rfl⟩
        | 9, _ => exact stepV rfl rfl (execPickF rfl (hv 4 (by omega) _ rfl _ rfl) (hv 8 (by omega) _ rfl _ rfl)) ⟨s, ⟨_, rfl, rfl⟩, hS, fun _ _ => rfl⟩
        | 10, _ => exact stepV rfl rfl (execMvB rfl (hv 9 (by omega) _ rfl _ rfl)) ⟨s, ⟨_, rfl, rfl⟩, hS, fun _ _ => rfl⟩
        | 11, _ => exact stepV rfl (wantedOf rfl (yieldedAt rfl rfl (show a.eval (.tmp 164) = .bool false from (hv 10 (by omega) _ rfl _ rfl)))) (execMvB rfl ((hf 5 (by decide)).trans t5)) ⟨s, ⟨_, rfl, rfl⟩, hS, fun _ _ => rfl⟩
        | 12, _ => exact stepV rfl (wantedOf rfl (yieldedAt rfl rfl (show a.eval (.tmp 164) = .bool false from (hv 10 (by omega) _ rfl _ rfl)))) (execMvB rfl ((hf 0 (by decide)).trans t0)) ⟨s, ⟨_, rfl, rfl⟩, hS, fun _ _ => rfl⟩
        | 13, _ => exact stepV rfl (wantedOf rfl (yieldedAt rfl rfl (show a.eval (.tmp 164) = .bool false from (hv 10 (by omega) _ rfl _ rfl)))) (execLenI (len := n) rfl (hv 12 (by omega) _ rfl _ rfl) ((FI.on hS.1)).shp) ⟨s, ⟨_, rfl, rfl⟩, hS, fun _ _ => rfl⟩
        | 14, _ => exact stepV rfl (wantedOf rfl (yieldedAt rfl rfl (show a.eval (.tmp 164) = .bool false from (hv 10 (by omega) _ rfl _ rfl)))) (execIdxN (k := n) rfl (hv 11 (by omega) _ rfl _ rfl) (hv 13 (by omega) _ rfl _ rfl) (by omega)) ⟨s, ⟨_, rfl, rfl⟩, hS, fun _ _ => rfl⟩
        | 15, _ => exact stepV rfl (wantedOf rfl (yieldedAt rfl rfl (show a.eval (.tmp 164) = .bool false from (hv 10 (by omega) _ rfl _ rfl)))) (execLd3 rfl (hv 14 (by omega) _ rfl _ rfl) (hS.2.k1.fam.cX (by omega) e0).1) ⟨s, ⟨_, rfl, rfl⟩, hS, fun _ _ => rfl⟩
        | 16, _ => exact stepV rfl (wantedOf rfl (yieldedAt rfl rfl (show a.eval (.tmp 164) = .bool false from (hv 10 (by omega) _ rfl _ rfl)))) (execNeI (p := -77) rfl (hv 15 (by omega) _ rfl _ rfl) rfl) ⟨s, ⟨_, rfl, rfl⟩, hS, fun _ _ => rfl⟩
        | 17, _ => exact stepV rfl rfl (execPickF rfl (hv 10 (by omega) _ rfl _ rfl) (hv 16 (by omega) _ rfl _ rfl)) ⟨s, ⟨_, rfl, rfl⟩, hS, fun _ _ => rfl⟩
        | 18, _ => exact stepV rfl rfl (execMvB rfl (hv 17 (by omega) _ rfl _ rfl)) ⟨s, ⟨_, rfl, rfl⟩, hS, fun _ _ => rfl⟩
        | 19, _ => exact stepV rfl (wantedOf rfl (yieldedAt rfl rfl (show a.eval (.tmp 172) = .bool false from (hv 18 (by omega) _ rfl _ rfl)))) (execMvB rfl ((hf 5 (by decide)).trans t5)) ⟨s, ⟨_, rfl, rfl⟩, hS, fun _ _ => rfl⟩
        | 20, _ => exact stepV rfl (wantedOf rfl (yieldedAt rfl rfl (show a.eval (.tmp 172) = .bool false from (hv 18 (by omega) _ rfl _ rfl)))) (execMvB rfl ((hf 0 (by decide)).trans t0)) ⟨s, ⟨_, rfl, rfl⟩, hS, fun _ _ => rfl⟩
        | 21, _ => exact stepV rfl (wantedOf rfl (yieldedAt rfl rfl (show a.eval (.tmp 172) = .bool false from (hv 18 (by omega) _ rfl _ rfl)))) (execLenI (len := n) rfl (hv 20 (by omega) _ rfl _ rfl) ((FI.on hS.1)).shp) ⟨s, ⟨_, rfl, rfl⟩, hS, fun _ _ => rfl⟩
        | 22, _ => exact stepV rfl (wantedOf rfl (yieldedAt rfl rfl (show a.eval (.tmp 172) = .bool false from (hv 18 (by omega) _ rfl _ rfl)))) (execAd8 (p := n) (q := 1) rfl (hv 21 (by omega) _ rfl _ rfl) rfl (by omega)) ⟨s, ⟨_, rfl, rfl⟩, hS, fun _ _ => rfl⟩
        | 23, _ => exact stepV rfl (wantedOf rfl (yieldedAt rfl rfl (show a.eval (.tmp 172) = .bool false from (hv 18 (by omega) _ rfl _ rfl)))) (execIdxN (k := n + 1) rfl (hv 19 (by omega) _ rfl _ rfl) (hv 22 (by omega) _ rfl _ rfl) (by omega)) ⟨s, ⟨_, rfl, rfl⟩, hS, fun _ _ => rfl⟩
        | 24, _ => exact stepV rfl (wantedOf rfl (yieldedAt rfl rfl (show a.eval (.tmp 172) = .bool false from (hv 18 (by omega) _ rfl _ rfl)))) (execLd3 rfl (hv 23 (by omega) _ rfl _ rfl) (hS.2.k1.fam.cX (by omega) e0).2) ⟨s, ⟨_, rfl, rfl⟩, hS, fun _ _ => rfl⟩
        | 25, _ => exact stepV rfl (wantedOf rfl (yieldedAt rfl rfl (show a.eval (.tmp 172) = .bool false from (hv 18 (by omega) _ rfl _ rfl)))) (execNeI (p := -78) rfl (hv 24 (by omega) _ rfl _ rfl) rfl) ⟨s, ⟨_, rfl, rfl⟩, hS, fun _ _ => rfl⟩
        | 26, _ => exact stepV rfl rfl (execPickF rfl (hv 18 (by omega) _ rfl _ rfl) (hv 25 (by omega) _ rfl _ rfl)) ⟨s, ⟨_, rfl, rfl⟩, hS, fun _ _ => rfl⟩
        | 27, _ => exact stepV rfl rfl (execMvB rfl (hv 26 (by omega) _ rfl _ rfl)) ⟨s, ⟨_, rfl, rfl⟩, hS, fun _ _ => rfl⟩
        | 28, _ => exact stepV rfl (wantedOf rfl (yieldedAt rfl rfl (show a.eval (.tmp 181) = .bool false from (hv 27 (by omega) _ rfl _ rfl)))) (execMvB rfl ((hf 6 (by decide)).trans t6)) ⟨s, ⟨_, rfl, rfl⟩, hS, fun _ _ => rfl⟩
        | 29, _ => exact stepV rfl (wantedOf rfl (yieldedAt rfl rfl (show a.eval (.tmp 181) = .bool false from (hv 27 (by omega) _ rfl _ rfl)))) (execMvB rfl ((hf 1 (by decide)).trans t1)) ⟨s, ⟨_, rfl, rfl⟩, hS, fun _ _ => rfl⟩
        | 30, _ => exact stepV rfl (wantedOf rfl (yieldedAt rfl rfl (show a.eval (.tmp 181) = .bool false from (hv 27 (by omega) _ rfl _ rfl)))) (execLenI (len := m) rfl (hv 29 (by omega) _ rfl _ rfl) ((FJ.on hS.1)).shp) ⟨s, ⟨_, rfl, rfl⟩, hS, fun _ _ => rfl⟩
        | 31, _ => exact stepV rfl (wantedOf rfl (yieldedAt rfl rfl (show a.eval (.tmp 181) = .bool false from (hv 27 (by omega) _ rfl _ rfl)))) (execIdxN (k := m) rfl (hv 28 (by omega) _ rfl _ rfl) (hv 30 (by omega) _ rfl _ rfl) (by omega)) ⟨s, ⟨_, rfl, rfl⟩, hS, fun _ _ => rfl⟩
        | 32, _ => exact stepV rfl (wantedOf rfl (yieldedAt rfl rfl (show a.eval (.tmp 181) = .bool false from (hv 27 (by omega) _ rfl _ rfl)))) (execLd3 rfl (hv 31 (by omega) _ rfl _ rfl) (hS.2.k1.fam.cY (by omega) e1).1) ⟨s, ⟨_, rfl, rfl⟩, hS, fun _ _ => rfl⟩
        | 33, _ => exact stepV rfl (wantedOf rfl (yieldedAt rfl rfl (show a.eval (.tmp 181) = .bool false from (hv 27 (by omega) _ rfl _ rfl)))) (execNeI (p := -79) rfl (hv 32 (by omega) _ rfl _ rfl) rfl) ⟨s, ⟨_, rfl, rfl⟩, hS, fun _ _ => rfl⟩
        | 34, _ => exact stepV rfl rfl (execPickF rfl (hv 27 (by omega) _ rfl _ rfl) (hv 33 (by omega) _ rfl _ rfl)) ⟨s, ⟨_, rfl, rfl⟩, hS, fun _ _ => rfl⟩
        | 35, _ => exact stepV rfl rfl (execMvB rfl (hv 34 (by omega) _ rfl _ rfl)) ⟨s, ⟨_, rfl, rfl⟩, hS, fun _ _ => rfl⟩
        | 36, _ => exact stepV rfl (wantedOf rfl (yieldedAt rfl rfl (show a.eval (.tmp 189) = .bool false from (hv 35 (by omega) _ rfl _ rfl)))) (execMvB rfl ((hf 6 (by decide)).trans t6)) ⟨s, ⟨_, rfl, rfl⟩, hS, fun _ _ => rfl⟩
        | 37, _ => exact stepV rfl (wantedOf rfl (yieldedAt rfl rfl (show a.eval (.tmp 189) = .bool false from (hv 35 (by omega) _ rfl _ rfl)))) (execMvB rfl ((hf 1 (by decide)).trans t1)) ⟨s, ⟨_, rfl, rfl⟩, hS, fun _ _ => rfl⟩
        | 38, _ => exact stepV rfl (wantedOf rfl (yieldedAt rfl rfl (show a.eval (.tmp 189) = .bool false from (hv 35 (by omega) _ rfl _ rfl)))) (execLenI (len := m) rfl (hv 37 (by omega) _ rfl _ rfl) ((FJ.on hS.1)).shp) ⟨s, ⟨_, rfl, rfl⟩, hS, fun _ _ => rfl⟩
        | 39, _ => exact stepV rfl (wantedOf rfl (yieldedAt rfl rfl (show a.eval (.tmp 189) = .bool false from (hv 35 (by omega) _ rfl _ rfl)))) (execAd8 (p := m) (q := 1) rfl (hv 38 (by omega) _ rfl _ rfl) rfl (by omega)) ⟨s, ⟨_, rfl, rfl⟩, hS, fun _ _ => rfl⟩
        | 40, _ => exact stepV rfl (wantedOf rfl (yieldedAt rfl rfl (show a.eval (.tmp 189) = .bool false from (hv 35 (by omega) _ rfl _ rfl)))) (execIdxN (k := m + 1) rfl (hv 36 (by omega) _ rfl _ rfl) (hv 39 (by omega) _ rfl _ rfl) (by omega)) ⟨s, ⟨_, rfl, rfl⟩, hS, fun _ _ => rfl⟩
        | 41, _ => exact stepV rfl (wantedOf rfl (yieldedAt rfl rfl (show a.eval (.tmp 189) = .bool false from (hv 35 (by omega) _ rfl _ rfl)))) (execLd3 rfl (hv 40 (by omega) _ rfl _ rfl) (hS.2.k1.fam.cY (by omega) e1).2) ⟨s, ⟨_, rfl, rfl⟩, hS, fun _ _ => rfl⟩
        | 42, _ => exact stepV rfl (wantedOf rfl (yieldedAt rfl rfl (show a.eval (.tmp 189) = .bool false from (hv 35 (by omega) _ rfl _ rfl)))) (execNeI (p := -80) rfl (hv 41 (by omega) _ rfl _ rfl) rfl) ⟨s, ⟨_, rfl, rfl⟩, hS, fun _ _ => rfl⟩
        | 43, _ => exact stepV rfl rfl (execPickF rfl (hv 35 (by omega) _ rfl _ rfl) (hv 42 (by omega) _ rfl _ rfl)) ⟨s, ⟨_, rfl, rfl⟩, hS, fun _ _ => rfl⟩
        | k_ + 44, h_ => exact absurd h_ (by simp)
      rintro _ a X26 h1 h2 h3 h4 hS
      clear BB
      clear FK
      replace hS : Below V.heap.size V X26 ∧ (K2 V X26 38 xx (nnK f g n m) (ffK f g n m) (.slice (some ⟨gl, 0, none⟩) 18 cl) (.slice (some ⟨gw, 0, none⟩) 18 cw) bw 18) := hS
      obtain ⟨BB, FK⟩ := hS
      replace t0 := (h3 0 (by decide)).trans t0
      replace t1 := (h3 1 (by decide)).trans t1
      replace t7 := (h3 7 (by decide)).trans t7
      replace t8 := (h3 8 (by decide)).trans t8
      replace t9 := (h3 9 (by decide)).trans t9
      replace t10 := (h3 10 (by decide)).trans t10
      have t197 : a.eval (.tmp 197) = .bool false := h4 43 _ rfl _ rfl
      replace A := (⟨h1, h2.trans A.2⟩ : a.tmps.size = 312 ∧ a.defers = [])
      clear h1 h2 h3 h4
      clear t5 t6
      refine wp_cond_false t197 ?_
      refine wp_skip ?_
      clear t197
      exact keeps28 I V f g n m pv qv hp hq hn17 hm17 _ xx (ffK f g n m) gl cl gw cw bw gr cr gs cs BB (fun _ _ => rfl) e0 e1 FK a A t0 t1 t7 t8 t9 t10
end Go.Proofs.Ytldhhfkplongiaa.Prm
