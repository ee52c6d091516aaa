import Derived.Test.YtdecmmcphcomhaaQ9p
namespace Go.Proofs.Ytdecmmcphcomhaa.Brd
open Go.RowKit Gf8 Aes By8 Cel Cf Tap Drw Prm
/- Stage 12's BraidSizes. Written by tools/mkQ9s.py. -/

theorem sz_len (k c : Int) : zl (szE k c) c.toNat ≤ 64 := by
  unfold zl szE
  by_cases h : 0 ≤ k ∧ k ≤ 256 ∧ 1 ≤ c ∧ c ≤ 64
  · rw [if_pos h, if_pos rfl]; omega
  · rw [if_neg h, if_neg (by decide)]; omega
theorem bd_len (k : Int) : bdN k ≤ 256 := by
  unfold bdN
  split <;> omega
theorem sz_fits {k c : Int} : ∀ j, j < zl (szE k c) c.toNat → -9223372036854775808 ≤ (fun j => (szF k.toNat c.toNat j : Int)) j ∧ (fun j => (szF k.toNat c.toNat j : Int)) j < 9223372036854775808 := fun j hj => by
  have h : 0 ≤ k ∧ k ≤ 256 ∧ 1 ≤ c ∧ c ≤ 64 := by
    by_cases h : 0 ≤ k ∧ k ≤ 256 ∧ 1 ≤ c ∧ c ≤ 64
    · exact h
    · have e : szE k c = 2 := if_neg h
      rw [e, zl_no (by decide)] at hj
      omega
  have h1 : k.toNat / c.toNat ≤ k.toNat := Nat.div_le_self _ _
  have h2 : szF k.toNat c.toNat j ≤ k.toNat / c.toNat + 1 := by
    unfold szF
    split <;> omega
  show _ ≤ ((szF k.toNat c.toNat j : Nat) : Int) ∧ ((szF k.toNat c.toNat j : Nat) : Int) < _
  omega
theorem bd_fits {k : Int} : ∀ j, j < bdN k → -9223372036854775808 ≤ (fun j : Nat => k - (j : Int)) j ∧ (fun j : Nat => k - (j : Int)) j < 9223372036854775808 := fun j hj => by
  have h1 := bd_len k
  have h2 : k ≤ 256 ∧ (j : Int) < k := by
    unfold bdN at hj
    by_cases h : k ≤ 256
    · rw [if_pos h] at hj
      omega
    · rw [if_neg h] at hj
      omega
  show _ ≤ k - (j : Int) ∧ k - (j : Int) < _
  omega
section
variable {o : Oper} {a : Act} {w : World}
theorem execBsLI4 {x0 x1 x2 x3 : Operand} {r0 r1 r2 r3 : Value} (ho : o.op = .buildSlice 63 4 #[(0, x0), (1, x1), (2, x2), (3, x3)]) (h0 : a.eval x0 = r0) (h1 : a.eval x1 = r1) (h2 : a.eval x2 = r2) (h3 : a.eval x3 = r3)
    (q0 : ∃ g n c, r0 = .slice g n c) (q1 : ∃ g n c, r1 = .slice g n c) (q2 : ∃ g n c, r2 = .slice g n c) (q3 : ∃ g n c, r3 = .slice g n c) :
    (execOp a.eval o).run Try.prog w = .ok (.value (.slice (some ⟨w.heap.size, 0, none⟩) 4 4)) (w.alloc (.cells #[r0, r1, r2, r3] 23)) := by
  obtain ⟨_, _, _, rfl⟩ := q0
  obtain ⟨_, _, _, rfl⟩ := q1
  obtain ⟨_, _, _, rfl⟩ := q2
  obtain ⟨_, _, _, rfl⟩ := q3
  unfold execOp
  simp only [ho, List.map_toArray, List.map_cons, List.map_nil, h0, h1, h2, h3]
  simp [go_sem]
end
set_option maxRecDepth 100000 in
set_option maxHeartbeats 4000000 in
/-- BraidSizes. -/
theorem sizes_any (k c : Int) (V : World) :
    Calls Try.prog 3 #[.int .i64 k, .int .i64 c] V fun e w' => e = .returned (.bool true) ∧ Below V.heap.size V w' := by
  go_enter Try.func3, Try.ntmps3
  refine wp_seq ?_
  refine wp_region_sqK 96 [(0, 4)] (fun i_ => match i_ with | 0 => .bool false | _ => undef) rfl (by kernel_rfl) (by decide) (by decide) ?_ ?_
  · intro i_ hi_ a hf hv hn
    match i_, hi_ with
    | 0, _ => exact stepV rfl rfl (execAsgB rfl rfl) ⟨⟨_, rfl, rfl⟩, rfl⟩
    | k_ + 1, h_ => exact absurd h_ (by simp)
  intro a h1 h2 h3 h4
  have t0 : a.eval (.tmp 0) = .int .i64 k := (h3 0 (by decide)).trans rfl
  have t1 : a.eval (.tmp 1) = .int .i64 c := (h3 1 (by decide)).trans rfl
  have A : a.tmps.size = 96 ∧ a.defers = [] := ⟨h1, h2⟩
  have BW : Below V.heap.size V V := Below.refl _ _
  clear h1 h2 h3 h4
  refine wp_seq ?_
  refine wp_seq ?_
  refine wp_region_sq (σ := Unit) 96 [(0, 14), (1, 15)] (fun j_ s X => match j_ with | 0 => Below V.heap.size V X | 1 => Below V.heap.size V X | _ => Below V.heap.size V X) (fun s => fun i_ => match i_ with | 0 => .bool true | 1 => .bool false | _ => undef) () A.1 (by kernel_rfl) (by decide) (by decide) (Below.refl _ _) ?_ ?_
  · intro i_ hi_ s a X hf hv hn hS
    match i_, hi_ with
    | 0, _ => exact stepC rfl rfl (execCall0 Try.func9 (by kernel_rfl) (by kernel_rfl) rfl ) (awake12 X) fun e w' hh => ⟨_, hh.1, s, ⟨_, rfl, rfl⟩, (hS).trans ((hh.2).mono (hS).size), fun _ _ => rfl⟩
    | 1, _ => exact stepV rfl rfl (execNot8 rfl (hv 0 (by omega) _ rfl _ rfl)) ⟨s, ⟨_, rfl, rfl⟩, hS, fun _ _ => rfl⟩
    | k_ + 2, h_ => exact absurd h_ (by simp)
  rintro _ a X1 h1 h2 h3 h4 hS
  replace hS : Below V.heap.size V X1 := hS
  have bX := hS
  clear hS
  replace t0 := (h3 0 (by decide)).trans t0
  replace t1 := (h3 1 (by decide)).trans t1
  have t15 : a.eval (.tmp 15) = .bool false := h4 1 _ rfl _ rfl
  have ZX1 := bX.size
  replace BW := BW.trans (bX.mono BW.size)
  clear bX
  replace A := (⟨h1, h2.trans A.2⟩ : a.tmps.size = 96 ∧ a.defers = [])
  clear h1 h2 h3 h4
  refine wp_cond_false t15 ?_
  refine wp_skip ?_
  clear t15
  refine wp_seq ?_
  refine wp_region_sq (σ := Value) 96 [(0, 17), (1, 18), (2, 19), (3, 16), (4, 20), (5, 21), (6, 5), (7, 6)] (fun j_ s X => match j_ with | 0 => Below X1.heap.size X1 X | 1 => Below X1.heap.size X1 X | 2 => Below X1.heap.size X1 X | 3 => Below X1.heap.size X1 X ∧ (SliceI X s (zl (szE (k) (c)) (c).toNat) (fun j => (szF (k).toNat (c).toNat j : Int))) | 4 => Below X1.heap.size X1 X ∧ (SliceI X s (zl (szE (k) (c)) (c).toNat) (fun j => (szF (k).toNat (c).toNat j : Int))) | 5 => Below X1.heap.size X1 X ∧ (SliceI X s (zl (szE (k) (c)) (c).toNat) (fun j => (szF (k).toNat (c).toNat j : Int))) | 6 => Below X1.heap.size X1 X ∧ (SliceI X s (zl (szE (k) (c)) (c).toNat) (fun j => (szF (k).toNat (c).toNat j : Int))) | 7 => Below X1.heap.size X1 X ∧ (SliceI X s (zl (szE (k) (c)) (c).toNat) (fun j => (szF (k).toNat (c).toNat j : Int))) | _ => Below X1.heap.size X1 X ∧ (SliceI X s (zl (szE (k) (c)) (c).toNat) (fun j => (szF (k).toNat (c).toNat j : Int)))) (fun s => fun i_ => match i_ with | 0 => .int .i64 k | 1 => .int .i64 c | 2 => .tuple #[s, .int .i64 ((szE (k) (c) : Nat) : Int)] | 3 => .tuple #[s, .int .i64 ((szE (k) (c) : Nat) : Int)] | 4 => s | 5 => .int .i64 ((szE (k) (c) : Nat) : Int) | 6 => s | 7 => .int .i64 ((szE (k) (c) : Nat) : Int) | _ => undef) undef A.1 (by kernel_rfl) (by decide) (by decide) (Below.refl _ _) ?_ ?_
  · intro i_ hi_ s a X hf hv hn hS
    match i_, hi_ with
    | 0, _ => exact stepV rfl rfl (execMvB rfl ((hf 0 (by decide)).trans t0)) ⟨s, ⟨_, rfl, rfl⟩, hS, fun _ _ => rfl⟩
    | 1, _ => exact stepV rfl rfl (execMvB rfl ((hf 1 (by decide)).trans t1)) ⟨s, ⟨_, rfl, rfl⟩, hS, fun _ _ => rfl⟩
    | 2, _ =>
      refine stepC rfl rfl (execCall2 Try.func10 (by kernel_rfl) (by kernel_rfl) rfl (hv 0 (by omega) _ rfl _ rfl) (hv 1 (by omega) _ rfl _ rfl)) (rsizes (k) (c) X) fun e w' hh => ?_
      obtain ⟨r0_, he, hk, hb⟩ := hh
      refine ⟨_, he, r0_, ⟨_, rfl, rfl⟩, ⟨(hS).trans ((hb).mono (hS).size), own_ints hk sz_fits⟩, fun i hi => ?_⟩
      match i, hi with
      | 0, _ => rfl
      | 1, _ => rfl
      | n_ + 2, h_ => omega
    | 3, _ => exact stepV rfl rfl (execMvB rfl (hv 2 (by omega) _ rfl _ rfl)) ⟨s, ⟨_, rfl, rfl⟩, hS, fun _ _ => rfl⟩
    | 4, _ => exact stepV rfl rfl (execExtT rfl (hv 3 (by omega) _ rfl _ rfl) rfl) ⟨s, ⟨_, rfl, rfl⟩, hS, fun _ _ => rfl⟩
    | 5, _ => exact stepV rfl rfl (execExtT rfl (hv 3 (by omega) _ rfl _ rfl) rfl) ⟨s, ⟨_, rfl, rfl⟩, hS, fun _ _ => rfl⟩
    | 6, _ => exact stepV rfl rfl (execAsgB rfl (hv 4 (by omega) _ rfl _ rfl)) ⟨s, ⟨_, rfl, rfl⟩, hS, fun _ _ => rfl⟩
    | 7, _ => exact stepV rfl rfl (execAsgB rfl (hv 5 (by omega) _ rfl _ rfl)) ⟨s, ⟨_, rfl, rfl⟩, hS, fun _ _ => rfl⟩
    | k_ + 8, h_ => exact absurd h_ (by simp)
  rintro z19 a X3 h1 h2 h3 h4 hS
  replace hS : Below X1.heap.size X1 X3 ∧ (SliceI X3 z19 (zl (szE (k) (c)) (c).toNat) (fun j => (szF (k).toNat (c).toNat j : Int))) := hS
  obtain ⟨bX, Fz19⟩ := hS
  replace t0 := (h3 0 (by decide)).trans t0
  replace t1 := (h3 1 (by decide)).trans t1
  have t5 : a.eval (.tmp 5) = z19 := h4 6 _ rfl _ rfl
  have t6 : a.eval (.tmp 6) = .int .i64 ((szE (k) (c) : Nat) : Int) := h4 7 _ rfl _ rfl
  have ZX3 := bX.size
  replace BW := BW.trans (bX.mono BW.size)
  clear bX
  replace A := (⟨h1, h2.trans A.2⟩ : a.tmps.size = 96 ∧ a.defers = [])
  clear h1 h2 h3 h4
  refine wp_seq ?_
  refine wp_region_sq (σ := Value) 96 [(0, 22), (1, 23), (2, 7)] (fun j_ s X => match j_ with | 0 => Below X3.heap.size X3 X | 1 => Below X3.heap.size X3 X | 2 => Below X3.heap.size X3 X ∧ (SliceI X s (bdN (k)) (fun j => (k) - (j : Int))) | _ => Below X3.heap.size X3 X ∧ (SliceI X s (bdN (k)) (fun j => (k) - (j : Int)))) (fun s => fun i_ => match i_ with | 0 => .int .i64 k | 1 => s | 2 => s | _ => undef) undef A.1 (by kernel_rfl) (by decide) (by decide) (Below.refl _ _) ?_ ?_
  · intro i_ hi_ s a X hf hv hn hS
    match i_, hi_ with
    | 0, _ => exact stepV rfl rfl (execMvB rfl ((hf 0 (by decide)).trans t0)) ⟨s, ⟨_, rfl, rfl⟩, hS, fun _ _ => rfl⟩
    | 1, _ =>
      refine stepC rfl rfl (execCall1 Try.func11 (by kernel_rfl) (by kernel_rfl) rfl (hv 0 (by omega) _ rfl _ rfl)) (rbounds12 (k) X) fun e w' hh => ?_
      obtain ⟨r0_, he, hk, hb⟩ := hh
      refine ⟨_, he, r0_, ⟨_, rfl, rfl⟩, ⟨(hS).trans ((hb).mono (hS).size), own_ints hk bd_fits⟩, fun i hi => ?_⟩
      match i, hi with
      | 0, _ => rfl
      | n_ + 1, h_ => omega
    | 2, _ => exact stepV rfl rfl (execAsgB rfl (hv 1 (by omega) _ rfl _ rfl)) ⟨s, ⟨_, rfl, rfl⟩, hS, fun _ _ => rfl⟩
    | k_ + 3, h_ => exact absurd h_ (by simp)
  rintro b23 a X4 h1 h2 h3 h4 hS
  replace hS : Below X3.heap.size X3 X4 ∧ (SliceI X4 b23 (bdN (k)) (fun j => (k) - (j : Int))) := hS
  obtain ⟨bX, Fb23⟩ := hS
  replace t0 := (h3 0 (by decide)).trans t0
  replace t1 := (h3 1 (by decide)).trans t1
  replace t5 := (h3 5 (by decide)).trans t5
  replace t6 := (h3 6 (by decide)).trans t6
  have t7 : a.eval (.tmp 7) = b23 := h4 2 _ rfl _ rfl
  replace Fz19 := (Fz19.on bX)
  have ZX4 := bX.size
  replace BW := BW.trans (bX.mono BW.size)
  clear bX
  replace A := (⟨h1, h2.trans A.2⟩ : a.tmps.size = 96 ∧ a.defers = [])
  clear h1 h2 h3 h4
  have BB : Below X4.heap.size X4 X4 := Below.refl _ _
  have FM0 : FmI X4.heap.size 0 (fun _ => undef) (fun t => if t < 2 then zl (szE (k) (c)) (c).toNat else bdN (k)) (fun t j => if t < 2 then (szF (k).toNat (c).toNat j : Int) else (k) - (j : Int)) X4 := ⟨fun t ht => absurd ht (Nat.not_lt_zero _), fun s t hs => absurd hs (Nat.not_lt_zero _)⟩
  refine wp_seq ?_
  refine wp_region_sq (σ := Value) 96 [(0, 25), (1, 26), (2, 27), (3, 24), (4, 28), (5, 29), (6, 8), (7, 9)] (fun j_ s X => match j_ with | 0 => Below X4.heap.size X4 X ∧ (FmI X4.heap.size 0 (fun _ => undef) (fun t => if t < 2 then zl (szE (k) (c)) (c).toNat else bdN (k)) (fun t j => if t < 2 then (szF (k).toNat (c).toNat j : Int) else (k) - (j : Int)) X) | 1 => Below X4.heap.size X4 X ∧ (FmI X4.heap.size 0 (fun _ => undef) (fun t => if t < 2 then zl (szE (k) (c)) (c).toNat else bdN (k)) (fun t j => if t < 2 then (szF (k).toNat (c).toNat j : Int) else (k) - (j : Int)) X) | 2 => Below X4.heap.size X4 X ∧ (FmI X4.heap.size 0 (fun _ => undef) (fun t => if t < 2 then zl (szE (k) (c)) (c).toNat else bdN (k)) (fun t j => if t < 2 then (szF (k).toNat (c).toNat j : Int) else (k) - (j : Int)) X) | 3 => Below X4.heap.size X4 X ∧ (FmI X4.heap.size 1 (updX (fun _ => undef) 0 s) (fun t => if t < 2 then zl (szE (k) (c)) (c).toNat else bdN (k)) (fun t j => if t < 2 then (szF (k).toNat (c).toNat j : Int) else (k) - (j : Int)) X) | 4 => Below X4.heap.size X4 X ∧ (FmI X4.heap.size 1 (updX (fun _ => undef) 0 s) (fun t => if t < 2 then zl (szE (k) (c)) (c).toNat else bdN (k)) (fun t j => if t < 2 then (szF (k).toNat (c).toNat j : Int) else (k) - (j : Int)) X) | 5 => Below X4.heap.size X4 X ∧ (FmI X4.heap.size 1 (updX (fun _ => undef) 0 s) (fun t => if t < 2 then zl (szE (k) (c)) (c).toNat else bdN (k)) (fun t j => if t < 2 then (szF (k).toNat (c).toNat j : Int) else (k) - (j : Int)) X) | 6 => Below X4.heap.size X4 X ∧ (FmI X4.heap.size 1 (updX (fun _ => undef) 0 s) (fun t => if t < 2 then zl (szE (k) (c)) (c).toNat else bdN (k)) (fun t j => if t < 2 then (szF (k).toNat (c).toNat j : Int) else (k) - (j : Int)) X) | 7 => Below X4.heap.size X4 X ∧ (FmI X4.heap.size 1 (updX (fun _ => undef) 0 s) (fun t => if t < 2 then zl (szE (k) (c)) (c).toNat else bdN (k)) (fun t j => if t < 2 then (szF (k).toNat (c).toNat j : Int) else (k) - (j : Int)) X) | _ => Below X4.heap.size X4 X ∧ (FmI X4.heap.size 1 (updX (fun _ => undef) 0 s) (fun t => if t < 2 then zl (szE (k) (c)) (c).toNat else bdN (k)) (fun t j => if t < 2 then (szF (k).toNat (c).toNat j : Int) else (k) - (j : Int)) X)) (fun s => fun i_ => match i_ with | 0 => .int .i64 k | 1 => .int .i64 c | 2 => .tuple #[s, .int .i64 ((szE (k) (c) : Nat) : Int)] | 3 => .tuple #[s, .int .i64 ((szE (k) (c) : Nat) : Int)] | 4 => s | 5 => .int .i64 ((szE (k) (c) : Nat) : Int) | 6 => s | 7 => .int .i64 ((szE (k) (c) : Nat) : Int) | _ => undef) undef A.1 (by kernel_rfl) (by decide) (by decide) ⟨BB, FM0⟩ ?_ ?_
  · intro i_ hi_ s a X hf hv hn hS
    match i_, hi_ with
    | 0, _ => exact stepV rfl rfl (execMvB rfl ((hf 0 (by decide)).trans t0)) ⟨s, ⟨_, rfl, rfl⟩, hS, fun _ _ => rfl⟩
    | 1, _ => exact stepV rfl rfl (execMvB rfl ((hf 1 (by decide)).trans t1)) ⟨s, ⟨_, rfl, rfl⟩, hS, fun _ _ => rfl⟩
    | 2, _ =>
      refine stepC rfl rfl (execCall2 Try.func12 (by kernel_rfl) (by kernel_rfl) rfl (hv 0 (by omega) _ rfl _ rfl) (hv 1 (by omega) _ rfl _ rfl)) (psizes (k) (c) X) fun e w' hh => ?_
      obtain ⟨r0_, he, hk, hb⟩ := hh
      refine ⟨_, he, r0_, ⟨_, rfl, rfl⟩, ⟨(hS.1).trans ((hb).mono (hS.1).size), FmI.add (hS.2.on hb) (fun t ht b e => ((hS.2.rows t ht).lt b e).2) hk (hS.1).size rfl (fun j hj => rfl)⟩, fun i hi => ?_⟩
      match i, hi with
      | 0, _ => rfl
      | 1, _ => rfl
      | n_ + 2, h_ => omega
    | 3, _ => exact stepV rfl rfl (execMvB rfl (hv 2 (by omega) _ rfl _ rfl)) ⟨s, ⟨_, rfl, rfl⟩, hS, fun _ _ => rfl⟩
    | 4, _ => exact stepV rfl rfl (execExtT rfl (hv 3 (by omega) _ rfl _ rfl) rfl) ⟨s, ⟨_, rfl, rfl⟩, hS, fun _ _ => rfl⟩
    | 5, _ => exact stepV rfl rfl (execExtT rfl (hv 3 (by omega) _ rfl _ rfl) rfl) ⟨s, ⟨_, rfl, rfl⟩, hS, fun _ _ => rfl⟩
    | 6, _ => exact stepV rfl rfl (execAsgB rfl (hv 4 (by omega) _ rfl _ rfl)) ⟨s, ⟨_, rfl, rfl⟩, hS, fun _ _ => rfl⟩
    | 7, _ => exact stepV rfl rfl (execAsgB rfl (hv 5 (by omega) _ rfl _ rfl)) ⟨s, ⟨_, rfl, rfl⟩, hS, fun _ _ => rfl⟩
    | k_ + 8, h_ => exact absurd h_ (by simp)
  rintro z27 a X5 h1 h2 h3 h4 hS
  clear BB
  clear FM0
  replace hS : Below X4.heap.size X4 X5 ∧ (FmI X4.heap.size 1 (updX (fun _ => undef) 0 z27) (fun t => if t < 2 then zl (szE (k) (c)) (c).toNat else bdN (k)) (fun t j => if t < 2 then (szF (k).toNat (c).toNat j : Int) else (k) - (j : Int)) X5) := hS
  obtain ⟨BB, FM1⟩ := hS
  replace t0 := (h3 0 (by decide)).trans t0
  replace t1 := (h3 1 (by decide)).trans t1
  replace t5 := (h3 5 (by decide)).trans t5
  replace t6 := (h3 6 (by decide)).trans t6
  replace t7 := (h3 7 (by decide)).trans t7
  have t8 : a.eval (.tmp 8) = z27 := h4 6 _ rfl _ rfl
  have t9 : a.eval (.tmp 9) = .int .i64 ((szE (k) (c) : Nat) : Int) := h4 7 _ rfl _ rfl
  replace A := (⟨h1, h2.trans A.2⟩ : a.tmps.size = 96 ∧ a.defers = [])
  clear h1 h2 h3 h4
  refine wp_seq ?_
  refine wp_region_sq (σ := Value) 96 [(0, 31), (1, 32), (2, 33), (3, 30), (4, 34), (5, 35), (6, 10), (7, 11)] (fun j_ s X => match j_ with | 0 => Below X4.heap.size X4 X ∧ (FmI X4.heap.size 1 (updX (fun _ => undef) 0 z27) (fun t => if t < 2 then zl (szE (k) (c)) (c).toNat else bdN (k)) (fun t j => if t < 2 then (szF (k).toNat (c).toNat j : Int) else (k) - (j : Int)) X) | 1 => Below X4.heap.size X4 X ∧ (FmI X4.heap.size 1 (updX (fun _ => undef) 0 z27) (fun t => if t < 2 then zl (szE (k) (c)) (c).toNat else bdN (k)) (fun t j => if t < 2 then (szF (k).toNat (c).toNat j : Int) else (k) - (j : Int)) X) | 2 => Below X4.heap.size X4 X ∧ (FmI X4.heap.size 1 (updX (fun _ => undef) 0 z27) (fun t => if t < 2 then zl (szE (k) (c)) (c).toNat else bdN (k)) (fun t j => if t < 2 then (szF (k).toNat (c).toNat j : Int) else (k) - (j : Int)) X) | 3 => Below X4.heap.size X4 X ∧ (FmI X4.heap.size 2 (updX (updX (fun _ => undef) 0 z27) 1 s) (fun t => if t < 2 then zl (szE (k) (c)) (c).toNat else bdN (k)) (fun t j => if t < 2 then (szF (k).toNat (c).toNat j : Int) else (k) - (j : Int)) X) | 4 => Below X4.heap.size X4 X ∧ (FmI X4.heap.size 2 (updX (updX (fun _ => undef) 0 z27) 1 s) (fun t => if t < 2 then zl (szE (k) (c)) (c).toNat else bdN (k)) (fun t j => if t < 2 then (szF (k).toNat (c).toNat j : Int) else (k) - (j : Int)) X) | 5 => Below X4.heap.size X4 X ∧ (FmI X4.heap.size 2 (updX (updX (fun _ => undef) 0 z27) 1 s) (fun t => if t < 2 then zl (szE (k) (c)) (c).toNat else bdN (k)) (fun t j => if t < 2 then (szF (k).toNat (c).toNat j : Int) else (k) - (j : Int)) X) | 6 => Below X4.heap.size X4 X ∧ (FmI X4.heap.size 2 (updX (updX (fun _ => undef) 0 z27) 1 s) (fun t => if t < 2 then zl (szE (k) (c)) (c).toNat else bdN (k)) (fun t j => if t < 2 then (szF (k).toNat (c).toNat j : Int) else (k) - (j : Int)) X) | 7 => Below X4.heap.size X4 X ∧ (FmI X4.heap.size 2 (updX (updX (fun _ => undef) 0 z27) 1 s) (fun t => if t < 2 then zl (szE (k) (c)) (c).toNat else bdN (k)) (fun t j => if t < 2 then (szF (k).toNat (c).toNat j : Int) else (k) - (j : Int)) X) | _ => Below X4.heap.size X4 X ∧ (FmI X4.heap.size 2 (updX (updX (fun _ => undef) 0 z27) 1 s) (fun t => if t < 2 then zl (szE (k) (c)) (c).toNat else bdN (k)) (fun t j => if t < 2 then (szF (k).toNat (c).toNat j : Int) else (k) - (j : Int)) X)) (fun s => fun i_ => match i_ with | 0 => .int .i64 k | 1 => .int .i64 c | 2 => .tuple #[s, .int .i64 ((szE (k) (c) : Nat) : Int)] | 3 => .tuple #[s, .int .i64 ((szE (k) (c) : Nat) : Int)] | 4 => s | 5 => .int .i64 ((szE (k) (c) : Nat) : Int) | 6 => s | 7 => .int .i64 ((szE (k) (c) : Nat) : Int) | _ => undef) undef A.1 (by kernel_rfl) (by decide) (by decide) ⟨BB, FM1⟩ ?_ ?_
  · intro i_ hi_ s a X hf hv hn hS
    match i_, hi_ with
    | 0, _ => exact stepV rfl rfl (execMvB rfl ((hf 0 (by decide)).trans t0)) ⟨s, ⟨_, rfl, rfl⟩, hS, fun _ _ => rfl⟩
    | 1, _ => exact stepV rfl rfl (execMvB rfl ((hf 1 (by decide)).trans t1)) ⟨s, ⟨_, rfl, rfl⟩, hS, fun _ _ => rfl⟩
    | 2, _ =>
      refine stepC rfl rfl (execCall2 Try.func12 (by kernel_rfl) (by kernel_rfl) rfl (hv 0 (by omega) _ rfl _ rfl) (hv 1 (by omega) _ rfl _ rfl)) (psizes (k) (c) X) fun e w' hh => ?_
      obtain ⟨r0_, he, hk, hb⟩ := hh
      refine ⟨_, he, r0_, ⟨_, rfl, rfl⟩, ⟨(hS.1).trans ((hb).mono (hS.1).size), FmI.add (hS.2.on hb) (fun t ht b e => ((hS.2.rows t ht).lt b e).2) hk (hS.1).size rfl (fun j hj => rfl)⟩, fun i hi => ?_⟩
      match i, hi with
      | 0, _ => rfl
      | 1, _ => rfl
      | n_ + 2, h_ => omega
    | 3, _ => exact stepV rfl rfl (execMvB rfl (hv 2 (by omega) _ rfl _ rfl)) ⟨s, ⟨_, rfl, rfl⟩, hS, fun _ _ => rfl⟩
    | 4, _ => exact stepV rfl rfl (execExtT rfl (hv 3 (by omega) _ rfl _ rfl) rfl) ⟨s, ⟨_, rfl, rfl⟩, hS, fun _ _ => rfl⟩
    | 5, _ => exact stepV rfl rfl (execExtT rfl (hv 3 (by omega) _ rfl _ rfl) rfl) ⟨s, ⟨_, rfl, rfl⟩, hS, fun _ _ => rfl⟩
    | 6, _ => exact stepV rfl rfl (execAsgB rfl (hv 4 (by omega) _ rfl _ rfl)) ⟨s, ⟨_, rfl, rfl⟩, hS, fun _ _ => rfl⟩
    | 7, _ => exact stepV rfl rfl (execAsgB rfl (hv 5 (by omega) _ rfl _ rfl)) ⟨s, ⟨_, rfl, rfl⟩, hS, fun _ _ => rfl⟩
    | k_ + 8, h_ => exact absurd h_ (by simp)
  rintro z33 a X6 h1 h2 h3 h4 hS
  clear BB
  clear FM1
  replace hS : Below X4.heap.size X4 X6 ∧ (FmI X4.heap.size 2 (updX (updX (fun _ => undef) 0 z27) 1 z33) (fun t => if t < 2 then zl (szE (k) (c)) (c).toNat else bdN (k)) (fun t j => if t < 2 then (szF (k).toNat (c).toNat j : Int) else (k) - (j : Int)) X6) := hS
  obtain ⟨BB, FM2⟩ := hS
  replace t0 := (h3 0 (by decide)).trans t0
  replace t1 := (h3 1 (by decide)).trans t1
  replace t5 := (h3 5 (by decide)).trans t5
  replace t6 := (h3 6 (by decide)).trans t6
  replace t7 := (h3 7 (by decide)).trans t7
  replace t8 := (h3 8 (by decide)).trans t8
  replace t9 := (h3 9 (by decide)).trans t9
  have t10 : a.eval (.tmp 10) = z33 := h4 6 _ rfl _ rfl
  have t11 : a.eval (.tmp 11) = .int .i64 ((szE (k) (c) : Nat) : Int) := h4 7 _ rfl _ rfl
  replace A := (⟨h1, h2.trans A.2⟩ : a.tmps.size = 96 ∧ a.defers = [])
  clear h1 h2 h3 h4
  refine wp_seq ?_
  refine wp_region_sq (σ := Value × Value) 96 [(0, 36), (1, 37), (2, 38), (3, 39), (4, 12), (5, 13)] (fun j_ s X => match j_ with | 0 => Below X4.heap.size X4 X ∧ (FmI X4.heap.size 2 (updX (updX (fun _ => undef) 0 z27) 1 z33) (fun t => if t < 2 then zl (szE (k) (c)) (c).toNat else bdN (k)) (fun t j => if t < 2 then (szF (k).toNat (c).toNat j : Int) else (k) - (j : Int)) X) | 1 => Below X4.heap.size X4 X ∧ (FmI X4.heap.size 2 (updX (updX (fun _ => undef) 0 z27) 1 z33) (fun t => if t < 2 then zl (szE (k) (c)) (c).toNat else bdN (k)) (fun t j => if t < 2 then (szF (k).toNat (c).toNat j : Int) else (k) - (j : Int)) X) | 2 => Below X4.heap.size X4 X ∧ (FmI X4.heap.size 3 (updX (updX (updX (fun _ => undef) 0 z27) 1 z33) 2 s.1) (fun t => if t < 2 then zl (szE (k) (c)) (c).toNat else bdN (k)) (fun t j => if t < 2 then (szF (k).toNat (c).toNat j : Int) else (k) - (j : Int)) X) | 3 => Below X4.heap.size X4 X ∧ (FmI X4.heap.size 3 (updX (updX (updX (fun _ => undef) 0 z27) 1 z33) 2 s.1) (fun t => if t < 2 then zl (szE (k) (c)) (c).toNat else bdN (k)) (fun t j => if t < 2 then (szF (k).toNat (c).toNat j : Int) else (k) - (j : Int)) X) | 4 => Below X4.heap.size X4 X ∧ (FmI X4.heap.size 4 (updX (updX (updX (updX (fun _ => undef) 0 z27) 1 z33) 2 s.1) 3 s.2) (fun t => if t < 2 then zl (szE (k) (c)) (c).toNat else bdN (k)) (fun t j => if t < 2 then (szF (k).toNat (c).toNat j : Int) else (k) - (j : Int)) X) | 5 => Below X4.heap.size X4 X ∧ (FmI X4.heap.size 4 (updX (updX (updX (updX (fun _ => undef) 0 z27) 1 z33) 2 s.1) 3 s.2) (fun t => if t < 2 then zl (szE (k) (c)) (c).toNat else bdN (k)) (fun t j => if t < 2 then (szF (k).toNat (c).toNat j : Int) else (k) - (j : Int)) X) | _ => Below X4.heap.size X4 X ∧ (FmI X4.heap.size 4 (updX (updX (updX (updX (fun _ => undef) 0 z27) 1 z33) 2 s.1) 3 s.2) (fun t => if t < 2 then zl (szE (k) (c)) (c).toNat else bdN (k)) (fun t j => if t < 2 then (szF (k).toNat (c).toNat j : Int) else (k) - (j : Int)) X)) (fun s => fun i_ => match i_ with | 0 => .int .i64 k | 1 => s.1 | 2 => .int .i64 k | 3 => s.2 | 4 => s.1 | 5 => s.2 | _ => undef) (undef, undef) A.1 (by kernel_rfl) (by decide) (by decide) ⟨BB, FM2⟩ ?_ ?_
  · intro i_ hi_ s a X hf hv hn hS
    match i_, hi_ with
    | 0, _ => exact stepV rfl rfl (execMvB rfl ((hf 0 (by decide)).trans t0)) ⟨s, ⟨_, rfl, rfl⟩, hS, fun _ _ => rfl⟩
    | 1, _ =>
      refine stepC rfl rfl (execCall1 Try.func13 (by kernel_rfl) (by kernel_rfl) rfl (hv 0 (by omega) _ rfl _ rfl)) (pbounds12 (k) X) fun e w' hh => ?_
      obtain ⟨r0_, he, hk, hb⟩ := hh
      refine ⟨_, he, (r0_, s.2), ⟨_, rfl, rfl⟩, ⟨(hS.1).trans ((hb).mono (hS.1).size), FmI.add (hS.2.on hb) (fun t ht b e => ((hS.2.rows t ht).lt b e).2) hk (hS.1).size rfl (fun j hj => rfl)⟩, fun i hi => ?_⟩
      match i, hi with
      | 0, _ => rfl
      | n_ + 1, h_ => omega
    | 2, _ => exact stepV rfl rfl (execMvB rfl ((hf 0 (by decide)).trans t0)) ⟨s, ⟨_, rfl, rfl⟩, hS, fun _ _ => rfl⟩
    | 3, _ =>
      refine stepC rfl rfl (execCall1 Try.func13 (by kernel_rfl) (by kernel_rfl) rfl (hv 2 (by omega) _ rfl _ rfl)) (pbounds12 (k) X) fun e w' hh => ?_
      obtain ⟨r0_, he, hk, hb⟩ := hh
      refine ⟨_, he, (s.1, r0_), ⟨_, rfl, rfl⟩, ⟨(hS.1).trans ((hb).mono (hS.1).size), FmI.add (hS.2.on hb) (fun t ht b e => ((hS.2.rows t ht).lt b e).2) hk (hS.1).size rfl (fun j hj => rfl)⟩, fun i hi => ?_⟩
      match i, hi with
      | 0, _ => rfl
      | 1, _ => rfl
      | 2, _ => rfl
      | n_ + 3, h_ => omega
    | 4, _ => exact stepV rfl rfl (execAsgB rfl (hv 1 (by omega) _ rfl _ rfl)) ⟨s, ⟨_, rfl, rfl⟩, hS, fun _ _ => rfl⟩
    | 5, _ => exact stepV rfl rfl (execAsgB rfl (hv 3 (by omega) _ rfl _ rfl)) ⟨s, ⟨_, rfl, rfl⟩, hS, fun _ _ => rfl⟩
    | k_ + 6, h_ => exact absurd h_ (by simp)
  rintro ⟨b37, b39⟩ a X7 h1 h2 h3 h4 hS
  clear BB
  clear FM2
  replace hS : Below X4.heap.size X4 X7 ∧ (FmI X4.heap.size 4 (updX (updX (updX (updX (fun _ => undef) 0 z27) 1 z33) 2 b37) 3 b39) (fun t => if t < 2 then zl (szE (k) (c)) (c).toNat else bdN (k)) (fun t j => if t < 2 then (szF (k).toNat (c).toNat j : Int) else (k) - (j : Int)) X7) := hS
  obtain ⟨BB, FM4⟩ := hS
  replace t0 := (h3 0 (by decide)).trans t0
  replace t1 := (h3 1 (by decide)).trans t1
  replace t5 := (h3 5 (by decide)).trans t5
  replace t6 := (h3 6 (by decide)).trans t6
  replace t7 := (h3 7 (by decide)).trans t7
  replace t8 := (h3 8 (by decide)).trans t8
  replace t9 := (h3 9 (by decide)).trans t9
  replace t10 := (h3 10 (by decide)).trans t10
  replace t11 := (h3 11 (by decide)).trans t11
  have t12 : a.eval (.tmp 12) = b37 := h4 4 _ rfl _ rfl
  have t13 : a.eval (.tmp 13) = b39 := h4 5 _ rfl _ rfl
  replace A := (⟨h1, h2.trans A.2⟩ : a.tmps.size = 96 ∧ a.defers = [])
  clear h1 h2 h3 h4
  refine wp_seq ?_
  refine wp_seq ?_
  refine wp_region_sq (σ := Nat) 96 [(0, 40), (1, 41), (2, 42), (3, 43), (4, 44), (5, 45), (6, 46), (7, 47), (8, 48), (9, 49), (10, 50), (11, 51), (12, 52), (13, 53), (14, 54), (15, 55), (16, 56), (17, 57), (18, 58), (19, 59), (20, 60), (21, 61), (22, 62), (23, 63), (24, 64), (25, 65), (26, 66), (27, 67), (28, 68), (29, 69), (30, 70), (31, 71), (32, 72), (33, 73), (34, 74), (35, 75), (36, 76), (37, 77), (38, 78), (39, 79), (40, 80)] (fun j_ s X => match j_ with | 0 => Below X4.heap.size X4 X ∧ (FmI X4.heap.size 4 (updX (updX (updX (updX (fun _ => undef) 0 z27) 1 z33) 2 b37) 3 b39) (fun t => if t < 2 then zl (szE (k) (c)) (c).toNat else bdN (k)) (fun t j => if t < 2 then (szF (k).toNat (c).toNat j : Int) else (k) - (j : Int)) X) | 1 => Below X4.heap.size X4 X ∧ (FmI X4.heap.size 4 (updX (updX (updX (updX (fun _ => undef) 0 z27) 1 z33) 2 b37) 3 b39) (fun t => if t < 2 then zl (szE (k) (c)) (c).toNat else bdN (k)) (fun t j => if t < 2 then (szF (k).toNat (c).toNat j : Int) else (k) - (j : Int)) X) | 2 => Below X4.heap.size X4 X ∧ (FmI X4.heap.size 4 (updX (updX (updX (updX (fun _ => undef) 0 z27) 1 z33) 2 b37) 3 b39) (fun t => if t < 2 then zl (szE (k) (c)) (c).toNat else bdN (k)) (fun t j => if t < 2 then (szF (k).toNat (c).toNat j : Int) else (k) - (j : Int)) X) | 3 => Below X4.heap.size X4 X ∧ (FmI X4.heap.size 4 (updX (updX (updX (updX (fun _ => undef) 0 z27) 1 z33) 2 b37) 3 b39) (fun t => if t < 2 then zl (szE (k) (c)) (c).toNat else bdN (k)) (fun t j => if t < 2 then (szF (k).toNat (c).toNat j : Int) else (k) - (j : Int)) X) | 4 => Below X4.heap.size X4 X ∧ (FmI X4.heap.size 4 (updX (updX (updX (updX (fun _ => undef) 0 z27) 1 z33) 2 b37) 3 b39) (fun t => if t < 2 then zl (szE (k) (c)) (c).toNat else bdN (k)) (fun t j => if t < 2 then (szF (k).toNat (c).toNat j : Int) else (k) - (j : Int)) X) | 5 => Below X4.heap.size X4 X ∧ (FmI X4.heap.size 4 (updX (updX (updX (updX (fun _ => undef) 0 z27) 1 z33) 2 b37) 3 b39) (fun t => if t < 2 then zl (szE (k) (c)) (c).toNat else bdN (k)) (fun t j => if t < 2 then (szF (k).toNat (c).toNat j : Int) else (k) - (j : Int)) X) | 6 => Below X4.heap.size X4 X ∧ (FmI X4.heap.size 4 (updX (updX (updX (updX (fun _ => undef) 0 z27) 1 z33) 2 b37) 3 b39) (fun t => if t < 2 then zl (szE (k) (c)) (c).toNat else bdN (k)) (fun t j => if t < 2 then (szF (k).toNat (c).toNat j : Int) else (k) - (j : Int)) X) | 7 => Below X4.heap.size X4 X ∧ (FmI X4.heap.size 4 (updX (updX (updX (updX (fun _ => undef) 0 z27) 1 z33) 2 b37) 3 b39) (fun t => if t < 2 then zl (szE (k) (c)) (c).toNat else bdN (k)) (fun t j => if t < 2 then (szF (k).toNat (c).toNat j : Int) else (k) - (j : Int)) X) | 8 => Below X4.heap.size X4 X ∧ (FmI X4.heap.size 4 (updX (updX (updX (updX (fun _ => undef) 0 z27) 1 z33) 2 b37) 3 b39) (fun t => if t < 2 then zl (szE (k) (c)) (c).toNat else bdN (k)) (fun t j => if t < 2 then (szF (k).toNat (c).toNat j : Int) else (k) - (j : Int)) X) | 9 => Below X4.heap.size X4 X ∧ (FmI X4.heap.size 4 (updX (updX (updX (updX (fun _ => undef) 0 z27) 1 z33) 2 b37) 3 b39) (fun t => if t < 2 then zl (szE (k) (c)) (c).toNat else bdN (k)) (fun t j => if t < 2 then (szF (k).toNat (c).toNat j : Int) else (k) - (j : Int)) X) | 10 => Below X4.heap.size X4 X ∧ (FmI X4.heap.size 4 (updX (updX (updX (updX (fun _ => undef) 0 z27) 1 z33) 2 b37) 3 b39) (fun t => if t < 2 then zl (szE (k) (c)) (c).toNat else bdN (k)) (fun t j => if t < 2 then (szF (k).toNat (c).toNat j : Int) else (k) - (j : Int)) X) | 11 => Below X4.heap.size X4 X ∧ (FmI X4.heap.size 4 (updX (updX (updX (updX (fun _ => undef) 0 z27) 1 z33) 2 b37) 3 b39) (fun t => if t < 2 then zl (szE (k) (c)) (c).toNat else bdN (k)) (fun t j => if t < 2 then (szF (k).toNat (c).toNat j : Int) else (k) - (j : Int)) X) | 12 => Below X4.heap.size X4 X ∧ (FmI X4.heap.size 4 (updX (updX (updX (updX (fun _ => undef) 0 z27) 1 z33) 2 b37) 3 b39) (fun t => if t < 2 then zl (szE (k) (c)) (c).toNat else bdN (k)) (fun t j => if t < 2 then (szF (k).toNat (c).toNat j : Int) else (k) - (j : Int)) X) | 13 => Below X4.heap.size X4 X ∧ (FmI X4.heap.size 4 (updX (updX (updX (updX (fun _ => undef) 0 z27) 1 z33) 2 b37) 3 b39) (fun t => if t < 2 then zl (szE (k) (c)) (c).toNat else bdN (k)) (fun t j => if t < 2 then (szF (k).toNat (c).toNat j : Int) else (k) - (j : Int)) X) | 14 => Below X4.heap.size X4 X ∧ (FmI X4.heap.size 4 (updX (updX (updX (updX (fun _ => undef) 0 z27) 1 z33) 2 b37) 3 b39) (fun t => if t < 2 then zl (szE (k) (c)) (c).toNat else bdN (k)) (fun t j => if t < 2 then (szF (k).toNat (c).toNat j : Int) else (k) - (j : Int)) X) | 15 => Below X4.heap.size X4 X ∧ (FmI X4.heap.size 4 (updX (updX (updX (updX (fun _ => undef) 0 z27) 1 z33) 2 b37) 3 b39) (fun t => if t < 2 then zl (szE (k) (c)) (c).toNat else bdN (k)) (fun t j => if t < 2 then (szF (k).toNat (c).toNat j : Int) else (k) - (j : Int)) X) | 16 => Below X4.heap.size X4 X ∧ (FmI X4.heap.size 4 (updX (updX (updX (updX (fun _ => undef) 0 z27) 1 z33) 2 b37) 3 b39) (fun t => if t < 2 then zl (szE (k) (c)) (c).toNat else bdN (k)) (fun t j => if t < 2 then (szF (k).toNat (c).toNat j : Int) else (k) - (j : Int)) X) | 17 => Below X4.heap.size X4 X ∧ (FmI X4.heap.size 4 (updX (updX (updX (updX (fun _ => undef) 0 z27) 1 z33) 2 b37) 3 b39) (fun t => if t < 2 then zl (szE (k) (c)) (c).toNat else bdN (k)) (fun t j => if t < 2 then (szF (k).toNat (c).toNat j : Int) else (k) - (j : Int)) X) | 18 => Below X4.heap.size X4 X ∧ (FmI X4.heap.size 4 (updX (updX (updX (updX (fun _ => undef) 0 z27) 1 z33) 2 b37) 3 b39) (fun t => if t < 2 then zl (szE (k) (c)) (c).toNat else bdN (k)) (fun t j => if t < 2 then (szF (k).toNat (c).toNat j : Int) else (k) - (j : Int)) X) | 19 => Below X4.heap.size X4 X ∧ (FmI X4.heap.size 4 (updX (updX (updX (updX (fun _ => undef) 0 z27) 1 z33) 2 b37) 3 b39) (fun t => if t < 2 then zl (szE (k) (c)) (c).toNat else bdN (k)) (fun t j => if t < 2 then (szF (k).toNat (c).toNat j : Int) else (k) - (j : Int)) X) | 20 => Below X4.heap.size X4 X ∧ (FmI X4.heap.size 4 (updX (updX (updX (updX (fun _ => undef) 0 z27) 1 z33) 2 b37) 3 b39) (fun t => if t < 2 then zl (szE (k) (c)) (c).toNat else bdN (k)) (fun t j => if t < 2 then (szF (k).toNat (c).toNat j : Int) else (k) - (j : Int)) X) | 21 => Below X4.heap.size X4 X ∧ (FmI X4.heap.size 4 (updX (updX (updX (updX (fun _ => undef) 0 z27) 1 z33) 2 b37) 3 b39) (fun t => if t < 2 then zl (szE (k) (c)) (c).toNat else bdN (k)) (fun t j => if t < 2 then (szF (k).toNat (c).toNat j : Int) else (k) - (j : Int)) X) | 22 => Below X4.heap.size X4 X ∧ (FmI X4.heap.size 4 (updX (updX (updX (updX (fun _ => undef) 0 z27) 1 z33) 2 b37) 3 b39) (fun t => if t < 2 then zl (szE (k) (c)) (c).toNat else bdN (k)) (fun t j => if t < 2 then (szF (k).toNat (c).toNat j : Int) else (k) - (j : Int)) X) | 23 => Below X4.heap.size X4 X ∧ (FmI X4.heap.size 4 (updX (updX (updX (updX (fun _ => undef) 0 z27) 1 z33) 2 b37) 3 b39) (fun t => if t < 2 then zl (szE (k) (c)) (c).toNat else bdN (k)) (fun t j => if t < 2 then (szF (k).toNat (c).toNat j : Int) else (k) - (j : Int)) X) | 24 => Below X4.heap.size X4 X ∧ (FmI X4.heap.size 4 (updX (updX (updX (updX (fun _ => undef) 0 z27) 1 z33) 2 b37) 3 b39) (fun t => if t < 2 then zl (szE (k) (c)) (c).toNat else bdN (k)) (fun t j => if t < 2 then (szF (k).toNat (c).toNat j : Int) else (k) - (j : Int)) X) | 25 => Below X4.heap.size X4 X ∧ (FmI X4.heap.size 4 (updX (updX (updX (updX (fun _ => undef) 0 z27) 1 z33) 2 b37) 3 b39) (fun t => if t < 2 then zl (szE (k) (c)) (c).toNat else bdN (k)) (fun t j => if t < 2 then (szF (k).toNat (c).toNat j : Int) else (k) - (j : Int)) X) | 26 => Below X4.heap.size X4 X ∧ (FmI X4.heap.size 4 (updX (updX (updX (updX (fun _ => undef) 0 z27) 1 z33) 2 b37) 3 b39) (fun t => if t < 2 then zl (szE (k) (c)) (c).toNat else bdN (k)) (fun t j => if t < 2 then (szF (k).toNat (c).toNat j : Int) else (k) - (j : Int)) X) | 27 => Below X4.heap.size X4 X ∧ (FmI X4.heap.size 4 (updX (updX (updX (updX (fun _ => undef) 0 z27) 1 z33) 2 b37) 3 b39) (fun t => if t < 2 then zl (szE (k) (c)) (c).toNat else bdN (k)) (fun t j => if t < 2 then (szF (k).toNat (c).toNat j : Int) else (k) - (j : Int)) X) | 28 => Below X4.heap.size X4 X ∧ (FmI X4.heap.size 4 (updX (updX (updX (updX (fun _ => undef) 0 z27) 1 z33) 2 b37) 3 b39) (fun t => if t < 2 then zl (szE (k) (c)) (c).toNat else bdN (k)) (fun t j => if t < 2 then (szF (k).toNat (c).toNat j : Int) else (k) - (j : Int)) X) | 29 => Below X4.heap.size X4 X ∧ (FmI X4.heap.size 4 (updX (updX (updX (updX (fun _ => undef) 0 z27) 1 z33) 2 b37) 3 b39) (fun t => if t < 2 then zl (szE (k) (c)) (c).toNat else bdN (k)) (fun t j => if t < 2 then (szF (k).toNat (c).toNat j : Int) else (k) - (j : Int)) X) | 30 => Below X4.heap.size X4 X ∧ (FmI X4.heap.size 4 (updX (updX (updX (updX (fun _ => undef) 0 z27) 1 z33) 2 b37) 3 b39) (fun t => if t < 2 then zl (szE (k) (c)) (c).toNat else bdN (k)) (fun t j => if t < 2 then (szF (k).toNat (c).toNat j : Int) else (k) - (j : Int)) X) | 31 => Below X4.heap.size X4 X ∧ (FmI X4.heap.size 4 (updX (updX (updX (updX (fun _ => undef) 0 z27) 1 z33) 2 b37) 3 b39) (fun t => if t < 2 then zl (szE (k) (c)) (c).toNat else bdN (k)) (fun t j => if t < 2 then (szF (k).toNat (c).toNat j : Int) else (k) - (j : Int)) X) | 32 => Below X4.heap.size X4 X ∧ (FmI X4.heap.size 4 (updX (updX (updX (updX (fun _ => undef) 0 z27) 1 z33) 2 b37) 3 b39) (fun t => if t < 2 then zl (szE (k) (c)) (c).toNat else bdN (k)) (fun t j => if t < 2 then (szF (k).toNat (c).toNat j : Int) else (k) - (j : Int)) X) | 33 => Below X4.heap.size X4 X ∧ (FmI X4.heap.size 4 (updX (updX (updX (updX (fun _ => undef) 0 z27) 1 z33) 2 b37) 3 b39) (fun t => if t < 2 then zl (szE (k) (c)) (c).toNat else bdN (k)) (fun t j => if t < 2 then (szF (k).toNat (c).toNat j : Int) else (k) - (j : Int)) X) | 34 => Below X4.heap.size X4 X ∧ (FmI X4.heap.size 4 (updX (updX (updX (updX (fun _ => undef) 0 z27) 1 z33) 2 b37) 3 b39) (fun t => if t < 2 then zl (szE (k) (c)) (c).toNat else bdN (k)) (fun t j => if t < 2 then (szF (k).toNat (c).toNat j : Int) else (k) - (j : Int)) X) | 35 => Below X4.heap.size X4 X ∧ (FmI X4.heap.size 4 (updX (updX (updX (updX (fun _ => undef) 0 z27) 1 z33) 2 b37) 3 b39) (fun t => if t < 2 then zl (szE (k) (c)) (c).toNat else bdN (k)) (fun t j => if t < 2 then (szF (k).toNat (c).toNat j : Int) else (k) - (j : Int)) X) | 36 => Below X4.heap.size X4 X ∧ (FmI X4.heap.size 4 (updX (updX (updX (updX (fun _ => undef) 0 z27) 1 z33) 2 b37) 3 b39) (fun t => if t < 2 then zl (szE (k) (c)) (c).toNat else bdN (k)) (fun t j => if t < 2 then (szF (k).toNat (c).toNat j : Int) else (k) - (j : Int)) X) | 37 => Below X4.heap.size X4 X ∧ (FmI X4.heap.size 4 (updX (updX (updX (updX (fun _ => undef) 0 z27) 1 z33) 2 b37) 3 b39) (fun t => if t < 2 then zl (szE (k) (c)) (c).toNat else bdN (k)) (fun t j => if t < 2 then (szF (k).toNat (c).toNat j : Int) else (k) - (j : Int)) X) | 38 => Below X4.heap.size X4 X ∧ (FmI X4.heap.size 4 (updX (updX (updX (updX (fun _ => undef) 0 z27) 1 z33) 2 b37) 3 b39) (fun t => if t < 2 then zl (szE (k) (c)) (c).toNat else bdN (k)) (fun t j => if t < 2 then (szF (k).toNat (c).toNat j : Int) else (k) - (j : Int)) X) ∧ (X.heap[s]? = some (.cells #[z27, z33, b37, b39] 23)) | 39 => Below X4.heap.size X4 X | 40 => Below X4.heap.size X4 X | _ => Below X4.heap.size X4 X) (fun s => fun i_ => match i_ with | 0 => .int .i64 ((szE (k) (c) : Nat) : Int) | 1 => .int .i64 ((szE (k) (c) : Nat) : Int) | 2 => .bool false | 3 => .bool false | 4 => .int .i64 ((szE (k) (c) : Nat) : Int) | 5 => .int .i64 ((szE (k) (c) : Nat) : Int) | 6 => .bool false | 7 => .bool false | 8 => .bool false | 9 => z27 | 10 => z19 | 11 => .bool true | 12 => .bool false | 13 => .bool false | 14 => .bool false | 15 => z33 | 16 => z19 | 17 => .bool true | 18 => .bool false | 19 => .bool false | 20 => .bool false | 21 => b37 | 22 => b23 | 23 => .bool true | 24 => .bool false | 25 => .bool false | 26 => .bool false | 27 => b39 | 28 => b23 | 29 => .bool true | 30 => .bool false | 31 => .bool false | 32 => .bool false | 33 => z27 | 34 => z33 | 35 => b37 | 36 => b39 | 37 => .slice (some ⟨s, 0, none⟩) 4 4 | 38 => .bool true | 39 => .bool false | 40 => .bool false | _ => undef) 0 A.1 (by kernel_rfl) (by decide) (by decide) ⟨BB, FM4⟩ ?_ ?_
  · intro i_ hi_ s a X hf hv hn hS
    match i_, hi_ with
    | 0, _ => exact stepV rfl rfl (execMvB rfl ((hf 9 (by decide)).trans t9)) ⟨s, ⟨_, rfl, rfl⟩, hS, fun _ _ => rfl⟩
    | 1, _ => exact stepV rfl rfl (execMvB rfl ((hf 6 (by decide)).trans t6)) ⟨s, ⟨_, rfl, rfl⟩, hS, fun _ _ => rfl⟩
    | 2, _ => exact stepV rfl rfl (execDec (execNeN (p := szE (k) (c)) (q := szE (k) (c)) rfl (hv 0 (by omega) _ rfl _ rfl) (hv 1 (by omega) _ rfl _ rfl)) (decide_eq_false (by omega))) ⟨s, ⟨_, rfl, rfl⟩, hS, fun _ _ => rfl⟩
    | 3, _ => exact stepV rfl rfl (execMvB rfl (hv 2 (by omega) _ rfl _ rfl)) ⟨s, ⟨_, rfl, rfl⟩, hS, fun _ _ => rfl⟩
    | 4, _ => exact stepV rfl (wantedOf rfl (yieldedAt rfl rfl (show a.eval (.tmp 43) = .bool false from (hv 3 (by omega) _ rfl _ rfl)))) (execMvB rfl ((hf 11 (by decide)).trans t11)) ⟨s, ⟨_, rfl, rfl⟩, hS, fun _ _ => rfl⟩
    | 5, _ => exact stepV rfl (wantedOf rfl (yieldedAt rfl rfl (show a.eval (.tmp 43) = .bool false from (hv 3 (by omega) _ rfl _ rfl)))) (execMvB rfl ((hf 6 (by decide)).trans t6)) ⟨s, ⟨_, rfl, rfl⟩, hS, fun _ _ => rfl⟩
    | 6, _ => exact stepV rfl (wantedOf rfl (yieldedAt rfl rfl (show a.eval (.tmp 43) = .bool false from (hv 3 (by omega) _ rfl _ rfl)))) (execDec (execNeN (p := szE (k) (c)) (q := szE (k) (c)) rfl (hv 4 (by omega) _ rfl _ rfl) (hv 5 (by omega) _ rfl _ rfl)) (decide_eq_false (by omega))) ⟨s, ⟨_, rfl, rfl⟩, hS, fun _ _ => rfl⟩
    | 7, _ => exact stepV rfl rfl (execPickF rfl (hv 3 (by omega) _ rfl _ rfl) (hv 6 (by omega) _ rfl _ rfl)) ⟨s, ⟨_, rfl, rfl⟩, hS, fun _ _ => rfl⟩
    | 8, _ => exact stepV rfl rfl (execMvB rfl (hv 7 (by omega) _ rfl _ rfl)) ⟨s, ⟨_, rfl, rfl⟩, hS, fun _ _ => rfl⟩
    | 9, _ => exact stepV rfl (wantedOf rfl (yieldedAt rfl rfl (show a.eval (.tmp 48) = .bool false from (hv 8 (by omega) _ rfl _ rfl)))) (execMvB rfl ((hf 8 (by decide)).trans t8)) ⟨s, ⟨_, rfl, rfl⟩, hS, fun _ _ => rfl⟩
    | 10, _ => exact stepV rfl (wantedOf rfl (yieldedAt rfl rfl (show a.eval (.tmp 48) = .bool false from (hv 8 (by omega) _ rfl _ rfl)))) (execMvB rfl ((hf 5 (by decide)).trans t5)) ⟨s, ⟨_, rfl, rfl⟩, hS, fun _ _ => rfl⟩
    | 11, _ => exact stepC rfl (wantedOf rfl (yieldedAt rfl rfl (show a.eval (.tmp 48) = .bool false from (hv 8 (by omega) _ rfl _ rfl)))) (execCall2 Try.func14 (by kernel_rfl) (by kernel_rfl) rfl (hv 9 (by omega) _ rfl _ rfl) (hv 10 (by omega) _ rfl _ rfl)) (same_t _ _ (zl (szE (k) (c)) (c).toNat) _ _ X (own_ints (hS.2.rows 0 (by omega)) sz_fits) (Fz19.on hS.1) (fun _ _ => rfl) (by have h1_ := sz_len k c; have h2_ := bd_len k; omega)) fun e w' hh => ⟨_, hh.1, s, ⟨_, rfl, rfl⟩, ⟨(hS.1).trans ((hh.2).mono (hS.1).size), (hS.2.on hh.2)⟩, fun _ _ => rfl⟩
    | 12, _ => exact stepV rfl (wantedOf rfl (yieldedAt rfl rfl (show a.eval (.tmp 48) = .bool false from (hv 8 (by omega) _ rfl _ rfl)))) (execNot8 rfl (hv 11 (by omega) _ rfl _ rfl)) ⟨s, ⟨_, rfl, rfl⟩, hS, fun _ _ => rfl⟩
    | 13, _ => exact stepV rfl rfl (execPickF rfl (hv 8 (by omega) _ rfl _ rfl) (hv 12 (by omega) _ rfl _ rfl)) ⟨s, ⟨_, rfl, rfl⟩, hS, fun _ _ => rfl⟩
    | 14, _ => exact stepV rfl rfl (execMvB rfl (hv 13 (by omega) _ rfl _ rfl)) ⟨s, ⟨_, rfl, rfl⟩, hS, fun _ _ => rfl⟩
    | 15, _ => exact stepV rfl (wantedOf rfl (yieldedAt rfl rfl (show a.eval (.tmp 54) = .bool false from (hv 14 (by omega) _ rfl _ rfl)))) (execMvB rfl ((hf 10 (by decide)).trans t10)) ⟨s, ⟨_, rfl, rfl⟩, hS, fun _ _ => rfl⟩
    | 16, _ => exact stepV rfl (wantedOf rfl (yieldedAt rfl rfl (show a.eval (.tmp 54) = .bool false from (hv 14 (by omega) _ rfl _ rfl)))) (execMvB rfl ((hf 5 (by decide)).trans t5)) ⟨s, ⟨_, rfl, rfl⟩, hS, fun _ _ => rfl⟩
    | 17, _ => exact stepC rfl (wantedOf rfl (yieldedAt rfl rfl (show a.eval (.tmp 54) = .bool false from (hv 14 (by omega) _ rfl _ rfl)))) (execCall2 Try.func14 (by kernel_rfl) (by kernel_rfl) rfl (hv 15 (by omega) _ rfl _ rfl) (hv 16 (by omega) _ rfl _ rfl)) (same_t _ _ (zl (szE (k) (c)) (c).toNat) _ _ X (own_ints (hS.2.rows 1 (by omega)) sz_fits) (Fz19.on hS.1) (fun _ _ => rfl) (by have h1_ := sz_len k c; have h2_ := bd_len k; omega)) fun e w' hh => ⟨_, hh.1, s, ⟨_, rfl, rfl⟩, ⟨(hS.1).trans ((hh.2).mono (hS.1).size), (hS.2.on hh.2)⟩, fun _ _ => rfl⟩
    | 18, _ => exact stepV rfl (wantedOf rfl (yieldedAt rfl rfl (show a.eval (.tmp 54) = .bool false from (hv 14 (by omega) _ rfl _ rfl)))) (execNot8 rfl (hv 17 (by omega) _ rfl _ rfl)) ⟨s, ⟨_, rfl, rfl⟩, hS, fun _ _ => rfl⟩
    | 19, _ => exact stepV rfl rfl (execPickF rfl (hv 14 (by omega) _ rfl _ rfl) (hv 18 (by omega) _ rfl _ rfl)) ⟨s, ⟨_, rfl, rfl⟩, hS, fun _ _ => rfl⟩
    | 20, _ => exact stepV rfl rfl (execMvB rfl (hv 19 (by omega) _ rfl _ rfl)) ⟨s, ⟨_, rfl, rfl⟩, hS, fun _ _ => rfl⟩
    | 21, _ => exact stepV rfl (wantedOf rfl (yieldedAt rfl rfl (show a.eval (.tmp 60) = .bool false from (hv 20 (by omega) _ rfl _ rfl)))) (execMvB rfl ((hf 12 (by decide)).trans t12)) ⟨s, ⟨_, rfl, rfl⟩, hS, fun _ _ => rfl⟩
    | 22, _ => exact stepV rfl (wantedOf rfl (yieldedAt rfl rfl (show a.eval (.tmp 60) = .bool false from (hv 20 (by omega) _ rfl _ rfl)))) (execMvB rfl ((hf 7 (by decide)).trans t7)) ⟨s, ⟨_, rfl, rfl⟩, hS, fun _ _ => rfl⟩
    | 23, _ => exact stepC rfl (wantedOf rfl (yieldedAt rfl rfl (show a.eval (.tmp 60) = .bool false from (hv 20 (by omega) _ rfl _ rfl)))) (execCall2 Try.func14 (by kernel_rfl) (by kernel_rfl) rfl (hv 21 (by omega) _ rfl _ rfl) (hv 22 (by omega) _ rfl _ rfl)) (same_t _ _ (bdN (k)) _ _ X (own_ints (hS.2.rows 2 (by omega)) bd_fits) (Fb23.on hS.1) (fun _ _ => rfl) (by have h1_ := sz_len k c; have h2_ := bd_len k; omega)) fun e w' hh => ⟨_, hh.1, s, ⟨_, rfl, rfl⟩, ⟨(hS.1).trans ((hh.2).mono (hS.1).size), (hS.2.on hh.2)⟩, fun _ _ => rfl⟩
    | 24, _ => exact stepV rfl (wantedOf rfl (yieldedAt rfl rfl (show a.eval (.tmp 60) = .bool false from (hv 20 (by omega) _ rfl _ rfl)))) (execNot8 rfl (hv 23 (by omega) _ rfl _ rfl)) ⟨s, ⟨_, rfl, rfl⟩, hS, fun _ _ => rfl⟩
    | 25, _ => exact stepV rfl rfl (execPickF rfl (hv 20 (by omega) _ rfl _ rfl) (hv 24 (by omega) _ rfl _ rfl)) ⟨s, ⟨_, rfl, rfl⟩, hS, fun _ _ => rfl⟩
    | 26, _ => exact stepV rfl rfl (execMvB rfl (hv 25 (by omega) _ rfl _ rfl)) ⟨s, ⟨_, rfl, rfl⟩, hS, fun _ _ => rfl⟩
    | 27, _ => exact stepV rfl (wantedOf rfl (yieldedAt rfl rfl (show a.eval (.tmp 66) = .bool false from (hv 26 (by omega) _ rfl _ rfl)))) (execMvB rfl ((hf 13 (by decide)).trans t13)) ⟨s, ⟨_, rfl, rfl⟩, hS, fun _ _ => rfl⟩
    | 28, _ => exact stepV rfl (wantedOf rfl (yieldedAt rfl rfl (show a.eval (.tmp 66) = .bool false from (hv 26 (by omega) _ rfl _ rfl)))) (execMvB rfl ((hf 7 (by decide)).trans t7)) ⟨s, ⟨_, rfl, rfl⟩, hS, fun _ _ => rfl⟩
    | 29, _ => exact stepC rfl (wantedOf rfl (yieldedAt rfl rfl (show a.eval (.tmp 66) = .bool false from (hv 26 (by omega) _ rfl _ rfl)))) (execCall2 Try.func14 (by kernel_rfl) (by kernel_rfl) rfl (hv 27 (by omega) _ rfl _ rfl) (hv 28 (by omega) _ rfl _ rfl)) (same_t _ _ (bdN (k)) _ _ X (own_ints (hS.2.rows 3 (by omega)) bd_fits) (Fb23.on hS.1) (fun _ _ => rfl) (by have h1_ := sz_len k c; have h2_ := bd_len k; omega)) fun e w' hh => ⟨_, hh.1, s, ⟨_, rfl, rfl⟩, ⟨(hS.1).trans ((hh.2).mono (hS.1).size), (hS.2.on hh.2)⟩, fun _ _ => rfl⟩
    | 30, _ => exact stepV rfl (wantedOf rfl (yieldedAt rfl rfl (show a.eval (.tmp 66) = .bool false from (hv 26 (by omega) _ rfl _ rfl)))) (execNot8 rfl (hv 29 (by omega) _ rfl _ rfl)) ⟨s, ⟨_, rfl, rfl⟩, hS, fun _ _ => rfl⟩
    | 31, _ => exact stepV rfl rfl (execPickF rfl (hv 26 (by omega) _ rfl _ rfl) (hv 30 (by omega) _ rfl _ rfl)) ⟨s, ⟨_, rfl, rfl⟩, hS, fun _ _ => rfl⟩
    | 32, _ => exact stepV rfl rfl (execMvB rfl (hv 31 (by omega) _ rfl _ rfl)) ⟨s, ⟨_, rfl, rfl⟩, hS, fun _ _ => rfl⟩
    | 33, _ => exact stepV rfl (wantedOf rfl (yieldedAt rfl rfl (show a.eval (.tmp 72) = .bool false from (hv 32 (by omega) _ rfl _ rfl)))) (execMvB rfl ((hf 8 (by decide)).trans t8)) ⟨s, ⟨_, rfl, rfl⟩, hS, fun _ _ => rfl⟩
    | 34, _ => exact stepV rfl (wantedOf rfl (yieldedAt rfl rfl (show a.eval (.tmp 72) = .bool false from (hv 32 (by omega) _ rfl _ rfl)))) (execMvB rfl ((hf 10 (by decide)).trans t10)) ⟨s, ⟨_, rfl, rfl⟩, hS, fun _ _ => rfl⟩
    | 35, _ => exact stepV rfl (wantedOf rfl (yieldedAt rfl rfl (show a.eval (.tmp 72) = .bool false from (hv 32 (by omega) _ rfl _ rfl)))) (execMvB rfl ((hf 12 (by decide)).trans t12)) ⟨s, ⟨_, rfl, rfl⟩, hS, fun _ _ => rfl⟩
    | 36, _ => exact stepV rfl (wantedOf rfl (yieldedAt rfl rfl (show a.eval (.tmp 72) = .bool false from (hv 32 (by omega) _ rfl _ rfl)))) (execMvB rfl ((hf 13 (by decide)).trans t13)) ⟨s, ⟨_, rfl, rfl⟩, hS, fun _ _ => rfl⟩
    | 37, _ =>
      refine stepV rfl (wantedOf rfl (yieldedAt rfl rfl (show a.eval (.tmp 72) = .bool false from (hv 32 (by omega) _ rfl _ rfl)))) (execBsLI4 rfl (hv 33 (by omega) _ rfl _ rfl) (hv 34 (by omega) _ rfl _ rfl) (hv 35 (by omega) _ rfl _ rfl) (hv 36 (by omega) _ rfl _ rfl) (shp3 (hS.2.rows 0 (by omega))) (shp3 (hS.2.rows 1 (by omega))) (shp3 (hS.2.rows 2 (by omega))) (shp3 (hS.2.rows 3 (by omega)))) ⟨X.heap.size, ⟨_, rfl, rfl⟩, ⟨(hS.1).trans (((belNew X _)).mono (hS.1).size), (hS.2.on (belNew X _)), heapNew X _⟩, fun i hi => ?_⟩
      match i, hi with
      | 0, _ => rfl
      | 1, _ => rfl
      | 2, _ => rfl
      | 3, _ => rfl
      | 4, _ => rfl
      | 5, _ => rfl
      | 6, _ => rfl
      | 7, _ => rfl
      | 8, _ => rfl
      | 9, _ => rfl
      | 10, _ => rfl
      | 11, _ => rfl
      | 12, _ => rfl
      | 13, _ => rfl
      | 14, _ => rfl
      | 15, _ => rfl
      | 16, _ => rfl
      | 17, _ => rfl
      | 18, _ => rfl
      | 19, _ => rfl
      | 20, _ => rfl
      | 21, _ => rfl
      | 22, _ => rfl
      | 23, _ => rfl
      | 24, _ => rfl
      | 25, _ => rfl
      | 26, _ => rfl
      | 27, _ => rfl
      | 28, _ => rfl
      | 29, _ => rfl
      | 30, _ => rfl
      | 31, _ => rfl
      | 32, _ => rfl
      | 33, _ => rfl
      | 34, _ => rfl
      | 35, _ => rfl
      | 36, _ => rfl
      | n_ + 37, h_ => omega
    | 38, _ =>
      refine stepC rfl (wantedOf rfl (yieldedAt rfl rfl (show a.eval (.tmp 72) = .bool false from (hv 32 (by omega) _ rfl _ rfl)))) (execCall1 Try.func15 (by kernel_rfl) (by kernel_rfl) rfl (hv 37 (by omega) _ rfl _ rfl)) (apart_any X4 X 4 _ _ (updX (updX (updX (updX (fun _ => undef) 0 z27) 1 z33) 2 b37) 3 b39) (fun t => if t < 2 then zl (szE (k) (c)) (c).toNat else bdN (k)) #[z27, z33, b37, b39] (by omega) (fun t ht => by match t, ht with | 0, _ => rfl | 1, _ => rfl | 2, _ => rfl | 3, _ => rfl | t + 4, h => omega) (fun t _ => by show (if t < 2 then _ else _) ≤ _; split; exact Nat.le_trans (sz_len k c) (by omega); exact Nat.le_trans (bd_len k) (by omega)) (fun t j => if t < 2 then (szF (k).toNat (c).toNat j : Int) else (k) - (j : Int)) hS.1 hS.2.1 hS.2.2) fun e w' hh => ?_
      obtain ⟨he, hsv, hb⟩ := hh
      refine ⟨_, he, s, ⟨_, rfl, rfl⟩, hb, fun i hi => ?_⟩
      match i, hi with
      | 0, _ => rfl
      | 1, _ => rfl
      | 2, _ => rfl
      | 3, _ => rfl
      | 4, _ => rfl
      | 5, _ => rfl
      | 6, _ => rfl
      | 7, _ => rfl
      | 8, _ => rfl
      | 9, _ => rfl
      | 10, _ => rfl
      | 11, _ => rfl
      | 12, _ => rfl
      | 13, _ => rfl
      | 14, _ => rfl
      | 15, _ => rfl
      | 16, _ => rfl
      | 17, _ => rfl
      | 18, _ => rfl
      | 19, _ => rfl
      | 20, _ => rfl
      | 21, _ => rfl
      | 22, _ => rfl
      | 23, _ => rfl
      | 24, _ => rfl
      | 25, _ => rfl
      | 26, _ => rfl
      | 27, _ => rfl
      | 28, _ => rfl
      | 29, _ => rfl
      | 30, _ => rfl
      | 31, _ => rfl
      | 32, _ => rfl
      | 33, _ => rfl
      | 34, _ => rfl
      | 35, _ => rfl
      | 36, _ => rfl
      | 37, _ => rfl
      | n_ + 38, h_ => omega
    | 39, _ => exact stepV rfl (wantedOf rfl (yieldedAt rfl rfl (show a.eval (.tmp 72) = .bool false from (hv 32 (by omega) _ rfl _ rfl)))) (execNot8 rfl (hv 38 (by omega) _ rfl _ rfl)) ⟨s, ⟨_, rfl, rfl⟩, hS, fun _ _ => rfl⟩
    | 40, _ => exact stepV rfl rfl (execPickF rfl (hv 32 (by omega) _ rfl _ rfl) (hv 39 (by omega) _ rfl _ rfl)) ⟨s, ⟨_, rfl, rfl⟩, hS, fun _ _ => rfl⟩
    | k_ + 41, h_ => exact absurd h_ (by simp)
  rintro gl a X8 h1 h2 h3 h4 hS
  clear BB
  clear FM4
  replace hS : Below X4.heap.size X4 X8 := hS
  have BB := hS
  clear hS
  replace t0 := (h3 0 (by decide)).trans t0
  replace t1 := (h3 1 (by decide)).trans t1
  replace t5 := (h3 5 (by decide)).trans t5
  replace t7 := (h3 7 (by decide)).trans t7
  have t80 : a.eval (.tmp 80) = .bool false := h4 40 _ rfl _ rfl
  replace A := (⟨h1, h2.trans A.2⟩ : a.tmps.size = 96 ∧ a.defers = [])
  clear h1 h2 h3 h4
  clear t6 t8 t9 t10 t11 t12 t13
  refine wp_cond_false t80 ?_
  refine wp_skip ?_
  clear t80
  replace Fz19 := (Fz19.on BB)
  replace Fb23 := (Fb23.on BB)
  replace BW := BW.trans (BB.mono BW.size)
  clear BB
  refine wp_seq ?_
  refine wp_region_sq (σ := Value) 96 [(0, 82), (1, 83), (2, 84), (3, 81), (4, 85), (5, 86), (6, 8)] (fun j_ s X => match j_ with | 0 => Below X8.heap.size X8 X | 1 => Below X8.heap.size X8 X | 2 => Below X8.heap.size X8 X | 3 => Below X8.heap.size X8 X ∧ (SliceI X s (zl (szE (k) (c)) (c).toNat) (fun j => (szF (k).toNat (c).toNat j : Int))) | 4 => Below X8.heap.size X8 X ∧ (SliceI X s (zl (szE (k) (c)) (c).toNat) (fun j => (szF (k).toNat (c).toNat j : Int))) | 5 => Below X8.heap.size X8 X ∧ (SliceI X s (zl (szE (k) (c)) (c).toNat) (fun j => (szF (k).toNat (c).toNat j : Int))) | 6 => Below X8.heap.size X8 X ∧ (SliceI X s (zl (szE (k) (c)) (c).toNat) (fun j => (szF (k).toNat (c).toNat j : Int))) | _ => Below X8.heap.size X8 X ∧ (SliceI X s (zl (szE (k) (c)) (c).toNat) (fun j => (szF (k).toNat (c).toNat j : Int)))) (fun s => fun i_ => match i_ with | 0 => .int .i64 k | 1 => .int .i64 c | 2 => .tuple #[s, .int .i64 ((szE (k) (c) : Nat) : Int)] | 3 => .tuple #[s, .int .i64 ((szE (k) (c) : Nat) : Int)] | 4 => s | 5 => .int .i64 ((szE (k) (c) : Nat) : Int) | 6 => s | _ => undef) undef A.1 (by kernel_rfl) (by decide) (by decide) (Below.refl _ _) ?_ ?_
  · intro i_ hi_ s a X hf hv hn hS
    match i_, hi_ with
    | 0, _ => exact stepV rfl rfl (execMvB rfl ((hf 0 (by decide)).trans t0)) ⟨s, ⟨_, rfl, rfl⟩, hS, fun _ _ => rfl⟩
    | 1, _ => exact stepV rfl rfl (execMvB rfl ((hf 1 (by decide)).trans t1)) ⟨s, ⟨_, rfl, rfl⟩, hS, fun _ _ => rfl⟩
    | 2, _ =>
      refine stepC rfl rfl (execCall2 Try.func12 (by kernel_rfl) (by kernel_rfl) rfl (hv 0 (by omega) _ rfl _ rfl) (hv 1 (by omega) _ rfl _ rfl)) (psizes (k) (c) X) fun e w' hh => ?_
      obtain ⟨r0_, he, hk, hb⟩ := hh
      refine ⟨_, he, r0_, ⟨_, rfl, rfl⟩, ⟨(hS).trans ((hb).mono (hS).size), own_ints hk sz_fits⟩, fun i hi => ?_⟩
      match i, hi with
      | 0, _ => rfl
      | 1, _ => rfl
      | n_ + 2, h_ => omega
    | 3, _ => exact stepV rfl rfl (execMvB rfl (hv 2 (by omega) _ rfl _ rfl)) ⟨s, ⟨_, rfl, rfl⟩, hS, fun _ _ => rfl⟩
    | 4, _ => exact stepV rfl rfl (execExtT rfl (hv 3 (by omega) _ rfl _ rfl) rfl) ⟨s, ⟨_, rfl, rfl⟩, hS, fun _ _ => rfl⟩
    | 5, _ => exact stepV rfl rfl (execExtT rfl (hv 3 (by omega) _ rfl _ rfl) rfl) ⟨s, ⟨_, rfl, rfl⟩, hS, fun _ _ => rfl⟩
    | 6, _ => exact stepV rfl rfl (execAsgB rfl (hv 4 (by omega) _ rfl _ rfl)) ⟨s, ⟨_, rfl, rfl⟩, hS, fun _ _ => rfl⟩
    | k_ + 7, h_ => exact absurd h_ (by simp)
  rintro z84 a X10 h1 h2 h3 h4 hS
  replace hS : Below X8.heap.size X8 X10 ∧ (SliceI X10 z84 (zl (szE (k) (c)) (c).toNat) (fun j => (szF (k).toNat (c).toNat j : Int))) := hS
  obtain ⟨bX, Fz84⟩ := hS
  replace t0 := (h3 0 (by decide)).trans t0
  replace t1 := (h3 1 (by decide)).trans t1
  replace t5 := (h3 5 (by decide)).trans t5
  replace t7 := (h3 7 (by decide)).trans t7
  have t8 : a.eval (.tmp 8) = z84 := h4 6 _ rfl _ rfl
  replace Fz19 := (Fz19.on bX)
  replace Fb23 := (Fb23.on bX)
  have ZX10 := bX.size
  replace BW := BW.trans (bX.mono BW.size)
  clear bX
  replace A := (⟨h1, h2.trans A.2⟩ : a.tmps.size = 96 ∧ a.defers = [])
  clear h1 h2 h3 h4
  refine wp_seq ?_
  refine wp_region_sq (σ := Value) 96 [(0, 87), (1, 88), (2, 89), (3, 90), (4, 91), (5, 92), (6, 93), (7, 94), (8, 95), (9, 4)] (fun j_ s X => match j_ with | 0 => Below X10.heap.size X10 X | 1 => Below X10.heap.size X10 X | 2 => Below X10.heap.size X10 X | 3 => Below X10.heap.size X10 X | 4 => Below X10.heap.size X10 X | 5 => Below X10.heap.size X10 X | 6 => Below X10.heap.size X10 X ∧ (SliceI X s (bdN (k)) (fun j => (k) - (j : Int))) | 7 => Below X10.heap.size X10 X ∧ (SliceI X s (bdN (k)) (fun j => (k) - (j : Int))) | 8 => Below X10.heap.size X10 X ∧ (SliceI X s (bdN (k)) (fun j => (k) - (j : Int))) | 9 => Below X10.heap.size X10 X ∧ (SliceI X s (bdN (k)) (fun j => (k) - (j : Int))) | _ => Below X10.heap.size X10 X ∧ (SliceI X s (bdN (k)) (fun j => (k) - (j : Int)))) (fun s => fun i_ => match i_ with | 0 => z84 | 1 => z19 | 2 => .bool true | 3 => .bool true | 4 => .int .i64 k | 5 => s | 6 => b23 | 7 => .bool true | 8 => .bool true | 9 => .bool true | _ => undef) undef A.1 (by kernel_rfl) (by decide) (by decide) (Below.refl _ _) ?_ ?_
  · intro i_ hi_ s a X hf hv hn hS
    match i_, hi_ with
    | 0, _ => exact stepV rfl rfl (execMvB rfl ((hf 8 (by decide)).trans t8)) ⟨s, ⟨_, rfl, rfl⟩, hS, fun _ _ => rfl⟩
    | 1, _ => exact stepV rfl rfl (execMvB rfl ((hf 5 (by decide)).trans t5)) ⟨s, ⟨_, rfl, rfl⟩, hS, fun _ _ => rfl⟩
    | 2, _ => exact stepC rfl rfl (execCall2 Try.func14 (by kernel_rfl) (by kernel_rfl) rfl (hv 0 (by omega) _ rfl _ rfl) (hv 1 (by omega) _ rfl _ rfl)) (same_t _ _ (zl (szE (k) (c)) (c).toNat) _ _ X (Fz84.on hS) (Fz19.on hS) (fun _ _ => rfl) (by have h1_ := sz_len k c; have h2_ := bd_len k; omega)) fun e w' hh => ⟨_, hh.1, s, ⟨_, rfl, rfl⟩, (hS).trans ((hh.2).mono (hS).size), fun _ _ => rfl⟩
    | 3, _ => exact stepV rfl rfl (execMvB rfl (hv 2 (by omega) _ rfl _ rfl)) ⟨s, ⟨_, rfl, rfl⟩, hS, fun _ _ => rfl⟩
    | 4, _ => exact stepV rfl (wantedOf rfl (yieldedAt rfl rfl (show a.eval (.tmp 90) = .bool true from (hv 3 (by omega) _ rfl _ rfl)))) (execMvB rfl ((hf 0 (by decide)).trans t0)) ⟨s, ⟨_, rfl, rfl⟩, hS, fun _ _ => rfl⟩
    | 5, _ =>
      refine stepC rfl (wantedOf rfl (yieldedAt rfl rfl (show a.eval (.tmp 90) = .bool true from (hv 3 (by omega) _ rfl _ rfl)))) (execCall1 Try.func13 (by kernel_rfl) (by kernel_rfl) rfl (hv 4 (by omega) _ rfl _ rfl)) (pbounds12 (k) X) fun e w' hh => ?_
      obtain ⟨r0_, he, hk, hb⟩ := hh
      refine ⟨_, he, r0_, ⟨_, rfl, rfl⟩, ⟨(hS).trans ((hb).mono (hS).size), own_ints hk bd_fits⟩, fun i hi => ?_⟩
      match i, hi with
      | 0, _ => rfl
      | 1, _ => rfl
      | 2, _ => rfl
      | 3, _ => rfl
      | 4, _ => rfl
      | n_ + 5, h_ => omega
    | 6, _ => exact stepV rfl (wantedOf rfl (yieldedAt rfl rfl (show a.eval (.tmp 90) = .bool true from (hv 3 (by omega) _ rfl _ rfl)))) (execMvB rfl ((hf 7 (by decide)).trans t7)) ⟨s, ⟨_, rfl, rfl⟩, hS, fun _ _ => rfl⟩
    | 7, _ => exact stepC rfl (wantedOf rfl (yieldedAt rfl rfl (show a.eval (.tmp 90) = .bool true from (hv 3 (by omega) _ rfl _ rfl)))) (execCall2 Try.func14 (by kernel_rfl) (by kernel_rfl) rfl (hv 5 (by omega) _ rfl _ rfl) (hv 6 (by omega) _ rfl _ rfl)) (same_t _ _ (bdN (k)) _ _ X hS.2 (Fb23.on hS.1) (fun _ _ => rfl) (by have h1_ := sz_len k c; have h2_ := bd_len k; omega)) fun e w' hh => ⟨_, hh.1, s, ⟨_, rfl, rfl⟩, ⟨(hS.1).trans ((hh.2).mono (hS.1).size), (hS.2.on hh.2)⟩, fun _ _ => rfl⟩
    | 8, _ => exact stepV rfl rfl (execPickT rfl (hv 3 (by omega) _ rfl _ rfl) (hv 7 (by omega) _ rfl _ rfl)) ⟨s, ⟨_, rfl, rfl⟩, hS, fun _ _ => rfl⟩
    | 9, _ => exact stepV rfl rfl (execAsgB rfl (hv 8 (by omega) _ rfl _ rfl)) ⟨s, ⟨_, rfl, rfl⟩, hS, fun _ _ => rfl⟩
    | k_ + 10, h_ => exact absurd h_ (by simp)
  rintro b92 a X11 h1 h2 h3 h4 hS
  replace hS : Below X10.heap.size X10 X11 ∧ (SliceI X11 b92 (bdN (k)) (fun j => (k) - (j : Int))) := hS
  obtain ⟨bX, Fb92⟩ := hS
  have t4 : a.eval (.tmp 4) = .bool true := h4 9 _ rfl _ rfl
  replace Fz19 := (Fz19.on bX)
  replace Fb23 := (Fb23.on bX)
  replace Fz84 := (Fz84.on bX)
  have ZX11 := bX.size
  replace BW := BW.trans (bX.mono BW.size)
  clear bX
  replace A := (⟨h1, h2.trans A.2⟩ : a.tmps.size = 96 ∧ a.defers = [])
  clear h1 h2 h3 h4
  clear t0 t1 t5 t7 t8
  refine wp_ret ?_
  repeat (first | refine ret_in ?_ | refine ret_then ?_)
  refine bodyPost_ret (results_tmp rfl _ _ _) A.2 ⟨?_, BW⟩
  show Ending.returned (a.eval (.tmp 4)) = _
  rw [t4]
end Go.Proofs.Ytdecmmcphcomhaa.Brd
