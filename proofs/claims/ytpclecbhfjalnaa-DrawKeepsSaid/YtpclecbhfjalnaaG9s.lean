import Derived.Test.YtpclecbhfjalnaaG9r
namespace Go.Proofs.Ytpclecbhfjalnaa.Drw
open Go.RowKit Gf8 Aes By8 Cel Cf Tap
/- DrawPieces over any Impl, lists of at most 1048576. Written by tools/mkG9s.py. -/
set_option maxRecDepth 100000 in
set_option maxHeartbeats 4000000 in
theorem pieces_one (I : Impl) (p : Nat → Nat) (l : Nat) (cs bs : Nat → Int) (n m : Nat) (pv av bv : Value) (V : World) (hp : SliceN V pv l p) (hl : l ≤ 1048576) (_hz : ∀ l c, pv = .slice none l c → c = 0) (hb : SliceI V av n cs) (hn17 : n ≤ 1048576) (hza : ∀ l c, av = .slice none l c → c = 0) (hwv : SliceI V bv m bs) (hm17 : m ≤ 1048576) (hzb : ∀ l c, bv = .slice none l c → c = 0) (hE0 : allE p l cs n ≠ 0) : Calls Try.prog 7 #[pv, av, bv] V fun e w' => e = .returned (.bool true) ∧ Below V.heap.size V w' := by
  have FP := hp
  have FI := hb
  have FJ := hwv
  have hpb := hp.bytes
  by_cases hEA : allE p l (catI n cs bs) (n + m) = allE p l cs n
  · go_enter Try.func7, Try.ntmps7
    refine wp_seq ?_
    refine wp_region_sqK 161 [(0, 6)] (fun i_ => match i_ with | 0 => .bool false | _ => undef) rfl (by kernel_rfl) (by decide) (by decide) ?_ ?_
    · intro i_ hi_ a hf hv hn
      match i_, hi_ with
      | 0, _ => exact stepV rfl rfl (execAsgB rfl rfl) ⟨⟨_, rfl, rfl⟩, rfl⟩
      | k_ + 1, h_ => exact absurd h_ (by simp)
    intro a h1 h2 h3 h4
    have t0 : a.eval (.tmp 0) = pv := (h3 0 (by decide)).trans rfl
    have t1 : a.eval (.tmp 1) = av := (h3 1 (by decide)).trans rfl
    have t2 : a.eval (.tmp 2) = bv := (h3 2 (by decide)).trans rfl
    have A : a.tmps.size = 161 ∧ a.defers = [] := ⟨h1, h2⟩
    have BW : Below V.heap.size V V := Below.refl _ _
    clear h1 h2 h3 h4
    refine wp_seq ?_
    refine wp_seq ?_
    refine wp_region_sq (σ := Unit) 161 [(0, 25), (1, 26)] (fun j_ s X => match j_ with | 0 => Below V.heap.size V X | 1 => Below V.heap.size V X | _ => Below V.heap.size V X) (fun s => fun i_ => match i_ with | 0 => .bool true | 1 => .bool false | _ => undef) () A.1 (by kernel_rfl) (by decide) (by decide) (Below.refl _ _) ?_ ?_
    · intro i_ hi_ s a X hf hv hn hS
      match i_, hi_ with
      | 0, _ => exact stepC rfl rfl (execCall0 Try.func9 (by kernel_rfl) (by kernel_rfl) rfl ) (alive10 I X) fun e w' hh => ⟨_, hh.1, s, ⟨_, rfl, rfl⟩, (hS).trans ((hh.2).mono (hS).size), fun _ _ => rfl⟩
      | 1, _ => exact stepV rfl rfl (execNot8 rfl (hv 0 (by omega) _ rfl _ rfl)) ⟨s, ⟨_, rfl, rfl⟩, hS, fun _ _ => rfl⟩
      | k_ + 2, h_ => exact absurd h_ (by simp)
    rintro _ a X1 h1 h2 h3 h4 hS
    replace hS : Below V.heap.size V X1 := hS
    have bX := hS
    clear hS
    replace t0 := (h3 0 (by decide)).trans t0
    replace t1 := (h3 1 (by decide)).trans t1
    replace t2 := (h3 2 (by decide)).trans t2
    have t26 : a.eval (.tmp 26) = .bool false := h4 1 _ rfl _ rfl
    replace FP := (FP.on bX)
    replace FI := (FI.on bX)
    replace FJ := (FJ.on bX)
    have ZX1 := bX.size
    replace BW := BW.trans (bX.mono BW.size)
    clear bX
    replace A := (⟨h1, h2.trans A.2⟩ : a.tmps.size = 161 ∧ a.defers = [])
    clear h1 h2 h3 h4
    refine wp_cond_false t26 ?_
    refine wp_skip ?_
    clear t26
    refine wp_seq ?_
    refine wp_region_sq (σ := Value) 161 [(0, 28), (1, 29), (2, 30), (3, 27), (4, 31), (5, 32), (6, 33), (7, 7), (8, 8), (9, 9)] (fun j_ s X => match j_ with | 0 => Below X1.heap.size X1 X | 1 => Below X1.heap.size X1 X | 2 => Below X1.heap.size X1 X | 3 => Below X1.heap.size X1 X ∧ (SliceI X s (allN p l cs n) (fun i => (dA p l cs i : Int))) ∧ (∀ l_ c_, s = .slice none l_ c_ → c_ = 0) | 4 => Below X1.heap.size X1 X ∧ (SliceI X s (allN p l cs n) (fun i => (dA p l cs i : Int))) ∧ (∀ l_ c_, s = .slice none l_ c_ → c_ = 0) | 5 => Below X1.heap.size X1 X ∧ (SliceI X s (allN p l cs n) (fun i => (dA p l cs i : Int))) ∧ (∀ l_ c_, s = .slice none l_ c_ → c_ = 0) | 6 => Below X1.heap.size X1 X ∧ (SliceI X s (allN p l cs n) (fun i => (dA p l cs i : Int))) ∧ (∀ l_ c_, s = .slice none l_ c_ → c_ = 0) | 7 => Below X1.heap.size X1 X ∧ (SliceI X s (allN p l cs n) (fun i => (dA p l cs i : Int))) ∧ (∀ l_ c_, s = .slice none l_ c_ → c_ = 0) | 8 => Below X1.heap.size X1 X ∧ (SliceI X s (allN p l cs n) (fun i => (dA p l cs i : Int))) ∧ (∀ l_ c_, s = .slice none l_ c_ → c_ = 0) | 9 => Below X1.heap.size X1 X ∧ (SliceI X s (allN p l cs n) (fun i => (dA p l cs i : Int))) ∧ (∀ l_ c_, s = .slice none l_ c_ → c_ = 0) | _ => Below X1.heap.size X1 X ∧ (SliceI X s (allN p l cs n) (fun i => (dA p l cs i : Int))) ∧ (∀ l_ c_, s = .slice none l_ c_ → c_ = 0)) (fun s => fun i_ => match i_ with | 0 => pv | 1 => av | 2 => .tuple #[s, .int .i64 ((allK p l cs n : Nat) : Int), .int .i64 ((allE p l cs n : Nat) : Int)] | 3 => .tuple #[s, .int .i64 ((allK p l cs n : Nat) : Int), .int .i64 ((allE p l cs n : Nat) : Int)] | 4 => s | 5 => .int .i64 ((allK p l cs n : Nat) : Int) | 6 => .int .i64 ((allE p l cs n : Nat) : Int) | 7 => s | 8 => .int .i64 ((allK p l cs n : Nat) : Int) | 9 => .int .i64 ((allE p l cs n : Nat) : Int) | _ => undef) undef A.1 (by kernel_rfl) (by decide) (by decide) (Below.refl _ _) ?_ ?_
    · intro i_ hi_ s a X hf hv hn hS
      match i_, hi_ with
      | 0, _ => exact stepV rfl rfl (execMvB rfl ((hf 0 (by decide)).trans t0)) ⟨s, ⟨_, rfl, rfl⟩, hS, fun _ _ => rfl⟩
      | 1, _ => exact stepV rfl rfl (execMvB rfl ((hf 1 (by decide)).trans t1)) ⟨s, ⟨_, rfl, rfl⟩, hS, fun _ _ => rfl⟩
      | 2, _ =>
        refine stepC rfl rfl (execCall2 Try.func17 (by kernel_rfl) (by kernel_rfl) rfl (hv 0 (by omega) _ rfl _ rfl) (hv 1 (by omega) _ rfl _ rfl)) (I.all p l cs n _ _ X (FP.on hS) (by omega) (FI.on hS) (by omega)) fun e w' hh => ?_
        obtain ⟨r_, he, hk, hb⟩ := hh
        refine ⟨_, he, r_, ⟨_, rfl, rfl⟩, ⟨(hS).trans ((hb).mono (hS).size), own_ints hk (dA_fits _ _ _ _), own_nilI hk⟩, fun i hi => ?_⟩
        match i, hi with
        | 0, _ => rfl
        | 1, _ => rfl
        | n_ + 2, h_ => omega
      | 3, _ => exact stepV rfl rfl (execMvB rfl (hv 2 (by omega) _ rfl _ rfl)) ⟨s, ⟨_, rfl, rfl⟩, hS, fun _ _ => rfl⟩
      | 4, _ => exact stepV rfl rfl (execExtT rfl (hv 3 (by omega) _ rfl _ rfl) rfl) ⟨s, ⟨_, rfl, rfl⟩, hS, fun _ _ => rfl⟩
      | 5, _ => exact stepV rfl rfl (execExtT rfl (hv 3 (by omega) _ rfl _ rfl) rfl) ⟨s, ⟨_, rfl, rfl⟩, hS, fun _ _ => rfl⟩
      | 6, _ => exact stepV rfl rfl (execExtT rfl (hv 3 (by omega) _ rfl _ rfl) rfl) ⟨s, ⟨_, rfl, rfl⟩, hS, fun _ _ => rfl⟩
      | 7, _ => exact stepV rfl rfl (execAsgB rfl (hv 4 (by omega) _ rfl _ rfl)) ⟨s, ⟨_, rfl, rfl⟩, hS, fun _ _ => rfl⟩
      | 8, _ => exact stepV rfl rfl (execAsgB rfl (hv 5 (by omega) _ rfl _ rfl)) ⟨s, ⟨_, rfl, rfl⟩, hS, fun _ _ => rfl⟩
      | 9, _ => exact stepV rfl rfl (execAsgB rfl (hv 6 (by omega) _ rfl _ rfl)) ⟨s, ⟨_, rfl, rfl⟩, hS, fun _ _ => rfl⟩
      | k_ + 10, h_ => exact absurd h_ (by simp)
    rintro v30 a X3 h1 h2 h3 h4 hS
    replace hS : Below X1.heap.size X1 X3 ∧ (SliceI X3 v30 (allN p l cs n) (fun i => (dA p l cs i : Int))) ∧ (∀ l_ c_, v30 = .slice none l_ c_ → c_ = 0) := hS
    obtain ⟨bX, Fv30, Kv30⟩ := hS
    replace t0 := (h3 0 (by decide)).trans t0
    replace t1 := (h3 1 (by decide)).trans t1
    replace t2 := (h3 2 (by decide)).trans t2
    have t7 : a.eval (.tmp 7) = v30 := h4 7 _ rfl _ rfl
    have t8 : a.eval (.tmp 8) = .int .i64 ((allK p l cs n : Nat) : Int) := h4 8 _ rfl _ rfl
    have t9 : a.eval (.tmp 9) = .int .i64 ((allE p l cs n : Nat) : Int) := h4 9 _ rfl _ rfl
    replace FP := (FP.on bX)
    replace FI := (FI.on bX)
    replace FJ := (FJ.on bX)
    have ZX3 := bX.size
    replace BW := BW.trans (bX.mono BW.size)
    clear bX
    replace A := (⟨h1, h2.trans A.2⟩ : a.tmps.size = 161 ∧ a.defers = [])
    clear h1 h2 h3 h4
    refine wp_seq ?_
    refine wp_region_sq (σ := Nat × Value × Value × Value) 161 [(0, 35), (1, 36), (2, 37), (3, 38), (4, 39), (5, 40), (6, 41), (7, 34), (8, 42), (9, 43), (10, 44), (11, 10), (12, 11), (13, 12)] (fun j_ s X => match j_ with | 0 => Below X3.heap.size X3 X | 1 => Below X3.heap.size X3 X | 2 => Below X3.heap.size X3 X ∧ X.ownsRow (X3.heap.size) 3 1 (.slice (some ⟨s.1, 0, none⟩) 0 0) (0) (intsL 0 (fun _ => 0)) | 3 => Below X3.heap.size X3 X ∧ X.ownsRow (X3.heap.size) 3 1 (.slice (some ⟨s.1, 0, none⟩) 0 0) (0) (intsL 0 (fun _ => 0)) | 4 => Below X3.heap.size X3 X ∧ X.ownsRow (X3.heap.size) 3 1 s.2.1 (n) (intsL (n) (cs)) | 5 => Below X3.heap.size X3 X ∧ X.ownsRow (X3.heap.size) 3 1 s.2.1 (n) (intsL (n) (cs)) | 6 => Below X3.heap.size X3 X ∧ (SliceI X s.2.2.1 (n + m) (catI n cs bs)) | 7 => Below X3.heap.size X3 X ∧ (SliceI X s.2.2.1 (n + m) (catI n cs bs)) ∧ (SliceI X s.2.2.2 (allN p l (catI n cs bs) (n + m)) (fun i => (dA p l (catI n cs bs) i : Int))) ∧ (∀ l_ c_, s.2.2.2 = .slice none l_ c_ → c_ = 0) | 8 => Below X3.heap.size X3 X ∧ (SliceI X s.2.2.1 (n + m) (catI n cs bs)) ∧ (SliceI X s.2.2.2 (allN p l (catI n cs bs) (n + m)) (fun i => (dA p l (catI n cs bs) i : Int))) ∧ (∀ l_ c_, s.2.2.2 = .slice none l_ c_ → c_ = 0) | 9 => Below X3.heap.size X3 X ∧ (SliceI X s.2.2.1 (n + m) (catI n cs bs)) ∧ (SliceI X s.2.2.2 (allN p l (catI n cs bs) (n + m)) (fun i => (dA p l (catI n cs bs) i : Int))) ∧ (∀ l_ c_, s.2.2.2 = .slice none l_ c_ → c_ = 0) | 10 => Below X3.heap.size X3 X ∧ (SliceI X s.2.2.1 (n + m) (catI n cs bs)) ∧ (SliceI X s.2.2.2 (allN p l (catI n cs bs) (n + m)) (fun i => (dA p l (catI n cs bs) i : Int))) ∧ (∀ l_ c_, s.2.2.2 = .slice none l_ c_ → c_ = 0) | 11 => Below X3.heap.size X3 X ∧ (SliceI X s.2.2.1 (n + m) (catI n cs bs)) ∧ (SliceI X s.2.2.2 (allN p l (catI n cs bs) (n + m)) (fun i => (dA p l (catI n cs bs) i : Int))) ∧ (∀ l_ c_, s.2.2.2 = .slice none l_ c_ → c_ = 0) | 12 => Below X3.heap.size X3 X ∧ (SliceI X s.2.2.1 (n + m) (catI n cs bs)) ∧ (SliceI X s.2.2.2 (allN p l (catI n cs bs) (n + m)) (fun i => (dA p l (catI n cs bs) i : Int))) ∧ (∀ l_ c_, s.2.2.2 = .slice none l_ c_ → c_ = 0) | 13 => Below X3.heap.size X3 X ∧ (SliceI X s.2.2.1 (n + m) (catI n cs bs)) ∧ (SliceI X s.2.2.2 (allN p l (catI n cs bs) (n + m)) (fun i => (dA p l (catI n cs bs) i : Int))) ∧ (∀ l_ c_, s.2.2.2 = .slice none l_ c_ → c_ = 0) | _ => Below X3.heap.size X3 X ∧ (SliceI X s.2.2.1 (n + m) (catI n cs bs)) ∧ (SliceI X s.2.2.2 (allN p l (catI n cs bs) (n + m)) (fun i => (dA p l (catI n cs bs) i : Int))) ∧ (∀ l_ c_, s.2.2.2 = .slice none l_ c_ → c_ = 0)) (fun s => fun i_ => match i_ with | 0 => pv | 1 => .slice (some ⟨s.1, 0, none⟩) 0 0 | 2 => av | 3 => s.2.1 | 4 => bv | 5 => s.2.2.1 | 6 => .tuple #[s.2.2.2, .int .i64 ((allK p l (catI n cs bs) (n + m) : Nat) : Int), .int .i64 ((allE p l (catI n cs bs) (n + m) : Nat) : Int)] | 7 => .tuple #[s.2.2.2, .int .i64 ((allK p l (catI n cs bs) (n + m) : Nat) : Int), .int .i64 ((allE p l (catI n cs bs) (n + m) : Nat) : Int)] | 8 => s.2.2.2 | 9 => .int .i64 ((allK p l (catI n cs bs) (n + m) : Nat) : Int) | 10 => .int .i64 ((allE p l (catI n cs bs) (n + m) : Nat) : Int) | 11 => s.2.2.2 | 12 => .int .i64 ((allK p l (catI n cs bs) (n + m) : Nat) : Int) | 13 => .int .i64 ((allE p l (catI n cs bs) (n + m) : Nat) : Int) | _ => undef) (0, undef, undef, undef) A.1 (by kernel_rfl) (by decide) (by decide) (Below.refl _ _) ?_ ?_
    · intro i_ hi_ s a X hf hv hn hS
      match i_, hi_ with
      | 0, _ => exact stepV rfl rfl (execMvB rfl ((hf 0 (by decide)).trans t0)) ⟨s, ⟨_, rfl, rfl⟩, hS, fun _ _ => rfl⟩
      | 1, _ =>
        refine stepV rfl rfl (execBs0I rfl) ⟨(X.heap.size, s.2.1, s.2.2.1, s.2.2.2), ⟨_, rfl, rfl⟩, ⟨(hS).trans (((belNew X _)).mono (hS).size), ownD_base (own_noneI X _) (hS).size⟩, fun i hi => ?_⟩
        match i, hi with
        | 0, _ => rfl
        | n_ + 1, h_ => omega
      | 2, _ => exact stepV rfl rfl (execMvB rfl ((hf 1 (by decide)).trans t1)) ⟨s, ⟨_, rfl, rfl⟩, hS, fun _ _ => rfl⟩
      | 3, _ =>
        refine stepAppIs (f := fun _ => 0) (g := cs) rfl rfl rfl (hv 1 (by omega) _ rfl _ rfl) (hv 2 (by omega) _ rfl _ rfl) hS.2 (FI.on hS.1) hza (by omega) (hS.1).size fun v' W' own' gr => ⟨(s.1, v', s.2.2.1, s.2.2.2), ⟨_, rfl, rfl⟩, ⟨(hS.1).grown gr (hS.1).size (fun k hk => (hS.2.lt k hk).1), own_cat0 own'⟩, fun i hi => ?_⟩
        match i, hi with
        | 0, _ => rfl
        | 1, _ => rfl
        | 2, _ => rfl
        | n_ + 3, h_ => omega
      | 4, _ => exact stepV rfl rfl (execMvB rfl ((hf 2 (by decide)).trans t2)) ⟨s, ⟨_, rfl, rfl⟩, hS, fun _ _ => rfl⟩
      | 5, _ =>
        refine stepAppIs (f := cs) (g := bs) rfl rfl rfl (hv 3 (by omega) _ rfl _ rfl) (hv 4 (by omega) _ rfl _ rfl) hS.2 (FJ.on hS.1) hzb (by omega) (hS.1).size fun v' W' own' gr => ⟨(s.1, s.2.1, v', s.2.2.2), ⟨_, rfl, rfl⟩, ⟨(hS.1).grown gr (hS.1).size (fun k hk => (hS.2.lt k hk).1), own_ints own' (catI_fits hb.fits hwv.fits)⟩, fun i hi => ?_⟩
        match i, hi with
        | 0, _ => rfl
        | 1, _ => rfl
        | 2, _ => rfl
        | 3, _ => rfl
        | 4, _ => rfl
        | n_ + 5, h_ => omega
      | 6, _ =>
        refine stepC rfl rfl (execCall2 Try.func17 (by kernel_rfl) (by kernel_rfl) rfl (hv 0 (by omega) _ rfl _ rfl) (hv 5 (by omega) _ rfl _ rfl)) (I.all p l (catI n cs bs) (n + m) _ _ X (FP.on hS.1) (by omega) hS.2 (by omega)) fun e w' hh => ?_
        obtain ⟨r_, he, hk, hb⟩ := hh
        refine ⟨_, he, (s.1, s.2.1, s.2.2.1, r_), ⟨_, rfl, rfl⟩, ⟨(hS.1).trans ((hb).mono (hS.1).size), (hS.2.on hb), own_ints hk (dA_fits _ _ _ _), own_nilI hk⟩, fun i hi => ?_⟩
        match i, hi with
        | 0, _ => rfl
        | 1, _ => rfl
        | 2, _ => rfl
        | 3, _ => rfl
        | 4, _ => rfl
        | 5, _ => rfl
        | n_ + 6, h_ => omega
      | 7, _ => exact stepV rfl rfl (execMvB rfl (hv 6 (by omega) _ rfl _ rfl)) ⟨s, ⟨_, rfl, rfl⟩, hS, fun _ _ => rfl⟩
      | 8, _ => exact stepV rfl rfl (execExtT rfl (hv 7 (by omega) _ rfl _ rfl) rfl) ⟨s, ⟨_, rfl, rfl⟩, hS, fun _ _ => rfl⟩
      | 9, _ => exact stepV rfl rfl (execExtT rfl (hv 7 (by omega) _ rfl _ rfl) rfl) ⟨s, ⟨_, rfl, rfl⟩, hS, fun _ _ => rfl⟩
      | 10, _ => exact stepV rfl rfl (execExtT rfl (hv 7 (by omega) _ rfl _ rfl) rfl) ⟨s, ⟨_, rfl, rfl⟩, hS, fun _ _ => rfl⟩
      | 11, _ => exact stepV rfl rfl (execAsgB rfl (hv 8 (by omega) _ rfl _ rfl)) ⟨s, ⟨_, rfl, rfl⟩, hS, fun _ _ => rfl⟩
      | 12, _ => exact stepV rfl rfl (execAsgB rfl (hv 9 (by omega) _ rfl _ rfl)) ⟨s, ⟨_, rfl, rfl⟩, hS, fun _ _ => rfl⟩
      | 13, _ => exact stepV rfl rfl (execAsgB rfl (hv 10 (by omega) _ rfl _ rfl)) ⟨s, ⟨_, rfl, rfl⟩, hS, fun _ _ => rfl⟩
      | k_ + 14, h_ => exact absurd h_ (by simp)
    rintro ⟨g36, v38, v40, v41⟩ a X4 h1 h2 h3 h4 hS
    replace hS : Below X3.heap.size X3 X4 ∧ (SliceI X4 v40 (n + m) (catI n cs bs)) ∧ (SliceI X4 v41 (allN p l (catI n cs bs) (n + m)) (fun i => (dA p l (catI n cs bs) i : Int))) ∧ (∀ l_ c_, v41 = .slice none l_ c_ → c_ = 0) := hS
    obtain ⟨bX, Fv40, Fv41, Kv41⟩ := hS
    replace t0 := (h3 0 (by decide)).trans t0
    replace t1 := (h3 1 (by decide)).trans t1
    replace t2 := (h3 2 (by decide)).trans t2
    replace t7 := (h3 7 (by decide)).trans t7
    replace t8 := (h3 8 (by decide)).trans t8
    replace t9 := (h3 9 (by decide)).trans t9
    have t10 : a.eval (.tmp 10) = v41 := h4 11 _ rfl _ rfl
    have t11 : a.eval (.tmp 11) = .int .i64 ((allK p l (catI n cs bs) (n + m) : Nat) : Int) := h4 12 _ rfl _ rfl
    have t12 : a.eval (.tmp 12) = .int .i64 ((allE p l (catI n cs bs) (n + m) : Nat) : Int) := h4 13 _ rfl _ rfl
    replace FP := (FP.on bX)
    replace FI := (FI.on bX)
    replace FJ := (FJ.on bX)
    replace Fv30 := (Fv30.on bX)
    replace Kv30 := Kv30
    have ZX4 := bX.size
    replace BW := BW.trans (bX.mono BW.size)
    clear bX
    replace A := (⟨h1, h2.trans A.2⟩ : a.tmps.size = 161 ∧ a.defers = [])
    clear h1 h2 h3 h4
    refine wp_seq ?_
    refine wp_region_sq (σ := Value) 161 [(0, 46), (1, 47), (2, 45), (3, 48), (4, 49), (5, 50), (6, 13), (7, 14), (8, 15)] (fun j_ s X => match j_ with | 0 => Below X4.heap.size X4 X | 1 => Below X4.heap.size X4 X | 2 => Below X4.heap.size X4 X ∧ (SliceI X s (allN p 0 bs m) (fun i => (dA p 0 bs i : Int))) ∧ (∀ l_ c_, s = .slice none l_ c_ → c_ = 0) | 3 => Below X4.heap.size X4 X ∧ (SliceI X s (allN p 0 bs m) (fun i => (dA p 0 bs i : Int))) ∧ (∀ l_ c_, s = .slice none l_ c_ → c_ = 0) | 4 => Below X4.heap.size X4 X ∧ (SliceI X s (allN p 0 bs m) (fun i => (dA p 0 bs i : Int))) ∧ (∀ l_ c_, s = .slice none l_ c_ → c_ = 0) | 5 => Below X4.heap.size X4 X ∧ (SliceI X s (allN p 0 bs m) (fun i => (dA p 0 bs i : Int))) ∧ (∀ l_ c_, s = .slice none l_ c_ → c_ = 0) | 6 => Below X4.heap.size X4 X ∧ (SliceI X s (allN p 0 bs m) (fun i => (dA p 0 bs i : Int))) ∧ (∀ l_ c_, s = .slice none l_ c_ → c_ = 0) | 7 => Below X4.heap.size X4 X ∧ (SliceI X s (allN p 0 bs m) (fun i => (dA p 0 bs i : Int))) ∧ (∀ l_ c_, s = .slice none l_ c_ → c_ = 0) | 8 => Below X4.heap.size X4 X ∧ (SliceI X s (allN p 0 bs m) (fun i => (dA p 0 bs i : Int))) ∧ (∀ l_ c_, s = .slice none l_ c_ → c_ = 0) | _ => Below X4.heap.size X4 X ∧ (SliceI X s (allN p 0 bs m) (fun i => (dA p 0 bs i : Int))) ∧ (∀ l_ c_, s = .slice none l_ c_ → c_ = 0)) (fun s => fun i_ => match i_ with | 0 => bv | 1 => .tuple #[s, .int .i64 ((allK p 0 bs m : Nat) : Int), .int .i64 ((allE p 0 bs m : Nat) : Int)] | 2 => .tuple #[s, .int .i64 ((allK p 0 bs m : Nat) : Int), .int .i64 ((allE p 0 bs m : Nat) : Int)] | 3 => s | 4 => .int .i64 ((allK p 0 bs m : Nat) : Int) | 5 => .int .i64 ((allE p 0 bs m : Nat) : Int) | 6 => s | 7 => .int .i64 ((allK p 0 bs m : Nat) : Int) | 8 => .int .i64 ((allE p 0 bs m : Nat) : Int) | _ => undef) undef A.1 (by kernel_rfl) (by decide) (by decide) (Below.refl _ _) ?_ ?_
    · intro i_ hi_ s a X hf hv hn hS
      match i_, hi_ with
      | 0, _ => exact stepV rfl rfl (execMvB rfl ((hf 2 (by decide)).trans t2)) ⟨s, ⟨_, rfl, rfl⟩, hS, fun _ _ => rfl⟩
      | 1, _ =>
        refine stepC rfl rfl (execCall2 Try.func17 (by kernel_rfl) (by kernel_rfl) rfl rfl (hv 0 (by omega) _ rfl _ rfl)) (I.all p 0 bs m _ _ X slice_nilN (by omega) (FJ.on hS) (by omega)) fun e w' hh => ?_
        obtain ⟨r_, he, hk, hb⟩ := hh
        refine ⟨_, he, r_, ⟨_, rfl, rfl⟩, ⟨(hS).trans ((hb).mono (hS).size), own_ints hk (dA_fits _ _ _ _), own_nilI hk⟩, fun i hi => ?_⟩
        match i, hi with
        | 0, _ => rfl
        | n_ + 1, h_ => omega
      | 2, _ => exact stepV rfl rfl (execMvB rfl (hv 1 (by omega) _ rfl _ rfl)) ⟨s, ⟨_, rfl, rfl⟩, hS, fun _ _ => rfl⟩
      | 3, _ => exact stepV rfl rfl (execExtT rfl (hv 2 (by omega) _ rfl _ rfl) rfl) ⟨s, ⟨_, rfl, rfl⟩, hS, fun _ _ => rfl⟩
      | 4, _ => exact stepV rfl rfl (execExtT rfl (hv 2 (by omega) _ rfl _ rfl) rfl) ⟨s, ⟨_, rfl, rfl⟩, hS, fun _ _ => rfl⟩
      | 5, _ => exact stepV rfl rfl (execExtT rfl (hv 2 (by omega) _ rfl _ rfl) rfl) ⟨s, ⟨_, rfl, rfl⟩, hS, fun _ _ => rfl⟩
      | 6, _ => exact stepV rfl rfl (execAsgB rfl (hv 3 (by omega) _ rfl _ rfl)) ⟨s, ⟨_, rfl, rfl⟩, hS, fun _ _ => rfl⟩
      | 7, _ => exact stepV rfl rfl (execAsgB rfl (hv 4 (by omega) _ rfl _ rfl)) ⟨s, ⟨_, rfl, rfl⟩, hS, fun _ _ => rfl⟩
      | 8, _ => exact stepV rfl rfl (execAsgB rfl (hv 5 (by omega) _ rfl _ rfl)) ⟨s, ⟨_, rfl, rfl⟩, hS, fun _ _ => rfl⟩
      | k_ + 9, h_ => exact absurd h_ (by simp)
    rintro v47 a X5 h1 h2 h3 h4 hS
    replace hS : Below X4.heap.size X4 X5 ∧ (SliceI X5 v47 (allN p 0 bs m) (fun i => (dA p 0 bs i : Int))) ∧ (∀ l_ c_, v47 = .slice none l_ c_ → c_ = 0) := hS
    obtain ⟨bX, Fv47, Kv47⟩ := hS
    replace t0 := (h3 0 (by decide)).trans t0
    replace t1 := (h3 1 (by decide)).trans t1
    replace t2 := (h3 2 (by decide)).trans t2
    replace t7 := (h3 7 (by decide)).trans t7
    replace t8 := (h3 8 (by decide)).trans t8
    replace t9 := (h3 9 (by decide)).trans t9
    replace t10 := (h3 10 (by decide)).trans t10
    replace t11 := (h3 11 (by decide)).trans t11
    replace t12 := (h3 12 (by decide)).trans t12
    have t15 : a.eval (.tmp 15) = .int .i64 ((allE p 0 bs m : Nat) : Int) := h4 8 _ rfl _ rfl
    replace FP := (FP.on bX)
    replace FI := (FI.on bX)
    replace FJ := (FJ.on bX)
    replace Fv30 := (Fv30.on bX)
    replace Kv30 := Kv30
    replace Fv40 := (Fv40.on bX)
    replace Fv41 := (Fv41.on bX)
    replace Kv41 := Kv41
    have ZX5 := bX.size
    replace BW := BW.trans (bX.mono BW.size)
    clear bX
    replace A := (⟨h1, h2.trans A.2⟩ : a.tmps.size = 161 ∧ a.defers = [])
    clear h1 h2 h3 h4
    refine wp_seq ?_
    refine wp_seq ?_
    refine wp_region_sq (σ := Unit) 161 [(0, 51), (1, 52)] (fun j_ s X => match j_ with | 0 => Below X5.heap.size X5 X | 1 => Below X5.heap.size X5 X | _ => Below X5.heap.size X5 X) (fun s => fun i_ => match i_ with | 0 => .int .i64 ((allE p l cs n : Nat) : Int) | 1 => .bool true | _ => undef) () A.1 (by kernel_rfl) (by decide) (by decide) (Below.refl _ _) ?_ ?_
    · intro i_ hi_ s a X hf hv hn hS
      match i_, hi_ with
      | 0, _ => exact stepV rfl rfl (execMvB rfl ((hf 9 (by decide)).trans t9)) ⟨s, ⟨_, rfl, rfl⟩, hS, fun _ _ => rfl⟩
      | 1, _ => exact stepV rfl rfl (execDec (execNeE (p := allE p l cs n) (q := 0) rfl (hv 0 (by omega) _ rfl _ rfl) rfl) (decide_eq_true (by exact hE0))) ⟨s, ⟨_, rfl, rfl⟩, hS, fun _ _ => rfl⟩
      | k_ + 2, h_ => exact absurd h_ (by simp)
    rintro _ a X6 h1 h2 h3 h4 hS
    replace hS : Below X5.heap.size X5 X6 := hS
    have bX := hS
    clear hS
    replace t9 := (h3 9 (by decide)).trans t9
    replace t12 := (h3 12 (by decide)).trans t12
    replace t15 := (h3 15 (by decide)).trans t15
    have t52 : a.eval (.tmp 52) = .bool true := h4 1 _ rfl _ rfl
    replace FP := (FP.on bX)
    replace FI := (FI.on bX)
    replace FJ := (FJ.on bX)
    replace Fv30 := (Fv30.on bX)
    replace Kv30 := Kv30
    replace Fv40 := (Fv40.on bX)
    replace Fv41 := (Fv41.on bX)
    replace Kv41 := Kv41
    replace Fv47 := (Fv47.on bX)
    replace Kv47 := Kv47
    have ZX6 := bX.size
    replace BW := BW.trans (bX.mono BW.size)
    clear bX
    replace A := (⟨h1, h2.trans A.2⟩ : a.tmps.size = 161 ∧ a.defers = [])
    clear h1 h2 h3 h4
    clear t0 t1 t2 t7 t8 t10 t11
    refine wp_cond_true t52 ?_
    refine wp_seq ?_
    refine wp_region_sq (σ := Unit) 161 [(0, 53), (1, 54), (2, 55), (3, 56), (4, 57), (5, 58), (6, 59), (7, 60), (8, 61), (9, 62), (10, 63), (11, 6)] (fun j_ s X => match j_ with | 0 => Below X6.heap.size X6 X | 1 => Below X6.heap.size X6 X | 2 => Below X6.heap.size X6 X | 3 => Below X6.heap.size X6 X | 4 => Below X6.heap.size X6 X | 5 => Below X6.heap.size X6 X | 6 => Below X6.heap.size X6 X | 7 => Below X6.heap.size X6 X | 8 => Below X6.heap.size X6 X | 9 => Below X6.heap.size X6 X | 10 => Below X6.heap.size X6 X | 11 => Below X6.heap.size X6 X | _ => Below X6.heap.size X6 X) (fun s => fun i_ => match i_ with | 0 => .int .i64 ((allE p l (catI n cs bs) (n + m) : Nat) : Int) | 1 => .int .i64 ((allE p l cs n : Nat) : Int) | 2 => .bool true | 3 => .bool true | 4 => undef | 5 => undef | 6 => undef | 7 => undef | 8 => undef | 9 => undef | 10 => .bool true | 11 => .bool true | _ => undef) () A.1 (by kernel_rfl) (by decide) (by decide) (Below.refl _ _) ?_ ?_
    · intro i_ hi_ s a X hf hv hn hS
      match i_, hi_ with
      | 0, _ => exact stepV rfl rfl (execMvB rfl ((hf 12 (by decide)).trans t12)) ⟨s, ⟨_, rfl, rfl⟩, hS, fun _ _ => rfl⟩
      | 1, _ => exact stepV rfl rfl (execMvB rfl ((hf 9 (by decide)).trans t9)) ⟨s, ⟨_, rfl, rfl⟩, hS, fun _ _ => rfl⟩
      | 2, _ => exact stepV rfl rfl (execDec (execEqE (p := allE p l (catI n cs bs) (n + m)) (q := allE p l cs n) rfl (hv 0 (by omega) _ rfl _ rfl) (hv 1 (by omega) _ rfl _ rfl)) (decide_eq_true (by exact hEA))) ⟨s, ⟨_, rfl, rfl⟩, hS, fun _ _ => rfl⟩
      | 3, _ => exact stepV rfl rfl (execMvB rfl (hv 2 (by omega) _ rfl _ rfl)) ⟨s, ⟨_, rfl, rfl⟩, hS, fun _ _ => rfl⟩
      | 4, _ => exact stepU rfl (unwantedOf rfl (yieldedAt rfl rfl (show a.eval (.tmp 56) = .bool (!false) from (hv 3 (by omega) _ rfl _ rfl)))) ⟨s, ⟨_, rfl, rfl⟩, hS, fun _ _ => rfl⟩
      | 5, _ => exact stepU rfl (unwantedOf rfl (yieldedAt rfl rfl (show a.eval (.tmp 56) = .bool (!false) from (hv 3 (by omega) _ rfl _ rfl)))) ⟨s, ⟨_, rfl, rfl⟩, hS, fun _ _ => rfl⟩
      | 6, _ => exact stepU rfl (unwantedOf rfl (yieldedAt rfl rfl (show a.eval (.tmp 56) = .bool (!false) from (hv 3 (by omega) _ rfl _ rfl)))) ⟨s, ⟨_, rfl, rfl⟩, hS, fun _ _ => rfl⟩
      | 7, _ => exact stepU rfl (unwantedNo rfl (yieldedNo rfl rfl (show a.eval (.tmp 59) = undef from (hv 6 (by omega) _ rfl _ rfl)))) ⟨s, ⟨_, rfl, rfl⟩, hS, fun _ _ => rfl⟩
      | 8, _ => exact stepU rfl (unwantedNo rfl (yieldedNo rfl rfl (show a.eval (.tmp 59) = undef from (hv 6 (by omega) _ rfl _ rfl)))) ⟨s, ⟨_, rfl, rfl⟩, hS, fun _ _ => rfl⟩
      | 9, _ => exact stepU rfl (unwantedOf rfl (yieldedAt rfl rfl (show a.eval (.tmp 56) = .bool (!false) from (hv 3 (by omega) _ rfl _ rfl)))) ⟨s, ⟨_, rfl, rfl⟩, hS, fun _ _ => rfl⟩
      | 10, _ => exact stepV rfl rfl (execPickT rfl (hv 3 (by omega) _ rfl _ rfl) rfl) ⟨s, ⟨_, rfl, rfl⟩, hS, fun _ _ => rfl⟩
      | 11, _ => exact stepV rfl rfl (execAsgB rfl (hv 10 (by omega) _ rfl _ rfl)) ⟨s, ⟨_, rfl, rfl⟩, hS, fun _ _ => rfl⟩
      | k_ + 12, h_ => exact absurd h_ (by simp)
    rintro _ a X7 h1 h2 h3 h4 hS
    replace hS : Below X6.heap.size X6 X7 := hS
    have bX := hS
    clear hS
    have t6 : a.eval (.tmp 6) = .bool true := h4 11 _ rfl _ rfl
    replace FP := (FP.on bX)
    replace FI := (FI.on bX)
    replace FJ := (FJ.on bX)
    replace Fv30 := (Fv30.on bX)
    replace Kv30 := Kv30
    replace Fv40 := (Fv40.on bX)
    replace Fv41 := (Fv41.on bX)
    replace Kv41 := Kv41
    replace Fv47 := (Fv47.on bX)
    replace Kv47 := Kv47
    have ZX7 := bX.size
    replace BW := BW.trans (bX.mono BW.size)
    clear bX
    replace A := (⟨h1, h2.trans A.2⟩ : a.tmps.size = 161 ∧ a.defers = [])
    clear h1 h2 h3 h4
    clear t9 t12 t15
    refine wp_ret ?_
    refine ret_then ?_
    refine bodyPost_ret (results_tmp rfl _ _ _) A.2 ⟨?_, BW⟩
    show Ending.returned (a.eval (.tmp 6)) = _
    rw [t6]
  · have hB := pieces_bad hE0 p 0 hEA
    go_enter Try.func7, Try.ntmps7
    refine wp_seq ?_
    refine wp_region_sqK 161 [(0, 6)] (fun i_ => match i_ with | 0 => .bool false | _ => undef) rfl (by kernel_rfl) (by decide) (by decide) ?_ ?_
    · intro i_ hi_ a hf hv hn
      match i_, hi_ with
      | 0, _ => exact stepV rfl rfl (execAsgB rfl rfl) ⟨⟨_, rfl, rfl⟩, rfl⟩
      | k_ + 1, h_ => exact absurd h_ (by simp)
    intro a h1 h2 h3 h4
    have t0 : a.eval (.tmp 0) = pv := (h3 0 (by decide)).trans rfl
    have t1 : a.eval (.tmp 1) = av := (h3 1 (by decide)).trans rfl
    have t2 : a.eval (.tmp 2) = bv := (h3 2 (by decide)).trans rfl
    have A : a.tmps.size = 161 ∧ a.defers = [] := ⟨h1, h2⟩
    have BW : Below V.heap.size V V := Below.refl _ _
    clear h1 h2 h3 h4
    refine wp_seq ?_
    refine wp_seq ?_
    refine wp_region_sq (σ := Unit) 161 [(0, 25), (1, 26)] (fun j_ s X => match j_ with | 0 => Below V.heap.size V X | 1 => Below V.heap.size V X | _ => Below V.heap.size V X) (fun s => fun i_ => match i_ with | 0 => .bool true | 1 => .bool false | _ => undef) () A.1 (by kernel_rfl) (by decide) (by decide) (Below.refl _ _) ?_ ?_
    · intro i_ hi_ s a X hf hv hn hS
      match i_, hi_ with
      | 0, _ => exact stepC rfl rfl (execCall0 Try.func9 (by kernel_rfl) (by kernel_rfl) rfl ) (alive10 I X) fun e w' hh => ⟨_, hh.1, s, ⟨_, rfl, rfl⟩, (hS).trans ((hh.2).mono (hS).size), fun _ _ => rfl⟩
      | 1, _ => exact stepV rfl rfl (execNot8 rfl (hv 0 (by omega) _ rfl _ rfl)) ⟨s, ⟨_, rfl, rfl⟩, hS, fun _ _ => rfl⟩
      | k_ + 2, h_ => exact absurd h_ (by simp)
    rintro _ a X1 h1 h2 h3 h4 hS
    replace hS : Below V.heap.size V X1 := hS
    have bX := hS
    clear hS
    replace t0 := (h3 0 (by decide)).trans t0
    replace t1 := (h3 1 (by decide)).trans t1
    replace t2 := (h3 2 (by decide)).trans t2
    have t26 : a.eval (.tmp 26) = .bool false := h4 1 _ rfl _ rfl
    replace FP := (FP.on bX)
    replace FI := (FI.on bX)
    replace FJ := (FJ.on bX)
    have ZX1 := bX.size
    replace BW := BW.trans (bX.mono BW.size)
    clear bX
    replace A := (⟨h1, h2.trans A.2⟩ : a.tmps.size = 161 ∧ a.defers = [])
    clear h1 h2 h3 h4
    refine wp_cond_false t26 ?_
    refine wp_skip ?_
    clear t26
    refine wp_seq ?_
    refine wp_region_sq (σ := Value) 161 [(0, 28), (1, 29), (2, 30), (3, 27), (4, 31), (5, 32), (6, 33), (7, 7), (8, 8), (9, 9)] (fun j_ s X => match j_ with | 0 => Below X1.heap.size X1 X | 1 => Below X1.heap.size X1 X | 2 => Below X1.heap.size X1 X | 3 => Below X1.heap.size X1 X ∧ (SliceI X s (allN p l cs n) (fun i => (dA p l cs i : Int))) ∧ (∀ l_ c_, s = .slice none l_ c_ → c_ = 0) | 4 => Below X1.heap.size X1 X ∧ (SliceI X s (allN p l cs n) (fun i => (dA p l cs i : Int))) ∧ (∀ l_ c_, s = .slice none l_ c_ → c_ = 0) | 5 => Below X1.heap.size X1 X ∧ (SliceI X s (allN p l cs n) (fun i => (dA p l cs i : Int))) ∧ (∀ l_ c_, s = .slice none l_ c_ → c_ = 0) | 6 => Below X1.heap.size X1 X ∧ (SliceI X s (allN p l cs n) (fun i => (dA p l cs i : Int))) ∧ (∀ l_ c_, s = .slice none l_ c_ → c_ = 0) | 7 => Below X1.heap.size X1 X ∧ (SliceI X s (allN p l cs n) (fun i => (dA p l cs i : Int))) ∧ (∀ l_ c_, s = .slice none l_ c_ → c_ = 0) | 8 => Below X1.heap.size X1 X ∧ (SliceI X s (allN p l cs n) (fun i => (dA p l cs i : Int))) ∧ (∀ l_ c_, s = .slice none l_ c_ → c_ = 0) | 9 => Below X1.heap.size X1 X ∧ (SliceI X s (allN p l cs n) (fun i => (dA p l cs i : Int))) ∧ (∀ l_ c_, s = .slice none l_ c_ → c_ = 0) | _ => Below X1.heap.size X1 X ∧ (SliceI X s (allN p l cs n) (fun i => (dA p l cs i : Int))) ∧ (∀ l_ c_, s = .slice none l_ c_ → c_ = 0)) (fun s => fun i_ => match i_ with | 0 => pv | 1 => av | 2 => .tuple #[s, .int .i64 ((allK p l cs n : Nat) : Int), .int .i64 ((allE p l cs n : Nat) : Int)] | 3 => .tuple #[s, .int .i64 ((allK p l cs n : Nat) : Int), .int .i64 ((allE p l cs n : Nat) : Int)] | 4 => s | 5 => .int .i64 ((allK p l cs n : Nat) : Int) | 6 => .int .i64 ((allE p l cs n : Nat) : Int) | 7 => s | 8 => .int .i64 ((allK p l cs n : Nat) : Int) | 9 => .int .i64 ((allE p l cs n : Nat) : Int) | _ => undef) undef A.1 (by kernel_rfl) (by decide) (by decide) (Below.refl _ _) ?_ ?_
    · intro i_ hi_ s a X hf hv hn hS
      match i_, hi_ with
      | 0, _ => exact stepV rfl rfl (execMvB rfl ((hf 0 (by decide)).trans t0)) ⟨s, ⟨_, rfl, rfl⟩, hS, fun _ _ => rfl⟩
      | 1, _ => exact stepV rfl rfl (execMvB rfl ((hf 1 (by decide)).trans t1)) ⟨s, ⟨_, rfl, rfl⟩, hS, fun _ _ => rfl⟩
      | 2, _ =>
        refine stepC rfl rfl (execCall2 Try.func17 (by kernel_rfl) (by kernel_rfl) rfl (hv 0 (by omega) _ rfl _ rfl) (hv 1 (by omega) _ rfl _ rfl)) (I.all p l cs n _ _ X (FP.on hS) (by omega) (FI.on hS) (by omega)) fun e w' hh => ?_
        obtain ⟨r_, he, hk, hb⟩ := hh
        refine ⟨_, he, r_, ⟨_, rfl, rfl⟩, ⟨(hS).trans ((hb).mono (hS).size), own_ints hk (dA_fits _ _ _ _), own_nilI hk⟩, fun i hi => ?_⟩
        match i, hi with
        | 0, _ => rfl
        | 1, _ => rfl
        | n_ + 2, h_ => omega
      | 3, _ => exact stepV rfl rfl (execMvB rfl (hv 2 (by omega) _ rfl _ rfl)) ⟨s, ⟨_, rfl, rfl⟩, hS, fun _ _ => rfl⟩
      | 4, _ => exact stepV rfl rfl (execExtT rfl (hv 3 (by omega) _ rfl _ rfl) rfl) ⟨s, ⟨_, rfl, rfl⟩, hS, fun _ _ => rfl⟩
      | 5, _ => exact stepV rfl rfl (execExtT rfl (hv 3 (by omega) _ rfl _ rfl) rfl) ⟨s, ⟨_, rfl, rfl⟩, hS, fun _ _ => rfl⟩
      | 6, _ => exact stepV rfl rfl (execExtT rfl (hv 3 (by omega) _ rfl _ rfl) rfl) ⟨s, ⟨_, rfl, rfl⟩, hS, fun _ _ => rfl⟩
      | 7, _ => exact stepV rfl rfl (execAsgB rfl (hv 4 (by omega) _ rfl _ rfl)) ⟨s, ⟨_, rfl, rfl⟩, hS, fun _ _ => rfl⟩
      | 8, _ => exact stepV rfl rfl (execAsgB rfl (hv 5 (by omega) _ rfl _ rfl)) ⟨s, ⟨_, rfl, rfl⟩, hS, fun _ _ => rfl⟩
      | 9, _ => exact stepV rfl rfl (execAsgB rfl (hv 6 (by omega) _ rfl _ rfl)) ⟨s, ⟨_, rfl, rfl⟩, hS, fun _ _ => rfl⟩
      | k_ + 10, h_ => exact absurd h_ (by simp)
    rintro v30 a X3 h1 h2 h3 h4 hS
    replace hS : Below X1.heap.size X1 X3 ∧ (SliceI X3 v30 (allN p l cs n) (fun i => (dA p l cs i : Int))) ∧ (∀ l_ c_, v30 = .slice none l_ c_ → c_ = 0) := hS
    obtain ⟨bX, Fv30, Kv30⟩ := hS
    replace t0 := (h3 0 (by decide)).trans t0
    replace t1 := (h3 1 (by decide)).trans t1
    replace t2 := (h3 2 (by decide)).trans t2
    have t7 : a.eval (.tmp 7) = v30 := h4 7 _ rfl _ rfl
    have t8 : a.eval (.tmp 8) = .int .i64 ((allK p l cs n : Nat) : Int) := h4 8 _ rfl _ rfl
    have t9 : a.eval (.tmp 9) = .int .i64 ((allE p l cs n : Nat) : Int) := h4 9 _ rfl _ rfl
    replace FP := (FP.on bX)
    replace FI := (FI.on bX)
    replace FJ := (FJ.on bX)
    have ZX3 := bX.size
    replace BW := BW.trans (bX.mono BW.size)
    clear bX
    replace A := (⟨h1, h2.trans A.2⟩ : a.tmps.size = 161 ∧ a.defers = [])
    clear h1 h2 h3 h4
    refine wp_seq ?_
    refine wp_region_sq (σ := Nat × Value × Value × Value) 161 [(0, 35), (1, 36), (2, 37), (3, 38), (4, 39), (5, 40), (6, 41), (7, 34), (8, 42), (9, 43), (10, 44), (11, 10), (12, 11), (13, 12)] (fun j_ s X => match j_ with | 0 => Below X3.heap.size X3 X | 1 => Below X3.heap.size X3 X | 2 => Below X3.heap.size X3 X ∧ X.ownsRow (X3.heap.size) 3 1 (.slice (some ⟨s.1, 0, none⟩) 0 0) (0) (intsL 0 (fun _ => 0)) | 3 => Below X3.heap.size X3 X ∧ X.ownsRow (X3.heap.size) 3 1 (.slice (some ⟨s.1, 0, none⟩) 0 0) (0) (intsL 0 (fun _ => 0)) | 4 => Below X3.heap.size X3 X ∧ X.ownsRow (X3.heap.size) 3 1 s.2.1 (n) (intsL (n) (cs)) | 5 => Below X3.heap.size X3 X ∧ X.ownsRow (X3.heap.size) 3 1 s.2.1 (n) (intsL (n) (cs)) | 6 => Below X3.heap.size X3 X ∧ (SliceI X s.2.2.1 (n + m) (catI n cs bs)) | 7 => Below X3.heap.size X3 X ∧ (SliceI X s.2.2.1 (n + m) (catI n cs bs)) ∧ (SliceI X s.2.2.2 (allN p l (catI n cs bs) (n + m)) (fun i => (dA p l (catI n cs bs) i : Int))) ∧ (∀ l_ c_, s.2.2.2 = .slice none l_ c_ → c_ = 0) | 8 => Below X3.heap.size X3 X ∧ (SliceI X s.2.2.1 (n + m) (catI n cs bs)) ∧ (SliceI X s.2.2.2 (allN p l (catI n cs bs) (n + m)) (fun i => (dA p l (catI n cs bs) i : Int))) ∧ (∀ l_ c_, s.2.2.2 = .slice none l_ c_ → c_ = 0) | 9 => Below X3.heap.size X3 X ∧ (SliceI X s.2.2.1 (n + m) (catI n cs bs)) ∧ (SliceI X s.2.2.2 (allN p l (catI n cs bs) (n + m)) (fun i => (dA p l (catI n cs bs) i : Int))) ∧ (∀ l_ c_, s.2.2.2 = .slice none l_ c_ → c_ = 0) | 10 => Below X3.heap.size X3 X ∧ (SliceI X s.2.2.1 (n + m) (catI n cs bs)) ∧ (SliceI X s.2.2.2 (allN p l (catI n cs bs) (n + m)) (fun i => (dA p l (catI n cs bs) i : Int))) ∧ (∀ l_ c_, s.2.2.2 = .slice none l_ c_ → c_ = 0) | 11 => Below X3.heap.size X3 X ∧ (SliceI X s.2.2.1 (n + m) (catI n cs bs)) ∧ (SliceI X s.2.2.2 (allN p l (catI n cs bs) (n + m)) (fun i => (dA p l (catI n cs bs) i : Int))) ∧ (∀ l_ c_, s.2.2.2 = .slice none l_ c_ → c_ = 0) | 12 => Below X3.heap.size X3 X ∧ (SliceI X s.2.2.1 (n + m) (catI n cs bs)) ∧ (SliceI X s.2.2.2 (allN p l (catI n cs bs) (n + m)) (fun i => (dA p l (catI n cs bs) i : Int))) ∧ (∀ l_ c_, s.2.2.2 = .slice none l_ c_ → c_ = 0) | 13 => Below X3.heap.size X3 X ∧ (SliceI X s.2.2.1 (n + m) (catI n cs bs)) ∧ (SliceI X s.2.2.2 (allN p l (catI n cs bs) (n + m)) (fun i => (dA p l (catI n cs bs) i : Int))) ∧ (∀ l_ c_, s.2.2.2 = .slice none l_ c_ → c_ = 0) | _ => Below X3.heap.size X3 X ∧ (SliceI X s.2.2.1 (n + m) (catI n cs bs)) ∧ (SliceI X s.2.2.2 (allN p l (catI n cs bs) (n + m)) (fun i => (dA p l (catI n cs bs) i : Int))) ∧ (∀ l_ c_, s.2.2.2 = .slice none l_ c_ → c_ = 0)) (fun s => fun i_ => match i_ with | 0 => pv | 1 => .slice (some ⟨s.1, 0, none⟩) 0 0 | 2 => av | 3 => s.2.1 | 4 => bv | 5 => s.2.2.1 | 6 => .tuple #[s.2.2.2, .int .i64 ((allK p l (catI n cs bs) (n + m) : Nat) : Int), .int .i64 ((allE p l (catI n cs bs) (n + m) : Nat) : Int)] | 7 => .tuple #[s.2.2.2, .int .i64 ((allK p l (catI n cs bs) (n + m) : Nat) : Int), .int .i64 ((allE p l (catI n cs bs) (n + m) : Nat) : Int)] | 8 => s.2.2.2 | 9 => .int .i64 ((allK p l (catI n cs bs) (n + m) : Nat) : Int) | 10 => .int .i64 ((allE p l (catI n cs bs) (n + m) : Nat) : Int) | 11 => s.2.2.2 | 12 => .int .i64 ((allK p l (catI n cs bs) (n + m) : Nat) : Int) | 13 => .int .i64 ((allE p l (catI n cs bs) (n + m) : Nat) : Int) | _ => undef) (0, undef, undef, undef) A.1 (by kernel_rfl) (by decide) (by decide) (Below.refl _ _) ?_ ?_
    · intro i_ hi_ s a X hf hv hn hS
      match i_, hi_ with
      | 0, _ => exact stepV rfl rfl (execMvB rfl ((hf 0 (by decide)).trans t0)) ⟨s, ⟨_, rfl, rfl⟩, hS, fun _ _ => rfl⟩
      | 1, _ =>
        refine stepV rfl rfl (execBs0I rfl) ⟨(X.heap.size, s.2.1, s.2.2.1, s.2.2.2), ⟨_, rfl, rfl⟩, ⟨(hS).trans (((belNew X _)).mono (hS).size), ownD_base (own_noneI X _) (hS).size⟩, fun i hi => ?_⟩
        match i, hi with
        | 0, _ => rfl
        | n_ + 1, h_ => omega
      | 2, _ => exact stepV rfl rfl (execMvB rfl ((hf 1 (by decide)).trans t1)) ⟨s, ⟨_, rfl, rfl⟩, hS, fun _ _ => rfl⟩
      | 3, _ =>
        refine stepAppIs (f := fun _ => 0) (g := cs) rfl rfl rfl (hv 1 (by omega) _ rfl _ rfl) (hv 2 (by omega) _ rfl _ rfl) hS.2 (FI.on hS.1) hza (by omega) (hS.1).size fun v' W' own' gr => ⟨(s.1, v', s.2.2.1, s.2.2.2), ⟨_, rfl, rfl⟩, ⟨(hS.1).grown gr (hS.1).size (fun k hk => (hS.2.lt k hk).1), own_cat0 own'⟩, fun i hi => ?_⟩
        match i, hi with
        | 0, _ => rfl
        | 1, _ => rfl
        | 2, _ => rfl
        | n_ + 3, h_ => omega
      | 4, _ => exact stepV rfl rfl (execMvB rfl ((hf 2 (by decide)).trans t2)) ⟨s, ⟨_, rfl, rfl⟩, hS, fun _ _ => rfl⟩
      | 5, _ =>
        refine stepAppIs (f := cs) (g := bs) rfl rfl rfl (hv 3 (by omega) _ rfl _ rfl) (hv 4 (by omega) _ rfl _ rfl) hS.2 (FJ.on hS.1) hzb (by omega) (hS.1).size fun v' W' own' gr => ⟨(s.1, s.2.1, v', s.2.2.2), ⟨_, rfl, rfl⟩, ⟨(hS.1).grown gr (hS.1).size (fun k hk => (hS.2.lt k hk).1), own_ints own' (catI_fits hb.fits hwv.fits)⟩, fun i hi => ?_⟩
        match i, hi with
        | 0, _ => rfl
        | 1, _ => rfl
        | 2, _ => rfl
        | 3, _ => rfl
        | 4, _ => rfl
        | n_ + 5, h_ => omega
      | 6, _ =>
        refine stepC rfl rfl (execCall2 Try.func17 (by kernel_rfl) (by kernel_rfl) rfl (hv 0 (by omega) _ rfl _ rfl) (hv 5 (by omega) _ rfl _ rfl)) (I.all p l (catI n cs bs) (n + m) _ _ X (FP.on hS.1) (by omega) hS.2 (by omega)) fun e w' hh => ?_
        obtain ⟨r_, he, hk, hb⟩ := hh
        refine ⟨_, he, (s.1, s.2.1, s.2.2.1, r_), ⟨_, rfl, rfl⟩, ⟨(hS.1).trans ((hb).mono (hS.1).size), (hS.2.on hb), own_ints hk (dA_fits _ _ _ _), own_nilI hk⟩, fun i hi => ?_⟩
        match i, hi with
        | 0, _ => rfl
        | 1, _ => rfl
        | 2, _ => rfl
        | 3, _ => rfl
        | 4, _ => rfl
        | 5, _ => rfl
        | n_ + 6, h_ => omega
      | 7, _ => exact stepV rfl rfl (execMvB rfl (hv 6 (by omega) _ rfl _ rfl)) ⟨s, ⟨_, rfl, rfl⟩, hS, fun _ _ => rfl⟩
      | 8, _ => exact stepV rfl rfl (execExtT rfl (hv 7 (by omega) _ rfl _ rfl) rfl) ⟨s, ⟨_, rfl, rfl⟩, hS, fun _ _ => rfl⟩
      | 9, _ => exact stepV rfl rfl (execExtT rfl (hv 7 (by omega) _ rfl _ rfl) rfl) ⟨s, ⟨_, rfl, rfl⟩, hS, fun _ _ => rfl⟩
      | 10, _ => exact stepV rfl rfl (execExtT rfl (hv 7 (by omega) _ rfl _ rfl) rfl) ⟨s, ⟨_, rfl, rfl⟩, hS, fun _ _ => rfl⟩
      | 11, _ => exact stepV rfl rfl (execAsgB rfl (hv 8 (by omega) _ rfl _ rfl)) ⟨s, ⟨_, rfl, rfl⟩, hS, fun _ _ => rfl⟩
      | 12, _ => exact stepV rfl rfl (execAsgB rfl (hv 9 (by omega) _ rfl _ rfl)) ⟨s, ⟨_, rfl, rfl⟩, hS, fun _ _ => rfl⟩
      | 13, _ => exact stepV rfl rfl (execAsgB rfl (hv 10 (by omega) _ rfl _ rfl)) ⟨s, ⟨_, rfl, rfl⟩, hS, fun _ _ => rfl⟩
      | k_ + 14, h_ => exact absurd h_ (by simp)
    rintro ⟨g36, v38, v40, v41⟩ a X4 h1 h2 h3 h4 hS
    replace hS : Below X3.heap.size X3 X4 ∧ (SliceI X4 v40 (n + m) (catI n cs bs)) ∧ (SliceI X4 v41 (allN p l (catI n cs bs) (n + m)) (fun i => (dA p l (catI n cs bs) i : Int))) ∧ (∀ l_ c_, v41 = .slice none l_ c_ → c_ = 0) := hS
    obtain ⟨bX, Fv40, Fv41, Kv41⟩ := hS
    replace t0 := (h3 0 (by decide)).trans t0
    replace t1 := (h3 1 (by decide)).trans t1
    replace t2 := (h3 2 (by decide)).trans t2
    replace t7 := (h3 7 (by decide)).trans t7
    replace t8 := (h3 8 (by decide)).trans t8
    replace t9 := (h3 9 (by decide)).trans t9
    have t10 : a.eval (.tmp 10) = v41 := h4 11 _ rfl _ rfl
    have t11 : a.eval (.tmp 11) = .int .i64 ((allK p l (catI n cs bs) (n + m) : Nat) : Int) := h4 12 _ rfl _ rfl
    have t12 : a.eval (.tmp 12) = .int .i64 ((allE p l (catI n cs bs) (n + m) : Nat) : Int) := h4 13 _ rfl _ rfl
    replace FP := (FP.on bX)
    replace FI := (FI.on bX)
    replace FJ := (FJ.on bX)
    replace Fv30 := (Fv30.on bX)
    replace Kv30 := Kv30
    have ZX4 := bX.size
    replace BW := BW.trans (bX.mono BW.size)
    clear bX
    replace A := (⟨h1, h2.trans A.2⟩ : a.tmps.size = 161 ∧ a.defers = [])
    clear h1 h2 h3 h4
    refine wp_seq ?_
    refine wp_region_sq (σ := Value) 161 [(0, 46), (1, 47), (2, 45), (3, 48), (4, 49), (5, 50), (6, 13), (7, 14), (8, 15)] (fun j_ s X => match j_ with | 0 => Below X4.heap.size X4 X | 1 => Below X4.heap.size X4 X | 2 => Below X4.heap.size X4 X ∧ (SliceI X s (allN p 0 bs m) (fun i => (dA p 0 bs i : Int))) ∧ (∀ l_ c_, s = .slice none l_ c_ → c_ = 0) | 3 => Below X4.heap.size X4 X ∧ (SliceI X s (allN p 0 bs m) (fun i => (dA p 0 bs i : Int))) ∧ (∀ l_ c_, s = .slice none l_ c_ → c_ = 0) | 4 => Below X4.heap.size X4 X ∧ (SliceI X s (allN p 0 bs m) (fun i => (dA p 0 bs i : Int))) ∧ (∀ l_ c_, s = .slice none l_ c_ → c_ = 0) | 5 => Below X4.heap.size X4 X ∧ (SliceI X s (allN p 0 bs m) (fun i => (dA p 0 bs i : Int))) ∧ (∀ l_ c_, s = .slice none l_ c_ → c_ = 0) | 6 => Below X4.heap.size X4 X ∧ (SliceI X s (allN p 0 bs m) (fun i => (dA p 0 bs i : Int))) ∧ (∀ l_ c_, s = .slice none l_ c_ → c_ = 0) | 7 => Below X4.heap.size X4 X ∧ (SliceI X s (allN p 0 bs m) (fun i => (dA p 0 bs i : Int))) ∧ (∀ l_ c_, s = .slice none l_ c_ → c_ = 0) | 8 => Below X4.heap.size X4 X ∧ (SliceI X s (allN p 0 bs m) (fun i => (dA p 0 bs i : Int))) ∧ (∀ l_ c_, s = .slice none l_ c_ → c_ = 0) | _ => Below X4.heap.size X4 X ∧ (SliceI X s (allN p 0 bs m) (fun i => (dA p 0 bs i : Int))) ∧ (∀ l_ c_, s = .slice none l_ c_ → c_ = 0)) (fun s => fun i_ => match i_ with | 0 => bv | 1 => .tuple #[s, .int .i64 ((allK p 0 bs m : Nat) : Int), .int .i64 ((allE p 0 bs m : Nat) : Int)] | 2 => .tuple #[s, .int .i64 ((allK p 0 bs m : Nat) : Int), .int .i64 ((allE p 0 bs m : Nat) : Int)] | 3 => s | 4 => .int .i64 ((allK p 0 bs m : Nat) : Int) | 5 => .int .i64 ((allE p 0 bs m : Nat) : Int) | 6 => s | 7 => .int .i64 ((allK p 0 bs m : Nat) : Int) | 8 => .int .i64 ((allE p 0 bs m : Nat) : Int) | _ => undef) undef A.1 (by kernel_rfl) (by decide) (by decide) (Below.refl _ _) ?_ ?_
    · intro i_ hi_ s a X hf hv hn hS
      match i_, hi_ with
      | 0, _ => exact stepV rfl rfl (execMvB rfl ((hf 2 (by decide)).trans t2)) ⟨s, ⟨_, rfl, rfl⟩, hS, fun _ _ => rfl⟩
      | 1, _ =>
        refine stepC rfl rfl (execCall2 Try.func17 (by kernel_rfl) (by kernel_rfl) rfl rfl (hv 0 (by omega) _ rfl _ rfl)) (I.all p 0 bs m _ _ X slice_nilN (by omega) (FJ.on hS) (by omega)) fun e w' hh => ?_
        obtain ⟨r_, he, hk, hb⟩ := hh
        refine ⟨_, he, r_, ⟨_, rfl, rfl⟩, ⟨(hS).trans ((hb).mono (hS).size), own_ints hk (dA_fits _ _ _ _), own_nilI hk⟩, fun i hi => ?_⟩
        match i, hi with
        | 0, _ => rfl
        | n_ + 1, h_ => omega
      | 2, _ => exact stepV rfl rfl (execMvB rfl (hv 1 (by omega) _ rfl _ rfl)) ⟨s, ⟨_, rfl, rfl⟩, hS, fun _ _ => rfl⟩
      | 3, _ => exact stepV rfl rfl (execExtT rfl (hv 2 (by omega) _ rfl _ rfl) rfl) ⟨s, ⟨_, rfl, rfl⟩, hS, fun _ _ => rfl⟩
      | 4, _ => exact stepV rfl rfl (execExtT rfl (hv 2 (by omega) _ rfl _ rfl) rfl) ⟨s, ⟨_, rfl, rfl⟩, hS, fun _ _ => rfl⟩
      | 5, _ => exact stepV rfl rfl (execExtT rfl (hv 2 (by omega) _ rfl _ rfl) rfl) ⟨s, ⟨_, rfl, rfl⟩, hS, fun _ _ => rfl⟩
      | 6, _ => exact stepV rfl rfl (execAsgB rfl (hv 3 (by omega) _ rfl _ rfl)) ⟨s, ⟨_, rfl, rfl⟩, hS, fun _ _ => rfl⟩
      | 7, _ => exact stepV rfl rfl (execAsgB rfl (hv 4 (by omega) _ rfl _ rfl)) ⟨s, ⟨_, rfl, rfl⟩, hS, fun _ _ => rfl⟩
      | 8, _ => exact stepV rfl rfl (execAsgB rfl (hv 5 (by omega) _ rfl _ rfl)) ⟨s, ⟨_, rfl, rfl⟩, hS, fun _ _ => rfl⟩
      | k_ + 9, h_ => exact absurd h_ (by simp)
    rintro v47 a X5 h1 h2 h3 h4 hS
    replace hS : Below X4.heap.size X4 X5 ∧ (SliceI X5 v47 (allN p 0 bs m) (fun i => (dA p 0 bs i : Int))) ∧ (∀ l_ c_, v47 = .slice none l_ c_ → c_ = 0) := hS
    obtain ⟨bX, Fv47, Kv47⟩ := hS
    replace t0 := (h3 0 (by decide)).trans t0
    replace t1 := (h3 1 (by decide)).trans t1
    replace t2 := (h3 2 (by decide)).trans t2
    replace t7 := (h3 7 (by decide)).trans t7
    replace t8 := (h3 8 (by decide)).trans t8
    replace t9 := (h3 9 (by decide)).trans t9
    replace t10 := (h3 10 (by decide)).trans t10
    replace t11 := (h3 11 (by decide)).trans t11
    replace t12 := (h3 12 (by decide)).trans t12
    have t15 : a.eval (.tmp 15) = .int .i64 ((allE p 0 bs m : Nat) : Int) := h4 8 _ rfl _ rfl
    replace FP := (FP.on bX)
    replace FI := (FI.on bX)
    replace FJ := (FJ.on bX)
    replace Fv30 := (Fv30.on bX)
    replace Kv30 := Kv30
    replace Fv40 := (Fv40.on bX)
    replace Fv41 := (Fv41.on bX)
    replace Kv41 := Kv41
    have ZX5 := bX.size
    replace BW := BW.trans (bX.mono BW.size)
    clear bX
    replace A := (⟨h1, h2.trans A.2⟩ : a.tmps.size = 161 ∧ a.defers = [])
    clear h1 h2 h3 h4
    refine wp_seq ?_
    refine wp_seq ?_
    refine wp_region_sq (σ := Unit) 161 [(0, 51), (1, 52)] (fun j_ s X => match j_ with | 0 => Below X5.heap.size X5 X | 1 => Below X5.heap.size X5 X | _ => Below X5.heap.size X5 X) (fun s => fun i_ => match i_ with | 0 => .int .i64 ((allE p l cs n : Nat) : Int) | 1 => .bool true | _ => undef) () A.1 (by kernel_rfl) (by decide) (by decide) (Below.refl _ _) ?_ ?_
    · intro i_ hi_ s a X hf hv hn hS
      match i_, hi_ with
      | 0, _ => exact stepV rfl rfl (execMvB rfl ((hf 9 (by decide)).trans t9)) ⟨s, ⟨_, rfl, rfl⟩, hS, fun _ _ => rfl⟩
      | 1, _ => exact stepV rfl rfl (execDec (execNeE (p := allE p l cs n) (q := 0) rfl (hv 0 (by omega) _ rfl _ rfl) rfl) (decide_eq_true (by exact hE0))) ⟨s, ⟨_, rfl, rfl⟩, hS, fun _ _ => rfl⟩
      | k_ + 2, h_ => exact absurd h_ (by simp)
    rintro _ a X6 h1 h2 h3 h4 hS
    replace hS : Below X5.heap.size X5 X6 := hS
    have bX := hS
    clear hS
    replace t9 := (h3 9 (by decide)).trans t9
    replace t12 := (h3 12 (by decide)).trans t12
    replace t15 := (h3 15 (by decide)).trans t15
    have t52 : a.eval (.tmp 52) = .bool true := h4 1 _ rfl _ rfl
    replace FP := (FP.on bX)
    replace FI := (FI.on bX)
    replace FJ := (FJ.on bX)
    replace Fv30 := (Fv30.on bX)
    replace Kv30 := Kv30
    replace Fv40 := (Fv40.on bX)
    replace Fv41 := (Fv41.on bX)
    replace Kv41 := Kv41
    replace Fv47 := (Fv47.on bX)
    replace Kv47 := Kv47
    have ZX6 := bX.size
    replace BW := BW.trans (bX.mono BW.size)
    clear bX
    replace A := (⟨h1, h2.trans A.2⟩ : a.tmps.size = 161 ∧ a.defers = [])
    clear h1 h2 h3 h4
    clear t0 t1 t2 t7 t8 t10 t11
    refine wp_cond_true t52 ?_
    refine wp_seq ?_
    refine wp_region_sq (σ := Unit) 161 [(0, 53), (1, 54), (2, 55), (3, 56), (4, 57), (5, 58), (6, 59), (7, 60), (8, 61), (9, 62), (10, 63), (11, 6)] (fun j_ s X => match j_ with | 0 => Below X6.heap.size X6 X | 1 => Below X6.heap.size X6 X | 2 => Below X6.heap.size X6 X | 3 => Below X6.heap.size X6 X | 4 => Below X6.heap.size X6 X | 5 => Below X6.heap.size X6 X | 6 => Below X6.heap.size X6 X | 7 => Below X6.heap.size X6 X | 8 => Below X6.heap.size X6 X | 9 => Below X6.heap.size X6 X | 10 => Below X6.heap.size X6 X | 11 => Below X6.heap.size X6 X | _ => Below X6.heap.size X6 X) (fun s => fun i_ => match i_ with | 0 => .int .i64 ((allE p l (catI n cs bs) (n + m) : Nat) : Int) | 1 => .int .i64 ((allE p l cs n : Nat) : Int) | 2 => .bool false | 3 => .bool false | 4 => .int .i64 ((allE p l (catI n cs bs) (n + m) : Nat) : Int) | 5 => .bool true | 6 => .bool true | 7 => .int .i64 ((allE p 0 bs m : Nat) : Int) | 8 => .bool true | 9 => .bool true | 10 => .bool true | 11 => .bool true | _ => undef) () A.1 (by kernel_rfl) (by decide) (by decide) (Below.refl _ _) ?_ ?_
    · intro i_ hi_ s a X hf hv hn hS
      match i_, hi_ with
      | 0, _ => exact stepV rfl rfl (execMvB rfl ((hf 12 (by decide)).trans t12)) ⟨s, ⟨_, rfl, rfl⟩, hS, fun _ _ => rfl⟩
      | 1, _ => exact stepV rfl rfl (execMvB rfl ((hf 9 (by decide)).trans t9)) ⟨s, ⟨_, rfl, rfl⟩, hS, fun _ _ => rfl⟩
      | 2, _ => exact stepV rfl rfl (execDec (execEqE (p := allE p l (catI n cs bs) (n + m)) (q := allE p l cs n) rfl (hv 0 (by omega) _ rfl _ rfl) (hv 1 (by omega) _ rfl _ rfl)) (decide_eq_false (by exact hEA))) ⟨s, ⟨_, rfl, rfl⟩, hS, fun _ _ => rfl⟩
      | 3, _ => exact stepV rfl rfl (execMvB rfl (hv 2 (by omega) _ rfl _ rfl)) ⟨s, ⟨_, rfl, rfl⟩, hS, fun _ _ => rfl⟩
      | 4, _ => exact stepV rfl (wantedOf rfl (yieldedAt rfl rfl (show a.eval (.tmp 56) = .bool false from (hv 3 (by omega) _ rfl _ rfl)))) (execMvB rfl ((hf 12 (by decide)).trans t12)) ⟨s, ⟨_, rfl, rfl⟩, hS, fun _ _ => rfl⟩
      | 5, _ => exact stepV rfl (wantedOf rfl (yieldedAt rfl rfl (show a.eval (.tmp 56) = .bool false from (hv 3 (by omega) _ rfl _ rfl)))) (execDec (execEqE (p := allE p l (catI n cs bs) (n + m)) (q := 2) rfl (hv 4 (by omega) _ rfl _ rfl) rfl) (decide_eq_true (by exact hB.1))) ⟨s, ⟨_, rfl, rfl⟩, hS, fun _ _ => rfl⟩
      | 6, _ => exact stepV rfl (wantedOf rfl (yieldedAt rfl rfl (show a.eval (.tmp 56) = .bool false from (hv 3 (by omega) _ rfl _ rfl)))) (execMvB rfl (hv 5 (by omega) _ rfl _ rfl)) ⟨s, ⟨_, rfl, rfl⟩, hS, fun _ _ => rfl⟩
      | 7, _ => exact stepV rfl (wantedOf rfl (yieldedAt rfl rfl (show a.eval (.tmp 59) = .bool true from (hv 6 (by omega) _ rfl _ rfl)))) (execMvB rfl ((hf 15 (by decide)).trans t15)) ⟨s, ⟨_, rfl, rfl⟩, hS, fun _ _ => rfl⟩
      | 8, _ => exact stepV rfl (wantedOf rfl (yieldedAt rfl rfl (show a.eval (.tmp 59) = .bool true from (hv 6 (by omega) _ rfl _ rfl)))) (execDec (execEqE (p := allE p 0 bs m) (q := 2) rfl (hv 7 (by omega) _ rfl _ rfl) rfl) (decide_eq_true (by exact hB.2))) ⟨s, ⟨_, rfl, rfl⟩, hS, fun _ _ => rfl⟩
      | 9, _ => exact stepV rfl (wantedOf rfl (yieldedAt rfl rfl (show a.eval (.tmp 56) = .bool false from (hv 3 (by omega) _ rfl _ rfl)))) (execPickT rfl (hv 6 (by omega) _ rfl _ rfl) (hv 8 (by omega) _ rfl _ rfl)) ⟨s, ⟨_, rfl, rfl⟩, hS, fun _ _ => rfl⟩
      | 10, _ => exact stepV rfl rfl (execPickF rfl (hv 3 (by omega) _ rfl _ rfl) (hv 9 (by omega) _ rfl _ rfl)) ⟨s, ⟨_, rfl, rfl⟩, hS, fun _ _ => rfl⟩
      | 11, _ => exact stepV rfl rfl (execAsgB rfl (hv 10 (by omega) _ rfl _ rfl)) ⟨s, ⟨_, rfl, rfl⟩, hS, fun _ _ => rfl⟩
      | k_ + 12, h_ => exact absurd h_ (by simp)
    rintro _ a X7 h1 h2 h3 h4 hS
    replace hS : Below X6.heap.size X6 X7 := hS
    have bX := hS
    clear hS
    have t6 : a.eval (.tmp 6) = .bool true := h4 11 _ rfl _ rfl
    replace FP := (FP.on bX)
    replace FI := (FI.on bX)
    replace FJ := (FJ.on bX)
    replace Fv30 := (Fv30.on bX)
    replace Kv30 := Kv30
    replace Fv40 := (Fv40.on bX)
    replace Fv41 := (Fv41.on bX)
    replace Kv41 := Kv41
    replace Fv47 := (Fv47.on bX)
    replace Kv47 := Kv47
    have ZX7 := bX.size
    replace BW := BW.trans (bX.mono BW.size)
    clear bX
    replace A := (⟨h1, h2.trans A.2⟩ : a.tmps.size = 161 ∧ a.defers = [])
    clear h1 h2 h3 h4
    clear t9 t12 t15
    refine wp_ret ?_
    refine ret_then ?_
    refine bodyPost_ret (results_tmp rfl _ _ _) A.2 ⟨?_, BW⟩
    show Ending.returned (a.eval (.tmp 6)) = _
    rw [t6]
set_option maxRecDepth 100000 in
set_option maxHeartbeats 4000000 in
theorem pieces_two (I : Impl) (p : Nat → Nat) (l : Nat) (cs bs : Nat → Int) (n m : Nat) (pv av bv : Value) (V : World) (hp : SliceN V pv l p) (hl : l ≤ 1048576) (_hz : ∀ l c, pv = .slice none l c → c = 0) (hb : SliceI V av n cs) (hn17 : n ≤ 1048576) (hza : ∀ l c, av = .slice none l c → c = 0) (hwv : SliceI V bv m bs) (hm17 : m ≤ 1048576) (hzb : ∀ l c, bv = .slice none l c → c = 0) (hE0 : allE p l cs n = 0) (hG : allE (fun j => p (plA p l cs n + j)) (l - plA p l cs n) bs m ≠ 0) : Calls Try.prog 7 #[pv, av, bv] V fun e w' => e = .returned (.bool true) ∧ Below V.heap.size V w' := by
  have FP := hp
  have FI := hb
  have FJ := hwv
  have hpb := hp.bytes
  have hEG0 := pieces_bad2 hE0 hG
  obtain ⟨k, ek⟩ : ∃ k, plA p l cs n = k := ⟨_, rfl⟩
  have hkl : k ≤ l := ek ▸ plA_le p l cs n
  have hAK : allK p l cs n = k := (if_pos hE0).trans ek
  have hAN : allN p l cs n = n := if_pos hE0
  rw [ek] at hEG0 hG
  have hG0 := hG
  have hEG := hEG0
  have hne : allE p l (catI n cs bs) (n + m) ≠ 0 := by rw [hEG]; exact hG
  have hN0 : allN p l (catI n cs bs) (n + m) = 0 := if_neg hne
  have hK0 : allK p l (catI n cs bs) (n + m) = 0 := if_neg hne
  go_enter Try.func7, Try.ntmps7
  refine wp_seq ?_
  refine wp_region_sqK 161 [(0, 6)] (fun i_ => match i_ with | 0 => .bool false | _ => undef) rfl (by kernel_rfl) (by decide) (by decide) ?_ ?_
  · intro i_ hi_ a hf hv hn
    match i_, hi_ with
    | 0, _ => exact stepV rfl rfl (execAsgB rfl rfl) ⟨⟨_, rfl, rfl⟩, rfl⟩
    | k_ + 1, h_ => exact absurd h_ (by simp)
  intro a h1 h2 h3 h4
  have t0 : a.eval (.tmp 0) = pv := (h3 0 (by decide)).trans rfl
  have t1 : a.eval (.tmp 1) = av := (h3 1 (by decide)).trans rfl
  have t2 : a.eval (.tmp 2) = bv := (h3 2 (by decide)).trans rfl
  have A : a.tmps.size = 161 ∧ a.defers = [] := ⟨h1, h2⟩
  have BW : Below V.heap.size V V := Below.refl _ _
  clear h1 h2 h3 h4
  refine wp_seq ?_
  refine wp_seq ?_
  refine wp_region_sq (σ := Unit) 161 [(0, 25), (1, 26)] (fun j_ s X => match j_ with | 0 => Below V.heap.size V X | 1 => Below V.heap.size V X | _ => Below V.heap.size V X) (fun s => fun i_ => match i_ with | 0 => .bool true | 1 => .bool false | _ => undef) () A.1 (by kernel_rfl) (by decide) (by decide) (Below.refl _ _) ?_ ?_
  · intro i_ hi_ s a X hf hv hn hS
    match i_, hi_ with
    | 0, _ => exact stepC rfl rfl (execCall0 Try.func9 (by kernel_rfl) (by kernel_rfl) rfl ) (alive10 I X) fun e w' hh => ⟨_, hh.1, s, ⟨_, rfl, rfl⟩, (hS).trans ((hh.2).mono (hS).size), fun _ _ => rfl⟩
    | 1, _ => exact stepV rfl rfl (execNot8 rfl (hv 0 (by omega) _ rfl _ rfl)) ⟨s, ⟨_, rfl, rfl⟩, hS, fun _ _ => rfl⟩
    | k_ + 2, h_ => exact absurd h_ (by simp)
  rintro _ a X1 h1 h2 h3 h4 hS
  replace hS : Below V.heap.size V X1 := hS
  have bX := hS
  clear hS
  replace t0 := (h3 0 (by decide)).trans t0
  replace t1 := (h3 1 (by decide)).trans t1
  replace t2 := (h3 2 (by decide)).trans t2
  have t26 : a.eval (.tmp 26) = .bool false := h4 1 _ rfl _ rfl
  replace FP := (FP.on bX)
  replace FI := (FI.on bX)
  replace FJ := (FJ.on bX)
  have ZX1 := bX.size
  replace BW := BW.trans (bX.mono BW.size)
  clear bX
  replace A := (⟨h1, h2.trans A.2⟩ : a.tmps.size = 161 ∧ a.defers = [])
  clear h1 h2 h3 h4
  refine wp_cond_false t26 ?_
  refine wp_skip ?_
  clear t26
  refine wp_seq ?_
  refine wp_region_sq (σ := Value) 161 [(0, 28), (1, 29), (2, 30), (3, 27), (4, 31), (5, 32), (6, 33), (7, 7), (8, 8), (9, 9)] (fun j_ s X => match j_ with | 0 => Below X1.heap.size X1 X | 1 => Below X1.heap.size X1 X | 2 => Below X1.heap.size X1 X | 3 => Below X1.heap.size X1 X ∧ (SliceI X s (allN p l cs n) (fun i => (dA p l cs i : Int))) ∧ (∀ l_ c_, s = .slice none l_ c_ → c_ = 0) | 4 => Below X1.heap.size X1 X ∧ (SliceI X s (allN p l cs n) (fun i => (dA p l cs i : Int))) ∧ (∀ l_ c_, s = .slice none l_ c_ → c_ = 0) | 5 => Below X1.heap.size X1 X ∧ (SliceI X s (allN p l cs n) (fun i => (dA p l cs i : Int))) ∧ (∀ l_ c_, s = .slice none l_ c_ → c_ = 0) | 6 => Below X1.heap.size X1 X ∧ (SliceI X s (allN p l cs n) (fun i => (dA p l cs i : Int))) ∧ (∀ l_ c_, s = .slice none l_ c_ → c_ = 0) | 7 => Below X1.heap.size X1 X ∧ (SliceI X s (allN p l cs n) (fun i => (dA p l cs i : Int))) ∧ (∀ l_ c_, s = .slice none l_ c_ → c_ = 0) | 8 => Below X1.heap.size X1 X ∧ (SliceI X s (allN p l cs n) (fun i => (dA p l cs i : Int))) ∧ (∀ l_ c_, s = .slice none l_ c_ → c_ = 0) | 9 => Below X1.heap.size X1 X ∧ (SliceI X s (allN p l cs n) (fun i => (dA p l cs i : Int))) ∧ (∀ l_ c_, s = .slice none l_ c_ → c_ = 0) | _ => Below X1.heap.size X1 X ∧ (SliceI X s (allN p l cs n) (fun i => (dA p l cs i : Int))) ∧ (∀ l_ c_, s = .slice none l_ c_ → c_ = 0)) (fun s => fun i_ => match i_ with | 0 => pv | 1 => av | 2 => .tuple #[s, .int .i64 ((allK p l cs n : Nat) : Int), .int .i64 ((allE p l cs n : Nat) : Int)] | 3 => .tuple #[s, .int .i64 ((allK p l cs n : Nat) : Int), .int .i64 ((allE p l cs n : Nat) : Int)] | 4 => s | 5 => .int .i64 ((allK p l cs n : Nat) : Int) | 6 => .int .i64 ((allE p l cs n : Nat) : Int) | 7 => s | 8 => .int .i64 ((allK p l cs n : Nat) : Int) | 9 => .int .i64 ((allE p l cs n : Nat) : Int) | _ => undef) undef A.1 (by kernel_rfl) (by decide) (by decide) (Below.refl _ _) ?_ ?_
  · intro i_ hi_ s a X hf hv hn hS
    match i_, hi_ with
    | 0, _ => exact stepV rfl rfl (execMvB rfl ((hf 0 (by decide)).trans t0)) ⟨s, ⟨_, rfl, rfl⟩, hS, fun _ _ => rfl⟩
    | 1, _ => exact stepV rfl rfl (execMvB rfl ((hf 1 (by decide)).trans t1)) ⟨s, ⟨_, rfl, rfl⟩, hS, fun _ _ => rfl⟩
    | 2, _ =>
      refine stepC rfl rfl (execCall2 Try.func17 (by kernel_rfl) (by kernel_rfl) rfl (hv 0 (by omega) _ rfl _ rfl) (hv 1 (by omega) _ rfl _ rfl)) (I.all p l cs n _ _ X (FP.on hS) (by omega) (FI.on hS) (by omega)) fun e w' hh => ?_
      obtain ⟨r_, he, hk, hb⟩ := hh
      refine ⟨_, he, r_, ⟨_, rfl, rfl⟩, ⟨(hS).trans ((hb).mono (hS).size), own_ints hk (dA_fits _ _ _ _), own_nilI hk⟩, fun i hi => ?_⟩
      match i, hi with
      | 0, _ => rfl
      | 1, _ => rfl
      | n_ + 2, h_ => omega
    | 3, _ => exact stepV rfl rfl (execMvB rfl (hv 2 (by omega) _ rfl _ rfl)) ⟨s, ⟨_, rfl, rfl⟩, hS, fun _ _ => rfl⟩
    | 4, _ => exact stepV rfl rfl (execExtT rfl (hv 3 (by omega) _ rfl _ rfl) rfl) ⟨s, ⟨_, rfl, rfl⟩, hS, fun _ _ => rfl⟩
    | 5, _ => exact stepV rfl rfl (execExtT rfl (hv 3 (by omega) _ rfl _ rfl) rfl) ⟨s, ⟨_, rfl, rfl⟩, hS, fun _ _ => rfl⟩
    | 6, _ => exact stepV rfl rfl (execExtT rfl (hv 3 (by omega) _ rfl _ rfl) rfl) ⟨s, ⟨_, rfl, rfl⟩, hS, fun _ _ => rfl⟩
    | 7, _ => exact stepV rfl rfl (execAsgB rfl (hv 4 (by omega) _ rfl _ rfl)) ⟨s, ⟨_, rfl, rfl⟩, hS, fun _ _ => rfl⟩
    | 8, _ => exact stepV rfl rfl (execAsgB rfl (hv 5 (by omega) _ rfl _ rfl)) ⟨s, ⟨_, rfl, rfl⟩, hS, fun _ _ => rfl⟩
    | 9, _ => exact stepV rfl rfl (execAsgB rfl (hv 6 (by omega) _ rfl _ rfl)) ⟨s, ⟨_, rfl, rfl⟩, hS, fun _ _ => rfl⟩
    | k_ + 10, h_ => exact absurd h_ (by simp)
  rintro v30 a X3 h1 h2 h3 h4 hS
  replace hS : Below X1.heap.size X1 X3 ∧ (SliceI X3 v30 (allN p l cs n) (fun i => (dA p l cs i : Int))) ∧ (∀ l_ c_, v30 = .slice none l_ c_ → c_ = 0) := hS
  obtain ⟨bX, Fv30, Kv30⟩ := hS
  replace t0 := (h3 0 (by decide)).trans t0
  replace t1 := (h3 1 (by decide)).trans t1
  replace t2 := (h3 2 (by decide)).trans t2
  have t7 : a.eval (.tmp 7) = v30 := h4 7 _ rfl _ rfl
  have t8 : a.eval (.tmp 8) = .int .i64 ((allK p l cs n : Nat) : Int) := h4 8 _ rfl _ rfl
  have t9 : a.eval (.tmp 9) = .int .i64 ((allE p l cs n : Nat) : Int) := h4 9 _ rfl _ rfl
  replace FP := (FP.on bX)
  replace FI := (FI.on bX)
  replace FJ := (FJ.on bX)
  have ZX3 := bX.size
  replace BW := BW.trans (bX.mono BW.size)
  clear bX
  replace A := (⟨h1, h2.trans A.2⟩ : a.tmps.size = 161 ∧ a.defers = [])
  clear h1 h2 h3 h4
  refine wp_seq ?_
  refine wp_region_sq (σ := Nat × Value × Value × Value) 161 [(0, 35), (1, 36), (2, 37), (3, 38), (4, 39), (5, 40), (6, 41), (7, 34), (8, 42), (9, 43), (10, 44), (11, 10), (12, 11), (13, 12)] (fun j_ s X => match j_ with | 0 => Below X3.heap.size X3 X | 1 => Below X3.heap.size X3 X | 2 => Below X3.heap.size X3 X ∧ X.ownsRow (X3.heap.size) 3 1 (.slice (some ⟨s.1, 0, none⟩) 0 0) (0) (intsL 0 (fun _ => 0)) | 3 => Below X3.heap.size X3 X ∧ X.ownsRow (X3.heap.size) 3 1 (.slice (some ⟨s.1, 0, none⟩) 0 0) (0) (intsL 0 (fun _ => 0)) | 4 => Below X3.heap.size X3 X ∧ X.ownsRow (X3.heap.size) 3 1 s.2.1 (n) (intsL (n) (cs)) | 5 => Below X3.heap.size X3 X ∧ X.ownsRow (X3.heap.size) 3 1 s.2.1 (n) (intsL (n) (cs)) | 6 => Below X3.heap.size X3 X ∧ (SliceI X s.2.2.1 (n + m) (catI n cs bs)) | 7 => Below X3.heap.size X3 X ∧ (SliceI X s.2.2.1 (n + m) (catI n cs bs)) ∧ (SliceI X s.2.2.2 (allN p l (catI n cs bs) (n + m)) (fun i => (dA p l (catI n cs bs) i : Int))) ∧ (∀ l_ c_, s.2.2.2 = .slice none l_ c_ → c_ = 0) | 8 => Below X3.heap.size X3 X ∧ (SliceI X s.2.2.1 (n + m) (catI n cs bs)) ∧ (SliceI X s.2.2.2 (allN p l (catI n cs bs) (n + m)) (fun i => (dA p l (catI n cs bs) i : Int))) ∧ (∀ l_ c_, s.2.2.2 = .slice none l_ c_ → c_ = 0) | 9 => Below X3.heap.size X3 X ∧ (SliceI X s.2.2.1 (n + m) (catI n cs bs)) ∧ (SliceI X s.2.2.2 (allN p l (catI n cs bs) (n + m)) (fun i => (dA p l (catI n cs bs) i : Int))) ∧ (∀ l_ c_, s.2.2.2 = .slice none l_ c_ → c_ = 0) | 10 => Below X3.heap.size X3 X ∧ (SliceI X s.2.2.1 (n + m) (catI n cs bs)) ∧ (SliceI X s.2.2.2 (allN p l (catI n cs bs) (n + m)) (fun i => (dA p l (catI n cs bs) i : Int))) ∧ (∀ l_ c_, s.2.2.2 = .slice none l_ c_ → c_ = 0) | 11 => Below X3.heap.size X3 X ∧ (SliceI X s.2.2.1 (n + m) (catI n cs bs)) ∧ (SliceI X s.2.2.2 (allN p l (catI n cs bs) (n + m)) (fun i => (dA p l (catI n cs bs) i : Int))) ∧ (∀ l_ c_, s.2.2.2 = .slice none l_ c_ → c_ = 0) | 12 => Below X3.heap.size X3 X ∧ (SliceI X s.2.2.1 (n + m) (catI n cs bs)) ∧ (SliceI X s.2.2.2 (allN p l (catI n cs bs) (n + m)) (fun i => (dA p l (catI n cs bs) i : Int))) ∧ (∀ l_ c_, s.2.2.2 = .slice none l_ c_ → c_ = 0) | 13 => Below X3.heap.size X3 X ∧ (SliceI X s.2.2.1 (n + m) (catI n cs bs)) ∧ (SliceI X s.2.2.2 (allN p l (catI n cs bs) (n + m)) (fun i => (dA p l (catI n cs bs) i : Int))) ∧ (∀ l_ c_, s.2.2.2 = .slice none l_ c_ → c_ = 0) | _ => Below X3.heap.size X3 X ∧ (SliceI X s.2.2.1 (n + m) (catI n cs bs)) ∧ (SliceI X s.2.2.2 (allN p l (catI n cs bs) (n + m)) (fun i => (dA p l (catI n cs bs) i : Int))) ∧ (∀ l_ c_, s.2.2.2 = .slice none l_ c_ → c_ = 0)) (fun s => fun i_ => match i_ with | 0 => pv | 1 => .slice (some ⟨s.1, 0, none⟩) 0 0 | 2 => av | 3 => s.2.1 | 4 => bv | 5 => s.2.2.1 | 6 => .tuple #[s.2.2.2, .int .i64 ((allK p l (catI n cs bs) (n + m) : Nat) : Int), .int .i64 ((allE p l (catI n cs bs) (n + m) : Nat) : Int)] | 7 => .tuple #[s.2.2.2, .int .i64 ((allK p l (catI n cs bs) (n + m) : Nat) : Int), .int .i64 ((allE p l (catI n cs bs) (n + m) : Nat) : Int)] | 8 => s.2.2.2 | 9 => .int .i64 ((allK p l (catI n cs bs) (n + m) : Nat) : Int) | 10 => .int .i64 ((allE p l (catI n cs bs) (n + m) : Nat) : Int) | 11 => s.2.2.2 | 12 => .int .i64 ((allK p l (catI n cs bs) (n + m) : Nat) : Int) | 13 => .int .i64 ((allE p l (catI n cs bs) (n + m) : Nat) : Int) | _ => undef) (0, undef, undef, undef) A.1 (by kernel_rfl) (by decide) (by decide) (Below.refl _ _) ?_ ?_
  · intro i_ hi_ s a X hf hv hn hS
    match i_, hi_ with
    | 0, _ => exact stepV rfl rfl (execMvB rfl ((hf 0 (by decide)).trans t0)) ⟨s, ⟨_, rfl, rfl⟩, hS, fun _ _ => rfl⟩
    | 1, _ =>
      refine stepV rfl rfl (execBs0I rfl) ⟨(X.heap.size, s.2.1, s.2.2.1, s.2.2.2), ⟨_, rfl, rfl⟩, ⟨(hS).trans (((belNew X _)).mono (hS).size), ownD_base (own_noneI X _) (hS).size⟩, fun i hi => ?_⟩
      match i, hi with
      | 0, _ => rfl
      | n_ + 1, h_ => omega
    | 2, _ => exact stepV rfl rfl (execMvB rfl ((hf 1 (by decide)).trans t1)) ⟨s, ⟨_, rfl, rfl⟩, hS, fun _ _ => rfl⟩
    | 3, _ =>
      refine stepAppIs (f := fun _ => 0) (g := cs) rfl rfl rfl (hv 1 (by omega) _ rfl _ rfl) (hv 2 (by omega) _ rfl _ rfl) hS.2 (FI.on hS.1) hza (by omega) (hS.1).size fun v' W' own' gr => ⟨(s.1, v', s.2.2.1, s.2.2.2), ⟨_, rfl, rfl⟩, ⟨(hS.1).grown gr (hS.1).size (fun k hk => (hS.2.lt k hk).1), own_cat0 own'⟩, fun i hi => ?_⟩
      match i, hi with
      | 0, _ => rfl
      | 1, _ => rfl
      | 2, _ => rfl
      | n_ + 3, h_ => omega
    | 4, _ => exact stepV rfl rfl (execMvB rfl ((hf 2 (by decide)).trans t2)) ⟨s, ⟨_, rfl, rfl⟩, hS, fun _ _ => rfl⟩
    | 5, _ =>
      refine stepAppIs (f := cs) (g := bs) rfl rfl rfl (hv 3 (by omega) _ rfl _ rfl) (hv 4 (by omega) _ rfl _ rfl) hS.2 (FJ.on hS.1) hzb (by omega) (hS.1).size fun v' W' own' gr => ⟨(s.1, s.2.1, v', s.2.2.2), ⟨_, rfl, rfl⟩, ⟨(hS.1).grown gr (hS.1).size (fun k hk => (hS.2.lt k hk).1), own_ints own' (catI_fits hb.fits hwv.fits)⟩, fun i hi => ?_⟩
      match i, hi with
      | 0, _ => rfl
      | 1, _ => rfl
      | 2, _ => rfl
      | 3, _ => rfl
      | 4, _ => rfl
      | n_ + 5, h_ => omega
    | 6, _ =>
      refine stepC rfl rfl (execCall2 Try.func17 (by kernel_rfl) (by kernel_rfl) rfl (hv 0 (by omega) _ rfl _ rfl) (hv 5 (by omega) _ rfl _ rfl)) (I.all p l (catI n cs bs) (n + m) _ _ X (FP.on hS.1) (by omega) hS.2 (by omega)) fun e w' hh => ?_
      obtain ⟨r_, he, hk, hb⟩ := hh
      refine ⟨_, he, (s.1, s.2.1, s.2.2.1, r_), ⟨_, rfl, rfl⟩, ⟨(hS.1).trans ((hb).mono (hS.1).size), (hS.2.on hb), own_ints hk (dA_fits _ _ _ _), own_nilI hk⟩, fun i hi => ?_⟩
      match i, hi with
      | 0, _ => rfl
      | 1, _ => rfl
      | 2, _ => rfl
      | 3, _ => rfl
      | 4, _ => rfl
      | 5, _ => rfl
      | n_ + 6, h_ => omega
    | 7, _ => exact stepV rfl rfl (execMvB rfl (hv 6 (by omega) _ rfl _ rfl)) ⟨s, ⟨_, rfl, rfl⟩, hS, fun _ _ => rfl⟩
    | 8, _ => exact stepV rfl rfl (execExtT rfl (hv 7 (by omega) _ rfl _ rfl) rfl) ⟨s, ⟨_, rfl, rfl⟩, hS, fun _ _ => rfl⟩
    | 9, _ => exact stepV rfl rfl (execExtT rfl (hv 7 (by omega) _ rfl _ rfl) rfl) ⟨s, ⟨_, rfl, rfl⟩, hS, fun _ _ => rfl⟩
    | 10, _ => exact stepV rfl rfl (execExtT rfl (hv 7 (by omega) _ rfl _ rfl) rfl) ⟨s, ⟨_, rfl, rfl⟩, hS, fun _ _ => rfl⟩
    | 11, _ => exact stepV rfl rfl (execAsgB rfl (hv 8 (by omega) _ rfl _ rfl)) ⟨s, ⟨_, rfl, rfl⟩, hS, fun _ _ => rfl⟩
    | 12, _ => exact stepV rfl rfl (execAsgB rfl (hv 9 (by omega) _ rfl _ rfl)) ⟨s, ⟨_, rfl, rfl⟩, hS, fun _ _ => rfl⟩
    | 13, _ => exact stepV rfl rfl (execAsgB rfl (hv 10 (by omega) _ rfl _ rfl)) ⟨s, ⟨_, rfl, rfl⟩, hS, fun _ _ => rfl⟩
    | k_ + 14, h_ => exact absurd h_ (by simp)
  rintro ⟨g36, v38, v40, v41⟩ a X4 h1 h2 h3 h4 hS
  replace hS : Below X3.heap.size X3 X4 ∧ (SliceI X4 v40 (n + m) (catI n cs bs)) ∧ (SliceI X4 v41 (allN p l (catI n cs bs) (n + m)) (fun i => (dA p l (catI n cs bs) i : Int))) ∧ (∀ l_ c_, v41 = .slice none l_ c_ → c_ = 0) := hS
  obtain ⟨bX, Fv40, Fv41, Kv41⟩ := hS
  replace t0 := (h3 0 (by decide)).trans t0
  replace t1 := (h3 1 (by decide)).trans t1
  replace t2 := (h3 2 (by decide)).trans t2
  replace t7 := (h3 7 (by decide)).trans t7
  replace t8 := (h3 8 (by decide)).trans t8
  replace t9 := (h3 9 (by decide)).trans t9
  have t10 : a.eval (.tmp 10) = v41 := h4 11 _ rfl _ rfl
  have t11 : a.eval (.tmp 11) = .int .i64 ((allK p l (catI n cs bs) (n + m) : Nat) : Int) := h4 12 _ rfl _ rfl
  have t12 : a.eval (.tmp 12) = .int .i64 ((allE p l (catI n cs bs) (n + m) : Nat) : Int) := h4 13 _ rfl _ rfl
  replace FP := (FP.on bX)
  replace FI := (FI.on bX)
  replace FJ := (FJ.on bX)
  replace Fv30 := (Fv30.on bX)
  replace Kv30 := Kv30
  have ZX4 := bX.size
  replace BW := BW.trans (bX.mono BW.size)
  clear bX
  replace A := (⟨h1, h2.trans A.2⟩ : a.tmps.size = 161 ∧ a.defers = [])
  clear h1 h2 h3 h4
  refine wp_seq ?_
  refine wp_region_sq (σ := Value) 161 [(0, 46), (1, 47), (2, 45), (3, 48), (4, 49), (5, 50), (6, 13), (7, 14), (8, 15)] (fun j_ s X => match j_ with | 0 => Below X4.heap.size X4 X | 1 => Below X4.heap.size X4 X | 2 => Below X4.heap.size X4 X ∧ (SliceI X s (allN p 0 bs m) (fun i => (dA p 0 bs i : Int))) ∧ (∀ l_ c_, s = .slice none l_ c_ → c_ = 0) | 3 => Below X4.heap.size X4 X ∧ (SliceI X s (allN p 0 bs m) (fun i => (dA p 0 bs i : Int))) ∧ (∀ l_ c_, s = .slice none l_ c_ → c_ = 0) | 4 => Below X4.heap.size X4 X ∧ (SliceI X s (allN p 0 bs m) (fun i => (dA p 0 bs i : Int))) ∧ (∀ l_ c_, s = .slice none l_ c_ → c_ = 0) | 5 => Below X4.heap.size X4 X ∧ (SliceI X s (allN p 0 bs m) (fun i => (dA p 0 bs i : Int))) ∧ (∀ l_ c_, s = .slice none l_ c_ → c_ = 0) | 6 => Below X4.heap.size X4 X ∧ (SliceI X s (allN p 0 bs m) (fun i => (dA p 0 bs i : Int))) ∧ (∀ l_ c_, s = .slice none l_ c_ → c_ = 0) | 7 => Below X4.heap.size X4 X ∧ (SliceI X s (allN p 0 bs m) (fun i => (dA p 0 bs i : Int))) ∧ (∀ l_ c_, s = .slice none l_ c_ → c_ = 0) | 8 => Below X4.heap.size X4 X ∧ (SliceI X s (allN p 0 bs m) (fun i => (dA p 0 bs i : Int))) ∧ (∀ l_ c_, s = .slice none l_ c_ → c_ = 0) | _ => Below X4.heap.size X4 X ∧ (SliceI X s (allN p 0 bs m) (fun i => (dA p 0 bs i : Int))) ∧ (∀ l_ c_, s = .slice none l_ c_ → c_ = 0)) (fun s => fun i_ => match i_ with | 0 => bv | 1 => .tuple #[s, .int .i64 ((allK p 0 bs m : Nat) : Int), .int .i64 ((allE p 0 bs m : Nat) : Int)] | 2 => .tuple #[s, .int .i64 ((allK p 0 bs m : Nat) : Int), .int .i64 ((allE p 0 bs m : Nat) : Int)] | 3 => s | 4 => .int .i64 ((allK p 0 bs m : Nat) : Int) | 5 => .int .i64 ((allE p 0 bs m : Nat) : Int) | 6 => s | 7 => .int .i64 ((allK p 0 bs m : Nat) : Int) | 8 => .int .i64 ((allE p 0 bs m : Nat) : Int) | _ => undef) undef A.1 (by kernel_rfl) (by decide) (by decide) (Below.refl _ _) ?_ ?_
  · intro i_ hi_ s a X hf hv hn hS
    match i_, hi_ with
    | 0, _ => exact stepV rfl rfl (execMvB rfl ((hf 2 (by decide)).trans t2)) ⟨s, ⟨_, rfl, rfl⟩, hS, fun _ _ => rfl⟩
    | 1, _ =>
      refine stepC rfl rfl (execCall2 Try.func17 (by kernel_rfl) (by kernel_rfl) rfl rfl (hv 0 (by omega) _ rfl _ rfl)) (I.all p 0 bs m _ _ X slice_nilN (by omega) (FJ.on hS) (by omega)) fun e w' hh => ?_
      obtain ⟨r_, he, hk, hb⟩ := hh
      refine ⟨_, he, r_, ⟨_, rfl, rfl⟩, ⟨(hS).trans ((hb).mono (hS).size), own_ints hk (dA_fits _ _ _ _), own_nilI hk⟩, fun i hi => ?_⟩
      match i, hi with
      | 0, _ => rfl
      | n_ + 1, h_ => omega
    | 2, _ => exact stepV rfl rfl (execMvB rfl (hv 1 (by omega) _ rfl _ rfl)) ⟨s, ⟨_, rfl, rfl⟩, hS, fun _ _ => rfl⟩
    | 3, _ => exact stepV rfl rfl (execExtT rfl (hv 2 (by omega) _ rfl _ rfl) rfl) ⟨s, ⟨_, rfl, rfl⟩, hS, fun _ _ => rfl⟩
    | 4, _ => exact stepV rfl rfl (execExtT rfl (hv 2 (by omega) _ rfl _ rfl) rfl) ⟨s, ⟨_, rfl, rfl⟩, hS, fun _ _ => rfl⟩
    | 5, _ => exact stepV rfl rfl (execExtT rfl (hv 2 (by omega) _ rfl _ rfl) rfl) ⟨s, ⟨_, rfl, rfl⟩, hS, fun _ _ => rfl⟩
    | 6, _ => exact stepV rfl rfl (execAsgB rfl (hv 3 (by omega) _ rfl _ rfl)) ⟨s, ⟨_, rfl, rfl⟩, hS, fun _ _ => rfl⟩
    | 7, _ => exact stepV rfl rfl (execAsgB rfl (hv 4 (by omega) _ rfl _ rfl)) ⟨s, ⟨_, rfl, rfl⟩, hS, fun _ _ => rfl⟩
    | 8, _ => exact stepV rfl rfl (execAsgB rfl (hv 5 (by omega) _ rfl _ rfl)) ⟨s, ⟨_, rfl, rfl⟩, hS, fun _ _ => rfl⟩
    | k_ + 9, h_ => exact absurd h_ (by simp)
  rintro v47 a X5 h1 h2 h3 h4 hS
  replace hS : Below X4.heap.size X4 X5 ∧ (SliceI X5 v47 (allN p 0 bs m) (fun i => (dA p 0 bs i : Int))) ∧ (∀ l_ c_, v47 = .slice none l_ c_ → c_ = 0) := hS
  obtain ⟨bX, Fv47, Kv47⟩ := hS
  replace t0 := (h3 0 (by decide)).trans t0
  replace t1 := (h3 1 (by decide)).trans t1
  replace t2 := (h3 2 (by decide)).trans t2
  replace t7 := (h3 7 (by decide)).trans t7
  replace t8 := (h3 8 (by decide)).trans t8
  replace t9 := (h3 9 (by decide)).trans t9
  replace t10 := (h3 10 (by decide)).trans t10
  replace t11 := (h3 11 (by decide)).trans t11
  replace t12 := (h3 12 (by decide)).trans t12
  have t15 : a.eval (.tmp 15) = .int .i64 ((allE p 0 bs m : Nat) : Int) := h4 8 _ rfl _ rfl
  replace FP := (FP.on bX)
  replace FI := (FI.on bX)
  replace FJ := (FJ.on bX)
  replace Fv30 := (Fv30.on bX)
  replace Kv30 := Kv30
  replace Fv40 := (Fv40.on bX)
  replace Fv41 := (Fv41.on bX)
  replace Kv41 := Kv41
  have ZX5 := bX.size
  replace BW := BW.trans (bX.mono BW.size)
  clear bX
  replace A := (⟨h1, h2.trans A.2⟩ : a.tmps.size = 161 ∧ a.defers = [])
  clear h1 h2 h3 h4
  refine wp_seq ?_
  refine wp_seq ?_
  refine wp_region_sq (σ := Unit) 161 [(0, 51), (1, 52)] (fun j_ s X => match j_ with | 0 => Below X5.heap.size X5 X | 1 => Below X5.heap.size X5 X | _ => Below X5.heap.size X5 X) (fun s => fun i_ => match i_ with | 0 => .int .i64 ((allE p l cs n : Nat) : Int) | 1 => .bool false | _ => undef) () A.1 (by kernel_rfl) (by decide) (by decide) (Below.refl _ _) ?_ ?_
  · intro i_ hi_ s a X hf hv hn hS
    match i_, hi_ with
    | 0, _ => exact stepV rfl rfl (execMvB rfl ((hf 9 (by decide)).trans t9)) ⟨s, ⟨_, rfl, rfl⟩, hS, fun _ _ => rfl⟩
    | 1, _ => exact stepV rfl rfl (execDec (execNeE (p := allE p l cs n) (q := 0) rfl (hv 0 (by omega) _ rfl _ rfl) rfl) (decide_eq_false (by omega))) ⟨s, ⟨_, rfl, rfl⟩, hS, fun _ _ => rfl⟩
    | k_ + 2, h_ => exact absurd h_ (by simp)
  rintro _ a X6 h1 h2 h3 h4 hS
  replace hS : Below X5.heap.size X5 X6 := hS
  have bX := hS
  clear hS
  replace t0 := (h3 0 (by decide)).trans t0
  replace t1 := (h3 1 (by decide)).trans t1
  replace t2 := (h3 2 (by decide)).trans t2
  replace t7 := (h3 7 (by decide)).trans t7
  replace t8 := (h3 8 (by decide)).trans t8
  replace t9 := (h3 9 (by decide)).trans t9
  replace t10 := (h3 10 (by decide)).trans t10
  replace t11 := (h3 11 (by decide)).trans t11
  replace t12 := (h3 12 (by decide)).trans t12
  replace t15 := (h3 15 (by decide)).trans t15
  have t52 : a.eval (.tmp 52) = .bool false := h4 1 _ rfl _ rfl
  replace FP := (FP.on bX)
  replace FI := (FI.on bX)
  replace FJ := (FJ.on bX)
  replace Fv30 := (Fv30.on bX)
  replace Kv30 := Kv30
  replace Fv40 := (Fv40.on bX)
  replace Fv41 := (Fv41.on bX)
  replace Kv41 := Kv41
  replace Fv47 := (Fv47.on bX)
  replace Kv47 := Kv47
  have ZX6 := bX.size
  replace BW := BW.trans (bX.mono BW.size)
  clear bX
  replace A := (⟨h1, h2.trans A.2⟩ : a.tmps.size = 161 ∧ a.defers = [])
  clear h1 h2 h3 h4
  refine wp_cond_false t52 ?_
  refine wp_skip ?_
  clear t52
  rw [hAK] at t8
  rw [hAN] at Fv30
  refine wp_seq ?_
  refine wp_seq ?_
  refine wp_region_sq (σ := Unit) 161 [(0, 64), (1, 65), (2, 66), (3, 67), (4, 68), (5, 69), (6, 70), (7, 71)] (fun j_ s X => match j_ with | 0 => Below X6.heap.size X6 X | 1 => Below X6.heap.size X6 X | 2 => Below X6.heap.size X6 X | 3 => Below X6.heap.size X6 X | 4 => Below X6.heap.size X6 X | 5 => Below X6.heap.size X6 X | 6 => Below X6.heap.size X6 X | 7 => Below X6.heap.size X6 X | _ => Below X6.heap.size X6 X) (fun s => fun i_ => match i_ with | 0 => .int .i64 ((k : Nat) : Int) | 1 => .bool false | 2 => .bool false | 3 => .int .i64 ((k : Nat) : Int) | 4 => pv | 5 => .int .i64 ((l : Nat) : Int) | 6 => .bool false | 7 => .bool false | _ => undef) () A.1 (by kernel_rfl) (by decide) (by decide) (Below.refl _ _) ?_ ?_
  · intro i_ hi_ s a X hf hv hn hS
    match i_, hi_ with
    | 0, _ => exact stepV rfl rfl (execMvB rfl ((hf 8 (by decide)).trans t8)) ⟨s, ⟨_, rfl, rfl⟩, hS, fun _ _ => rfl⟩
    | 1, _ => exact stepV rfl rfl (execDec (execLtW (p := k) (q := 0) rfl (hv 0 (by omega) _ rfl _ rfl) rfl) (decide_eq_false (by omega))) ⟨s, ⟨_, rfl, rfl⟩, hS, fun _ _ => rfl⟩
    | 2, _ => exact stepV rfl rfl (execMvB rfl (hv 1 (by omega) _ rfl _ rfl)) ⟨s, ⟨_, rfl, rfl⟩, hS, fun _ _ => rfl⟩
    | 3, _ => exact stepV rfl (wantedOf rfl (yieldedAt rfl rfl (show a.eval (.tmp 66) = .bool false from (hv 2 (by omega) _ rfl _ rfl)))) (execMvB rfl ((hf 8 (by decide)).trans t8)) ⟨s, ⟨_, rfl, rfl⟩, hS, fun _ _ => rfl⟩
    | 4, _ => exact stepV rfl (wantedOf rfl (yieldedAt rfl rfl (show a.eval (.tmp 66) = .bool false from (hv 2 (by omega) _ rfl _ rfl)))) (execMvB rfl ((hf 0 (by decide)).trans t0)) ⟨s, ⟨_, rfl, rfl⟩, hS, fun _ _ => rfl⟩
    | 5, _ => exact stepV rfl (wantedOf rfl (yieldedAt rfl rfl (show a.eval (.tmp 66) = .bool false from (hv 2 (by omega) _ rfl _ rfl)))) (execLenV (len := l) rfl (hv 4 (by omega) _ rfl _ rfl) (shp9 (FP.on hS))) ⟨s, ⟨_, rfl, rfl⟩, hS, fun _ _ => rfl⟩
    | 6, _ => exact stepV rfl (wantedOf rfl (yieldedAt rfl rfl (show a.eval (.tmp 66) = .bool false from (hv 2 (by omega) _ rfl _ rfl)))) (execDec (execGtN (p := k) (q := l) rfl (hv 3 (by omega) _ rfl _ rfl) (hv 5 (by omega) _ rfl _ rfl)) (decide_eq_false (by omega))) ⟨s, ⟨_, rfl, rfl⟩, hS, fun _ _ => rfl⟩
    | 7, _ => exact stepV rfl rfl (execPickF rfl (hv 2 (by omega) _ rfl _ rfl) (hv 6 (by omega) _ rfl _ rfl)) ⟨s, ⟨_, rfl, rfl⟩, hS, fun _ _ => rfl⟩
    | k_ + 8, h_ => exact absurd h_ (by simp)
  rintro _ a X8 h1 h2 h3 h4 hS
  replace hS : Below X6.heap.size X6 X8 := hS
  have bX := hS
  clear hS
  replace t0 := (h3 0 (by decide)).trans t0
  replace t1 := (h3 1 (by decide)).trans t1
  replace t2 := (h3 2 (by decide)).trans t2
  replace t7 := (h3 7 (by decide)).trans t7
  replace t8 := (h3 8 (by decide)).trans t8
  replace t9 := (h3 9 (by decide)).trans t9
  replace t10 := (h3 10 (by decide)).trans t10
  replace t11 := (h3 11 (by decide)).trans t11
  replace t12 := (h3 12 (by decide)).trans t12
  replace t15 := (h3 15 (by decide)).trans t15
  have t71 : a.eval (.tmp 71) = .bool false := h4 7 _ rfl _ rfl
  replace FP := (FP.on bX)
  replace FI := (FI.on bX)
  replace FJ := (FJ.on bX)
  replace Fv30 := (Fv30.on bX)
  replace Kv30 := Kv30
  replace Fv40 := (Fv40.on bX)
  replace Fv41 := (Fv41.on bX)
  replace Kv41 := Kv41
  replace Fv47 := (Fv47.on bX)
  replace Kv47 := Kv47
  have ZX8 := bX.size
  replace BW := BW.trans (bX.mono BW.size)
  clear bX
  replace A := (⟨h1, h2.trans A.2⟩ : a.tmps.size = 161 ∧ a.defers = [])
  clear h1 h2 h3 h4
  refine wp_cond_false t71 ?_
  refine wp_skip ?_
  clear t71
  obtain ⟨pa, pc, epv, hpc, -⟩ := id FP.shape
  obtain ⟨zp, ezp⟩ : ∃ z, sliced pa k l pc 1 = z := ⟨_, rfl⟩
  obtain ⟨zs, ezs⟩ : ∃ z, sliced pa 0 k pc 1 = z := ⟨_, rfl⟩
  have FZp : SliceN X8 zp (l - k) (fun j => p (k + j)) := by
    have h := FP
    rw [epv] at h
    have h2 := h.sub k l hkl (Nat.le_refl _)
    rw [ezp] at h2
    exact h2
  have FZs : SliceN X8 zs k p := by
    have h := FP
    rw [epv] at h
    have h2 := h.sub 0 k (Nat.zero_le _) hkl
    rw [ezs] at h2
    exact sliceN_cg h2 fun j _ => by rw [Nat.zero_add]
  refine wp_seq ?_
  refine wp_region_sq (σ := Value) 161 [(0, 73), (1, 74), (2, 75), (3, 76), (4, 77), (5, 72), (6, 78), (7, 79), (8, 80), (9, 16), (10, 17), (11, 18)] (fun j_ s X => match j_ with | 0 => Below X8.heap.size X8 X | 1 => Below X8.heap.size X8 X | 2 => Below X8.heap.size X8 X | 3 => Below X8.heap.size X8 X | 4 => Below X8.heap.size X8 X | 5 => Below X8.heap.size X8 X ∧ (SliceI X s (allN (fun j => p (k + j)) (l - k) bs m) (fun i => (dA (fun j => p (k + j)) (l - k) bs i : Int))) ∧ (∀ l_ c_, s = .slice none l_ c_ → c_ = 0) | 6 => Below X8.heap.size X8 X ∧ (SliceI X s (allN (fun j => p (k + j)) (l - k) bs m) (fun i => (dA (fun j => p (k + j)) (l - k) bs i : Int))) ∧ (∀ l_ c_, s = .slice none l_ c_ → c_ = 0) | 7 => Below X8.heap.size X8 X ∧ (SliceI X s (allN (fun j => p (k + j)) (l - k) bs m) (fun i => (dA (fun j => p (k + j)) (l - k) bs i : Int))) ∧ (∀ l_ c_, s = .slice none l_ c_ → c_ = 0) | 8 => Below X8.heap.size X8 X ∧ (SliceI X s (allN (fun j => p (k + j)) (l - k) bs m) (fun i => (dA (fun j => p (k + j)) (l - k) bs i : Int))) ∧ (∀ l_ c_, s = .slice none l_ c_ → c_ = 0) | 9 => Below X8.heap.size X8 X ∧ (SliceI X s (allN (fun j => p (k + j)) (l - k) bs m) (fun i => (dA (fun j => p (k + j)) (l - k) bs i : Int))) ∧ (∀ l_ c_, s = .slice none l_ c_ → c_ = 0) | 10 => Below X8.heap.size X8 X ∧ (SliceI X s (allN (fun j => p (k + j)) (l - k) bs m) (fun i => (dA (fun j => p (k + j)) (l - k) bs i : Int))) ∧ (∀ l_ c_, s = .slice none l_ c_ → c_ = 0) | 11 => Below X8.heap.size X8 X ∧ (SliceI X s (allN (fun j => p (k + j)) (l - k) bs m) (fun i => (dA (fun j => p (k + j)) (l - k) bs i : Int))) ∧ (∀ l_ c_, s = .slice none l_ c_ → c_ = 0) | _ => Below X8.heap.size X8 X ∧ (SliceI X s (allN (fun j => p (k + j)) (l - k) bs m) (fun i => (dA (fun j => p (k + j)) (l - k) bs i : Int))) ∧ (∀ l_ c_, s = .slice none l_ c_ → c_ = 0)) (fun s => fun i_ => match i_ with | 0 => pv | 1 => .int .i64 ((k : Nat) : Int) | 2 => zp | 3 => bv | 4 => .tuple #[s, .int .i64 ((allK (fun j => p (k + j)) (l - k) bs m : Nat) : Int), .int .i64 ((allE (fun j => p (k + j)) (l - k) bs m : Nat) : Int)] | 5 => .tuple #[s, .int .i64 ((allK (fun j => p (k + j)) (l - k) bs m : Nat) : Int), .int .i64 ((allE (fun j => p (k + j)) (l - k) bs m : Nat) : Int)] | 6 => s | 7 => .int .i64 ((allK (fun j => p (k + j)) (l - k) bs m : Nat) : Int) | 8 => .int .i64 ((allE (fun j => p (k + j)) (l - k) bs m : Nat) : Int) | 9 => s | 10 => .int .i64 ((allK (fun j => p (k + j)) (l - k) bs m : Nat) : Int) | 11 => .int .i64 ((allE (fun j => p (k + j)) (l - k) bs m : Nat) : Int) | _ => undef) undef A.1 (by kernel_rfl) (by decide) (by decide) (Below.refl _ _) ?_ ?_
  · intro i_ hi_ s a X hf hv hn hS
    match i_, hi_ with
    | 0, _ => exact stepV rfl rfl (execMvB rfl ((hf 0 (by decide)).trans t0)) ⟨s, ⟨_, rfl, rfl⟩, hS, fun _ _ => rfl⟩
    | 1, _ => exact stepV rfl rfl (execMvB rfl ((hf 8 (by decide)).trans t8)) ⟨s, ⟨_, rfl, rfl⟩, hS, fun _ _ => rfl⟩
    | 2, _ => exact stepV rfl rfl (ezp ▸ By8.execSlL rfl ((hv 0 (by omega) _ rfl _ rfl).trans epv) (hv 1 (by omega) _ rfl _ rfl) (By8.slice_l pa l pc k hkl X)) ⟨s, ⟨_, rfl, rfl⟩, hS, fun _ _ => rfl⟩
    | 3, _ => exact stepV rfl rfl (execMvB rfl ((hf 2 (by decide)).trans t2)) ⟨s, ⟨_, rfl, rfl⟩, hS, fun _ _ => rfl⟩
    | 4, _ =>
      refine stepC rfl rfl (execCall2 Try.func17 (by kernel_rfl) (by kernel_rfl) rfl (hv 2 (by omega) _ rfl _ rfl) (hv 3 (by omega) _ rfl _ rfl)) (I.all (fun j => p (k + j)) (l - k) bs m _ _ X (FZp.on hS) (by omega) (FJ.on hS) (by omega)) fun e w' hh => ?_
      obtain ⟨r_, he, hk, hb⟩ := hh
      refine ⟨_, he, r_, ⟨_, rfl, rfl⟩, ⟨(hS).trans ((hb).mono (hS).size), own_ints hk (dA_fits _ _ _ _), own_nilI hk⟩, fun i hi => ?_⟩
      match i, hi with
      | 0, _ => rfl
      | 1, _ => rfl
      | 2, _ => rfl
      | 3, _ => rfl
      | n_ + 4, h_ => omega
    | 5, _ => exact stepV rfl rfl (execMvB rfl (hv 4 (by omega) _ rfl _ rfl)) ⟨s, ⟨_, rfl, rfl⟩, hS, fun _ _ => rfl⟩
    | 6, _ => exact stepV rfl rfl (execExtT rfl (hv 5 (by omega) _ rfl _ rfl) rfl) ⟨s, ⟨_, rfl, rfl⟩, hS, fun _ _ => rfl⟩
    | 7, _ => exact stepV rfl rfl (execExtT rfl (hv 5 (by omega) _ rfl _ rfl) rfl) ⟨s, ⟨_, rfl, rfl⟩, hS, fun _ _ => rfl⟩
    | 8, _ => exact stepV rfl rfl (execExtT rfl (hv 5 (by omega) _ rfl _ rfl) rfl) ⟨s, ⟨_, rfl, rfl⟩, hS, fun _ _ => rfl⟩
    | 9, _ => exact stepV rfl rfl (execAsgB rfl (hv 6 (by omega) _ rfl _ rfl)) ⟨s, ⟨_, rfl, rfl⟩, hS, fun _ _ => rfl⟩
    | 10, _ => exact stepV rfl rfl (execAsgB rfl (hv 7 (by omega) _ rfl _ rfl)) ⟨s, ⟨_, rfl, rfl⟩, hS, fun _ _ => rfl⟩
    | 11, _ => exact stepV rfl rfl (execAsgB rfl (hv 8 (by omega) _ rfl _ rfl)) ⟨s, ⟨_, rfl, rfl⟩, hS, fun _ _ => rfl⟩
    | k_ + 12, h_ => exact absurd h_ (by simp)
  rintro v77 a X10 h1 h2 h3 h4 hS
  replace hS : Below X8.heap.size X8 X10 ∧ (SliceI X10 v77 (allN (fun j => p (k + j)) (l - k) bs m) (fun i => (dA (fun j => p (k + j)) (l - k) bs i : Int))) ∧ (∀ l_ c_, v77 = .slice none l_ c_ → c_ = 0) := hS
  obtain ⟨bX, Fv77, Kv77⟩ := hS
  replace t0 := (h3 0 (by decide)).trans t0
  replace t1 := (h3 1 (by decide)).trans t1
  replace t2 := (h3 2 (by decide)).trans t2
  replace t7 := (h3 7 (by decide)).trans t7
  replace t8 := (h3 8 (by decide)).trans t8
  replace t9 := (h3 9 (by decide)).trans t9
  replace t10 := (h3 10 (by decide)).trans t10
  replace t11 := (h3 11 (by decide)).trans t11
  replace t12 := (h3 12 (by decide)).trans t12
  replace t15 := (h3 15 (by decide)).trans t15
  have t16 : a.eval (.tmp 16) = v77 := h4 9 _ rfl _ rfl
  have t17 : a.eval (.tmp 17) = .int .i64 ((allK (fun j => p (k + j)) (l - k) bs m : Nat) : Int) := h4 10 _ rfl _ rfl
  have t18 : a.eval (.tmp 18) = .int .i64 ((allE (fun j => p (k + j)) (l - k) bs m : Nat) : Int) := h4 11 _ rfl _ rfl
  replace FP := (FP.on bX)
  replace FI := (FI.on bX)
  replace FJ := (FJ.on bX)
  replace Fv30 := (Fv30.on bX)
  replace Kv30 := Kv30
  replace Fv40 := (Fv40.on bX)
  replace Fv41 := (Fv41.on bX)
  replace Kv41 := Kv41
  replace Fv47 := (Fv47.on bX)
  replace Kv47 := Kv47
  replace FZp := (FZp.on bX)
  replace FZs := (FZs.on bX)
  have ZX10 := bX.size
  replace BW := BW.trans (bX.mono BW.size)
  clear bX
  replace A := (⟨h1, h2.trans A.2⟩ : a.tmps.size = 161 ∧ a.defers = [])
  clear h1 h2 h3 h4
  refine wp_seq ?_
  refine wp_seq ?_
  refine wp_region_sq (σ := Unit) 161 [(0, 81), (1, 82)] (fun j_ s X => match j_ with | 0 => Below X10.heap.size X10 X | 1 => Below X10.heap.size X10 X | _ => Below X10.heap.size X10 X) (fun s => fun i_ => match i_ with | 0 => .int .i64 ((allE (fun j => p (k + j)) (l - k) bs m : Nat) : Int) | 1 => .bool true | _ => undef) () A.1 (by kernel_rfl) (by decide) (by decide) (Below.refl _ _) ?_ ?_
  · intro i_ hi_ s a X hf hv hn hS
    match i_, hi_ with
    | 0, _ => exact stepV rfl rfl (execMvB rfl ((hf 18 (by decide)).trans t18)) ⟨s, ⟨_, rfl, rfl⟩, hS, fun _ _ => rfl⟩
    | 1, _ => exact stepV rfl rfl (execDec (execNeE (p := allE (fun j => p (k + j)) (l - k) bs m) (q := 0) rfl (hv 0 (by omega) _ rfl _ rfl) rfl) (decide_eq_true (by exact hG0))) ⟨s, ⟨_, rfl, rfl⟩, hS, fun _ _ => rfl⟩
    | k_ + 2, h_ => exact absurd h_ (by simp)
  rintro _ a X11 h1 h2 h3 h4 hS
  replace hS : Below X10.heap.size X10 X11 := hS
  have bX := hS
  clear hS
  replace t10 := (h3 10 (by decide)).trans t10
  replace t11 := (h3 11 (by decide)).trans t11
  replace t12 := (h3 12 (by decide)).trans t12
  replace t18 := (h3 18 (by decide)).trans t18
  have t82 : a.eval (.tmp 82) = .bool true := h4 1 _ rfl _ rfl
  replace FP := (FP.on bX)
  replace FI := (FI.on bX)
  replace FJ := (FJ.on bX)
  replace Fv30 := (Fv30.on bX)
  replace Kv30 := Kv30
  replace Fv40 := (Fv40.on bX)
  replace Fv41 := (Fv41.on bX)
  replace Kv41 := Kv41
  replace Fv47 := (Fv47.on bX)
  replace Kv47 := Kv47
  replace FZp := (FZp.on bX)
  replace FZs := (FZs.on bX)
  replace Fv77 := (Fv77.on bX)
  replace Kv77 := Kv77
  have ZX11 := bX.size
  replace BW := BW.trans (bX.mono BW.size)
  clear bX
  replace A := (⟨h1, h2.trans A.2⟩ : a.tmps.size = 161 ∧ a.defers = [])
  clear h1 h2 h3 h4
  clear t0 t1 t2 t7 t8 t9 t15 t16 t17
  refine wp_cond_true t82 ?_
  refine wp_seq ?_
  refine wp_region_sq (σ := Unit) 161 [(0, 83), (1, 84), (2, 85), (3, 86), (4, 87), (5, 88), (6, 89), (7, 90), (8, 91), (9, 92), (10, 93), (11, 94), (12, 6)] (fun j_ s X => match j_ with | 0 => Below X11.heap.size X11 X | 1 => Below X11.heap.size X11 X | 2 => Below X11.heap.size X11 X | 3 => Below X11.heap.size X11 X | 4 => Below X11.heap.size X11 X | 5 => Below X11.heap.size X11 X | 6 => Below X11.heap.size X11 X | 7 => Below X11.heap.size X11 X | 8 => Below X11.heap.size X11 X | 9 => Below X11.heap.size X11 X | 10 => Below X11.heap.size X11 X | 11 => Below X11.heap.size X11 X | 12 => Below X11.heap.size X11 X | _ => Below X11.heap.size X11 X) (fun s => fun i_ => match i_ with | 0 => .int .i64 ((allE p l (catI n cs bs) (n + m) : Nat) : Int) | 1 => .int .i64 ((allE (fun j => p (k + j)) (l - k) bs m : Nat) : Int) | 2 => .bool true | 3 => .bool true | 4 => v41 | 5 => .int .i64 ((allN p l (catI n cs bs) (n + m) : Nat) : Int) | 6 => .bool true | 7 => .bool true | 8 => .bool true | 9 => .int .i64 ((allK p l (catI n cs bs) (n + m) : Nat) : Int) | 10 => .bool true | 11 => .bool true | 12 => .bool true | _ => undef) () A.1 (by kernel_rfl) (by decide) (by decide) (Below.refl _ _) ?_ ?_
  · intro i_ hi_ s a X hf hv hn hS
    match i_, hi_ with
    | 0, _ => exact stepV rfl rfl (execMvB rfl ((hf 12 (by decide)).trans t12)) ⟨s, ⟨_, rfl, rfl⟩, hS, fun _ _ => rfl⟩
    | 1, _ => exact stepV rfl rfl (execMvB rfl ((hf 18 (by decide)).trans t18)) ⟨s, ⟨_, rfl, rfl⟩, hS, fun _ _ => rfl⟩
    | 2, _ => exact stepV rfl rfl (execDec (execEqE (p := allE p l (catI n cs bs) (n + m)) (q := allE (fun j => p (k + j)) (l - k) bs m) rfl (hv 0 (by omega) _ rfl _ rfl) (hv 1 (by omega) _ rfl _ rfl)) (decide_eq_true (by exact hEG))) ⟨s, ⟨_, rfl, rfl⟩, hS, fun _ _ => rfl⟩
    | 3, _ => exact stepV rfl rfl (execMvB rfl (hv 2 (by omega) _ rfl _ rfl)) ⟨s, ⟨_, rfl, rfl⟩, hS, fun _ _ => rfl⟩
    | 4, _ => exact stepV rfl (wantedOf rfl (yieldedAt rfl rfl (show a.eval (.tmp 86) = .bool true from (hv 3 (by omega) _ rfl _ rfl)))) (execMvB rfl ((hf 10 (by decide)).trans t10)) ⟨s, ⟨_, rfl, rfl⟩, hS, fun _ _ => rfl⟩
    | 5, _ => exact stepV rfl (wantedOf rfl (yieldedAt rfl rfl (show a.eval (.tmp 86) = .bool true from (hv 3 (by omega) _ rfl _ rfl)))) (execLenI (len := allN p l (catI n cs bs) (n + m)) rfl (hv 4 (by omega) _ rfl _ rfl) ((Fv41.on hS)).shp) ⟨s, ⟨_, rfl, rfl⟩, hS, fun _ _ => rfl⟩
    | 6, _ => exact stepV rfl (wantedOf rfl (yieldedAt rfl rfl (show a.eval (.tmp 86) = .bool true from (hv 3 (by omega) _ rfl _ rfl)))) (execDec (execEqN (p := allN p l (catI n cs bs) (n + m)) (q := 0) rfl (hv 5 (by omega) _ rfl _ rfl) rfl) (decide_eq_true (by exact hN0))) ⟨s, ⟨_, rfl, rfl⟩, hS, fun _ _ => rfl⟩
    | 7, _ => exact stepV rfl rfl (execPickT rfl (hv 3 (by omega) _ rfl _ rfl) (hv 6 (by omega) _ rfl _ rfl)) ⟨s, ⟨_, rfl, rfl⟩, hS, fun _ _ => rfl⟩
    | 8, _ => exact stepV rfl rfl (execMvB rfl (hv 7 (by omega) _ rfl _ rfl)) ⟨s, ⟨_, rfl, rfl⟩, hS, fun _ _ => rfl⟩
    | 9, _ => exact stepV rfl (wantedOf rfl (yieldedAt rfl rfl (show a.eval (.tmp 91) = .bool true from (hv 8 (by omega) _ rfl _ rfl)))) (execMvB rfl ((hf 11 (by decide)).trans t11)) ⟨s, ⟨_, rfl, rfl⟩, hS, fun _ _ => rfl⟩
    | 10, _ => exact stepV rfl (wantedOf rfl (yieldedAt rfl rfl (show a.eval (.tmp 91) = .bool true from (hv 8 (by omega) _ rfl _ rfl)))) (execDec (execEqN (p := allK p l (catI n cs bs) (n + m)) (q := 0) rfl (hv 9 (by omega) _ rfl _ rfl) rfl) (decide_eq_true (by exact hK0))) ⟨s, ⟨_, rfl, rfl⟩, hS, fun _ _ => rfl⟩
    | 11, _ => exact stepV rfl rfl (execPickT rfl (hv 8 (by omega) _ rfl _ rfl) (hv 10 (by omega) _ rfl _ rfl)) ⟨s, ⟨_, rfl, rfl⟩, hS, fun _ _ => rfl⟩
    | 12, _ => exact stepV rfl rfl (execAsgB rfl (hv 11 (by omega) _ rfl _ rfl)) ⟨s, ⟨_, rfl, rfl⟩, hS, fun _ _ => rfl⟩
    | k_ + 13, h_ => exact absurd h_ (by simp)
  rintro _ a X12 h1 h2 h3 h4 hS
  replace hS : Below X11.heap.size X11 X12 := hS
  have bX := hS
  clear hS
  have t6 : a.eval (.tmp 6) = .bool true := h4 12 _ rfl _ rfl
  replace FP := (FP.on bX)
  replace FI := (FI.on bX)
  replace FJ := (FJ.on bX)
  replace Fv30 := (Fv30.on bX)
  replace Kv30 := Kv30
  replace Fv40 := (Fv40.on bX)
  replace Fv41 := (Fv41.on bX)
  replace Kv41 := Kv41
  replace Fv47 := (Fv47.on bX)
  replace Kv47 := Kv47
  replace FZp := (FZp.on bX)
  replace FZs := (FZs.on bX)
  replace Fv77 := (Fv77.on bX)
  replace Kv77 := Kv77
  have ZX12 := bX.size
  replace BW := BW.trans (bX.mono BW.size)
  clear bX
  replace A := (⟨h1, h2.trans A.2⟩ : a.tmps.size = 161 ∧ a.defers = [])
  clear h1 h2 h3 h4
  clear t10 t11 t12 t18
  refine wp_ret ?_
  refine ret_then ?_
  refine bodyPost_ret (results_tmp rfl _ _ _) A.2 ⟨?_, BW⟩
  show Ending.returned (a.eval (.tmp 6)) = _
  rw [t6]
set_option maxRecDepth 100000 in
set_option maxHeartbeats 4000000 in
theorem pieces_both (I : Impl) (p : Nat → Nat) (l : Nat) (cs bs : Nat → Int) (n m : Nat) (pv av bv : Value) (V : World) (hp : SliceN V pv l p) (hl : l ≤ 1048576) (hz : ∀ l c, pv = .slice none l c → c = 0) (hb : SliceI V av n cs) (hn17 : n ≤ 1048576) (hza : ∀ l c, av = .slice none l c → c = 0) (hwv : SliceI V bv m bs) (hm17 : m ≤ 1048576) (hzb : ∀ l c, bv = .slice none l c → c = 0) (hE0 : allE p l cs n = 0) (hG : allE (fun j => p (plA p l cs n + j)) (l - plA p l cs n) bs m = 0) : Calls Try.prog 7 #[pv, av, bv] V fun e w' => e = .returned (.bool true) ∧ Below V.heap.size V w' := by
  have FP := hp
  have FI := hb
  have FJ := hwv
  have hpb := hp.bytes
  obtain ⟨heE, heP, heD⟩ := pieces_ok hE0 hG
  obtain ⟨hsE, hsP, hsD⟩ := all_like hE0 (q := p) (l' := plA p l cs n) (fun _ _ => rfl) (Nat.le_refl _)
  obtain ⟨hlE, hlP, hlD⟩ := all_like hE0 (q := cat2 l p l7) (l' := l + 3) (fun j hj => cat2_lo (Nat.lt_of_lt_of_le hj (plA_le p l cs n))) (Nat.le_trans (plA_le p l cs n) (by omega))
  obtain ⟨k, ek⟩ : ∃ k, plA p l cs n = k := ⟨_, rfl⟩
  have hkl : k ≤ l := ek ▸ plA_le p l cs n
  have hAK : allK p l cs n = k := (if_pos hE0).trans ek
  have hAN : allN p l cs n = n := if_pos hE0
  rw [ek] at hG heP heD hsE hsP hsD hlP
  have heN : allN p l (catI n cs bs) (n + m) = n + m := if_pos heE
  have hcN : allN (fun j => p (k + j)) (l - k) bs m = m := if_pos hG
  have hsN : allN p k cs n = n := if_pos hsE
  have hlN : allN (cat2 l p l7) (l + 3) cs n = n := if_pos hlE
  have heK : allK p l (catI n cs bs) (n + m) = k + allK (fun j => p (k + j)) (l - k) bs m := (if_pos heE).trans (heP.trans (congrArg (k + ·) (if_pos hG).symm))
  have hsK : allK p k cs n = k := (if_pos hsE).trans hsP
  have hlK : allK (cat2 l p l7) (l + 3) cs n = k := (if_pos hlE).trans hlP
  have hcl : allK (fun j => p (k + j)) (l - k) bs m ≤ l - k := by
    rw [show allK (fun j => p (k + j)) (l - k) bs m = _ from if_pos hG]
    exact plA_le _ _ _ _
  go_enter Try.func7, Try.ntmps7
  refine wp_seq ?_
  refine wp_region_sqK 161 [(0, 6)] (fun i_ => match i_ with | 0 => .bool false | _ => undef) rfl (by kernel_rfl) (by decide) (by decide) ?_ ?_
  · intro i_ hi_ a hf hv hn
    match i_, hi_ with
    | 0, _ => exact stepV rfl rfl (execAsgB rfl rfl) ⟨⟨_, rfl, rfl⟩, rfl⟩
    | k_ + 1, h_ => exact absurd h_ (by simp)
  intro a h1 h2 h3 h4
  have t0 : a.eval (.tmp 0) = pv := (h3 0 (by decide)).trans rfl
  have t1 : a.eval (.tmp 1) = av := (h3 1 (by decide)).trans rfl
  have t2 : a.eval (.tmp 2) = bv := (h3 2 (by decide)).trans rfl
  have A : a.tmps.size = 161 ∧ a.defers = [] := ⟨h1, h2⟩
  have BW : Below V.heap.size V V := Below.refl _ _
  clear h1 h2 h3 h4
  refine wp_seq ?_
  refine wp_seq ?_
  refine wp_region_sq (σ := Unit) 161 [(0, 25), (1, 26)] (fun j_ s X => match j_ with | 0 => Below V.heap.size V X | 1 => Below V.heap.size V X | _ => Below V.heap.size V X) (fun s => fun i_ => match i_ with | 0 => .bool true | 1 => .bool false | _ => undef) () A.1 (by kernel_rfl) (by decide) (by decide) (Below.refl _ _) ?_ ?_
  · intro i_ hi_ s a X hf hv hn hS
    match i_, hi_ with
    | 0, _ => exact stepC rfl rfl (execCall0 Try.func9 (by kernel_rfl) (by kernel_rfl) rfl ) (alive10 I X) fun e w' hh => ⟨_, hh.1, s, ⟨_, rfl, rfl⟩, (hS).trans ((hh.2).mono (hS).size), fun _ _ => rfl⟩
    | 1, _ => exact stepV rfl rfl (execNot8 rfl (hv 0 (by omega) _ rfl _ rfl)) ⟨s, ⟨_, rfl, rfl⟩, hS, fun _ _ => rfl⟩
    | k_ + 2, h_ => exact absurd h_ (by simp)
  rintro _ a X1 h1 h2 h3 h4 hS
  replace hS : Below V.heap.size V X1 := hS
  have bX := hS
  clear hS
  replace t0 := (h3 0 (by decide)).trans t0
  replace t1 := (h3 1 (by decide)).trans t1
  replace t2 := (h3 2 (by decide)).trans t2
  have t26 : a.eval (.tmp 26) = .bool false := h4 1 _ rfl _ rfl
  replace FP := (FP.on bX)
  replace FI := (FI.on bX)
  replace FJ := (FJ.on bX)
  have ZX1 := bX.size
  replace BW := BW.trans (bX.mono BW.size)
  clear bX
  replace A := (⟨h1, h2.trans A.2⟩ : a.tmps.size = 161 ∧ a.defers = [])
  clear h1 h2 h3 h4
  refine wp_cond_false t26 ?_
  refine wp_skip ?_
  clear t26
  refine wp_seq ?_
  refine wp_region_sq (σ := Value) 161 [(0, 28), (1, 29), (2, 30), (3, 27), (4, 31), (5, 32), (6, 33), (7, 7), (8, 8), (9, 9)] (fun j_ s X => match j_ with | 0 => Below X1.heap.size X1 X | 1 => Below X1.heap.size X1 X | 2 => Below X1.heap.size X1 X | 3 => Below X1.heap.size X1 X ∧ (SliceI X s (allN p l cs n) (fun i => (dA p l cs i : Int))) ∧ (∀ l_ c_, s = .slice none l_ c_ → c_ = 0) | 4 => Below X1.heap.size X1 X ∧ (SliceI X s (allN p l cs n) (fun i => (dA p l cs i : Int))) ∧ (∀ l_ c_, s = .slice none l_ c_ → c_ = 0) | 5 => Below X1.heap.size X1 X ∧ (SliceI X s (allN p l cs n) (fun i => (dA p l cs i : Int))) ∧ (∀ l_ c_, s = .slice none l_ c_ → c_ = 0) | 6 => Below X1.heap.size X1 X ∧ (SliceI X s (allN p l cs n) (fun i => (dA p l cs i : Int))) ∧ (∀ l_ c_, s = .slice none l_ c_ → c_ = 0) | 7 => Below X1.heap.size X1 X ∧ (SliceI X s (allN p l cs n) (fun i => (dA p l cs i : Int))) ∧ (∀ l_ c_, s = .slice none l_ c_ → c_ = 0) | 8 => Below X1.heap.size X1 X ∧ (SliceI X s (allN p l cs n) (fun i => (dA p l cs i : Int))) ∧ (∀ l_ c_, s = .slice none l_ c_ → c_ = 0) | 9 => Below X1.heap.size X1 X ∧ (SliceI X s (allN p l cs n) (fun i => (dA p l cs i : Int))) ∧ (∀ l_ c_, s = .slice none l_ c_ → c_ = 0) | _ => Below X1.heap.size X1 X ∧ (SliceI X s (allN p l cs n) (fun i => (dA p l cs i : Int))) ∧ (∀ l_ c_, s = .slice none l_ c_ → c_ = 0)) (fun s => fun i_ => match i_ with | 0 => pv | 1 => av | 2 => .tuple #[s, .int .i64 ((allK p l cs n : Nat) : Int), .int .i64 ((allE p l cs n : Nat) : Int)] | 3 => .tuple #[s, .int .i64 ((allK p l cs n : Nat) : Int), .int .i64 ((allE p l cs n : Nat) : Int)] | 4 => s | 5 => .int .i64 ((allK p l cs n : Nat) : Int) | 6 => .int .i64 ((allE p l cs n : Nat) : Int) | 7 => s | 8 => .int .i64 ((allK p l cs n : Nat) : Int) | 9 => .int .i64 ((allE p l cs n : Nat) : Int) | _ => undef) undef A.1 (by kernel_rfl) (by decide) (by decide) (Below.refl _ _) ?_ ?_
  · intro i_ hi_ s a X hf hv hn hS
    match i_, hi_ with
    | 0, _ => exact stepV rfl rfl (execMvB rfl ((hf 0 (by decide)).trans t0)) ⟨s, ⟨_, rfl, rfl⟩, hS, fun _ _ => rfl⟩
    | 1, _ => exact stepV rfl rfl (execMvB rfl ((hf 1 (by decide)).trans t1)) ⟨s, ⟨_, rfl, rfl⟩, hS, fun _ _ => rfl⟩
    | 2, _ =>
      refine stepC rfl rfl (execCall2 Try.func17 (by kernel_rfl) (by kernel_rfl) rfl (hv 0 (by omega) _ rfl _ rfl) (hv 1 (by omega) _ rfl _ rfl)) (I.all p l cs n _ _ X (FP.on hS) (by omega) (FI.on hS) (by omega)) fun e w' hh => ?_
      obtain ⟨r_, he, hk, hb⟩ := hh
      refine ⟨_, he, r_, ⟨_, rfl, rfl⟩, ⟨(hS).trans ((hb).mono (hS).size), own_ints hk (dA_fits _ _ _ _), own_nilI hk⟩, fun i hi => ?_⟩
      match i, hi with
      | 0, _ => rfl
      | 1, _ => rfl
      | n_ + 2, h_ => omega
    | 3, _ => exact stepV rfl rfl (execMvB rfl (hv 2 (by omega) _ rfl _ rfl)) ⟨s, ⟨_, rfl, rfl⟩, hS, fun _ _ => rfl⟩
    | 4, _ => exact stepV rfl rfl (execExtT rfl (hv 3 (by omega) _ rfl _ rfl) rfl) ⟨s, ⟨_, rfl, rfl⟩, hS, fun _ _ => rfl⟩
    | 5, _ => exact stepV rfl rfl (execExtT rfl (hv 3 (by omega) _ rfl _ rfl) rfl) ⟨s, ⟨_, rfl, rfl⟩, hS, fun _ _ => rfl⟩
    | 6, _ => exact stepV rfl rfl (execExtT rfl (hv 3 (by omega) _ rfl _ rfl) rfl) ⟨s, ⟨_, rfl, rfl⟩, hS, fun _ _ => rfl⟩
    | 7, _ => exact stepV rfl rfl (execAsgB rfl (hv 4 (by omega) _ rfl _ rfl)) ⟨s, ⟨_, rfl, rfl⟩, hS, fun _ _ => rfl⟩
    | 8, _ => exact stepV rfl rfl (execAsgB rfl (hv 5 (by omega) _ rfl _ rfl)) ⟨s, ⟨_, rfl, rfl⟩, hS, fun _ _ => rfl⟩
    | 9, _ => exact stepV rfl rfl (execAsgB rfl (hv 6 (by omega) _ rfl _ rfl)) ⟨s, ⟨_, rfl, rfl⟩, hS, fun _ _ => rfl⟩
    | k_ + 10, h_ => exact absurd h_ (by simp)
  rintro v30 a X3 h1 h2 h3 h4 hS
  replace hS : Below X1.heap.size X1 X3 ∧ (SliceI X3 v30 (allN p l cs n) (fun i => (dA p l cs i : Int))) ∧ (∀ l_ c_, v30 = .slice none l_ c_ → c_ = 0) := hS
  obtain ⟨bX, Fv30, Kv30⟩ := hS
  replace t0 := (h3 0 (by decide)).trans t0
  replace t1 := (h3 1 (by decide)).trans t1
  replace t2 := (h3 2 (by decide)).trans t2
  have t7 : a.eval (.tmp 7) = v30 := h4 7 _ rfl _ rfl
  have t8 : a.eval (.tmp 8) = .int .i64 ((allK p l cs n : Nat) : Int) := h4 8 _ rfl _ rfl
  have t9 : a.eval (.tmp 9) = .int .i64 ((allE p l cs n : Nat) : Int) := h4 9 _ rfl _ rfl
  replace FP := (FP.on bX)
  replace FI := (FI.on bX)
  replace FJ := (FJ.on bX)
  have ZX3 := bX.size
  replace BW := BW.trans (bX.mono BW.size)
  clear bX
  replace A := (⟨h1, h2.trans A.2⟩ : a.tmps.size = 161 ∧ a.defers = [])
  clear h1 h2 h3 h4
  refine wp_seq ?_
  refine wp_region_sq (σ := Nat × Value × Value × Value) 161 [(0, 35), (1, 36), (2, 37), (3, 38), (4, 39), (5, 40), (6, 41), (7, 34), (8, 42), (9, 43), (10, 44), (11, 10), (12, 11), (13, 12)] (fun j_ s X => match j_ with | 0 => Below X3.heap.size X3 X | 1 => Below X3.heap.size X3 X | 2 => Below X3.heap.size X3 X ∧ X.ownsRow (X3.heap.size) 3 1 (.slice (some ⟨s.1, 0, none⟩) 0 0) (0) (intsL 0 (fun _ => 0)) | 3 => Below X3.heap.size X3 X ∧ X.ownsRow (X3.heap.size) 3 1 (.slice (some ⟨s.1, 0, none⟩) 0 0) (0) (intsL 0 (fun _ => 0)) | 4 => Below X3.heap.size X3 X ∧ X.ownsRow (X3.heap.size) 3 1 s.2.1 (n) (intsL (n) (cs)) | 5 => Below X3.heap.size X3 X ∧ X.ownsRow (X3.heap.size) 3 1 s.2.1 (n) (intsL (n) (cs)) | 6 => Below X3.heap.size X3 X ∧ (SliceI X s.2.2.1 (n + m) (catI n cs bs)) | 7 => Below X3.heap.size X3 X ∧ (SliceI X s.2.2.1 (n + m) (catI n cs bs)) ∧ (SliceI X s.2.2.2 (allN p l (catI n cs bs) (n + m)) (fun i => (dA p l (catI n cs bs) i : Int))) ∧ (∀ l_ c_, s.2.2.2 = .slice none l_ c_ → c_ = 0) | 8 => Below X3.heap.size X3 X ∧ (SliceI X s.2.2.1 (n + m) (catI n cs bs)) ∧ (SliceI X s.2.2.2 (allN p l (catI n cs bs) (n + m)) (fun i => (dA p l (catI n cs bs) i : Int))) ∧ (∀ l_ c_, s.2.2.2 = .slice none l_ c_ → c_ = 0) | 9 => Below X3.heap.size X3 X ∧ (SliceI X s.2.2.1 (n + m) (catI n cs bs)) ∧ (SliceI X s.2.2.2 (allN p l (catI n cs bs) (n + m)) (fun i => (dA p l (catI n cs bs) i : Int))) ∧ (∀ l_ c_, s.2.2.2 = .slice none l_ c_ → c_ = 0) | 10 => Below X3.heap.size X3 X ∧ (SliceI X s.2.2.1 (n + m) (catI n cs bs)) ∧ (SliceI X s.2.2.2 (allN p l (catI n cs bs) (n + m)) (fun i => (dA p l (catI n cs bs) i : Int))) ∧ (∀ l_ c_, s.2.2.2 = .slice none l_ c_ → c_ = 0) | 11 => Below X3.heap.size X3 X ∧ (SliceI X s.2.2.1 (n + m) (catI n cs bs)) ∧ (SliceI X s.2.2.2 (allN p l (catI n cs bs) (n + m)) (fun i => (dA p l (catI n cs bs) i : Int))) ∧ (∀ l_ c_, s.2.2.2 = .slice none l_ c_ → c_ = 0) | 12 => Below X3.heap.size X3 X ∧ (SliceI X s.2.2.1 (n + m) (catI n cs bs)) ∧ (SliceI X s.2.2.2 (allN p l (catI n cs bs) (n + m)) (fun i => (dA p l (catI n cs bs) i : Int))) ∧ (∀ l_ c_, s.2.2.2 = .slice none l_ c_ → c_ = 0) | 13 => Below X3.heap.size X3 X ∧ (SliceI X s.2.2.1 (n + m) (catI n cs bs)) ∧ (SliceI X s.2.2.2 (allN p l (catI n cs bs) (n + m)) (fun i => (dA p l (catI n cs bs) i : Int))) ∧ (∀ l_ c_, s.2.2.2 = .slice none l_ c_ → c_ = 0) | _ => Below X3.heap.size X3 X ∧ (SliceI X s.2.2.1 (n + m) (catI n cs bs)) ∧ (SliceI X s.2.2.2 (allN p l (catI n cs bs) (n + m)) (fun i => (dA p l (catI n cs bs) i : Int))) ∧ (∀ l_ c_, s.2.2.2 = .slice none l_ c_ → c_ = 0)) (fun s => fun i_ => match i_ with | 0 => pv | 1 => .slice (some ⟨s.1, 0, none⟩) 0 0 | 2 => av | 3 => s.2.1 | 4 => bv | 5 => s.2.2.1 | 6 => .tuple #[s.2.2.2, .int .i64 ((allK p l (catI n cs bs) (n + m) : Nat) : Int), .int .i64 ((allE p l (catI n cs bs) (n + m) : Nat) : Int)] | 7 => .tuple #[s.2.2.2, .int .i64 ((allK p l (catI n cs bs) (n + m) : Nat) : Int), .int .i64 ((allE p l (catI n cs bs) (n + m) : Nat) : Int)] | 8 => s.2.2.2 | 9 => .int .i64 ((allK p l (catI n cs bs) (n + m) : Nat) : Int) | 10 => .int .i64 ((allE p l (catI n cs bs) (n + m) : Nat) : Int) | 11 => s.2.2.2 | 12 => .int .i64 ((allK p l (catI n cs bs) (n + m) : Nat) : Int) | 13 => .int .i64 ((allE p l (catI n cs bs) (n + m) : Nat) : Int) | _ => undef) (0, undef, undef, undef) A.1 (by kernel_rfl) (by decide) (by decide) (Below.refl _ _) ?_ ?_
  · intro i_ hi_ s a X hf hv hn hS
    match i_, hi_ with
    | 0, _ => exact stepV rfl rfl (execMvB rfl ((hf 0 (by decide)).trans t0)) ⟨s, ⟨_, rfl, rfl⟩, hS, fun _ _ => rfl⟩
    | 1, _ =>
      refine stepV rfl rfl (execBs0I rfl) ⟨(X.heap.size, s.2.1, s.2.2.1, s.2.2.2), ⟨_, rfl, rfl⟩, ⟨(hS).trans (((belNew X _)).mono (hS).size), ownD_base (own_noneI X _) (hS).size⟩, fun i hi => ?_⟩
      match i, hi with
      | 0, _ => rfl
      | n_ + 1, h_ => omega
    | 2, _ => exact stepV rfl rfl (execMvB rfl ((hf 1 (by decide)).trans t1)) ⟨s, ⟨_, rfl, rfl⟩, hS, fun _ _ => rfl⟩
    | 3, _ =>
      refine stepAppIs (f := fun _ => 0) (g := cs) rfl rfl rfl (hv 1 (by omega) _ rfl _ rfl) (hv 2 (by omega) _ rfl _ rfl) hS.2 (FI.on hS.1) hza (by omega) (hS.1).size fun v' W' own' gr => ⟨(s.1, v', s.2.2.1, s.2.2.2), ⟨_, rfl, rfl⟩, ⟨(hS.1).grown gr (hS.1).size (fun k hk => (hS.2.lt k hk).1), own_cat0 own'⟩, fun i hi => ?_⟩
      match i, hi with
      | 0, _ => rfl
      | 1, _ => rfl
      | 2, _ => rfl
      | n_ + 3, h_ => omega
    | 4, _ => exact stepV rfl rfl (execMvB rfl ((hf 2 (by decide)).trans t2)) ⟨s, ⟨_, rfl, rfl⟩, hS, fun _ _ => rfl⟩
    | 5, _ =>
      refine stepAppIs (f := cs) (g := bs) rfl rfl rfl (hv 3 (by omega) _ rfl _ rfl) (hv 4 (by omega) _ rfl _ rfl) hS.2 (FJ.on hS.1) hzb (by omega) (hS.1).size fun v' W' own' gr => ⟨(s.1, s.2.1, v', s.2.2.2), ⟨_, rfl, rfl⟩, ⟨(hS.1).grown gr (hS.1).size (fun k hk => (hS.2.lt k hk).1), own_ints own' (catI_fits hb.fits hwv.fits)⟩, fun i hi => ?_⟩
      match i, hi with
      | 0, _ => rfl
      | 1, _ => rfl
      | 2, _ => rfl
      | 3, _ => rfl
      | 4, _ => rfl
      | n_ + 5, h_ => omega
    | 6, _ =>
      refine stepC rfl rfl (execCall2 Try.func17 (by kernel_rfl) (by kernel_rfl) rfl (hv 0 (by omega) _ rfl _ rfl) (hv 5 (by omega) _ rfl _ rfl)) (I.all p l (catI n cs bs) (n + m) _ _ X (FP.on hS.1) (by omega) hS.2 (by omega)) fun e w' hh => ?_
      obtain ⟨r_, he, hk, hb⟩ := hh
      refine ⟨_, he, (s.1, s.2.1, s.2.2.1, r_), ⟨_, rfl, rfl⟩, ⟨(hS.1).trans ((hb).mono (hS.1).size), (hS.2.on hb), own_ints hk (dA_fits _ _ _ _), own_nilI hk⟩, fun i hi => ?_⟩
      match i, hi with
      | 0, _ => rfl
      | 1, _ => rfl
      | 2, _ => rfl
      | 3, _ => rfl
      | 4, _ => rfl
      | 5, _ => rfl
      | n_ + 6, h_ => omega
    | 7, _ => exact stepV rfl rfl (execMvB rfl (hv 6 (by omega) _ rfl _ rfl)) ⟨s, ⟨_, rfl, rfl⟩, hS, fun _ _ => rfl⟩
    | 8, _ => exact stepV rfl rfl (execExtT rfl (hv 7 (by omega) _ rfl _ rfl) rfl) ⟨s, ⟨_, rfl, rfl⟩, hS, fun _ _ => rfl⟩
    | 9, _ => exact stepV rfl rfl (execExtT rfl (hv 7 (by omega) _ rfl _ rfl) rfl) ⟨s, ⟨_, rfl, rfl⟩, hS, fun _ _ => rfl⟩
    | 10, _ => exact stepV rfl rfl (execExtT rfl (hv 7 (by omega) _ rfl _ rfl) rfl) ⟨s, ⟨_, rfl, rfl⟩, hS, fun _ _ => rfl⟩
    | 11, _ => exact stepV rfl rfl (execAsgB rfl (hv 8 (by omega) _ rfl _ rfl)) ⟨s, ⟨_, rfl, rfl⟩, hS, fun _ _ => rfl⟩
    | 12, _ => exact stepV rfl rfl (execAsgB rfl (hv 9 (by omega) _ rfl _ rfl)) ⟨s, ⟨_, rfl, rfl⟩, hS, fun _ _ => rfl⟩
    | 13, _ => exact stepV rfl rfl (execAsgB rfl (hv 10 (by omega) _ rfl _ rfl)) ⟨s, ⟨_, rfl, rfl⟩, hS, fun _ _ => rfl⟩
    | k_ + 14, h_ => exact absurd h_ (by simp)
  rintro ⟨g36, v38, v40, v41⟩ a X4 h1 h2 h3 h4 hS
  replace hS : Below X3.heap.size X3 X4 ∧ (SliceI X4 v40 (n + m) (catI n cs bs)) ∧ (SliceI X4 v41 (allN p l (catI n cs bs) (n + m)) (fun i => (dA p l (catI n cs bs) i : Int))) ∧ (∀ l_ c_, v41 = .slice none l_ c_ → c_ = 0) := hS
  obtain ⟨bX, Fv40, Fv41, Kv41⟩ := hS
  replace t0 := (h3 0 (by decide)).trans t0
  replace t1 := (h3 1 (by decide)).trans t1
  replace t2 := (h3 2 (by decide)).trans t2
  replace t7 := (h3 7 (by decide)).trans t7
  replace t8 := (h3 8 (by decide)).trans t8
  replace t9 := (h3 9 (by decide)).trans t9
  have t10 : a.eval (.tmp 10) = v41 := h4 11 _ rfl _ rfl
  have t11 : a.eval (.tmp 11) = .int .i64 ((allK p l (catI n cs bs) (n + m) : Nat) : Int) := h4 12 _ rfl _ rfl
  have t12 : a.eval (.tmp 12) = .int .i64 ((allE p l (catI n cs bs) (n + m) : Nat) : Int) := h4 13 _ rfl _ rfl
  replace FP := (FP.on bX)
  replace FI := (FI.on bX)
  replace FJ := (FJ.on bX)
  replace Fv30 := (Fv30.on bX)
  replace Kv30 := Kv30
  have ZX4 := bX.size
  replace BW := BW.trans (bX.mono BW.size)
  clear bX
  replace A := (⟨h1, h2.trans A.2⟩ : a.tmps.size = 161 ∧ a.defers = [])
  clear h1 h2 h3 h4
  refine wp_seq ?_
  refine wp_region_sq (σ := Value) 161 [(0, 46), (1, 47), (2, 45), (3, 48), (4, 49), (5, 50), (6, 13), (7, 14), (8, 15)] (fun j_ s X => match j_ with | 0 => Below X4.heap.size X4 X | 1 => Below X4.heap.size X4 X | 2 => Below X4.heap.size X4 X ∧ (SliceI X s (allN p 0 bs m) (fun i => (dA p 0 bs i : Int))) ∧ (∀ l_ c_, s = .slice none l_ c_ → c_ = 0) | 3 => Below X4.heap.size X4 X ∧ (SliceI X s (allN p 0 bs m) (fun i => (dA p 0 bs i : Int))) ∧ (∀ l_ c_, s = .slice none l_ c_ → c_ = 0) | 4 => Below X4.heap.size X4 X ∧ (SliceI X s (allN p 0 bs m) (fun i => (dA p 0 bs i : Int))) ∧ (∀ l_ c_, s = .slice none l_ c_ → c_ = 0) | 5 => Below X4.heap.size X4 X ∧ (SliceI X s (allN p 0 bs m) (fun i => (dA p 0 bs i : Int))) ∧ (∀ l_ c_, s = .slice none l_ c_ → c_ = 0) | 6 => Below X4.heap.size X4 X ∧ (SliceI X s (allN p 0 bs m) (fun i => (dA p 0 bs i : Int))) ∧ (∀ l_ c_, s = .slice none l_ c_ → c_ = 0) | 7 => Below X4.heap.size X4 X ∧ (SliceI X s (allN p 0 bs m) (fun i => (dA p 0 bs i : Int))) ∧ (∀ l_ c_, s = .slice none l_ c_ → c_ = 0) | 8 => Below X4.heap.size X4 X ∧ (SliceI X s (allN p 0 bs m) (fun i => (dA p 0 bs i : Int))) ∧ (∀ l_ c_, s = .slice none l_ c_ → c_ = 0) | _ => Below X4.heap.size X4 X ∧ (SliceI X s (allN p 0 bs m) (fun i => (dA p 0 bs i : Int))) ∧ (∀ l_ c_, s = .slice none l_ c_ → c_ = 0)) (fun s => fun i_ => match i_ with | 0 => bv | 1 => .tuple #[s, .int .i64 ((allK p 0 bs m : Nat) : Int), .int .i64 ((allE p 0 bs m : Nat) : Int)] | 2 => .tuple #[s, .int .i64 ((allK p 0 bs m : Nat) : Int), .int .i64 ((allE p 0 bs m : Nat) : Int)] | 3 => s | 4 => .int .i64 ((allK p 0 bs m : Nat) : Int) | 5 => .int .i64 ((allE p 0 bs m : Nat) : Int) | 6 => s | 7 => .int .i64 ((allK p 0 bs m : Nat) : Int) | 8 => .int .i64 ((allE p 0 bs m : Nat) : Int) | _ => undef) undef A.1 (by kernel_rfl) (by decide) (by decide) (Below.refl _ _) ?_ ?_
  · intro i_ hi_ s a X hf hv hn hS
    match i_, hi_ with
    | 0, _ => exact stepV rfl rfl (execMvB rfl ((hf 2 (by decide)).trans t2)) ⟨s, ⟨_, rfl, rfl⟩, hS, fun _ _ => rfl⟩
    | 1, _ =>
      refine stepC rfl rfl (execCall2 Try.func17 (by kernel_rfl) (by kernel_rfl) rfl rfl (hv 0 (by omega) _ rfl _ rfl)) (I.all p 0 bs m _ _ X slice_nilN (by omega) (FJ.on hS) (by omega)) fun e w' hh => ?_
      obtain ⟨r_, he, hk, hb⟩ := hh
      refine ⟨_, he, r_, ⟨_, rfl, rfl⟩, ⟨(hS).trans ((hb).mono (hS).size), own_ints hk (dA_fits _ _ _ _), own_nilI hk⟩, fun i hi => ?_⟩
      match i, hi with
      | 0, _ => rfl
      | n_ + 1, h_ => omega
    | 2, _ => exact stepV rfl rfl (execMvB rfl (hv 1 (by omega) _ rfl _ rfl)) ⟨s, ⟨_, rfl, rfl⟩, hS, fun _ _ => rfl⟩
    | 3, _ => exact stepV rfl rfl (execExtT rfl (hv 2 (by omega) _ rfl _ rfl) rfl) ⟨s, ⟨_, rfl, rfl⟩, hS, fun _ _ => rfl⟩
    | 4, _ => exact stepV rfl rfl (execExtT rfl (hv 2 (by omega) _ rfl _ rfl) rfl) ⟨s, ⟨_, rfl, rfl⟩, hS, fun _ _ => rfl⟩
    | 5, _ => exact stepV rfl rfl (execExtT rfl (hv 2 (by omega) _ rfl _ rfl) rfl) ⟨s, ⟨_, rfl, rfl⟩, hS, fun _ _ => rfl⟩
    | 6, _ => exact stepV rfl rfl (execAsgB rfl (hv 3 (by omega) _ rfl _ rfl)) ⟨s, ⟨_, rfl, rfl⟩, hS, fun _ _ => rfl⟩
    | 7, _ => exact stepV rfl rfl (execAsgB rfl (hv 4 (by omega) _ rfl _ rfl)) ⟨s, ⟨_, rfl, rfl⟩, hS, fun _ _ => rfl⟩
    | 8, _ => exact stepV rfl rfl (execAsgB rfl (hv 5 (by omega) _ rfl _ rfl)) ⟨s, ⟨_, rfl, rfl⟩, hS, fun _ _ => rfl⟩
    | k_ + 9, h_ => exact absurd h_ (by simp)
  rintro v47 a X5 h1 h2 h3 h4 hS
  replace hS : Below X4.heap.size X4 X5 ∧ (SliceI X5 v47 (allN p 0 bs m) (fun i => (dA p 0 bs i : Int))) ∧ (∀ l_ c_, v47 = .slice none l_ c_ → c_ = 0) := hS
  obtain ⟨bX, Fv47, Kv47⟩ := hS
  replace t0 := (h3 0 (by decide)).trans t0
  replace t1 := (h3 1 (by decide)).trans t1
  replace t2 := (h3 2 (by decide)).trans t2
  replace t7 := (h3 7 (by decide)).trans t7
  replace t8 := (h3 8 (by decide)).trans t8
  replace t9 := (h3 9 (by decide)).trans t9
  replace t10 := (h3 10 (by decide)).trans t10
  replace t11 := (h3 11 (by decide)).trans t11
  replace t12 := (h3 12 (by decide)).trans t12
  have t15 : a.eval (.tmp 15) = .int .i64 ((allE p 0 bs m : Nat) : Int) := h4 8 _ rfl _ rfl
  replace FP := (FP.on bX)
  replace FI := (FI.on bX)
  replace FJ := (FJ.on bX)
  replace Fv30 := (Fv30.on bX)
  replace Kv30 := Kv30
  replace Fv40 := (Fv40.on bX)
  replace Fv41 := (Fv41.on bX)
  replace Kv41 := Kv41
  have ZX5 := bX.size
  replace BW := BW.trans (bX.mono BW.size)
  clear bX
  replace A := (⟨h1, h2.trans A.2⟩ : a.tmps.size = 161 ∧ a.defers = [])
  clear h1 h2 h3 h4
  refine wp_seq ?_
  refine wp_seq ?_
  refine wp_region_sq (σ := Unit) 161 [(0, 51), (1, 52)] (fun j_ s X => match j_ with | 0 => Below X5.heap.size X5 X | 1 => Below X5.heap.size X5 X | _ => Below X5.heap.size X5 X) (fun s => fun i_ => match i_ with | 0 => .int .i64 ((allE p l cs n : Nat) : Int) | 1 => .bool false | _ => undef) () A.1 (by kernel_rfl) (by decide) (by decide) (Below.refl _ _) ?_ ?_
  · intro i_ hi_ s a X hf hv hn hS
    match i_, hi_ with
    | 0, _ => exact stepV rfl rfl (execMvB rfl ((hf 9 (by decide)).trans t9)) ⟨s, ⟨_, rfl, rfl⟩, hS, fun _ _ => rfl⟩
    | 1, _ => exact stepV rfl rfl (execDec (execNeE (p := allE p l cs n) (q := 0) rfl (hv 0 (by omega) _ rfl _ rfl) rfl) (decide_eq_false (by omega))) ⟨s, ⟨_, rfl, rfl⟩, hS, fun _ _ => rfl⟩
    | k_ + 2, h_ => exact absurd h_ (by simp)
  rintro _ a X6 h1 h2 h3 h4 hS
  replace hS : Below X5.heap.size X5 X6 := hS
  have bX := hS
  clear hS
  replace t0 := (h3 0 (by decide)).trans t0
  replace t1 := (h3 1 (by decide)).trans t1
  replace t2 := (h3 2 (by decide)).trans t2
  replace t7 := (h3 7 (by decide)).trans t7
  replace t8 := (h3 8 (by decide)).trans t8
  replace t9 := (h3 9 (by decide)).trans t9
  replace t10 := (h3 10 (by decide)).trans t10
  replace t11 := (h3 11 (by decide)).trans t11
  replace t12 := (h3 12 (by decide)).trans t12
  replace t15 := (h3 15 (by decide)).trans t15
  have t52 : a.eval (.tmp 52) = .bool false := h4 1 _ rfl _ rfl
  replace FP := (FP.on bX)
  replace FI := (FI.on bX)
  replace FJ := (FJ.on bX)
  replace Fv30 := (Fv30.on bX)
  replace Kv30 := Kv30
  replace Fv40 := (Fv40.on bX)
  replace Fv41 := (Fv41.on bX)
  replace Kv41 := Kv41
  replace Fv47 := (Fv47.on bX)
  replace Kv47 := Kv47
  have ZX6 := bX.size
  replace BW := BW.trans (bX.mono BW.size)
  clear bX
  replace A := (⟨h1, h2.trans A.2⟩ : a.tmps.size = 161 ∧ a.defers = [])
  clear h1 h2 h3 h4
  refine wp_cond_false t52 ?_
  refine wp_skip ?_
  clear t52
  rw [hAK] at t8
  rw [hAN] at Fv30
  refine wp_seq ?_
  refine wp_seq ?_
  refine wp_region_sq (σ := Unit) 161 [(0, 64), (1, 65), (2, 66), (3, 67), (4, 68), (5, 69), (6, 70), (7, 71)] (fun j_ s X => match j_ with | 0 => Below X6.heap.size X6 X | 1 => Below X6.heap.size X6 X | 2 => Below X6.heap.size X6 X | 3 => Below X6.heap.size X6 X | 4 => Below X6.heap.size X6 X | 5 => Below X6.heap.size X6 X | 6 => Below X6.heap.size X6 X | 7 => Below X6.heap.size X6 X | _ => Below X6.heap.size X6 X) (fun s => fun i_ => match i_ with | 0 => .int .i64 ((k : Nat) : Int) | 1 => .bool false | 2 => .bool false | 3 => .int .i64 ((k : Nat) : Int) | 4 => pv | 5 => .int .i64 ((l : Nat) : Int) | 6 => .bool false | 7 => .bool false | _ => undef) () A.1 (by kernel_rfl) (by decide) (by decide) (Below.refl _ _) ?_ ?_
  · intro i_ hi_ s a X hf hv hn hS
    match i_, hi_ with
    | 0, _ => exact stepV rfl rfl (execMvB rfl ((hf 8 (by decide)).trans t8)) ⟨s, ⟨_, rfl, rfl⟩, hS, fun _ _ => rfl⟩
    | 1, _ => exact stepV rfl rfl (execDec (execLtW (p := k) (q := 0) rfl (hv 0 (by omega) _ rfl _ rfl) rfl) (decide_eq_false (by omega))) ⟨s, ⟨_, rfl, rfl⟩, hS, fun _ _ => rfl⟩
    | 2, _ => exact stepV rfl rfl (execMvB rfl (hv 1 (by omega) _ rfl _ rfl)) ⟨s, ⟨_, rfl, rfl⟩, hS, fun _ _ => rfl⟩
    | 3, _ => exact stepV rfl (wantedOf rfl (yieldedAt rfl rfl (show a.eval (.tmp 66) = .bool false from (hv 2 (by omega) _ rfl _ rfl)))) (execMvB rfl ((hf 8 (by decide)).trans t8)) ⟨s, ⟨_, rfl, rfl⟩, hS, fun _ _ => rfl⟩
    | 4, _ => exact stepV rfl (wantedOf rfl (yieldedAt rfl rfl (show a.eval (.tmp 66) = .bool false from (hv 2 (by omega) _ rfl _ rfl)))) (execMvB rfl ((hf 0 (by decide)).trans t0)) ⟨s, ⟨_, rfl, rfl⟩, hS, fun _ _ => rfl⟩
    | 5, _ => exact stepV rfl (wantedOf rfl (yieldedAt rfl rfl (show a.eval (.tmp 66) = .bool false from (hv 2 (by omega) _ rfl _ rfl)))) (execLenV (len := l) rfl (hv 4 (by omega) _ rfl _ rfl) (shp9 (FP.on hS))) ⟨s, ⟨_, rfl, rfl⟩, hS, fun _ _ => rfl⟩
    | 6, _ => exact stepV rfl (wantedOf rfl (yieldedAt rfl rfl (show a.eval (.tmp 66) = .bool false from (hv 2 (by omega) _ rfl _ rfl)))) (execDec (execGtN (p := k) (q := l) rfl (hv 3 (by omega) _ rfl _ rfl) (hv 5 (by omega) _ rfl _ rfl)) (decide_eq_false (by omega))) ⟨s, ⟨_, rfl, rfl⟩, hS, fun _ _ => rfl⟩
    | 7, _ => exact stepV rfl rfl (execPickF rfl (hv 2 (by omega) _ rfl _ rfl) (hv 6 (by omega) _ rfl _ rfl)) ⟨s, ⟨_, rfl, rfl⟩, hS, fun _ _ => rfl⟩
    | k_ + 8, h_ => exact absurd h_ (by simp)
  rintro _ a X8 h1 h2 h3 h4 hS
  replace hS : Below X6.heap.size X6 X8 := hS
  have bX := hS
  clear hS
  replace t0 := (h3 0 (by decide)).trans t0
  replace t1 := (h3 1 (by decide)).trans t1
  replace t2 := (h3 2 (by decide)).trans t2
  replace t7 := (h3 7 (by decide)).trans t7
  replace t8 := (h3 8 (by decide)).trans t8
  replace t9 := (h3 9 (by decide)).trans t9
  replace t10 := (h3 10 (by decide)).trans t10
  replace t11 := (h3 11 (by decide)).trans t11
  replace t12 := (h3 12 (by decide)).trans t12
  replace t15 := (h3 15 (by decide)).trans t15
  have t71 : a.eval (.tmp 71) = .bool false := h4 7 _ rfl _ rfl
  replace FP := (FP.on bX)
  replace FI := (FI.on bX)
  replace FJ := (FJ.on bX)
  replace Fv30 := (Fv30.on bX)
  replace Kv30 := Kv30
  replace Fv40 := (Fv40.on bX)
  replace Fv41 := (Fv41.on bX)
  replace Kv41 := Kv41
  replace Fv47 := (Fv47.on bX)
  replace Kv47 := Kv47
  have ZX8 := bX.size
  replace BW := BW.trans (bX.mono BW.size)
  clear bX
  replace A := (⟨h1, h2.trans A.2⟩ : a.tmps.size = 161 ∧ a.defers = [])
  clear h1 h2 h3 h4
  refine wp_cond_false t71 ?_
  refine wp_skip ?_
  clear t71
  obtain ⟨pa, pc, epv, hpc, -⟩ := id FP.shape
  obtain ⟨zp, ezp⟩ : ∃ z, sliced pa k l pc 1 = z := ⟨_, rfl⟩
  obtain ⟨zs, ezs⟩ : ∃ z, sliced pa 0 k pc 1 = z := ⟨_, rfl⟩
  have FZp : SliceN X8 zp (l - k) (fun j => p (k + j)) := by
    have h := FP
    rw [epv] at h
    have h2 := h.sub k l hkl (Nat.le_refl _)
    rw [ezp] at h2
    exact h2
  have FZs : SliceN X8 zs k p := by
    have h := FP
    rw [epv] at h
    have h2 := h.sub 0 k (Nat.zero_le _) hkl
    rw [ezs] at h2
    exact sliceN_cg h2 fun j _ => by rw [Nat.zero_add]
  refine wp_seq ?_
  refine wp_region_sq (σ := Value) 161 [(0, 73), (1, 74), (2, 75), (3, 76), (4, 77), (5, 72), (6, 78), (7, 79), (8, 80), (9, 16), (10, 17), (11, 18)] (fun j_ s X => match j_ with | 0 => Below X8.heap.size X8 X | 1 => Below X8.heap.size X8 X | 2 => Below X8.heap.size X8 X | 3 => Below X8.heap.size X8 X | 4 => Below X8.heap.size X8 X | 5 => Below X8.heap.size X8 X ∧ (SliceI X s (allN (fun j => p (k + j)) (l - k) bs m) (fun i => (dA (fun j => p (k + j)) (l - k) bs i : Int))) ∧ (∀ l_ c_, s = .slice none l_ c_ → c_ = 0) | 6 => Below X8.heap.size X8 X ∧ (SliceI X s (allN (fun j => p (k + j)) (l - k) bs m) (fun i => (dA (fun j => p (k + j)) (l - k) bs i : Int))) ∧ (∀ l_ c_, s = .slice none l_ c_ → c_ = 0) | 7 => Below X8.heap.size X8 X ∧ (SliceI X s (allN (fun j => p (k + j)) (l - k) bs m) (fun i => (dA (fun j => p (k + j)) (l - k) bs i : Int))) ∧ (∀ l_ c_, s = .slice none l_ c_ → c_ = 0) | 8 => Below X8.heap.size X8 X ∧ (SliceI X s (allN (fun j => p (k + j)) (l - k) bs m) (fun i => (dA (fun j => p (k + j)) (l - k) bs i : Int))) ∧ (∀ l_ c_, s = .slice none l_ c_ → c_ = 0) | 9 => Below X8.heap.size X8 X ∧ (SliceI X s (allN (fun j => p (k + j)) (l - k) bs m) (fun i => (dA (fun j => p (k + j)) (l - k) bs i : Int))) ∧ (∀ l_ c_, s = .slice none l_ c_ → c_ = 0) | 10 => Below X8.heap.size X8 X ∧ (SliceI X s (allN (fun j => p (k + j)) (l - k) bs m) (fun i => (dA (fun j => p (k + j)) (l - k) bs i : Int))) ∧ (∀ l_ c_, s = .slice none l_ c_ → c_ = 0) | 11 => Below X8.heap.size X8 X ∧ (SliceI X s (allN (fun j => p (k + j)) (l - k) bs m) (fun i => (dA (fun j => p (k + j)) (l - k) bs i : Int))) ∧ (∀ l_ c_, s = .slice none l_ c_ → c_ = 0) | _ => Below X8.heap.size X8 X ∧ (SliceI X s (allN (fun j => p (k + j)) (l - k) bs m) (fun i => (dA (fun j => p (k + j)) (l - k) bs i : Int))) ∧ (∀ l_ c_, s = .slice none l_ c_ → c_ = 0)) (fun s => fun i_ => match i_ with | 0 => pv | 1 => .int .i64 ((k : Nat) : Int) | 2 => zp | 3 => bv | 4 => .tuple #[s, .int .i64 ((allK (fun j => p (k + j)) (l - k) bs m : Nat) : Int), .int .i64 ((allE (fun j => p (k + j)) (l - k) bs m : Nat) : Int)] | 5 => .tuple #[s, .int .i64 ((allK (fun j => p (k + j)) (l - k) bs m : Nat) : Int), .int .i64 ((allE (fun j => p (k + j)) (l - k) bs m : Nat) : Int)] | 6 => s | 7 => .int .i64 ((allK (fun j => p (k + j)) (l - k) bs m : Nat) : Int) | 8 => .int .i64 ((allE (fun j => p (k + j)) (l - k) bs m : Nat) : Int) | 9 => s | 10 => .int .i64 ((allK (fun j => p (k + j)) (l - k) bs m : Nat) : Int) | 11 => .int .i64 ((allE (fun j => p (k + j)) (l - k) bs m : Nat) : Int) | _ => undef) undef A.1 (by kernel_rfl) (by decide) (by decide) (Below.refl _ _) ?_ ?_
  · intro i_ hi_ s a X hf hv hn hS
    match i_, hi_ with
    | 0, _ => exact stepV rfl rfl (execMvB rfl ((hf 0 (by decide)).trans t0)) ⟨s, ⟨_, rfl, rfl⟩, hS, fun _ _ => rfl⟩
    | 1, _ => exact stepV rfl rfl (execMvB rfl ((hf 8 (by decide)).trans t8)) ⟨s, ⟨_, rfl, rfl⟩, hS, fun _ _ => rfl⟩
    | 2, _ => exact stepV rfl rfl (ezp ▸ By8.execSlL rfl ((hv 0 (by omega) _ rfl _ rfl).trans epv) (hv 1 (by omega) _ rfl _ rfl) (By8.slice_l pa l pc k hkl X)) ⟨s, ⟨_, rfl, rfl⟩, hS, fun _ _ => rfl⟩
    | 3, _ => exact stepV rfl rfl (execMvB rfl ((hf 2 (by decide)).trans t2)) ⟨s, ⟨_, rfl, rfl⟩, hS, fun _ _ => rfl⟩
    | 4, _ =>
      refine stepC rfl rfl (execCall2 Try.func17 (by kernel_rfl) (by kernel_rfl) rfl (hv 2 (by omega) _ rfl _ rfl) (hv 3 (by omega) _ rfl _ rfl)) (I.all (fun j => p (k + j)) (l - k) bs m _ _ X (FZp.on hS) (by omega) (FJ.on hS) (by omega)) fun e w' hh => ?_
      obtain ⟨r_, he, hk, hb⟩ := hh
      refine ⟨_, he, r_, ⟨_, rfl, rfl⟩, ⟨(hS).trans ((hb).mono (hS).size), own_ints hk (dA_fits _ _ _ _), own_nilI hk⟩, fun i hi => ?_⟩
      match i, hi with
      | 0, _ => rfl
      | 1, _ => rfl
      | 2, _ => rfl
      | 3, _ => rfl
      | n_ + 4, h_ => omega
    | 5, _ => exact stepV rfl rfl (execMvB rfl (hv 4 (by omega) _ rfl _ rfl)) ⟨s, ⟨_, rfl, rfl⟩, hS, fun _ _ => rfl⟩
    | 6, _ => exact stepV rfl rfl (execExtT rfl (hv 5 (by omega) _ rfl _ rfl) rfl) ⟨s, ⟨_, rfl, rfl⟩, hS, fun _ _ => rfl⟩
    | 7, _ => exact stepV rfl rfl (execExtT rfl (hv 5 (by omega) _ rfl _ rfl) rfl) ⟨s, ⟨_, rfl, rfl⟩, hS, fun _ _ => rfl⟩
    | 8, _ => exact stepV rfl rfl (execExtT rfl (hv 5 (by omega) _ rfl _ rfl) rfl) ⟨s, ⟨_, rfl, rfl⟩, hS, fun _ _ => rfl⟩
    | 9, _ => exact stepV rfl rfl (execAsgB rfl (hv 6 (by omega) _ rfl _ rfl)) ⟨s, ⟨_, rfl, rfl⟩, hS, fun _ _ => rfl⟩
    | 10, _ => exact stepV rfl rfl (execAsgB rfl (hv 7 (by omega) _ rfl _ rfl)) ⟨s, ⟨_, rfl, rfl⟩, hS, fun _ _ => rfl⟩
    | 11, _ => exact stepV rfl rfl (execAsgB rfl (hv 8 (by omega) _ rfl _ rfl)) ⟨s, ⟨_, rfl, rfl⟩, hS, fun _ _ => rfl⟩
    | k_ + 12, h_ => exact absurd h_ (by simp)
  rintro v77 a X10 h1 h2 h3 h4 hS
  replace hS : Below X8.heap.size X8 X10 ∧ (SliceI X10 v77 (allN (fun j => p (k + j)) (l - k) bs m) (fun i => (dA (fun j => p (k + j)) (l - k) bs i : Int))) ∧ (∀ l_ c_, v77 = .slice none l_ c_ → c_ = 0) := hS
  obtain ⟨bX, Fv77, Kv77⟩ := hS
  replace t0 := (h3 0 (by decide)).trans t0
  replace t1 := (h3 1 (by decide)).trans t1
  replace t2 := (h3 2 (by decide)).trans t2
  replace t7 := (h3 7 (by decide)).trans t7
  replace t8 := (h3 8 (by decide)).trans t8
  replace t9 := (h3 9 (by decide)).trans t9
  replace t10 := (h3 10 (by decide)).trans t10
  replace t11 := (h3 11 (by decide)).trans t11
  replace t12 := (h3 12 (by decide)).trans t12
  replace t15 := (h3 15 (by decide)).trans t15
  have t16 : a.eval (.tmp 16) = v77 := h4 9 _ rfl _ rfl
  have t17 : a.eval (.tmp 17) = .int .i64 ((allK (fun j => p (k + j)) (l - k) bs m : Nat) : Int) := h4 10 _ rfl _ rfl
  have t18 : a.eval (.tmp 18) = .int .i64 ((allE (fun j => p (k + j)) (l - k) bs m : Nat) : Int) := h4 11 _ rfl _ rfl
  replace FP := (FP.on bX)
  replace FI := (FI.on bX)
  replace FJ := (FJ.on bX)
  replace Fv30 := (Fv30.on bX)
  replace Kv30 := Kv30
  replace Fv40 := (Fv40.on bX)
  replace Fv41 := (Fv41.on bX)
  replace Kv41 := Kv41
  replace Fv47 := (Fv47.on bX)
  replace Kv47 := Kv47
  replace FZp := (FZp.on bX)
  replace FZs := (FZs.on bX)
  have ZX10 := bX.size
  replace BW := BW.trans (bX.mono BW.size)
  clear bX
  replace A := (⟨h1, h2.trans A.2⟩ : a.tmps.size = 161 ∧ a.defers = [])
  clear h1 h2 h3 h4
  refine wp_seq ?_
  refine wp_seq ?_
  refine wp_region_sq (σ := Unit) 161 [(0, 81), (1, 82)] (fun j_ s X => match j_ with | 0 => Below X10.heap.size X10 X | 1 => Below X10.heap.size X10 X | _ => Below X10.heap.size X10 X) (fun s => fun i_ => match i_ with | 0 => .int .i64 ((allE (fun j => p (k + j)) (l - k) bs m : Nat) : Int) | 1 => .bool false | _ => undef) () A.1 (by kernel_rfl) (by decide) (by decide) (Below.refl _ _) ?_ ?_
  · intro i_ hi_ s a X hf hv hn hS
    match i_, hi_ with
    | 0, _ => exact stepV rfl rfl (execMvB rfl ((hf 18 (by decide)).trans t18)) ⟨s, ⟨_, rfl, rfl⟩, hS, fun _ _ => rfl⟩
    | 1, _ => exact stepV rfl rfl (execDec (execNeE (p := allE (fun j => p (k + j)) (l - k) bs m) (q := 0) rfl (hv 0 (by omega) _ rfl _ rfl) rfl) (decide_eq_false (by omega))) ⟨s, ⟨_, rfl, rfl⟩, hS, fun _ _ => rfl⟩
    | k_ + 2, h_ => exact absurd h_ (by simp)
  rintro _ a X11 h1 h2 h3 h4 hS
  replace hS : Below X10.heap.size X10 X11 := hS
  have bX := hS
  clear hS
  replace t0 := (h3 0 (by decide)).trans t0
  replace t1 := (h3 1 (by decide)).trans t1
  replace t2 := (h3 2 (by decide)).trans t2
  replace t7 := (h3 7 (by decide)).trans t7
  replace t8 := (h3 8 (by decide)).trans t8
  replace t9 := (h3 9 (by decide)).trans t9
  replace t10 := (h3 10 (by decide)).trans t10
  replace t11 := (h3 11 (by decide)).trans t11
  replace t12 := (h3 12 (by decide)).trans t12
  replace t15 := (h3 15 (by decide)).trans t15
  replace t16 := (h3 16 (by decide)).trans t16
  replace t17 := (h3 17 (by decide)).trans t17
  replace t18 := (h3 18 (by decide)).trans t18
  have t82 : a.eval (.tmp 82) = .bool false := h4 1 _ rfl _ rfl
  replace FP := (FP.on bX)
  replace FI := (FI.on bX)
  replace FJ := (FJ.on bX)
  replace Fv30 := (Fv30.on bX)
  replace Kv30 := Kv30
  replace Fv40 := (Fv40.on bX)
  replace Fv41 := (Fv41.on bX)
  replace Kv41 := Kv41
  replace Fv47 := (Fv47.on bX)
  replace Kv47 := Kv47
  replace FZp := (FZp.on bX)
  replace FZs := (FZs.on bX)
  replace Fv77 := (Fv77.on bX)
  replace Kv77 := Kv77
  have ZX11 := bX.size
  replace BW := BW.trans (bX.mono BW.size)
  clear bX
  replace A := (⟨h1, h2.trans A.2⟩ : a.tmps.size = 161 ∧ a.defers = [])
  clear h1 h2 h3 h4
  refine wp_cond_false t82 ?_
  refine wp_skip ?_
  clear t82
  refine wp_seq ?_
  refine wp_region_sq (σ := Value) 161 [(0, 96), (1, 97), (2, 98), (3, 99), (4, 100), (5, 95), (6, 101), (7, 102), (8, 103), (9, 19), (10, 20), (11, 21)] (fun j_ s X => match j_ with | 0 => Below X11.heap.size X11 X | 1 => Below X11.heap.size X11 X | 2 => Below X11.heap.size X11 X | 3 => Below X11.heap.size X11 X | 4 => Below X11.heap.size X11 X | 5 => Below X11.heap.size X11 X ∧ (SliceI X s (allN p k cs n) (fun i => (dA p k cs i : Int))) ∧ (∀ l_ c_, s = .slice none l_ c_ → c_ = 0) | 6 => Below X11.heap.size X11 X ∧ (SliceI X s (allN p k cs n) (fun i => (dA p k cs i : Int))) ∧ (∀ l_ c_, s = .slice none l_ c_ → c_ = 0) | 7 => Below X11.heap.size X11 X ∧ (SliceI X s (allN p k cs n) (fun i => (dA p k cs i : Int))) ∧ (∀ l_ c_, s = .slice none l_ c_ → c_ = 0) | 8 => Below X11.heap.size X11 X ∧ (SliceI X s (allN p k cs n) (fun i => (dA p k cs i : Int))) ∧ (∀ l_ c_, s = .slice none l_ c_ → c_ = 0) | 9 => Below X11.heap.size X11 X ∧ (SliceI X s (allN p k cs n) (fun i => (dA p k cs i : Int))) ∧ (∀ l_ c_, s = .slice none l_ c_ → c_ = 0) | 10 => Below X11.heap.size X11 X ∧ (SliceI X s (allN p k cs n) (fun i => (dA p k cs i : Int))) ∧ (∀ l_ c_, s = .slice none l_ c_ → c_ = 0) | 11 => Below X11.heap.size X11 X ∧ (SliceI X s (allN p k cs n) (fun i => (dA p k cs i : Int))) ∧ (∀ l_ c_, s = .slice none l_ c_ → c_ = 0) | _ => Below X11.heap.size X11 X ∧ (SliceI X s (allN p k cs n) (fun i => (dA p k cs i : Int))) ∧ (∀ l_ c_, s = .slice none l_ c_ → c_ = 0)) (fun s => fun i_ => match i_ with | 0 => pv | 1 => .int .i64 ((k : Nat) : Int) | 2 => zs | 3 => av | 4 => .tuple #[s, .int .i64 ((allK p k cs n : Nat) : Int), .int .i64 ((allE p k cs n : Nat) : Int)] | 5 => .tuple #[s, .int .i64 ((allK p k cs n : Nat) : Int), .int .i64 ((allE p k cs n : Nat) : Int)] | 6 => s | 7 => .int .i64 ((allK p k cs n : Nat) : Int) | 8 => .int .i64 ((allE p k cs n : Nat) : Int) | 9 => s | 10 => .int .i64 ((allK p k cs n : Nat) : Int) | 11 => .int .i64 ((allE p k cs n : Nat) : Int) | _ => undef) undef A.1 (by kernel_rfl) (by decide) (by decide) (Below.refl _ _) ?_ ?_
  · intro i_ hi_ s a X hf hv hn hS
    match i_, hi_ with
    | 0, _ => exact stepV rfl rfl (execMvB rfl ((hf 0 (by decide)).trans t0)) ⟨s, ⟨_, rfl, rfl⟩, hS, fun _ _ => rfl⟩
    | 1, _ => exact stepV rfl rfl (execMvB rfl ((hf 8 (by decide)).trans t8)) ⟨s, ⟨_, rfl, rfl⟩, hS, fun _ _ => rfl⟩
    | 2, _ => exact stepV rfl rfl (ezs ▸ By8.execSlH rfl ((hv 0 (by omega) _ rfl _ rfl).trans epv) (hv 1 (by omega) _ rfl _ rfl) (By8.slice_h pa l pc k (Nat.le_trans hkl hpc) X)) ⟨s, ⟨_, rfl, rfl⟩, hS, fun _ _ => rfl⟩
    | 3, _ => exact stepV rfl rfl (execMvB rfl ((hf 1 (by decide)).trans t1)) ⟨s, ⟨_, rfl, rfl⟩, hS, fun _ _ => rfl⟩
    | 4, _ =>
      refine stepC rfl rfl (execCall2 Try.func17 (by kernel_rfl) (by kernel_rfl) rfl (hv 2 (by omega) _ rfl _ rfl) (hv 3 (by omega) _ rfl _ rfl)) (I.all p k cs n _ _ X (FZs.on hS) (by omega) (FI.on hS) (by omega)) fun e w' hh => ?_
      obtain ⟨r_, he, hk, hb⟩ := hh
      refine ⟨_, he, r_, ⟨_, rfl, rfl⟩, ⟨(hS).trans ((hb).mono (hS).size), own_ints hk (dA_fits _ _ _ _), own_nilI hk⟩, fun i hi => ?_⟩
      match i, hi with
      | 0, _ => rfl
      | 1, _ => rfl
      | 2, _ => rfl
      | 3, _ => rfl
      | n_ + 4, h_ => omega
    | 5, _ => exact stepV rfl rfl (execMvB rfl (hv 4 (by omega) _ rfl _ rfl)) ⟨s, ⟨_, rfl, rfl⟩, hS, fun _ _ => rfl⟩
    | 6, _ => exact stepV rfl rfl (execExtT rfl (hv 5 (by omega) _ rfl _ rfl) rfl) ⟨s, ⟨_, rfl, rfl⟩, hS, fun _ _ => rfl⟩
    | 7, _ => exact stepV rfl rfl (execExtT rfl (hv 5 (by omega) _ rfl _ rfl) rfl) ⟨s, ⟨_, rfl, rfl⟩, hS, fun _ _ => rfl⟩
    | 8, _ => exact stepV rfl rfl (execExtT rfl (hv 5 (by omega) _ rfl _ rfl) rfl) ⟨s, ⟨_, rfl, rfl⟩, hS, fun _ _ => rfl⟩
    | 9, _ => exact stepV rfl rfl (execAsgB rfl (hv 6 (by omega) _ rfl _ rfl)) ⟨s, ⟨_, rfl, rfl⟩, hS, fun _ _ => rfl⟩
    | 10, _ => exact stepV rfl rfl (execAsgB rfl (hv 7 (by omega) _ rfl _ rfl)) ⟨s, ⟨_, rfl, rfl⟩, hS, fun _ _ => rfl⟩
    | 11, _ => exact stepV rfl rfl (execAsgB rfl (hv 8 (by omega) _ rfl _ rfl)) ⟨s, ⟨_, rfl, rfl⟩, hS, fun _ _ => rfl⟩
    | k_ + 12, h_ => exact absurd h_ (by simp)
  rintro v100 a X13 h1 h2 h3 h4 hS
  replace hS : Below X11.heap.size X11 X13 ∧ (SliceI X13 v100 (allN p k cs n) (fun i => (dA p k cs i : Int))) ∧ (∀ l_ c_, v100 = .slice none l_ c_ → c_ = 0) := hS
  obtain ⟨bX, Fv100, Kv100⟩ := hS
  replace t0 := (h3 0 (by decide)).trans t0
  replace t1 := (h3 1 (by decide)).trans t1
  replace t2 := (h3 2 (by decide)).trans t2
  replace t7 := (h3 7 (by decide)).trans t7
  replace t8 := (h3 8 (by decide)).trans t8
  replace t9 := (h3 9 (by decide)).trans t9
  replace t10 := (h3 10 (by decide)).trans t10
  replace t11 := (h3 11 (by decide)).trans t11
  replace t12 := (h3 12 (by decide)).trans t12
  replace t15 := (h3 15 (by decide)).trans t15
  replace t16 := (h3 16 (by decide)).trans t16
  replace t17 := (h3 17 (by decide)).trans t17
  replace t18 := (h3 18 (by decide)).trans t18
  have t19 : a.eval (.tmp 19) = v100 := h4 9 _ rfl _ rfl
  have t20 : a.eval (.tmp 20) = .int .i64 ((allK p k cs n : Nat) : Int) := h4 10 _ rfl _ rfl
  have t21 : a.eval (.tmp 21) = .int .i64 ((allE p k cs n : Nat) : Int) := h4 11 _ rfl _ rfl
  replace FP := (FP.on bX)
  replace FI := (FI.on bX)
  replace FJ := (FJ.on bX)
  replace Fv30 := (Fv30.on bX)
  replace Kv30 := Kv30
  replace Fv40 := (Fv40.on bX)
  replace Fv41 := (Fv41.on bX)
  replace Kv41 := Kv41
  replace Fv47 := (Fv47.on bX)
  replace Kv47 := Kv47
  replace FZp := (FZp.on bX)
  replace FZs := (FZs.on bX)
  replace Fv77 := (Fv77.on bX)
  replace Kv77 := Kv77
  have ZX13 := bX.size
  replace BW := BW.trans (bX.mono BW.size)
  clear bX
  replace A := (⟨h1, h2.trans A.2⟩ : a.tmps.size = 161 ∧ a.defers = [])
  clear h1 h2 h3 h4
  refine wp_seq ?_
  refine wp_region_sq (σ := Nat × Value × Nat × Value × Value) 161 [(0, 105), (1, 106), (2, 107), (3, 108), (4, 109), (5, 110), (6, 111), (7, 104), (8, 112), (9, 113), (10, 114), (11, 22), (12, 23), (13, 24)] (fun j_ s X => match j_ with | 0 => Below X13.heap.size X13 X | 1 => Below X13.heap.size X13 X ∧ X.ownsRow (X13.heap.size) 5 1 (.slice (some ⟨s.1, 0, none⟩) 0 0) (0) (bytesL 0 (cat2 l p l7)) | 2 => Below X13.heap.size X13 X ∧ X.ownsRow (X13.heap.size) 5 1 (.slice (some ⟨s.1, 0, none⟩) 0 0) (0) (bytesL 0 (cat2 l p l7)) | 3 => Below X13.heap.size X13 X ∧ X.ownsRow (X13.heap.size) 5 1 s.2.1 (l) (bytesL l (cat2 l p l7)) | 4 => Below X13.heap.size X13 X ∧ X.ownsRow (X13.heap.size) 5 1 s.2.1 (l) (bytesL l (cat2 l p l7)) ∧ SliceN X (.slice (some ⟨s.2.2.1, 0, none⟩) 3 3) (3) (l7) | 5 => Below X13.heap.size X13 X ∧ SliceN X s.2.2.2.1 (l + 3) (cat2 l p l7) | 6 => Below X13.heap.size X13 X ∧ SliceN X s.2.2.2.1 (l + 3) (cat2 l p l7) | 7 => Below X13.heap.size X13 X ∧ SliceN X s.2.2.2.1 (l + 3) (cat2 l p l7) ∧ (SliceI X s.2.2.2.2 (allN (cat2 l p l7) (l + 3) cs n) (fun i => (dA (cat2 l p l7) (l + 3) cs i : Int))) ∧ (∀ l_ c_, s.2.2.2.2 = .slice none l_ c_ → c_ = 0) | 8 => Below X13.heap.size X13 X ∧ SliceN X s.2.2.2.1 (l + 3) (cat2 l p l7) ∧ (SliceI X s.2.2.2.2 (allN (cat2 l p l7) (l + 3) cs n) (fun i => (dA (cat2 l p l7) (l + 3) cs i : Int))) ∧ (∀ l_ c_, s.2.2.2.2 = .slice none l_ c_ → c_ = 0) | 9 => Below X13.heap.size X13 X ∧ SliceN X s.2.2.2.1 (l + 3) (cat2 l p l7) ∧ (SliceI X s.2.2.2.2 (allN (cat2 l p l7) (l + 3) cs n) (fun i => (dA (cat2 l p l7) (l + 3) cs i : Int))) ∧ (∀ l_ c_, s.2.2.2.2 = .slice none l_ c_ → c_ = 0) | 10 => Below X13.heap.size X13 X ∧ SliceN X s.2.2.2.1 (l + 3) (cat2 l p l7) ∧ (SliceI X s.2.2.2.2 (allN (cat2 l p l7) (l + 3) cs n) (fun i => (dA (cat2 l p l7) (l + 3) cs i : Int))) ∧ (∀ l_ c_, s.2.2.2.2 = .slice none l_ c_ → c_ = 0) | 11 => Below X13.heap.size X13 X ∧ SliceN X s.2.2.2.1 (l + 3) (cat2 l p l7) ∧ (SliceI X s.2.2.2.2 (allN (cat2 l p l7) (l + 3) cs n) (fun i => (dA (cat2 l p l7) (l + 3) cs i : Int))) ∧ (∀ l_ c_, s.2.2.2.2 = .slice none l_ c_ → c_ = 0) | 12 => Below X13.heap.size X13 X ∧ SliceN X s.2.2.2.1 (l + 3) (cat2 l p l7) ∧ (SliceI X s.2.2.2.2 (allN (cat2 l p l7) (l + 3) cs n) (fun i => (dA (cat2 l p l7) (l + 3) cs i : Int))) ∧ (∀ l_ c_, s.2.2.2.2 = .slice none l_ c_ → c_ = 0) | 13 => Below X13.heap.size X13 X ∧ SliceN X s.2.2.2.1 (l + 3) (cat2 l p l7) ∧ (SliceI X s.2.2.2.2 (allN (cat2 l p l7) (l + 3) cs n) (fun i => (dA (cat2 l p l7) (l + 3) cs i : Int))) ∧ (∀ l_ c_, s.2.2.2.2 = .slice none l_ c_ → c_ = 0) | _ => Below X13.heap.size X13 X ∧ SliceN X s.2.2.2.1 (l + 3) (cat2 l p l7) ∧ (SliceI X s.2.2.2.2 (allN (cat2 l p l7) (l + 3) cs n) (fun i => (dA (cat2 l p l7) (l + 3) cs i : Int))) ∧ (∀ l_ c_, s.2.2.2.2 = .slice none l_ c_ → c_ = 0)) (fun s => fun i_ => match i_ with | 0 => .slice (some ⟨s.1, 0, none⟩) 0 0 | 1 => pv | 2 => s.2.1 | 3 => .slice (some ⟨s.2.2.1, 0, none⟩) 3 3 | 4 => s.2.2.2.1 | 5 => av | 6 => .tuple #[s.2.2.2.2, .int .i64 ((allK (cat2 l p l7) (l + 3) cs n : Nat) : Int), .int .i64 ((allE (cat2 l p l7) (l + 3) cs n : Nat) : Int)] | 7 => .tuple #[s.2.2.2.2, .int .i64 ((allK (cat2 l p l7) (l + 3) cs n : Nat) : Int), .int .i64 ((allE (cat2 l p l7) (l + 3) cs n : Nat) : Int)] | 8 => s.2.2.2.2 | 9 => .int .i64 ((allK (cat2 l p l7) (l + 3) cs n : Nat) : Int) | 10 => .int .i64 ((allE (cat2 l p l7) (l + 3) cs n : Nat) : Int) | 11 => s.2.2.2.2 | 12 => .int .i64 ((allK (cat2 l p l7) (l + 3) cs n : Nat) : Int) | 13 => .int .i64 ((allE (cat2 l p l7) (l + 3) cs n : Nat) : Int) | _ => undef) (0, undef, 0, undef, undef) A.1 (by kernel_rfl) (by decide) (by decide) (Below.refl _ _) ?_ ?_
  · intro i_ hi_ s a X hf hv hn hS
    match i_, hi_ with
    | 0, _ =>
      refine stepV rfl rfl (execBs0 rfl) ⟨(X.heap.size, s.2.1, s.2.2.1, s.2.2.2.1, s.2.2.2.2), ⟨_, rfl, rfl⟩, ⟨(hS).trans (((belNew X _)).mono (hS).size), own_base (own_none X _) (hS).size⟩, fun i hi => ?_⟩
      omega
    | 1, _ => exact stepV rfl rfl (execMvB rfl ((hf 0 (by decide)).trans t0)) ⟨s, ⟨_, rfl, rfl⟩, hS, fun _ _ => rfl⟩
    | 2, _ =>
      refine stepAppN (n := 0) (p := cat2 l p l7) rfl rfl rfl (hv 0 (by omega) _ rfl _ rfl) (hv 1 (by omega) _ rfl _ rfl) hS.2 (sliceN_cg (FP.on hS.1) fun j hj => by rw [Nat.zero_add]; exact (cat2_lo hj).symm) hz (by omega) (hS.1).size fun v' W' own' gr => ⟨(s.1, v', s.2.2.1, s.2.2.2.1, s.2.2.2.2), ⟨_, rfl, rfl⟩, ⟨(hS.1).grown gr (hS.1).size (fun k hk => (hS.2.lt k hk).1), own_z5 own'⟩, fun i hi => ?_⟩
      match i, hi with
      | 0, _ => rfl
      | 1, _ => rfl
      | n_ + 2, h_ => omega
    | 3, _ =>
      refine stepV rfl rfl (execLit7 rfl) ⟨(s.1, s.2.1, X.heap.size, s.2.2.2.1, s.2.2.2.2), ⟨_, rfl, rfl⟩, ⟨(hS.1).trans (((belNew X _)).mono (hS.1).size), (ownsRow_below hS.2 (belNew X _)), slice7 X⟩, fun i hi => ?_⟩
      match i, hi with
      | 0, _ => rfl
      | 1, _ => rfl
      | 2, _ => rfl
      | n_ + 3, h_ => omega
    | 4, _ =>
      refine stepAppN (n := l) (p := cat2 l p l7) rfl rfl rfl (hv 2 (by omega) _ rfl _ rfl) (hv 3 (by omega) _ rfl _ rfl) hS.2.1 (sliceN_cg hS.2.2 fun j _ => cat2_hi.symm) (fun l c e => by cases e) (by omega) (hS.1).size fun v' W' own' gr => ⟨(s.1, s.2.1, s.2.2.1, v', s.2.2.2.2), ⟨_, rfl, rfl⟩, ⟨(hS.1).grown gr (hS.1).size (fun k hk => (hS.2.1.lt k hk).1), own_slice own' (cat7_fits hpb)⟩, fun i hi => ?_⟩
      match i, hi with
      | 0, _ => rfl
      | 1, _ => rfl
      | 2, _ => rfl
      | 3, _ => rfl
      | n_ + 4, h_ => omega
    | 5, _ => exact stepV rfl rfl (execMvB rfl ((hf 1 (by decide)).trans t1)) ⟨s, ⟨_, rfl, rfl⟩, hS, fun _ _ => rfl⟩
    | 6, _ =>
      refine stepC rfl rfl (execCall2 Try.func17 (by kernel_rfl) (by kernel_rfl) rfl (hv 4 (by omega) _ rfl _ rfl) (hv 5 (by omega) _ rfl _ rfl)) (I.all (cat2 l p l7) (l + 3) cs n _ _ X hS.2 (by omega) (FI.on hS.1) (by omega)) fun e w' hh => ?_
      obtain ⟨r_, he, hk, hb⟩ := hh
      refine ⟨_, he, (s.1, s.2.1, s.2.2.1, s.2.2.2.1, r_), ⟨_, rfl, rfl⟩, ⟨(hS.1).trans ((hb).mono (hS.1).size), (hS.2.on hb), own_ints hk (dA_fits _ _ _ _), own_nilI hk⟩, fun i hi => ?_⟩
      match i, hi with
      | 0, _ => rfl
      | 1, _ => rfl
      | 2, _ => rfl
      | 3, _ => rfl
      | 4, _ => rfl
      | 5, _ => rfl
      | n_ + 6, h_ => omega
    | 7, _ => exact stepV rfl rfl (execMvB rfl (hv 6 (by omega) _ rfl _ rfl)) ⟨s, ⟨_, rfl, rfl⟩, hS, fun _ _ => rfl⟩
    | 8, _ => exact stepV rfl rfl (execExtT rfl (hv 7 (by omega) _ rfl _ rfl) rfl) ⟨s, ⟨_, rfl, rfl⟩, hS, fun _ _ => rfl⟩
    | 9, _ => exact stepV rfl rfl (execExtT rfl (hv 7 (by omega) _ rfl _ rfl) rfl) ⟨s, ⟨_, rfl, rfl⟩, hS, fun _ _ => rfl⟩
    | 10, _ => exact stepV rfl rfl (execExtT rfl (hv 7 (by omega) _ rfl _ rfl) rfl) ⟨s, ⟨_, rfl, rfl⟩, hS, fun _ _ => rfl⟩
    | 11, _ => exact stepV rfl rfl (execAsgB rfl (hv 8 (by omega) _ rfl _ rfl)) ⟨s, ⟨_, rfl, rfl⟩, hS, fun _ _ => rfl⟩
    | 12, _ => exact stepV rfl rfl (execAsgB rfl (hv 9 (by omega) _ rfl _ rfl)) ⟨s, ⟨_, rfl, rfl⟩, hS, fun _ _ => rfl⟩
    | 13, _ => exact stepV rfl rfl (execAsgB rfl (hv 10 (by omega) _ rfl _ rfl)) ⟨s, ⟨_, rfl, rfl⟩, hS, fun _ _ => rfl⟩
    | k_ + 14, h_ => exact absurd h_ (by simp)
  rintro ⟨g105, v107, g108, v109, v111⟩ a X14 h1 h2 h3 h4 hS
  replace hS : Below X13.heap.size X13 X14 ∧ SliceN X14 v109 (l + 3) (cat2 l p l7) ∧ (SliceI X14 v111 (allN (cat2 l p l7) (l + 3) cs n) (fun i => (dA (cat2 l p l7) (l + 3) cs i : Int))) ∧ (∀ l_ c_, v111 = .slice none l_ c_ → c_ = 0) := hS
  obtain ⟨bX, Fv109, Fv111, Kv111⟩ := hS
  replace t0 := (h3 0 (by decide)).trans t0
  replace t1 := (h3 1 (by decide)).trans t1
  replace t2 := (h3 2 (by decide)).trans t2
  replace t7 := (h3 7 (by decide)).trans t7
  replace t8 := (h3 8 (by decide)).trans t8
  replace t9 := (h3 9 (by decide)).trans t9
  replace t10 := (h3 10 (by decide)).trans t10
  replace t11 := (h3 11 (by decide)).trans t11
  replace t12 := (h3 12 (by decide)).trans t12
  replace t15 := (h3 15 (by decide)).trans t15
  replace t16 := (h3 16 (by decide)).trans t16
  replace t17 := (h3 17 (by decide)).trans t17
  replace t18 := (h3 18 (by decide)).trans t18
  replace t19 := (h3 19 (by decide)).trans t19
  replace t20 := (h3 20 (by decide)).trans t20
  replace t21 := (h3 21 (by decide)).trans t21
  have t22 : a.eval (.tmp 22) = v111 := h4 11 _ rfl _ rfl
  have t23 : a.eval (.tmp 23) = .int .i64 ((allK (cat2 l p l7) (l + 3) cs n : Nat) : Int) := h4 12 _ rfl _ rfl
  have t24 : a.eval (.tmp 24) = .int .i64 ((allE (cat2 l p l7) (l + 3) cs n : Nat) : Int) := h4 13 _ rfl _ rfl
  replace FP := (FP.on bX)
  replace FI := (FI.on bX)
  replace FJ := (FJ.on bX)
  replace Fv30 := (Fv30.on bX)
  replace Kv30 := Kv30
  replace Fv40 := (Fv40.on bX)
  replace Fv41 := (Fv41.on bX)
  replace Kv41 := Kv41
  replace Fv47 := (Fv47.on bX)
  replace Kv47 := Kv47
  replace FZp := (FZp.on bX)
  replace FZs := (FZs.on bX)
  replace Fv77 := (Fv77.on bX)
  replace Kv77 := Kv77
  replace Fv100 := (Fv100.on bX)
  replace Kv100 := Kv100
  have ZX14 := bX.size
  replace BW := BW.trans (bX.mono BW.size)
  clear bX
  replace A := (⟨h1, h2.trans A.2⟩ : a.tmps.size = 161 ∧ a.defers = [])
  clear h1 h2 h3 h4
  rw [hsN] at Fv100
  have Fv100b : SliceI X14 v100 n (fun i => (dA p l cs i : Int)) := Fv100.cg fun i hi => congrArg _ (hsD i hi)
  rw [hlN] at Fv111
  have Fv111b : SliceI X14 v111 n (fun i => (dA p l cs i : Int)) := Fv111.cg fun i hi => congrArg _ (hlD i hi)
  rw [hcN] at Fv77
  rw [heN] at Fv41
  have Fv41b : SliceI X14 v41 (n + m) (catI n (fun i => (dA p l cs i : Int)) (fun i => (dA (fun j => p (k + j)) (l - k) bs i : Int))) := Fv41.cg fun i hi => heD i hi
  clear Fv100 Fv111 Fv41
  refine wp_seq ?_
  refine wp_seq ?_
  refine wp_region_sq (σ := Unit) 161 [(0, 115), (1, 116), (2, 117), (3, 118), (4, 119), (5, 120), (6, 121), (7, 122), (8, 123), (9, 124), (10, 125), (11, 126), (12, 127), (13, 128), (14, 129), (15, 130), (16, 131), (17, 132), (18, 133), (19, 134), (20, 135), (21, 136), (22, 137), (23, 138), (24, 139), (25, 140), (26, 141), (27, 142), (28, 143), (29, 144), (30, 145), (31, 146)] (fun j_ s X => match j_ with | 0 => Below X14.heap.size X14 X | 1 => Below X14.heap.size X14 X | 2 => Below X14.heap.size X14 X | 3 => Below X14.heap.size X14 X | 4 => Below X14.heap.size X14 X | 5 => Below X14.heap.size X14 X | 6 => Below X14.heap.size X14 X | 7 => Below X14.heap.size X14 X | 8 => Below X14.heap.size X14 X | 9 => Below X14.heap.size X14 X | 10 => Below X14.heap.size X14 X | 11 => Below X14.heap.size X14 X | 12 => Below X14.heap.size X14 X | 13 => Below X14.heap.size X14 X | 14 => Below X14.heap.size X14 X | 15 => Below X14.heap.size X14 X | 16 => Below X14.heap.size X14 X | 17 => Below X14.heap.size X14 X | 18 => Below X14.heap.size X14 X | 19 => Below X14.heap.size X14 X | 20 => Below X14.heap.size X14 X | 21 => Below X14.heap.size X14 X | 22 => Below X14.heap.size X14 X | 23 => Below X14.heap.size X14 X | 24 => Below X14.heap.size X14 X | 25 => Below X14.heap.size X14 X | 26 => Below X14.heap.size X14 X | 27 => Below X14.heap.size X14 X | 28 => Below X14.heap.size X14 X | 29 => Below X14.heap.size X14 X | 30 => Below X14.heap.size X14 X | 31 => Below X14.heap.size X14 X | _ => Below X14.heap.size X14 X) (fun s => fun i_ => match i_ with | 0 => .int .i64 ((allE p l (catI n cs bs) (n + m) : Nat) : Int) | 1 => .bool false | 2 => .bool false | 3 => .int .i64 ((allE p k cs n : Nat) : Int) | 4 => .bool false | 5 => .bool false | 6 => .bool false | 7 => .int .i64 ((allE (cat2 l p l7) (l + 3) cs n : Nat) : Int) | 8 => .bool false | 9 => .bool false | 10 => .bool false | 11 => .int .i64 ((allK p k cs n : Nat) : Int) | 12 => .int .i64 ((k : Nat) : Int) | 13 => .bool false | 14 => .bool false | 15 => .bool false | 16 => .int .i64 ((allK (cat2 l p l7) (l + 3) cs n : Nat) : Int) | 17 => .int .i64 ((k : Nat) : Int) | 18 => .bool false | 19 => .bool false | 20 => .bool false | 21 => v100 | 22 => v30 | 23 => .bool true | 24 => .bool false | 25 => .bool false | 26 => .bool false | 27 => v111 | 28 => v30 | 29 => .bool true | 30 => .bool false | 31 => .bool false | _ => undef) () A.1 (by kernel_rfl) (by decide) (by decide) (Below.refl _ _) ?_ ?_
  · intro i_ hi_ s a X hf hv hn hS
    match i_, hi_ with
    | 0, _ => exact stepV rfl rfl (execMvB rfl ((hf 12 (by decide)).trans t12)) ⟨s, ⟨_, rfl, rfl⟩, hS, fun _ _ => rfl⟩
    | 1, _ => exact stepV rfl rfl (execDec (execNeE (p := allE p l (catI n cs bs) (n + m)) (q := 0) rfl (hv 0 (by omega) _ rfl _ rfl) rfl) (decide_eq_false (by omega))) ⟨s, ⟨_, rfl, rfl⟩, hS, fun _ _ => rfl⟩
    | 2, _ => exact stepV rfl rfl (execMvB rfl (hv 1 (by omega) _ rfl _ rfl)) ⟨s, ⟨_, rfl, rfl⟩, hS, fun _ _ => rfl⟩
    | 3, _ => exact stepV rfl (wantedOf rfl (yieldedAt rfl rfl (show a.eval (.tmp 117) = .bool false from (hv 2 (by omega) _ rfl _ rfl)))) (execMvB rfl ((hf 21 (by decide)).trans t21)) ⟨s, ⟨_, rfl, rfl⟩, hS, fun _ _ => rfl⟩
    | 4, _ => exact stepV rfl (wantedOf rfl (yieldedAt rfl rfl (show a.eval (.tmp 117) = .bool false from (hv 2 (by omega) _ rfl _ rfl)))) (execDec (execNeE (p := allE p k cs n) (q := 0) rfl (hv 3 (by omega) _ rfl _ rfl) rfl) (decide_eq_false (by omega))) ⟨s, ⟨_, rfl, rfl⟩, hS, fun _ _ => rfl⟩
    | 5, _ => exact stepV rfl rfl (execPickF rfl (hv 2 (by omega) _ rfl _ rfl) (hv 4 (by omega) _ rfl _ rfl)) ⟨s, ⟨_, rfl, rfl⟩, hS, fun _ _ => rfl⟩
    | 6, _ => exact stepV rfl rfl (execMvB rfl (hv 5 (by omega) _ rfl _ rfl)) ⟨s, ⟨_, rfl, rfl⟩, hS, fun _ _ => rfl⟩
    | 7, _ => exact stepV rfl (wantedOf rfl (yieldedAt rfl rfl (show a.eval (.tmp 121) = .bool false from (hv 6 (by omega) _ rfl _ rfl)))) (execMvB rfl ((hf 24 (by decide)).trans t24)) ⟨s, ⟨_, rfl, rfl⟩, hS, fun _ _ => rfl⟩
    | 8, _ => exact stepV rfl (wantedOf rfl (yieldedAt rfl rfl (show a.eval (.tmp 121) = .bool false from (hv 6 (by omega) _ rfl _ rfl)))) (execDec (execNeE (p := allE (cat2 l p l7) (l + 3) cs n) (q := 0) rfl (hv 7 (by omega) _ rfl _ rfl) rfl) (decide_eq_false (by omega))) ⟨s, ⟨_, rfl, rfl⟩, hS, fun _ _ => rfl⟩
    | 9, _ => exact stepV rfl rfl (execPickF rfl (hv 6 (by omega) _ rfl _ rfl) (hv 8 (by omega) _ rfl _ rfl)) ⟨s, ⟨_, rfl, rfl⟩, hS, fun _ _ => rfl⟩
    | 10, _ => exact stepV rfl rfl (execMvB rfl (hv 9 (by omega) _ rfl _ rfl)) ⟨s, ⟨_, rfl, rfl⟩, hS, fun _ _ => rfl⟩
    | 11, _ => exact stepV rfl (wantedOf rfl (yieldedAt rfl rfl (show a.eval (.tmp 125) = .bool false from (hv 10 (by omega) _ rfl _ rfl)))) (execMvB rfl ((hf 20 (by decide)).trans t20)) ⟨s, ⟨_, rfl, rfl⟩, hS, fun _ _ => rfl⟩
    | 12, _ => exact stepV rfl (wantedOf rfl (yieldedAt rfl rfl (show a.eval (.tmp 125) = .bool false from (hv 10 (by omega) _ rfl _ rfl)))) (execMvB rfl ((hf 8 (by decide)).trans t8)) ⟨s, ⟨_, rfl, rfl⟩, hS, fun _ _ => rfl⟩
    | 13, _ => exact stepV rfl (wantedOf rfl (yieldedAt rfl rfl (show a.eval (.tmp 125) = .bool false from (hv 10 (by omega) _ rfl _ rfl)))) (execDec (execNeN (p := allK p k cs n) (q := k) rfl (hv 11 (by omega) _ rfl _ rfl) (hv 12 (by omega) _ rfl _ rfl)) (decide_eq_false (by omega))) ⟨s, ⟨_, rfl, rfl⟩, hS, fun _ _ => rfl⟩
    | 14, _ => exact stepV rfl rfl (execPickF rfl (hv 10 (by omega) _ rfl _ rfl) (hv 13 (by omega) _ rfl _ rfl)) ⟨s, ⟨_, rfl, rfl⟩, hS, fun _ _ => rfl⟩
    | 15, _ => exact stepV rfl rfl (execMvB rfl (hv 14 (by omega) _ rfl _ rfl)) ⟨s, ⟨_, rfl, rfl⟩, hS, fun _ _ => rfl⟩
    | 16, _ => exact stepV rfl (wantedOf rfl (yieldedAt rfl rfl (show a.eval (.tmp 130) = .bool false from (hv 15 (by omega) _ rfl _ rfl)))) (execMvB rfl ((hf 23 (by decide)).trans t23)) ⟨s, ⟨_, rfl, rfl⟩, hS, fun _ _ => rfl⟩
    | 17, _ => exact stepV rfl (wantedOf rfl (yieldedAt rfl rfl (show a.eval (.tmp 130) = .bool false from (hv 15 (by omega) _ rfl _ rfl)))) (execMvB rfl ((hf 8 (by decide)).trans t8)) ⟨s, ⟨_, rfl, rfl⟩, hS, fun _ _ => rfl⟩
    | 18, _ => exact stepV rfl (wantedOf rfl (yieldedAt rfl rfl (show a.eval (.tmp 130) = .bool false from (hv 15 (by omega) _ rfl _ rfl)))) (execDec (execNeN (p := allK (cat2 l p l7) (l + 3) cs n) (q := k) rfl (hv 16 (by omega) _ rfl _ rfl) (hv 17 (by omega) _ rfl _ rfl)) (decide_eq_false (by omega))) ⟨s, ⟨_, rfl, rfl⟩, hS, fun _ _ => rfl⟩
    | 19, _ => exact stepV rfl rfl (execPickF rfl (hv 15 (by omega) _ rfl _ rfl) (hv 18 (by omega) _ rfl _ rfl)) ⟨s, ⟨_, rfl, rfl⟩, hS, fun _ _ => rfl⟩
    | 20, _ => exact stepV rfl rfl (execMvB rfl (hv 19 (by omega) _ rfl _ rfl)) ⟨s, ⟨_, rfl, rfl⟩, hS, fun _ _ => rfl⟩
    | 21, _ => exact stepV rfl (wantedOf rfl (yieldedAt rfl rfl (show a.eval (.tmp 135) = .bool false from (hv 20 (by omega) _ rfl _ rfl)))) (execMvB rfl ((hf 19 (by decide)).trans t19)) ⟨s, ⟨_, rfl, rfl⟩, hS, fun _ _ => rfl⟩
    | 22, _ => exact stepV rfl (wantedOf rfl (yieldedAt rfl rfl (show a.eval (.tmp 135) = .bool false from (hv 20 (by omega) _ rfl _ rfl)))) (execMvB rfl ((hf 7 (by decide)).trans t7)) ⟨s, ⟨_, rfl, rfl⟩, hS, fun _ _ => rfl⟩
    | 23, _ => exact stepC rfl (wantedOf rfl (yieldedAt rfl rfl (show a.eval (.tmp 135) = .bool false from (hv 20 (by omega) _ rfl _ rfl)))) (execCall2 Try.func18 (by kernel_rfl) (by kernel_rfl) rfl (hv 21 (by omega) _ rfl _ rfl) (hv 22 (by omega) _ rfl _ rfl)) (sameI _ _ (n) _ _ X (Fv100b.on hS) (Fv30.on hS) (by intro i hi; rfl) (by omega)) fun e w' hh => ⟨_, hh.1, s, ⟨_, rfl, rfl⟩, (hS).trans ((hh.2).mono (hS).size), fun _ _ => rfl⟩
    | 24, _ => exact stepV rfl (wantedOf rfl (yieldedAt rfl rfl (show a.eval (.tmp 135) = .bool false from (hv 20 (by omega) _ rfl _ rfl)))) (execNot8 rfl (hv 23 (by omega) _ rfl _ rfl)) ⟨s, ⟨_, rfl, rfl⟩, hS, fun _ _ => rfl⟩
    | 25, _ => exact stepV rfl rfl (execPickF rfl (hv 20 (by omega) _ rfl _ rfl) (hv 24 (by omega) _ rfl _ rfl)) ⟨s, ⟨_, rfl, rfl⟩, hS, fun _ _ => rfl⟩
    | 26, _ => exact stepV rfl rfl (execMvB rfl (hv 25 (by omega) _ rfl _ rfl)) ⟨s, ⟨_, rfl, rfl⟩, hS, fun _ _ => rfl⟩
    | 27, _ => exact stepV rfl (wantedOf rfl (yieldedAt rfl rfl (show a.eval (.tmp 141) = .bool false from (hv 26 (by omega) _ rfl _ rfl)))) (execMvB rfl ((hf 22 (by decide)).trans t22)) ⟨s, ⟨_, rfl, rfl⟩, hS, fun _ _ => rfl⟩
    | 28, _ => exact stepV rfl (wantedOf rfl (yieldedAt rfl rfl (show a.eval (.tmp 141) = .bool false from (hv 26 (by omega) _ rfl _ rfl)))) (execMvB rfl ((hf 7 (by decide)).trans t7)) ⟨s, ⟨_, rfl, rfl⟩, hS, fun _ _ => rfl⟩
    | 29, _ => exact stepC rfl (wantedOf rfl (yieldedAt rfl rfl (show a.eval (.tmp 141) = .bool false from (hv 26 (by omega) _ rfl _ rfl)))) (execCall2 Try.func18 (by kernel_rfl) (by kernel_rfl) rfl (hv 27 (by omega) _ rfl _ rfl) (hv 28 (by omega) _ rfl _ rfl)) (sameI _ _ (n) _ _ X (Fv111b.on hS) (Fv30.on hS) (by intro i hi; rfl) (by omega)) fun e w' hh => ⟨_, hh.1, s, ⟨_, rfl, rfl⟩, (hS).trans ((hh.2).mono (hS).size), fun _ _ => rfl⟩
    | 30, _ => exact stepV rfl (wantedOf rfl (yieldedAt rfl rfl (show a.eval (.tmp 141) = .bool false from (hv 26 (by omega) _ rfl _ rfl)))) (execNot8 rfl (hv 29 (by omega) _ rfl _ rfl)) ⟨s, ⟨_, rfl, rfl⟩, hS, fun _ _ => rfl⟩
    | 31, _ => exact stepV rfl rfl (execPickF rfl (hv 26 (by omega) _ rfl _ rfl) (hv 30 (by omega) _ rfl _ rfl)) ⟨s, ⟨_, rfl, rfl⟩, hS, fun _ _ => rfl⟩
    | k_ + 32, h_ => exact absurd h_ (by simp)
  rintro _ a X15 h1 h2 h3 h4 hS
  replace hS : Below X14.heap.size X14 X15 := hS
  have bX := hS
  clear hS
  replace t7 := (h3 7 (by decide)).trans t7
  replace t8 := (h3 8 (by decide)).trans t8
  replace t10 := (h3 10 (by decide)).trans t10
  replace t11 := (h3 11 (by decide)).trans t11
  replace t16 := (h3 16 (by decide)).trans t16
  replace t17 := (h3 17 (by decide)).trans t17
  have t146 : a.eval (.tmp 146) = .bool false := h4 31 _ rfl _ rfl
  replace FP := (FP.on bX)
  replace FI := (FI.on bX)
  replace FJ := (FJ.on bX)
  replace Fv30 := (Fv30.on bX)
  replace Kv30 := Kv30
  replace Fv40 := (Fv40.on bX)
  replace Kv41 := Kv41
  replace Fv47 := (Fv47.on bX)
  replace Kv47 := Kv47
  replace FZp := (FZp.on bX)
  replace FZs := (FZs.on bX)
  replace Fv77 := (Fv77.on bX)
  replace Kv77 := Kv77
  replace Kv100 := Kv100
  replace Fv109 := (Fv109.on bX)
  replace Kv111 := Kv111
  replace Fv100b := (Fv100b.on bX)
  replace Fv111b := (Fv111b.on bX)
  replace Fv41b := (Fv41b.on bX)
  have ZX15 := bX.size
  replace BW := BW.trans (bX.mono BW.size)
  clear bX
  replace A := (⟨h1, h2.trans A.2⟩ : a.tmps.size = 161 ∧ a.defers = [])
  clear h1 h2 h3 h4
  clear t0 t1 t2 t9 t12 t15 t18 t19 t20 t21 t22 t23 t24
  refine wp_cond_false t146 ?_
  refine wp_skip ?_
  clear t146
  refine wp_seq ?_
  refine wp_region_sq (σ := Nat × Value × Value) 161 [(0, 147), (1, 148), (2, 149), (3, 150), (4, 151), (5, 152), (6, 153), (7, 154), (8, 155), (9, 156), (10, 157), (11, 158), (12, 159), (13, 160), (14, 6)] (fun j_ s X => match j_ with | 0 => Below X15.heap.size X15 X | 1 => Below X15.heap.size X15 X | 2 => Below X15.heap.size X15 X | 3 => Below X15.heap.size X15 X | 4 => Below X15.heap.size X15 X | 5 => Below X15.heap.size X15 X | 6 => Below X15.heap.size X15 X | 7 => Below X15.heap.size X15 X | 8 => Below X15.heap.size X15 X ∧ X.ownsRow (X15.heap.size) 3 1 (.slice (some ⟨s.1, 0, none⟩) 0 0) (0) (intsL 0 (fun _ => 0)) | 9 => Below X15.heap.size X15 X ∧ X.ownsRow (X15.heap.size) 3 1 (.slice (some ⟨s.1, 0, none⟩) 0 0) (0) (intsL 0 (fun _ => 0)) | 10 => Below X15.heap.size X15 X ∧ X.ownsRow (X15.heap.size) 3 1 s.2.1 (n) (intsL (n) (fun i => (dA p l cs i : Int))) | 11 => Below X15.heap.size X15 X ∧ X.ownsRow (X15.heap.size) 3 1 s.2.1 (n) (intsL (n) (fun i => (dA p l cs i : Int))) | 12 => Below X15.heap.size X15 X ∧ (SliceI X s.2.2 (n + m) (catI n (fun i => (dA p l cs i : Int)) (fun i => (dA (fun j => p (k + j)) (l - k) bs i : Int)))) | 13 => Below X15.heap.size X15 X ∧ (SliceI X s.2.2 (n + m) (catI n (fun i => (dA p l cs i : Int)) (fun i => (dA (fun j => p (k + j)) (l - k) bs i : Int)))) | 14 => Below X15.heap.size X15 X ∧ (SliceI X s.2.2 (n + m) (catI n (fun i => (dA p l cs i : Int)) (fun i => (dA (fun j => p (k + j)) (l - k) bs i : Int)))) | _ => Below X15.heap.size X15 X ∧ (SliceI X s.2.2 (n + m) (catI n (fun i => (dA p l cs i : Int)) (fun i => (dA (fun j => p (k + j)) (l - k) bs i : Int))))) (fun s => fun i_ => match i_ with | 0 => .int .i64 ((allK p l (catI n cs bs) (n + m) : Nat) : Int) | 1 => .int .i64 ((k : Nat) : Int) | 2 => .int .i64 ((allK (fun j => p (k + j)) (l - k) bs m : Nat) : Int) | 3 => .int .i64 ((k + allK (fun j => p (k + j)) (l - k) bs m : Nat) : Int) | 4 => .bool true | 5 => .bool true | 6 => v41 | 7 => .slice (some ⟨s.1, 0, none⟩) 0 0 | 8 => v30 | 9 => s.2.1 | 10 => v77 | 11 => s.2.2 | 12 => .bool true | 13 => .bool true | 14 => .bool true | _ => undef) (0, undef, undef) A.1 (by kernel_rfl) (by decide) (by decide) (Below.refl _ _) ?_ ?_
  · intro i_ hi_ s a X hf hv hn hS
    match i_, hi_ with
    | 0, _ => exact stepV rfl rfl (execMvB rfl ((hf 11 (by decide)).trans t11)) ⟨s, ⟨_, rfl, rfl⟩, hS, fun _ _ => rfl⟩
    | 1, _ => exact stepV rfl rfl (execMvB rfl ((hf 8 (by decide)).trans t8)) ⟨s, ⟨_, rfl, rfl⟩, hS, fun _ _ => rfl⟩
    | 2, _ => exact stepV rfl rfl (execMvB rfl ((hf 17 (by decide)).trans t17)) ⟨s, ⟨_, rfl, rfl⟩, hS, fun _ _ => rfl⟩
    | 3, _ => exact stepV rfl rfl (execAd8 (p := k) (q := allK (fun j => p (k + j)) (l - k) bs m) rfl (hv 1 (by omega) _ rfl _ rfl) (hv 2 (by omega) _ rfl _ rfl) (by omega)) ⟨s, ⟨_, rfl, rfl⟩, hS, fun _ _ => rfl⟩
    | 4, _ => exact stepV rfl rfl (execDec (execEqN (p := allK p l (catI n cs bs) (n + m)) (q := k + allK (fun j => p (k + j)) (l - k) bs m) rfl (hv 0 (by omega) _ rfl _ rfl) (hv 3 (by omega) _ rfl _ rfl)) (decide_eq_true (by omega))) ⟨s, ⟨_, rfl, rfl⟩, hS, fun _ _ => rfl⟩
    | 5, _ => exact stepV rfl rfl (execMvB rfl (hv 4 (by omega) _ rfl _ rfl)) ⟨s, ⟨_, rfl, rfl⟩, hS, fun _ _ => rfl⟩
    | 6, _ => exact stepV rfl (wantedOf rfl (yieldedAt rfl rfl (show a.eval (.tmp 152) = .bool true from (hv 5 (by omega) _ rfl _ rfl)))) (execMvB rfl ((hf 10 (by decide)).trans t10)) ⟨s, ⟨_, rfl, rfl⟩, hS, fun _ _ => rfl⟩
    | 7, _ =>
      refine stepV rfl (wantedOf rfl (yieldedAt rfl rfl (show a.eval (.tmp 152) = .bool true from (hv 5 (by omega) _ rfl _ rfl)))) (execBs0I rfl) ⟨(X.heap.size, s.2.1, s.2.2), ⟨_, rfl, rfl⟩, ⟨(hS).trans (((belNew X _)).mono (hS).size), ownD_base (own_noneI X _) (hS).size⟩, fun i hi => ?_⟩
      match i, hi with
      | 0, _ => rfl
      | 1, _ => rfl
      | 2, _ => rfl
      | 3, _ => rfl
      | 4, _ => rfl
      | 5, _ => rfl
      | 6, _ => rfl
      | n_ + 7, h_ => omega
    | 8, _ => exact stepV rfl (wantedOf rfl (yieldedAt rfl rfl (show a.eval (.tmp 152) = .bool true from (hv 5 (by omega) _ rfl _ rfl)))) (execMvB rfl ((hf 7 (by decide)).trans t7)) ⟨s, ⟨_, rfl, rfl⟩, hS, fun _ _ => rfl⟩
    | 9, _ =>
      refine stepAppIs (f := fun _ => 0) (g := fun i => (dA p l cs i : Int)) rfl (wantedOf rfl (yieldedAt rfl rfl (show a.eval (.tmp 152) = .bool true from (hv 5 (by omega) _ rfl _ rfl)))) rfl (hv 7 (by omega) _ rfl _ rfl) (hv 8 (by omega) _ rfl _ rfl) hS.2 (Fv30.on hS.1) Kv30 (by omega) (hS.1).size fun v' W' own' gr => ⟨(s.1, v', s.2.2), ⟨_, rfl, rfl⟩, ⟨(hS.1).grown gr (hS.1).size (fun k hk => (hS.2.lt k hk).1), own_cat0 own'⟩, fun i hi => ?_⟩
      match i, hi with
      | 0, _ => rfl
      | 1, _ => rfl
      | 2, _ => rfl
      | 3, _ => rfl
      | 4, _ => rfl
      | 5, _ => rfl
      | 6, _ => rfl
      | 7, _ => rfl
      | 8, _ => rfl
      | n_ + 9, h_ => omega
    | 10, _ => exact stepV rfl (wantedOf rfl (yieldedAt rfl rfl (show a.eval (.tmp 152) = .bool true from (hv 5 (by omega) _ rfl _ rfl)))) (execMvB rfl ((hf 16 (by decide)).trans t16)) ⟨s, ⟨_, rfl, rfl⟩, hS, fun _ _ => rfl⟩
    | 11, _ =>
      refine stepAppIs (f := fun i => (dA p l cs i : Int)) (g := fun i => (dA (fun j => p (k + j)) (l - k) bs i : Int)) rfl (wantedOf rfl (yieldedAt rfl rfl (show a.eval (.tmp 152) = .bool true from (hv 5 (by omega) _ rfl _ rfl)))) rfl (hv 9 (by omega) _ rfl _ rfl) (hv 10 (by omega) _ rfl _ rfl) hS.2 (Fv77.on hS.1) Kv77 (by omega) (hS.1).size fun v' W' own' gr => ⟨(s.1, s.2.1, v'), ⟨_, rfl, rfl⟩, ⟨(hS.1).grown gr (hS.1).size (fun k hk => (hS.2.lt k hk).1), own_ints own' (catI_fits (dA_fits _ _ _ _) (dA_fits _ _ _ _))⟩, fun i hi => ?_⟩
      match i, hi with
      | 0, _ => rfl
      | 1, _ => rfl
      | 2, _ => rfl
      | 3, _ => rfl
      | 4, _ => rfl
      | 5, _ => rfl
      | 6, _ => rfl
      | 7, _ => rfl
      | 8, _ => rfl
      | 9, _ => rfl
      | 10, _ => rfl
      | n_ + 11, h_ => omega
    | 12, _ => exact stepC rfl (wantedOf rfl (yieldedAt rfl rfl (show a.eval (.tmp 152) = .bool true from (hv 5 (by omega) _ rfl _ rfl)))) (execCall2 Try.func18 (by kernel_rfl) (by kernel_rfl) rfl (hv 6 (by omega) _ rfl _ rfl) (hv 11 (by omega) _ rfl _ rfl)) (sameI _ _ (n + m) _ _ X (Fv41b.on hS.1) hS.2 (by intro i hi; rfl) (by omega)) fun e w' hh => ⟨_, hh.1, s, ⟨_, rfl, rfl⟩, ⟨(hS.1).trans ((hh.2).mono (hS.1).size), (hS.2.on hh.2)⟩, fun _ _ => rfl⟩
    | 13, _ => exact stepV rfl rfl (execPickT rfl (hv 5 (by omega) _ rfl _ rfl) (hv 12 (by omega) _ rfl _ rfl)) ⟨s, ⟨_, rfl, rfl⟩, hS, fun _ _ => rfl⟩
    | 14, _ => exact stepV rfl rfl (execAsgB rfl (hv 13 (by omega) _ rfl _ rfl)) ⟨s, ⟨_, rfl, rfl⟩, hS, fun _ _ => rfl⟩
    | k_ + 15, h_ => exact absurd h_ (by simp)
  rintro ⟨g154, v156, v158⟩ a X17 h1 h2 h3 h4 hS
  replace hS : Below X15.heap.size X15 X17 ∧ (SliceI X17 v158 (n + m) (catI n (fun i => (dA p l cs i : Int)) (fun i => (dA (fun j => p (k + j)) (l - k) bs i : Int)))) := hS
  obtain ⟨bX, Fv158⟩ := hS
  have t6 : a.eval (.tmp 6) = .bool true := h4 14 _ rfl _ rfl
  replace FP := (FP.on bX)
  replace FI := (FI.on bX)
  replace FJ := (FJ.on bX)
  replace Fv30 := (Fv30.on bX)
  replace Kv30 := Kv30
  replace Fv40 := (Fv40.on bX)
  replace Kv41 := Kv41
  replace Fv47 := (Fv47.on bX)
  replace Kv47 := Kv47
  replace FZp := (FZp.on bX)
  replace FZs := (FZs.on bX)
  replace Fv77 := (Fv77.on bX)
  replace Kv77 := Kv77
  replace Kv100 := Kv100
  replace Fv109 := (Fv109.on bX)
  replace Kv111 := Kv111
  replace Fv100b := (Fv100b.on bX)
  replace Fv111b := (Fv111b.on bX)
  replace Fv41b := (Fv41b.on bX)
  have ZX17 := bX.size
  replace BW := BW.trans (bX.mono BW.size)
  clear bX
  replace A := (⟨h1, h2.trans A.2⟩ : a.tmps.size = 161 ∧ a.defers = [])
  clear h1 h2 h3 h4
  clear t7 t8 t10 t11 t16 t17
  refine wp_ret ?_
  refine bodyPost_ret (results_tmp rfl _ _ _) A.2 ⟨?_, BW⟩
  show Ending.returned (a.eval (.tmp 6)) = _
  rw [t6]
theorem pieces_any (I : Impl) (p : Nat → Nat) (l : Nat) (cs bs : Nat → Int) (n m : Nat) (pv av bv : Value) (V : World) (hp : SliceN V pv l p) (hl : l ≤ 1048576) (hz : ∀ l c, pv = .slice none l c → c = 0) (hb : SliceI V av n cs) (hn17 : n ≤ 1048576) (hza : ∀ l c, av = .slice none l c → c = 0) (hwv : SliceI V bv m bs) (hm17 : m ≤ 1048576) (hzb : ∀ l c, bv = .slice none l c → c = 0) : Calls Try.prog 7 #[pv, av, bv] V fun e w' => e = .returned (.bool true) ∧ Below V.heap.size V w' := by
  by_cases hE0 : allE p l cs n = 0
  · by_cases hG : allE (fun j => p (plA p l cs n + j)) (l - plA p l cs n) bs m = 0
    · exact pieces_both I p l cs bs n m pv av bv V hp hl hz hb hn17 hza hwv hm17 hzb hE0 hG
    · exact pieces_two I p l cs bs n m pv av bv V hp hl hz hb hn17 hza hwv hm17 hzb hE0 hG
  · exact pieces_one I p l cs bs n m pv av bv V hp hl hz hb hn17 hza hwv hm17 hzb hE0
end Go.Proofs.Ytpclecbhfjalnaa.Drw
