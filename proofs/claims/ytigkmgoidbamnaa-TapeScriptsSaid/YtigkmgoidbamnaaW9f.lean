import Derived.Test.YtigkmgoidbamnaaW9e
namespace Go.Proofs.Ytigkmgoidbamnaa.Tap
open Go.RowKit Gf8 Aes By8 Cel Cf
/- TapeScripts: Take. Written by tools/mkW9f.py. -/

theorem om_open {W : World} {B n : Nat} {v : Value} {p : Nat → Nat} (h : OwnM W B v n p) : ∃ g c, v = .slice (some ⟨g, 0, none⟩) n c ∧ B ≤ g ∧ c ≤ maxLen := by
  obtain ⟨g, cap, cur, fz, e, hB, _, _, hm, _⟩ := h
  exact ⟨g, cap, e, hB, hm⟩
set_option maxRecDepth 100000 in
set_option maxHeartbeats 4000000 in
theorem scr_case2 (V W : World) (tv bv : Value) (m : Nat) (P : Nat → Nat → Nat) (Ln At : Nat → Nat) (pvs : Nat → Value) (FT : TB V tv bv m P Ln At pvs W) (hm : m ≤ 3000000000000) (g6 : Nat) (kd tt nn : Int) (pw : Value) (F6 : W.heap[g6]? = some (.cells (stC kd tt nn pw) 32)) (BW : Below V.heap.size V W) (sc : Value) (n i : Nat) (k : Nat) (hk : k < m) (g8 g9 : Nat) (F8 : W.heap[g8]? = some (.cells (tpC (P k) (Ln k) (At k)) 25)) (F9 : W.heap[g9]? = some (.cells (bkC (pvs k) (At k)) 29)) (hn9 : bv.ownBlock ≠ some g9) (h9V : V.heap.size ≤ g9)
    (a : Act) (A : a.tmps.size = 270 ∧ a.defers = []) (t3 : a.eval (.tmp 3) = tv) (t4 : a.eval (.tmp 4) = bv) (t6 : a.eval (.tmp 6) = .pointer (some ⟨g6, 0, none⟩)) (t39 : a.eval (.tmp 39) = sc) (t40 : a.eval (.tmp 40) = .int .i64 ((n : Nat) : Int)) (t41 : a.eval (.tmp 41) = .int .i64 ((i : Nat) : Int)) (t8 : a.eval (.tmp 8) = .pointer (some ⟨g8, 0, none⟩)) (t9 : a.eval (.tmp 9) = .pointer (some ⟨g9, 0, none⟩))
    (Q : Exit → Act → World → Prop) (hQ : ∀ (a : Act) (X : World) (tv bv : Value) (m' : Nat) (P : Nat → Nat → Nat) (Ln At : Nat → Nat) (pvs : Nat → Value), (a.tmps.size = 270 ∧ a.defers = []) → a.eval (.tmp 3) = tv → a.eval (.tmp 4) = bv → a.eval (.tmp 6) = .pointer (some ⟨g6, 0, none⟩) → a.eval (.tmp 39) = sc → a.eval (.tmp 40) = .int .i64 ((n : Nat) : Int) → a.eval (.tmp 41) = .int .i64 ((i : Nat) : Int) → Below V.heap.size V X → TB V tv bv m' P Ln At pvs X → m' ≤ m + 1 → X.heap[g6]? = some (.cells (stC kd tt nn pw) 32) → Q .normal a X) :
    (findR 30 (Try.f3.body.getD .skip)).wp Try.prog Q a W := by
  obtain ⟨hat, hlk, hsk, hzk⟩ := FT.ok k hk
  have hpk := hsk.bytes
  have spk : ∃ g l k_, pvs k = .slice g l k_ := by obtain ⟨g, c, e⟩ := shp9 hsk; exact ⟨g, _, c, e⟩
  by_cases hc : 0 ≤ nn ∧ (At k : Int) + nn ≤ Ln k
  · obtain ⟨n0, rfl⟩ : ∃ n0 : Nat, nn = n0 := ⟨nn.toNat, by omega⟩
    have hcn : At k + n0 ≤ Ln k := by omega
    have hskW := hsk.on BW
    have ZW0 := BW.size
    refine wp_seq ?_
    refine wp_region_sq (σ := Value × Nat) 270 [(0, 137), (1, 138), (2, 139), (3, 140), (4, 136), (5, 141), (6, 142), (7, 143), (8, 20), (9, 19), (11, 21)] (fun j_ s X => match j_ with | 0 => Below W.heap.size W X | 1 => Below W.heap.size W X | 2 => Below W.heap.size W X | 3 => Below W.heap.size W X | 4 => Below W.heap.size W X ∧ OwnM X (W.heap.size) s.1 (n0) (fun j => (P k) ((At k) + j)) | 5 => Below W.heap.size W X ∧ OwnM X (W.heap.size) s.1 (n0) (fun j => (P k) ((At k) + j)) | 6 => Below W.heap.size W X ∧ OwnM X (W.heap.size) s.1 (n0) (fun j => (P k) ((At k) + j)) | 7 => Below W.heap.size W X ∧ OwnM X (W.heap.size) s.1 (n0) (fun j => (P k) ((At k) + j)) | 8 => Below W.heap.size W X ∧ OwnM X (W.heap.size) s.1 (n0) (fun j => (P k) ((At k) + j)) | 9 => Below W.heap.size W X ∧ OwnM X (W.heap.size) s.1 (n0) (fun j => (P k) ((At k) + j)) ∧ X.heap[s.2]? = some (.cells (tpC (fun _ => 0) 0 0) 25) ∧ (W.heap.size ≤ s.2) | 10 => Below W.heap.size W X ∧ OwnM X (W.heap.size) s.1 (n0) (fun j => (P k) ((At k) + j)) ∧ X.heap[s.2]? = some (.cells (tpC (fun _ => 0) 0 0) 25) ∧ (W.heap.size ≤ s.2) | 11 => Below W.heap.size W X ∧ OwnM X (W.heap.size) s.1 (n0) (fun j => (P k) ((At k) + j)) ∧ (W.heap.size ≤ s.2) ∧ X.heap[s.2]? = some (.cells (tpC (P k) (Ln k) ((At k) + n0)) 25) | _ => Below W.heap.size W X ∧ OwnM X (W.heap.size) s.1 (n0) (fun j => (P k) ((At k) + j)) ∧ (W.heap.size ≤ s.2) ∧ X.heap[s.2]? = some (.cells (tpC (P k) (Ln k) ((At k) + n0)) 25)) (fun s => fun i_ => match i_ with | 0 => .agg (tpC (P k) (Ln k) (At k)) | 1 => .pointer (some ⟨g6, 2, none⟩) | 2 => .int .i64 ((n0 : Nat) : Int) | 3 => .tuple #[s.1, .agg (tpC (P k) (Ln k) ((At k) + n0)), .int .i64 ((0 : Nat) : Int)] | 4 => .tuple #[s.1, .agg (tpC (P k) (Ln k) ((At k) + n0)), .int .i64 ((0 : Nat) : Int)] | 5 => s.1 | 6 => .agg (tpC (P k) (Ln k) ((At k) + n0)) | 7 => .int .i64 ((0 : Nat) : Int) | 8 => .pointer (some ⟨s.2, 0, none⟩) | 9 => s.1 | 10 => undef | 11 => .int .i64 ((0 : Nat) : Int) | _ => undef) (undef, 0) A.1 (by kernel_rfl) (by decide) (by decide) (Below.refl _ _) ?_ ?_
    · intro i_ hi_ s a X hf hv hn hS
      match i_, hi_ with
      | 0, _ => exact stepV rfl rfl (execLdTp rfl ((hf 8 (by decide)).trans t8) (on9 F8 hS)) ⟨s, ⟨_, rfl, rfl⟩, hS, fun _ _ => rfl⟩
      | 1, _ => exact stepV rfl rfl (execFldS2 rfl ((hf 6 (by decide)).trans t6)) ⟨s, ⟨_, rfl, rfl⟩, hS, fun _ _ => rfl⟩
      | 2, _ => exact stepV rfl rfl (execLd3 rfl (hv 1 (by omega) _ rfl _ rfl) (stC_at (on9 F6 hS)).2.2.1) ⟨s, ⟨_, rfl, rfl⟩, hS, fun _ _ => rfl⟩
      | 3, _ =>
        refine stepC rfl rfl (execCall2 Try.func13 (by kernel_rfl) (by kernel_rfl) rfl (hv 0 (by omega) _ rfl _ rfl) (hv 2 (by omega) _ rfl _ rfl)) (take_ok (P k) (Ln k) (At k) n0 X (by omega) (by omega) hpk) fun e w' hh => ?_
        obtain ⟨r_, he, hk, hb⟩ := hh
        refine ⟨_, he, (r_, s.2), ⟨_, rfl, rfl⟩, ⟨(hS).trans ((hb).mono (hS).size), hk.base (hS).size⟩, fun i hi => ?_⟩
        match i, hi with
        | 0, _ => rfl
        | 1, _ => rfl
        | 2, _ => rfl
        | n_ + 3, h_ => omega
      | 4, _ => exact stepV rfl rfl (execMvB rfl (hv 3 (by omega) _ rfl _ rfl)) ⟨s, ⟨_, rfl, rfl⟩, hS, fun _ _ => rfl⟩
      | 5, _ => exact stepV rfl rfl (execExtT rfl (hv 4 (by omega) _ rfl _ rfl) rfl) ⟨s, ⟨_, rfl, rfl⟩, hS, fun _ _ => rfl⟩
      | 6, _ => exact stepV rfl rfl (execExtT rfl (hv 4 (by omega) _ rfl _ rfl) rfl) ⟨s, ⟨_, rfl, rfl⟩, hS, fun _ _ => rfl⟩
      | 7, _ => exact stepV rfl rfl (execExtT rfl (hv 4 (by omega) _ rfl _ rfl) rfl) ⟨s, ⟨_, rfl, rfl⟩, hS, fun _ _ => rfl⟩
      | 8, _ =>
        refine stepV rfl rfl (execAllTp rfl (fun _ => 0)) ⟨(s.1, X.heap.size), ⟨_, rfl, rfl⟩, ⟨(hS.1).trans (((belNew X _)).mono (hS.1).size), (hS.2.on (belNew X _)), heapNew X _, (hS.1).size⟩, fun i hi => ?_⟩
        match i, hi with
        | 0, _ => rfl
        | 1, _ => rfl
        | 2, _ => rfl
        | 3, _ => rfl
        | 4, _ => rfl
        | 5, _ => rfl
        | 6, _ => rfl
        | 7, _ => rfl
        | n_ + 8, h_ => omega
      | 9, _ => exact stepV rfl rfl (execAsgB rfl (hv 5 (by omega) _ rfl _ rfl)) ⟨s, ⟨_, rfl, rfl⟩, hS, fun _ _ => rfl⟩
      | 10, _ => exact stepS rfl rfl (execStTp rfl (hv 8 (by omega) _ rfl _ rfl) (hv 6 (by omega) _ rfl _ rfl) hS.2.2.1 rfl) ⟨s, ⟨_, rfl, rfl⟩, ⟨below4 hS.1 hS.2.2.2 _, (hS.2.1.set hS.2.2.1 (by decide)), hS.2.2.2, setRow_heap _ _ _ _ _ _ hS.2.2.1⟩, fun _ _ => rfl⟩
      | 11, _ => exact stepV rfl rfl (execAsgB rfl (hv 7 (by omega) _ rfl _ rfl)) ⟨s, ⟨_, rfl, rfl⟩, hS, fun _ _ => rfl⟩
      | k_ + 12, h_ => exact absurd h_ (by simp)
    rintro ⟨v140, g20⟩ a X30 h1 h2 h3 h4 hS
    replace hS : Below W.heap.size W X30 ∧ OwnM X30 (W.heap.size) v140 (n0) (fun j => (P k) ((At k) + j)) ∧ (W.heap.size ≤ g20) ∧ X30.heap[g20]? = some (.cells (tpC (P k) (Ln k) ((At k) + n0)) 25) := hS
    obtain ⟨bX, Fv140, Fge20, F20⟩ := hS
    replace t3 := (h3 3 (by decide)).trans t3
    replace t4 := (h3 4 (by decide)).trans t4
    replace t6 := (h3 6 (by decide)).trans t6
    replace t9 := (h3 9 (by decide)).trans t9
    replace t39 := (h3 39 (by decide)).trans t39
    replace t40 := (h3 40 (by decide)).trans t40
    replace t41 := (h3 41 (by decide)).trans t41
    replace t8 := (h3 8 (by decide)).trans t8
    have t19 : a.eval (.tmp 19) = v140 := h4 9 _ rfl _ rfl
    have t20 : a.eval (.tmp 20) = .pointer (some ⟨g20, 0, none⟩) := h4 8 _ rfl _ rfl
    have t21 : a.eval (.tmp 21) = .int .i64 ((0 : Nat) : Int) := h4 11 _ rfl _ rfl
    replace FT := (FT.on bX)
    replace F6 := (on9 F6 bX)
    replace F8 := (on9 F8 bX)
    replace F9 := (on9 F9 bX)
    replace hskW := (hskW.on bX)
    have ZX30 := bX.size
    replace BW := BW.trans (bX.mono BW.size)
    clear bX
    replace A := (⟨h1, h2.trans A.2⟩ : a.tmps.size = 270 ∧ a.defers = [])
    clear h1 h2 h3 h4
    refine wp_seq ?_
    refine wp_region_sq (σ := Value) 270 [(0, 145), (1, 146), (2, 147), (3, 148), (4, 149), (5, 150), (6, 151), (7, 144), (8, 152), (9, 153), (10, 154), (11, 22), (12, 23), (13, 24)] (fun j_ s X => match j_ with | 0 => Below X30.heap.size X30 X | 1 => Below X30.heap.size X30 X | 2 => Below X30.heap.size X30 X | 3 => Below X30.heap.size X30 X | 4 => Below X30.heap.size X30 X | 5 => Below X30.heap.size X30 X | 6 => Below X30.heap.size X30 X | 7 => Below X30.heap.size X30 X ∧ SliceN X s (n0) (fun j => P k (At k + j)) | 8 => Below X30.heap.size X30 X ∧ SliceN X s (n0) (fun j => P k (At k + j)) | 9 => Below X30.heap.size X30 X ∧ SliceN X s (n0) (fun j => P k (At k + j)) | 10 => Below X30.heap.size X30 X ∧ SliceN X s (n0) (fun j => P k (At k + j)) | 11 => Below X30.heap.size X30 X ∧ SliceN X s (n0) (fun j => P k (At k + j)) | 12 => Below X30.heap.size X30 X ∧ SliceN X s (n0) (fun j => P k (At k + j)) | 13 => Below X30.heap.size X30 X ∧ SliceN X s (n0) (fun j => P k (At k + j)) | _ => Below X30.heap.size X30 X ∧ SliceN X s (n0) (fun j => P k (At k + j))) (fun s => fun i_ => match i_ with | 0 => .pointer (some ⟨g9, 0, none⟩) | 1 => (pvs k) | 2 => .pointer (some ⟨g9, 1, none⟩) | 3 => .int .i64 (((At k) : Nat) : Int) | 4 => .pointer (some ⟨g6, 2, none⟩) | 5 => .int .i64 ((n0 : Nat) : Int) | 6 => .tuple #[s, .int .i64 ((At k + n0 : Nat) : Int), .int .i64 ((0 : Nat) : Int)] | 7 => .tuple #[s, .int .i64 ((At k + n0 : Nat) : Int), .int .i64 ((0 : Nat) : Int)] | 8 => s | 9 => .int .i64 ((At k + n0 : Nat) : Int) | 10 => .int .i64 ((0 : Nat) : Int) | 11 => s | 12 => .int .i64 ((At k + n0 : Nat) : Int) | 13 => .int .i64 ((0 : Nat) : Int) | _ => undef) undef A.1 (by kernel_rfl) (by decide) (by decide) (Below.refl _ _) ?_ ?_
    · intro i_ hi_ s a X hf hv hn hS
      match i_, hi_ with
      | 0, _ => exact stepV rfl rfl (execFldK0 rfl ((hf 9 (by decide)).trans t9)) ⟨s, ⟨_, rfl, rfl⟩, hS, fun _ _ => rfl⟩
      | 1, _ => exact stepV rfl rfl (execLdL rfl (hv 0 (by omega) _ rfl _ rfl) (bkC_at (on9 F9 hS)).1) ⟨s, ⟨_, rfl, rfl⟩, hS, fun _ _ => rfl⟩
      | 2, _ => exact stepV rfl rfl (execFldK1 rfl ((hf 9 (by decide)).trans t9)) ⟨s, ⟨_, rfl, rfl⟩, hS, fun _ _ => rfl⟩
      | 3, _ => exact stepV rfl rfl (execLd3 rfl (hv 2 (by omega) _ rfl _ rfl) (bkC_at (on9 F9 hS)).2) ⟨s, ⟨_, rfl, rfl⟩, hS, fun _ _ => rfl⟩
      | 4, _ => exact stepV rfl rfl (execFldS2 rfl ((hf 6 (by decide)).trans t6)) ⟨s, ⟨_, rfl, rfl⟩, hS, fun _ _ => rfl⟩
      | 5, _ => exact stepV rfl rfl (execLd3 rfl (hv 4 (by omega) _ rfl _ rfl) (stC_at (on9 F6 hS)).2.2.1) ⟨s, ⟨_, rfl, rfl⟩, hS, fun _ _ => rfl⟩
      | 6, _ =>
        refine stepC rfl rfl (execCall3 Try.func14 (by kernel_rfl) (by kernel_rfl) rfl (hv 1 (by omega) _ rfl _ rfl) (hv 3 (by omega) _ rfl _ rfl) (hv 5 (by omega) _ rfl _ rfl)) (rtake_ok (P k) (Ln k) (At k) n0 _ X (hskW.on hS) hzk hlk hcn) fun e w' hh => ?_
        obtain ⟨r_, he, hk, hb⟩ := hh
        refine ⟨_, he, r_, ⟨_, rfl, rfl⟩, ⟨(hS).trans ((hb).mono (hS).size), hk⟩, fun i hi => ?_⟩
        match i, hi with
        | 0, _ => rfl
        | 1, _ => rfl
        | 2, _ => rfl
        | 3, _ => rfl
        | 4, _ => rfl
        | 5, _ => rfl
        | n_ + 6, h_ => omega
      | 7, _ => exact stepV rfl rfl (execMvB rfl (hv 6 (by omega) _ rfl _ rfl)) ⟨s, ⟨_, rfl, rfl⟩, hS, fun _ _ => rfl⟩
      | 8, _ => exact stepV rfl rfl (execExtT rfl (hv 7 (by omega) _ rfl _ rfl) rfl) ⟨s, ⟨_, rfl, rfl⟩, hS, fun _ _ => rfl⟩
      | 9, _ => exact stepV rfl rfl (execExtT rfl (hv 7 (by omega) _ rfl _ rfl) rfl) ⟨s, ⟨_, rfl, rfl⟩, hS, fun _ _ => rfl⟩
      | 10, _ => exact stepV rfl rfl (execExtT rfl (hv 7 (by omega) _ rfl _ rfl) rfl) ⟨s, ⟨_, rfl, rfl⟩, hS, fun _ _ => rfl⟩
      | 11, _ => exact stepV rfl rfl (execAsgB rfl (hv 8 (by omega) _ rfl _ rfl)) ⟨s, ⟨_, rfl, rfl⟩, hS, fun _ _ => rfl⟩
      | 12, _ => exact stepV rfl rfl (execAsgB rfl (hv 9 (by omega) _ rfl _ rfl)) ⟨s, ⟨_, rfl, rfl⟩, hS, fun _ _ => rfl⟩
      | 13, _ => exact stepV rfl rfl (execAsgB rfl (hv 10 (by omega) _ rfl _ rfl)) ⟨s, ⟨_, rfl, rfl⟩, hS, fun _ _ => rfl⟩
      | k_ + 14, h_ => exact absurd h_ (by simp)
    rintro v151 a X31 h1 h2 h3 h4 hS
    replace hS : Below X30.heap.size X30 X31 ∧ SliceN X31 v151 (n0) (fun j => P k (At k + j)) := hS
    obtain ⟨bX, Fv151⟩ := hS
    replace t3 := (h3 3 (by decide)).trans t3
    replace t4 := (h3 4 (by decide)).trans t4
    replace t6 := (h3 6 (by decide)).trans t6
    replace t9 := (h3 9 (by decide)).trans t9
    replace t39 := (h3 39 (by decide)).trans t39
    replace t40 := (h3 40 (by decide)).trans t40
    replace t41 := (h3 41 (by decide)).trans t41
    replace t19 := (h3 19 (by decide)).trans t19
    replace t20 := (h3 20 (by decide)).trans t20
    replace t21 := (h3 21 (by decide)).trans t21
    have t22 : a.eval (.tmp 22) = v151 := h4 11 _ rfl _ rfl
    have t23 : a.eval (.tmp 23) = .int .i64 ((At k + n0 : Nat) : Int) := h4 12 _ rfl _ rfl
    have t24 : a.eval (.tmp 24) = .int .i64 ((0 : Nat) : Int) := h4 13 _ rfl _ rfl
    replace FT := (FT.on bX)
    replace F6 := (on9 F6 bX)
    replace F8 := (on9 F8 bX)
    replace F9 := (on9 F9 bX)
    replace hskW := (hskW.on bX)
    replace Fv140 := (Fv140.on bX)
    replace Fge20 := Fge20
    replace F20 := (on9 F20 bX)
    have ZX31 := bX.size
    replace BW := BW.trans (bX.mono BW.size)
    clear bX
    replace A := (⟨h1, h2.trans A.2⟩ : a.tmps.size = 270 ∧ a.defers = [])
    clear h1 h2 h3 h4
    clear t8
    refine wp_seq ?_
    refine wp_seq ?_
    refine wp_region_sq (σ := Unit) 270 [(0, 155), (1, 156), (2, 157), (3, 158), (4, 159), (5, 160), (6, 161), (7, 162), (8, 163)] (fun j_ s X => match j_ with | 0 => Below X31.heap.size X31 X | 1 => Below X31.heap.size X31 X | 2 => Below X31.heap.size X31 X | 3 => Below X31.heap.size X31 X | 4 => Below X31.heap.size X31 X | 5 => Below X31.heap.size X31 X | 6 => Below X31.heap.size X31 X | 7 => Below X31.heap.size X31 X | 8 => Below X31.heap.size X31 X | _ => Below X31.heap.size X31 X) (fun s => fun i_ => match i_ with | 0 => v140 | 1 => v151 | 2 => .bool true | 3 => .bool false | 4 => .bool false | 5 => .int .i64 ((0 : Nat) : Int) | 6 => .int .i64 ((0 : Nat) : Int) | 7 => .bool false | 8 => .bool false | _ => undef) () A.1 (by kernel_rfl) (by decide) (by decide) (Below.refl _ _) ?_ ?_
    · intro i_ hi_ s a X hf hv hn hS
      match i_, hi_ with
      | 0, _ => exact stepV rfl rfl (execMvB rfl ((hf 19 (by decide)).trans t19)) ⟨s, ⟨_, rfl, rfl⟩, hS, fun _ _ => rfl⟩
      | 1, _ => exact stepV rfl rfl (execMvB rfl ((hf 22 (by decide)).trans t22)) ⟨s, ⟨_, rfl, rfl⟩, hS, fun _ _ => rfl⟩
      | 2, _ => exact stepC rfl rfl (execCall2 Try.func10 (by kernel_rfl) (by kernel_rfl) rfl (hv 0 (by omega) _ rfl _ rfl) (hv 1 (by omega) _ rfl _ rfl)) (same_true _ _ (n0) _ _ X (Fv140.on hS).slice (Fv151.on hS) (by intro j hj; rfl)) fun e w' hh => ⟨_, hh.1, s, ⟨_, rfl, rfl⟩, by rw [hh.2]; exact hS, fun _ _ => rfl⟩
      | 3, _ => exact stepV rfl rfl (execNot8 rfl (hv 2 (by omega) _ rfl _ rfl)) ⟨s, ⟨_, rfl, rfl⟩, hS, fun _ _ => rfl⟩
      | 4, _ => exact stepV rfl rfl (execMvB rfl (hv 3 (by omega) _ rfl _ rfl)) ⟨s, ⟨_, rfl, rfl⟩, hS, fun _ _ => rfl⟩
      | 5, _ => exact stepV rfl (wantedOf rfl (yieldedAt rfl rfl (show a.eval (.tmp 159) = .bool false from (hv 4 (by omega) _ rfl _ rfl)))) (execMvB rfl ((hf 21 (by decide)).trans t21)) ⟨s, ⟨_, rfl, rfl⟩, hS, fun _ _ => rfl⟩
      | 6, _ => exact stepV rfl (wantedOf rfl (yieldedAt rfl rfl (show a.eval (.tmp 159) = .bool false from (hv 4 (by omega) _ rfl _ rfl)))) (execMvB rfl ((hf 24 (by decide)).trans t24)) ⟨s, ⟨_, rfl, rfl⟩, hS, fun _ _ => rfl⟩
      | 7, _ => exact stepV rfl (wantedOf rfl (yieldedAt rfl rfl (show a.eval (.tmp 159) = .bool false from (hv 4 (by omega) _ rfl _ rfl)))) (execDec (execNeN (p := 0) (q := 0) rfl (hv 5 (by omega) _ rfl _ rfl) (hv 6 (by omega) _ rfl _ rfl)) (decide_eq_false (by omega))) ⟨s, ⟨_, rfl, rfl⟩, hS, fun _ _ => rfl⟩
      | 8, _ => exact stepV rfl rfl (execPickF rfl (hv 4 (by omega) _ rfl _ rfl) (hv 7 (by omega) _ rfl _ rfl)) ⟨s, ⟨_, rfl, rfl⟩, hS, fun _ _ => rfl⟩
      | k_ + 9, h_ => exact absurd h_ (by simp)
    rintro _ a X32 h1 h2 h3 h4 hS
    replace hS : Below X31.heap.size X31 X32 := hS
    have bX := hS
    clear hS
    replace t3 := (h3 3 (by decide)).trans t3
    replace t4 := (h3 4 (by decide)).trans t4
    replace t6 := (h3 6 (by decide)).trans t6
    replace t9 := (h3 9 (by decide)).trans t9
    replace t19 := (h3 19 (by decide)).trans t19
    replace t20 := (h3 20 (by decide)).trans t20
    replace t23 := (h3 23 (by decide)).trans t23
    replace t24 := (h3 24 (by decide)).trans t24
    replace t39 := (h3 39 (by decide)).trans t39
    replace t40 := (h3 40 (by decide)).trans t40
    replace t41 := (h3 41 (by decide)).trans t41
    have t163 : a.eval (.tmp 163) = .bool false := h4 8 _ rfl _ rfl
    replace FT := (FT.on bX)
    replace F6 := (on9 F6 bX)
    replace F8 := (on9 F8 bX)
    replace F9 := (on9 F9 bX)
    replace hskW := (hskW.on bX)
    replace Fv140 := (Fv140.on bX)
    replace Fge20 := Fge20
    replace F20 := (on9 F20 bX)
    replace Fv151 := (Fv151.on bX)
    have ZX32 := bX.size
    replace BW := BW.trans (bX.mono BW.size)
    clear bX
    replace A := (⟨h1, h2.trans A.2⟩ : a.tmps.size = 270 ∧ a.defers = [])
    clear h1 h2 h3 h4
    clear t21 t22
    refine wp_cond_false t163 ?_
    refine wp_skip ?_
    clear t163
    obtain ⟨gl, cl, e140, hgl0, hcl⟩ := om_open Fv140
    subst e140
    have hgl := Nat.le_trans ZW0 hgl0
    have FB := byr_om Fv140
    clear Fv140 Fv151 hskW
    refine wp_seq ?_
    refine wp_seq ?_
    refine wp_region_sq (σ := Unit) 270 [(0, 164), (1, 165), (2, 166)] (fun j_ s X => match j_ with | 0 => Below X32.heap.size X32 X | 1 => Below X32.heap.size X32 X | 2 => Below X32.heap.size X32 X | _ => Below X32.heap.size X32 X) (fun s => fun i_ => match i_ with | 0 => .slice (some ⟨gl, 0, none⟩) n0 cl | 1 => .int .i64 ((n0 : Nat) : Int) | 2 => .int .i64 ((0 : Nat) : Int) | _ => undef) () A.1 (by kernel_rfl) (by decide) (by decide) (Below.refl _ _) ?_ ?_
    · intro i_ hi_ s a X hf hv hn hS
      match i_, hi_ with
      | 0, _ => exact stepV rfl rfl (execMvB rfl ((hf 19 (by decide)).trans t19)) ⟨s, ⟨_, rfl, rfl⟩, hS, fun _ _ => rfl⟩
      | 1, _ => exact stepV rfl rfl (execLenV (len := n0) rfl (hv 0 (by omega) _ rfl _ rfl) ⟨_, _, rfl⟩) ⟨s, ⟨_, rfl, rfl⟩, hS, fun _ _ => rfl⟩
      | 2, _ => exact stepV rfl rfl (execMvB rfl rfl) ⟨s, ⟨_, rfl, rfl⟩, hS, fun _ _ => rfl⟩
      | k_ + 3, h_ => exact absurd h_ (by simp)
    rintro _ a X34 h1 h2 h3 h4 hS
    replace hS : Below X32.heap.size X32 X34 := hS
    have bX := hS
    clear hS
    replace t3 := (h3 3 (by decide)).trans t3
    replace t4 := (h3 4 (by decide)).trans t4
    replace t6 := (h3 6 (by decide)).trans t6
    replace t9 := (h3 9 (by decide)).trans t9
    replace t19 := (h3 19 (by decide)).trans t19
    replace t20 := (h3 20 (by decide)).trans t20
    replace t23 := (h3 23 (by decide)).trans t23
    replace t24 := (h3 24 (by decide)).trans t24
    replace t39 := (h3 39 (by decide)).trans t39
    replace t40 := (h3 40 (by decide)).trans t40
    replace t41 := (h3 41 (by decide)).trans t41
    have t165 : a.eval (.tmp 165) = .int .i64 ((n0 : Nat) : Int) := h4 1 _ rfl _ rfl
    have t166 : a.eval (.tmp 166) = .int .i64 ((0 : Nat) : Int) := h4 2 _ rfl _ rfl
    replace FT := (FT.on bX)
    replace F6 := (on9 F6 bX)
    replace F8 := (on9 F8 bX)
    replace F9 := (on9 F9 bX)
    replace Fge20 := Fge20
    replace F20 := (on9 F20 bX)
    replace FB := (FB.on bX)
    have ZX34 := bX.size
    replace BW := BW.trans (bX.mono BW.size)
    clear bX
    replace A := (⟨h1, h2.trans A.2⟩ : a.tmps.size = 270 ∧ a.defers = [])
    clear h1 h2 h3 h4
    have FB0 := FB
    have FXs : Saved (fun k => k = gl) X34 X34 := Saved.refl _ _
    have BB := BW
    refine wp_block ?_
    refine wp_loop (fun a W => ∃ (ix : Nat), ix ≤ n0 ∧ ((a.tmps.size = 270 ∧ a.defers = []) ∧ a.eval (.tmp 3) = tv ∧ a.eval (.tmp 4) = bv ∧ a.eval (.tmp 6) = .pointer (some ⟨g6, 0, none⟩) ∧ a.eval (.tmp 9) = .pointer (some ⟨g9, 0, none⟩) ∧ a.eval (.tmp 19) = .slice (some ⟨gl, 0, none⟩) n0 cl ∧ a.eval (.tmp 20) = .pointer (some ⟨g20, 0, none⟩) ∧ a.eval (.tmp 23) = .int .i64 ((At k + n0 : Nat) : Int) ∧ a.eval (.tmp 24) = .int .i64 ((0 : Nat) : Int) ∧ a.eval (.tmp 39) = sc ∧ a.eval (.tmp 40) = .int .i64 ((n : Nat) : Int) ∧ a.eval (.tmp 41) = .int .i64 ((i : Nat) : Int) ∧ a.eval (.tmp 165) = .int .i64 ((n0 : Nat) : Int) ∧ a.eval (.tmp 166) = .int .i64 ((ix : Nat) : Int) ∧ Below V.heap.size V W ∧ ByR W gl cl (n0) ∧ Saved (fun k => k = gl) X34 W)) (fun a _ => n0 - (intOf (a.eval (.tmp 166))).toNat) ⟨0, Nat.zero_le _, A, t3, t4, t6, t9, t19, t20, t23, t24, t39, t40, t41, t165, t166, BB, FB, FXs⟩ ?_
    clear A t3 t4 t6 t9 t19 t20 t23 t24 t39 t40 t41 t165 t166 BB FB FXs a
    rintro a XL ⟨ix, hix, A, t3, t4, t6, t9, t19, t20, t23, t24, t39, t40, t41, t165, t166, BB, FB, FXs⟩
    have e166 := t166
    refine wp_seq ?_
    refine wp_region_sq (σ := Unit) 270 [(0, 167)] (fun j_ s X => match j_ with | 0 => Below V.heap.size V X ∧ (ByR X gl cl (n0)) ∧ (Saved (fun k => k = gl) X34 X) | _ => Below V.heap.size V X ∧ (ByR X gl cl (n0)) ∧ (Saved (fun k => k = gl) X34 X)) (fun s => fun i_ => match i_ with | 0 => .bool (decide (ix < n0)) | _ => undef) () A.1 (by kernel_rfl) (by decide) (by decide) ⟨BB, FB, FXs⟩ ?_ ?_
    · intro i_ hi_ s a X hf hv hn hS
      match i_, hi_ with
      | 0, _ => exact stepV rfl rfl (execLtW (p := ix) (q := n0) rfl ((hf 166 (by decide)).trans t166) ((hf 165 (by decide)).trans t165)) ⟨s, ⟨_, rfl, rfl⟩, hS, fun _ _ => rfl⟩
      | k_ + 1, h_ => exact absurd h_ (by simp)
    rintro _ a X35 h1 h2 h3 h4 hS
    clear BB
    clear FB
    clear FXs
    replace hS : Below V.heap.size V X35 ∧ (ByR X35 gl cl (n0)) ∧ (Saved (fun k => k = gl) X34 X35) := hS
    obtain ⟨BB, FB, FXs⟩ := hS
    replace t3 := (h3 3 (by decide)).trans t3
    replace t4 := (h3 4 (by decide)).trans t4
    replace t6 := (h3 6 (by decide)).trans t6
    replace t9 := (h3 9 (by decide)).trans t9
    replace t19 := (h3 19 (by decide)).trans t19
    replace t20 := (h3 20 (by decide)).trans t20
    replace t23 := (h3 23 (by decide)).trans t23
    replace t24 := (h3 24 (by decide)).trans t24
    replace t39 := (h3 39 (by decide)).trans t39
    replace t40 := (h3 40 (by decide)).trans t40
    replace t41 := (h3 41 (by decide)).trans t41
    replace t165 := (h3 165 (by decide)).trans t165
    replace t166 := (h3 166 (by decide)).trans t166
    have t167 : a.eval (.tmp 167) = .bool (decide (ix < n0)) := h4 0 _ rfl _ rfl
    replace A := (⟨h1, h2.trans A.2⟩ : a.tmps.size = 270 ∧ a.defers = [])
    clear h1 h2 h3 h4
    refine wp_seq ?_
    by_cases hlt : ix < n0
    · rw [decide_eq_true hlt] at t167
      refine wp_cond_true t167 ?_
      refine wp_skip ?_
      clear t167
      refine wp_seq ?_
      refine wp_block ?_
      refine wp_seq ?_
      refine wp_region_sq (σ := Unit) 270 [(0, 168), (1, 25)] (fun j_ s X => match j_ with | 0 => Below V.heap.size V X ∧ (ByR X gl cl (n0)) ∧ (Saved (fun k => k = gl) X34 X) | 1 => Below V.heap.size V X ∧ (ByR X gl cl (n0)) ∧ (Saved (fun k => k = gl) X34 X) | _ => Below V.heap.size V X ∧ (ByR X gl cl (n0)) ∧ (Saved (fun k => k = gl) X34 X)) (fun s => fun i_ => match i_ with | 0 => .int .i64 ((ix : Nat) : Int) | 1 => .int .i64 ((ix : Nat) : Int) | _ => undef) () A.1 (by kernel_rfl) (by decide) (by decide) ⟨BB, FB, FXs⟩ ?_ ?_
      · intro i_ hi_ s a X hf hv hn hS
        match i_, hi_ with
        | 0, _ => exact stepV rfl rfl (execMvB rfl ((hf 166 (by decide)).trans t166)) ⟨s, ⟨_, rfl, rfl⟩, hS, fun _ _ => rfl⟩
        | 1, _ => exact stepV rfl rfl (execAsgB rfl (hv 0 (by omega) _ rfl _ rfl)) ⟨s, ⟨_, rfl, rfl⟩, hS, fun _ _ => rfl⟩
        | k_ + 2, h_ => exact absurd h_ (by simp)
      rintro _ a X36 h1 h2 h3 h4 hS
      clear BB
      clear FB
      clear FXs
      replace hS : Below V.heap.size V X36 ∧ (ByR X36 gl cl (n0)) ∧ (Saved (fun k => k = gl) X34 X36) := hS
      obtain ⟨BB, FB, FXs⟩ := hS
      replace t3 := (h3 3 (by decide)).trans t3
      replace t4 := (h3 4 (by decide)).trans t4
      replace t6 := (h3 6 (by decide)).trans t6
      replace t9 := (h3 9 (by decide)).trans t9
      replace t19 := (h3 19 (by decide)).trans t19
      replace t20 := (h3 20 (by decide)).trans t20
      replace t23 := (h3 23 (by decide)).trans t23
      replace t24 := (h3 24 (by decide)).trans t24
      replace t39 := (h3 39 (by decide)).trans t39
      replace t40 := (h3 40 (by decide)).trans t40
      replace t41 := (h3 41 (by decide)).trans t41
      replace t165 := (h3 165 (by decide)).trans t165
      replace t166 := (h3 166 (by decide)).trans t166
      have t25 : a.eval (.tmp 25) = .int .i64 ((ix : Nat) : Int) := h4 1 _ rfl _ rfl
      replace A := (⟨h1, h2.trans A.2⟩ : a.tmps.size = 270 ∧ a.defers = [])
      clear h1 h2 h3 h4
      refine wp_region_sq (σ := Nat) 270 [(0, 169), (1, 170), (2, 171), (3, 172), (4, 173), (5, 174)] (fun j_ s X => match j_ with | 0 => Below V.heap.size V X ∧ (ByR X gl cl (n0)) ∧ (Saved (fun k => k = gl) X34 X) | 1 => Below V.heap.size V X ∧ (ByR X gl cl (n0)) ∧ (Saved (fun k => k = gl) X34 X) | 2 => Below V.heap.size V X ∧ (ByR X gl cl (n0)) ∧ (Saved (fun k => k = gl) X34 X) | 3 => Below V.heap.size V X ∧ (ByR X gl cl (n0)) ∧ (Saved (fun k => k = gl) X34 X) | 4 => Below V.heap.size V X ∧ (ByR X gl cl (n0)) ∧ (Saved (fun k => k = gl) X34 X) ∧ (s < 256) | 5 => Below V.heap.size V X ∧ (ByR X gl cl (n0)) ∧ (Saved (fun k => k = gl) X34 X) ∧ (s < 256) | 6 => Below V.heap.size V X ∧ (ByR X gl cl (n0)) ∧ (Saved (fun k => k = gl) X34 X) ∧ (s < 256) | _ => Below V.heap.size V X ∧ (ByR X gl cl (n0)) ∧ (Saved (fun k => k = gl) X34 X)) (fun s => fun i_ => match i_ with | 0 => .slice (some ⟨gl, 0, none⟩) n0 cl | 1 => .int .i64 ((ix : Nat) : Int) | 2 => .pointer (some ⟨gl, ix, none⟩) | 3 => .int .u8 ((s : Nat) : Int) | 4 => .int .u8 ((s ^^^ 90 : Nat) : Int) | 5 => .pointer (some ⟨gl, ix, none⟩) | 6 => undef | _ => undef) 0 A.1 (by kernel_rfl) (by decide) (by decide) ⟨BB, FB, FXs⟩ ?_ ?_
      · intro i_ hi_ s a X hf hv hn hS
        match i_, hi_ with
        | 0, _ => exact stepV rfl rfl (execMvB rfl ((hf 19 (by decide)).trans t19)) ⟨s, ⟨_, rfl, rfl⟩, hS, fun _ _ => rfl⟩
        | 1, _ => exact stepV rfl rfl (execMvB rfl ((hf 25 (by decide)).trans t25)) ⟨s, ⟨_, rfl, rfl⟩, hS, fun _ _ => rfl⟩
        | 2, _ => exact stepV rfl rfl (execIdxS0 (k := ix) rfl (hv 0 (by omega) _ rfl _ rfl) (hv 1 (by omega) _ rfl _ rfl) hlt) ⟨s, ⟨_, rfl, rfl⟩, hS, fun _ _ => rfl⟩
        | 3, _ =>
          obtain ⟨z_, hz_, hc_, hf_⟩ := hS.2.1.cell hlt
          refine stepV rfl rfl (execLdB rfl (hv 2 (by omega) _ rfl _ rfl) hc_) ⟨z_, ⟨_, rfl, rfl⟩, ⟨hS.1, hS.2.1, hS.2.2, hz_⟩, fun i hi => ?_⟩
          match i, hi with
          | 0, _ => rfl
          | 1, _ => rfl
          | 2, _ => rfl
          | n_ + 3, h_ => omega
        | 4, _ => exact stepV rfl rfl (execXor5 rfl (hv 3 (by omega) _ rfl _ rfl) rfl hS.2.2.2 (by decide)) ⟨s, ⟨_, rfl, rfl⟩, hS, fun _ _ => rfl⟩
        | 5, _ => exact stepV rfl rfl (execIdxS0 (k := ix) rfl (hv 0 (by omega) _ rfl _ rfl) (hv 1 (by omega) _ rfl _ rfl) hlt) ⟨s, ⟨_, rfl, rfl⟩, hS, fun _ _ => rfl⟩
        | 6, _ =>
          obtain ⟨z_, hz_, hc_, hf_⟩ := hS.2.1.cell hlt
          refine stepS rfl rfl (execStB9 rfl (hv 5 (by omega) _ rfl _ rfl) (hv 4 (by omega) _ rfl _ rfl) hc_ hf_) ⟨s, ⟨_, rfl, rfl⟩, ⟨(hS.1).setCell hgl _, hS.2.1.set _ (Nat.xor_lt_two_pow (n := 8) hS.2.2.2 (by decide)), hS.2.2.1.cell _ (Or.inr rfl)⟩, fun i hi => ?_⟩
          match i, hi with
          | 0, _ => rfl
          | 1, _ => rfl
          | 2, _ => rfl
          | 3, _ => rfl
          | 4, _ => rfl
          | 5, _ => rfl
          | n_ + 6, h_ => omega
        | k_ + 7, h_ => exact absurd h_ (by simp)
      rintro z a X37 h1 h2 h3 h4 hS
      clear BB
      clear FB
      clear FXs
      replace hS : Below V.heap.size V X37 ∧ (ByR X37 gl cl (n0)) ∧ (Saved (fun k => k = gl) X34 X37) := hS
      obtain ⟨BB, FB2, FS2⟩ := hS
      replace t3 := (h3 3 (by decide)).trans t3
      replace t4 := (h3 4 (by decide)).trans t4
      replace t6 := (h3 6 (by decide)).trans t6
      replace t9 := (h3 9 (by decide)).trans t9
      replace t19 := (h3 19 (by decide)).trans t19
      replace t20 := (h3 20 (by decide)).trans t20
      replace t23 := (h3 23 (by decide)).trans t23
      replace t24 := (h3 24 (by decide)).trans t24
      replace t39 := (h3 39 (by decide)).trans t39
      replace t40 := (h3 40 (by decide)).trans t40
      replace t41 := (h3 41 (by decide)).trans t41
      replace t165 := (h3 165 (by decide)).trans t165
      replace t166 := (h3 166 (by decide)).trans t166
      replace A := (⟨h1, h2.trans A.2⟩ : a.tmps.size = 270 ∧ a.defers = [])
      clear h1 h2 h3 h4
      clear t25
      refine wp_region_sq (σ := Unit) 270 [(0, 175), (1, 166)] (fun j_ s X => match j_ with | 0 => Below V.heap.size V X ∧ (ByR X gl cl (n0)) ∧ (Saved (fun k => k = gl) X34 X) | 1 => Below V.heap.size V X ∧ (ByR X gl cl (n0)) ∧ (Saved (fun k => k = gl) X34 X) | _ => Below V.heap.size V X ∧ (ByR X gl cl (n0)) ∧ (Saved (fun k => k = gl) X34 X)) (fun s => fun i_ => match i_ with | 0 => .int .i64 ((ix + 1 : Nat) : Int) | 1 => .int .i64 ((ix + 1 : Nat) : Int) | _ => undef) () A.1 (by kernel_rfl) (by decide) (by decide) ⟨BB, FB2, FS2⟩ ?_ ?_
      · intro i_ hi_ s a X hf hv hn hS
        match i_, hi_ with
        | 0, _ => exact stepV rfl rfl (execAd8 (p := ix) (q := 1) rfl ((hn 1 (by omega) _ rfl _ rfl).trans t166) rfl (by omega)) ⟨s, ⟨_, rfl, rfl⟩, hS, fun _ _ => rfl⟩
        | 1, _ => exact stepV rfl rfl (execMvB rfl (hv 0 (by omega) _ rfl _ rfl)) ⟨s, ⟨_, rfl, rfl⟩, hS, fun _ _ => rfl⟩
        | k_ + 2, h_ => exact absurd h_ (by simp)
      rintro _ a X38 h1 h2 h3 h4 hS
      clear BB
      clear FB2
      clear FS2
      replace hS : Below V.heap.size V X38 ∧ (ByR X38 gl cl (n0)) ∧ (Saved (fun k => k = gl) X34 X38) := hS
      obtain ⟨BB, FB2, FS2⟩ := hS
      replace t3 := (h3 3 (by decide)).trans t3
      replace t4 := (h3 4 (by decide)).trans t4
      replace t6 := (h3 6 (by decide)).trans t6
      replace t9 := (h3 9 (by decide)).trans t9
      replace t19 := (h3 19 (by decide)).trans t19
      replace t20 := (h3 20 (by decide)).trans t20
      replace t23 := (h3 23 (by decide)).trans t23
      replace t24 := (h3 24 (by decide)).trans t24
      replace t39 := (h3 39 (by decide)).trans t39
      replace t40 := (h3 40 (by decide)).trans t40
      replace t41 := (h3 41 (by decide)).trans t41
      replace t165 := (h3 165 (by decide)).trans t165
      replace t166 : a.eval (.tmp 166) = .int .i64 ((ix + 1 : Nat) : Int) := h4 1 _ rfl _ rfl
      replace A := (⟨h1, h2.trans A.2⟩ : a.tmps.size = 270 ∧ a.defers = [])
      clear h1 h2 h3 h4
      exact ⟨⟨ix + 1, hlt, A, t3, t4, t6, t9, t19, t20, t23, t24, t39, t40, t41, t165, t166, BB, FB2, FS2⟩, by show n0 - (intOf (a.eval (.tmp 166))).toNat < n0 - (intOf (Act.eval _ (.tmp 166))).toNat; rw [t166, e166]; show n0 - (ix + 1) < n0 - ix; omega⟩
    · rw [decide_eq_false hlt] at t167
      refine wp_cond_false t167 ?_
      refine wp_exit ?_
      first | refine exit_in ?_ | refine exit_then (exit_in ?_) | refine exit_then (exit_then (exit_in ?_))
      clear t167 t165 t166 e166
      obtain ⟨cI, zI, hI, _⟩ := id FB0
      replace FT := FT.saved FXs (fun _ q => q) hI
      replace F6 := heap_saved F6 FXs (fun q => ne_tyM F6 hI (by decide) q)
      replace F9 := heap_saved F9 FXs (fun q => ne_tyM F9 hI (by decide) q)
      replace F20 := heap_saved F20 FXs (fun q => ne_tyM F20 hI (by decide) q)
      clear FXs hI FB0
      replace BW := BB
      clear BB
      have BB := BW
      refine wp_seq ?_
      refine wp_region_sq (σ := Nat × Value) 270 [(0, 176), (1, 177), (2, 178), (3, 19)] (fun j_ s X => match j_ with | 0 => Below V.heap.size V X ∧ (TB V tv bv m P Ln At pvs X) ∧ X.heap[g6]? = some (.cells (stC kd tt ((n0 : Nat) : Int) pw) 32) ∧ X.heap[g9]? = some (.cells (bkC (pvs k) (At k)) 29) ∧ X.heap[g20]? = some (.cells (tpC (P k) (Ln k) ((At k) + n0)) 25) ∧ (ByR X gl cl n0) | 1 => Below V.heap.size V X ∧ (TB V tv bv m P Ln At pvs X) ∧ X.heap[g6]? = some (.cells (stC kd tt ((n0 : Nat) : Int) pw) 32) ∧ X.heap[g9]? = some (.cells (bkC (pvs k) (At k)) 29) ∧ X.heap[g20]? = some (.cells (tpC (P k) (Ln k) ((At k) + n0)) 25) ∧ (ByR X gl cl n0) | 2 => Below V.heap.size V X ∧ (TB V tv bv m P Ln At pvs X) ∧ X.heap[g6]? = some (.cells (stC kd tt ((n0 : Nat) : Int) pw) 32) ∧ X.heap[g9]? = some (.cells (bkC (pvs k) (At k)) 29) ∧ X.heap[g20]? = some (.cells (tpC (P k) (Ln k) ((At k) + n0)) 25) ∧ (ByR X gl cl n0) ∧ SliceN X (.slice (some ⟨s.1, 0, none⟩) 3 3) (3) (l123) | 3 => Below V.heap.size V X ∧ (TB V tv bv m P Ln At pvs X) ∧ X.heap[g6]? = some (.cells (stC kd tt ((n0 : Nat) : Int) pw) 32) ∧ X.heap[g9]? = some (.cells (bkC (pvs k) (At k)) 29) ∧ X.heap[g20]? = some (.cells (tpC (P k) (Ln k) ((At k) + n0)) 25) | _ => Below V.heap.size V X ∧ (TB V tv bv m P Ln At pvs X) ∧ X.heap[g6]? = some (.cells (stC kd tt ((n0 : Nat) : Int) pw) 32) ∧ X.heap[g9]? = some (.cells (bkC (pvs k) (At k)) 29) ∧ X.heap[g20]? = some (.cells (tpC (P k) (Ln k) ((At k) + n0)) 25)) (fun s => fun i_ => match i_ with | 0 => .slice (some ⟨gl, 0, none⟩) n0 cl | 1 => .slice (some ⟨s.1, 0, none⟩) 3 3 | 2 => s.2 | 3 => s.2 | _ => undef) (0, undef) A.1 (by kernel_rfl) (by decide) (by decide) ⟨BB, FT, F6, F9, F20, FB⟩ ?_ ?_
      · intro i_ hi_ s a X hf hv hn hS
        match i_, hi_ with
        | 0, _ => exact stepV rfl rfl (execMvB rfl ((hn 3 (by omega) _ rfl _ rfl).trans t19)) ⟨s, ⟨_, rfl, rfl⟩, hS, fun _ _ => rfl⟩
        | 1, _ =>
          refine stepV rfl rfl (execLit3 rfl) ⟨(X.heap.size, s.2), ⟨_, rfl, rfl⟩, ⟨(hS.1).trans (((belNew X _)).mono (hS.1).size), (hS.2.1.on (belNew X _)), (on9 hS.2.2.1 (belNew X _)), (on9 hS.2.2.2.1 (belNew X _)), (on9 hS.2.2.2.2.1 (belNew X _)), (hS.2.2.2.2.2.on (belNew X _)), slice123 X⟩, fun i hi => ?_⟩
          match i, hi with
          | 0, _ => rfl
          | n_ + 1, h_ => omega
        | 2, _ =>
          obtain ⟨p_, hp_⟩ := byr_open hS.2.2.2.2.2.1 hgl hcl
          refine stepAppM rfl rfl rfl (hv 0 (by omega) _ rfl _ rfl) (hv 1 (by omega) _ rfl _ rfl) hp_ hS.2.2.2.2.2.2 (fun l c e => by cases e) (by omega) fun v' W' sv gr => ⟨(s.1, v'), ⟨_, rfl, rfl⟩, ⟨(hS.1).grown gr (hS.1).size (fun k hk => (hp_.row k hk).1), hS.2.1.over hp_ gr, heap_over hp_ gr hS.2.2.1 (by decide), heap_over hp_ gr hS.2.2.2.1 (by decide), heap_over hp_ gr hS.2.2.2.2.1 (by decide)⟩, fun i hi => ?_⟩
          match i, hi with
          | 0, _ => rfl
          | 1, _ => rfl
          | n_ + 2, h_ => omega
        | 3, _ => exact stepV rfl rfl (execAsgB rfl (hv 2 (by omega) _ rfl _ rfl)) ⟨s, ⟨_, rfl, rfl⟩, hS, fun _ _ => rfl⟩
        | k_ + 4, h_ => exact absurd h_ (by simp)
      rintro ⟨g177, v178⟩ a X39 h1 h2 h3 h4 hS
      clear BB
      clear FT
      clear F6
      clear F9
      clear F20
      clear FB
      replace hS : Below V.heap.size V X39 ∧ (TB V tv bv m P Ln At pvs X39) ∧ X39.heap[g6]? = some (.cells (stC kd tt ((n0 : Nat) : Int) pw) 32) ∧ X39.heap[g9]? = some (.cells (bkC (pvs k) (At k)) 29) ∧ X39.heap[g20]? = some (.cells (tpC (P k) (Ln k) ((At k) + n0)) 25) := hS
      obtain ⟨BB, FT, F6, F9, F20⟩ := hS
      replace t3 := (h3 3 (by decide)).trans t3
      replace t4 := (h3 4 (by decide)).trans t4
      replace t6 := (h3 6 (by decide)).trans t6
      replace t9 := (h3 9 (by decide)).trans t9
      replace t20 := (h3 20 (by decide)).trans t20
      replace t23 := (h3 23 (by decide)).trans t23
      replace t24 := (h3 24 (by decide)).trans t24
      replace t39 := (h3 39 (by decide)).trans t39
      replace t40 := (h3 40 (by decide)).trans t40
      replace t41 := (h3 41 (by decide)).trans t41
      replace A := (⟨h1, h2.trans A.2⟩ : a.tmps.size = 270 ∧ a.defers = [])
      clear h1 h2 h3 h4
      clear t19
      refine wp_seq ?_
      refine wp_seq ?_
      refine wp_region_sq (σ := Unit) 270 [(0, 179), (1, 180)] (fun j_ s X => match j_ with | 0 => Below V.heap.size V X ∧ (TB V tv bv m P Ln At pvs X) ∧ X.heap[g6]? = some (.cells (stC kd tt ((n0 : Nat) : Int) pw) 32) ∧ X.heap[g9]? = some (.cells (bkC (pvs k) (At k)) 29) ∧ X.heap[g20]? = some (.cells (tpC (P k) (Ln k) ((At k) + n0)) 25) | 1 => Below V.heap.size V X ∧ (TB V tv bv m P Ln At pvs X) ∧ X.heap[g6]? = some (.cells (stC kd tt ((n0 : Nat) : Int) pw) 32) ∧ X.heap[g9]? = some (.cells (bkC (pvs k) (At k)) 29) ∧ X.heap[g20]? = some (.cells (tpC (P k) (Ln k) ((At k) + n0)) 25) | _ => Below V.heap.size V X ∧ (TB V tv bv m P Ln At pvs X) ∧ X.heap[g6]? = some (.cells (stC kd tt ((n0 : Nat) : Int) pw) 32) ∧ X.heap[g9]? = some (.cells (bkC (pvs k) (At k)) 29) ∧ X.heap[g20]? = some (.cells (tpC (P k) (Ln k) ((At k) + n0)) 25)) (fun s => fun i_ => match i_ with | 0 => .int .i64 ((0 : Nat) : Int) | 1 => .bool false | _ => undef) () A.1 (by kernel_rfl) (by decide) (by decide) ⟨BB, FT, F6, F9, F20⟩ ?_ ?_
      · intro i_ hi_ s a X hf hv hn hS
        match i_, hi_ with
        | 0, _ => exact stepV rfl rfl (execMvB rfl ((hf 24 (by decide)).trans t24)) ⟨s, ⟨_, rfl, rfl⟩, hS, fun _ _ => rfl⟩
        | 1, _ => exact stepV rfl rfl (execDec (execNeN (p := 0) (q := 0) rfl (hv 0 (by omega) _ rfl _ rfl) rfl) (decide_eq_false (by omega))) ⟨s, ⟨_, rfl, rfl⟩, hS, fun _ _ => rfl⟩
        | k_ + 2, h_ => exact absurd h_ (by simp)
      rintro _ a X40 h1 h2 h3 h4 hS
      clear BB
      clear FT
      clear F6
      clear F9
      clear F20
      replace hS : Below V.heap.size V X40 ∧ (TB V tv bv m P Ln At pvs X40) ∧ X40.heap[g6]? = some (.cells (stC kd tt ((n0 : Nat) : Int) pw) 32) ∧ X40.heap[g9]? = some (.cells (bkC (pvs k) (At k)) 29) ∧ X40.heap[g20]? = some (.cells (tpC (P k) (Ln k) ((At k) + n0)) 25) := hS
      obtain ⟨BB, FT, F6, F9, F20⟩ := hS
      replace t3 := (h3 3 (by decide)).trans t3
      replace t4 := (h3 4 (by decide)).trans t4
      replace t6 := (h3 6 (by decide)).trans t6
      replace t9 := (h3 9 (by decide)).trans t9
      replace t20 := (h3 20 (by decide)).trans t20
      replace t23 := (h3 23 (by decide)).trans t23
      replace t24 := (h3 24 (by decide)).trans t24
      replace t39 := (h3 39 (by decide)).trans t39
      replace t40 := (h3 40 (by decide)).trans t40
      replace t41 := (h3 41 (by decide)).trans t41
      have t180 : a.eval (.tmp 180) = .bool false := h4 1 _ rfl _ rfl
      replace A := (⟨h1, h2.trans A.2⟩ : a.tmps.size = 270 ∧ a.defers = [])
      clear h1 h2 h3 h4
      refine wp_cond_false t180 ?_
      refine wp_skip ?_
      clear t180
      replace BW := BB
      clear BB
      have FT0 := FT
      have BB := BW
      have FTa := FT.tap
      have FBo := FT.boo
      refine wp_region_stB (σ := Nat × Value × Nat × Value) 270 [(0, 182), (1, 183), (2, 184), (3, 185), (4, 186), (5, 187), (6, 188), (7, 189), (8, 190), (9, 191), (10, 192), (11, 3), (12, 4)] (fun l_ s X => Below V.heap.size V X ∧ (l_ 3 = false → (X.ownsRow V.heap.size 25 2 tv m (pairL (fun t => .string (strN (P t) (Ln t))) (fun t => .int .i64 (At t : Int)) m))) ∧ (l_ 10 = false → (X.ownsRow V.heap.size 29 2 bv m (pairL pvs (fun t => .int .i64 (At t : Int)) m))) ∧ (X.heap[g6]? = some (.cells (stC kd tt ((n0 : Nat) : Int) pw) 32)) ∧ (l_ 10 = false → X.heap[g9]? = some (.cells (bkC (pvs k) (At k)) 29)) ∧ (l_ 3 = false → X.heap[g20]? = some (.cells (tpC (P k) (Ln k) ((At k) + n0)) 25)) ∧ (l_ 2 = true → l_ 3 = false → (X.heap[s.1]? = some (.cells (tpC (P k) (Ln k) ((At k) + n0)) 25))) ∧ (l_ 2 = true → (V.heap.size ≤ s.1)) ∧ (l_ 3 = true → (X.ownsRow V.heap.size 25 2 s.2.1 (m + 1) ((pairL (fun t => .string (strN (P t) (Ln t))) (fun t => .int .i64 (At t : Int)) m) ++ [.string (strN (P k) (Ln k)), .int .i64 ((((At k) + n0) : Nat) : Int)]))) ∧ (l_ 9 = true → l_ 10 = false → (X.heap[s.2.2.1]? = some (.cells (bkC (pvs k) (At k + n0)) 29))) ∧ (l_ 9 = true → (V.heap.size ≤ s.2.2.1)) ∧ (l_ 10 = true → (X.ownsRow V.heap.size 29 2 s.2.2.2 (m + 1) ((pairL pvs (fun t => .int .i64 (At t : Int)) m) ++ [(pvs k), .int .i64 ((At k + n0 : Nat) : Int)])))) (fun s => fun i_ => match i_ with | 0 => tv | 1 => .agg (tpC (P k) (Ln k) ((At k) + n0)) | 2 => .slice (some ⟨s.1, 0, none⟩) 1 1 | 3 => s.2.1 | 4 => bv | 5 => .pointer (some ⟨g9, 0, none⟩) | 6 => (pvs k) | 7 => .int .i64 ((At k + n0 : Nat) : Int) | 8 => .agg (bkC (pvs k) (At k + n0)) | 9 => .slice (some ⟨s.2.2.1, 0, none⟩) 1 1 | 10 => s.2.2.2 | 11 => s.2.1 | 12 => s.2.2.2 | _ => undef) (0, undef, 0, undef) (by kernel_rfl) (by kernel_rfl) A.1 (by kernel_rfl) (by decide) (by decide) ⟨(BB.drew), (fun _ => (ownsLL_below FTa (Below.refl _ _).drew)), (fun _ => (ownsLL_below FBo (Below.refl _ _).drew)), ((on9 F6 (Below.refl _ _).drew)), (fun _ => (on9 F9 (Below.refl _ _).drew)), (fun _ => (on9 F20 (Below.refl _ _).drew)), (fun q0_ q1_ => by cases q0_), (fun q0_ => by cases q0_), (fun q0_ => by cases q0_), (fun q0_ q1_ => by cases q0_), (fun q0_ => by cases q0_), (fun q0_ => by cases q0_)⟩ ?_ ?_
      · intro i_ hi_ l_ s a X hl_ hf hdep hl2 hcl hno hT
        have up : ∀ j x, x ≠ j → updB l_ j x = l_ x := fun j x hj => by unfold updB; simp [hj]
        match i_, hi_ with
        | 0, _ => exact stepV rfl rfl (execMvB rfl ((hno 11 _ rfl _ rfl (by cases hq_ : l_ 11 with | false => rfl | true => exact absurd (hl_.symm.trans (hcl 11 _ rfl hq_ 0 rfl)) (by decide))).trans t3)) ⟨s, ⟨_, rfl, rfl⟩, ⟨hT.1, (fun q0_ => (hT.2.1 (by rw [up 0 3 (by decide)] at q0_; exact q0_))), (fun q0_ => (hT.2.2.1 (by rw [up 0 10 (by decide)] at q0_; exact q0_))), (hT.2.2.2.1), (fun q0_ => (hT.2.2.2.2.1 (by rw [up 0 10 (by decide)] at q0_; exact q0_))), (fun q0_ => (hT.2.2.2.2.2.1 (by rw [up 0 3 (by decide)] at q0_; exact q0_))), (fun q0_ q1_ => (hT.2.2.2.2.2.2.1 (by rw [up 0 2 (by decide)] at q0_; exact q0_) (by rw [up 0 3 (by decide)] at q1_; exact q1_))), (fun q0_ => (hT.2.2.2.2.2.2.2.1 (by rw [up 0 2 (by decide)] at q0_; exact q0_))), (fun q0_ => absurd (hl_.symm.trans (hcl 3 _ rfl ((up 0 3 (by decide)).symm.trans q0_) 0 rfl)) (by decide)), (fun q0_ q1_ => (hT.2.2.2.2.2.2.2.2.2.1 (by rw [up 0 9 (by decide)] at q0_; exact q0_) (by rw [up 0 10 (by decide)] at q1_; exact q1_))), (fun q0_ => (hT.2.2.2.2.2.2.2.2.2.2.1 (by rw [up 0 9 (by decide)] at q0_; exact q0_))), (fun q0_ => absurd (hl_.symm.trans (hcl 3 _ rfl (hcl 10 _ rfl ((up 0 10 (by decide)).symm.trans q0_) 3 rfl) 0 rfl)) (by decide))⟩, fun _ _ _ => rfl⟩
        | 1, _ => exact stepV rfl rfl (execLdTp rfl ((hf 20 (by decide)).trans t20) (hT.2.2.2.2.2.1 (by cases hq_ : l_ 3 with | false => rfl | true => exact absurd (hl_.symm.trans (hcl 2 _ rfl (hcl 3 _ rfl hq_ 2 rfl) 1 rfl)) (by decide)))) ⟨s, ⟨_, rfl, rfl⟩, ⟨hT.1, (fun q0_ => (hT.2.1 (by rw [up 1 3 (by decide)] at q0_; exact q0_))), (fun q0_ => (hT.2.2.1 (by rw [up 1 10 (by decide)] at q0_; exact q0_))), (hT.2.2.2.1), (fun q0_ => (hT.2.2.2.2.1 (by rw [up 1 10 (by decide)] at q0_; exact q0_))), (fun q0_ => (hT.2.2.2.2.2.1 (by rw [up 1 3 (by decide)] at q0_; exact q0_))), (fun q0_ q1_ => absurd (hl_.symm.trans (hcl 2 _ rfl ((up 1 2 (by decide)).symm.trans q0_) 1 rfl)) (by decide)), (fun q0_ => absurd (hl_.symm.trans (hcl 2 _ rfl ((up 1 2 (by decide)).symm.trans q0_) 1 rfl)) (by decide)), (fun q0_ => absurd (hl_.symm.trans (hcl 2 _ rfl (hcl 3 _ rfl ((up 1 3 (by decide)).symm.trans q0_) 2 rfl) 1 rfl)) (by decide)), (fun q0_ q1_ => (hT.2.2.2.2.2.2.2.2.2.1 (by rw [up 1 9 (by decide)] at q0_; exact q0_) (by rw [up 1 10 (by decide)] at q1_; exact q1_))), (fun q0_ => (hT.2.2.2.2.2.2.2.2.2.2.1 (by rw [up 1 9 (by decide)] at q0_; exact q0_))), (fun q0_ => absurd (hl_.symm.trans (hcl 2 _ rfl (hcl 3 _ rfl (hcl 10 _ rfl ((up 1 10 (by decide)).symm.trans q0_) 3 rfl) 2 rfl) 1 rfl)) (by decide))⟩, fun _ _ _ => rfl⟩
        | 2, _ =>
          refine stepV rfl rfl (execBsT rfl (hdep _ rfl 1 rfl _ rfl _ rfl)) ⟨(X.heap.size, s.2.1, s.2.2.1, s.2.2.2), ⟨_, rfl, rfl⟩, ⟨hT.1.trans (((belNew X _)).mono hT.1.size), (fun q0_ => (ownsLL_below (hT.2.1 (by rw [up 2 3 (by decide)] at q0_; exact q0_)) (belNew X _))), (fun q0_ => (ownsLL_below (hT.2.2.1 (by rw [up 2 10 (by decide)] at q0_; exact q0_)) (belNew X _))), ((on9 hT.2.2.2.1 (belNew X _))), (fun q0_ => (on9 (hT.2.2.2.2.1 (by rw [up 2 10 (by decide)] at q0_; exact q0_)) (belNew X _))), (fun q0_ => (on9 (hT.2.2.2.2.2.1 (by rw [up 2 3 (by decide)] at q0_; exact q0_)) (belNew X _))), (fun _q0_ _q1_ => heapNew X _), (fun _q0_ => (hT.1).size), (fun q0_ => absurd (hl_.symm.trans (hcl 3 _ rfl ((up 2 3 (by decide)).symm.trans q0_) 2 rfl)) (by decide)), (fun q0_ q1_ => (on9 (hT.2.2.2.2.2.2.2.2.2.1 (by rw [up 2 9 (by decide)] at q0_; exact q0_) (by rw [up 2 10 (by decide)] at q1_; exact q1_)) (belNew X _))), (fun q0_ => (hT.2.2.2.2.2.2.2.2.2.2.1 (by rw [up 2 9 (by decide)] at q0_; exact q0_))), (fun q0_ => absurd (hl_.symm.trans (hcl 3 _ rfl (hcl 10 _ rfl ((up 2 10 (by decide)).symm.trans q0_) 3 rfl) 2 rfl)) (by decide))⟩, fun i hi hli => ?_⟩
          match i, hi with
          | 0, _ => rfl
          | 1, _ => rfl
          | 2, _ => exact absurd (hl_.symm.trans hli) (by decide)
          | 3, _ => rfl
          | 4, _ => rfl
          | 5, _ => rfl
          | 6, _ => rfl
          | 7, _ => rfl
          | 8, _ => rfl
          | 9, _ => rfl
          | 10, _ => rfl
          | 11, _ => rfl
          | 12, _ => rfl
          | k_ + 13, h_ => exact absurd h_ (by simp)
        | 3, _ =>
          refine stepAppT rfl rfl rfl (hdep _ rfl 0 rfl _ rfl _ rfl) (hdep _ rfl 2 rfl _ rfl _ rfl) (hT.2.1 hl_) (hT.2.2.2.2.2.2.1 (hl2 _ rfl 2 rfl) hl_) hm (hT.1).size fun v' W' own' gr => ⟨(s.1, v', s.2.2.1, s.2.2.2), ⟨_, rfl, rfl⟩, ⟨(hT.1).grown gr (hT.1).size (fun k hk => ((hT.2.1 hl_).lt k hk).1), (fun q0_ => absurd q0_ (by unfold updB; simp)), (fun q0_ => own_overT (hT.2.2.1 (by rw [up 3 10 (by decide)] at q0_; exact q0_)) (hT.2.1 hl_) gr (by decide)), (heap_overL (hT.2.1 hl_) gr hT.2.2.2.1 (by decide)), (fun q0_ => heap_overL (hT.2.1 hl_) gr (hT.2.2.2.2.1 (by rw [up 3 10 (by decide)] at q0_; exact q0_)) (by decide)), (fun q0_ => absurd q0_ (by unfold updB; simp)), (fun q0_ q1_ => absurd q1_ (by unfold updB; simp)), (fun q0_ => (hT.2.2.2.2.2.2.2.1 (by rw [up 3 2 (by decide)] at q0_; exact q0_))), (fun _q0_ => own'), (fun q0_ q1_ => heap_overL (hT.2.1 hl_) gr (hT.2.2.2.2.2.2.2.2.2.1 (by rw [up 3 9 (by decide)] at q0_; exact q0_) (by rw [up 3 10 (by decide)] at q1_; exact q1_)) (by decide)), (fun q0_ => (hT.2.2.2.2.2.2.2.2.2.2.1 (by rw [up 3 9 (by decide)] at q0_; exact q0_))), (fun q0_ => absurd (hl_.symm.trans (hcl 10 _ rfl ((up 3 10 (by decide)).symm.trans q0_) 3 rfl)) (by decide))⟩, fun i hi hli => ?_⟩
          match i, hi with
          | 0, _ => rfl
          | 1, _ => rfl
          | 2, _ => rfl
          | 3, _ => exact absurd (hl_.symm.trans hli) (by decide)
          | 4, _ => rfl
          | 5, _ => rfl
          | 6, _ => rfl
          | 7, _ => rfl
          | 8, _ => rfl
          | 9, _ => rfl
          | 10, _ => rfl
          | 11, _ => exact absurd (hl_.symm.trans (hcl 11 _ rfl hli 3 rfl)) (by decide)
          | 12, _ => rfl
          | k_ + 13, h_ => exact absurd h_ (by simp)
        | 4, _ => exact stepV rfl rfl (execMvB rfl ((hno 12 _ rfl _ rfl (by cases hq_ : l_ 12 with | false => rfl | true => exact absurd (hl_.symm.trans (hcl 12 _ rfl hq_ 4 rfl)) (by decide))).trans t4)) ⟨s, ⟨_, rfl, rfl⟩, ⟨hT.1, (fun q0_ => (hT.2.1 (by rw [up 4 3 (by decide)] at q0_; exact q0_))), (fun q0_ => (hT.2.2.1 (by rw [up 4 10 (by decide)] at q0_; exact q0_))), (hT.2.2.2.1), (fun q0_ => (hT.2.2.2.2.1 (by rw [up 4 10 (by decide)] at q0_; exact q0_))), (fun q0_ => (hT.2.2.2.2.2.1 (by rw [up 4 3 (by decide)] at q0_; exact q0_))), (fun q0_ q1_ => (hT.2.2.2.2.2.2.1 (by rw [up 4 2 (by decide)] at q0_; exact q0_) (by rw [up 4 3 (by decide)] at q1_; exact q1_))), (fun q0_ => (hT.2.2.2.2.2.2.2.1 (by rw [up 4 2 (by decide)] at q0_; exact q0_))), (fun q0_ => (hT.2.2.2.2.2.2.2.2.1 (by rw [up 4 3 (by decide)] at q0_; exact q0_))), (fun q0_ q1_ => (hT.2.2.2.2.2.2.2.2.2.1 (by rw [up 4 9 (by decide)] at q0_; exact q0_) (by rw [up 4 10 (by decide)] at q1_; exact q1_))), (fun q0_ => (hT.2.2.2.2.2.2.2.2.2.2.1 (by rw [up 4 9 (by decide)] at q0_; exact q0_))), (fun q0_ => absurd (hl_.symm.trans (hcl 10 _ rfl ((up 4 10 (by decide)).symm.trans q0_) 4 rfl)) (by decide))⟩, fun _ _ _ => rfl⟩
        | 5, _ => exact stepV rfl rfl (execFldK0 rfl ((hf 9 (by decide)).trans t9)) ⟨s, ⟨_, rfl, rfl⟩, ⟨hT.1, (fun q0_ => (hT.2.1 (by rw [up 5 3 (by decide)] at q0_; exact q0_))), (fun q0_ => (hT.2.2.1 (by rw [up 5 10 (by decide)] at q0_; exact q0_))), (hT.2.2.2.1), (fun q0_ => (hT.2.2.2.2.1 (by rw [up 5 10 (by decide)] at q0_; exact q0_))), (fun q0_ => (hT.2.2.2.2.2.1 (by rw [up 5 3 (by decide)] at q0_; exact q0_))), (fun q0_ q1_ => (hT.2.2.2.2.2.2.1 (by rw [up 5 2 (by decide)] at q0_; exact q0_) (by rw [up 5 3 (by decide)] at q1_; exact q1_))), (fun q0_ => (hT.2.2.2.2.2.2.2.1 (by rw [up 5 2 (by decide)] at q0_; exact q0_))), (fun q0_ => (hT.2.2.2.2.2.2.2.2.1 (by rw [up 5 3 (by decide)] at q0_; exact q0_))), (fun q0_ q1_ => absurd (hl_.symm.trans (hcl 6 _ rfl (hcl 8 _ rfl (hcl 9 _ rfl ((up 5 9 (by decide)).symm.trans q0_) 8 rfl) 6 rfl) 5 rfl)) (by decide)), (fun q0_ => absurd (hl_.symm.trans (hcl 6 _ rfl (hcl 8 _ rfl (hcl 9 _ rfl ((up 5 9 (by decide)).symm.trans q0_) 8 rfl) 6 rfl) 5 rfl)) (by decide)), (fun q0_ => absurd (hl_.symm.trans (hcl 6 _ rfl (hcl 8 _ rfl (hcl 9 _ rfl (hcl 10 _ rfl ((up 5 10 (by decide)).symm.trans q0_) 9 rfl) 8 rfl) 6 rfl) 5 rfl)) (by decide))⟩, fun _ _ _ => rfl⟩
        | 6, _ => exact stepV rfl rfl (execLdL rfl (hdep _ rfl 5 rfl _ rfl _ rfl) (bkC_at (hT.2.2.2.2.1 (by cases hq_ : l_ 10 with | false => rfl | true => exact absurd (hl_.symm.trans (hcl 8 _ rfl (hcl 9 _ rfl (hcl 10 _ rfl hq_ 9 rfl) 8 rfl) 6 rfl)) (by decide)))).1) ⟨s, ⟨_, rfl, rfl⟩, ⟨hT.1, (fun q0_ => (hT.2.1 (by rw [up 6 3 (by decide)] at q0_; exact q0_))), (fun q0_ => (hT.2.2.1 (by rw [up 6 10 (by decide)] at q0_; exact q0_))), (hT.2.2.2.1), (fun q0_ => (hT.2.2.2.2.1 (by rw [up 6 10 (by decide)] at q0_; exact q0_))), (fun q0_ => (hT.2.2.2.2.2.1 (by rw [up 6 3 (by decide)] at q0_; exact q0_))), (fun q0_ q1_ => (hT.2.2.2.2.2.2.1 (by rw [up 6 2 (by decide)] at q0_; exact q0_) (by rw [up 6 3 (by decide)] at q1_; exact q1_))), (fun q0_ => (hT.2.2.2.2.2.2.2.1 (by rw [up 6 2 (by decide)] at q0_; exact q0_))), (fun q0_ => (hT.2.2.2.2.2.2.2.2.1 (by rw [up 6 3 (by decide)] at q0_; exact q0_))), (fun q0_ q1_ => absurd (hl_.symm.trans (hcl 8 _ rfl (hcl 9 _ rfl ((up 6 9 (by decide)).symm.trans q0_) 8 rfl) 6 rfl)) (by decide)), (fun q0_ => absurd (hl_.symm.trans (hcl 8 _ rfl (hcl 9 _ rfl ((up 6 9 (by decide)).symm.trans q0_) 8 rfl) 6 rfl)) (by decide)), (fun q0_ => absurd (hl_.symm.trans (hcl 8 _ rfl (hcl 9 _ rfl (hcl 10 _ rfl ((up 6 10 (by decide)).symm.trans q0_) 9 rfl) 8 rfl) 6 rfl)) (by decide))⟩, fun _ _ _ => rfl⟩
        | 7, _ => exact stepV rfl rfl (execMvB rfl ((hf 23 (by decide)).trans t23)) ⟨s, ⟨_, rfl, rfl⟩, ⟨hT.1, (fun q0_ => (hT.2.1 (by rw [up 7 3 (by decide)] at q0_; exact q0_))), (fun q0_ => (hT.2.2.1 (by rw [up 7 10 (by decide)] at q0_; exact q0_))), (hT.2.2.2.1), (fun q0_ => (hT.2.2.2.2.1 (by rw [up 7 10 (by decide)] at q0_; exact q0_))), (fun q0_ => (hT.2.2.2.2.2.1 (by rw [up 7 3 (by decide)] at q0_; exact q0_))), (fun q0_ q1_ => (hT.2.2.2.2.2.2.1 (by rw [up 7 2 (by decide)] at q0_; exact q0_) (by rw [up 7 3 (by decide)] at q1_; exact q1_))), (fun q0_ => (hT.2.2.2.2.2.2.2.1 (by rw [up 7 2 (by decide)] at q0_; exact q0_))), (fun q0_ => (hT.2.2.2.2.2.2.2.2.1 (by rw [up 7 3 (by decide)] at q0_; exact q0_))), (fun q0_ q1_ => absurd (hl_.symm.trans (hcl 8 _ rfl (hcl 9 _ rfl ((up 7 9 (by decide)).symm.trans q0_) 8 rfl) 7 rfl)) (by decide)), (fun q0_ => absurd (hl_.symm.trans (hcl 8 _ rfl (hcl 9 _ rfl ((up 7 9 (by decide)).symm.trans q0_) 8 rfl) 7 rfl)) (by decide)), (fun q0_ => absurd (hl_.symm.trans (hcl 8 _ rfl (hcl 9 _ rfl (hcl 10 _ rfl ((up 7 10 (by decide)).symm.trans q0_) 9 rfl) 8 rfl) 7 rfl)) (by decide))⟩, fun _ _ _ => rfl⟩
        | 8, _ => exact stepV rfl rfl (execBldK2 (at' := At k + n0) rfl (hdep _ rfl 6 rfl _ rfl _ rfl) (hdep _ rfl 7 rfl _ rfl _ rfl) spk) ⟨s, ⟨_, rfl, rfl⟩, ⟨hT.1, (fun q0_ => (hT.2.1 (by rw [up 8 3 (by decide)] at q0_; exact q0_))), (fun q0_ => (hT.2.2.1 (by rw [up 8 10 (by decide)] at q0_; exact q0_))), (hT.2.2.2.1), (fun q0_ => (hT.2.2.2.2.1 (by rw [up 8 10 (by decide)] at q0_; exact q0_))), (fun q0_ => (hT.2.2.2.2.2.1 (by rw [up 8 3 (by decide)] at q0_; exact q0_))), (fun q0_ q1_ => (hT.2.2.2.2.2.2.1 (by rw [up 8 2 (by decide)] at q0_; exact q0_) (by rw [up 8 3 (by decide)] at q1_; exact q1_))), (fun q0_ => (hT.2.2.2.2.2.2.2.1 (by rw [up 8 2 (by decide)] at q0_; exact q0_))), (fun q0_ => (hT.2.2.2.2.2.2.2.2.1 (by rw [up 8 3 (by decide)] at q0_; exact q0_))), (fun q0_ q1_ => absurd (hl_.symm.trans (hcl 9 _ rfl ((up 8 9 (by decide)).symm.trans q0_) 8 rfl)) (by decide)), (fun q0_ => absurd (hl_.symm.trans (hcl 9 _ rfl ((up 8 9 (by decide)).symm.trans q0_) 8 rfl)) (by decide)), (fun q0_ => absurd (hl_.symm.trans (hcl 9 _ rfl (hcl 10 _ rfl ((up 8 10 (by decide)).symm.trans q0_) 9 rfl) 8 rfl)) (by decide))⟩, fun _ _ _ => rfl⟩
        | 9, _ =>
          refine stepV rfl rfl (execBsK rfl (hdep _ rfl 8 rfl _ rfl _ rfl) spk) ⟨(s.1, s.2.1, X.heap.size, s.2.2.2), ⟨_, rfl, rfl⟩, ⟨hT.1.trans (((belNew X _)).mono hT.1.size), (fun q0_ => (ownsLL_below (hT.2.1 (by rw [up 9 3 (by decide)] at q0_; exact q0_)) (belNew X _))), (fun q0_ => (ownsLL_below (hT.2.2.1 (by rw [up 9 10 (by decide)] at q0_; exact q0_)) (belNew X _))), ((on9 hT.2.2.2.1 (belNew X _))), (fun q0_ => (on9 (hT.2.2.2.2.1 (by rw [up 9 10 (by decide)] at q0_; exact q0_)) (belNew X _))), (fun q0_ => (on9 (hT.2.2.2.2.2.1 (by rw [up 9 3 (by decide)] at q0_; exact q0_)) (belNew X _))), (fun q0_ q1_ => (on9 (hT.2.2.2.2.2.2.1 (by rw [up 9 2 (by decide)] at q0_; exact q0_) (by rw [up 9 3 (by decide)] at q1_; exact q1_)) (belNew X _))), (fun q0_ => (hT.2.2.2.2.2.2.2.1 (by rw [up 9 2 (by decide)] at q0_; exact q0_))), (fun q0_ => (ownsLL_below (hT.2.2.2.2.2.2.2.2.1 (by rw [up 9 3 (by decide)] at q0_; exact q0_)) (belNew X _))), (fun _q0_ _q1_ => heapNew X _), (fun _q0_ => (hT.1).size), (fun q0_ => absurd (hl_.symm.trans (hcl 10 _ rfl ((up 9 10 (by decide)).symm.trans q0_) 9 rfl)) (by decide))⟩, fun i hi hli => ?_⟩
          match i, hi with
          | 0, _ => rfl
          | 1, _ => rfl
          | 2, _ => rfl
          | 3, _ => rfl
          | 4, _ => rfl
          | 5, _ => rfl
          | 6, _ => rfl
          | 7, _ => rfl
          | 8, _ => rfl
          | 9, _ => exact absurd (hl_.symm.trans hli) (by decide)
          | 10, _ => rfl
          | 11, _ => rfl
          | 12, _ => rfl
          | k_ + 13, h_ => exact absurd h_ (by simp)
        | 10, _ =>
          refine stepAppK rfl rfl rfl (hdep _ rfl 4 rfl _ rfl _ rfl) (hdep _ rfl 9 rfl _ rfl _ rfl) (hT.2.2.1 hl_) (hT.2.2.2.2.2.2.2.2.2.1 (hl2 _ rfl 9 rfl) hl_) spk hm (hT.1).size fun v' W' own' gr => ⟨(s.1, s.2.1, s.2.2.1, v'), ⟨_, rfl, rfl⟩, ⟨(hT.1).grown gr (hT.1).size (fun k hk => ((hT.2.2.1 hl_).lt k hk).1), (fun q0_ => absurd (q0_.symm.trans ((up 10 3 (by decide)).trans (hl2 _ rfl 3 rfl))) (by decide)), (fun q0_ => absurd q0_ (by unfold updB; simp)), (heap_overL (hT.2.2.1 hl_) gr hT.2.2.2.1 (by decide)), (fun q0_ => absurd q0_ (by unfold updB; simp)), (fun q0_ => absurd (q0_.symm.trans ((up 10 3 (by decide)).trans (hl2 _ rfl 3 rfl))) (by decide)), (fun q0_ q1_ => absurd (q1_.symm.trans ((up 10 3 (by decide)).trans (hl2 _ rfl 3 rfl))) (by decide)), (fun q0_ => (hT.2.2.2.2.2.2.2.1 (by rw [up 10 2 (by decide)] at q0_; exact q0_))), (fun q0_ => own_overT (hT.2.2.2.2.2.2.2.2.1 (by rw [up 10 3 (by decide)] at q0_; exact q0_)) (hT.2.2.1 hl_) gr (by decide)), (fun q0_ q1_ => absurd q1_ (by unfold updB; simp)), (fun q0_ => (hT.2.2.2.2.2.2.2.2.2.2.1 (by rw [up 10 9 (by decide)] at q0_; exact q0_))), (fun _q0_ => own')⟩, fun i hi hli => ?_⟩
          match i, hi with
          | 0, _ => rfl
          | 1, _ => rfl
          | 2, _ => rfl
          | 3, _ => rfl
          | 4, _ => rfl
          | 5, _ => rfl
          | 6, _ => rfl
          | 7, _ => rfl
          | 8, _ => rfl
          | 9, _ => rfl
          | 10, _ => exact absurd (hl_.symm.trans hli) (by decide)
          | 11, _ => rfl
          | 12, _ => exact absurd (hl_.symm.trans (hcl 12 _ rfl hli 10 rfl)) (by decide)
          | k_ + 13, h_ => exact absurd h_ (by simp)
        | 11, _ => exact stepV rfl rfl (execAsgB rfl (hdep _ rfl 3 rfl _ rfl _ rfl)) ⟨s, ⟨_, rfl, rfl⟩, ⟨hT.1, (fun q0_ => absurd (q0_.symm.trans ((up 11 3 (by decide)).trans (hl2 _ rfl 3 rfl))) (by decide)), (fun q0_ => absurd (q0_.symm.trans ((up 11 10 (by decide)).trans (hl2 _ rfl 10 rfl))) (by decide)), (hT.2.2.2.1), (fun q0_ => absurd (q0_.symm.trans ((up 11 10 (by decide)).trans (hl2 _ rfl 10 rfl))) (by decide)), (fun q0_ => absurd (q0_.symm.trans ((up 11 3 (by decide)).trans (hl2 _ rfl 3 rfl))) (by decide)), (fun q0_ q1_ => absurd (q1_.symm.trans ((up 11 3 (by decide)).trans (hl2 _ rfl 3 rfl))) (by decide)), (fun q0_ => (hT.2.2.2.2.2.2.2.1 (by rw [up 11 2 (by decide)] at q0_; exact q0_))), (fun q0_ => (hT.2.2.2.2.2.2.2.2.1 (by rw [up 11 3 (by decide)] at q0_; exact q0_))), (fun q0_ q1_ => absurd (q1_.symm.trans ((up 11 10 (by decide)).trans (hl2 _ rfl 10 rfl))) (by decide)), (fun q0_ => (hT.2.2.2.2.2.2.2.2.2.2.1 (by rw [up 11 9 (by decide)] at q0_; exact q0_))), (fun q0_ => (hT.2.2.2.2.2.2.2.2.2.2.2 (by rw [up 11 10 (by decide)] at q0_; exact q0_)))⟩, fun _ _ _ => rfl⟩
        | 12, _ => exact stepV rfl rfl (execAsgB rfl (hdep _ rfl 10 rfl _ rfl _ rfl)) ⟨s, ⟨_, rfl, rfl⟩, ⟨hT.1, (fun q0_ => absurd (q0_.symm.trans ((up 12 3 (by decide)).trans (hl2 _ rfl 3 rfl))) (by decide)), (fun q0_ => absurd (q0_.symm.trans ((up 12 10 (by decide)).trans (hl2 _ rfl 10 rfl))) (by decide)), (hT.2.2.2.1), (fun q0_ => absurd (q0_.symm.trans ((up 12 10 (by decide)).trans (hl2 _ rfl 10 rfl))) (by decide)), (fun q0_ => absurd (q0_.symm.trans ((up 12 3 (by decide)).trans (hl2 _ rfl 3 rfl))) (by decide)), (fun q0_ q1_ => absurd (q1_.symm.trans ((up 12 3 (by decide)).trans (hl2 _ rfl 3 rfl))) (by decide)), (fun q0_ => (hT.2.2.2.2.2.2.2.1 (by rw [up 12 2 (by decide)] at q0_; exact q0_))), (fun q0_ => (hT.2.2.2.2.2.2.2.2.1 (by rw [up 12 3 (by decide)] at q0_; exact q0_))), (fun q0_ q1_ => absurd (q1_.symm.trans ((up 12 10 (by decide)).trans (hl2 _ rfl 10 rfl))) (by decide)), (fun q0_ => (hT.2.2.2.2.2.2.2.2.2.2.1 (by rw [up 12 9 (by decide)] at q0_; exact q0_))), (fun q0_ => (hT.2.2.2.2.2.2.2.2.2.2.2 (by rw [up 12 10 (by decide)] at q0_; exact q0_)))⟩, fun _ _ _ => rfl⟩
        | k_ + 13, h_ => exact absurd h_ (by simp)
      rintro l_ ⟨g184, v185, g191, v192⟩ a X42 h1 h2 h3 h4 hall hT
      clear BB
      clear FTa
      clear FBo
      clear F6
      clear F9
      clear F20
      obtain ⟨BB, FTa, FBo, F6, F9, F20, Fg184, Fgeg184, FTb, Fg191, Fgeg191, FBb⟩ := hT
      clear FTa
      clear FBo
      replace F6 : X42.heap[g6]? = some (.cells (stC kd tt ((n0 : Nat) : Int) pw) 32) := F6
      clear F9
      clear F20
      clear Fg184
      replace Fgeg184 : (V.heap.size ≤ g184) := Fgeg184 (hall 2 (by decide))
      replace FTb : (X42.ownsRow V.heap.size 25 2 v185 (m + 1) ((pairL (fun t => .string (strN (P t) (Ln t))) (fun t => .int .i64 (At t : Int)) m) ++ [.string (strN (P k) (Ln k)), .int .i64 ((((At k) + n0) : Nat) : Int)])) := FTb (hall 3 (by decide))
      clear Fg191
      replace Fgeg191 : (V.heap.size ≤ g191) := Fgeg191 (hall 9 (by decide))
      replace FBb : (X42.ownsRow V.heap.size 29 2 v192 (m + 1) ((pairL pvs (fun t => .int .i64 (At t : Int)) m) ++ [(pvs k), .int .i64 ((At k + n0 : Nat) : Int)])) := FBb (hall 10 (by decide))
      clear hall
      replace t3 : a.eval (.tmp 3) = v185 := h4 (11, 3) (by decide)
      replace t4 : a.eval (.tmp 4) = v192 := h4 (12, 4) (by decide)
      replace t6 := (h3 6 (by decide)).trans t6
      replace t39 := (h3 39 (by decide)).trans t39
      replace t40 := (h3 40 (by decide)).trans t40
      replace t41 := (h3 41 (by decide)).trans t41
      replace A := (⟨h1, h2.trans A.2⟩ : a.tmps.size = 270 ∧ a.defers = [])
      clear h1 h2 h3 h4
      clear t9 t20 t23 t24
      exact hQ a _ _ _ (m + 1) _ _ _ _ A t3 t4 t6 t39 t40 t41 BB (tb_push FT0 FTb FBb hcn hlk hsk hzk) (Nat.le_refl _) F6
  · obtain ⟨E, hE⟩ : ∃ E, tkE (Ln k) (At k) nn = E := ⟨_, rfl⟩
    have hE0 : E ≠ 0 := by
      rw [← hE]
      unfold tkE
      by_cases h1 : nn < 0
      · rw [if_pos h1]; decide
      · rw [if_neg h1, if_pos (by omega)]; decide
    have hskW := hsk.on BW
    have FNil : SliceN W (.slice none 0 0) 0 (fun j => P k (At k + j)) := slice_nil9
    refine wp_seq ?_
    refine wp_region_sq (σ := Nat) 270 [(0, 137), (1, 138), (2, 139), (3, 140), (4, 136), (5, 141), (6, 142), (7, 143), (8, 20), (9, 19), (11, 21)] (fun j_ s X => match j_ with | 0 => Below W.heap.size W X | 1 => Below W.heap.size W X | 2 => Below W.heap.size W X | 3 => Below W.heap.size W X | 4 => Below W.heap.size W X | 5 => Below W.heap.size W X | 6 => Below W.heap.size W X | 7 => Below W.heap.size W X | 8 => Below W.heap.size W X | 9 => Below W.heap.size W X ∧ X.heap[s]? = some (.cells (tpC (fun _ => 0) 0 0) 25) ∧ (W.heap.size ≤ s) | 10 => Below W.heap.size W X ∧ X.heap[s]? = some (.cells (tpC (fun _ => 0) 0 0) 25) ∧ (W.heap.size ≤ s) | 11 => Below W.heap.size W X ∧ (W.heap.size ≤ s) ∧ X.heap[s]? = some (.cells (tpC (P k) 0 0) 25) | _ => Below W.heap.size W X ∧ (W.heap.size ≤ s) ∧ X.heap[s]? = some (.cells (tpC (P k) 0 0) 25)) (fun s => fun i_ => match i_ with | 0 => .agg (tpC (P k) (Ln k) (At k)) | 1 => .pointer (some ⟨g6, 2, none⟩) | 2 => .int .i64 nn | 3 => .tuple #[.slice none 0 0, .agg (tpC (P k) 0 0), .int .i64 ((E : Nat) : Int)] | 4 => .tuple #[.slice none 0 0, .agg (tpC (P k) 0 0), .int .i64 ((E : Nat) : Int)] | 5 => .slice none 0 0 | 6 => .agg (tpC (P k) 0 0) | 7 => .int .i64 ((E : Nat) : Int) | 8 => .pointer (some ⟨s, 0, none⟩) | 9 => .slice none 0 0 | 10 => undef | 11 => .int .i64 ((E : Nat) : Int) | _ => undef) 0 A.1 (by kernel_rfl) (by decide) (by decide) (Below.refl _ _) ?_ ?_
    · intro i_ hi_ s a X hf hv hn hS
      match i_, hi_ with
      | 0, _ => exact stepV rfl rfl (execLdTp rfl ((hf 8 (by decide)).trans t8) (on9 F8 hS)) ⟨s, ⟨_, rfl, rfl⟩, hS, fun _ _ => rfl⟩
      | 1, _ => exact stepV rfl rfl (execFldS2 rfl ((hf 6 (by decide)).trans t6)) ⟨s, ⟨_, rfl, rfl⟩, hS, fun _ _ => rfl⟩
      | 2, _ => exact stepV rfl rfl (execLd3 rfl (hv 1 (by omega) _ rfl _ rfl) (stC_at (on9 F6 hS)).2.2.1) ⟨s, ⟨_, rfl, rfl⟩, hS, fun _ _ => rfl⟩
      | 3, _ => exact stepC rfl rfl (execCall2 Try.func13 (by kernel_rfl) (by kernel_rfl) rfl (hv 0 (by omega) _ rfl _ rfl) (hv 2 (by omega) _ rfl _ rfl)) (take_bad (P k) (Ln k) (At k) nn X hat hlk hpk E hE hE0) fun e w' hh => ⟨_, hh.1, s, ⟨_, rfl, rfl⟩, (hS).trans ((hh.2).mono (hS).size), fun _ _ => rfl⟩
      | 4, _ => exact stepV rfl rfl (execMvB rfl (hv 3 (by omega) _ rfl _ rfl)) ⟨s, ⟨_, rfl, rfl⟩, hS, fun _ _ => rfl⟩
      | 5, _ => exact stepV rfl rfl (execExtT rfl (hv 4 (by omega) _ rfl _ rfl) rfl) ⟨s, ⟨_, rfl, rfl⟩, hS, fun _ _ => rfl⟩
      | 6, _ => exact stepV rfl rfl (execExtT rfl (hv 4 (by omega) _ rfl _ rfl) rfl) ⟨s, ⟨_, rfl, rfl⟩, hS, fun _ _ => rfl⟩
      | 7, _ => exact stepV rfl rfl (execExtT rfl (hv 4 (by omega) _ rfl _ rfl) rfl) ⟨s, ⟨_, rfl, rfl⟩, hS, fun _ _ => rfl⟩
      | 8, _ =>
        refine stepV rfl rfl (execAllTp rfl (fun _ => 0)) ⟨X.heap.size, ⟨_, rfl, rfl⟩, ⟨(hS).trans (((belNew X _)).mono (hS).size), heapNew X _, (hS).size⟩, fun i hi => ?_⟩
        match i, hi with
        | 0, _ => rfl
        | 1, _ => rfl
        | 2, _ => rfl
        | 3, _ => rfl
        | 4, _ => rfl
        | 5, _ => rfl
        | 6, _ => rfl
        | 7, _ => rfl
        | n_ + 8, h_ => omega
      | 9, _ => exact stepV rfl rfl (execAsgB rfl (hv 5 (by omega) _ rfl _ rfl)) ⟨s, ⟨_, rfl, rfl⟩, hS, fun _ _ => rfl⟩
      | 10, _ => exact stepS rfl rfl (execStTp rfl (hv 8 (by omega) _ rfl _ rfl) (hv 6 (by omega) _ rfl _ rfl) hS.2.1 rfl) ⟨s, ⟨_, rfl, rfl⟩, ⟨below4 hS.1 hS.2.2 _, hS.2.2, setRow_heap _ _ _ _ _ _ hS.2.1⟩, fun _ _ => rfl⟩
      | 11, _ => exact stepV rfl rfl (execAsgB rfl (hv 7 (by omega) _ rfl _ rfl)) ⟨s, ⟨_, rfl, rfl⟩, hS, fun _ _ => rfl⟩
      | k_ + 12, h_ => exact absurd h_ (by simp)
    rintro g20 a X30 h1 h2 h3 h4 hS
    replace hS : Below W.heap.size W X30 ∧ (W.heap.size ≤ g20) ∧ X30.heap[g20]? = some (.cells (tpC (P k) 0 0) 25) := hS
    obtain ⟨bX, Fge20, F20⟩ := hS
    replace t3 := (h3 3 (by decide)).trans t3
    replace t4 := (h3 4 (by decide)).trans t4
    replace t6 := (h3 6 (by decide)).trans t6
    replace t9 := (h3 9 (by decide)).trans t9
    replace t39 := (h3 39 (by decide)).trans t39
    replace t40 := (h3 40 (by decide)).trans t40
    replace t41 := (h3 41 (by decide)).trans t41
    replace t8 := (h3 8 (by decide)).trans t8
    have t19 : a.eval (.tmp 19) = .slice none 0 0 := h4 9 _ rfl _ rfl
    have t20 : a.eval (.tmp 20) = .pointer (some ⟨g20, 0, none⟩) := h4 8 _ rfl _ rfl
    have t21 : a.eval (.tmp 21) = .int .i64 ((E : Nat) : Int) := h4 11 _ rfl _ rfl
    replace FT := (FT.on bX)
    replace F6 := (on9 F6 bX)
    replace F8 := (on9 F8 bX)
    replace F9 := (on9 F9 bX)
    replace hskW := (hskW.on bX)
    replace FNil := (FNil.on bX)
    have ZX30 := bX.size
    replace BW := BW.trans (bX.mono BW.size)
    clear bX
    replace A := (⟨h1, h2.trans A.2⟩ : a.tmps.size = 270 ∧ a.defers = [])
    clear h1 h2 h3 h4
    refine wp_seq ?_
    refine wp_region_sq (σ := Value) 270 [(0, 145), (1, 146), (2, 147), (3, 148), (4, 149), (5, 150), (6, 151), (7, 144), (8, 152), (9, 153), (10, 154), (11, 22), (12, 23), (13, 24)] (fun j_ s X => match j_ with | 0 => Below X30.heap.size X30 X | 1 => Below X30.heap.size X30 X | 2 => Below X30.heap.size X30 X | 3 => Below X30.heap.size X30 X | 4 => Below X30.heap.size X30 X | 5 => Below X30.heap.size X30 X | 6 => Below X30.heap.size X30 X | 7 => Below X30.heap.size X30 X ∧ SliceN X s (0) (fun j => P k (At k + j)) | 8 => Below X30.heap.size X30 X ∧ SliceN X s (0) (fun j => P k (At k + j)) | 9 => Below X30.heap.size X30 X ∧ SliceN X s (0) (fun j => P k (At k + j)) | 10 => Below X30.heap.size X30 X ∧ SliceN X s (0) (fun j => P k (At k + j)) | 11 => Below X30.heap.size X30 X ∧ SliceN X s (0) (fun j => P k (At k + j)) | 12 => Below X30.heap.size X30 X ∧ SliceN X s (0) (fun j => P k (At k + j)) | 13 => Below X30.heap.size X30 X ∧ SliceN X s (0) (fun j => P k (At k + j)) | _ => Below X30.heap.size X30 X ∧ SliceN X s (0) (fun j => P k (At k + j))) (fun s => fun i_ => match i_ with | 0 => .pointer (some ⟨g9, 0, none⟩) | 1 => (pvs k) | 2 => .pointer (some ⟨g9, 1, none⟩) | 3 => .int .i64 (((At k) : Nat) : Int) | 4 => .pointer (some ⟨g6, 2, none⟩) | 5 => .int .i64 nn | 6 => .tuple #[s, .int .i64 ((0 : Nat) : Int), .int .i64 ((E : Nat) : Int)] | 7 => .tuple #[s, .int .i64 ((0 : Nat) : Int), .int .i64 ((E : Nat) : Int)] | 8 => s | 9 => .int .i64 ((0 : Nat) : Int) | 10 => .int .i64 ((E : Nat) : Int) | 11 => s | 12 => .int .i64 ((0 : Nat) : Int) | 13 => .int .i64 ((E : Nat) : Int) | _ => undef) undef A.1 (by kernel_rfl) (by decide) (by decide) (Below.refl _ _) ?_ ?_
    · intro i_ hi_ s a X hf hv hn hS
      match i_, hi_ with
      | 0, _ => exact stepV rfl rfl (execFldK0 rfl ((hf 9 (by decide)).trans t9)) ⟨s, ⟨_, rfl, rfl⟩, hS, fun _ _ => rfl⟩
      | 1, _ => exact stepV rfl rfl (execLdL rfl (hv 0 (by omega) _ rfl _ rfl) (bkC_at (on9 F9 hS)).1) ⟨s, ⟨_, rfl, rfl⟩, hS, fun _ _ => rfl⟩
      | 2, _ => exact stepV rfl rfl (execFldK1 rfl ((hf 9 (by decide)).trans t9)) ⟨s, ⟨_, rfl, rfl⟩, hS, fun _ _ => rfl⟩
      | 3, _ => exact stepV rfl rfl (execLd3 rfl (hv 2 (by omega) _ rfl _ rfl) (bkC_at (on9 F9 hS)).2) ⟨s, ⟨_, rfl, rfl⟩, hS, fun _ _ => rfl⟩
      | 4, _ => exact stepV rfl rfl (execFldS2 rfl ((hf 6 (by decide)).trans t6)) ⟨s, ⟨_, rfl, rfl⟩, hS, fun _ _ => rfl⟩
      | 5, _ => exact stepV rfl rfl (execLd3 rfl (hv 4 (by omega) _ rfl _ rfl) (stC_at (on9 F6 hS)).2.2.1) ⟨s, ⟨_, rfl, rfl⟩, hS, fun _ _ => rfl⟩
      | 6, _ =>
        refine stepC rfl rfl (execCall3 Try.func14 (by kernel_rfl) (by kernel_rfl) rfl (hv 1 (by omega) _ rfl _ rfl) (hv 3 (by omega) _ rfl _ rfl) (hv 5 (by omega) _ rfl _ rfl)) (rtake_bad (P k) (Ln k) (At k) nn _ X (hskW.on hS) hzk hlk hat E hE hE0) fun e w' hh => ?_
        obtain ⟨r_, he, hk, hb⟩ := hh
        refine ⟨_, he, r_, ⟨_, rfl, rfl⟩, ⟨(hS).trans ((hb).mono (hS).size), hk⟩, fun i hi => ?_⟩
        match i, hi with
        | 0, _ => rfl
        | 1, _ => rfl
        | 2, _ => rfl
        | 3, _ => rfl
        | 4, _ => rfl
        | 5, _ => rfl
        | n_ + 6, h_ => omega
      | 7, _ => exact stepV rfl rfl (execMvB rfl (hv 6 (by omega) _ rfl _ rfl)) ⟨s, ⟨_, rfl, rfl⟩, hS, fun _ _ => rfl⟩
      | 8, _ => exact stepV rfl rfl (execExtT rfl (hv 7 (by omega) _ rfl _ rfl) rfl) ⟨s, ⟨_, rfl, rfl⟩, hS, fun _ _ => rfl⟩
      | 9, _ => exact stepV rfl rfl (execExtT rfl (hv 7 (by omega) _ rfl _ rfl) rfl) ⟨s, ⟨_, rfl, rfl⟩, hS, fun _ _ => rfl⟩
      | 10, _ => exact stepV rfl rfl (execExtT rfl (hv 7 (by omega) _ rfl _ rfl) rfl) ⟨s, ⟨_, rfl, rfl⟩, hS, fun _ _ => rfl⟩
      | 11, _ => exact stepV rfl rfl (execAsgB rfl (hv 8 (by omega) _ rfl _ rfl)) ⟨s, ⟨_, rfl, rfl⟩, hS, fun _ _ => rfl⟩
      | 12, _ => exact stepV rfl rfl (execAsgB rfl (hv 9 (by omega) _ rfl _ rfl)) ⟨s, ⟨_, rfl, rfl⟩, hS, fun _ _ => rfl⟩
      | 13, _ => exact stepV rfl rfl (execAsgB rfl (hv 10 (by omega) _ rfl _ rfl)) ⟨s, ⟨_, rfl, rfl⟩, hS, fun _ _ => rfl⟩
      | k_ + 14, h_ => exact absurd h_ (by simp)
    rintro v151 a X31 h1 h2 h3 h4 hS
    replace hS : Below X30.heap.size X30 X31 ∧ SliceN X31 v151 (0) (fun j => P k (At k + j)) := hS
    obtain ⟨bX, Fv151⟩ := hS
    replace t3 := (h3 3 (by decide)).trans t3
    replace t4 := (h3 4 (by decide)).trans t4
    replace t6 := (h3 6 (by decide)).trans t6
    replace t9 := (h3 9 (by decide)).trans t9
    replace t39 := (h3 39 (by decide)).trans t39
    replace t40 := (h3 40 (by decide)).trans t40
    replace t41 := (h3 41 (by decide)).trans t41
    replace t19 := (h3 19 (by decide)).trans t19
    replace t20 := (h3 20 (by decide)).trans t20
    replace t21 := (h3 21 (by decide)).trans t21
    have t22 : a.eval (.tmp 22) = v151 := h4 11 _ rfl _ rfl
    have t23 : a.eval (.tmp 23) = .int .i64 ((0 : Nat) : Int) := h4 12 _ rfl _ rfl
    have t24 : a.eval (.tmp 24) = .int .i64 ((E : Nat) : Int) := h4 13 _ rfl _ rfl
    replace FT := (FT.on bX)
    replace F6 := (on9 F6 bX)
    replace F8 := (on9 F8 bX)
    replace F9 := (on9 F9 bX)
    replace hskW := (hskW.on bX)
    replace FNil := (FNil.on bX)
    replace Fge20 := Fge20
    replace F20 := (on9 F20 bX)
    have ZX31 := bX.size
    replace BW := BW.trans (bX.mono BW.size)
    clear bX
    replace A := (⟨h1, h2.trans A.2⟩ : a.tmps.size = 270 ∧ a.defers = [])
    clear h1 h2 h3 h4
    clear t8
    refine wp_seq ?_
    refine wp_seq ?_
    refine wp_region_sq (σ := Unit) 270 [(0, 155), (1, 156), (2, 157), (3, 158), (4, 159), (5, 160), (6, 161), (7, 162), (8, 163)] (fun j_ s X => match j_ with | 0 => Below X31.heap.size X31 X | 1 => Below X31.heap.size X31 X | 2 => Below X31.heap.size X31 X | 3 => Below X31.heap.size X31 X | 4 => Below X31.heap.size X31 X | 5 => Below X31.heap.size X31 X | 6 => Below X31.heap.size X31 X | 7 => Below X31.heap.size X31 X | 8 => Below X31.heap.size X31 X | _ => Below X31.heap.size X31 X) (fun s => fun i_ => match i_ with | 0 => .slice none 0 0 | 1 => v151 | 2 => .bool true | 3 => .bool false | 4 => .bool false | 5 => .int .i64 ((E : Nat) : Int) | 6 => .int .i64 ((E : Nat) : Int) | 7 => .bool false | 8 => .bool false | _ => undef) () A.1 (by kernel_rfl) (by decide) (by decide) (Below.refl _ _) ?_ ?_
    · intro i_ hi_ s a X hf hv hn hS
      match i_, hi_ with
      | 0, _ => exact stepV rfl rfl (execMvB rfl ((hf 19 (by decide)).trans t19)) ⟨s, ⟨_, rfl, rfl⟩, hS, fun _ _ => rfl⟩
      | 1, _ => exact stepV rfl rfl (execMvB rfl ((hf 22 (by decide)).trans t22)) ⟨s, ⟨_, rfl, rfl⟩, hS, fun _ _ => rfl⟩
      | 2, _ => exact stepC rfl rfl (execCall2 Try.func10 (by kernel_rfl) (by kernel_rfl) rfl (hv 0 (by omega) _ rfl _ rfl) (hv 1 (by omega) _ rfl _ rfl)) (same_true _ _ (0) _ _ X (FNil.on hS) (Fv151.on hS) (by intro j hj; rfl)) fun e w' hh => ⟨_, hh.1, s, ⟨_, rfl, rfl⟩, by rw [hh.2]; exact hS, fun _ _ => rfl⟩
      | 3, _ => exact stepV rfl rfl (execNot8 rfl (hv 2 (by omega) _ rfl _ rfl)) ⟨s, ⟨_, rfl, rfl⟩, hS, fun _ _ => rfl⟩
      | 4, _ => exact stepV rfl rfl (execMvB rfl (hv 3 (by omega) _ rfl _ rfl)) ⟨s, ⟨_, rfl, rfl⟩, hS, fun _ _ => rfl⟩
      | 5, _ => exact stepV rfl (wantedOf rfl (yieldedAt rfl rfl (show a.eval (.tmp 159) = .bool false from (hv 4 (by omega) _ rfl _ rfl)))) (execMvB rfl ((hf 21 (by decide)).trans t21)) ⟨s, ⟨_, rfl, rfl⟩, hS, fun _ _ => rfl⟩
      | 6, _ => exact stepV rfl (wantedOf rfl (yieldedAt rfl rfl (show a.eval (.tmp 159) = .bool false from (hv 4 (by omega) _ rfl _ rfl)))) (execMvB rfl ((hf 24 (by decide)).trans t24)) ⟨s, ⟨_, rfl, rfl⟩, hS, fun _ _ => rfl⟩
      | 7, _ => exact stepV rfl (wantedOf rfl (yieldedAt rfl rfl (show a.eval (.tmp 159) = .bool false from (hv 4 (by omega) _ rfl _ rfl)))) (execDec (execNeN (p := E) (q := E) rfl (hv 5 (by omega) _ rfl _ rfl) (hv 6 (by omega) _ rfl _ rfl)) (decide_eq_false (by omega))) ⟨s, ⟨_, rfl, rfl⟩, hS, fun _ _ => rfl⟩
      | 8, _ => exact stepV rfl rfl (execPickF rfl (hv 4 (by omega) _ rfl _ rfl) (hv 7 (by omega) _ rfl _ rfl)) ⟨s, ⟨_, rfl, rfl⟩, hS, fun _ _ => rfl⟩
      | k_ + 9, h_ => exact absurd h_ (by simp)
    rintro _ a X32 h1 h2 h3 h4 hS
    replace hS : Below X31.heap.size X31 X32 := hS
    have bX := hS
    clear hS
    replace t3 := (h3 3 (by decide)).trans t3
    replace t4 := (h3 4 (by decide)).trans t4
    replace t6 := (h3 6 (by decide)).trans t6
    replace t9 := (h3 9 (by decide)).trans t9
    replace t19 := (h3 19 (by decide)).trans t19
    replace t20 := (h3 20 (by decide)).trans t20
    replace t23 := (h3 23 (by decide)).trans t23
    replace t24 := (h3 24 (by decide)).trans t24
    replace t39 := (h3 39 (by decide)).trans t39
    replace t40 := (h3 40 (by decide)).trans t40
    replace t41 := (h3 41 (by decide)).trans t41
    have t163 : a.eval (.tmp 163) = .bool false := h4 8 _ rfl _ rfl
    replace FT := (FT.on bX)
    replace F6 := (on9 F6 bX)
    replace F8 := (on9 F8 bX)
    replace F9 := (on9 F9 bX)
    replace hskW := (hskW.on bX)
    replace FNil := (FNil.on bX)
    replace Fge20 := Fge20
    replace F20 := (on9 F20 bX)
    replace Fv151 := (Fv151.on bX)
    have ZX32 := bX.size
    replace BW := BW.trans (bX.mono BW.size)
    clear bX
    replace A := (⟨h1, h2.trans A.2⟩ : a.tmps.size = 270 ∧ a.defers = [])
    clear h1 h2 h3 h4
    clear t21 t22
    refine wp_cond_false t163 ?_
    refine wp_skip ?_
    clear t163
    clear Fv151 hskW FNil
    refine wp_seq ?_
    refine wp_seq ?_
    refine wp_region_sq (σ := Unit) 270 [(0, 164), (1, 165), (2, 166)] (fun j_ s X => match j_ with | 0 => Below X32.heap.size X32 X | 1 => Below X32.heap.size X32 X | 2 => Below X32.heap.size X32 X | _ => Below X32.heap.size X32 X) (fun s => fun i_ => match i_ with | 0 => .slice none 0 0 | 1 => .int .i64 ((0 : Nat) : Int) | 2 => .int .i64 ((0 : Nat) : Int) | _ => undef) () A.1 (by kernel_rfl) (by decide) (by decide) (Below.refl _ _) ?_ ?_
    · intro i_ hi_ s a X hf hv hn hS
      match i_, hi_ with
      | 0, _ => exact stepV rfl rfl (execMvB rfl ((hf 19 (by decide)).trans t19)) ⟨s, ⟨_, rfl, rfl⟩, hS, fun _ _ => rfl⟩
      | 1, _ => exact stepV rfl rfl (execLenV (len := 0) rfl (hv 0 (by omega) _ rfl _ rfl) ⟨_, _, rfl⟩) ⟨s, ⟨_, rfl, rfl⟩, hS, fun _ _ => rfl⟩
      | 2, _ => exact stepV rfl rfl (execMvB rfl rfl) ⟨s, ⟨_, rfl, rfl⟩, hS, fun _ _ => rfl⟩
      | k_ + 3, h_ => exact absurd h_ (by simp)
    rintro _ a X34 h1 h2 h3 h4 hS
    replace hS : Below X32.heap.size X32 X34 := hS
    have bX := hS
    clear hS
    replace t3 := (h3 3 (by decide)).trans t3
    replace t4 := (h3 4 (by decide)).trans t4
    replace t6 := (h3 6 (by decide)).trans t6
    replace t9 := (h3 9 (by decide)).trans t9
    replace t19 := (h3 19 (by decide)).trans t19
    replace t20 := (h3 20 (by decide)).trans t20
    replace t23 := (h3 23 (by decide)).trans t23
    replace t24 := (h3 24 (by decide)).trans t24
    replace t39 := (h3 39 (by decide)).trans t39
    replace t40 := (h3 40 (by decide)).trans t40
    replace t41 := (h3 41 (by decide)).trans t41
    have t165 : a.eval (.tmp 165) = .int .i64 ((0 : Nat) : Int) := h4 1 _ rfl _ rfl
    have t166 : a.eval (.tmp 166) = .int .i64 ((0 : Nat) : Int) := h4 2 _ rfl _ rfl
    replace FT := (FT.on bX)
    replace F6 := (on9 F6 bX)
    replace F8 := (on9 F8 bX)
    replace F9 := (on9 F9 bX)
    replace Fge20 := Fge20
    replace F20 := (on9 F20 bX)
    have ZX34 := bX.size
    replace BW := BW.trans (bX.mono BW.size)
    clear bX
    replace A := (⟨h1, h2.trans A.2⟩ : a.tmps.size = 270 ∧ a.defers = [])
    clear h1 h2 h3 h4
    have BB : Below X34.heap.size X34 X34 := Below.refl _ _
    refine wp_block ?_
    refine wp_loop (fun a W => ∃ (ix : Nat), ix ≤ 0 ∧ ((a.tmps.size = 270 ∧ a.defers = []) ∧ a.eval (.tmp 3) = tv ∧ a.eval (.tmp 4) = bv ∧ a.eval (.tmp 6) = .pointer (some ⟨g6, 0, none⟩) ∧ a.eval (.tmp 9) = .pointer (some ⟨g9, 0, none⟩) ∧ a.eval (.tmp 19) = .slice none 0 0 ∧ a.eval (.tmp 20) = .pointer (some ⟨g20, 0, none⟩) ∧ a.eval (.tmp 23) = .int .i64 ((0 : Nat) : Int) ∧ a.eval (.tmp 24) = .int .i64 ((E : Nat) : Int) ∧ a.eval (.tmp 39) = sc ∧ a.eval (.tmp 40) = .int .i64 ((n : Nat) : Int) ∧ a.eval (.tmp 41) = .int .i64 ((i : Nat) : Int) ∧ a.eval (.tmp 165) = .int .i64 ((0 : Nat) : Int) ∧ a.eval (.tmp 166) = .int .i64 ((ix : Nat) : Int) ∧ Below X34.heap.size X34 W)) (fun _ _ => 0) ⟨0, Nat.le_refl _, A, t3, t4, t6, t9, t19, t20, t23, t24, t39, t40, t41, t165, t166, BB⟩ ?_
    clear A t3 t4 t6 t9 t19 t20 t23 t24 t39 t40 t41 t165 t166 BB a
    rintro a XL ⟨ix, hix, A, t3, t4, t6, t9, t19, t20, t23, t24, t39, t40, t41, t165, t166, BB⟩
    refine wp_seq ?_
    refine wp_region_sq (σ := Unit) 270 [(0, 167)] (fun j_ s X => match j_ with | 0 => Below X34.heap.size X34 X | _ => Below X34.heap.size X34 X) (fun s => fun i_ => match i_ with | 0 => .bool (decide (ix < 0)) | _ => undef) () A.1 (by kernel_rfl) (by decide) (by decide) (BB) ?_ ?_
    · intro i_ hi_ s a X hf hv hn hS
      match i_, hi_ with
      | 0, _ => exact stepV rfl rfl (execLtW (p := ix) (q := 0) rfl ((hf 166 (by decide)).trans t166) ((hf 165 (by decide)).trans t165)) ⟨s, ⟨_, rfl, rfl⟩, hS, fun _ _ => rfl⟩
      | k_ + 1, h_ => exact absurd h_ (by simp)
    rintro _ a X35 h1 h2 h3 h4 hS
    clear BB
    replace hS : Below X34.heap.size X34 X35 := hS
    have BB := hS
    clear hS
    replace t3 := (h3 3 (by decide)).trans t3
    replace t4 := (h3 4 (by decide)).trans t4
    replace t6 := (h3 6 (by decide)).trans t6
    replace t9 := (h3 9 (by decide)).trans t9
    replace t19 := (h3 19 (by decide)).trans t19
    replace t20 := (h3 20 (by decide)).trans t20
    replace t23 := (h3 23 (by decide)).trans t23
    replace t24 := (h3 24 (by decide)).trans t24
    replace t39 := (h3 39 (by decide)).trans t39
    replace t40 := (h3 40 (by decide)).trans t40
    replace t41 := (h3 41 (by decide)).trans t41
    replace t165 := (h3 165 (by decide)).trans t165
    replace t166 := (h3 166 (by decide)).trans t166
    have t167 : a.eval (.tmp 167) = .bool (decide (ix < 0)) := h4 0 _ rfl _ rfl
    replace A := (⟨h1, h2.trans A.2⟩ : a.tmps.size = 270 ∧ a.defers = [])
    clear h1 h2 h3 h4
    refine wp_seq ?_
    have hlt : ¬ ix < 0 := Nat.not_lt_zero _
    rw [decide_eq_false hlt] at t167
    refine wp_cond_false t167 ?_
    refine wp_exit ?_
    first | refine exit_in ?_ | refine exit_then (exit_in ?_) | refine exit_then (exit_then (exit_in ?_))
    clear t167 t165 t166
    replace FT := (FT.on BB)
    replace F6 := (on9 F6 BB)
    replace F8 := (on9 F8 BB)
    replace F9 := (on9 F9 BB)
    replace Fge20 := Fge20
    replace F20 := (on9 F20 BB)
    replace BW := BW.trans (BB.mono BW.size)
    clear BB
    refine wp_seq ?_
    refine wp_region_sq (σ := Nat × Value) 270 [(0, 176), (1, 177), (2, 178), (3, 19)] (fun j_ s X => match j_ with | 0 => Below X35.heap.size X35 X | 1 => Below X35.heap.size X35 X | 2 => Below X35.heap.size X35 X ∧ SliceN X (.slice (some ⟨s.1, 0, none⟩) 3 3) (3) (l123) | 3 => Below X35.heap.size X35 X ∧ SliceN X (.slice (some ⟨s.1, 0, none⟩) 3 3) (3) (l123) | _ => Below X35.heap.size X35 X ∧ SliceN X (.slice (some ⟨s.1, 0, none⟩) 3 3) (3) (l123)) (fun s => fun i_ => match i_ with | 0 => .slice none 0 0 | 1 => .slice (some ⟨s.1, 0, none⟩) 3 3 | 2 => s.2 | 3 => s.2 | _ => undef) (0, undef) A.1 (by kernel_rfl) (by decide) (by decide) (Below.refl _ _) ?_ ?_
    · intro i_ hi_ s a X hf hv hn hS
      match i_, hi_ with
      | 0, _ => exact stepV rfl rfl (execMvB rfl ((hn 3 (by omega) _ rfl _ rfl).trans t19)) ⟨s, ⟨_, rfl, rfl⟩, hS, fun _ _ => rfl⟩
      | 1, _ =>
        refine stepV rfl rfl (execLit3 rfl) ⟨(X.heap.size, s.2), ⟨_, rfl, rfl⟩, ⟨(hS).trans (((belNew X _)).mono (hS).size), slice123 X⟩, fun i hi => ?_⟩
        match i, hi with
        | 0, _ => rfl
        | n_ + 1, h_ => omega
      | 2, _ =>
        refine stepAppN (B := X.heap.size) (n := 0) (p := l123) rfl rfl rfl (hv 0 (by omega) _ rfl _ rfl) (hv 1 (by omega) _ rfl _ rfl) (World.ownsRow_nil _ _ _ _) (sliceN_cg hS.2 (fun j _ => by rw [Nat.zero_add])) (fun l c e => by cases e) (by omega) (Nat.le_refl _) fun v' W' own' gr => ⟨(s.1, v'), ⟨_, rfl, rfl⟩, ⟨(hS.1).trans (((below_none gr)).mono (hS.1).size), (hS.2.on (below_none gr))⟩, fun i hi => ?_⟩
        match i, hi with
        | 0, _ => rfl
        | 1, _ => rfl
        | n_ + 2, h_ => omega
      | 3, _ => exact stepV rfl rfl (execAsgB rfl (hv 2 (by omega) _ rfl _ rfl)) ⟨s, ⟨_, rfl, rfl⟩, hS, fun _ _ => rfl⟩
      | k_ + 4, h_ => exact absurd h_ (by simp)
    rintro ⟨g177, v178⟩ a X39 h1 h2 h3 h4 hS
    replace hS : Below X35.heap.size X35 X39 ∧ SliceN X39 (.slice (some ⟨g177, 0, none⟩) 3 3) (3) (l123) := hS
    obtain ⟨bX, Fg177⟩ := hS
    replace t3 := (h3 3 (by decide)).trans t3
    replace t4 := (h3 4 (by decide)).trans t4
    replace t6 := (h3 6 (by decide)).trans t6
    replace t9 := (h3 9 (by decide)).trans t9
    replace t20 := (h3 20 (by decide)).trans t20
    replace t23 := (h3 23 (by decide)).trans t23
    replace t24 := (h3 24 (by decide)).trans t24
    replace t39 := (h3 39 (by decide)).trans t39
    replace t40 := (h3 40 (by decide)).trans t40
    replace t41 := (h3 41 (by decide)).trans t41
    replace FT := (FT.on bX)
    replace F6 := (on9 F6 bX)
    replace F8 := (on9 F8 bX)
    replace F9 := (on9 F9 bX)
    replace Fge20 := Fge20
    replace F20 := (on9 F20 bX)
    have ZX39 := bX.size
    replace BW := BW.trans (bX.mono BW.size)
    clear bX
    replace A := (⟨h1, h2.trans A.2⟩ : a.tmps.size = 270 ∧ a.defers = [])
    clear h1 h2 h3 h4
    clear t19
    clear Fg177
    refine wp_seq ?_
    refine wp_seq ?_
    refine wp_region_sq (σ := Unit) 270 [(0, 179), (1, 180)] (fun j_ s X => match j_ with | 0 => Below X39.heap.size X39 X | 1 => Below X39.heap.size X39 X | _ => Below X39.heap.size X39 X) (fun s => fun i_ => match i_ with | 0 => .int .i64 ((E : Nat) : Int) | 1 => .bool true | _ => undef) () A.1 (by kernel_rfl) (by decide) (by decide) (Below.refl _ _) ?_ ?_
    · intro i_ hi_ s a X hf hv hn hS
      match i_, hi_ with
      | 0, _ => exact stepV rfl rfl (execMvB rfl ((hf 24 (by decide)).trans t24)) ⟨s, ⟨_, rfl, rfl⟩, hS, fun _ _ => rfl⟩
      | 1, _ => exact stepV rfl rfl (execDec (execNeN (p := E) (q := 0) rfl (hv 0 (by omega) _ rfl _ rfl) rfl) (decide_eq_true (by exact hE0))) ⟨s, ⟨_, rfl, rfl⟩, hS, fun _ _ => rfl⟩
      | k_ + 2, h_ => exact absurd h_ (by simp)
    rintro _ a X40 h1 h2 h3 h4 hS
    replace hS : Below X39.heap.size X39 X40 := hS
    have bX := hS
    clear hS
    replace t3 := (h3 3 (by decide)).trans t3
    replace t4 := (h3 4 (by decide)).trans t4
    replace t6 := (h3 6 (by decide)).trans t6
    replace t9 := (h3 9 (by decide)).trans t9
    replace t20 := (h3 20 (by decide)).trans t20
    replace t23 := (h3 23 (by decide)).trans t23
    replace t39 := (h3 39 (by decide)).trans t39
    replace t40 := (h3 40 (by decide)).trans t40
    replace t41 := (h3 41 (by decide)).trans t41
    have t180 : a.eval (.tmp 180) = .bool true := h4 1 _ rfl _ rfl
    replace FT := (FT.on bX)
    replace F6 := (on9 F6 bX)
    replace F8 := (on9 F8 bX)
    replace F9 := (on9 F9 bX)
    replace Fge20 := Fge20
    replace F20 := (on9 F20 bX)
    have ZX40 := bX.size
    replace BW := BW.trans (bX.mono BW.size)
    clear bX
    replace A := (⟨h1, h2.trans A.2⟩ : a.tmps.size = 270 ∧ a.defers = [])
    clear h1 h2 h3 h4
    clear t24
    refine wp_cond_true t180 ?_
    clear t180
    have BB := BW
    refine wp_region_sq (σ := Unit) 270 [(0, 181), (2, 23)] (fun j_ s X => match j_ with | 0 => Below V.heap.size V X ∧ (TB V tv bv m P Ln At pvs X) ∧ X.heap[g6]? = some (.cells (stC kd tt nn pw) 32) ∧ X.heap[g9]? = some (.cells (bkC (pvs k) (At k)) 29) ∧ X.heap[g20]? = some (.cells (tpC (P k) 0 0) 25) | 1 => Below V.heap.size V X ∧ (TB V tv bv m P Ln At pvs X) ∧ X.heap[g6]? = some (.cells (stC kd tt nn pw) 32) ∧ X.heap[g9]? = some (.cells (bkC (pvs k) (At k)) 29) ∧ X.heap[g20]? = some (.cells (tpC (P k) 0 0) 25) | 2 => Below V.heap.size V X ∧ (TB V tv bv m P Ln At pvs X) ∧ X.heap[g6]? = some (.cells (stC kd tt nn pw) 32) ∧ X.heap[g20]? = some (.cells (tpC (P k) 0 0) 25) ∧ X.heap[g9]? = some (.cells (bkC (.slice none 0 0) 0) 29) | _ => Below V.heap.size V X ∧ (TB V tv bv m P Ln At pvs X) ∧ X.heap[g6]? = some (.cells (stC kd tt nn pw) 32) ∧ X.heap[g20]? = some (.cells (tpC (P k) 0 0) 25) ∧ X.heap[g9]? = some (.cells (bkC (.slice none 0 0) 0) 29)) (fun s => fun i_ => match i_ with | 0 => .agg (bkC (.slice none 0 0) 0) | 1 => undef | 2 => .int .i64 ((0 : Nat) : Int) | _ => undef) () A.1 (by kernel_rfl) (by decide) (by decide) ⟨BB, FT, F6, F9, F20⟩ ?_ ?_
    · intro i_ hi_ s a X hf hv hn hS
      match i_, hi_ with
      | 0, _ => exact stepV rfl rfl (execBldK0 rfl) ⟨s, ⟨_, rfl, rfl⟩, hS, fun _ _ => rfl⟩
      | 1, _ => exact stepS rfl rfl (execStRowA rfl ((hf 9 (by decide)).trans t9) (hv 0 (by omega) _ rfl _ rfl) hS.2.2.2.1 rfl (size_bk _ _) (bk_one _ ⟨_, _, _, rfl⟩)) ⟨s, ⟨_, rfl, rfl⟩, ⟨below4 hS.1 h9V _, (hS.2.1.setN (own_ty hS.2.1.tap hS.2.2.2.1 (by decide)) hn9), (by rw [setRow_other _ _ _ _ (ne_ty hS.2.2.1 hS.2.2.2.1 (by decide))]; exact hS.2.2.1), (by rw [setRow_other _ _ _ _ (ne_ty hS.2.2.2.2 hS.2.2.2.1 (by decide))]; exact hS.2.2.2.2), setRow_heap _ _ _ _ _ _ hS.2.2.2.1⟩, fun _ _ => rfl⟩
      | 2, _ => exact stepV rfl rfl (execAsgB rfl rfl) ⟨s, ⟨_, rfl, rfl⟩, hS, fun _ _ => rfl⟩
      | k_ + 3, h_ => exact absurd h_ (by simp)
    rintro _ a X41 h1 h2 h3 h4 hS
    clear BB
    clear FT
    clear F6
    clear F9
    clear F20
    replace hS : Below V.heap.size V X41 ∧ (TB V tv bv m P Ln At pvs X41) ∧ X41.heap[g6]? = some (.cells (stC kd tt nn pw) 32) ∧ X41.heap[g20]? = some (.cells (tpC (P k) 0 0) 25) ∧ X41.heap[g9]? = some (.cells (bkC (.slice none 0 0) 0) 29) := hS
    obtain ⟨BB, FT, F6, F20, F9⟩ := hS
    replace t3 := (h3 3 (by decide)).trans t3
    replace t4 := (h3 4 (by decide)).trans t4
    replace t6 := (h3 6 (by decide)).trans t6
    replace t9 := (h3 9 (by decide)).trans t9
    replace t20 := (h3 20 (by decide)).trans t20
    replace t23 : a.eval (.tmp 23) = .int .i64 ((0 : Nat) : Int) := h4 2 _ rfl _ rfl
    replace t39 := (h3 39 (by decide)).trans t39
    replace t40 := (h3 40 (by decide)).trans t40
    replace t41 := (h3 41 (by decide)).trans t41
    replace A := (⟨h1, h2.trans A.2⟩ : a.tmps.size = 270 ∧ a.defers = [])
    clear h1 h2 h3 h4
    replace BW := BB
    clear BB
    have FT0 := FT
    have BB := BW
    have FTa := FT.tap
    have FBo := FT.boo
    refine wp_region_stB (σ := Nat × Value × Nat × Value) 270 [(0, 182), (1, 183), (2, 184), (3, 185), (4, 186), (5, 187), (6, 188), (7, 189), (8, 190), (9, 191), (10, 192), (11, 3), (12, 4)] (fun l_ s X => Below V.heap.size V X ∧ (l_ 3 = false → (X.ownsRow V.heap.size 25 2 tv m (pairL (fun t => .string (strN (P t) (Ln t))) (fun t => .int .i64 (At t : Int)) m))) ∧ (l_ 10 = false → (X.ownsRow V.heap.size 29 2 bv m (pairL pvs (fun t => .int .i64 (At t : Int)) m))) ∧ (X.heap[g6]? = some (.cells (stC kd tt nn pw) 32)) ∧ (l_ 3 = false → X.heap[g20]? = some (.cells (tpC (P k) 0 0) 25)) ∧ (l_ 10 = false → X.heap[g9]? = some (.cells (bkC (.slice none 0 0) 0) 29)) ∧ (l_ 2 = true → l_ 3 = false → (X.heap[s.1]? = some (.cells (tpC (P k) 0 0) 25))) ∧ (l_ 2 = true → (V.heap.size ≤ s.1)) ∧ (l_ 3 = true → (X.ownsRow V.heap.size 25 2 s.2.1 (m + 1) ((pairL (fun t => .string (strN (P t) (Ln t))) (fun t => .int .i64 (At t : Int)) m) ++ [.string (strN (P k) 0), .int .i64 ((0 : Nat) : Int)]))) ∧ (l_ 9 = true → l_ 10 = false → (X.heap[s.2.2.1]? = some (.cells (bkC (.slice none 0 0) 0) 29))) ∧ (l_ 9 = true → (V.heap.size ≤ s.2.2.1)) ∧ (l_ 10 = true → (X.ownsRow V.heap.size 29 2 s.2.2.2 (m + 1) ((pairL pvs (fun t => .int .i64 (At t : Int)) m) ++ [(.slice none 0 0), .int .i64 ((0 : Nat) : Int)])))) (fun s => fun i_ => match i_ with | 0 => tv | 1 => .agg (tpC (P k) 0 0) | 2 => .slice (some ⟨s.1, 0, none⟩) 1 1 | 3 => s.2.1 | 4 => bv | 5 => .pointer (some ⟨g9, 0, none⟩) | 6 => .slice none 0 0 | 7 => .int .i64 ((0 : Nat) : Int) | 8 => .agg (bkC (.slice none 0 0) 0) | 9 => .slice (some ⟨s.2.2.1, 0, none⟩) 1 1 | 10 => s.2.2.2 | 11 => s.2.1 | 12 => s.2.2.2 | _ => undef) (0, undef, 0, undef) (by kernel_rfl) (by kernel_rfl) A.1 (by kernel_rfl) (by decide) (by decide) ⟨(BB.drew), (fun _ => (ownsLL_below FTa (Below.refl _ _).drew)), (fun _ => (ownsLL_below FBo (Below.refl _ _).drew)), ((on9 F6 (Below.refl _ _).drew)), (fun _ => (on9 F20 (Below.refl _ _).drew)), (fun _ => (on9 F9 (Below.refl _ _).drew)), (fun q0_ q1_ => by cases q0_), (fun q0_ => by cases q0_), (fun q0_ => by cases q0_), (fun q0_ q1_ => by cases q0_), (fun q0_ => by cases q0_), (fun q0_ => by cases q0_)⟩ ?_ ?_
    · intro i_ hi_ l_ s a X hl_ hf hdep hl2 hcl hno hT
      have up : ∀ j x, x ≠ j → updB l_ j x = l_ x := fun j x hj => by unfold updB; simp [hj]
      match i_, hi_ with
      | 0, _ => exact stepV rfl rfl (execMvB rfl ((hno 11 _ rfl _ rfl (by cases hq_ : l_ 11 with | false => rfl | true => exact absurd (hl_.symm.trans (hcl 11 _ rfl hq_ 0 rfl)) (by decide))).trans t3)) ⟨s, ⟨_, rfl, rfl⟩, ⟨hT.1, (fun q0_ => (hT.2.1 (by rw [up 0 3 (by decide)] at q0_; exact q0_))), (fun q0_ => (hT.2.2.1 (by rw [up 0 10 (by decide)] at q0_; exact q0_))), (hT.2.2.2.1), (fun q0_ => (hT.2.2.2.2.1 (by rw [up 0 3 (by decide)] at q0_; exact q0_))), (fun q0_ => (hT.2.2.2.2.2.1 (by rw [up 0 10 (by decide)] at q0_; exact q0_))), (fun q0_ q1_ => (hT.2.2.2.2.2.2.1 (by rw [up 0 2 (by decide)] at q0_; exact q0_) (by rw [up 0 3 (by decide)] at q1_; exact q1_))), (fun q0_ => (hT.2.2.2.2.2.2.2.1 (by rw [up 0 2 (by decide)] at q0_; exact q0_))), (fun q0_ => absurd (hl_.symm.trans (hcl 3 _ rfl ((up 0 3 (by decide)).symm.trans q0_) 0 rfl)) (by decide)), (fun q0_ q1_ => (hT.2.2.2.2.2.2.2.2.2.1 (by rw [up 0 9 (by decide)] at q0_; exact q0_) (by rw [up 0 10 (by decide)] at q1_; exact q1_))), (fun q0_ => (hT.2.2.2.2.2.2.2.2.2.2.1 (by rw [up 0 9 (by decide)] at q0_; exact q0_))), (fun q0_ => absurd (hl_.symm.trans (hcl 3 _ rfl (hcl 10 _ rfl ((up 0 10 (by decide)).symm.trans q0_) 3 rfl) 0 rfl)) (by decide))⟩, fun _ _ _ => rfl⟩
      | 1, _ => exact stepV rfl rfl (execLdTp rfl ((hf 20 (by decide)).trans t20) (hT.2.2.2.2.1 (by cases hq_ : l_ 3 with | false => rfl | true => exact absurd (hl_.symm.trans (hcl 2 _ rfl (hcl 3 _ rfl hq_ 2 rfl) 1 rfl)) (by decide)))) ⟨s, ⟨_, rfl, rfl⟩, ⟨hT.1, (fun q0_ => (hT.2.1 (by rw [up 1 3 (by decide)] at q0_; exact q0_))), (fun q0_ => (hT.2.2.1 (by rw [up 1 10 (by decide)] at q0_; exact q0_))), (hT.2.2.2.1), (fun q0_ => (hT.2.2.2.2.1 (by rw [up 1 3 (by decide)] at q0_; exact q0_))), (fun q0_ => (hT.2.2.2.2.2.1 (by rw [up 1 10 (by decide)] at q0_; exact q0_))), (fun q0_ q1_ => absurd (hl_.symm.trans (hcl 2 _ rfl ((up 1 2 (by decide)).symm.trans q0_) 1 rfl)) (by decide)), (fun q0_ => absurd (hl_.symm.trans (hcl 2 _ rfl ((up 1 2 (by decide)).symm.trans q0_) 1 rfl)) (by decide)), (fun q0_ => absurd (hl_.symm.trans (hcl 2 _ rfl (hcl 3 _ rfl ((up 1 3 (by decide)).symm.trans q0_) 2 rfl) 1 rfl)) (by decide)), (fun q0_ q1_ => (hT.2.2.2.2.2.2.2.2.2.1 (by rw [up 1 9 (by decide)] at q0_; exact q0_) (by rw [up 1 10 (by decide)] at q1_; exact q1_))), (fun q0_ => (hT.2.2.2.2.2.2.2.2.2.2.1 (by rw [up 1 9 (by decide)] at q0_; exact q0_))), (fun q0_ => absurd (hl_.symm.trans (hcl 2 _ rfl (hcl 3 _ rfl (hcl 10 _ rfl ((up 1 10 (by decide)).symm.trans q0_) 3 rfl) 2 rfl) 1 rfl)) (by decide))⟩, fun _ _ _ => rfl⟩
      | 2, _ =>
        refine stepV rfl rfl (execBsT rfl (hdep _ rfl 1 rfl _ rfl _ rfl)) ⟨(X.heap.size, s.2.1, s.2.2.1, s.2.2.2), ⟨_, rfl, rfl⟩, ⟨hT.1.trans (((belNew X _)).mono hT.1.size), (fun q0_ => (ownsLL_below (hT.2.1 (by rw [up 2 3 (by decide)] at q0_; exact q0_)) (belNew X _))), (fun q0_ => (ownsLL_below (hT.2.2.1 (by rw [up 2 10 (by decide)] at q0_; exact q0_)) (belNew X _))), ((on9 hT.2.2.2.1 (belNew X _))), (fun q0_ => (on9 (hT.2.2.2.2.1 (by rw [up 2 3 (by decide)] at q0_; exact q0_)) (belNew X _))), (fun q0_ => (on9 (hT.2.2.2.2.2.1 (by rw [up 2 10 (by decide)] at q0_; exact q0_)) (belNew X _))), (fun _q0_ _q1_ => heapNew X _), (fun _q0_ => (hT.1).size), (fun q0_ => absurd (hl_.symm.trans (hcl 3 _ rfl ((up 2 3 (by decide)).symm.trans q0_) 2 rfl)) (by decide)), (fun q0_ q1_ => (on9 (hT.2.2.2.2.2.2.2.2.2.1 (by rw [up 2 9 (by decide)] at q0_; exact q0_) (by rw [up 2 10 (by decide)] at q1_; exact q1_)) (belNew X _))), (fun q0_ => (hT.2.2.2.2.2.2.2.2.2.2.1 (by rw [up 2 9 (by decide)] at q0_; exact q0_))), (fun q0_ => absurd (hl_.symm.trans (hcl 3 _ rfl (hcl 10 _ rfl ((up 2 10 (by decide)).symm.trans q0_) 3 rfl) 2 rfl)) (by decide))⟩, fun i hi hli => ?_⟩
        match i, hi with
        | 0, _ => rfl
        | 1, _ => rfl
        | 2, _ => exact absurd (hl_.symm.trans hli) (by decide)
        | 3, _ => rfl
        | 4, _ => rfl
        | 5, _ => rfl
        | 6, _ => rfl
        | 7, _ => rfl
        | 8, _ => rfl
        | 9, _ => rfl
        | 10, _ => rfl
        | 11, _ => rfl
        | 12, _ => rfl
        | k_ + 13, h_ => exact absurd h_ (by simp)
      | 3, _ =>
        refine stepAppT rfl rfl rfl (hdep _ rfl 0 rfl _ rfl _ rfl) (hdep _ rfl 2 rfl _ rfl _ rfl) (hT.2.1 hl_) (hT.2.2.2.2.2.2.1 (hl2 _ rfl 2 rfl) hl_) hm (hT.1).size fun v' W' own' gr => ⟨(s.1, v', s.2.2.1, s.2.2.2), ⟨_, rfl, rfl⟩, ⟨(hT.1).grown gr (hT.1).size (fun k hk => ((hT.2.1 hl_).lt k hk).1), (fun q0_ => absurd q0_ (by unfold updB; simp)), (fun q0_ => own_overT (hT.2.2.1 (by rw [up 3 10 (by decide)] at q0_; exact q0_)) (hT.2.1 hl_) gr (by decide)), (heap_overL (hT.2.1 hl_) gr hT.2.2.2.1 (by decide)), (fun q0_ => absurd q0_ (by unfold updB; simp)), (fun q0_ => heap_overL (hT.2.1 hl_) gr (hT.2.2.2.2.2.1 (by rw [up 3 10 (by decide)] at q0_; exact q0_)) (by decide)), (fun q0_ q1_ => absurd q1_ (by unfold updB; simp)), (fun q0_ => (hT.2.2.2.2.2.2.2.1 (by rw [up 3 2 (by decide)] at q0_; exact q0_))), (fun _q0_ => own'), (fun q0_ q1_ => heap_overL (hT.2.1 hl_) gr (hT.2.2.2.2.2.2.2.2.2.1 (by rw [up 3 9 (by decide)] at q0_; exact q0_) (by rw [up 3 10 (by decide)] at q1_; exact q1_)) (by decide)), (fun q0_ => (hT.2.2.2.2.2.2.2.2.2.2.1 (by rw [up 3 9 (by decide)] at q0_; exact q0_))), (fun q0_ => absurd (hl_.symm.trans (hcl 10 _ rfl ((up 3 10 (by decide)).symm.trans q0_) 3 rfl)) (by decide))⟩, fun i hi hli => ?_⟩
        match i, hi with
        | 0, _ => rfl
        | 1, _ => rfl
        | 2, _ => rfl
        | 3, _ => exact absurd (hl_.symm.trans hli) (by decide)
        | 4, _ => rfl
        | 5, _ => rfl
        | 6, _ => rfl
        | 7, _ => rfl
        | 8, _ => rfl
        | 9, _ => rfl
        | 10, _ => rfl
        | 11, _ => exact absurd (hl_.symm.trans (hcl 11 _ rfl hli 3 rfl)) (by decide)
        | 12, _ => rfl
        | k_ + 13, h_ => exact absurd h_ (by simp)
      | 4, _ => exact stepV rfl rfl (execMvB rfl ((hno 12 _ rfl _ rfl (by cases hq_ : l_ 12 with | false => rfl | true => exact absurd (hl_.symm.trans (hcl 12 _ rfl hq_ 4 rfl)) (by decide))).trans t4)) ⟨s, ⟨_, rfl, rfl⟩, ⟨hT.1, (fun q0_ => (hT.2.1 (by rw [up 4 3 (by decide)] at q0_; exact q0_))), (fun q0_ => (hT.2.2.1 (by rw [up 4 10 (by decide)] at q0_; exact q0_))), (hT.2.2.2.1), (fun q0_ => (hT.2.2.2.2.1 (by rw [up 4 3 (by decide)] at q0_; exact q0_))), (fun q0_ => (hT.2.2.2.2.2.1 (by rw [up 4 10 (by decide)] at q0_; exact q0_))), (fun q0_ q1_ => (hT.2.2.2.2.2.2.1 (by rw [up 4 2 (by decide)] at q0_; exact q0_) (by rw [up 4 3 (by decide)] at q1_; exact q1_))), (fun q0_ => (hT.2.2.2.2.2.2.2.1 (by rw [up 4 2 (by decide)] at q0_; exact q0_))), (fun q0_ => (hT.2.2.2.2.2.2.2.2.1 (by rw [up 4 3 (by decide)] at q0_; exact q0_))), (fun q0_ q1_ => (hT.2.2.2.2.2.2.2.2.2.1 (by rw [up 4 9 (by decide)] at q0_; exact q0_) (by rw [up 4 10 (by decide)] at q1_; exact q1_))), (fun q0_ => (hT.2.2.2.2.2.2.2.2.2.2.1 (by rw [up 4 9 (by decide)] at q0_; exact q0_))), (fun q0_ => absurd (hl_.symm.trans (hcl 10 _ rfl ((up 4 10 (by decide)).symm.trans q0_) 4 rfl)) (by decide))⟩, fun _ _ _ => rfl⟩
      | 5, _ => exact stepV rfl rfl (execFldK0 rfl ((hf 9 (by decide)).trans t9)) ⟨s, ⟨_, rfl, rfl⟩, ⟨hT.1, (fun q0_ => (hT.2.1 (by rw [up 5 3 (by decide)] at q0_; exact q0_))), (fun q0_ => (hT.2.2.1 (by rw [up 5 10 (by decide)] at q0_; exact q0_))), (hT.2.2.2.1), (fun q0_ => (hT.2.2.2.2.1 (by rw [up 5 3 (by decide)] at q0_; exact q0_))), (fun q0_ => (hT.2.2.2.2.2.1 (by rw [up 5 10 (by decide)] at q0_; exact q0_))), (fun q0_ q1_ => (hT.2.2.2.2.2.2.1 (by rw [up 5 2 (by decide)] at q0_; exact q0_) (by rw [up 5 3 (by decide)] at q1_; exact q1_))), (fun q0_ => (hT.2.2.2.2.2.2.2.1 (by rw [up 5 2 (by decide)] at q0_; exact q0_))), (fun q0_ => (hT.2.2.2.2.2.2.2.2.1 (by rw [up 5 3 (by decide)] at q0_; exact q0_))), (fun q0_ q1_ => absurd (hl_.symm.trans (hcl 6 _ rfl (hcl 8 _ rfl (hcl 9 _ rfl ((up 5 9 (by decide)).symm.trans q0_) 8 rfl) 6 rfl) 5 rfl)) (by decide)), (fun q0_ => absurd (hl_.symm.trans (hcl 6 _ rfl (hcl 8 _ rfl (hcl 9 _ rfl ((up 5 9 (by decide)).symm.trans q0_) 8 rfl) 6 rfl) 5 rfl)) (by decide)), (fun q0_ => absurd (hl_.symm.trans (hcl 6 _ rfl (hcl 8 _ rfl (hcl 9 _ rfl (hcl 10 _ rfl ((up 5 10 (by decide)).symm.trans q0_) 9 rfl) 8 rfl) 6 rfl) 5 rfl)) (by decide))⟩, fun _ _ _ => rfl⟩
      | 6, _ => exact stepV rfl rfl (execLdL rfl (hdep _ rfl 5 rfl _ rfl _ rfl) (bkC_at (hT.2.2.2.2.2.1 (by cases hq_ : l_ 10 with | false => rfl | true => exact absurd (hl_.symm.trans (hcl 8 _ rfl (hcl 9 _ rfl (hcl 10 _ rfl hq_ 9 rfl) 8 rfl) 6 rfl)) (by decide)))).1) ⟨s, ⟨_, rfl, rfl⟩, ⟨hT.1, (fun q0_ => (hT.2.1 (by rw [up 6 3 (by decide)] at q0_; exact q0_))), (fun q0_ => (hT.2.2.1 (by rw [up 6 10 (by decide)] at q0_; exact q0_))), (hT.2.2.2.1), (fun q0_ => (hT.2.2.2.2.1 (by rw [up 6 3 (by decide)] at q0_; exact q0_))), (fun q0_ => (hT.2.2.2.2.2.1 (by rw [up 6 10 (by decide)] at q0_; exact q0_))), (fun q0_ q1_ => (hT.2.2.2.2.2.2.1 (by rw [up 6 2 (by decide)] at q0_; exact q0_) (by rw [up 6 3 (by decide)] at q1_; exact q1_))), (fun q0_ => (hT.2.2.2.2.2.2.2.1 (by rw [up 6 2 (by decide)] at q0_; exact q0_))), (fun q0_ => (hT.2.2.2.2.2.2.2.2.1 (by rw [up 6 3 (by decide)] at q0_; exact q0_))), (fun q0_ q1_ => absurd (hl_.symm.trans (hcl 8 _ rfl (hcl 9 _ rfl ((up 6 9 (by decide)).symm.trans q0_) 8 rfl) 6 rfl)) (by decide)), (fun q0_ => absurd (hl_.symm.trans (hcl 8 _ rfl (hcl 9 _ rfl ((up 6 9 (by decide)).symm.trans q0_) 8 rfl) 6 rfl)) (by decide)), (fun q0_ => absurd (hl_.symm.trans (hcl 8 _ rfl (hcl 9 _ rfl (hcl 10 _ rfl ((up 6 10 (by decide)).symm.trans q0_) 9 rfl) 8 rfl) 6 rfl)) (by decide))⟩, fun _ _ _ => rfl⟩
      | 7, _ => exact stepV rfl rfl (execMvB rfl ((hf 23 (by decide)).trans t23)) ⟨s, ⟨_, rfl, rfl⟩, ⟨hT.1, (fun q0_ => (hT.2.1 (by rw [up 7 3 (by decide)] at q0_; exact q0_))), (fun q0_ => (hT.2.2.1 (by rw [up 7 10 (by decide)] at q0_; exact q0_))), (hT.2.2.2.1), (fun q0_ => (hT.2.2.2.2.1 (by rw [up 7 3 (by decide)] at q0_; exact q0_))), (fun q0_ => (hT.2.2.2.2.2.1 (by rw [up 7 10 (by decide)] at q0_; exact q0_))), (fun q0_ q1_ => (hT.2.2.2.2.2.2.1 (by rw [up 7 2 (by decide)] at q0_; exact q0_) (by rw [up 7 3 (by decide)] at q1_; exact q1_))), (fun q0_ => (hT.2.2.2.2.2.2.2.1 (by rw [up 7 2 (by decide)] at q0_; exact q0_))), (fun q0_ => (hT.2.2.2.2.2.2.2.2.1 (by rw [up 7 3 (by decide)] at q0_; exact q0_))), (fun q0_ q1_ => absurd (hl_.symm.trans (hcl 8 _ rfl (hcl 9 _ rfl ((up 7 9 (by decide)).symm.trans q0_) 8 rfl) 7 rfl)) (by decide)), (fun q0_ => absurd (hl_.symm.trans (hcl 8 _ rfl (hcl 9 _ rfl ((up 7 9 (by decide)).symm.trans q0_) 8 rfl) 7 rfl)) (by decide)), (fun q0_ => absurd (hl_.symm.trans (hcl 8 _ rfl (hcl 9 _ rfl (hcl 10 _ rfl ((up 7 10 (by decide)).symm.trans q0_) 9 rfl) 8 rfl) 7 rfl)) (by decide))⟩, fun _ _ _ => rfl⟩
      | 8, _ => exact stepV rfl rfl (execBldK2 (at' := 0) rfl (hdep _ rfl 6 rfl _ rfl _ rfl) (hdep _ rfl 7 rfl _ rfl _ rfl) ⟨_, _, _, rfl⟩) ⟨s, ⟨_, rfl, rfl⟩, ⟨hT.1, (fun q0_ => (hT.2.1 (by rw [up 8 3 (by decide)] at q0_; exact q0_))), (fun q0_ => (hT.2.2.1 (by rw [up 8 10 (by decide)] at q0_; exact q0_))), (hT.2.2.2.1), (fun q0_ => (hT.2.2.2.2.1 (by rw [up 8 3 (by decide)] at q0_; exact q0_))), (fun q0_ => (hT.2.2.2.2.2.1 (by rw [up 8 10 (by decide)] at q0_; exact q0_))), (fun q0_ q1_ => (hT.2.2.2.2.2.2.1 (by rw [up 8 2 (by decide)] at q0_; exact q0_) (by rw [up 8 3 (by decide)] at q1_; exact q1_))), (fun q0_ => (hT.2.2.2.2.2.2.2.1 (by rw [up 8 2 (by decide)] at q0_; exact q0_))), (fun q0_ => (hT.2.2.2.2.2.2.2.2.1 (by rw [up 8 3 (by decide)] at q0_; exact q0_))), (fun q0_ q1_ => absurd (hl_.symm.trans (hcl 9 _ rfl ((up 8 9 (by decide)).symm.trans q0_) 8 rfl)) (by decide)), (fun q0_ => absurd (hl_.symm.trans (hcl 9 _ rfl ((up 8 9 (by decide)).symm.trans q0_) 8 rfl)) (by decide)), (fun q0_ => absurd (hl_.symm.trans (hcl 9 _ rfl (hcl 10 _ rfl ((up 8 10 (by decide)).symm.trans q0_) 9 rfl) 8 rfl)) (by decide))⟩, fun _ _ _ => rfl⟩
      | 9, _ =>
        refine stepV rfl rfl (execBsK rfl (hdep _ rfl 8 rfl _ rfl _ rfl) ⟨_, _, _, rfl⟩) ⟨(s.1, s.2.1, X.heap.size, s.2.2.2), ⟨_, rfl, rfl⟩, ⟨hT.1.trans (((belNew X _)).mono hT.1.size), (fun q0_ => (ownsLL_below (hT.2.1 (by rw [up 9 3 (by decide)] at q0_; exact q0_)) (belNew X _))), (fun q0_ => (ownsLL_below (hT.2.2.1 (by rw [up 9 10 (by decide)] at q0_; exact q0_)) (belNew X _))), ((on9 hT.2.2.2.1 (belNew X _))), (fun q0_ => (on9 (hT.2.2.2.2.1 (by rw [up 9 3 (by decide)] at q0_; exact q0_)) (belNew X _))), (fun q0_ => (on9 (hT.2.2.2.2.2.1 (by rw [up 9 10 (by decide)] at q0_; exact q0_)) (belNew X _))), (fun q0_ q1_ => (on9 (hT.2.2.2.2.2.2.1 (by rw [up 9 2 (by decide)] at q0_; exact q0_) (by rw [up 9 3 (by decide)] at q1_; exact q1_)) (belNew X _))), (fun q0_ => (hT.2.2.2.2.2.2.2.1 (by rw [up 9 2 (by decide)] at q0_; exact q0_))), (fun q0_ => (ownsLL_below (hT.2.2.2.2.2.2.2.2.1 (by rw [up 9 3 (by decide)] at q0_; exact q0_)) (belNew X _))), (fun _q0_ _q1_ => heapNew X _), (fun _q0_ => (hT.1).size), (fun q0_ => absurd (hl_.symm.trans (hcl 10 _ rfl ((up 9 10 (by decide)).symm.trans q0_) 9 rfl)) (by decide))⟩, fun i hi hli => ?_⟩
        match i, hi with
        | 0, _ => rfl
        | 1, _ => rfl
        | 2, _ => rfl
        | 3, _ => rfl
        | 4, _ => rfl
        | 5, _ => rfl
        | 6, _ => rfl
        | 7, _ => rfl
        | 8, _ => rfl
        | 9, _ => exact absurd (hl_.symm.trans hli) (by decide)
        | 10, _ => rfl
        | 11, _ => rfl
        | 12, _ => rfl
        | k_ + 13, h_ => exact absurd h_ (by simp)
      | 10, _ =>
        refine stepAppK rfl rfl rfl (hdep _ rfl 4 rfl _ rfl _ rfl) (hdep _ rfl 9 rfl _ rfl _ rfl) (hT.2.2.1 hl_) (hT.2.2.2.2.2.2.2.2.2.1 (hl2 _ rfl 9 rfl) hl_) ⟨_, _, _, rfl⟩ hm (hT.1).size fun v' W' own' gr => ⟨(s.1, s.2.1, s.2.2.1, v'), ⟨_, rfl, rfl⟩, ⟨(hT.1).grown gr (hT.1).size (fun k hk => ((hT.2.2.1 hl_).lt k hk).1), (fun q0_ => absurd (q0_.symm.trans ((up 10 3 (by decide)).trans (hl2 _ rfl 3 rfl))) (by decide)), (fun q0_ => absurd q0_ (by unfold updB; simp)), (heap_overL (hT.2.2.1 hl_) gr hT.2.2.2.1 (by decide)), (fun q0_ => absurd (q0_.symm.trans ((up 10 3 (by decide)).trans (hl2 _ rfl 3 rfl))) (by decide)), (fun q0_ => absurd q0_ (by unfold updB; simp)), (fun q0_ q1_ => absurd (q1_.symm.trans ((up 10 3 (by decide)).trans (hl2 _ rfl 3 rfl))) (by decide)), (fun q0_ => (hT.2.2.2.2.2.2.2.1 (by rw [up 10 2 (by decide)] at q0_; exact q0_))), (fun q0_ => own_overT (hT.2.2.2.2.2.2.2.2.1 (by rw [up 10 3 (by decide)] at q0_; exact q0_)) (hT.2.2.1 hl_) gr (by decide)), (fun q0_ q1_ => absurd q1_ (by unfold updB; simp)), (fun q0_ => (hT.2.2.2.2.2.2.2.2.2.2.1 (by rw [up 10 9 (by decide)] at q0_; exact q0_))), (fun _q0_ => own')⟩, fun i hi hli => ?_⟩
        match i, hi with
        | 0, _ => rfl
        | 1, _ => rfl
        | 2, _ => rfl
        | 3, _ => rfl
        | 4, _ => rfl
        | 5, _ => rfl
        | 6, _ => rfl
        | 7, _ => rfl
        | 8, _ => rfl
        | 9, _ => rfl
        | 10, _ => exact absurd (hl_.symm.trans hli) (by decide)
        | 11, _ => rfl
        | 12, _ => exact absurd (hl_.symm.trans (hcl 12 _ rfl hli 10 rfl)) (by decide)
        | k_ + 13, h_ => exact absurd h_ (by simp)
      | 11, _ => exact stepV rfl rfl (execAsgB rfl (hdep _ rfl 3 rfl _ rfl _ rfl)) ⟨s, ⟨_, rfl, rfl⟩, ⟨hT.1, (fun q0_ => absurd (q0_.symm.trans ((up 11 3 (by decide)).trans (hl2 _ rfl 3 rfl))) (by decide)), (fun q0_ => absurd (q0_.symm.trans ((up 11 10 (by decide)).trans (hl2 _ rfl 10 rfl))) (by decide)), (hT.2.2.2.1), (fun q0_ => absurd (q0_.symm.trans ((up 11 3 (by decide)).trans (hl2 _ rfl 3 rfl))) (by decide)), (fun q0_ => absurd (q0_.symm.trans ((up 11 10 (by decide)).trans (hl2 _ rfl 10 rfl))) (by decide)), (fun q0_ q1_ => absurd (q1_.symm.trans ((up 11 3 (by decide)).trans (hl2 _ rfl 3 rfl))) (by decide)), (fun q0_ => (hT.2.2.2.2.2.2.2.1 (by rw [up 11 2 (by decide)] at q0_; exact q0_))), (fun q0_ => (hT.2.2.2.2.2.2.2.2.1 (by rw [up 11 3 (by decide)] at q0_; exact q0_))), (fun q0_ q1_ => absurd (q1_.symm.trans ((up 11 10 (by decide)).trans (hl2 _ rfl 10 rfl))) (by decide)), (fun q0_ => (hT.2.2.2.2.2.2.2.2.2.2.1 (by rw [up 11 9 (by decide)] at q0_; exact q0_))), (fun q0_ => (hT.2.2.2.2.2.2.2.2.2.2.2 (by rw [up 11 10 (by decide)] at q0_; exact q0_)))⟩, fun _ _ _ => rfl⟩
      | 12, _ => exact stepV rfl rfl (execAsgB rfl (hdep _ rfl 10 rfl _ rfl _ rfl)) ⟨s, ⟨_, rfl, rfl⟩, ⟨hT.1, (fun q0_ => absurd (q0_.symm.trans ((up 12 3 (by decide)).trans (hl2 _ rfl 3 rfl))) (by decide)), (fun q0_ => absurd (q0_.symm.trans ((up 12 10 (by decide)).trans (hl2 _ rfl 10 rfl))) (by decide)), (hT.2.2.2.1), (fun q0_ => absurd (q0_.symm.trans ((up 12 3 (by decide)).trans (hl2 _ rfl 3 rfl))) (by decide)), (fun q0_ => absurd (q0_.symm.trans ((up 12 10 (by decide)).trans (hl2 _ rfl 10 rfl))) (by decide)), (fun q0_ q1_ => absurd (q1_.symm.trans ((up 12 3 (by decide)).trans (hl2 _ rfl 3 rfl))) (by decide)), (fun q0_ => (hT.2.2.2.2.2.2.2.1 (by rw [up 12 2 (by decide)] at q0_; exact q0_))), (fun q0_ => (hT.2.2.2.2.2.2.2.2.1 (by rw [up 12 3 (by decide)] at q0_; exact q0_))), (fun q0_ q1_ => absurd (q1_.symm.trans ((up 12 10 (by decide)).trans (hl2 _ rfl 10 rfl))) (by decide)), (fun q0_ => (hT.2.2.2.2.2.2.2.2.2.2.1 (by rw [up 12 9 (by decide)] at q0_; exact q0_))), (fun q0_ => (hT.2.2.2.2.2.2.2.2.2.2.2 (by rw [up 12 10 (by decide)] at q0_; exact q0_)))⟩, fun _ _ _ => rfl⟩
      | k_ + 13, h_ => exact absurd h_ (by simp)
    rintro l_ ⟨g184, v185, g191, v192⟩ a X42 h1 h2 h3 h4 hall hT
    clear BB
    clear FTa
    clear FBo
    clear F6
    clear F20
    clear F9
    obtain ⟨BB, FTa, FBo, F6, F20, F9, Fg184, Fgeg184, FTb, Fg191, Fgeg191, FBb⟩ := hT
    clear FTa
    clear FBo
    replace F6 : X42.heap[g6]? = some (.cells (stC kd tt nn pw) 32) := F6
    clear F20
    clear F9
    clear Fg184
    replace Fgeg184 : (V.heap.size ≤ g184) := Fgeg184 (hall 2 (by decide))
    replace FTb : (X42.ownsRow V.heap.size 25 2 v185 (m + 1) ((pairL (fun t => .string (strN (P t) (Ln t))) (fun t => .int .i64 (At t : Int)) m) ++ [.string (strN (P k) 0), .int .i64 ((0 : Nat) : Int)])) := FTb (hall 3 (by decide))
    clear Fg191
    replace Fgeg191 : (V.heap.size ≤ g191) := Fgeg191 (hall 9 (by decide))
    replace FBb : (X42.ownsRow V.heap.size 29 2 v192 (m + 1) ((pairL pvs (fun t => .int .i64 (At t : Int)) m) ++ [(.slice none 0 0), .int .i64 ((0 : Nat) : Int)])) := FBb (hall 10 (by decide))
    clear hall
    replace t3 : a.eval (.tmp 3) = v185 := h4 (11, 3) (by decide)
    replace t4 : a.eval (.tmp 4) = v192 := h4 (12, 4) (by decide)
    replace t6 := (h3 6 (by decide)).trans t6
    replace t39 := (h3 39 (by decide)).trans t39
    replace t40 := (h3 40 (by decide)).trans t40
    replace t41 := (h3 41 (by decide)).trans t41
    replace A := (⟨h1, h2.trans A.2⟩ : a.tmps.size = 270 ∧ a.defers = [])
    clear h1 h2 h3 h4
    clear t9 t20 t23
    exact hQ a _ _ _ (m + 1) _ _ _ _ A t3 t4 t6 t39 t40 t41 BB (tb_push FT0 FTb FBb (Nat.le_refl _) (by omega) slice_nil9 nil_nil9) (Nat.le_refl _) F6
end Go.Proofs.Ytigkmgoidbamnaa.Tap
