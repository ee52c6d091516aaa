import Derived.Test.YthiakjmjpchckaaP9h
namespace Go.Proofs.Ythiakjmjpchckaa.Prm
open Go.RowKit Gf8 Aes By8 Cel Cf Tap Drw
/- PermOneToOne over any Impl. Written by tools/mkP9j.py. -/

theorem gN_cast (h : Nat → Nat) : gN (fun j => (h j : Int)) = h := funext fun _ => Int.toNat_natCast _
theorem gN_at {f : Nat → Int} {n j : Nat} (h : pE f n = 0) (hj : j < n) : ((gN f j : Nat) : Int) = f j := by
  have := (okQ_iff.1 (pE_0 h)).1 j hj
  show ((f j).toNat : Int) = f j
  omega
theorem unE_cast {d : Nat → Int} {n j : Nat} (h : unE d n = 0) (hj : j < n) : ((gN d j : Nat) : Int) = d j := by
  unfold unE at h
  by_cases q : fitQ d n n = true
  · have := fitQ_iff.1 q j hj
    show ((d j).toNat : Int) = d j
    omega
  · rw [if_neg q] at h; omega
theorem frE_cast {k : Int} {d : Nat → Int} {m j : Nat} (h : frE k d m = 0) (hj : j < m) : ((gN d j : Nat) : Int) = d j := by
  unfold frE at h
  by_cases q : k < 0
  · rw [if_pos q] at h; omega
  · rw [if_neg q] at h
    by_cases q2 : m = k.toNat - 1 ∧ fitQ d k.toNat m = true
    · have := fitQ_iff.1 q2.2 j hj
      show ((d j).toNat : Int) = d j
      omega
    · rw [if_neg q2] at h; omega
set_option maxRecDepth 100000 in
set_option maxHeartbeats 4000000 in
theorem one_tail2 (I : Impl) (V S : World) (d : Nat → Int) (m : Nat) (lv : Value) (FI : SliceI S lv m d) (hm : m ≤ 17592186043904) (BW : Below V.heap.size V S) (a : Act) (A : a.tmps.size = 187 ∧ a.defers = []) (t1 : a.eval (.tmp 1) = lv) :
    (findR 21 (Try.f7.body.getD .skip)).wp Try.prog (bodyPost Try.prog Try.f7 fun e w' => e = .returned (.bool true) ∧ Below V.heap.size V w') a S := by
  refine wp_seq ?_
  refine wp_region_sq (σ := Value) 187 [(0, 161), (1, 162), (2, 160), (3, 163), (4, 164), (5, 19), (6, 16)] (fun j_ s X => match j_ with | 0 => Below S.heap.size S X | 1 => Below S.heap.size S X | 2 => Below S.heap.size S X ∧ (SliceI X s (zl (unE d m) m) (fun j => (unr (gN d) j : Int))) | 3 => Below S.heap.size S X ∧ (SliceI X s (zl (unE d m) m) (fun j => (unr (gN d) j : Int))) | 4 => Below S.heap.size S X ∧ (SliceI X s (zl (unE d m) m) (fun j => (unr (gN d) j : Int))) | 5 => Below S.heap.size S X ∧ (SliceI X s (zl (unE d m) m) (fun j => (unr (gN d) j : Int))) | 6 => Below S.heap.size S X ∧ (SliceI X s (zl (unE d m) m) (fun j => (unr (gN d) j : Int))) | _ => Below S.heap.size S X ∧ (SliceI X s (zl (unE d m) m) (fun j => (unr (gN d) j : Int)))) (fun s => fun i_ => match i_ with | 0 => lv | 1 => .tuple #[s, .int .i64 ((unE d m : Nat) : Int)] | 2 => .tuple #[s, .int .i64 ((unE d m : Nat) : Int)] | 3 => s | 4 => .int .i64 ((unE d m : Nat) : Int) | 5 => s | 6 => .int .i64 ((unE d m : Nat) : Int) | _ => undef) undef A.1 (by kernel_rfl) (by decide) (by decide) (Below.refl _ _) ?_ ?_
  · intro i_ hi_ s a X hf hv hn hS
    match i_, hi_ with
    | 0, _ => exact stepV rfl rfl (execMvB rfl ((hf 1 (by decide)).trans t1)) ⟨s, ⟨_, rfl, rfl⟩, hS, fun _ _ => rfl⟩
    | 1, _ =>
      refine stepC rfl rfl (execCall1 Try.func21 (by kernel_rfl) (by kernel_rfl) rfl (hv 0 (by omega) _ rfl _ rfl)) (I.unrank d m _ X (FI.on hS) (by omega)) fun e w' hh => ?_
      obtain ⟨r_, he, hk, hb⟩ := hh
      refine ⟨_, he, r_, ⟨_, rfl, rfl⟩, ⟨(hS).trans ((hb).mono (hS).size), own_ints hk (unr_fits (by omega))⟩, fun i hi => ?_⟩
      match i, hi with
      | 0, _ => rfl
      | n_ + 1, h_ => omega
    | 2, _ => exact stepV rfl rfl (execMvB rfl (hv 1 (by omega) _ rfl _ rfl)) ⟨s, ⟨_, rfl, rfl⟩, hS, fun _ _ => rfl⟩
    | 3, _ => exact stepV rfl rfl (execExtT rfl (hv 2 (by omega) _ rfl _ rfl) rfl) ⟨s, ⟨_, rfl, rfl⟩, hS, fun _ _ => rfl⟩
    | 4, _ => exact stepV rfl rfl (execExtT rfl (hv 2 (by omega) _ rfl _ rfl) rfl) ⟨s, ⟨_, rfl, rfl⟩, hS, fun _ _ => rfl⟩
    | 5, _ => exact stepV rfl rfl (execAsgB rfl (hv 3 (by omega) _ rfl _ rfl)) ⟨s, ⟨_, rfl, rfl⟩, hS, fun _ _ => rfl⟩
    | 6, _ => exact stepV rfl rfl (execAsgB rfl (hv 4 (by omega) _ rfl _ rfl)) ⟨s, ⟨_, rfl, rfl⟩, hS, fun _ _ => rfl⟩
    | k_ + 7, h_ => exact absurd h_ (by simp)
  rintro v162 a X21 h1 h2 h3 h4 hS
  replace hS : Below S.heap.size S X21 ∧ (SliceI X21 v162 (zl (unE d m) m) (fun j => (unr (gN d) j : Int))) := hS
  obtain ⟨bX, Fv162⟩ := hS
  replace t1 := (h3 1 (by decide)).trans t1
  have t19 : a.eval (.tmp 19) = v162 := h4 5 _ rfl _ rfl
  have t16 : a.eval (.tmp 16) = .int .i64 ((unE d m : Nat) : Int) := h4 6 _ rfl _ rfl
  replace FI := (FI.on bX)
  have ZX21 := bX.size
  replace BW := BW.trans (bX.mono BW.size)
  clear bX
  replace A := (⟨h1, h2.trans A.2⟩ : a.tmps.size = 187 ∧ a.defers = [])
  clear h1 h2 h3 h4
  refine wp_seq ?_
  refine wp_seq ?_
  by_cases hE : unE d m = 0
  · rw [hE, zl_ok] at Fv162
    rw [hE] at t16
    have hdg := unE_ok hE
    have hU := unr_isP hdg
    have hUE := pE_ok (ok_of hU)
    refine wp_region_sq (σ := Unit) 187 [(0, 165), (1, 166)] (fun j_ s X => match j_ with | 0 => Below X21.heap.size X21 X | 1 => Below X21.heap.size X21 X | _ => Below X21.heap.size X21 X) (fun s => fun i_ => match i_ with | 0 => .int .i64 ((0 : Nat) : Int) | 1 => .bool false | _ => undef) () A.1 (by kernel_rfl) (by decide) (by decide) (Below.refl _ _) ?_ ?_
    · intro i_ hi_ s a X hf hv hn hS
      match i_, hi_ with
      | 0, _ => exact stepV rfl rfl (execMvB rfl ((hf 16 (by decide)).trans t16)) ⟨s, ⟨_, rfl, rfl⟩, hS, fun _ _ => rfl⟩
      | 1, _ => exact stepV rfl rfl (execDec (execNeE (p := 0) (q := 0) rfl (hv 0 (by omega) _ rfl _ rfl) rfl) (decide_eq_false (by omega))) ⟨s, ⟨_, rfl, rfl⟩, hS, fun _ _ => rfl⟩
      | k_ + 2, h_ => exact absurd h_ (by simp)
    rintro _ a X22 h1 h2 h3 h4 hS
    replace hS : Below X21.heap.size X21 X22 := hS
    have bX := hS
    clear hS
    replace t1 := (h3 1 (by decide)).trans t1
    replace t19 := (h3 19 (by decide)).trans t19
    have t166 : a.eval (.tmp 166) = .bool false := h4 1 _ rfl _ rfl
    replace FI := (FI.on bX)
    replace Fv162 := (Fv162.on bX)
    have ZX22 := bX.size
    replace BW := BW.trans (bX.mono BW.size)
    clear bX
    replace A := (⟨h1, h2.trans A.2⟩ : a.tmps.size = 187 ∧ a.defers = [])
    clear h1 h2 h3 h4
    clear t16
    refine wp_cond_false t166 ?_
    refine wp_skip ?_
    clear t166
    refine wp_seq ?_
    refine wp_region_sq (σ := Value) 187 [(0, 171), (1, 172), (2, 170), (3, 173), (4, 174), (5, 20), (6, 21)] (fun j_ s X => match j_ with | 0 => Below X22.heap.size X22 X | 1 => Below X22.heap.size X22 X | 2 => Below X22.heap.size X22 X ∧ (SliceI X s (zl (pE (fun j => (unr (gN d) j : Int)) m) m) (fun j => (rkD (gN (fun j => (unr (gN d) j : Int))) m j : Int))) | 3 => Below X22.heap.size X22 X ∧ (SliceI X s (zl (pE (fun j => (unr (gN d) j : Int)) m) m) (fun j => (rkD (gN (fun j => (unr (gN d) j : Int))) m j : Int))) | 4 => Below X22.heap.size X22 X ∧ (SliceI X s (zl (pE (fun j => (unr (gN d) j : Int)) m) m) (fun j => (rkD (gN (fun j => (unr (gN d) j : Int))) m j : Int))) | 5 => Below X22.heap.size X22 X ∧ (SliceI X s (zl (pE (fun j => (unr (gN d) j : Int)) m) m) (fun j => (rkD (gN (fun j => (unr (gN d) j : Int))) m j : Int))) | 6 => Below X22.heap.size X22 X ∧ (SliceI X s (zl (pE (fun j => (unr (gN d) j : Int)) m) m) (fun j => (rkD (gN (fun j => (unr (gN d) j : Int))) m j : Int))) | _ => Below X22.heap.size X22 X ∧ (SliceI X s (zl (pE (fun j => (unr (gN d) j : Int)) m) m) (fun j => (rkD (gN (fun j => (unr (gN d) j : Int))) m j : Int)))) (fun s => fun i_ => match i_ with | 0 => v162 | 1 => .tuple #[s, .int .i64 ((pE (fun j => (unr (gN d) j : Int)) m : Nat) : Int)] | 2 => .tuple #[s, .int .i64 ((pE (fun j => (unr (gN d) j : Int)) m : Nat) : Int)] | 3 => s | 4 => .int .i64 ((pE (fun j => (unr (gN d) j : Int)) m : Nat) : Int) | 5 => s | 6 => .int .i64 ((pE (fun j => (unr (gN d) j : Int)) m : Nat) : Int) | _ => undef) undef A.1 (by kernel_rfl) (by decide) (by decide) (Below.refl _ _) ?_ ?_
    · intro i_ hi_ s a X hf hv hn hS
      match i_, hi_ with
      | 0, _ => exact stepV rfl rfl (execMvB rfl ((hf 19 (by decide)).trans t19)) ⟨s, ⟨_, rfl, rfl⟩, hS, fun _ _ => rfl⟩
      | 1, _ =>
        refine stepC rfl rfl (execCall1 Try.func16 (by kernel_rfl) (by kernel_rfl) rfl (hv 0 (by omega) _ rfl _ rfl)) (I.rank (fun j => (unr (gN d) j : Int)) m _ X (Fv162.on hS) (by omega)) fun e w' hh => ?_
        obtain ⟨r_, he, hk, hb⟩ := hh
        refine ⟨_, he, r_, ⟨_, rfl, rfl⟩, ⟨(hS).trans ((hb).mono (hS).size), own_ints hk (rnk_fits (by omega))⟩, fun i hi => ?_⟩
        match i, hi with
        | 0, _ => rfl
        | n_ + 1, h_ => omega
      | 2, _ => exact stepV rfl rfl (execMvB rfl (hv 1 (by omega) _ rfl _ rfl)) ⟨s, ⟨_, rfl, rfl⟩, hS, fun _ _ => rfl⟩
      | 3, _ => exact stepV rfl rfl (execExtT rfl (hv 2 (by omega) _ rfl _ rfl) rfl) ⟨s, ⟨_, rfl, rfl⟩, hS, fun _ _ => rfl⟩
      | 4, _ => exact stepV rfl rfl (execExtT rfl (hv 2 (by omega) _ rfl _ rfl) rfl) ⟨s, ⟨_, rfl, rfl⟩, hS, fun _ _ => rfl⟩
      | 5, _ => exact stepV rfl rfl (execAsgB rfl (hv 3 (by omega) _ rfl _ rfl)) ⟨s, ⟨_, rfl, rfl⟩, hS, fun _ _ => rfl⟩
      | 6, _ => exact stepV rfl rfl (execAsgB rfl (hv 4 (by omega) _ rfl _ rfl)) ⟨s, ⟨_, rfl, rfl⟩, hS, fun _ _ => rfl⟩
      | k_ + 7, h_ => exact absurd h_ (by simp)
    rintro v172 a X24 h1 h2 h3 h4 hS
    replace hS : Below X22.heap.size X22 X24 ∧ (SliceI X24 v172 (zl (pE (fun j => (unr (gN d) j : Int)) m) m) (fun j => (rkD (gN (fun j => (unr (gN d) j : Int))) m j : Int))) := hS
    obtain ⟨bX, Fv172⟩ := hS
    replace t1 := (h3 1 (by decide)).trans t1
    replace t19 := (h3 19 (by decide)).trans t19
    have t20 : a.eval (.tmp 20) = v172 := h4 5 _ rfl _ rfl
    have t21 : a.eval (.tmp 21) = .int .i64 ((pE (fun j => (unr (gN d) j : Int)) m : Nat) : Int) := h4 6 _ rfl _ rfl
    replace FI := (FI.on bX)
    replace Fv162 := (Fv162.on bX)
    have ZX24 := bX.size
    replace BW := BW.trans (bX.mono BW.size)
    clear bX
    replace A := (⟨h1, h2.trans A.2⟩ : a.tmps.size = 187 ∧ a.defers = [])
    clear h1 h2 h3 h4
    rw [hUE, zl_ok] at Fv172
    rw [hUE] at t21
    replace Fv172 := Fv172.cg (g := d) (fun j hj => by show ((rkD (gN (fun j => (unr (gN d) j : Int))) m j : Nat) : Int) = d j; rw [gN_cast, (rank_unrank hdg hj).2]; exact unE_cast hE hj)
    refine wp_seq ?_
    refine wp_region_sq (σ := Unit) 187 [(0, 175), (1, 176), (2, 177), (3, 178), (4, 179), (5, 180), (6, 181), (7, 182), (8, 183), (9, 184), (10, 185), (11, 186), (12, 4)] (fun j_ s X => match j_ with | 0 => Below X24.heap.size X24 X | 1 => Below X24.heap.size X24 X | 2 => Below X24.heap.size X24 X | 3 => Below X24.heap.size X24 X | 4 => Below X24.heap.size X24 X | 5 => Below X24.heap.size X24 X | 6 => Below X24.heap.size X24 X | 7 => Below X24.heap.size X24 X | 8 => Below X24.heap.size X24 X | 9 => Below X24.heap.size X24 X | 10 => Below X24.heap.size X24 X | 11 => Below X24.heap.size X24 X | 12 => Below X24.heap.size X24 X | _ => Below X24.heap.size X24 X) (fun s => fun i_ => match i_ with | 0 => .int .i64 ((0 : Nat) : Int) | 1 => .bool true | 2 => .bool true | 3 => v172 | 4 => lv | 5 => .bool true | 6 => .bool true | 7 => .bool true | 8 => v162 | 9 => .int .i64 ((pE (fun j => (unr (gN d) j : Int)) m : Nat) : Int) | 10 => .bool true | 11 => .bool true | 12 => .bool true | _ => undef) () A.1 (by kernel_rfl) (by decide) (by decide) (Below.refl _ _) ?_ ?_
    · intro i_ hi_ s a X hf hv hn hS
      match i_, hi_ with
      | 0, _ => exact stepV rfl rfl (execMvB rfl ((hf 21 (by decide)).trans t21)) ⟨s, ⟨_, rfl, rfl⟩, hS, fun _ _ => rfl⟩
      | 1, _ => exact stepV rfl rfl (execDec (execEqE (p := 0) (q := 0) rfl (hv 0 (by omega) _ rfl _ rfl) rfl) (decide_eq_true (by decide))) ⟨s, ⟨_, rfl, rfl⟩, hS, fun _ _ => rfl⟩
      | 2, _ => exact stepV rfl rfl (execMvB rfl (hv 1 (by omega) _ rfl _ rfl)) ⟨s, ⟨_, rfl, rfl⟩, hS, fun _ _ => rfl⟩
      | 3, _ => exact stepV rfl (wantedOf rfl (yieldedAt rfl rfl (show a.eval (.tmp 177) = .bool true from (hv 2 (by omega) _ rfl _ rfl)))) (execMvB rfl ((hf 20 (by decide)).trans t20)) ⟨s, ⟨_, rfl, rfl⟩, hS, fun _ _ => rfl⟩
      | 4, _ => exact stepV rfl (wantedOf rfl (yieldedAt rfl rfl (show a.eval (.tmp 177) = .bool true from (hv 2 (by omega) _ rfl _ rfl)))) (execMvB rfl ((hf 1 (by decide)).trans t1)) ⟨s, ⟨_, rfl, rfl⟩, hS, fun _ _ => rfl⟩
      | 5, _ => exact stepC rfl (wantedOf rfl (yieldedAt rfl rfl (show a.eval (.tmp 177) = .bool true from (hv 2 (by omega) _ rfl _ rfl)))) (execCall2 Try.func17 (by kernel_rfl) (by kernel_rfl) rfl (hv 3 (by omega) _ rfl _ rfl) (hv 4 (by omega) _ rfl _ rfl)) (sameP _ _ (m) _ _ X (Fv172.on hS) (FI.on hS) (by intro i hi; rfl) (by omega)) fun e w' hh => ⟨_, hh.1, s, ⟨_, rfl, rfl⟩, (hS).trans ((hh.2).mono (hS).size), fun _ _ => rfl⟩
      | 6, _ => exact stepV rfl rfl (execPickT rfl (hv 2 (by omega) _ rfl _ rfl) (hv 5 (by omega) _ rfl _ rfl)) ⟨s, ⟨_, rfl, rfl⟩, hS, fun _ _ => rfl⟩
      | 7, _ => exact stepV rfl rfl (execMvB rfl (hv 6 (by omega) _ rfl _ rfl)) ⟨s, ⟨_, rfl, rfl⟩, hS, fun _ _ => rfl⟩
      | 8, _ => exact stepV rfl (wantedOf rfl (yieldedAt rfl rfl (show a.eval (.tmp 182) = .bool true from (hv 7 (by omega) _ rfl _ rfl)))) (execMvB rfl ((hf 19 (by decide)).trans t19)) ⟨s, ⟨_, rfl, rfl⟩, hS, fun _ _ => rfl⟩
      | 9, _ => exact stepC rfl (wantedOf rfl (yieldedAt rfl rfl (show a.eval (.tmp 182) = .bool true from (hv 7 (by omega) _ rfl _ rfl)))) (execCall1 Try.func10 (by kernel_rfl) (by kernel_rfl) rfl (hv 8 (by omega) _ rfl _ rfl)) (I.check (fun j => (unr (gN d) j : Int)) m _ X (Fv162.on hS) (by omega)) fun e w' hh => ⟨_, hh.1, s, ⟨_, rfl, rfl⟩, (hS).trans ((hh.2).mono (hS).size), fun _ _ => rfl⟩
      | 10, _ => exact stepV rfl (wantedOf rfl (yieldedAt rfl rfl (show a.eval (.tmp 182) = .bool true from (hv 7 (by omega) _ rfl _ rfl)))) (execDec (execEqE (p := pE (fun j => (unr (gN d) j : Int)) m) (q := 0) rfl (hv 9 (by omega) _ rfl _ rfl) rfl) (decide_eq_true (by exact hUE))) ⟨s, ⟨_, rfl, rfl⟩, hS, fun _ _ => rfl⟩
      | 11, _ => exact stepV rfl rfl (execPickT rfl (hv 7 (by omega) _ rfl _ rfl) (hv 10 (by omega) _ rfl _ rfl)) ⟨s, ⟨_, rfl, rfl⟩, hS, fun _ _ => rfl⟩
      | 12, _ => exact stepV rfl rfl (execAsgB rfl (hv 11 (by omega) _ rfl _ rfl)) ⟨s, ⟨_, rfl, rfl⟩, hS, fun _ _ => rfl⟩
      | k_ + 13, h_ => exact absurd h_ (by simp)
    rintro _ a X25 h1 h2 h3 h4 hS
    replace hS : Below X24.heap.size X24 X25 := hS
    have bX := hS
    clear hS
    have t4 : a.eval (.tmp 4) = .bool true := h4 12 _ rfl _ rfl
    replace FI := (FI.on bX)
    replace Fv162 := (Fv162.on bX)
    replace Fv172 := (Fv172.on bX)
    have ZX25 := bX.size
    replace BW := BW.trans (bX.mono BW.size)
    clear bX
    replace A := (⟨h1, h2.trans A.2⟩ : a.tmps.size = 187 ∧ a.defers = [])
    clear h1 h2 h3 h4
    clear t1 t19 t20 t21
    refine wp_ret ?_
    repeat (first | refine ret_in ?_ | refine ret_then ?_)
    refine bodyPost_ret (results_tmp rfl _ _ _) A.2 ⟨?_, BW⟩
    show Ending.returned (a.eval (.tmp 4)) = _
    rw [t4]
  · refine wp_region_sq (σ := Unit) 187 [(0, 165), (1, 166)] (fun j_ s X => match j_ with | 0 => Below X21.heap.size X21 X | 1 => Below X21.heap.size X21 X | _ => Below X21.heap.size X21 X) (fun s => fun i_ => match i_ with | 0 => .int .i64 ((unE d m : Nat) : Int) | 1 => .bool true | _ => undef) () A.1 (by kernel_rfl) (by decide) (by decide) (Below.refl _ _) ?_ ?_
    · intro i_ hi_ s a X hf hv hn hS
      match i_, hi_ with
      | 0, _ => exact stepV rfl rfl (execMvB rfl ((hf 16 (by decide)).trans t16)) ⟨s, ⟨_, rfl, rfl⟩, hS, fun _ _ => rfl⟩
      | 1, _ => exact stepV rfl rfl (execDec (execNeE (p := unE d m) (q := 0) rfl (hv 0 (by omega) _ rfl _ rfl) rfl) (decide_eq_true (by exact hE))) ⟨s, ⟨_, rfl, rfl⟩, hS, fun _ _ => rfl⟩
      | k_ + 2, h_ => exact absurd h_ (by simp)
    rintro _ a X22 h1 h2 h3 h4 hS
    replace hS : Below X21.heap.size X21 X22 := hS
    have bX := hS
    clear hS
    replace t19 := (h3 19 (by decide)).trans t19
    have t166 : a.eval (.tmp 166) = .bool true := h4 1 _ rfl _ rfl
    replace FI := (FI.on bX)
    replace Fv162 := (Fv162.on bX)
    have ZX22 := bX.size
    replace BW := BW.trans (bX.mono BW.size)
    clear bX
    replace A := (⟨h1, h2.trans A.2⟩ : a.tmps.size = 187 ∧ a.defers = [])
    clear h1 h2 h3 h4
    clear t1 t16
    refine wp_cond_true t166 ?_
    refine wp_seq ?_
    clear t166
    refine wp_region_sq (σ := Unit) 187 [(0, 167), (1, 168), (2, 169), (3, 4)] (fun j_ s X => match j_ with | 0 => Below X22.heap.size X22 X | 1 => Below X22.heap.size X22 X | 2 => Below X22.heap.size X22 X | 3 => Below X22.heap.size X22 X | _ => Below X22.heap.size X22 X) (fun s => fun i_ => match i_ with | 0 => v162 | 1 => .int .i64 ((zl (unE d m) m : Nat) : Int) | 2 => .bool true | 3 => .bool true | _ => undef) () A.1 (by kernel_rfl) (by decide) (by decide) (Below.refl _ _) ?_ ?_
    · intro i_ hi_ s a X hf hv hn hS
      match i_, hi_ with
      | 0, _ => exact stepV rfl rfl (execMvB rfl ((hf 19 (by decide)).trans t19)) ⟨s, ⟨_, rfl, rfl⟩, hS, fun _ _ => rfl⟩
      | 1, _ => exact stepV rfl rfl (execLenI (len := zl (unE d m) m) rfl (hv 0 (by omega) _ rfl _ rfl) ((Fv162.on hS)).shp) ⟨s, ⟨_, rfl, rfl⟩, hS, fun _ _ => rfl⟩
      | 2, _ => exact stepV rfl rfl (execDec (execEqN (p := zl (unE d m) m) (q := 0) rfl (hv 1 (by omega) _ rfl _ rfl) rfl) (decide_eq_true (by exact zl_no hE))) ⟨s, ⟨_, rfl, rfl⟩, hS, fun _ _ => rfl⟩
      | 3, _ => exact stepV rfl rfl (execAsgB rfl (hv 2 (by omega) _ rfl _ rfl)) ⟨s, ⟨_, rfl, rfl⟩, hS, fun _ _ => rfl⟩
      | k_ + 4, h_ => exact absurd h_ (by simp)
    rintro _ a X23 h1 h2 h3 h4 hS
    replace hS : Below X22.heap.size X22 X23 := hS
    have bX := hS
    clear hS
    have t4 : a.eval (.tmp 4) = .bool true := h4 3 _ rfl _ rfl
    replace FI := (FI.on bX)
    replace Fv162 := (Fv162.on bX)
    have ZX23 := bX.size
    replace BW := BW.trans (bX.mono BW.size)
    clear bX
    replace A := (⟨h1, h2.trans A.2⟩ : a.tmps.size = 187 ∧ a.defers = [])
    clear h1 h2 h3 h4
    clear t19
    refine wp_ret ?_
    repeat (first | refine ret_in ?_ | refine ret_then ?_)
    refine bodyPost_ret (results_tmp rfl _ _ _) A.2 ⟨?_, BW⟩
    show Ending.returned (a.eval (.tmp 4)) = _
    rw [t4]
set_option maxRecDepth 100000 in
set_option maxHeartbeats 4000000 in
theorem one_tail (I : Impl) (V S : World) (d : Nat → Int) (m : Nat) (lv : Value) (FI : SliceI S lv m d) (hm : m ≤ 17592186043904) (BW : Below V.heap.size V S) (a : Act) (A : a.tmps.size = 187 ∧ a.defers = []) (t1 : a.eval (.tmp 1) = lv) :
    (findR 16 (Try.f7.body.getD .skip)).wp Try.prog (bodyPost Try.prog Try.f7 fun e w' => e = .returned (.bool true) ∧ Below V.heap.size V w') a S := by
  refine wp_seq ?_
  refine wp_region_sq (σ := Value) 187 [(0, 133), (1, 134), (2, 135), (3, 136), (4, 137), (5, 132), (6, 138), (7, 139), (8, 15), (9, 16)] (fun j_ s X => match j_ with | 0 => Below S.heap.size S X | 1 => Below S.heap.size S X | 2 => Below S.heap.size S X | 3 => Below S.heap.size S X | 4 => Below S.heap.size S X | 5 => Below S.heap.size S X ∧ (SliceI X s (zl (frE (((m + 1 : Nat) : Int)) d m) ((((m + 1 : Nat) : Int)).toNat)) (fun j => (frA (((m + 1 : Nat) : Int)).toNat (gN d) m j : Int))) | 6 => Below S.heap.size S X ∧ (SliceI X s (zl (frE (((m + 1 : Nat) : Int)) d m) ((((m + 1 : Nat) : Int)).toNat)) (fun j => (frA (((m + 1 : Nat) : Int)).toNat (gN d) m j : Int))) | 7 => Below S.heap.size S X ∧ (SliceI X s (zl (frE (((m + 1 : Nat) : Int)) d m) ((((m + 1 : Nat) : Int)).toNat)) (fun j => (frA (((m + 1 : Nat) : Int)).toNat (gN d) m j : Int))) | 8 => Below S.heap.size S X ∧ (SliceI X s (zl (frE (((m + 1 : Nat) : Int)) d m) ((((m + 1 : Nat) : Int)).toNat)) (fun j => (frA (((m + 1 : Nat) : Int)).toNat (gN d) m j : Int))) | 9 => Below S.heap.size S X ∧ (SliceI X s (zl (frE (((m + 1 : Nat) : Int)) d m) ((((m + 1 : Nat) : Int)).toNat)) (fun j => (frA (((m + 1 : Nat) : Int)).toNat (gN d) m j : Int))) | _ => Below S.heap.size S X ∧ (SliceI X s (zl (frE (((m + 1 : Nat) : Int)) d m) ((((m + 1 : Nat) : Int)).toNat)) (fun j => (frA (((m + 1 : Nat) : Int)).toNat (gN d) m j : Int)))) (fun s => fun i_ => match i_ with | 0 => lv | 1 => .int .i64 ((m : Nat) : Int) | 2 => .int .i64 ((m + 1 : Nat) : Int) | 3 => lv | 4 => .tuple #[s, .int .i64 ((frE (((m + 1 : Nat) : Int)) d m : Nat) : Int)] | 5 => .tuple #[s, .int .i64 ((frE (((m + 1 : Nat) : Int)) d m : Nat) : Int)] | 6 => s | 7 => .int .i64 ((frE (((m + 1 : Nat) : Int)) d m : Nat) : Int) | 8 => s | 9 => .int .i64 ((frE (((m + 1 : Nat) : Int)) d m : Nat) : Int) | _ => undef) undef A.1 (by kernel_rfl) (by decide) (by decide) (Below.refl _ _) ?_ ?_
  · intro i_ hi_ s a X hf hv hn hS
    match i_, hi_ with
    | 0, _ => exact stepV rfl rfl (execMvB rfl ((hf 1 (by decide)).trans t1)) ⟨s, ⟨_, rfl, rfl⟩, hS, fun _ _ => rfl⟩
    | 1, _ => exact stepV rfl rfl (execLenI (len := m) rfl (hv 0 (by omega) _ rfl _ rfl) ((FI.on hS)).shp) ⟨s, ⟨_, rfl, rfl⟩, hS, fun _ _ => rfl⟩
    | 2, _ => exact stepV rfl rfl (execAd8 (p := m) (q := 1) rfl (hv 1 (by omega) _ rfl _ rfl) rfl (by omega)) ⟨s, ⟨_, rfl, rfl⟩, hS, fun _ _ => rfl⟩
    | 3, _ => exact stepV rfl rfl (execMvB rfl ((hf 1 (by decide)).trans t1)) ⟨s, ⟨_, rfl, rfl⟩, hS, fun _ _ => rfl⟩
    | 4, _ =>
      refine stepC rfl rfl (execCall2 Try.func20 (by kernel_rfl) (by kernel_rfl) rfl (hv 2 (by omega) _ rfl _ rfl) (hv 3 (by omega) _ rfl _ rfl)) (I.from_ (((m + 1 : Nat) : Int)) d m _ X (FI.on hS) (by omega) (by omega)) fun e w' hh => ?_
      obtain ⟨r_, he, hk, hb⟩ := hh
      refine ⟨_, he, r_, ⟨_, rfl, rfl⟩, ⟨(hS).trans ((hb).mono (hS).size), own_ints hk (from_fits (by omega))⟩, fun i hi => ?_⟩
      match i, hi with
      | 0, _ => rfl
      | 1, _ => rfl
      | 2, _ => rfl
      | 3, _ => rfl
      | n_ + 4, h_ => omega
    | 5, _ => exact stepV rfl rfl (execMvB rfl (hv 4 (by omega) _ rfl _ rfl)) ⟨s, ⟨_, rfl, rfl⟩, hS, fun _ _ => rfl⟩
    | 6, _ => exact stepV rfl rfl (execExtT rfl (hv 5 (by omega) _ rfl _ rfl) rfl) ⟨s, ⟨_, rfl, rfl⟩, hS, fun _ _ => rfl⟩
    | 7, _ => exact stepV rfl rfl (execExtT rfl (hv 5 (by omega) _ rfl _ rfl) rfl) ⟨s, ⟨_, rfl, rfl⟩, hS, fun _ _ => rfl⟩
    | 8, _ => exact stepV rfl rfl (execAsgB rfl (hv 6 (by omega) _ rfl _ rfl)) ⟨s, ⟨_, rfl, rfl⟩, hS, fun _ _ => rfl⟩
    | 9, _ => exact stepV rfl rfl (execAsgB rfl (hv 7 (by omega) _ rfl _ rfl)) ⟨s, ⟨_, rfl, rfl⟩, hS, fun _ _ => rfl⟩
    | k_ + 10, h_ => exact absurd h_ (by simp)
  rintro v137 a X16 h1 h2 h3 h4 hS
  replace hS : Below S.heap.size S X16 ∧ (SliceI X16 v137 (zl (frE (((m + 1 : Nat) : Int)) d m) ((((m + 1 : Nat) : Int)).toNat)) (fun j => (frA (((m + 1 : Nat) : Int)).toNat (gN d) m j : Int))) := hS
  obtain ⟨bX, Fv137⟩ := hS
  replace t1 := (h3 1 (by decide)).trans t1
  have t15 : a.eval (.tmp 15) = v137 := h4 8 _ rfl _ rfl
  have t16 : a.eval (.tmp 16) = .int .i64 ((frE (((m + 1 : Nat) : Int)) d m : Nat) : Int) := h4 9 _ rfl _ rfl
  replace FI := (FI.on bX)
  have ZX16 := bX.size
  replace BW := BW.trans (bX.mono BW.size)
  clear bX
  replace A := (⟨h1, h2.trans A.2⟩ : a.tmps.size = 187 ∧ a.defers = [])
  clear h1 h2 h3 h4
  refine wp_seq ?_
  refine wp_seq ?_
  by_cases hE : frE ((m + 1 : Nat) : Int) d m = 0
  · have hd : ∀ j, j < m → gN d j < m + 1 - j := fun j hj => by have := (frE_0 hE).2.2 j hj; rw [Int.toNat_natCast] at this; exact this
    rw [hE, zl_ok, Int.toNat_natCast] at Fv137
    rw [hE] at t16
    have hP := frA_isP (n := m + 1) (d := gN d) (k := m) (by omega) hd
    have hPE := pE_ok (ok_of hP)
    refine wp_region_sq (σ := Unit) 187 [(0, 140), (1, 141)] (fun j_ s X => match j_ with | 0 => Below X16.heap.size X16 X | 1 => Below X16.heap.size X16 X | _ => Below X16.heap.size X16 X) (fun s => fun i_ => match i_ with | 0 => .int .i64 ((0 : Nat) : Int) | 1 => .bool true | _ => undef) () A.1 (by kernel_rfl) (by decide) (by decide) (Below.refl _ _) ?_ ?_
    · intro i_ hi_ s a X hf hv hn hS
      match i_, hi_ with
      | 0, _ => exact stepV rfl rfl (execMvB rfl ((hf 16 (by decide)).trans t16)) ⟨s, ⟨_, rfl, rfl⟩, hS, fun _ _ => rfl⟩
      | 1, _ => exact stepV rfl rfl (execDec (execEqE (p := 0) (q := 0) rfl (hv 0 (by omega) _ rfl _ rfl) rfl) (decide_eq_true (by rfl))) ⟨s, ⟨_, rfl, rfl⟩, hS, fun _ _ => rfl⟩
      | k_ + 2, h_ => exact absurd h_ (by simp)
    rintro _ a X17 h1 h2 h3 h4 hS
    replace hS : Below X16.heap.size X16 X17 := hS
    have bX := hS
    clear hS
    replace t1 := (h3 1 (by decide)).trans t1
    replace t15 := (h3 15 (by decide)).trans t15
    have t141 : a.eval (.tmp 141) = .bool true := h4 1 _ rfl _ rfl
    replace FI := (FI.on bX)
    replace Fv137 := (Fv137.on bX)
    have ZX17 := bX.size
    replace BW := BW.trans (bX.mono BW.size)
    clear bX
    replace A := (⟨h1, h2.trans A.2⟩ : a.tmps.size = 187 ∧ a.defers = [])
    clear h1 h2 h3 h4
    clear t16
    refine wp_cond_true t141 ?_
    clear t141
    refine wp_seq ?_
    refine wp_region_sq (σ := Value) 187 [(0, 143), (1, 144), (2, 142), (3, 145), (4, 146), (5, 17), (6, 18)] (fun j_ s X => match j_ with | 0 => Below X17.heap.size X17 X | 1 => Below X17.heap.size X17 X | 2 => Below X17.heap.size X17 X ∧ (SliceI X s (zl (pE (fun j => (frA (m + 1) (gN d) m j : Int)) (m + 1)) ((m + 1) - 1)) (fun j => (drD (m + 1) (gN (fun j => (frA (m + 1) (gN d) m j : Int))) j : Int))) | 3 => Below X17.heap.size X17 X ∧ (SliceI X s (zl (pE (fun j => (frA (m + 1) (gN d) m j : Int)) (m + 1)) ((m + 1) - 1)) (fun j => (drD (m + 1) (gN (fun j => (frA (m + 1) (gN d) m j : Int))) j : Int))) | 4 => Below X17.heap.size X17 X ∧ (SliceI X s (zl (pE (fun j => (frA (m + 1) (gN d) m j : Int)) (m + 1)) ((m + 1) - 1)) (fun j => (drD (m + 1) (gN (fun j => (frA (m + 1) (gN d) m j : Int))) j : Int))) | 5 => Below X17.heap.size X17 X ∧ (SliceI X s (zl (pE (fun j => (frA (m + 1) (gN d) m j : Int)) (m + 1)) ((m + 1) - 1)) (fun j => (drD (m + 1) (gN (fun j => (frA (m + 1) (gN d) m j : Int))) j : Int))) | 6 => Below X17.heap.size X17 X ∧ (SliceI X s (zl (pE (fun j => (frA (m + 1) (gN d) m j : Int)) (m + 1)) ((m + 1) - 1)) (fun j => (drD (m + 1) (gN (fun j => (frA (m + 1) (gN d) m j : Int))) j : Int))) | _ => Below X17.heap.size X17 X ∧ (SliceI X s (zl (pE (fun j => (frA (m + 1) (gN d) m j : Int)) (m + 1)) ((m + 1) - 1)) (fun j => (drD (m + 1) (gN (fun j => (frA (m + 1) (gN d) m j : Int))) j : Int)))) (fun s => fun i_ => match i_ with | 0 => v137 | 1 => .tuple #[s, .int .i64 ((pE (fun j => (frA (m + 1) (gN d) m j : Int)) (m + 1) : Nat) : Int)] | 2 => .tuple #[s, .int .i64 ((pE (fun j => (frA (m + 1) (gN d) m j : Int)) (m + 1) : Nat) : Int)] | 3 => s | 4 => .int .i64 ((pE (fun j => (frA (m + 1) (gN d) m j : Int)) (m + 1) : Nat) : Int) | 5 => s | 6 => .int .i64 ((pE (fun j => (frA (m + 1) (gN d) m j : Int)) (m + 1) : Nat) : Int) | _ => undef) undef A.1 (by kernel_rfl) (by decide) (by decide) (Below.refl _ _) ?_ ?_
    · intro i_ hi_ s a X hf hv hn hS
      match i_, hi_ with
      | 0, _ => exact stepV rfl rfl (execMvB rfl ((hf 15 (by decide)).trans t15)) ⟨s, ⟨_, rfl, rfl⟩, hS, fun _ _ => rfl⟩
      | 1, _ =>
        refine stepC rfl rfl (execCall1 Try.func15 (by kernel_rfl) (by kernel_rfl) rfl (hv 0 (by omega) _ rfl _ rfl)) (I.draws (fun j => (frA (m + 1) (gN d) m j : Int)) (m + 1) _ X (Fv137.on hS) (by omega)) fun e w' hh => ?_
        obtain ⟨r_, he, hk, hb⟩ := hh
        refine ⟨_, he, r_, ⟨_, rfl, rfl⟩, ⟨(hS).trans ((hb).mono (hS).size), own_ints hk (drw_fits (by omega))⟩, fun i hi => ?_⟩
        match i, hi with
        | 0, _ => rfl
        | n_ + 1, h_ => omega
      | 2, _ => exact stepV rfl rfl (execMvB rfl (hv 1 (by omega) _ rfl _ rfl)) ⟨s, ⟨_, rfl, rfl⟩, hS, fun _ _ => rfl⟩
      | 3, _ => exact stepV rfl rfl (execExtT rfl (hv 2 (by omega) _ rfl _ rfl) rfl) ⟨s, ⟨_, rfl, rfl⟩, hS, fun _ _ => rfl⟩
      | 4, _ => exact stepV rfl rfl (execExtT rfl (hv 2 (by omega) _ rfl _ rfl) rfl) ⟨s, ⟨_, rfl, rfl⟩, hS, fun _ _ => rfl⟩
      | 5, _ => exact stepV rfl rfl (execAsgB rfl (hv 3 (by omega) _ rfl _ rfl)) ⟨s, ⟨_, rfl, rfl⟩, hS, fun _ _ => rfl⟩
      | 6, _ => exact stepV rfl rfl (execAsgB rfl (hv 4 (by omega) _ rfl _ rfl)) ⟨s, ⟨_, rfl, rfl⟩, hS, fun _ _ => rfl⟩
      | k_ + 7, h_ => exact absurd h_ (by simp)
    rintro v144 a X18 h1 h2 h3 h4 hS
    replace hS : Below X17.heap.size X17 X18 ∧ (SliceI X18 v144 (zl (pE (fun j => (frA (m + 1) (gN d) m j : Int)) (m + 1)) ((m + 1) - 1)) (fun j => (drD (m + 1) (gN (fun j => (frA (m + 1) (gN d) m j : Int))) j : Int))) := hS
    obtain ⟨bX, Fv144⟩ := hS
    replace t1 := (h3 1 (by decide)).trans t1
    replace t15 := (h3 15 (by decide)).trans t15
    have t17 : a.eval (.tmp 17) = v144 := h4 5 _ rfl _ rfl
    have t18 : a.eval (.tmp 18) = .int .i64 ((pE (fun j => (frA (m + 1) (gN d) m j : Int)) (m + 1) : Nat) : Int) := h4 6 _ rfl _ rfl
    replace FI := (FI.on bX)
    replace Fv137 := (Fv137.on bX)
    have ZX18 := bX.size
    replace BW := BW.trans (bX.mono BW.size)
    clear bX
    replace A := (⟨h1, h2.trans A.2⟩ : a.tmps.size = 187 ∧ a.defers = [])
    clear h1 h2 h3 h4
    rw [hPE, zl_ok] at Fv144
    rw [hPE] at t18
    replace Fv144 : SliceI X18 v144 m d := Fv144.cg (g := d) (fun j hj => by show ((drD (m + 1) (gN (fun j => (frA (m + 1) (gN d) m j : Int))) j : Nat) : Int) = d j; rw [gN_cast]; exact (congrArg (fun x : Nat => (x : Int)) (draws_from (n := m + 1) hd (k := j) hj).2).trans (frE_cast hE hj))
    refine wp_seq ?_
    refine wp_region_sq (σ := Unit) 187 [(0, 147), (1, 148), (2, 149), (3, 150), (4, 151), (5, 152), (6, 153), (7, 154), (8, 155), (9, 156), (10, 157), (11, 158), (12, 159)] (fun j_ s X => match j_ with | 0 => Below X18.heap.size X18 X | 1 => Below X18.heap.size X18 X | 2 => Below X18.heap.size X18 X | 3 => Below X18.heap.size X18 X | 4 => Below X18.heap.size X18 X | 5 => Below X18.heap.size X18 X | 6 => Below X18.heap.size X18 X | 7 => Below X18.heap.size X18 X | 8 => Below X18.heap.size X18 X | 9 => Below X18.heap.size X18 X | 10 => Below X18.heap.size X18 X | 11 => Below X18.heap.size X18 X | 12 => Below X18.heap.size X18 X | _ => Below X18.heap.size X18 X) (fun s => fun i_ => match i_ with | 0 => .int .i64 ((0 : Nat) : Int) | 1 => .bool false | 2 => .bool false | 3 => v144 | 4 => lv | 5 => .bool true | 6 => .bool false | 7 => .bool false | 8 => .bool false | 9 => v137 | 10 => .int .i64 ((pE (fun j => (frA (m + 1) (gN d) m j : Int)) (m + 1) : Nat) : Int) | 11 => .bool false | 12 => .bool false | _ => undef) () A.1 (by kernel_rfl) (by decide) (by decide) (Below.refl _ _) ?_ ?_
    · intro i_ hi_ s a X hf hv hn hS
      match i_, hi_ with
      | 0, _ => exact stepV rfl rfl (execMvB rfl ((hf 18 (by decide)).trans t18)) ⟨s, ⟨_, rfl, rfl⟩, hS, fun _ _ => rfl⟩
      | 1, _ => exact stepV rfl rfl (execDec (execNeE (p := 0) (q := 0) rfl (hv 0 (by omega) _ rfl _ rfl) rfl) (decide_eq_false (by decide))) ⟨s, ⟨_, rfl, rfl⟩, hS, fun _ _ => rfl⟩
      | 2, _ => exact stepV rfl rfl (execMvB rfl (hv 1 (by omega) _ rfl _ rfl)) ⟨s, ⟨_, rfl, rfl⟩, hS, fun _ _ => rfl⟩
      | 3, _ => exact stepV rfl (wantedOf rfl (yieldedAt rfl rfl (show a.eval (.tmp 149) = .bool false from (hv 2 (by omega) _ rfl _ rfl)))) (execMvB rfl ((hf 17 (by decide)).trans t17)) ⟨s, ⟨_, rfl, rfl⟩, hS, fun _ _ => rfl⟩
      | 4, _ => exact stepV rfl (wantedOf rfl (yieldedAt rfl rfl (show a.eval (.tmp 149) = .bool false from (hv 2 (by omega) _ rfl _ rfl)))) (execMvB rfl ((hf 1 (by decide)).trans t1)) ⟨s, ⟨_, rfl, rfl⟩, hS, fun _ _ => rfl⟩
      | 5, _ => exact stepC rfl (wantedOf rfl (yieldedAt rfl rfl (show a.eval (.tmp 149) = .bool false from (hv 2 (by omega) _ rfl _ rfl)))) (execCall2 Try.func17 (by kernel_rfl) (by kernel_rfl) rfl (hv 3 (by omega) _ rfl _ rfl) (hv 4 (by omega) _ rfl _ rfl)) (sameP _ _ (m) _ _ X (Fv144.on hS) (FI.on hS) (by intro i hi; rfl) (by omega)) fun e w' hh => ⟨_, hh.1, s, ⟨_, rfl, rfl⟩, (hS).trans ((hh.2).mono (hS).size), fun _ _ => rfl⟩
      | 6, _ => exact stepV rfl (wantedOf rfl (yieldedAt rfl rfl (show a.eval (.tmp 149) = .bool false from (hv 2 (by omega) _ rfl _ rfl)))) (execNot8 rfl (hv 5 (by omega) _ rfl _ rfl)) ⟨s, ⟨_, rfl, rfl⟩, hS, fun _ _ => rfl⟩
      | 7, _ => exact stepV rfl rfl (execPickF rfl (hv 2 (by omega) _ rfl _ rfl) (hv 6 (by omega) _ rfl _ rfl)) ⟨s, ⟨_, rfl, rfl⟩, hS, fun _ _ => rfl⟩
      | 8, _ => exact stepV rfl rfl (execMvB rfl (hv 7 (by omega) _ rfl _ rfl)) ⟨s, ⟨_, rfl, rfl⟩, hS, fun _ _ => rfl⟩
      | 9, _ => exact stepV rfl (wantedOf rfl (yieldedAt rfl rfl (show a.eval (.tmp 155) = .bool false from (hv 8 (by omega) _ rfl _ rfl)))) (execMvB rfl ((hf 15 (by decide)).trans t15)) ⟨s, ⟨_, rfl, rfl⟩, hS, fun _ _ => rfl⟩
      | 10, _ => exact stepC rfl (wantedOf rfl (yieldedAt rfl rfl (show a.eval (.tmp 155) = .bool false from (hv 8 (by omega) _ rfl _ rfl)))) (execCall1 Try.func10 (by kernel_rfl) (by kernel_rfl) rfl (hv 9 (by omega) _ rfl _ rfl)) (I.check (fun j => (frA (m + 1) (gN d) m j : Int)) (m + 1) _ X (Fv137.on hS) (by omega)) fun e w' hh => ⟨_, hh.1, s, ⟨_, rfl, rfl⟩, (hS).trans ((hh.2).mono (hS).size), fun _ _ => rfl⟩
      | 11, _ => exact stepV rfl (wantedOf rfl (yieldedAt rfl rfl (show a.eval (.tmp 155) = .bool false from (hv 8 (by omega) _ rfl _ rfl)))) (execDec (execNeE (p := pE (fun j => (frA (m + 1) (gN d) m j : Int)) (m + 1)) (q := 0) rfl (hv 10 (by omega) _ rfl _ rfl) rfl) (decide_eq_false (by rw [hPE]; decide))) ⟨s, ⟨_, rfl, rfl⟩, hS, fun _ _ => rfl⟩
      | 12, _ => exact stepV rfl rfl (execPickF rfl (hv 8 (by omega) _ rfl _ rfl) (hv 11 (by omega) _ rfl _ rfl)) ⟨s, ⟨_, rfl, rfl⟩, hS, fun _ _ => rfl⟩
      | k_ + 13, h_ => exact absurd h_ (by simp)
    rintro _ a X19 h1 h2 h3 h4 hS
    replace hS : Below X18.heap.size X18 X19 := hS
    have bX := hS
    clear hS
    replace t1 := (h3 1 (by decide)).trans t1
    have t159 : a.eval (.tmp 159) = .bool false := h4 12 _ rfl _ rfl
    replace FI := (FI.on bX)
    replace Fv137 := (Fv137.on bX)
    replace Fv144 := (Fv144.on bX)
    have ZX19 := bX.size
    replace BW := BW.trans (bX.mono BW.size)
    clear bX
    replace A := (⟨h1, h2.trans A.2⟩ : a.tmps.size = 187 ∧ a.defers = [])
    clear h1 h2 h3 h4
    clear t15 t17 t18
    refine wp_cond_false t159 ?_
    refine wp_skip ?_
    clear t159
    exact one_tail2 I V X19 d m lv FI hm BW a A t1
  · refine wp_region_sq (σ := Unit) 187 [(0, 140), (1, 141)] (fun j_ s X => match j_ with | 0 => Below X16.heap.size X16 X | 1 => Below X16.heap.size X16 X | _ => Below X16.heap.size X16 X) (fun s => fun i_ => match i_ with | 0 => .int .i64 ((frE (((m + 1 : Nat) : Int)) d m : Nat) : Int) | 1 => .bool false | _ => undef) () A.1 (by kernel_rfl) (by decide) (by decide) (Below.refl _ _) ?_ ?_
    · intro i_ hi_ s a X hf hv hn hS
      match i_, hi_ with
      | 0, _ => exact stepV rfl rfl (execMvB rfl ((hf 16 (by decide)).trans t16)) ⟨s, ⟨_, rfl, rfl⟩, hS, fun _ _ => rfl⟩
      | 1, _ => exact stepV rfl rfl (execDec (execEqE (p := frE (((m + 1 : Nat) : Int)) d m) (q := 0) rfl (hv 0 (by omega) _ rfl _ rfl) rfl) (decide_eq_false (by exact hE))) ⟨s, ⟨_, rfl, rfl⟩, hS, fun _ _ => rfl⟩
      | k_ + 2, h_ => exact absurd h_ (by simp)
    rintro _ a X17 h1 h2 h3 h4 hS
    replace hS : Below X16.heap.size X16 X17 := hS
    have bX := hS
    clear hS
    replace t1 := (h3 1 (by decide)).trans t1
    have t141 : a.eval (.tmp 141) = .bool false := h4 1 _ rfl _ rfl
    replace FI := (FI.on bX)
    replace Fv137 := (Fv137.on bX)
    have ZX17 := bX.size
    replace BW := BW.trans (bX.mono BW.size)
    clear bX
    replace A := (⟨h1, h2.trans A.2⟩ : a.tmps.size = 187 ∧ a.defers = [])
    clear h1 h2 h3 h4
    clear t15 t16
    refine wp_cond_false t141 ?_
    refine wp_skip ?_
    clear t141
    exact one_tail2 I V X17 d m lv FI hm BW a A t1
set_option maxRecDepth 100000 in
set_option maxHeartbeats 4000000 in
/-- PermOneToOne. -/
theorem one_any (I : Impl) (f d : Nat → Int) (n m : Nat) (pv lv : Value) (V : World) (hv0 : SliceI V pv n f) (hn17 : n ≤ 17592186043904) (hw0 : SliceI V lv m d) (hm : m ≤ 17592186043904) :
    Calls Try.prog 7 #[pv, lv] V fun e w' => e = .returned (.bool true) ∧ Below V.heap.size V w' := by
  have FP := hv0
  have FI := hw0
  go_enter Try.func7, Try.ntmps7
  refine wp_seq ?_
  refine wp_region_sqK 187 [(0, 4)] (fun i_ => match i_ with | 0 => .bool false | _ => undef) rfl (by kernel_rfl) (by decide) (by decide) ?_ ?_
  · intro i_ hi_ a hf hv hn
    match i_, hi_ with
    | 0, _ => exact stepV rfl rfl (execAsgB rfl rfl) ⟨⟨_, rfl, rfl⟩, rfl⟩
    | k_ + 1, h_ => exact absurd h_ (by simp)
  intro a h1 h2 h3 h4
  have t0 : a.eval (.tmp 0) = pv := (h3 0 (by decide)).trans rfl
  have t1 : a.eval (.tmp 1) = lv := (h3 1 (by decide)).trans rfl
  have A : a.tmps.size = 187 ∧ a.defers = [] := ⟨h1, h2⟩
  have BW : Below V.heap.size V V := Below.refl _ _
  clear h1 h2 h3 h4
  refine wp_seq ?_
  refine wp_seq ?_
  refine wp_region_sq (σ := Unit) 187 [(0, 22), (1, 23)] (fun j_ s X => match j_ with | 0 => Below V.heap.size V X | 1 => Below V.heap.size V X | _ => Below V.heap.size V X) (fun s => fun i_ => match i_ with | 0 => .bool true | 1 => .bool false | _ => undef) () A.1 (by kernel_rfl) (by decide) (by decide) (Below.refl _ _) ?_ ?_
  · intro i_ hi_ s a X hf hv hn hS
    match i_, hi_ with
    | 0, _ => exact stepC rfl rfl (execCall0 Try.func9 (by kernel_rfl) (by kernel_rfl) rfl ) (awake11 I X) fun e w' hh => ⟨_, hh.1, s, ⟨_, rfl, rfl⟩, (hS).trans ((hh.2).mono (hS).size), fun _ _ => rfl⟩
    | 1, _ => exact stepV rfl rfl (execNot8 rfl (hv 0 (by omega) _ rfl _ rfl)) ⟨s, ⟨_, rfl, rfl⟩, hS, fun _ _ => rfl⟩
    | k_ + 2, h_ => exact absurd h_ (by simp)
  rintro _ a X1 h1 h2 h3 h4 hS
  replace hS : Below V.heap.size V X1 := hS
  have bX := hS
  clear hS
  replace t0 := (h3 0 (by decide)).trans t0
  replace t1 := (h3 1 (by decide)).trans t1
  have t23 : a.eval (.tmp 23) = .bool false := h4 1 _ rfl _ rfl
  replace FP := (FP.on bX)
  replace FI := (FI.on bX)
  have ZX1 := bX.size
  replace BW := BW.trans (bX.mono BW.size)
  clear bX
  replace A := (⟨h1, h2.trans A.2⟩ : a.tmps.size = 187 ∧ a.defers = [])
  clear h1 h2 h3 h4
  refine wp_cond_false t23 ?_
  refine wp_skip ?_
  clear t23
  refine wp_seq ?_
  refine wp_seq ?_
  by_cases hE : pE f n = 0
  · have hok := pE_0 hE
    have hP : IsP (gN f) n := isP_of hok
    obtain ⟨hrange, _⟩ := okQ_iff.1 hok
    refine wp_region_sq (σ := Unit) 187 [(0, 24), (1, 25), (2, 26)] (fun j_ s X => match j_ with | 0 => Below X1.heap.size X1 X | 1 => Below X1.heap.size X1 X | 2 => Below X1.heap.size X1 X | _ => Below X1.heap.size X1 X) (fun s => fun i_ => match i_ with | 0 => pv | 1 => .int .i64 ((pE f n : Nat) : Int) | 2 => .bool true | _ => undef) () A.1 (by kernel_rfl) (by decide) (by decide) (Below.refl _ _) ?_ ?_
    · intro i_ hi_ s a X hf hv hn hS
      match i_, hi_ with
      | 0, _ => exact stepV rfl rfl (execMvB rfl ((hf 0 (by decide)).trans t0)) ⟨s, ⟨_, rfl, rfl⟩, hS, fun _ _ => rfl⟩
      | 1, _ => exact stepC rfl rfl (execCall1 Try.func10 (by kernel_rfl) (by kernel_rfl) rfl (hv 0 (by omega) _ rfl _ rfl)) (I.check f n _ X (FP.on hS) (by omega)) fun e w' hh => ⟨_, hh.1, s, ⟨_, rfl, rfl⟩, (hS).trans ((hh.2).mono (hS).size), fun _ _ => rfl⟩
      | 2, _ => exact stepV rfl rfl (execDec (execEqE (p := pE f n) (q := 0) rfl (hv 1 (by omega) _ rfl _ rfl) rfl) (decide_eq_true (by exact hE))) ⟨s, ⟨_, rfl, rfl⟩, hS, fun _ _ => rfl⟩
      | k_ + 3, h_ => exact absurd h_ (by simp)
    rintro _ a X3 h1 h2 h3 h4 hS
    replace hS : Below X1.heap.size X1 X3 := hS
    have bX := hS
    clear hS
    replace t0 := (h3 0 (by decide)).trans t0
    replace t1 := (h3 1 (by decide)).trans t1
    have t26 : a.eval (.tmp 26) = .bool true := h4 2 _ rfl _ rfl
    replace FP := (FP.on bX)
    replace FI := (FI.on bX)
    have ZX3 := bX.size
    replace BW := BW.trans (bX.mono BW.size)
    clear bX
    replace A := (⟨h1, h2.trans A.2⟩ : a.tmps.size = 187 ∧ a.defers = [])
    clear h1 h2 h3 h4
    refine wp_cond_true t26 ?_
    clear t26
    refine wp_seq ?_
    refine wp_region_sq (σ := Value) 187 [(0, 28), (1, 29), (2, 27), (3, 30), (4, 31), (5, 5), (6, 6)] (fun j_ s X => match j_ with | 0 => Below X3.heap.size X3 X | 1 => Below X3.heap.size X3 X | 2 => Below X3.heap.size X3 X ∧ (SliceI X s (zl (pE f n) (n - 1)) (fun j => (drD n (gN f) j : Int))) | 3 => Below X3.heap.size X3 X ∧ (SliceI X s (zl (pE f n) (n - 1)) (fun j => (drD n (gN f) j : Int))) | 4 => Below X3.heap.size X3 X ∧ (SliceI X s (zl (pE f n) (n - 1)) (fun j => (drD n (gN f) j : Int))) | 5 => Below X3.heap.size X3 X ∧ (SliceI X s (zl (pE f n) (n - 1)) (fun j => (drD n (gN f) j : Int))) | 6 => Below X3.heap.size X3 X ∧ (SliceI X s (zl (pE f n) (n - 1)) (fun j => (drD n (gN f) j : Int))) | _ => Below X3.heap.size X3 X ∧ (SliceI X s (zl (pE f n) (n - 1)) (fun j => (drD n (gN f) j : Int)))) (fun s => fun i_ => match i_ with | 0 => pv | 1 => .tuple #[s, .int .i64 ((pE f n : Nat) : Int)] | 2 => .tuple #[s, .int .i64 ((pE f n : Nat) : Int)] | 3 => s | 4 => .int .i64 ((pE f n : Nat) : Int) | 5 => s | 6 => .int .i64 ((pE f n : Nat) : Int) | _ => undef) undef A.1 (by kernel_rfl) (by decide) (by decide) (Below.refl _ _) ?_ ?_
    · intro i_ hi_ s a X hf hv hn hS
      match i_, hi_ with
      | 0, _ => exact stepV rfl rfl (execMvB rfl ((hf 0 (by decide)).trans t0)) ⟨s, ⟨_, rfl, rfl⟩, hS, fun _ _ => rfl⟩
      | 1, _ =>
        refine stepC rfl rfl (execCall1 Try.func15 (by kernel_rfl) (by kernel_rfl) rfl (hv 0 (by omega) _ rfl _ rfl)) (I.draws f n _ X (FP.on hS) (by omega)) fun e w' hh => ?_
        obtain ⟨r_, he, hk, hb⟩ := hh
        refine ⟨_, he, r_, ⟨_, rfl, rfl⟩, ⟨(hS).trans ((hb).mono (hS).size), own_ints hk (drw_fits (by omega))⟩, fun i hi => ?_⟩
        match i, hi with
        | 0, _ => rfl
        | n_ + 1, h_ => omega
      | 2, _ => exact stepV rfl rfl (execMvB rfl (hv 1 (by omega) _ rfl _ rfl)) ⟨s, ⟨_, rfl, rfl⟩, hS, fun _ _ => rfl⟩
      | 3, _ => exact stepV rfl rfl (execExtT rfl (hv 2 (by omega) _ rfl _ rfl) rfl) ⟨s, ⟨_, rfl, rfl⟩, hS, fun _ _ => rfl⟩
      | 4, _ => exact stepV rfl rfl (execExtT rfl (hv 2 (by omega) _ rfl _ rfl) rfl) ⟨s, ⟨_, rfl, rfl⟩, hS, fun _ _ => rfl⟩
      | 5, _ => exact stepV rfl rfl (execAsgB rfl (hv 3 (by omega) _ rfl _ rfl)) ⟨s, ⟨_, rfl, rfl⟩, hS, fun _ _ => rfl⟩
      | 6, _ => exact stepV rfl rfl (execAsgB rfl (hv 4 (by omega) _ rfl _ rfl)) ⟨s, ⟨_, rfl, rfl⟩, hS, fun _ _ => rfl⟩
      | k_ + 7, h_ => exact absurd h_ (by simp)
    rintro v29 a X4 h1 h2 h3 h4 hS
    replace hS : Below X3.heap.size X3 X4 ∧ (SliceI X4 v29 (zl (pE f n) (n - 1)) (fun j => (drD n (gN f) j : Int))) := hS
    obtain ⟨bX, Fv29⟩ := hS
    replace t0 := (h3 0 (by decide)).trans t0
    replace t1 := (h3 1 (by decide)).trans t1
    have t5 : a.eval (.tmp 5) = v29 := h4 5 _ rfl _ rfl
    have t6 : a.eval (.tmp 6) = .int .i64 ((pE f n : Nat) : Int) := h4 6 _ rfl _ rfl
    replace FP := (FP.on bX)
    replace FI := (FI.on bX)
    have ZX4 := bX.size
    replace BW := BW.trans (bX.mono BW.size)
    clear bX
    replace A := (⟨h1, h2.trans A.2⟩ : a.tmps.size = 187 ∧ a.defers = [])
    clear h1 h2 h3 h4
    rw [hE, zl_ok] at Fv29
    rw [hE] at t6
    have hfr : frE ((n : Nat) : Int) (fun j => (drD n (gN f) j : Int)) (n - 1) = 0 := frE_ok rfl (fitQ_iff.2 fun i hi => by have := drD_lt (f := gN f) (n := n) (k := i) (by omega); show 0 ≤ ((drD n (gN f) i : Nat) : Int) ∧ ((drD n (gN f) i : Nat) : Int) < (n : Int) - i; omega)
    refine wp_seq ?_
    refine wp_region_sq (σ := Value) 187 [(0, 33), (1, 34), (2, 35), (3, 36), (4, 32), (5, 37), (6, 38), (7, 7), (8, 8)] (fun j_ s X => match j_ with | 0 => Below X4.heap.size X4 X | 1 => Below X4.heap.size X4 X | 2 => Below X4.heap.size X4 X | 3 => Below X4.heap.size X4 X | 4 => Below X4.heap.size X4 X ∧ (SliceI X s (zl (frE (((n : Nat) : Int)) (fun j => (drD n (gN f) j : Int)) (n - 1)) ((((n : Nat) : Int)).toNat)) (fun j => (frA (((n : Nat) : Int)).toNat (gN (fun j => (drD n (gN f) j : Int))) (n - 1) j : Int))) | 5 => Below X4.heap.size X4 X ∧ (SliceI X s (zl (frE (((n : Nat) : Int)) (fun j => (drD n (gN f) j : Int)) (n - 1)) ((((n : Nat) : Int)).toNat)) (fun j => (frA (((n : Nat) : Int)).toNat (gN (fun j => (drD n (gN f) j : Int))) (n - 1) j : Int))) | 6 => Below X4.heap.size X4 X ∧ (SliceI X s (zl (frE (((n : Nat) : Int)) (fun j => (drD n (gN f) j : Int)) (n - 1)) ((((n : Nat) : Int)).toNat)) (fun j => (frA (((n : Nat) : Int)).toNat (gN (fun j => (drD n (gN f) j : Int))) (n - 1) j : Int))) | 7 => Below X4.heap.size X4 X ∧ (SliceI X s (zl (frE (((n : Nat) : Int)) (fun j => (drD n (gN f) j : Int)) (n - 1)) ((((n : Nat) : Int)).toNat)) (fun j => (frA (((n : Nat) : Int)).toNat (gN (fun j => (drD n (gN f) j : Int))) (n - 1) j : Int))) | 8 => Below X4.heap.size X4 X ∧ (SliceI X s (zl (frE (((n : Nat) : Int)) (fun j => (drD n (gN f) j : Int)) (n - 1)) ((((n : Nat) : Int)).toNat)) (fun j => (frA (((n : Nat) : Int)).toNat (gN (fun j => (drD n (gN f) j : Int))) (n - 1) j : Int))) | _ => Below X4.heap.size X4 X ∧ (SliceI X s (zl (frE (((n : Nat) : Int)) (fun j => (drD n (gN f) j : Int)) (n - 1)) ((((n : Nat) : Int)).toNat)) (fun j => (frA (((n : Nat) : Int)).toNat (gN (fun j => (drD n (gN f) j : Int))) (n - 1) j : Int)))) (fun s => fun i_ => match i_ with | 0 => pv | 1 => .int .i64 ((n : Nat) : Int) | 2 => v29 | 3 => .tuple #[s, .int .i64 ((frE (((n : Nat) : Int)) (fun j => (drD n (gN f) j : Int)) (n - 1) : Nat) : Int)] | 4 => .tuple #[s, .int .i64 ((frE (((n : Nat) : Int)) (fun j => (drD n (gN f) j : Int)) (n - 1) : Nat) : Int)] | 5 => s | 6 => .int .i64 ((frE (((n : Nat) : Int)) (fun j => (drD n (gN f) j : Int)) (n - 1) : Nat) : Int) | 7 => s | 8 => .int .i64 ((frE (((n : Nat) : Int)) (fun j => (drD n (gN f) j : Int)) (n - 1) : Nat) : Int) | _ => undef) undef A.1 (by kernel_rfl) (by decide) (by decide) (Below.refl _ _) ?_ ?_
    · intro i_ hi_ s a X hf hv hn hS
      match i_, hi_ with
      | 0, _ => exact stepV rfl rfl (execMvB rfl ((hf 0 (by decide)).trans t0)) ⟨s, ⟨_, rfl, rfl⟩, hS, fun _ _ => rfl⟩
      | 1, _ => exact stepV rfl rfl (execLenI (len := n) rfl (hv 0 (by omega) _ rfl _ rfl) ((FP.on hS)).shp) ⟨s, ⟨_, rfl, rfl⟩, hS, fun _ _ => rfl⟩
      | 2, _ => exact stepV rfl rfl (execMvB rfl ((hf 5 (by decide)).trans t5)) ⟨s, ⟨_, rfl, rfl⟩, hS, fun _ _ => rfl⟩
      | 3, _ =>
        refine stepC rfl rfl (execCall2 Try.func20 (by kernel_rfl) (by kernel_rfl) rfl (hv 1 (by omega) _ rfl _ rfl) (hv 2 (by omega) _ rfl _ rfl)) (I.from_ (((n : Nat) : Int)) (fun j => (drD n (gN f) j : Int)) (n - 1) _ X (Fv29.on hS) (by omega) (by omega)) fun e w' hh => ?_
        obtain ⟨r_, he, hk, hb⟩ := hh
        refine ⟨_, he, r_, ⟨_, rfl, rfl⟩, ⟨(hS).trans ((hb).mono (hS).size), own_ints hk (from_fits (by omega))⟩, fun i hi => ?_⟩
        match i, hi with
        | 0, _ => rfl
        | 1, _ => rfl
        | 2, _ => rfl
        | n_ + 3, h_ => omega
      | 4, _ => exact stepV rfl rfl (execMvB rfl (hv 3 (by omega) _ rfl _ rfl)) ⟨s, ⟨_, rfl, rfl⟩, hS, fun _ _ => rfl⟩
      | 5, _ => exact stepV rfl rfl (execExtT rfl (hv 4 (by omega) _ rfl _ rfl) rfl) ⟨s, ⟨_, rfl, rfl⟩, hS, fun _ _ => rfl⟩
      | 6, _ => exact stepV rfl rfl (execExtT rfl (hv 4 (by omega) _ rfl _ rfl) rfl) ⟨s, ⟨_, rfl, rfl⟩, hS, fun _ _ => rfl⟩
      | 7, _ => exact stepV rfl rfl (execAsgB rfl (hv 5 (by omega) _ rfl _ rfl)) ⟨s, ⟨_, rfl, rfl⟩, hS, fun _ _ => rfl⟩
      | 8, _ => exact stepV rfl rfl (execAsgB rfl (hv 6 (by omega) _ rfl _ rfl)) ⟨s, ⟨_, rfl, rfl⟩, hS, fun _ _ => rfl⟩
      | k_ + 9, h_ => exact absurd h_ (by simp)
    rintro v36 a X5 h1 h2 h3 h4 hS
    replace hS : Below X4.heap.size X4 X5 ∧ (SliceI X5 v36 (zl (frE (((n : Nat) : Int)) (fun j => (drD n (gN f) j : Int)) (n - 1)) ((((n : Nat) : Int)).toNat)) (fun j => (frA (((n : Nat) : Int)).toNat (gN (fun j => (drD n (gN f) j : Int))) (n - 1) j : Int))) := hS
    obtain ⟨bX, Fv36⟩ := hS
    replace t0 := (h3 0 (by decide)).trans t0
    replace t1 := (h3 1 (by decide)).trans t1
    replace t5 := (h3 5 (by decide)).trans t5
    replace t6 := (h3 6 (by decide)).trans t6
    have t7 : a.eval (.tmp 7) = v36 := h4 7 _ rfl _ rfl
    have t8 : a.eval (.tmp 8) = .int .i64 ((frE (((n : Nat) : Int)) (fun j => (drD n (gN f) j : Int)) (n - 1) : Nat) : Int) := h4 8 _ rfl _ rfl
    replace FP := (FP.on bX)
    replace FI := (FI.on bX)
    replace Fv29 := (Fv29.on bX)
    have ZX5 := bX.size
    replace BW := BW.trans (bX.mono BW.size)
    clear bX
    replace A := (⟨h1, h2.trans A.2⟩ : a.tmps.size = 187 ∧ a.defers = [])
    clear h1 h2 h3 h4
    rw [hfr, zl_ok, Int.toNat_natCast, gN_cast] at Fv36
    rw [hfr] at t8
    replace Fv36 := Fv36.cg (g := f) (fun j hj => by show ((frA n (drD n (gN f)) (n - 1) j : Nat) : Int) = f j; rw [from_draws hP j hj]; exact gN_at hE hj)
    refine wp_seq ?_
    refine wp_region_sq (σ := Value) 187 [(0, 40), (1, 41), (2, 39), (3, 42), (4, 43), (5, 9), (6, 10)] (fun j_ s X => match j_ with | 0 => Below X5.heap.size X5 X | 1 => Below X5.heap.size X5 X | 2 => Below X5.heap.size X5 X ∧ (SliceI X s (zl (pE f n) n) (fun j => (rkD (gN f) n j : Int))) | 3 => Below X5.heap.size X5 X ∧ (SliceI X s (zl (pE f n) n) (fun j => (rkD (gN f) n j : Int))) | 4 => Below X5.heap.size X5 X ∧ (SliceI X s (zl (pE f n) n) (fun j => (rkD (gN f) n j : Int))) | 5 => Below X5.heap.size X5 X ∧ (SliceI X s (zl (pE f n) n) (fun j => (rkD (gN f) n j : Int))) | 6 => Below X5.heap.size X5 X ∧ (SliceI X s (zl (pE f n) n) (fun j => (rkD (gN f) n j : Int))) | _ => Below X5.heap.size X5 X ∧ (SliceI X s (zl (pE f n) n) (fun j => (rkD (gN f) n j : Int)))) (fun s => fun i_ => match i_ with | 0 => pv | 1 => .tuple #[s, .int .i64 ((pE f n : Nat) : Int)] | 2 => .tuple #[s, .int .i64 ((pE f n : Nat) : Int)] | 3 => s | 4 => .int .i64 ((pE f n : Nat) : Int) | 5 => s | 6 => .int .i64 ((pE f n : Nat) : Int) | _ => undef) undef A.1 (by kernel_rfl) (by decide) (by decide) (Below.refl _ _) ?_ ?_
    · intro i_ hi_ s a X hf hv hn hS
      match i_, hi_ with
      | 0, _ => exact stepV rfl rfl (execMvB rfl ((hf 0 (by decide)).trans t0)) ⟨s, ⟨_, rfl, rfl⟩, hS, fun _ _ => rfl⟩
      | 1, _ =>
        refine stepC rfl rfl (execCall1 Try.func16 (by kernel_rfl) (by kernel_rfl) rfl (hv 0 (by omega) _ rfl _ rfl)) (I.rank f n _ X (FP.on hS) (by omega)) fun e w' hh => ?_
        obtain ⟨r_, he, hk, hb⟩ := hh
        refine ⟨_, he, r_, ⟨_, rfl, rfl⟩, ⟨(hS).trans ((hb).mono (hS).size), own_ints hk (rnk_fits (by omega))⟩, fun i hi => ?_⟩
        match i, hi with
        | 0, _ => rfl
        | n_ + 1, h_ => omega
      | 2, _ => exact stepV rfl rfl (execMvB rfl (hv 1 (by omega) _ rfl _ rfl)) ⟨s, ⟨_, rfl, rfl⟩, hS, fun _ _ => rfl⟩
      | 3, _ => exact stepV rfl rfl (execExtT rfl (hv 2 (by omega) _ rfl _ rfl) rfl) ⟨s, ⟨_, rfl, rfl⟩, hS, fun _ _ => rfl⟩
      | 4, _ => exact stepV rfl rfl (execExtT rfl (hv 2 (by omega) _ rfl _ rfl) rfl) ⟨s, ⟨_, rfl, rfl⟩, hS, fun _ _ => rfl⟩
      | 5, _ => exact stepV rfl rfl (execAsgB rfl (hv 3 (by omega) _ rfl _ rfl)) ⟨s, ⟨_, rfl, rfl⟩, hS, fun _ _ => rfl⟩
      | 6, _ => exact stepV rfl rfl (execAsgB rfl (hv 4 (by omega) _ rfl _ rfl)) ⟨s, ⟨_, rfl, rfl⟩, hS, fun _ _ => rfl⟩
      | k_ + 7, h_ => exact absurd h_ (by simp)
    rintro v41 a X6 h1 h2 h3 h4 hS
    replace hS : Below X5.heap.size X5 X6 ∧ (SliceI X6 v41 (zl (pE f n) n) (fun j => (rkD (gN f) n j : Int))) := hS
    obtain ⟨bX, Fv41⟩ := hS
    replace t0 := (h3 0 (by decide)).trans t0
    replace t1 := (h3 1 (by decide)).trans t1
    replace t5 := (h3 5 (by decide)).trans t5
    replace t6 := (h3 6 (by decide)).trans t6
    replace t7 := (h3 7 (by decide)).trans t7
    replace t8 := (h3 8 (by decide)).trans t8
    have t9 : a.eval (.tmp 9) = v41 := h4 5 _ rfl _ rfl
    have t10 : a.eval (.tmp 10) = .int .i64 ((pE f n : Nat) : Int) := h4 6 _ rfl _ rfl
    replace FP := (FP.on bX)
    replace FI := (FI.on bX)
    replace Fv29 := (Fv29.on bX)
    replace Fv36 := (Fv36.on bX)
    have ZX6 := bX.size
    replace BW := BW.trans (bX.mono BW.size)
    clear bX
    replace A := (⟨h1, h2.trans A.2⟩ : a.tmps.size = 187 ∧ a.defers = [])
    clear h1 h2 h3 h4
    rw [hE, zl_ok] at Fv41
    rw [hE] at t10
    have hun : unE (fun j => (rkD (gN f) n j : Int)) n = 0 := if_pos (fitQ_iff.2 fun i hi => by have := rkD_lt (f := gN f) (n := n) (i := i) hi; show 0 ≤ ((rkD (gN f) n i : Nat) : Int) ∧ ((rkD (gN f) n i : Nat) : Int) < (n : Int) - i; omega)
    refine wp_seq ?_
    refine wp_region_sq (σ := Value) 187 [(0, 45), (1, 46), (2, 44), (3, 47), (4, 48), (5, 11), (6, 12)] (fun j_ s X => match j_ with | 0 => Below X6.heap.size X6 X | 1 => Below X6.heap.size X6 X | 2 => Below X6.heap.size X6 X ∧ (SliceI X s (zl (unE (fun j => (rkD (gN f) n j : Int)) n) n) (fun j => (unr (gN (fun j => (rkD (gN f) n j : Int))) j : Int))) | 3 => Below X6.heap.size X6 X ∧ (SliceI X s (zl (unE (fun j => (rkD (gN f) n j : Int)) n) n) (fun j => (unr (gN (fun j => (rkD (gN f) n j : Int))) j : Int))) | 4 => Below X6.heap.size X6 X ∧ (SliceI X s (zl (unE (fun j => (rkD (gN f) n j : Int)) n) n) (fun j => (unr (gN (fun j => (rkD (gN f) n j : Int))) j : Int))) | 5 => Below X6.heap.size X6 X ∧ (SliceI X s (zl (unE (fun j => (rkD (gN f) n j : Int)) n) n) (fun j => (unr (gN (fun j => (rkD (gN f) n j : Int))) j : Int))) | 6 => Below X6.heap.size X6 X ∧ (SliceI X s (zl (unE (fun j => (rkD (gN f) n j : Int)) n) n) (fun j => (unr (gN (fun j => (rkD (gN f) n j : Int))) j : Int))) | _ => Below X6.heap.size X6 X ∧ (SliceI X s (zl (unE (fun j => (rkD (gN f) n j : Int)) n) n) (fun j => (unr (gN (fun j => (rkD (gN f) n j : Int))) j : Int)))) (fun s => fun i_ => match i_ with | 0 => v41 | 1 => .tuple #[s, .int .i64 ((unE (fun j => (rkD (gN f) n j : Int)) n : Nat) : Int)] | 2 => .tuple #[s, .int .i64 ((unE (fun j => (rkD (gN f) n j : Int)) n : Nat) : Int)] | 3 => s | 4 => .int .i64 ((unE (fun j => (rkD (gN f) n j : Int)) n : Nat) : Int) | 5 => s | 6 => .int .i64 ((unE (fun j => (rkD (gN f) n j : Int)) n : Nat) : Int) | _ => undef) undef A.1 (by kernel_rfl) (by decide) (by decide) (Below.refl _ _) ?_ ?_
    · intro i_ hi_ s a X hf hv hn hS
      match i_, hi_ with
      | 0, _ => exact stepV rfl rfl (execMvB rfl ((hf 9 (by decide)).trans t9)) ⟨s, ⟨_, rfl, rfl⟩, hS, fun _ _ => rfl⟩
      | 1, _ =>
        refine stepC rfl rfl (execCall1 Try.func21 (by kernel_rfl) (by kernel_rfl) rfl (hv 0 (by omega) _ rfl _ rfl)) (I.unrank (fun j => (rkD (gN f) n j : Int)) n _ X (Fv41.on hS) (by omega)) fun e w' hh => ?_
        obtain ⟨r_, he, hk, hb⟩ := hh
        refine ⟨_, he, r_, ⟨_, rfl, rfl⟩, ⟨(hS).trans ((hb).mono (hS).size), own_ints hk (unr_fits (by omega))⟩, fun i hi => ?_⟩
        match i, hi with
        | 0, _ => rfl
        | n_ + 1, h_ => omega
      | 2, _ => exact stepV rfl rfl (execMvB rfl (hv 1 (by omega) _ rfl _ rfl)) ⟨s, ⟨_, rfl, rfl⟩, hS, fun _ _ => rfl⟩
      | 3, _ => exact stepV rfl rfl (execExtT rfl (hv 2 (by omega) _ rfl _ rfl) rfl) ⟨s, ⟨_, rfl, rfl⟩, hS, fun _ _ => rfl⟩
      | 4, _ => exact stepV rfl rfl (execExtT rfl (hv 2 (by omega) _ rfl _ rfl) rfl) ⟨s, ⟨_, rfl, rfl⟩, hS, fun _ _ => rfl⟩
      | 5, _ => exact stepV rfl rfl (execAsgB rfl (hv 3 (by omega) _ rfl _ rfl)) ⟨s, ⟨_, rfl, rfl⟩, hS, fun _ _ => rfl⟩
      | 6, _ => exact stepV rfl rfl (execAsgB rfl (hv 4 (by omega) _ rfl _ rfl)) ⟨s, ⟨_, rfl, rfl⟩, hS, fun _ _ => rfl⟩
      | k_ + 7, h_ => exact absurd h_ (by simp)
    rintro v46 a X7 h1 h2 h3 h4 hS
    replace hS : Below X6.heap.size X6 X7 ∧ (SliceI X7 v46 (zl (unE (fun j => (rkD (gN f) n j : Int)) n) n) (fun j => (unr (gN (fun j => (rkD (gN f) n j : Int))) j : Int))) := hS
    obtain ⟨bX, Fv46⟩ := hS
    replace t0 := (h3 0 (by decide)).trans t0
    replace t1 := (h3 1 (by decide)).trans t1
    replace t5 := (h3 5 (by decide)).trans t5
    replace t6 := (h3 6 (by decide)).trans t6
    replace t7 := (h3 7 (by decide)).trans t7
    replace t8 := (h3 8 (by decide)).trans t8
    replace t9 := (h3 9 (by decide)).trans t9
    replace t10 := (h3 10 (by decide)).trans t10
    have t11 : a.eval (.tmp 11) = v46 := h4 5 _ rfl _ rfl
    have t12 : a.eval (.tmp 12) = .int .i64 ((unE (fun j => (rkD (gN f) n j : Int)) n : Nat) : Int) := h4 6 _ rfl _ rfl
    replace FP := (FP.on bX)
    replace FI := (FI.on bX)
    replace Fv29 := (Fv29.on bX)
    replace Fv36 := (Fv36.on bX)
    replace Fv41 := (Fv41.on bX)
    have ZX7 := bX.size
    replace BW := BW.trans (bX.mono BW.size)
    clear bX
    replace A := (⟨h1, h2.trans A.2⟩ : a.tmps.size = 187 ∧ a.defers = [])
    clear h1 h2 h3 h4
    rw [hun, zl_ok, gN_cast] at Fv46
    rw [hun] at t12
    replace Fv46 := Fv46.cg (g := f) (fun j hj => by show ((unr (rkD (gN f) n) j : Nat) : Int) = f j; rw [unrank_rank hP hj]; exact gN_at hE hj)
    refine wp_seq ?_
    refine wp_region_sq (σ := Value) 187 [(0, 49), (1, 50), (2, 51), (3, 13)] (fun j_ s X => match j_ with | 0 => Below X7.heap.size X7 X | 1 => Below X7.heap.size X7 X | 2 => Below X7.heap.size X7 X | 3 => Below X7.heap.size X7 X ∧ (SliceI X s (((((n : Nat) : Int)) - 1).toNat) (fun j => (((n : Nat) : Int)) - (j : Int))) | _ => Below X7.heap.size X7 X ∧ (SliceI X s (((((n : Nat) : Int)) - 1).toNat) (fun j => (((n : Nat) : Int)) - (j : Int)))) (fun s => fun i_ => match i_ with | 0 => pv | 1 => .int .i64 ((n : Nat) : Int) | 2 => s | 3 => s | _ => undef) undef A.1 (by kernel_rfl) (by decide) (by decide) (Below.refl _ _) ?_ ?_
    · intro i_ hi_ s a X hf hv hn hS
      match i_, hi_ with
      | 0, _ => exact stepV rfl rfl (execMvB rfl ((hf 0 (by decide)).trans t0)) ⟨s, ⟨_, rfl, rfl⟩, hS, fun _ _ => rfl⟩
      | 1, _ => exact stepV rfl rfl (execLenI (len := n) rfl (hv 0 (by omega) _ rfl _ rfl) ((FP.on hS)).shp) ⟨s, ⟨_, rfl, rfl⟩, hS, fun _ _ => rfl⟩
      | 2, _ =>
        refine stepC rfl rfl (execCall1 Try.func24 (by kernel_rfl) (by kernel_rfl) rfl (hv 1 (by omega) _ rfl _ rfl)) (I.bounds (((n : Nat) : Int)) X (by omega)) fun e w' hh => ?_
        obtain ⟨r_, he, hk, hb⟩ := hh
        refine ⟨_, he, r_, ⟨_, rfl, rfl⟩, ⟨(hS).trans ((hb).mono (hS).size), own_ints hk (fun j hj => by omega)⟩, fun i hi => ?_⟩
        match i, hi with
        | 0, _ => rfl
        | 1, _ => rfl
        | n_ + 2, h_ => omega
      | 3, _ => exact stepV rfl rfl (execAsgB rfl (hv 2 (by omega) _ rfl _ rfl)) ⟨s, ⟨_, rfl, rfl⟩, hS, fun _ _ => rfl⟩
      | k_ + 4, h_ => exact absurd h_ (by simp)
    rintro v51 a X8 h1 h2 h3 h4 hS
    replace hS : Below X7.heap.size X7 X8 ∧ (SliceI X8 v51 (((((n : Nat) : Int)) - 1).toNat) (fun j => (((n : Nat) : Int)) - (j : Int))) := hS
    obtain ⟨bX, Fv51⟩ := hS
    replace t0 := (h3 0 (by decide)).trans t0
    replace t1 := (h3 1 (by decide)).trans t1
    replace t5 := (h3 5 (by decide)).trans t5
    replace t6 := (h3 6 (by decide)).trans t6
    replace t7 := (h3 7 (by decide)).trans t7
    replace t8 := (h3 8 (by decide)).trans t8
    replace t9 := (h3 9 (by decide)).trans t9
    replace t10 := (h3 10 (by decide)).trans t10
    replace t11 := (h3 11 (by decide)).trans t11
    replace t12 := (h3 12 (by decide)).trans t12
    have t13 : a.eval (.tmp 13) = v51 := h4 3 _ rfl _ rfl
    replace FP := (FP.on bX)
    replace FI := (FI.on bX)
    replace Fv29 := (Fv29.on bX)
    replace Fv36 := (Fv36.on bX)
    replace Fv41 := (Fv41.on bX)
    replace Fv46 := (Fv46.on bX)
    have ZX8 := bX.size
    replace BW := BW.trans (bX.mono BW.size)
    clear bX
    replace A := (⟨h1, h2.trans A.2⟩ : a.tmps.size = 187 ∧ a.defers = [])
    clear h1 h2 h3 h4
    rw [show (((n : Nat) : Int) - 1).toNat = n - 1 by omega] at Fv51
    refine wp_seq ?_
    refine wp_seq ?_
    refine wp_region_sq (σ := Unit) 187 [(0, 52), (1, 53), (2, 54), (3, 55), (4, 56), (5, 57), (6, 58), (7, 59), (8, 60), (9, 61), (10, 62), (11, 63), (12, 64), (13, 65), (14, 66), (15, 67), (16, 68), (17, 69), (18, 70), (19, 71), (20, 72), (21, 73), (22, 74), (23, 75), (24, 76), (25, 77), (26, 78), (27, 79), (28, 80), (29, 81), (30, 82), (31, 83), (32, 84), (33, 85), (34, 86), (35, 87), (36, 88), (37, 89), (38, 90), (39, 91)] (fun j_ s X => match j_ with | 0 => Below X8.heap.size X8 X | 1 => Below X8.heap.size X8 X | 2 => Below X8.heap.size X8 X | 3 => Below X8.heap.size X8 X | 4 => Below X8.heap.size X8 X | 5 => Below X8.heap.size X8 X | 6 => Below X8.heap.size X8 X | 7 => Below X8.heap.size X8 X | 8 => Below X8.heap.size X8 X | 9 => Below X8.heap.size X8 X | 10 => Below X8.heap.size X8 X | 11 => Below X8.heap.size X8 X | 12 => Below X8.heap.size X8 X | 13 => Below X8.heap.size X8 X | 14 => Below X8.heap.size X8 X | 15 => Below X8.heap.size X8 X | 16 => Below X8.heap.size X8 X | 17 => Below X8.heap.size X8 X | 18 => Below X8.heap.size X8 X | 19 => Below X8.heap.size X8 X | 20 => Below X8.heap.size X8 X | 21 => Below X8.heap.size X8 X | 22 => Below X8.heap.size X8 X | 23 => Below X8.heap.size X8 X | 24 => Below X8.heap.size X8 X | 25 => Below X8.heap.size X8 X | 26 => Below X8.heap.size X8 X | 27 => Below X8.heap.size X8 X | 28 => Below X8.heap.size X8 X | 29 => Below X8.heap.size X8 X | 30 => Below X8.heap.size X8 X | 31 => Below X8.heap.size X8 X | 32 => Below X8.heap.size X8 X | 33 => Below X8.heap.size X8 X | 34 => Below X8.heap.size X8 X | 35 => Below X8.heap.size X8 X | 36 => Below X8.heap.size X8 X | 37 => Below X8.heap.size X8 X | 38 => Below X8.heap.size X8 X | 39 => Below X8.heap.size X8 X | _ => Below X8.heap.size X8 X) (fun s => fun i_ => match i_ with | 0 => .int .i64 ((0 : Nat) : Int) | 1 => .bool false | 2 => .bool false | 3 => .int .i64 ((0 : Nat) : Int) | 4 => .bool false | 5 => .bool false | 6 => .bool false | 7 => .int .i64 ((0 : Nat) : Int) | 8 => .bool false | 9 => .bool false | 10 => .bool false | 11 => .int .i64 ((0 : Nat) : Int) | 12 => .bool false | 13 => .bool false | 14 => .bool false | 15 => pv | 16 => v36 | 17 => .bool true | 18 => .bool false | 19 => .bool false | 20 => .bool false | 21 => pv | 22 => v46 | 23 => .bool true | 24 => .bool false | 25 => .bool false | 26 => .bool false | 27 => v29 | 28 => .int .i64 ((n - 1 : Nat) : Int) | 29 => v51 | 30 => .int .i64 ((n - 1 : Nat) : Int) | 31 => .bool false | 32 => .bool false | 33 => .bool false | 34 => v41 | 35 => .int .i64 ((n : Nat) : Int) | 36 => pv | 37 => .int .i64 ((n : Nat) : Int) | 38 => .bool false | 39 => .bool false | _ => undef) () A.1 (by kernel_rfl) (by decide) (by decide) (Below.refl _ _) ?_ ?_
    · intro i_ hi_ s a X hf hv hn hS
      match i_, hi_ with
      | 0, _ => exact stepV rfl rfl (execMvB rfl ((hf 6 (by decide)).trans t6)) ⟨s, ⟨_, rfl, rfl⟩, hS, fun _ _ => rfl⟩
      | 1, _ => exact stepV rfl rfl (execDec (execNeE (p := 0) (q := 0) rfl (hv 0 (by omega) _ rfl _ rfl) rfl) (decide_eq_false (by omega))) ⟨s, ⟨_, rfl, rfl⟩, hS, fun _ _ => rfl⟩
      | 2, _ => exact stepV rfl rfl (execMvB rfl (hv 1 (by omega) _ rfl _ rfl)) ⟨s, ⟨_, rfl, rfl⟩, hS, fun _ _ => rfl⟩
      | 3, _ => exact stepV rfl (wantedOf rfl (yieldedAt rfl rfl (show a.eval (.tmp 54) = .bool false from (hv 2 (by omega) _ rfl _ rfl)))) (execMvB rfl ((hf 8 (by decide)).trans t8)) ⟨s, ⟨_, rfl, rfl⟩, hS, fun _ _ => rfl⟩
      | 4, _ => exact stepV rfl (wantedOf rfl (yieldedAt rfl rfl (show a.eval (.tmp 54) = .bool false from (hv 2 (by omega) _ rfl _ rfl)))) (execDec (execNeE (p := 0) (q := 0) rfl (hv 3 (by omega) _ rfl _ rfl) rfl) (decide_eq_false (by omega))) ⟨s, ⟨_, rfl, rfl⟩, hS, fun _ _ => rfl⟩
      | 5, _ => exact stepV rfl rfl (execPickF rfl (hv 2 (by omega) _ rfl _ rfl) (hv 4 (by omega) _ rfl _ rfl)) ⟨s, ⟨_, rfl, rfl⟩, hS, fun _ _ => rfl⟩
      | 6, _ => exact stepV rfl rfl (execMvB rfl (hv 5 (by omega) _ rfl _ rfl)) ⟨s, ⟨_, rfl, rfl⟩, hS, fun _ _ => rfl⟩
      | 7, _ => exact stepV rfl (wantedOf rfl (yieldedAt rfl rfl (show a.eval (.tmp 58) = .bool false from (hv 6 (by omega) _ rfl _ rfl)))) (execMvB rfl ((hf 10 (by decide)).trans t10)) ⟨s, ⟨_, rfl, rfl⟩, hS, fun _ _ => rfl⟩
      | 8, _ => exact stepV rfl (wantedOf rfl (yieldedAt rfl rfl (show a.eval (.tmp 58) = .bool false from (hv 6 (by omega) _ rfl _ rfl)))) (execDec (execNeE (p := 0) (q := 0) rfl (hv 7 (by omega) _ rfl _ rfl) rfl) (decide_eq_false (by omega))) ⟨s, ⟨_, rfl, rfl⟩, hS, fun _ _ => rfl⟩
      | 9, _ => exact stepV rfl rfl (execPickF rfl (hv 6 (by omega) _ rfl _ rfl) (hv 8 (by omega) _ rfl _ rfl)) ⟨s, ⟨_, rfl, rfl⟩, hS, fun _ _ => rfl⟩
      | 10, _ => exact stepV rfl rfl (execMvB rfl (hv 9 (by omega) _ rfl _ rfl)) ⟨s, ⟨_, rfl, rfl⟩, hS, fun _ _ => rfl⟩
      | 11, _ => exact stepV rfl (wantedOf rfl (yieldedAt rfl rfl (show a.eval (.tmp 62) = .bool false from (hv 10 (by omega) _ rfl _ rfl)))) (execMvB rfl ((hf 12 (by decide)).trans t12)) ⟨s, ⟨_, rfl, rfl⟩, hS, fun _ _ => rfl⟩
      | 12, _ => exact stepV rfl (wantedOf rfl (yieldedAt rfl rfl (show a.eval (.tmp 62) = .bool false from (hv 10 (by omega) _ rfl _ rfl)))) (execDec (execNeE (p := 0) (q := 0) rfl (hv 11 (by omega) _ rfl _ rfl) rfl) (decide_eq_false (by omega))) ⟨s, ⟨_, rfl, rfl⟩, hS, fun _ _ => rfl⟩
      | 13, _ => exact stepV rfl rfl (execPickF rfl (hv 10 (by omega) _ rfl _ rfl) (hv 12 (by omega) _ rfl _ rfl)) ⟨s, ⟨_, rfl, rfl⟩, hS, fun _ _ => rfl⟩
      | 14, _ => exact stepV rfl rfl (execMvB rfl (hv 13 (by omega) _ rfl _ rfl)) ⟨s, ⟨_, rfl, rfl⟩, hS, fun _ _ => rfl⟩
      | 15, _ => exact stepV rfl (wantedOf rfl (yieldedAt rfl rfl (show a.eval (.tmp 66) = .bool false from (hv 14 (by omega) _ rfl _ rfl)))) (execMvB rfl ((hf 0 (by decide)).trans t0)) ⟨s, ⟨_, rfl, rfl⟩, hS, fun _ _ => rfl⟩
      | 16, _ => exact stepV rfl (wantedOf rfl (yieldedAt rfl rfl (show a.eval (.tmp 66) = .bool false from (hv 14 (by omega) _ rfl _ rfl)))) (execMvB rfl ((hf 7 (by decide)).trans t7)) ⟨s, ⟨_, rfl, rfl⟩, hS, fun _ _ => rfl⟩
      | 17, _ => exact stepC rfl (wantedOf rfl (yieldedAt rfl rfl (show a.eval (.tmp 66) = .bool false from (hv 14 (by omega) _ rfl _ rfl)))) (execCall2 Try.func17 (by kernel_rfl) (by kernel_rfl) rfl (hv 15 (by omega) _ rfl _ rfl) (hv 16 (by omega) _ rfl _ rfl)) (sameP _ _ (n) _ _ X (FP.on hS) (Fv36.on hS) (by intro i hi; rfl) (by omega)) fun e w' hh => ⟨_, hh.1, s, ⟨_, rfl, rfl⟩, (hS).trans ((hh.2).mono (hS).size), fun _ _ => rfl⟩
      | 18, _ => exact stepV rfl (wantedOf rfl (yieldedAt rfl rfl (show a.eval (.tmp 66) = .bool false from (hv 14 (by omega) _ rfl _ rfl)))) (execNot8 rfl (hv 17 (by omega) _ rfl _ rfl)) ⟨s, ⟨_, rfl, rfl⟩, hS, fun _ _ => rfl⟩
      | 19, _ => exact stepV rfl rfl (execPickF rfl (hv 14 (by omega) _ rfl _ rfl) (hv 18 (by omega) _ rfl _ rfl)) ⟨s, ⟨_, rfl, rfl⟩, hS, fun _ _ => rfl⟩
      | 20, _ => exact stepV rfl rfl (execMvB rfl (hv 19 (by omega) _ rfl _ rfl)) ⟨s, ⟨_, rfl, rfl⟩, hS, fun _ _ => rfl⟩
      | 21, _ => exact stepV rfl (wantedOf rfl (yieldedAt rfl rfl (show a.eval (.tmp 72) = .bool false from (hv 20 (by omega) _ rfl _ rfl)))) (execMvB rfl ((hf 0 (by decide)).trans t0)) ⟨s, ⟨_, rfl, rfl⟩, hS, fun _ _ => rfl⟩
      | 22, _ => exact stepV rfl (wantedOf rfl (yieldedAt rfl rfl (show a.eval (.tmp 72) = .bool false from (hv 20 (by omega) _ rfl _ rfl)))) (execMvB rfl ((hf 11 (by decide)).trans t11)) ⟨s, ⟨_, rfl, rfl⟩, hS, fun _ _ => rfl⟩
      | 23, _ => exact stepC rfl (wantedOf rfl (yieldedAt rfl rfl (show a.eval (.tmp 72) = .bool false from (hv 20 (by omega) _ rfl _ rfl)))) (execCall2 Try.func17 (by kernel_rfl) (by kernel_rfl) rfl (hv 21 (by omega) _ rfl _ rfl) (hv 22 (by omega) _ rfl _ rfl)) (sameP _ _ (n) _ _ X (FP.on hS) (Fv46.on hS) (by intro i hi; rfl) (by omega)) fun e w' hh => ⟨_, hh.1, s, ⟨_, rfl, rfl⟩, (hS).trans ((hh.2).mono (hS).size), fun _ _ => rfl⟩
      | 24, _ => exact stepV rfl (wantedOf rfl (yieldedAt rfl rfl (show a.eval (.tmp 72) = .bool false from (hv 20 (by omega) _ rfl _ rfl)))) (execNot8 rfl (hv 23 (by omega) _ rfl _ rfl)) ⟨s, ⟨_, rfl, rfl⟩, hS, fun _ _ => rfl⟩
      | 25, _ => exact stepV rfl rfl (execPickF rfl (hv 20 (by omega) _ rfl _ rfl) (hv 24 (by omega) _ rfl _ rfl)) ⟨s, ⟨_, rfl, rfl⟩, hS, fun _ _ => rfl⟩
      | 26, _ => exact stepV rfl rfl (execMvB rfl (hv 25 (by omega) _ rfl _ rfl)) ⟨s, ⟨_, rfl, rfl⟩, hS, fun _ _ => rfl⟩
      | 27, _ => exact stepV rfl (wantedOf rfl (yieldedAt rfl rfl (show a.eval (.tmp 78) = .bool false from (hv 26 (by omega) _ rfl _ rfl)))) (execMvB rfl ((hf 5 (by decide)).trans t5)) ⟨s, ⟨_, rfl, rfl⟩, hS, fun _ _ => rfl⟩
      | 28, _ => exact stepV rfl (wantedOf rfl (yieldedAt rfl rfl (show a.eval (.tmp 78) = .bool false from (hv 26 (by omega) _ rfl _ rfl)))) (execLenI (len := n - 1) rfl (hv 27 (by omega) _ rfl _ rfl) ((Fv29.on hS)).shp) ⟨s, ⟨_, rfl, rfl⟩, hS, fun _ _ => rfl⟩
      | 29, _ => exact stepV rfl (wantedOf rfl (yieldedAt rfl rfl (show a.eval (.tmp 78) = .bool false from (hv 26 (by omega) _ rfl _ rfl)))) (execMvB rfl ((hf 13 (by decide)).trans t13)) ⟨s, ⟨_, rfl, rfl⟩, hS, fun _ _ => rfl⟩
      | 30, _ => exact stepV rfl (wantedOf rfl (yieldedAt rfl rfl (show a.eval (.tmp 78) = .bool false from (hv 26 (by omega) _ rfl _ rfl)))) (execLenI (len := n - 1) rfl (hv 29 (by omega) _ rfl _ rfl) ((Fv51.on hS)).shp) ⟨s, ⟨_, rfl, rfl⟩, hS, fun _ _ => rfl⟩
      | 31, _ => exact stepV rfl (wantedOf rfl (yieldedAt rfl rfl (show a.eval (.tmp 78) = .bool false from (hv 26 (by omega) _ rfl _ rfl)))) (execDec (execNeN (p := n - 1) (q := n - 1) rfl (hv 28 (by omega) _ rfl _ rfl) (hv 30 (by omega) _ rfl _ rfl)) (decide_eq_false (by omega))) ⟨s, ⟨_, rfl, rfl⟩, hS, fun _ _ => rfl⟩
      | 32, _ => exact stepV rfl rfl (execPickF rfl (hv 26 (by omega) _ rfl _ rfl) (hv 31 (by omega) _ rfl _ rfl)) ⟨s, ⟨_, rfl, rfl⟩, hS, fun _ _ => rfl⟩
      | 33, _ => exact stepV rfl rfl (execMvB rfl (hv 32 (by omega) _ rfl _ rfl)) ⟨s, ⟨_, rfl, rfl⟩, hS, fun _ _ => rfl⟩
      | 34, _ => exact stepV rfl (wantedOf rfl (yieldedAt rfl rfl (show a.eval (.tmp 85) = .bool false from (hv 33 (by omega) _ rfl _ rfl)))) (execMvB rfl ((hf 9 (by decide)).trans t9)) ⟨s, ⟨_, rfl, rfl⟩, hS, fun _ _ => rfl⟩
      | 35, _ => exact stepV rfl (wantedOf rfl (yieldedAt rfl rfl (show a.eval (.tmp 85) = .bool false from (hv 33 (by omega) _ rfl _ rfl)))) (execLenI (len := n) rfl (hv 34 (by omega) _ rfl _ rfl) ((Fv41.on hS)).shp) ⟨s, ⟨_, rfl, rfl⟩, hS, fun _ _ => rfl⟩
      | 36, _ => exact stepV rfl (wantedOf rfl (yieldedAt rfl rfl (show a.eval (.tmp 85) = .bool false from (hv 33 (by omega) _ rfl _ rfl)))) (execMvB rfl ((hf 0 (by decide)).trans t0)) ⟨s, ⟨_, rfl, rfl⟩, hS, fun _ _ => rfl⟩
      | 37, _ => exact stepV rfl (wantedOf rfl (yieldedAt rfl rfl (show a.eval (.tmp 85) = .bool false from (hv 33 (by omega) _ rfl _ rfl)))) (execLenI (len := n) rfl (hv 36 (by omega) _ rfl _ rfl) ((FP.on hS)).shp) ⟨s, ⟨_, rfl, rfl⟩, hS, fun _ _ => rfl⟩
      | 38, _ => exact stepV rfl (wantedOf rfl (yieldedAt rfl rfl (show a.eval (.tmp 85) = .bool false from (hv 33 (by omega) _ rfl _ rfl)))) (execDec (execNeN (p := n) (q := n) rfl (hv 35 (by omega) _ rfl _ rfl) (hv 37 (by omega) _ rfl _ rfl)) (decide_eq_false (by omega))) ⟨s, ⟨_, rfl, rfl⟩, hS, fun _ _ => rfl⟩
      | 39, _ => exact stepV rfl rfl (execPickF rfl (hv 33 (by omega) _ rfl _ rfl) (hv 38 (by omega) _ rfl _ rfl)) ⟨s, ⟨_, rfl, rfl⟩, hS, fun _ _ => rfl⟩
      | k_ + 40, h_ => exact absurd h_ (by simp)
    rintro _ a X9 h1 h2 h3 h4 hS
    replace hS : Below X8.heap.size X8 X9 := hS
    have bX := hS
    clear hS
    replace t1 := (h3 1 (by decide)).trans t1
    replace t5 := (h3 5 (by decide)).trans t5
    replace t9 := (h3 9 (by decide)).trans t9
    replace t13 := (h3 13 (by decide)).trans t13
    have t91 : a.eval (.tmp 91) = .bool false := h4 39 _ rfl _ rfl
    replace FP := (FP.on bX)
    replace FI := (FI.on bX)
    replace Fv29 := (Fv29.on bX)
    replace Fv36 := (Fv36.on bX)
    replace Fv41 := (Fv41.on bX)
    replace Fv46 := (Fv46.on bX)
    replace Fv51 := (Fv51.on bX)
    have ZX9 := bX.size
    replace BW := BW.trans (bX.mono BW.size)
    clear bX
    replace A := (⟨h1, h2.trans A.2⟩ : a.tmps.size = 187 ∧ a.defers = [])
    clear h1 h2 h3 h4
    clear t0 t6 t7 t8 t10 t11 t12
    refine wp_cond_false t91 ?_
    refine wp_skip ?_
    clear t91
    refine wp_seq ?_
    refine wp_region_sq (σ := Unit) 187 [(0, 14)] (fun j_ s X => match j_ with | 0 => Below X9.heap.size X9 X | _ => Below X9.heap.size X9 X) (fun s => fun i_ => match i_ with | 0 => .int .i64 ((0 : Nat) : Int) | _ => undef) () A.1 (by kernel_rfl) (by decide) (by decide) (Below.refl _ _) ?_ ?_
    · intro i_ hi_ s a X hf hv hn hS
      match i_, hi_ with
      | 0, _ => exact stepV rfl rfl (execAsgB rfl rfl) ⟨s, ⟨_, rfl, rfl⟩, hS, fun _ _ => rfl⟩
      | k_ + 1, h_ => exact absurd h_ (by simp)
    rintro _ a X11 h1 h2 h3 h4 hS
    replace hS : Below X9.heap.size X9 X11 := hS
    have bX := hS
    clear hS
    replace t1 := (h3 1 (by decide)).trans t1
    replace t5 := (h3 5 (by decide)).trans t5
    replace t9 := (h3 9 (by decide)).trans t9
    replace t13 := (h3 13 (by decide)).trans t13
    have t14 : a.eval (.tmp 14) = .int .i64 ((0 : Nat) : Int) := h4 0 _ rfl _ rfl
    replace FP := (FP.on bX)
    replace FI := (FI.on bX)
    replace Fv29 := (Fv29.on bX)
    replace Fv36 := (Fv36.on bX)
    replace Fv41 := (Fv41.on bX)
    replace Fv46 := (Fv46.on bX)
    replace Fv51 := (Fv51.on bX)
    have ZX11 := bX.size
    replace BW := BW.trans (bX.mono BW.size)
    clear bX
    replace A := (⟨h1, h2.trans A.2⟩ : a.tmps.size = 187 ∧ a.defers = [])
    clear h1 h2 h3 h4
    have BB : Below X11.heap.size X11 X11 := Below.refl _ _
    refine wp_block ?_
    refine wp_loop (fun a W => ∃ i : Nat, i ≤ n - 1 ∧ (a.tmps.size = 187 ∧ a.defers = []) ∧ a.eval (.tmp 1) = lv ∧ a.eval (.tmp 5) = v29 ∧ a.eval (.tmp 9) = v41 ∧ a.eval (.tmp 13) = v51 ∧ a.eval (.tmp 14) = .int .i64 ((i : Nat) : Int) ∧ Below X11.heap.size X11 W) (fun a _ => n - 1 - (intOf (a.eval (.tmp 14))).toNat) ⟨0, Nat.zero_le _, A, t1, t5, t9, t13, t14, BB⟩ ?_
    clear A t1 t5 t9 t13 t14 BB a
    rintro a XL ⟨i, hi, A, t1, t5, t9, t13, t14, BB⟩
    have e14 := t14
    refine wp_seq ?_
    refine wp_seq ?_
    refine wp_region_sq (σ := Unit) 187 [(0, 92), (1, 93), (2, 94), (3, 95)] (fun j_ s X => match j_ with | 0 => Below X11.heap.size X11 X | 1 => Below X11.heap.size X11 X | 2 => Below X11.heap.size X11 X | 3 => Below X11.heap.size X11 X | _ => Below X11.heap.size X11 X) (fun s => fun i_ => match i_ with | 0 => .int .i64 ((i : Nat) : Int) | 1 => v29 | 2 => .int .i64 ((n - 1 : Nat) : Int) | 3 => .bool (decide (i < n - 1)) | _ => undef) () A.1 (by kernel_rfl) (by decide) (by decide) (BB) ?_ ?_
    · intro i_ hi_ s a X hf hv hn hS
      match i_, hi_ with
      | 0, _ => exact stepV rfl rfl (execMvB rfl ((hf 14 (by decide)).trans t14)) ⟨s, ⟨_, rfl, rfl⟩, hS, fun _ _ => rfl⟩
      | 1, _ => exact stepV rfl rfl (execMvB rfl ((hf 5 (by decide)).trans t5)) ⟨s, ⟨_, rfl, rfl⟩, hS, fun _ _ => rfl⟩
      | 2, _ => exact stepV rfl rfl (execLenI (len := n - 1) rfl (hv 1 (by omega) _ rfl _ rfl) ((Fv29.on hS)).shp) ⟨s, ⟨_, rfl, rfl⟩, hS, fun _ _ => rfl⟩
      | 3, _ => exact stepV rfl rfl (execLtW (p := i) (q := n - 1) rfl (hv 0 (by omega) _ rfl _ rfl) (hv 2 (by omega) _ rfl _ rfl)) ⟨s, ⟨_, rfl, rfl⟩, hS, fun _ _ => rfl⟩
      | k_ + 4, h_ => exact absurd h_ (by simp)
    rintro _ a X12 h1 h2 h3 h4 hS
    clear BB
    replace hS : Below X11.heap.size X11 X12 := hS
    have BB := hS
    clear hS
    replace t1 := (h3 1 (by decide)).trans t1
    replace t5 := (h3 5 (by decide)).trans t5
    replace t9 := (h3 9 (by decide)).trans t9
    replace t13 := (h3 13 (by decide)).trans t13
    replace t14 := (h3 14 (by decide)).trans t14
    have t95 : a.eval (.tmp 95) = .bool (decide (i < n - 1)) := h4 3 _ rfl _ rfl
    replace A := (⟨h1, h2.trans A.2⟩ : a.tmps.size = 187 ∧ a.defers = [])
    clear h1 h2 h3 h4
    by_cases hlt : i < n - 1
    · rw [decide_eq_true hlt] at t95
      refine wp_cond_true t95 ?_
      refine wp_skip ?_
      clear t95
      refine wp_seq ?_
      refine wp_block ?_
      have hdl := drD_lt (f := gN f) (n := n) (k := i) (by omega)
      have hrl := rkD_lt (f := gN f) (n := n) (i := i) (by omega)
      obtain ⟨nb, enb⟩ : ∃ nb, n - i = nb := ⟨_, rfl⟩
      have hp1 : 0 < n - 1 := by omega
      have hp2 : 0 < n := by omega
      have hin : i < n := by omega
      have hnb : (n : Int) - (i : Int) = (nb : Int) := by omega
      obtain ⟨xa, xc, ex, -, -, hx⟩ := id Fv29.shape
      obtain ⟨xb, xo, ex2, hxb, hxc⟩ := hx hp1
      clear hx
      rw [ex2] at ex
      have cx : ∀ X, Below X11.heap.size X11 X → X.cell? ⟨xb, xo + i, none⟩ = some (.int .i64 ((drD n (gN f) i : Nat) : Int)) := fun X hX => by rw [cell_below hX hxb, hxc i hlt]
      obtain ⟨ya, yc, ey, -, -, hy⟩ := id Fv41.shape
      obtain ⟨yb, yo, ey2, hyb, hyc⟩ := hy hp2
      clear hy
      rw [ey2] at ey
      have cy : ∀ X, Below X11.heap.size X11 X → X.cell? ⟨yb, yo + i, none⟩ = some (.int .i64 ((rkD (gN f) n i : Nat) : Int)) := fun X hX => by rw [cell_below hX hyb, hyc i hin]
      obtain ⟨za, zc, ez, -, -, hz⟩ := id Fv51.shape
      obtain ⟨zb, zo, ez2, hzb, hzc⟩ := hz hp1
      clear hz
      rw [ez2] at ez
      have cz : ∀ X, Below X11.heap.size X11 X → X.cell? ⟨zb, zo + i, none⟩ = some (.int .i64 ((nb : Nat) : Int)) := fun X hX => by rw [cell_below hX hzb, hzc i hlt]; show some (Value.int .i64 ((n : Int) - (i : Int))) = _; rw [hnb]
      refine wp_seq ?_
      refine wp_region_detA 187 [(0, 98), (1, 99), (2, 100), (3, 101), (4, 102), (5, 103), (6, 104), (7, 105), (8, 106), (9, 107), (10, 108), (11, 109), (12, 110), (13, 111), (14, 112), (15, 113), (16, 114), (17, 115), (18, 116), (19, 117), (20, 118), (21, 119), (22, 120), (23, 121), (24, 122), (25, 123), (26, 124), (27, 125), (28, 126), (29, 127), (30, 128), (31, 129), (32, 130), (33, 131)] (fun i_ => match i_ with | 0 => v29 | 1 => .int .i64 ((i : Nat) : Int) | 2 => .pointer (some ⟨xb, xo + i, none⟩) | 3 => .int .i64 ((drD n (gN f) i : Nat) : Int) | 4 => .bool false | 5 => .bool false | 6 => v29 | 7 => .int .i64 ((i : Nat) : Int) | 8 => .pointer (some ⟨xb, xo + i, none⟩) | 9 => .int .i64 ((drD n (gN f) i : Nat) : Int) | 10 => v51 | 11 => .int .i64 ((i : Nat) : Int) | 12 => .pointer (some ⟨zb, zo + i, none⟩) | 13 => .int .i64 ((nb : Nat) : Int) | 14 => .bool false | 15 => .bool false | 16 => .bool false | 17 => v41 | 18 => .int .i64 ((i : Nat) : Int) | 19 => .pointer (some ⟨yb, yo + i, none⟩) | 20 => .int .i64 ((rkD (gN f) n i : Nat) : Int) | 21 => .bool false | 22 => .bool false | 23 => .bool false | 24 => v41 | 25 => .int .i64 ((i : Nat) : Int) | 26 => .pointer (some ⟨yb, yo + i, none⟩) | 27 => .int .i64 ((rkD (gN f) n i : Nat) : Int) | 28 => v51 | 29 => .int .i64 ((i : Nat) : Int) | 30 => .pointer (some ⟨zb, zo + i, none⟩) | 31 => .int .i64 ((nb : Nat) : Int) | 32 => .bool false | 33 => .bool false | _ => undef) (fun _ X => Below X11.heap.size X11 X) (by kernel_rfl) (by kernel_rfl) A.1 (by kernel_rfl) (by decide) (by decide) BB.drew ?_ ?_
      · intro i_ hi_ l_ a X hl_ hf hdep hl2 hcl hno hT
        match i_, hi_ with
        | 0, _ => exact stepV rfl rfl (execMvB rfl ((hf 5 (by decide)).trans t5)) ⟨⟨_, rfl, rfl⟩, hT⟩
        | 1, _ => exact stepV rfl rfl (execMvB rfl ((hf 14 (by decide)).trans t14)) ⟨⟨_, rfl, rfl⟩, hT⟩
        | 2, _ => exact stepV rfl rfl (execIdxN (k := i) rfl ((hdep _ rfl 0 rfl _ rfl _ rfl).trans ex) (hdep _ rfl 1 rfl _ rfl _ rfl) hlt) ⟨⟨_, rfl, rfl⟩, hT⟩
        | 3, _ => exact stepV rfl rfl (execLd3 rfl (hdep _ rfl 2 rfl _ rfl _ rfl) (cx X hT)) ⟨⟨_, rfl, rfl⟩, hT⟩
        | 4, _ => exact stepV rfl rfl (execDec (execLtW (p := drD n (gN f) i) (q := 0) rfl (hdep _ rfl 3 rfl _ rfl _ rfl) rfl) (decide_eq_false (by omega))) ⟨⟨_, rfl, rfl⟩, hT⟩
        | 5, _ => exact stepV rfl rfl (execMvB rfl (hdep _ rfl 4 rfl _ rfl _ rfl)) ⟨⟨_, rfl, rfl⟩, hT⟩
        | 6, _ => exact stepV rfl (wantedOf rfl (yieldedAt rfl rfl (show a.eval (.tmp 103) = .bool false from (hdep _ rfl 5 rfl _ rfl _ rfl)))) (execMvB rfl ((hf 5 (by decide)).trans t5)) ⟨⟨_, rfl, rfl⟩, hT⟩
        | 7, _ => exact stepV rfl (wantedOf rfl (yieldedAt rfl rfl (show a.eval (.tmp 103) = .bool false from (hdep _ rfl 5 rfl _ rfl _ rfl)))) (execMvB rfl ((hf 14 (by decide)).trans t14)) ⟨⟨_, rfl, rfl⟩, hT⟩
        | 8, _ => exact stepV rfl (wantedOf rfl (yieldedAt rfl rfl (show a.eval (.tmp 103) = .bool false from (hdep _ rfl 5 rfl _ rfl _ rfl)))) (execIdxN (k := i) rfl ((hdep _ rfl 6 rfl _ rfl _ rfl).trans ex) (hdep _ rfl 7 rfl _ rfl _ rfl) hlt) ⟨⟨_, rfl, rfl⟩, hT⟩
        | 9, _ => exact stepV rfl (wantedOf rfl (yieldedAt rfl rfl (show a.eval (.tmp 103) = .bool false from (hdep _ rfl 5 rfl _ rfl _ rfl)))) (execLd3 rfl (hdep _ rfl 8 rfl _ rfl _ rfl) (cx X hT)) ⟨⟨_, rfl, rfl⟩, hT⟩
        | 10, _ => exact stepV rfl (wantedOf rfl (yieldedAt rfl rfl (show a.eval (.tmp 103) = .bool false from (hdep _ rfl 5 rfl _ rfl _ rfl)))) (execMvB rfl ((hf 13 (by decide)).trans t13)) ⟨⟨_, rfl, rfl⟩, hT⟩
        | 11, _ => exact stepV rfl (wantedOf rfl (yieldedAt rfl rfl (show a.eval (.tmp 103) = .bool false from (hdep _ rfl 5 rfl _ rfl _ rfl)))) (execMvB rfl ((hf 14 (by decide)).trans t14)) ⟨⟨_, rfl, rfl⟩, hT⟩
        | 12, _ => exact stepV rfl (wantedOf rfl (yieldedAt rfl rfl (show a.eval (.tmp 103) = .bool false from (hdep _ rfl 5 rfl _ rfl _ rfl)))) (execIdxN (k := i) rfl ((hdep _ rfl 10 rfl _ rfl _ rfl).trans ez) (hdep _ rfl 11 rfl _ rfl _ rfl) hlt) ⟨⟨_, rfl, rfl⟩, hT⟩
        | 13, _ => exact stepV rfl (wantedOf rfl (yieldedAt rfl rfl (show a.eval (.tmp 103) = .bool false from (hdep _ rfl 5 rfl _ rfl _ rfl)))) (execLd3 rfl (hdep _ rfl 12 rfl _ rfl _ rfl) (cz X hT)) ⟨⟨_, rfl, rfl⟩, hT⟩
        | 14, _ => exact stepV rfl (wantedOf rfl (yieldedAt rfl rfl (show a.eval (.tmp 103) = .bool false from (hdep _ rfl 5 rfl _ rfl _ rfl)))) (execDec (execGe8 (p := drD n (gN f) i) (q := nb) rfl (hdep _ rfl 9 rfl _ rfl _ rfl) (hdep _ rfl 13 rfl _ rfl _ rfl)) (decide_eq_false (by omega))) ⟨⟨_, rfl, rfl⟩, hT⟩
        | 15, _ => exact stepV rfl rfl (execPickF rfl (hdep _ rfl 5 rfl _ rfl _ rfl) (hdep _ rfl 14 rfl _ rfl _ rfl)) ⟨⟨_, rfl, rfl⟩, hT⟩
        | 16, _ => exact stepV rfl rfl (execMvB rfl (hdep _ rfl 15 rfl _ rfl _ rfl)) ⟨⟨_, rfl, rfl⟩, hT⟩
        | 17, _ => exact stepV rfl (wantedOf rfl (yieldedAt rfl rfl (show a.eval (.tmp 114) = .bool false from (hdep _ rfl 16 rfl _ rfl _ rfl)))) (execMvB rfl ((hf 9 (by decide)).trans t9)) ⟨⟨_, rfl, rfl⟩, hT⟩
        | 18, _ => exact stepV rfl (wantedOf rfl (yieldedAt rfl rfl (show a.eval (.tmp 114) = .bool false from (hdep _ rfl 16 rfl _ rfl _ rfl)))) (execMvB rfl ((hf 14 (by decide)).trans t14)) ⟨⟨_, rfl, rfl⟩, hT⟩
        | 19, _ => exact stepV rfl (wantedOf rfl (yieldedAt rfl rfl (show a.eval (.tmp 114) = .bool false from (hdep _ rfl 16 rfl _ rfl _ rfl)))) (execIdxN (k := i) rfl ((hdep _ rfl 17 rfl _ rfl _ rfl).trans ey) (hdep _ rfl 18 rfl _ rfl _ rfl) hin) ⟨⟨_, rfl, rfl⟩, hT⟩
        | 20, _ => exact stepV rfl (wantedOf rfl (yieldedAt rfl rfl (show a.eval (.tmp 114) = .bool false from (hdep _ rfl 16 rfl _ rfl _ rfl)))) (execLd3 rfl (hdep _ rfl 19 rfl _ rfl _ rfl) (cy X hT)) ⟨⟨_, rfl, rfl⟩, hT⟩
        | 21, _ => exact stepV rfl (wantedOf rfl (yieldedAt rfl rfl (show a.eval (.tmp 114) = .bool false from (hdep _ rfl 16 rfl _ rfl _ rfl)))) (execDec (execLtW (p := rkD (gN f) n i) (q := 0) rfl (hdep _ rfl 20 rfl _ rfl _ rfl) rfl) (decide_eq_false (by omega))) ⟨⟨_, rfl, rfl⟩, hT⟩
        | 22, _ => exact stepV rfl rfl (execPickF rfl (hdep _ rfl 16 rfl _ rfl _ rfl) (hdep _ rfl 21 rfl _ rfl _ rfl)) ⟨⟨_, rfl, rfl⟩, hT⟩
        | 23, _ => exact stepV rfl rfl (execMvB rfl (hdep _ rfl 22 rfl _ rfl _ rfl)) ⟨⟨_, rfl, rfl⟩, hT⟩
        | 24, _ => exact stepV rfl (wantedOf rfl (yieldedAt rfl rfl (show a.eval (.tmp 121) = .bool false from (hdep _ rfl 23 rfl _ rfl _ rfl)))) (execMvB rfl ((hf 9 (by decide)).trans t9)) ⟨⟨_, rfl, rfl⟩, hT⟩
        | 25, _ => exact stepV rfl (wantedOf rfl (yieldedAt rfl rfl (show a.eval (.tmp 121) = .bool false from (hdep _ rfl 23 rfl _ rfl _ rfl)))) (execMvB rfl ((hf 14 (by decide)).trans t14)) ⟨⟨_, rfl, rfl⟩, hT⟩
        | 26, _ => exact stepV rfl (wantedOf rfl (yieldedAt rfl rfl (show a.eval (.tmp 121) = .bool false from (hdep _ rfl 23 rfl _ rfl _ rfl)))) (execIdxN (k := i) rfl ((hdep _ rfl 24 rfl _ rfl _ rfl).trans ey) (hdep _ rfl 25 rfl _ rfl _ rfl) hin) ⟨⟨_, rfl, rfl⟩, hT⟩
        | 27, _ => exact stepV rfl (wantedOf rfl (yieldedAt rfl rfl (show a.eval (.tmp 121) = .bool false from (hdep _ rfl 23 rfl _ rfl _ rfl)))) (execLd3 rfl (hdep _ rfl 26 rfl _ rfl _ rfl) (cy X hT)) ⟨⟨_, rfl, rfl⟩, hT⟩
        | 28, _ => exact stepV rfl (wantedOf rfl (yieldedAt rfl rfl (show a.eval (.tmp 121) = .bool false from (hdep _ rfl 23 rfl _ rfl _ rfl)))) (execMvB rfl ((hf 13 (by decide)).trans t13)) ⟨⟨_, rfl, rfl⟩, hT⟩
        | 29, _ => exact stepV rfl (wantedOf rfl (yieldedAt rfl rfl (show a.eval (.tmp 121) = .bool false from (hdep _ rfl 23 rfl _ rfl _ rfl)))) (execMvB rfl ((hf 14 (by decide)).trans t14)) ⟨⟨_, rfl, rfl⟩, hT⟩
        | 30, _ => exact stepV rfl (wantedOf rfl (yieldedAt rfl rfl (show a.eval (.tmp 121) = .bool false from (hdep _ rfl 23 rfl _ rfl _ rfl)))) (execIdxN (k := i) rfl ((hdep _ rfl 28 rfl _ rfl _ rfl).trans ez) (hdep _ rfl 29 rfl _ rfl _ rfl) hlt) ⟨⟨_, rfl, rfl⟩, hT⟩
        | 31, _ => exact stepV rfl (wantedOf rfl (yieldedAt rfl rfl (show a.eval (.tmp 121) = .bool false from (hdep _ rfl 23 rfl _ rfl _ rfl)))) (execLd3 rfl (hdep _ rfl 30 rfl _ rfl _ rfl) (cz X hT)) ⟨⟨_, rfl, rfl⟩, hT⟩
        | 32, _ => exact stepV rfl (wantedOf rfl (yieldedAt rfl rfl (show a.eval (.tmp 121) = .bool false from (hdep _ rfl 23 rfl _ rfl _ rfl)))) (execDec (execGe8 (p := rkD (gN f) n i) (q := nb) rfl (hdep _ rfl 27 rfl _ rfl _ rfl) (hdep _ rfl 31 rfl _ rfl _ rfl)) (decide_eq_false (by omega))) ⟨⟨_, rfl, rfl⟩, hT⟩
        | 33, _ => exact stepV rfl rfl (execPickF rfl (hdep _ rfl 23 rfl _ rfl _ rfl) (hdep _ rfl 32 rfl _ rfl _ rfl)) ⟨⟨_, rfl, rfl⟩, hT⟩
        | k_ + 34, h_ => exact absurd h_ (by simp)
      intro l_ a X14 h1 h2 h3 h4 hall hT
      clear hall
      clear BB
      have BB := hT
      clear hT
      replace t1 := (h3 1 (by decide)).trans t1
      replace t5 := (h3 5 (by decide)).trans t5
      replace t9 := (h3 9 (by decide)).trans t9
      replace t13 := (h3 13 (by decide)).trans t13
      replace t14 := (h3 14 (by decide)).trans t14
      have t131 : a.eval (.tmp 131) = .bool false := h4 (33, 131) (by decide)
      replace A := (⟨h1, h2.trans A.2⟩ : a.tmps.size = 187 ∧ a.defers = [])
      clear h1 h2 h3 h4
      refine wp_cond_false t131 ?_
      refine wp_skip ?_
      clear t131
      refine wp_region_sq (σ := Unit) 187 [(0, 96), (1, 97), (2, 14)] (fun j_ s X => match j_ with | 0 => Below X11.heap.size X11 X | 1 => Below X11.heap.size X11 X | 2 => Below X11.heap.size X11 X | _ => Below X11.heap.size X11 X) (fun s => fun i_ => match i_ with | 0 => .int .i64 ((i : Nat) : Int) | 1 => .int .i64 ((i + 1 : Nat) : Int) | 2 => .int .i64 ((i + 1 : Nat) : Int) | _ => undef) () A.1 (by kernel_rfl) (by decide) (by decide) (BB) ?_ ?_
      · intro i_ hi_ s a X hf hv hn hS
        match i_, hi_ with
        | 0, _ => exact stepV rfl rfl (execMvB rfl ((hn 2 (by omega) _ rfl _ rfl).trans t14)) ⟨s, ⟨_, rfl, rfl⟩, hS, fun _ _ => rfl⟩
        | 1, _ => exact stepV rfl rfl (execAd8 (p := i) (q := 1) rfl (hv 0 (by omega) _ rfl _ rfl) rfl (by omega)) ⟨s, ⟨_, rfl, rfl⟩, hS, fun _ _ => rfl⟩
        | 2, _ => exact stepV rfl rfl (execAsgB rfl (hv 1 (by omega) _ rfl _ rfl)) ⟨s, ⟨_, rfl, rfl⟩, hS, fun _ _ => rfl⟩
        | k_ + 3, h_ => exact absurd h_ (by simp)
      rintro _ a X13 h1 h2 h3 h4 hS
      clear BB
      replace hS : Below X11.heap.size X11 X13 := hS
      have BB := hS
      clear hS
      replace t1 := (h3 1 (by decide)).trans t1
      replace t5 := (h3 5 (by decide)).trans t5
      replace t9 := (h3 9 (by decide)).trans t9
      replace t13 := (h3 13 (by decide)).trans t13
      replace t14 : a.eval (.tmp 14) = .int .i64 ((i + 1 : Nat) : Int) := h4 2 _ rfl _ rfl
      replace A := (⟨h1, h2.trans A.2⟩ : a.tmps.size = 187 ∧ a.defers = [])
      clear h1 h2 h3 h4
      exact ⟨⟨i + 1, hlt, A, t1, t5, t9, t13, t14, BB⟩, by show n - 1 - (intOf (a.eval (.tmp 14))).toNat < n - 1 - (intOf (Act.eval _ (.tmp 14))).toNat; rw [t14, e14]; show n - 1 - (i + 1) < n - 1 - i; omega⟩
    · rw [decide_eq_false hlt] at t95
      refine wp_cond_false t95 ?_
      refine wp_exit ?_
      first | refine exit_in ?_ | refine exit_then (exit_in ?_) | refine exit_then (exit_then (exit_in ?_))
      clear t95
      exact one_tail I V X12 d m lv (FI.on BB) hm (BW.trans (BB.mono BW.size)) a A t1
  · refine wp_region_sq (σ := Unit) 187 [(0, 24), (1, 25), (2, 26)] (fun j_ s X => match j_ with | 0 => Below X1.heap.size X1 X | 1 => Below X1.heap.size X1 X | 2 => Below X1.heap.size X1 X | _ => Below X1.heap.size X1 X) (fun s => fun i_ => match i_ with | 0 => pv | 1 => .int .i64 ((pE f n : Nat) : Int) | 2 => .bool false | _ => undef) () A.1 (by kernel_rfl) (by decide) (by decide) (Below.refl _ _) ?_ ?_
    · intro i_ hi_ s a X hf hv hn hS
      match i_, hi_ with
      | 0, _ => exact stepV rfl rfl (execMvB rfl ((hf 0 (by decide)).trans t0)) ⟨s, ⟨_, rfl, rfl⟩, hS, fun _ _ => rfl⟩
      | 1, _ => exact stepC rfl rfl (execCall1 Try.func10 (by kernel_rfl) (by kernel_rfl) rfl (hv 0 (by omega) _ rfl _ rfl)) (I.check f n _ X (FP.on hS) (by omega)) fun e w' hh => ⟨_, hh.1, s, ⟨_, rfl, rfl⟩, (hS).trans ((hh.2).mono (hS).size), fun _ _ => rfl⟩
      | 2, _ => exact stepV rfl rfl (execDec (execEqE (p := pE f n) (q := 0) rfl (hv 1 (by omega) _ rfl _ rfl) rfl) (decide_eq_false (by exact hE))) ⟨s, ⟨_, rfl, rfl⟩, hS, fun _ _ => rfl⟩
      | k_ + 3, h_ => exact absurd h_ (by simp)
    rintro _ a X3 h1 h2 h3 h4 hS
    replace hS : Below X1.heap.size X1 X3 := hS
    have bX := hS
    clear hS
    replace t1 := (h3 1 (by decide)).trans t1
    have t26 : a.eval (.tmp 26) = .bool false := h4 2 _ rfl _ rfl
    replace FP := (FP.on bX)
    replace FI := (FI.on bX)
    have ZX3 := bX.size
    replace BW := BW.trans (bX.mono BW.size)
    clear bX
    replace A := (⟨h1, h2.trans A.2⟩ : a.tmps.size = 187 ∧ a.defers = [])
    clear h1 h2 h3 h4
    clear t0
    refine wp_cond_false t26 ?_
    refine wp_skip ?_
    clear t26
    exact one_tail I V X3 d m lv FI hm BW a A t1
end Go.Proofs.Ythiakjmjpchckaa.Prm
