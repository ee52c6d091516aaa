import Derived.Test.YthiakjmjpchckaaP9j
namespace Go.Proofs.Ythiakjmjpchckaa.Prm
open Go.RowKit Gf8 Aes By8 Cel Cf Tap Drw
/- The law's three; lists of strings; PermGroup over any Impl, ImplS. Written by tools/mkP9k.py. -/

theorem pE_comp {f g : Nat → Int} {n : Nat} (hf : pE f n = 0) (hg : pE g n = 0) : pE (fun j => g (f j).toNat) n = 0 := by
  have h1 := isP_of (pE_0 hf)
  obtain ⟨r1, _⟩ := okQ_iff.1 (pE_0 hf)
  obtain ⟨r2, i2⟩ := okQ_iff.1 (pE_0 hg)
  refine pE_ok (okQ_iff.2 ⟨fun i hi => ?_, fun i j hi hj e => ?_⟩)
  · exact r2 _ (h1.lt i hi)
  · exact h1.inj i j hi hj (i2 _ _ (h1.lt i hi) (h1.lt j hj) e)
theorem pE_id (n : Nat) : pE (fun j => (j : Int)) n = 0 := pE_ok (ok_of (g := fun j => j) ⟨fun _ h => h, fun _ _ _ _ h => h⟩)
theorem pE_inv {f : Nat → Int} {n : Nat} (hf : pE f n = 0) : pE (fun j => (posN (gN f) j n : Int)) n = 0 := pE_ok (ok_of (isP_inv (isP_of (pE_0 hf))))
theorem not_three {f g h : Nat → Int} {n m k : Nat} (h3 : ¬ (pE f n = 0 ∧ pE g m = 0 ∧ pE h k = 0 ∧ n = m ∧ m = k)) (hE : coE f n g m = 0) : coE g m h k ≠ 0 := fun q => by
  obtain ⟨a1, a2, a3⟩ := coE_0 hE
  obtain ⟨b1, b2, b3⟩ := coE_0 q
  exact h3 ⟨a1, a2, b2, a3, b3⟩
/-- A list of strings. -/
structure SliceS (w : World) (v : Value) (len : Nat) (s : Nat → ByteArray) : Prop where
  shape : ∃ a cap, v = .slice a len cap ∧ len ≤ cap ∧ cap ≤ maxLen ∧ (0 < len → ∃ b off, a = some ⟨b, off, none⟩ ∧ b < w.heap.size ∧ ∀ j, j < len → w.cell? ⟨b, off + j, none⟩ = some (.string (s j)))
theorem SliceS.on {w w' : World} {v : Value} {len : Nat} {s : Nat → ByteArray} (h : SliceS w v len s) (hb : Below w.heap.size w w') : SliceS w' v len s := by
  obtain ⟨a, cap, e, h1, h2, h3⟩ := h.shape
  refine ⟨⟨a, cap, e, h1, h2, fun h0 => ?_⟩⟩
  obtain ⟨b, off, e1, e2, e3⟩ := h3 h0
  exact ⟨b, off, e1, Nat.lt_of_lt_of_le e2 hb.size, fun j hj => by rw [cell_below hb e2]; exact e3 j hj⟩
theorem SliceS.shp {w : World} {v : Value} {len : Nat} {s : Nat → ByteArray} (h : SliceS w v len s) : ∃ g c, v = .slice g len c := by
  obtain ⟨a, c, e, _⟩ := h.shape
  exact ⟨a, c, e⟩
def strsL (n : Nat) (s : Nat → ByteArray) : List Value := (List.range n).map fun j => .string (s j)
theorem own_strs {W : World} {B n : Nat} {v : Value} {s : Nat → ByteArray} (h : W.ownsRow B 9 1 v n (strsL n s)) : SliceS W v n s := by
  rcases h.2 with ⟨rfl, rfl⟩ | ⟨g, cap, cur, rfl, _, hg, h1, h2, h3, h4⟩
  · exact ⟨⟨_, _, rfl, Nat.le_refl _, Nat.zero_le _, fun h => by omega⟩⟩
  · refine ⟨⟨_, _, rfl, h1, h2, fun _ => ⟨g, 0, rfl, (Array.getElem?_eq_some_iff.1 hg).1, fun j hj => ?_⟩⟩⟩
    rw [cell_of_row _ _ _ _ _ _ hg, Nat.zero_add, ← Array.getElem?_toList]
    have h5 : (cur.toList.take (n * 1))[j]? = some (.string (s j)) := by rw [h4]; simp [strsL, hj]
    rw [List.getElem?_take_of_lt (by omega)] at h5
    exact h5
section
variable {o : Oper} {a : Act} {w : World}
theorem execLenS {x : Operand} {v : Value} {len : Nat} (ho : o.op = .call { callee := .builtin .len, args := #[x], argTypes := #[38] }) (hx : a.eval x = v) (hs : ∃ g c, v = .slice g len c) : (execOp a.eval o).run Try.prog w = .ok (.value (.int .i64 (len : Int))) w := by
  obtain ⟨g, c, rfl⟩ := hs
  unfold execOp
  simp only [ho, resolve, invoke, builtin, List.map_toArray, List.map_cons, List.map_nil, hx]
  simp [go_sem]
theorem execIdxS {x i : Operand} {b off n cap k : Nat} (ho : o.op = .indexAddr 38 x i) (hx : a.eval x = .slice (some ⟨b, off, none⟩) n cap) (hi : a.eval i = .int .i64 (k : Int)) (hk : k < n) : (execOp a.eval o).run Try.prog w = .ok (.value (.pointer (some ⟨b, off + k, none⟩))) w := by
  have h1 : (k : Int) < n := by omega
  unfold execOp
  simp only [ho, hx, hi]
  simp [go_sem, h1, Addr.add_mid]
end
/-- What the program's Apply of strings keeps. -/
structure ImplS : Prop where
  applyS : ∀ (f : Nat → Int) (s : Nat → ByteArray) (n m : Nat) (v u : Value) (V : World), SliceI V v n f → n ≤ 17592186044416 → SliceS V u m s → m ≤ 17592186044416 →
    Calls Try.prog 31 #[v, u] V fun e w' => ∃ r, e = .returned (.tuple #[r, .int .i64 ((apE f n m : Nat) : Int)]) ∧ w'.ownsRow V.heap.size 9 1 r (zl (apE f n m) n) (strsL (zl (apE f n m) n) (fun j => s (f j).toNat)) ∧ Below V.heap.size V w'
set_option maxRecDepth 100000 in
set_option maxHeartbeats 4000000 in
/-- The law's three. -/
theorem three_any (I : Impl) (f g h : Nat → Int) (n m k : Nat) (pv qv rv : Value) (V : World) (hp0 : SliceI V pv n f) (hn17 : n ≤ 17592186044416) (hq0 : SliceI V qv m g) (hm17 : m ≤ 17592186044416) (hr0 : SliceI V rv k h) (hk17 : k ≤ 17592186044416) :
    Calls Try.prog 30 #[pv, qv, rv] V fun e w' => e = .returned (.bool (decide (pE f n = 0 ∧ pE g m = 0 ∧ pE h k = 0 ∧ n = m ∧ m = k))) ∧ Below V.heap.size V w' := by
  have FP := hp0
  have FQ := hq0
  have FR := hr0
  go_enter Try.func30, Try.ntmps30
  refine wp_seq ?_
  refine wp_region_sqK 34 [(0, 6)] (fun i_ => match i_ with | 0 => .bool false | _ => undef) rfl (by kernel_rfl) (by decide) (by decide) ?_ ?_
  · intro i_ hi_ a hf hv hn
    match i_, hi_ with
    | 0, _ => exact stepV rfl rfl (execAsgB rfl rfl) ⟨⟨_, rfl, rfl⟩, rfl⟩
    | k_ + 1, h_ => exact absurd h_ (by simp)
  intro a h1 h2 h3 h4
  have t0 : a.eval (.tmp 0) = pv := (h3 0 (by decide)).trans rfl
  have t1 : a.eval (.tmp 1) = qv := (h3 1 (by decide)).trans rfl
  have t2 : a.eval (.tmp 2) = rv := (h3 2 (by decide)).trans rfl
  have A : a.tmps.size = 34 ∧ a.defers = [] := ⟨h1, h2⟩
  have BW : Below V.heap.size V V := Below.refl _ _
  clear h1 h2 h3 h4
  by_cases h1 : pE f n = 0
  · by_cases h2 : pE g m = 0
    · by_cases h3 : pE h k = 0
      · by_cases h4 : n = m
        · by_cases h5 : m = k
          · refine wp_seq ?_
            refine wp_region_sq (σ := Unit) 34 [(0, 7), (1, 8), (2, 9), (3, 10), (4, 11), (5, 12), (6, 13), (7, 14), (8, 15), (9, 16), (10, 17), (11, 18), (12, 19), (13, 20), (14, 21), (15, 22), (16, 23), (17, 24), (18, 25), (19, 26), (20, 27), (21, 28), (22, 29), (23, 30), (24, 31), (25, 32), (26, 33), (27, 6)] (fun j_ s X => match j_ with | 0 => Below V.heap.size V X | 1 => Below V.heap.size V X | 2 => Below V.heap.size V X | 3 => Below V.heap.size V X | 4 => Below V.heap.size V X | 5 => Below V.heap.size V X | 6 => Below V.heap.size V X | 7 => Below V.heap.size V X | 8 => Below V.heap.size V X | 9 => Below V.heap.size V X | 10 => Below V.heap.size V X | 11 => Below V.heap.size V X | 12 => Below V.heap.size V X | 13 => Below V.heap.size V X | 14 => Below V.heap.size V X | 15 => Below V.heap.size V X | 16 => Below V.heap.size V X | 17 => Below V.heap.size V X | 18 => Below V.heap.size V X | 19 => Below V.heap.size V X | 20 => Below V.heap.size V X | 21 => Below V.heap.size V X | 22 => Below V.heap.size V X | 23 => Below V.heap.size V X | 24 => Below V.heap.size V X | 25 => Below V.heap.size V X | 26 => Below V.heap.size V X | 27 => Below V.heap.size V X | _ => Below V.heap.size V X) (fun s => fun i_ => match i_ with | 0 => pv | 1 => .int .i64 ((pE f n : Nat) : Int) | 2 => .bool true | 3 => .bool true | 4 => qv | 5 => .int .i64 ((pE g m : Nat) : Int) | 6 => .bool true | 7 => .bool true | 8 => .bool true | 9 => rv | 10 => .int .i64 ((pE h k : Nat) : Int) | 11 => .bool true | 12 => .bool true | 13 => .bool true | 14 => pv | 15 => .int .i64 ((n : Nat) : Int) | 16 => qv | 17 => .int .i64 ((m : Nat) : Int) | 18 => .bool true | 19 => .bool true | 20 => .bool true | 21 => qv | 22 => .int .i64 ((m : Nat) : Int) | 23 => rv | 24 => .int .i64 ((k : Nat) : Int) | 25 => .bool true | 26 => .bool true | 27 => .bool true | _ => undef) () A.1 (by kernel_rfl) (by decide) (by decide) (Below.refl _ _) ?_ ?_
            · intro i_ hi_ s a X hf hv hn hS
              match i_, hi_ with
              | 0, _ => exact stepV rfl rfl (execMvB rfl ((hf 0 (by decide)).trans t0)) ⟨s, ⟨_, rfl, rfl⟩, hS, fun _ _ => rfl⟩
              | 1, _ => exact stepC rfl rfl (execCall1 Try.func10 (by kernel_rfl) (by kernel_rfl) rfl (hv 0 (by omega) _ rfl _ rfl)) (I.check f n _ X (FP.on hS) (by omega)) fun e w' hh => ⟨_, hh.1, s, ⟨_, rfl, rfl⟩, (hS).trans ((hh.2).mono (hS).size), fun _ _ => rfl⟩
              | 2, _ => exact stepV rfl rfl (execDec (execEqE (p := pE f n) (q := 0) rfl (hv 1 (by omega) _ rfl _ rfl) rfl) (decide_eq_true (by exact h1))) ⟨s, ⟨_, rfl, rfl⟩, hS, fun _ _ => rfl⟩
              | 3, _ => exact stepV rfl rfl (execMvB rfl (hv 2 (by omega) _ rfl _ rfl)) ⟨s, ⟨_, rfl, rfl⟩, hS, fun _ _ => rfl⟩
              | 4, _ => exact stepV rfl (wantedOf rfl (yieldedAt rfl rfl (show a.eval (.tmp 10) = .bool true from (hv 3 (by omega) _ rfl _ rfl)))) (execMvB rfl ((hf 1 (by decide)).trans t1)) ⟨s, ⟨_, rfl, rfl⟩, hS, fun _ _ => rfl⟩
              | 5, _ => exact stepC rfl (wantedOf rfl (yieldedAt rfl rfl (show a.eval (.tmp 10) = .bool true from (hv 3 (by omega) _ rfl _ rfl)))) (execCall1 Try.func10 (by kernel_rfl) (by kernel_rfl) rfl (hv 4 (by omega) _ rfl _ rfl)) (I.check g m _ X (FQ.on hS) (by omega)) fun e w' hh => ⟨_, hh.1, s, ⟨_, rfl, rfl⟩, (hS).trans ((hh.2).mono (hS).size), fun _ _ => rfl⟩
              | 6, _ => exact stepV rfl (wantedOf rfl (yieldedAt rfl rfl (show a.eval (.tmp 10) = .bool true from (hv 3 (by omega) _ rfl _ rfl)))) (execDec (execEqE (p := pE g m) (q := 0) rfl (hv 5 (by omega) _ rfl _ rfl) rfl) (decide_eq_true (by exact h2))) ⟨s, ⟨_, rfl, rfl⟩, hS, fun _ _ => rfl⟩
              | 7, _ => exact stepV rfl rfl (execPickT rfl (hv 3 (by omega) _ rfl _ rfl) (hv 6 (by omega) _ rfl _ rfl)) ⟨s, ⟨_, rfl, rfl⟩, hS, fun _ _ => rfl⟩
              | 8, _ => exact stepV rfl rfl (execMvB rfl (hv 7 (by omega) _ rfl _ rfl)) ⟨s, ⟨_, rfl, rfl⟩, hS, fun _ _ => rfl⟩
              | 9, _ => exact stepV rfl (wantedOf rfl (yieldedAt rfl rfl (show a.eval (.tmp 15) = .bool true from (hv 8 (by omega) _ rfl _ rfl)))) (execMvB rfl ((hf 2 (by decide)).trans t2)) ⟨s, ⟨_, rfl, rfl⟩, hS, fun _ _ => rfl⟩
              | 10, _ => exact stepC rfl (wantedOf rfl (yieldedAt rfl rfl (show a.eval (.tmp 15) = .bool true from (hv 8 (by omega) _ rfl _ rfl)))) (execCall1 Try.func10 (by kernel_rfl) (by kernel_rfl) rfl (hv 9 (by omega) _ rfl _ rfl)) (I.check h k _ X (FR.on hS) (by omega)) fun e w' hh => ⟨_, hh.1, s, ⟨_, rfl, rfl⟩, (hS).trans ((hh.2).mono (hS).size), fun _ _ => rfl⟩
              | 11, _ => exact stepV rfl (wantedOf rfl (yieldedAt rfl rfl (show a.eval (.tmp 15) = .bool true from (hv 8 (by omega) _ rfl _ rfl)))) (execDec (execEqE (p := pE h k) (q := 0) rfl (hv 10 (by omega) _ rfl _ rfl) rfl) (decide_eq_true (by exact h3))) ⟨s, ⟨_, rfl, rfl⟩, hS, fun _ _ => rfl⟩
              | 12, _ => exact stepV rfl rfl (execPickT rfl (hv 8 (by omega) _ rfl _ rfl) (hv 11 (by omega) _ rfl _ rfl)) ⟨s, ⟨_, rfl, rfl⟩, hS, fun _ _ => rfl⟩
              | 13, _ => exact stepV rfl rfl (execMvB rfl (hv 12 (by omega) _ rfl _ rfl)) ⟨s, ⟨_, rfl, rfl⟩, hS, fun _ _ => rfl⟩
              | 14, _ => exact stepV rfl (wantedOf rfl (yieldedAt rfl rfl (show a.eval (.tmp 20) = .bool true from (hv 13 (by omega) _ rfl _ rfl)))) (execMvB rfl ((hf 0 (by decide)).trans t0)) ⟨s, ⟨_, rfl, rfl⟩, hS, fun _ _ => rfl⟩
              | 15, _ => exact stepV rfl (wantedOf rfl (yieldedAt rfl rfl (show a.eval (.tmp 20) = .bool true from (hv 13 (by omega) _ rfl _ rfl)))) (execLenI (len := n) rfl (hv 14 (by omega) _ rfl _ rfl) ((FP.on hS)).shp) ⟨s, ⟨_, rfl, rfl⟩, hS, fun _ _ => rfl⟩
              | 16, _ => exact stepV rfl (wantedOf rfl (yieldedAt rfl rfl (show a.eval (.tmp 20) = .bool true from (hv 13 (by omega) _ rfl _ rfl)))) (execMvB rfl ((hf 1 (by decide)).trans t1)) ⟨s, ⟨_, rfl, rfl⟩, hS, fun _ _ => rfl⟩
              | 17, _ => exact stepV rfl (wantedOf rfl (yieldedAt rfl rfl (show a.eval (.tmp 20) = .bool true from (hv 13 (by omega) _ rfl _ rfl)))) (execLenI (len := m) rfl (hv 16 (by omega) _ rfl _ rfl) ((FQ.on hS)).shp) ⟨s, ⟨_, rfl, rfl⟩, hS, fun _ _ => rfl⟩
              | 18, _ => exact stepV rfl (wantedOf rfl (yieldedAt rfl rfl (show a.eval (.tmp 20) = .bool true from (hv 13 (by omega) _ rfl _ rfl)))) (execDec (execEqN (p := n) (q := m) rfl (hv 15 (by omega) _ rfl _ rfl) (hv 17 (by omega) _ rfl _ rfl)) (decide_eq_true (by exact h4))) ⟨s, ⟨_, rfl, rfl⟩, hS, fun _ _ => rfl⟩
              | 19, _ => exact stepV rfl rfl (execPickT rfl (hv 13 (by omega) _ rfl _ rfl) (hv 18 (by omega) _ rfl _ rfl)) ⟨s, ⟨_, rfl, rfl⟩, hS, fun _ _ => rfl⟩
              | 20, _ => exact stepV rfl rfl (execMvB rfl (hv 19 (by omega) _ rfl _ rfl)) ⟨s, ⟨_, rfl, rfl⟩, hS, fun _ _ => rfl⟩
              | 21, _ => exact stepV rfl (wantedOf rfl (yieldedAt rfl rfl (show a.eval (.tmp 27) = .bool true from (hv 20 (by omega) _ rfl _ rfl)))) (execMvB rfl ((hf 1 (by decide)).trans t1)) ⟨s, ⟨_, rfl, rfl⟩, hS, fun _ _ => rfl⟩
              | 22, _ => exact stepV rfl (wantedOf rfl (yieldedAt rfl rfl (show a.eval (.tmp 27) = .bool true from (hv 20 (by omega) _ rfl _ rfl)))) (execLenI (len := m) rfl (hv 21 (by omega) _ rfl _ rfl) ((FQ.on hS)).shp) ⟨s, ⟨_, rfl, rfl⟩, hS, fun _ _ => rfl⟩
              | 23, _ => exact stepV rfl (wantedOf rfl (yieldedAt rfl rfl (show a.eval (.tmp 27) = .bool true from (hv 20 (by omega) _ rfl _ rfl)))) (execMvB rfl ((hf 2 (by decide)).trans t2)) ⟨s, ⟨_, rfl, rfl⟩, hS, fun _ _ => rfl⟩
              | 24, _ => exact stepV rfl (wantedOf rfl (yieldedAt rfl rfl (show a.eval (.tmp 27) = .bool true from (hv 20 (by omega) _ rfl _ rfl)))) (execLenI (len := k) rfl (hv 23 (by omega) _ rfl _ rfl) ((FR.on hS)).shp) ⟨s, ⟨_, rfl, rfl⟩, hS, fun _ _ => rfl⟩
              | 25, _ => exact stepV rfl (wantedOf rfl (yieldedAt rfl rfl (show a.eval (.tmp 27) = .bool true from (hv 20 (by omega) _ rfl _ rfl)))) (execDec (execEqN (p := m) (q := k) rfl (hv 22 (by omega) _ rfl _ rfl) (hv 24 (by omega) _ rfl _ rfl)) (decide_eq_true (by exact h5))) ⟨s, ⟨_, rfl, rfl⟩, hS, fun _ _ => rfl⟩
              | 26, _ => exact stepV rfl rfl (execPickT rfl (hv 20 (by omega) _ rfl _ rfl) (hv 25 (by omega) _ rfl _ rfl)) ⟨s, ⟨_, rfl, rfl⟩, hS, fun _ _ => rfl⟩
              | 27, _ => exact stepV rfl rfl (execAsgB rfl (hv 26 (by omega) _ rfl _ rfl)) ⟨s, ⟨_, rfl, rfl⟩, hS, fun _ _ => rfl⟩
              | k_ + 28, h_ => exact absurd h_ (by simp)
            rintro _ a X1 h1 h2 h3 h4 hS
            replace hS : Below V.heap.size V X1 := hS
            have bX := hS
            clear hS
            have t6 : a.eval (.tmp 6) = .bool true := h4 27 _ rfl _ rfl
            replace FP := (FP.on bX)
            replace FQ := (FQ.on bX)
            replace FR := (FR.on bX)
            have ZX1 := bX.size
            replace BW := BW.trans (bX.mono BW.size)
            clear bX
            replace A := (⟨h1, h2.trans A.2⟩ : a.tmps.size = 34 ∧ a.defers = [])
            clear h1 h2 h3 h4
            clear t0 t1 t2
            rw [decide_eq_true (show _ ∧ _ from ⟨h1, h2, h3, h4, h5⟩)]
            refine wp_ret ?_
            refine bodyPost_ret (results_tmp rfl _ _ _) A.2 ⟨?_, BW⟩
            show Ending.returned (a.eval (.tmp 6)) = _
            rw [t6]
          · refine wp_seq ?_
            refine wp_region_sq (σ := Unit) 34 [(0, 7), (1, 8), (2, 9), (3, 10), (4, 11), (5, 12), (6, 13), (7, 14), (8, 15), (9, 16), (10, 17), (11, 18), (12, 19), (13, 20), (14, 21), (15, 22), (16, 23), (17, 24), (18, 25), (19, 26), (20, 27), (21, 28), (22, 29), (23, 30), (24, 31), (25, 32), (26, 33), (27, 6)] (fun j_ s X => match j_ with | 0 => Below V.heap.size V X | 1 => Below V.heap.size V X | 2 => Below V.heap.size V X | 3 => Below V.heap.size V X | 4 => Below V.heap.size V X | 5 => Below V.heap.size V X | 6 => Below V.heap.size V X | 7 => Below V.heap.size V X | 8 => Below V.heap.size V X | 9 => Below V.heap.size V X | 10 => Below V.heap.size V X | 11 => Below V.heap.size V X | 12 => Below V.heap.size V X | 13 => Below V.heap.size V X | 14 => Below V.heap.size V X | 15 => Below V.heap.size V X | 16 => Below V.heap.size V X | 17 => Below V.heap.size V X | 18 => Below V.heap.size V X | 19 => Below V.heap.size V X | 20 => Below V.heap.size V X | 21 => Below V.heap.size V X | 22 => Below V.heap.size V X | 23 => Below V.heap.size V X | 24 => Below V.heap.size V X | 25 => Below V.heap.size V X | 26 => Below V.heap.size V X | 27 => Below V.heap.size V X | _ => Below V.heap.size V X) (fun s => fun i_ => match i_ with | 0 => pv | 1 => .int .i64 ((pE f n : Nat) : Int) | 2 => .bool true | 3 => .bool true | 4 => qv | 5 => .int .i64 ((pE g m : Nat) : Int) | 6 => .bool true | 7 => .bool true | 8 => .bool true | 9 => rv | 10 => .int .i64 ((pE h k : Nat) : Int) | 11 => .bool true | 12 => .bool true | 13 => .bool true | 14 => pv | 15 => .int .i64 ((n : Nat) : Int) | 16 => qv | 17 => .int .i64 ((m : Nat) : Int) | 18 => .bool true | 19 => .bool true | 20 => .bool true | 21 => qv | 22 => .int .i64 ((m : Nat) : Int) | 23 => rv | 24 => .int .i64 ((k : Nat) : Int) | 25 => .bool false | 26 => .bool false | 27 => .bool false | _ => undef) () A.1 (by kernel_rfl) (by decide) (by decide) (Below.refl _ _) ?_ ?_
            · intro i_ hi_ s a X hf hv hn hS
              match i_, hi_ with
              | 0, _ => exact stepV rfl rfl (execMvB rfl ((hf 0 (by decide)).trans t0)) ⟨s, ⟨_, rfl, rfl⟩, hS, fun _ _ => rfl⟩
              | 1, _ => exact stepC rfl rfl (execCall1 Try.func10 (by kernel_rfl) (by kernel_rfl) rfl (hv 0 (by omega) _ rfl _ rfl)) (I.check f n _ X (FP.on hS) (by omega)) fun e w' hh => ⟨_, hh.1, s, ⟨_, rfl, rfl⟩, (hS).trans ((hh.2).mono (hS).size), fun _ _ => rfl⟩
              | 2, _ => exact stepV rfl rfl (execDec (execEqE (p := pE f n) (q := 0) rfl (hv 1 (by omega) _ rfl _ rfl) rfl) (decide_eq_true (by exact h1))) ⟨s, ⟨_, rfl, rfl⟩, hS, fun _ _ => rfl⟩
              | 3, _ => exact stepV rfl rfl (execMvB rfl (hv 2 (by omega) _ rfl _ rfl)) ⟨s, ⟨_, rfl, rfl⟩, hS, fun _ _ => rfl⟩
              | 4, _ => exact stepV rfl (wantedOf rfl (yieldedAt rfl rfl (show a.eval (.tmp 10) = .bool true from (hv 3 (by omega) _ rfl _ rfl)))) (execMvB rfl ((hf 1 (by decide)).trans t1)) ⟨s, ⟨_, rfl, rfl⟩, hS, fun _ _ => rfl⟩
              | 5, _ => exact stepC rfl (wantedOf rfl (yieldedAt rfl rfl (show a.eval (.tmp 10) = .bool true from (hv 3 (by omega) _ rfl _ rfl)))) (execCall1 Try.func10 (by kernel_rfl) (by kernel_rfl) rfl (hv 4 (by omega) _ rfl _ rfl)) (I.check g m _ X (FQ.on hS) (by omega)) fun e w' hh => ⟨_, hh.1, s, ⟨_, rfl, rfl⟩, (hS).trans ((hh.2).mono (hS).size), fun _ _ => rfl⟩
              | 6, _ => exact stepV rfl (wantedOf rfl (yieldedAt rfl rfl (show a.eval (.tmp 10) = .bool true from (hv 3 (by omega) _ rfl _ rfl)))) (execDec (execEqE (p := pE g m) (q := 0) rfl (hv 5 (by omega) _ rfl _ rfl) rfl) (decide_eq_true (by exact h2))) ⟨s, ⟨_, rfl, rfl⟩, hS, fun _ _ => rfl⟩
              | 7, _ => exact stepV rfl rfl (execPickT rfl (hv 3 (by omega) _ rfl _ rfl) (hv 6 (by omega) _ rfl _ rfl)) ⟨s, ⟨_, rfl, rfl⟩, hS, fun _ _ => rfl⟩
              | 8, _ => exact stepV rfl rfl (execMvB rfl (hv 7 (by omega) _ rfl _ rfl)) ⟨s, ⟨_, rfl, rfl⟩, hS, fun _ _ => rfl⟩
              | 9, _ => exact stepV rfl (wantedOf rfl (yieldedAt rfl rfl (show a.eval (.tmp 15) = .bool true from (hv 8 (by omega) _ rfl _ rfl)))) (execMvB rfl ((hf 2 (by decide)).trans t2)) ⟨s, ⟨_, rfl, rfl⟩, hS, fun _ _ => rfl⟩
              | 10, _ => exact stepC rfl (wantedOf rfl (yieldedAt rfl rfl (show a.eval (.tmp 15) = .bool true from (hv 8 (by omega) _ rfl _ rfl)))) (execCall1 Try.func10 (by kernel_rfl) (by kernel_rfl) rfl (hv 9 (by omega) _ rfl _ rfl)) (I.check h k _ X (FR.on hS) (by omega)) fun e w' hh => ⟨_, hh.1, s, ⟨_, rfl, rfl⟩, (hS).trans ((hh.2).mono (hS).size), fun _ _ => rfl⟩
              | 11, _ => exact stepV rfl (wantedOf rfl (yieldedAt rfl rfl (show a.eval (.tmp 15) = .bool true from (hv 8 (by omega) _ rfl _ rfl)))) (execDec (execEqE (p := pE h k) (q := 0) rfl (hv 10 (by omega) _ rfl _ rfl) rfl) (decide_eq_true (by exact h3))) ⟨s, ⟨_, rfl, rfl⟩, hS, fun _ _ => rfl⟩
              | 12, _ => exact stepV rfl rfl (execPickT rfl (hv 8 (by omega) _ rfl _ rfl) (hv 11 (by omega) _ rfl _ rfl)) ⟨s, ⟨_, rfl, rfl⟩, hS, fun _ _ => rfl⟩
              | 13, _ => exact stepV rfl rfl (execMvB rfl (hv 12 (by omega) _ rfl _ rfl)) ⟨s, ⟨_, rfl, rfl⟩, hS, fun _ _ => rfl⟩
              | 14, _ => exact stepV rfl (wantedOf rfl (yieldedAt rfl rfl (show a.eval (.tmp 20) = .bool true from (hv 13 (by omega) _ rfl _ rfl)))) (execMvB rfl ((hf 0 (by decide)).trans t0)) ⟨s, ⟨_, rfl, rfl⟩, hS, fun _ _ => rfl⟩
              | 15, _ => exact stepV rfl (wantedOf rfl (yieldedAt rfl rfl (show a.eval (.tmp 20) = .bool true from (hv 13 (by omega) _ rfl _ rfl)))) (execLenI (len := n) rfl (hv 14 (by omega) _ rfl _ rfl) ((FP.on hS)).shp) ⟨s, ⟨_, rfl, rfl⟩, hS, fun _ _ => rfl⟩
              | 16, _ => exact stepV rfl (wantedOf rfl (yieldedAt rfl rfl (show a.eval (.tmp 20) = .bool true from (hv 13 (by omega) _ rfl _ rfl)))) (execMvB rfl ((hf 1 (by decide)).trans t1)) ⟨s, ⟨_, rfl, rfl⟩, hS, fun _ _ => rfl⟩
              | 17, _ => exact stepV rfl (wantedOf rfl (yieldedAt rfl rfl (show a.eval (.tmp 20) = .bool true from (hv 13 (by omega) _ rfl _ rfl)))) (execLenI (len := m) rfl (hv 16 (by omega) _ rfl _ rfl) ((FQ.on hS)).shp) ⟨s, ⟨_, rfl, rfl⟩, hS, fun _ _ => rfl⟩
              | 18, _ => exact stepV rfl (wantedOf rfl (yieldedAt rfl rfl (show a.eval (.tmp 20) = .bool true from (hv 13 (by omega) _ rfl _ rfl)))) (execDec (execEqN (p := n) (q := m) rfl (hv 15 (by omega) _ rfl _ rfl) (hv 17 (by omega) _ rfl _ rfl)) (decide_eq_true (by exact h4))) ⟨s, ⟨_, rfl, rfl⟩, hS, fun _ _ => rfl⟩
              | 19, _ => exact stepV rfl rfl (execPickT rfl (hv 13 (by omega) _ rfl _ rfl) (hv 18 (by omega) _ rfl _ rfl)) ⟨s, ⟨_, rfl, rfl⟩, hS, fun _ _ => rfl⟩
              | 20, _ => exact stepV rfl rfl (execMvB rfl (hv 19 (by omega) _ rfl _ rfl)) ⟨s, ⟨_, rfl, rfl⟩, hS, fun _ _ => rfl⟩
              | 21, _ => exact stepV rfl (wantedOf rfl (yieldedAt rfl rfl (show a.eval (.tmp 27) = .bool true from (hv 20 (by omega) _ rfl _ rfl)))) (execMvB rfl ((hf 1 (by decide)).trans t1)) ⟨s, ⟨_, rfl, rfl⟩, hS, fun _ _ => rfl⟩
              | 22, _ => exact stepV rfl (wantedOf rfl (yieldedAt rfl rfl (show a.eval (.tmp 27) = .bool true from (hv 20 (by omega) _ rfl _ rfl)))) (execLenI (len := m) rfl (hv 21 (by omega) _ rfl _ rfl) ((FQ.on hS)).shp) ⟨s, ⟨_, rfl, rfl⟩, hS, fun _ _ => rfl⟩
              | 23, _ => exact stepV rfl (wantedOf rfl (yieldedAt rfl rfl (show a.eval (.tmp 27) = .bool true from (hv 20 (by omega) _ rfl _ rfl)))) (execMvB rfl ((hf 2 (by decide)).trans t2)) ⟨s, ⟨_, rfl, rfl⟩, hS, fun _ _ => rfl⟩
              | 24, _ => exact stepV rfl (wantedOf rfl (yieldedAt rfl rfl (show a.eval (.tmp 27) = .bool true from (hv 20 (by omega) _ rfl _ rfl)))) (execLenI (len := k) rfl (hv 23 (by omega) _ rfl _ rfl) ((FR.on hS)).shp) ⟨s, ⟨_, rfl, rfl⟩, hS, fun _ _ => rfl⟩
              | 25, _ => exact stepV rfl (wantedOf rfl (yieldedAt rfl rfl (show a.eval (.tmp 27) = .bool true from (hv 20 (by omega) _ rfl _ rfl)))) (execDec (execEqN (p := m) (q := k) rfl (hv 22 (by omega) _ rfl _ rfl) (hv 24 (by omega) _ rfl _ rfl)) (decide_eq_false (by exact h5))) ⟨s, ⟨_, rfl, rfl⟩, hS, fun _ _ => rfl⟩
              | 26, _ => exact stepV rfl rfl (execPickT rfl (hv 20 (by omega) _ rfl _ rfl) (hv 25 (by omega) _ rfl _ rfl)) ⟨s, ⟨_, rfl, rfl⟩, hS, fun _ _ => rfl⟩
              | 27, _ => exact stepV rfl rfl (execAsgB rfl (hv 26 (by omega) _ rfl _ rfl)) ⟨s, ⟨_, rfl, rfl⟩, hS, fun _ _ => rfl⟩
              | k_ + 28, h_ => exact absurd h_ (by simp)
            rintro _ a X1 h1 h2 h3 h4 hS
            replace hS : Below V.heap.size V X1 := hS
            have bX := hS
            clear hS
            have t6 : a.eval (.tmp 6) = .bool false := h4 27 _ rfl _ rfl
            replace FP := (FP.on bX)
            replace FQ := (FQ.on bX)
            replace FR := (FR.on bX)
            have ZX1 := bX.size
            replace BW := BW.trans (bX.mono BW.size)
            clear bX
            replace A := (⟨h1, h2.trans A.2⟩ : a.tmps.size = 34 ∧ a.defers = [])
            clear h1 h2 h3 h4
            clear t0 t1 t2
            rw [decide_eq_false (fun q => h5 q.2.2.2.2)]
            refine wp_ret ?_
            refine bodyPost_ret (results_tmp rfl _ _ _) A.2 ⟨?_, BW⟩
            show Ending.returned (a.eval (.tmp 6)) = _
            rw [t6]
        · refine wp_seq ?_
          refine wp_region_sq (σ := Unit) 34 [(0, 7), (1, 8), (2, 9), (3, 10), (4, 11), (5, 12), (6, 13), (7, 14), (8, 15), (9, 16), (10, 17), (11, 18), (12, 19), (13, 20), (14, 21), (15, 22), (16, 23), (17, 24), (18, 25), (19, 26), (20, 27), (21, 28), (22, 29), (23, 30), (24, 31), (25, 32), (26, 33), (27, 6)] (fun j_ s X => match j_ with | 0 => Below V.heap.size V X | 1 => Below V.heap.size V X | 2 => Below V.heap.size V X | 3 => Below V.heap.size V X | 4 => Below V.heap.size V X | 5 => Below V.heap.size V X | 6 => Below V.heap.size V X | 7 => Below V.heap.size V X | 8 => Below V.heap.size V X | 9 => Below V.heap.size V X | 10 => Below V.heap.size V X | 11 => Below V.heap.size V X | 12 => Below V.heap.size V X | 13 => Below V.heap.size V X | 14 => Below V.heap.size V X | 15 => Below V.heap.size V X | 16 => Below V.heap.size V X | 17 => Below V.heap.size V X | 18 => Below V.heap.size V X | 19 => Below V.heap.size V X | 20 => Below V.heap.size V X | 21 => Below V.heap.size V X | 22 => Below V.heap.size V X | 23 => Below V.heap.size V X | 24 => Below V.heap.size V X | 25 => Below V.heap.size V X | 26 => Below V.heap.size V X | 27 => Below V.heap.size V X | _ => Below V.heap.size V X) (fun s => fun i_ => match i_ with | 0 => pv | 1 => .int .i64 ((pE f n : Nat) : Int) | 2 => .bool true | 3 => .bool true | 4 => qv | 5 => .int .i64 ((pE g m : Nat) : Int) | 6 => .bool true | 7 => .bool true | 8 => .bool true | 9 => rv | 10 => .int .i64 ((pE h k : Nat) : Int) | 11 => .bool true | 12 => .bool true | 13 => .bool true | 14 => pv | 15 => .int .i64 ((n : Nat) : Int) | 16 => qv | 17 => .int .i64 ((m : Nat) : Int) | 18 => .bool false | 19 => .bool false | 20 => .bool false | 21 => undef | 22 => undef | 23 => undef | 24 => undef | 25 => undef | 26 => .bool false | 27 => .bool false | _ => undef) () A.1 (by kernel_rfl) (by decide) (by decide) (Below.refl _ _) ?_ ?_
          · intro i_ hi_ s a X hf hv hn hS
            match i_, hi_ with
            | 0, _ => exact stepV rfl rfl (execMvB rfl ((hf 0 (by decide)).trans t0)) ⟨s, ⟨_, rfl, rfl⟩, hS, fun _ _ => rfl⟩
            | 1, _ => exact stepC rfl rfl (execCall1 Try.func10 (by kernel_rfl) (by kernel_rfl) rfl (hv 0 (by omega) _ rfl _ rfl)) (I.check f n _ X (FP.on hS) (by omega)) fun e w' hh => ⟨_, hh.1, s, ⟨_, rfl, rfl⟩, (hS).trans ((hh.2).mono (hS).size), fun _ _ => rfl⟩
            | 2, _ => exact stepV rfl rfl (execDec (execEqE (p := pE f n) (q := 0) rfl (hv 1 (by omega) _ rfl _ rfl) rfl) (decide_eq_true (by exact h1))) ⟨s, ⟨_, rfl, rfl⟩, hS, fun _ _ => rfl⟩
            | 3, _ => exact stepV rfl rfl (execMvB rfl (hv 2 (by omega) _ rfl _ rfl)) ⟨s, ⟨_, rfl, rfl⟩, hS, fun _ _ => rfl⟩
            | 4, _ => exact stepV rfl (wantedOf rfl (yieldedAt rfl rfl (show a.eval (.tmp 10) = .bool true from (hv 3 (by omega) _ rfl _ rfl)))) (execMvB rfl ((hf 1 (by decide)).trans t1)) ⟨s, ⟨_, rfl, rfl⟩, hS, fun _ _ => rfl⟩
            | 5, _ => exact stepC rfl (wantedOf rfl (yieldedAt rfl rfl (show a.eval (.tmp 10) = .bool true from (hv 3 (by omega) _ rfl _ rfl)))) (execCall1 Try.func10 (by kernel_rfl) (by kernel_rfl) rfl (hv 4 (by omega) _ rfl _ rfl)) (I.check g m _ X (FQ.on hS) (by omega)) fun e w' hh => ⟨_, hh.1, s, ⟨_, rfl, rfl⟩, (hS).trans ((hh.2).mono (hS).size), fun _ _ => rfl⟩
            | 6, _ => exact stepV rfl (wantedOf rfl (yieldedAt rfl rfl (show a.eval (.tmp 10) = .bool true from (hv 3 (by omega) _ rfl _ rfl)))) (execDec (execEqE (p := pE g m) (q := 0) rfl (hv 5 (by omega) _ rfl _ rfl) rfl) (decide_eq_true (by exact h2))) ⟨s, ⟨_, rfl, rfl⟩, hS, fun _ _ => rfl⟩
            | 7, _ => exact stepV rfl rfl (execPickT rfl (hv 3 (by omega) _ rfl _ rfl) (hv 6 (by omega) _ rfl _ rfl)) ⟨s, ⟨_, rfl, rfl⟩, hS, fun _ _ => rfl⟩
            | 8, _ => exact stepV rfl rfl (execMvB rfl (hv 7 (by omega) _ rfl _ rfl)) ⟨s, ⟨_, rfl, rfl⟩, hS, fun _ _ => rfl⟩
            | 9, _ => exact stepV rfl (wantedOf rfl (yieldedAt rfl rfl (show a.eval (.tmp 15) = .bool true from (hv 8 (by omega) _ rfl _ rfl)))) (execMvB rfl ((hf 2 (by decide)).trans t2)) ⟨s, ⟨_, rfl, rfl⟩, hS, fun _ _ => rfl⟩
            | 10, _ => exact stepC rfl (wantedOf rfl (yieldedAt rfl rfl (show a.eval (.tmp 15) = .bool true from (hv 8 (by omega) _ rfl _ rfl)))) (execCall1 Try.func10 (by kernel_rfl) (by kernel_rfl) rfl (hv 9 (by omega) _ rfl _ rfl)) (I.check h k _ X (FR.on hS) (by omega)) fun e w' hh => ⟨_, hh.1, s, ⟨_, rfl, rfl⟩, (hS).trans ((hh.2).mono (hS).size), fun _ _ => rfl⟩
            | 11, _ => exact stepV rfl (wantedOf rfl (yieldedAt rfl rfl (show a.eval (.tmp 15) = .bool true from (hv 8 (by omega) _ rfl _ rfl)))) (execDec (execEqE (p := pE h k) (q := 0) rfl (hv 10 (by omega) _ rfl _ rfl) rfl) (decide_eq_true (by exact h3))) ⟨s, ⟨_, rfl, rfl⟩, hS, fun _ _ => rfl⟩
            | 12, _ => exact stepV rfl rfl (execPickT rfl (hv 8 (by omega) _ rfl _ rfl) (hv 11 (by omega) _ rfl _ rfl)) ⟨s, ⟨_, rfl, rfl⟩, hS, fun _ _ => rfl⟩
            | 13, _ => exact stepV rfl rfl (execMvB rfl (hv 12 (by omega) _ rfl _ rfl)) ⟨s, ⟨_, rfl, rfl⟩, hS, fun _ _ => rfl⟩
            | 14, _ => exact stepV rfl (wantedOf rfl (yieldedAt rfl rfl (show a.eval (.tmp 20) = .bool true from (hv 13 (by omega) _ rfl _ rfl)))) (execMvB rfl ((hf 0 (by decide)).trans t0)) ⟨s, ⟨_, rfl, rfl⟩, hS, fun _ _ => rfl⟩
            | 15, _ => exact stepV rfl (wantedOf rfl (yieldedAt rfl rfl (show a.eval (.tmp 20) = .bool true from (hv 13 (by omega) _ rfl _ rfl)))) (execLenI (len := n) rfl (hv 14 (by omega) _ rfl _ rfl) ((FP.on hS)).shp) ⟨s, ⟨_, rfl, rfl⟩, hS, fun _ _ => rfl⟩
            | 16, _ => exact stepV rfl (wantedOf rfl (yieldedAt rfl rfl (show a.eval (.tmp 20) = .bool true from (hv 13 (by omega) _ rfl _ rfl)))) (execMvB rfl ((hf 1 (by decide)).trans t1)) ⟨s, ⟨_, rfl, rfl⟩, hS, fun _ _ => rfl⟩
            | 17, _ => exact stepV rfl (wantedOf rfl (yieldedAt rfl rfl (show a.eval (.tmp 20) = .bool true from (hv 13 (by omega) _ rfl _ rfl)))) (execLenI (len := m) rfl (hv 16 (by omega) _ rfl _ rfl) ((FQ.on hS)).shp) ⟨s, ⟨_, rfl, rfl⟩, hS, fun _ _ => rfl⟩
            | 18, _ => exact stepV rfl (wantedOf rfl (yieldedAt rfl rfl (show a.eval (.tmp 20) = .bool true from (hv 13 (by omega) _ rfl _ rfl)))) (execDec (execEqN (p := n) (q := m) rfl (hv 15 (by omega) _ rfl _ rfl) (hv 17 (by omega) _ rfl _ rfl)) (decide_eq_false (by exact h4))) ⟨s, ⟨_, rfl, rfl⟩, hS, fun _ _ => rfl⟩
            | 19, _ => exact stepV rfl rfl (execPickT rfl (hv 13 (by omega) _ rfl _ rfl) (hv 18 (by omega) _ rfl _ rfl)) ⟨s, ⟨_, rfl, rfl⟩, hS, fun _ _ => rfl⟩
            | 20, _ => exact stepV rfl rfl (execMvB rfl (hv 19 (by omega) _ rfl _ rfl)) ⟨s, ⟨_, rfl, rfl⟩, hS, fun _ _ => rfl⟩
            | 21, _ => exact stepU rfl (unwantedOf rfl (yieldedAt rfl rfl (show a.eval (.tmp 27) = .bool (!true) from (hv 20 (by omega) _ rfl _ rfl)))) ⟨s, ⟨_, rfl, rfl⟩, hS, fun _ _ => rfl⟩
            | 22, _ => exact stepU rfl (unwantedOf rfl (yieldedAt rfl rfl (show a.eval (.tmp 27) = .bool (!true) from (hv 20 (by omega) _ rfl _ rfl)))) ⟨s, ⟨_, rfl, rfl⟩, hS, fun _ _ => rfl⟩
            | 23, _ => exact stepU rfl (unwantedOf rfl (yieldedAt rfl rfl (show a.eval (.tmp 27) = .bool (!true) from (hv 20 (by omega) _ rfl _ rfl)))) ⟨s, ⟨_, rfl, rfl⟩, hS, fun _ _ => rfl⟩
            | 24, _ => exact stepU rfl (unwantedOf rfl (yieldedAt rfl rfl (show a.eval (.tmp 27) = .bool (!true) from (hv 20 (by omega) _ rfl _ rfl)))) ⟨s, ⟨_, rfl, rfl⟩, hS, fun _ _ => rfl⟩
            | 25, _ => exact stepU rfl (unwantedOf rfl (yieldedAt rfl rfl (show a.eval (.tmp 27) = .bool (!true) from (hv 20 (by omega) _ rfl _ rfl)))) ⟨s, ⟨_, rfl, rfl⟩, hS, fun _ _ => rfl⟩
            | 26, _ => exact stepV rfl rfl (execPickF rfl (hv 20 (by omega) _ rfl _ rfl) rfl) ⟨s, ⟨_, rfl, rfl⟩, hS, fun _ _ => rfl⟩
            | 27, _ => exact stepV rfl rfl (execAsgB rfl (hv 26 (by omega) _ rfl _ rfl)) ⟨s, ⟨_, rfl, rfl⟩, hS, fun _ _ => rfl⟩
            | k_ + 28, h_ => exact absurd h_ (by simp)
          rintro _ a X1 h1 h2 h3 h4 hS
          replace hS : Below V.heap.size V X1 := hS
          have bX := hS
          clear hS
          have t6 : a.eval (.tmp 6) = .bool false := h4 27 _ rfl _ rfl
          replace FP := (FP.on bX)
          replace FQ := (FQ.on bX)
          replace FR := (FR.on bX)
          have ZX1 := bX.size
          replace BW := BW.trans (bX.mono BW.size)
          clear bX
          replace A := (⟨h1, h2.trans A.2⟩ : a.tmps.size = 34 ∧ a.defers = [])
          clear h1 h2 h3 h4
          clear t0 t1 t2
          rw [decide_eq_false (fun q => h4 q.2.2.2.1)]
          refine wp_ret ?_
          refine bodyPost_ret (results_tmp rfl _ _ _) A.2 ⟨?_, BW⟩
          show Ending.returned (a.eval (.tmp 6)) = _
          rw [t6]
      · refine wp_seq ?_
        refine wp_region_sq (σ := Unit) 34 [(0, 7), (1, 8), (2, 9), (3, 10), (4, 11), (5, 12), (6, 13), (7, 14), (8, 15), (9, 16), (10, 17), (11, 18), (12, 19), (13, 20), (14, 21), (15, 22), (16, 23), (17, 24), (18, 25), (19, 26), (20, 27), (21, 28), (22, 29), (23, 30), (24, 31), (25, 32), (26, 33), (27, 6)] (fun j_ s X => match j_ with | 0 => Below V.heap.size V X | 1 => Below V.heap.size V X | 2 => Below V.heap.size V X | 3 => Below V.heap.size V X | 4 => Below V.heap.size V X | 5 => Below V.heap.size V X | 6 => Below V.heap.size V X | 7 => Below V.heap.size V X | 8 => Below V.heap.size V X | 9 => Below V.heap.size V X | 10 => Below V.heap.size V X | 11 => Below V.heap.size V X | 12 => Below V.heap.size V X | 13 => Below V.heap.size V X | 14 => Below V.heap.size V X | 15 => Below V.heap.size V X | 16 => Below V.heap.size V X | 17 => Below V.heap.size V X | 18 => Below V.heap.size V X | 19 => Below V.heap.size V X | 20 => Below V.heap.size V X | 21 => Below V.heap.size V X | 22 => Below V.heap.size V X | 23 => Below V.heap.size V X | 24 => Below V.heap.size V X | 25 => Below V.heap.size V X | 26 => Below V.heap.size V X | 27 => Below V.heap.size V X | _ => Below V.heap.size V X) (fun s => fun i_ => match i_ with | 0 => pv | 1 => .int .i64 ((pE f n : Nat) : Int) | 2 => .bool true | 3 => .bool true | 4 => qv | 5 => .int .i64 ((pE g m : Nat) : Int) | 6 => .bool true | 7 => .bool true | 8 => .bool true | 9 => rv | 10 => .int .i64 ((pE h k : Nat) : Int) | 11 => .bool false | 12 => .bool false | 13 => .bool false | 14 => undef | 15 => undef | 16 => undef | 17 => undef | 18 => undef | 19 => .bool false | 20 => .bool false | 21 => undef | 22 => undef | 23 => undef | 24 => undef | 25 => undef | 26 => .bool false | 27 => .bool false | _ => undef) () A.1 (by kernel_rfl) (by decide) (by decide) (Below.refl _ _) ?_ ?_
        · intro i_ hi_ s a X hf hv hn hS
          match i_, hi_ with
          | 0, _ => exact stepV rfl rfl (execMvB rfl ((hf 0 (by decide)).trans t0)) ⟨s, ⟨_, rfl, rfl⟩, hS, fun _ _ => rfl⟩
          | 1, _ => exact stepC rfl rfl (execCall1 Try.func10 (by kernel_rfl) (by kernel_rfl) rfl (hv 0 (by omega) _ rfl _ rfl)) (I.check f n _ X (FP.on hS) (by omega)) fun e w' hh => ⟨_, hh.1, s, ⟨_, rfl, rfl⟩, (hS).trans ((hh.2).mono (hS).size), fun _ _ => rfl⟩
          | 2, _ => exact stepV rfl rfl (execDec (execEqE (p := pE f n) (q := 0) rfl (hv 1 (by omega) _ rfl _ rfl) rfl) (decide_eq_true (by exact h1))) ⟨s, ⟨_, rfl, rfl⟩, hS, fun _ _ => rfl⟩
          | 3, _ => exact stepV rfl rfl (execMvB rfl (hv 2 (by omega) _ rfl _ rfl)) ⟨s, ⟨_, rfl, rfl⟩, hS, fun _ _ => rfl⟩
          | 4, _ => exact stepV rfl (wantedOf rfl (yieldedAt rfl rfl (show a.eval (.tmp 10) = .bool true from (hv 3 (by omega) _ rfl _ rfl)))) (execMvB rfl ((hf 1 (by decide)).trans t1)) ⟨s, ⟨_, rfl, rfl⟩, hS, fun _ _ => rfl⟩
          | 5, _ => exact stepC rfl (wantedOf rfl (yieldedAt rfl rfl (show a.eval (.tmp 10) = .bool true from (hv 3 (by omega) _ rfl _ rfl)))) (execCall1 Try.func10 (by kernel_rfl) (by kernel_rfl) rfl (hv 4 (by omega) _ rfl _ rfl)) (I.check g m _ X (FQ.on hS) (by omega)) fun e w' hh => ⟨_, hh.1, s, ⟨_, rfl, rfl⟩, (hS).trans ((hh.2).mono (hS).size), fun _ _ => rfl⟩
          | 6, _ => exact stepV rfl (wantedOf rfl (yieldedAt rfl rfl (show a.eval (.tmp 10) = .bool true from (hv 3 (by omega) _ rfl _ rfl)))) (execDec (execEqE (p := pE g m) (q := 0) rfl (hv 5 (by omega) _ rfl _ rfl) rfl) (decide_eq_true (by exact h2))) ⟨s, ⟨_, rfl, rfl⟩, hS, fun _ _ => rfl⟩
          | 7, _ => exact stepV rfl rfl (execPickT rfl (hv 3 (by omega) _ rfl _ rfl) (hv 6 (by omega) _ rfl _ rfl)) ⟨s, ⟨_, rfl, rfl⟩, hS, fun _ _ => rfl⟩
          | 8, _ => exact stepV rfl rfl (execMvB rfl (hv 7 (by omega) _ rfl _ rfl)) ⟨s, ⟨_, rfl, rfl⟩, hS, fun _ _ => rfl⟩
          | 9, _ => exact stepV rfl (wantedOf rfl (yieldedAt rfl rfl (show a.eval (.tmp 15) = .bool true from (hv 8 (by omega) _ rfl _ rfl)))) (execMvB rfl ((hf 2 (by decide)).trans t2)) ⟨s, ⟨_, rfl, rfl⟩, hS, fun _ _ => rfl⟩
          | 10, _ => exact stepC rfl (wantedOf rfl (yieldedAt rfl rfl (show a.eval (.tmp 15) = .bool true from (hv 8 (by omega) _ rfl _ rfl)))) (execCall1 Try.func10 (by kernel_rfl) (by kernel_rfl) rfl (hv 9 (by omega) _ rfl _ rfl)) (I.check h k _ X (FR.on hS) (by omega)) fun e w' hh => ⟨_, hh.1, s, ⟨_, rfl, rfl⟩, (hS).trans ((hh.2).mono (hS).size), fun _ _ => rfl⟩
          | 11, _ => exact stepV rfl (wantedOf rfl (yieldedAt rfl rfl (show a.eval (.tmp 15) = .bool true from (hv 8 (by omega) _ rfl _ rfl)))) (execDec (execEqE (p := pE h k) (q := 0) rfl (hv 10 (by omega) _ rfl _ rfl) rfl) (decide_eq_false (by exact h3))) ⟨s, ⟨_, rfl, rfl⟩, hS, fun _ _ => rfl⟩
          | 12, _ => exact stepV rfl rfl (execPickT rfl (hv 8 (by omega) _ rfl _ rfl) (hv 11 (by omega) _ rfl _ rfl)) ⟨s, ⟨_, rfl, rfl⟩, hS, fun _ _ => rfl⟩
          | 13, _ => exact stepV rfl rfl (execMvB rfl (hv 12 (by omega) _ rfl _ rfl)) ⟨s, ⟨_, rfl, rfl⟩, hS, fun _ _ => rfl⟩
          | 14, _ => exact stepU rfl (unwantedOf rfl (yieldedAt rfl rfl (show a.eval (.tmp 20) = .bool (!true) from (hv 13 (by omega) _ rfl _ rfl)))) ⟨s, ⟨_, rfl, rfl⟩, hS, fun _ _ => rfl⟩
          | 15, _ => exact stepU rfl (unwantedOf rfl (yieldedAt rfl rfl (show a.eval (.tmp 20) = .bool (!true) from (hv 13 (by omega) _ rfl _ rfl)))) ⟨s, ⟨_, rfl, rfl⟩, hS, fun _ _ => rfl⟩
          | 16, _ => exact stepU rfl (unwantedOf rfl (yieldedAt rfl rfl (show a.eval (.tmp 20) = .bool (!true) from (hv 13 (by omega) _ rfl _ rfl)))) ⟨s, ⟨_, rfl, rfl⟩, hS, fun _ _ => rfl⟩
          | 17, _ => exact stepU rfl (unwantedOf rfl (yieldedAt rfl rfl (show a.eval (.tmp 20) = .bool (!true) from (hv 13 (by omega) _ rfl _ rfl)))) ⟨s, ⟨_, rfl, rfl⟩, hS, fun _ _ => rfl⟩
          | 18, _ => exact stepU rfl (unwantedOf rfl (yieldedAt rfl rfl (show a.eval (.tmp 20) = .bool (!true) from (hv 13 (by omega) _ rfl _ rfl)))) ⟨s, ⟨_, rfl, rfl⟩, hS, fun _ _ => rfl⟩
          | 19, _ => exact stepV rfl rfl (execPickF rfl (hv 13 (by omega) _ rfl _ rfl) rfl) ⟨s, ⟨_, rfl, rfl⟩, hS, fun _ _ => rfl⟩
          | 20, _ => exact stepV rfl rfl (execMvB rfl (hv 19 (by omega) _ rfl _ rfl)) ⟨s, ⟨_, rfl, rfl⟩, hS, fun _ _ => rfl⟩
          | 21, _ => exact stepU rfl (unwantedOf rfl (yieldedAt rfl rfl (show a.eval (.tmp 27) = .bool (!true) from (hv 20 (by omega) _ rfl _ rfl)))) ⟨s, ⟨_, rfl, rfl⟩, hS, fun _ _ => rfl⟩
          | 22, _ => exact stepU rfl (unwantedOf rfl (yieldedAt rfl rfl (show a.eval (.tmp 27) = .bool (!true) from (hv 20 (by omega) _ rfl _ rfl)))) ⟨s, ⟨_, rfl, rfl⟩, hS, fun _ _ => rfl⟩
          | 23, _ => exact stepU rfl (unwantedOf rfl (yieldedAt rfl rfl (show a.eval (.tmp 27) = .bool (!true) from (hv 20 (by omega) _ rfl _ rfl)))) ⟨s, ⟨_, rfl, rfl⟩, hS, fun _ _ => rfl⟩
          | 24, _ => exact stepU rfl (unwantedOf rfl (yieldedAt rfl rfl (show a.eval (.tmp 27) = .bool (!true) from (hv 20 (by omega) _ rfl _ rfl)))) ⟨s, ⟨_, rfl, rfl⟩, hS, fun _ _ => rfl⟩
          | 25, _ => exact stepU rfl (unwantedOf rfl (yieldedAt rfl rfl (show a.eval (.tmp 27) = .bool (!true) from (hv 20 (by omega) _ rfl _ rfl)))) ⟨s, ⟨_, rfl, rfl⟩, hS, fun _ _ => rfl⟩
          | 26, _ => exact stepV rfl rfl (execPickF rfl (hv 20 (by omega) _ rfl _ rfl) rfl) ⟨s, ⟨_, rfl, rfl⟩, hS, fun _ _ => rfl⟩
          | 27, _ => exact stepV rfl rfl (execAsgB rfl (hv 26 (by omega) _ rfl _ rfl)) ⟨s, ⟨_, rfl, rfl⟩, hS, fun _ _ => rfl⟩
          | k_ + 28, h_ => exact absurd h_ (by simp)
        rintro _ a X1 h1 h2 h3 h4 hS
        replace hS : Below V.heap.size V X1 := hS
        have bX := hS
        clear hS
        have t6 : a.eval (.tmp 6) = .bool false := h4 27 _ rfl _ rfl
        replace FP := (FP.on bX)
        replace FQ := (FQ.on bX)
        replace FR := (FR.on bX)
        have ZX1 := bX.size
        replace BW := BW.trans (bX.mono BW.size)
        clear bX
        replace A := (⟨h1, h2.trans A.2⟩ : a.tmps.size = 34 ∧ a.defers = [])
        clear h1 h2 h3 h4
        clear t0 t1 t2
        rw [decide_eq_false (fun q => h3 q.2.2.1)]
        refine wp_ret ?_
        refine bodyPost_ret (results_tmp rfl _ _ _) A.2 ⟨?_, BW⟩
        show Ending.returned (a.eval (.tmp 6)) = _
        rw [t6]
    · refine wp_seq ?_
      refine wp_region_sq (σ := Unit) 34 [(0, 7), (1, 8), (2, 9), (3, 10), (4, 11), (5, 12), (6, 13), (7, 14), (8, 15), (9, 16), (10, 17), (11, 18), (12, 19), (13, 20), (14, 21), (15, 22), (16, 23), (17, 24), (18, 25), (19, 26), (20, 27), (21, 28), (22, 29), (23, 30), (24, 31), (25, 32), (26, 33), (27, 6)] (fun j_ s X => match j_ with | 0 => Below V.heap.size V X | 1 => Below V.heap.size V X | 2 => Below V.heap.size V X | 3 => Below V.heap.size V X | 4 => Below V.heap.size V X | 5 => Below V.heap.size V X | 6 => Below V.heap.size V X | 7 => Below V.heap.size V X | 8 => Below V.heap.size V X | 9 => Below V.heap.size V X | 10 => Below V.heap.size V X | 11 => Below V.heap.size V X | 12 => Below V.heap.size V X | 13 => Below V.heap.size V X | 14 => Below V.heap.size V X | 15 => Below V.heap.size V X | 16 => Below V.heap.size V X | 17 => Below V.heap.size V X | 18 => Below V.heap.size V X | 19 => Below V.heap.size V X | 20 => Below V.heap.size V X | 21 => Below V.heap.size V X | 22 => Below V.heap.size V X | 23 => Below V.heap.size V X | 24 => Below V.heap.size V X | 25 => Below V.heap.size V X | 26 => Below V.heap.size V X | 27 => Below V.heap.size V X | _ => Below V.heap.size V X) (fun s => fun i_ => match i_ with | 0 => pv | 1 => .int .i64 ((pE f n : Nat) : Int) | 2 => .bool true | 3 => .bool true | 4 => qv | 5 => .int .i64 ((pE g m : Nat) : Int) | 6 => .bool false | 7 => .bool false | 8 => .bool false | 9 => undef | 10 => undef | 11 => undef | 12 => .bool false | 13 => .bool false | 14 => undef | 15 => undef | 16 => undef | 17 => undef | 18 => undef | 19 => .bool false | 20 => .bool false | 21 => undef | 22 => undef | 23 => undef | 24 => undef | 25 => undef | 26 => .bool false | 27 => .bool false | _ => undef) () A.1 (by kernel_rfl) (by decide) (by decide) (Below.refl _ _) ?_ ?_
      · intro i_ hi_ s a X hf hv hn hS
        match i_, hi_ with
        | 0, _ => exact stepV rfl rfl (execMvB rfl ((hf 0 (by decide)).trans t0)) ⟨s, ⟨_, rfl, rfl⟩, hS, fun _ _ => rfl⟩
        | 1, _ => exact stepC rfl rfl (execCall1 Try.func10 (by kernel_rfl) (by kernel_rfl) rfl (hv 0 (by omega) _ rfl _ rfl)) (I.check f n _ X (FP.on hS) (by omega)) fun e w' hh => ⟨_, hh.1, s, ⟨_, rfl, rfl⟩, (hS).trans ((hh.2).mono (hS).size), fun _ _ => rfl⟩
        | 2, _ => exact stepV rfl rfl (execDec (execEqE (p := pE f n) (q := 0) rfl (hv 1 (by omega) _ rfl _ rfl) rfl) (decide_eq_true (by exact h1))) ⟨s, ⟨_, rfl, rfl⟩, hS, fun _ _ => rfl⟩
        | 3, _ => exact stepV rfl rfl (execMvB rfl (hv 2 (by omega) _ rfl _ rfl)) ⟨s, ⟨_, rfl, rfl⟩, hS, fun _ _ => rfl⟩
        | 4, _ => exact stepV rfl (wantedOf rfl (yieldedAt rfl rfl (show a.eval (.tmp 10) = .bool true from (hv 3 (by omega) _ rfl _ rfl)))) (execMvB rfl ((hf 1 (by decide)).trans t1)) ⟨s, ⟨_, rfl, rfl⟩, hS, fun _ _ => rfl⟩
        | 5, _ => exact stepC rfl (wantedOf rfl (yieldedAt rfl rfl (show a.eval (.tmp 10) = .bool true from (hv 3 (by omega) _ rfl _ rfl)))) (execCall1 Try.func10 (by kernel_rfl) (by kernel_rfl) rfl (hv 4 (by omega) _ rfl _ rfl)) (I.check g m _ X (FQ.on hS) (by omega)) fun e w' hh => ⟨_, hh.1, s, ⟨_, rfl, rfl⟩, (hS).trans ((hh.2).mono (hS).size), fun _ _ => rfl⟩
        | 6, _ => exact stepV rfl (wantedOf rfl (yieldedAt rfl rfl (show a.eval (.tmp 10) = .bool true from (hv 3 (by omega) _ rfl _ rfl)))) (execDec (execEqE (p := pE g m) (q := 0) rfl (hv 5 (by omega) _ rfl _ rfl) rfl) (decide_eq_false (by exact h2))) ⟨s, ⟨_, rfl, rfl⟩, hS, fun _ _ => rfl⟩
        | 7, _ => exact stepV rfl rfl (execPickT rfl (hv 3 (by omega) _ rfl _ rfl) (hv 6 (by omega) _ rfl _ rfl)) ⟨s, ⟨_, rfl, rfl⟩, hS, fun _ _ => rfl⟩
        | 8, _ => exact stepV rfl rfl (execMvB rfl (hv 7 (by omega) _ rfl _ rfl)) ⟨s, ⟨_, rfl, rfl⟩, hS, fun _ _ => rfl⟩
        | 9, _ => exact stepU rfl (unwantedOf rfl (yieldedAt rfl rfl (show a.eval (.tmp 15) = .bool (!true) from (hv 8 (by omega) _ rfl _ rfl)))) ⟨s, ⟨_, rfl, rfl⟩, hS, fun _ _ => rfl⟩
        | 10, _ => exact stepU rfl (unwantedOf rfl (yieldedAt rfl rfl (show a.eval (.tmp 15) = .bool (!true) from (hv 8 (by omega) _ rfl _ rfl)))) ⟨s, ⟨_, rfl, rfl⟩, hS, fun _ _ => rfl⟩
        | 11, _ => exact stepU rfl (unwantedOf rfl (yieldedAt rfl rfl (show a.eval (.tmp 15) = .bool (!true) from (hv 8 (by omega) _ rfl _ rfl)))) ⟨s, ⟨_, rfl, rfl⟩, hS, fun _ _ => rfl⟩
        | 12, _ => exact stepV rfl rfl (execPickF rfl (hv 8 (by omega) _ rfl _ rfl) rfl) ⟨s, ⟨_, rfl, rfl⟩, hS, fun _ _ => rfl⟩
        | 13, _ => exact stepV rfl rfl (execMvB rfl (hv 12 (by omega) _ rfl _ rfl)) ⟨s, ⟨_, rfl, rfl⟩, hS, fun _ _ => rfl⟩
        | 14, _ => exact stepU rfl (unwantedOf rfl (yieldedAt rfl rfl (show a.eval (.tmp 20) = .bool (!true) from (hv 13 (by omega) _ rfl _ rfl)))) ⟨s, ⟨_, rfl, rfl⟩, hS, fun _ _ => rfl⟩
        | 15, _ => exact stepU rfl (unwantedOf rfl (yieldedAt rfl rfl (show a.eval (.tmp 20) = .bool (!true) from (hv 13 (by omega) _ rfl _ rfl)))) ⟨s, ⟨_, rfl, rfl⟩, hS, fun _ _ => rfl⟩
        | 16, _ => exact stepU rfl (unwantedOf rfl (yieldedAt rfl rfl (show a.eval (.tmp 20) = .bool (!true) from (hv 13 (by omega) _ rfl _ rfl)))) ⟨s, ⟨_, rfl, rfl⟩, hS, fun _ _ => rfl⟩
        | 17, _ => exact stepU rfl (unwantedOf rfl (yieldedAt rfl rfl (show a.eval (.tmp 20) = .bool (!true) from (hv 13 (by omega) _ rfl _ rfl)))) ⟨s, ⟨_, rfl, rfl⟩, hS, fun _ _ => rfl⟩
        | 18, _ => exact stepU rfl (unwantedOf rfl (yieldedAt rfl rfl (show a.eval (.tmp 20) = .bool (!true) from (hv 13 (by omega) _ rfl _ rfl)))) ⟨s, ⟨_, rfl, rfl⟩, hS, fun _ _ => rfl⟩
        | 19, _ => exact stepV rfl rfl (execPickF rfl (hv 13 (by omega) _ rfl _ rfl) rfl) ⟨s, ⟨_, rfl, rfl⟩, hS, fun _ _ => rfl⟩
        | 20, _ => exact stepV rfl rfl (execMvB rfl (hv 19 (by omega) _ rfl _ rfl)) ⟨s, ⟨_, rfl, rfl⟩, hS, fun _ _ => rfl⟩
        | 21, _ => exact stepU rfl (unwantedOf rfl (yieldedAt rfl rfl (show a.eval (.tmp 27) = .bool (!true) from (hv 20 (by omega) _ rfl _ rfl)))) ⟨s, ⟨_, rfl, rfl⟩, hS, fun _ _ => rfl⟩
        | 22, _ => exact stepU rfl (unwantedOf rfl (yieldedAt rfl rfl (show a.eval (.tmp 27) = .bool (!true) from (hv 20 (by omega) _ rfl _ rfl)))) ⟨s, ⟨_, rfl, rfl⟩, hS, fun _ _ => rfl⟩
        | 23, _ => exact stepU rfl (unwantedOf rfl (yieldedAt rfl rfl (show a.eval (.tmp 27) = .bool (!true) from (hv 20 (by omega) _ rfl _ rfl)))) ⟨s, ⟨_, rfl, rfl⟩, hS, fun _ _ => rfl⟩
        | 24, _ => exact stepU rfl (unwantedOf rfl (yieldedAt rfl rfl (show a.eval (.tmp 27) = .bool (!true) from (hv 20 (by omega) _ rfl _ rfl)))) ⟨s, ⟨_, rfl, rfl⟩, hS, fun _ _ => rfl⟩
        | 25, _ => exact stepU rfl (unwantedOf rfl (yieldedAt rfl rfl (show a.eval (.tmp 27) = .bool (!true) from (hv 20 (by omega) _ rfl _ rfl)))) ⟨s, ⟨_, rfl, rfl⟩, hS, fun _ _ => rfl⟩
        | 26, _ => exact stepV rfl rfl (execPickF rfl (hv 20 (by omega) _ rfl _ rfl) rfl) ⟨s, ⟨_, rfl, rfl⟩, hS, fun _ _ => rfl⟩
        | 27, _ => exact stepV rfl rfl (execAsgB rfl (hv 26 (by omega) _ rfl _ rfl)) ⟨s, ⟨_, rfl, rfl⟩, hS, fun _ _ => rfl⟩
        | k_ + 28, h_ => exact absurd h_ (by simp)
      rintro _ a X1 h1 h2 h3 h4 hS
      replace hS : Below V.heap.size V X1 := hS
      have bX := hS
      clear hS
      have t6 : a.eval (.tmp 6) = .bool false := h4 27 _ rfl _ rfl
      replace FP := (FP.on bX)
      replace FQ := (FQ.on bX)
      replace FR := (FR.on bX)
      have ZX1 := bX.size
      replace BW := BW.trans (bX.mono BW.size)
      clear bX
      replace A := (⟨h1, h2.trans A.2⟩ : a.tmps.size = 34 ∧ a.defers = [])
      clear h1 h2 h3 h4
      clear t0 t1 t2
      rw [decide_eq_false (fun q => h2 q.2.1)]
      refine wp_ret ?_
      refine bodyPost_ret (results_tmp rfl _ _ _) A.2 ⟨?_, BW⟩
      show Ending.returned (a.eval (.tmp 6)) = _
      rw [t6]
  · refine wp_seq ?_
    refine wp_region_sq (σ := Unit) 34 [(0, 7), (1, 8), (2, 9), (3, 10), (4, 11), (5, 12), (6, 13), (7, 14), (8, 15), (9, 16), (10, 17), (11, 18), (12, 19), (13, 20), (14, 21), (15, 22), (16, 23), (17, 24), (18, 25), (19, 26), (20, 27), (21, 28), (22, 29), (23, 30), (24, 31), (25, 32), (26, 33), (27, 6)] (fun j_ s X => match j_ with | 0 => Below V.heap.size V X | 1 => Below V.heap.size V X | 2 => Below V.heap.size V X | 3 => Below V.heap.size V X | 4 => Below V.heap.size V X | 5 => Below V.heap.size V X | 6 => Below V.heap.size V X | 7 => Below V.heap.size V X | 8 => Below V.heap.size V X | 9 => Below V.heap.size V X | 10 => Below V.heap.size V X | 11 => Below V.heap.size V X | 12 => Below V.heap.size V X | 13 => Below V.heap.size V X | 14 => Below V.heap.size V X | 15 => Below V.heap.size V X | 16 => Below V.heap.size V X | 17 => Below V.heap.size V X | 18 => Below V.heap.size V X | 19 => Below V.heap.size V X | 20 => Below V.heap.size V X | 21 => Below V.heap.size V X | 22 => Below V.heap.size V X | 23 => Below V.heap.size V X | 24 => Below V.heap.size V X | 25 => Below V.heap.size V X | 26 => Below V.heap.size V X | 27 => Below V.heap.size V X | _ => Below V.heap.size V X) (fun s => fun i_ => match i_ with | 0 => pv | 1 => .int .i64 ((pE f n : Nat) : Int) | 2 => .bool false | 3 => .bool false | 4 => undef | 5 => undef | 6 => undef | 7 => .bool false | 8 => .bool false | 9 => undef | 10 => undef | 11 => undef | 12 => .bool false | 13 => .bool false | 14 => undef | 15 => undef | 16 => undef | 17 => undef | 18 => undef | 19 => .bool false | 20 => .bool false | 21 => undef | 22 => undef | 23 => undef | 24 => undef | 25 => undef | 26 => .bool false | 27 => .bool false | _ => undef) () A.1 (by kernel_rfl) (by decide) (by decide) (Below.refl _ _) ?_ ?_
    · intro i_ hi_ s a X hf hv hn hS
      match i_, hi_ with
      | 0, _ => exact stepV rfl rfl (execMvB rfl ((hf 0 (by decide)).trans t0)) ⟨s, ⟨_, rfl, rfl⟩, hS, fun _ _ => rfl⟩
      | 1, _ => exact stepC rfl rfl (execCall1 Try.func10 (by kernel_rfl) (by kernel_rfl) rfl (hv 0 (by omega) _ rfl _ rfl)) (I.check f n _ X (FP.on hS) (by omega)) fun e w' hh => ⟨_, hh.1, s, ⟨_, rfl, rfl⟩, (hS).trans ((hh.2).mono (hS).size), fun _ _ => rfl⟩
      | 2, _ => exact stepV rfl rfl (execDec (execEqE (p := pE f n) (q := 0) rfl (hv 1 (by omega) _ rfl _ rfl) rfl) (decide_eq_false (by exact h1))) ⟨s, ⟨_, rfl, rfl⟩, hS, fun _ _ => rfl⟩
      | 3, _ => exact stepV rfl rfl (execMvB rfl (hv 2 (by omega) _ rfl _ rfl)) ⟨s, ⟨_, rfl, rfl⟩, hS, fun _ _ => rfl⟩
      | 4, _ => exact stepU rfl (unwantedOf rfl (yieldedAt rfl rfl (show a.eval (.tmp 10) = .bool (!true) from (hv 3 (by omega) _ rfl _ rfl)))) ⟨s, ⟨_, rfl, rfl⟩, hS, fun _ _ => rfl⟩
      | 5, _ => exact stepU rfl (unwantedOf rfl (yieldedAt rfl rfl (show a.eval (.tmp 10) = .bool (!true) from (hv 3 (by omega) _ rfl _ rfl)))) ⟨s, ⟨_, rfl, rfl⟩, hS, fun _ _ => rfl⟩
      | 6, _ => exact stepU rfl (unwantedOf rfl (yieldedAt rfl rfl (show a.eval (.tmp 10) = .bool (!true) from (hv 3 (by omega) _ rfl _ rfl)))) ⟨s, ⟨_, rfl, rfl⟩, hS, fun _ _ => rfl⟩
      | 7, _ => exact stepV rfl rfl (execPickF rfl (hv 3 (by omega) _ rfl _ rfl) rfl) ⟨s, ⟨_, rfl, rfl⟩, hS, fun _ _ => rfl⟩
      | 8, _ => exact stepV rfl rfl (execMvB rfl (hv 7 (by omega) _ rfl _ rfl)) ⟨s, ⟨_, rfl, rfl⟩, hS, fun _ _ => rfl⟩
      | 9, _ => exact stepU rfl (unwantedOf rfl (yieldedAt rfl rfl (show a.eval (.tmp 15) = .bool (!true) from (hv 8 (by omega) _ rfl _ rfl)))) ⟨s, ⟨_, rfl, rfl⟩, hS, fun _ _ => rfl⟩
      | 10, _ => exact stepU rfl (unwantedOf rfl (yieldedAt rfl rfl (show a.eval (.tmp 15) = .bool (!true) from (hv 8 (by omega) _ rfl _ rfl)))) ⟨s, ⟨_, rfl, rfl⟩, hS, fun _ _ => rfl⟩
      | 11, _ => exact stepU rfl (unwantedOf rfl (yieldedAt rfl rfl (show a.eval (.tmp 15) = .bool (!true) from (hv 8 (by omega) _ rfl _ rfl)))) ⟨s, ⟨_, rfl, rfl⟩, hS, fun _ _ => rfl⟩
      | 12, _ => exact stepV rfl rfl (execPickF rfl (hv 8 (by omega) _ rfl _ rfl) rfl) ⟨s, ⟨_, rfl, rfl⟩, hS, fun _ _ => rfl⟩
      | 13, _ => exact stepV rfl rfl (execMvB rfl (hv 12 (by omega) _ rfl _ rfl)) ⟨s, ⟨_, rfl, rfl⟩, hS, fun _ _ => rfl⟩
      | 14, _ => exact stepU rfl (unwantedOf rfl (yieldedAt rfl rfl (show a.eval (.tmp 20) = .bool (!true) from (hv 13 (by omega) _ rfl _ rfl)))) ⟨s, ⟨_, rfl, rfl⟩, hS, fun _ _ => rfl⟩
      | 15, _ => exact stepU rfl (unwantedOf rfl (yieldedAt rfl rfl (show a.eval (.tmp 20) = .bool (!true) from (hv 13 (by omega) _ rfl _ rfl)))) ⟨s, ⟨_, rfl, rfl⟩, hS, fun _ _ => rfl⟩
      | 16, _ => exact stepU rfl (unwantedOf rfl (yieldedAt rfl rfl (show a.eval (.tmp 20) = .bool (!true) from (hv 13 (by omega) _ rfl _ rfl)))) ⟨s, ⟨_, rfl, rfl⟩, hS, fun _ _ => rfl⟩
      | 17, _ => exact stepU rfl (unwantedOf rfl (yieldedAt rfl rfl (show a.eval (.tmp 20) = .bool (!true) from (hv 13 (by omega) _ rfl _ rfl)))) ⟨s, ⟨_, rfl, rfl⟩, hS, fun _ _ => rfl⟩
      | 18, _ => exact stepU rfl (unwantedOf rfl (yieldedAt rfl rfl (show a.eval (.tmp 20) = .bool (!true) from (hv 13 (by omega) _ rfl _ rfl)))) ⟨s, ⟨_, rfl, rfl⟩, hS, fun _ _ => rfl⟩
      | 19, _ => exact stepV rfl rfl (execPickF rfl (hv 13 (by omega) _ rfl _ rfl) rfl) ⟨s, ⟨_, rfl, rfl⟩, hS, fun _ _ => rfl⟩
      | 20, _ => exact stepV rfl rfl (execMvB rfl (hv 19 (by omega) _ rfl _ rfl)) ⟨s, ⟨_, rfl, rfl⟩, hS, fun _ _ => rfl⟩
      | 21, _ => exact stepU rfl (unwantedOf rfl (yieldedAt rfl rfl (show a.eval (.tmp 27) = .bool (!true) from (hv 20 (by omega) _ rfl _ rfl)))) ⟨s, ⟨_, rfl, rfl⟩, hS, fun _ _ => rfl⟩
      | 22, _ => exact stepU rfl (unwantedOf rfl (yieldedAt rfl rfl (show a.eval (.tmp 27) = .bool (!true) from (hv 20 (by omega) _ rfl _ rfl)))) ⟨s, ⟨_, rfl, rfl⟩, hS, fun _ _ => rfl⟩
      | 23, _ => exact stepU rfl (unwantedOf rfl (yieldedAt rfl rfl (show a.eval (.tmp 27) = .bool (!true) from (hv 20 (by omega) _ rfl _ rfl)))) ⟨s, ⟨_, rfl, rfl⟩, hS, fun _ _ => rfl⟩
      | 24, _ => exact stepU rfl (unwantedOf rfl (yieldedAt rfl rfl (show a.eval (.tmp 27) = .bool (!true) from (hv 20 (by omega) _ rfl _ rfl)))) ⟨s, ⟨_, rfl, rfl⟩, hS, fun _ _ => rfl⟩
      | 25, _ => exact stepU rfl (unwantedOf rfl (yieldedAt rfl rfl (show a.eval (.tmp 27) = .bool (!true) from (hv 20 (by omega) _ rfl _ rfl)))) ⟨s, ⟨_, rfl, rfl⟩, hS, fun _ _ => rfl⟩
      | 26, _ => exact stepV rfl rfl (execPickF rfl (hv 20 (by omega) _ rfl _ rfl) rfl) ⟨s, ⟨_, rfl, rfl⟩, hS, fun _ _ => rfl⟩
      | 27, _ => exact stepV rfl rfl (execAsgB rfl (hv 26 (by omega) _ rfl _ rfl)) ⟨s, ⟨_, rfl, rfl⟩, hS, fun _ _ => rfl⟩
      | k_ + 28, h_ => exact absurd h_ (by simp)
    rintro _ a X1 h1 h2 h3 h4 hS
    replace hS : Below V.heap.size V X1 := hS
    have bX := hS
    clear hS
    have t6 : a.eval (.tmp 6) = .bool false := h4 27 _ rfl _ rfl
    replace FP := (FP.on bX)
    replace FQ := (FQ.on bX)
    replace FR := (FR.on bX)
    have ZX1 := bX.size
    replace BW := BW.trans (bX.mono BW.size)
    clear bX
    replace A := (⟨h1, h2.trans A.2⟩ : a.tmps.size = 34 ∧ a.defers = [])
    clear h1 h2 h3 h4
    clear t0 t1 t2
    rw [decide_eq_false (fun q => h1 q.1)]
    refine wp_ret ?_
    refine bodyPost_ret (results_tmp rfl _ _ _) A.2 ⟨?_, BW⟩
    show Ending.returned (a.eval (.tmp 6)) = _
    rw [t6]
set_option maxRecDepth 100000 in
set_option maxHeartbeats 4000000 in
theorem group_tail (J : ImplS) (V S : World) (f g : Nat → Int) (sf : Nat → ByteArray) (n m : Nat) (pv qv sv pqv iv_ : Value) (hf : pE f n = 0) (hg : pE g n = 0) (hn17 : n ≤ 17592186044416) (hm17 : m ≤ 17592186044416) (FP : SliceI S pv n f) (FQ : SliceI S qv n g) (FXs : SliceS S sv m sf) (FPQ : SliceI S pqv n (fun j => g (f j).toNat)) (FIN : SliceI S iv_ n (fun j => (posN (gN f) j n : Int))) (BW : Below V.heap.size V S)
    (a : Act) (A : a.tmps.size = 267 ∧ a.defers = []) (t0 : a.eval (.tmp 0) = pv) (t1 : a.eval (.tmp 1) = qv) (t3 : a.eval (.tmp 3) = sv) (t13 : a.eval (.tmp 13) = pqv) (t26 : a.eval (.tmp 26) = iv_) :
    (findR 19 (Try.f6.body.getD .skip)).wp Try.prog (bodyPost Try.prog Try.f6 fun e w' => e = .returned (.bool true) ∧ Below V.heap.size V w') a S := by
  have hP : IsP (gN f) n := isP_of (pE_0 hf)
  have hpqE := pE_comp hf hg
  have hinE := pE_inv hf
  refine wp_seq ?_
  refine wp_region_sq (σ := Value) 267 [(0, 171), (1, 172), (2, 173), (3, 170), (4, 174), (5, 175), (6, 32), (7, 18)] (fun j_ s X => match j_ with | 0 => Below S.heap.size S X | 1 => Below S.heap.size S X | 2 => Below S.heap.size S X | 3 => Below S.heap.size S X ∧ (SliceS X s (zl (apE g n m) n) (fun j => sf (g j).toNat)) | 4 => Below S.heap.size S X ∧ (SliceS X s (zl (apE g n m) n) (fun j => sf (g j).toNat)) | 5 => Below S.heap.size S X ∧ (SliceS X s (zl (apE g n m) n) (fun j => sf (g j).toNat)) | 6 => Below S.heap.size S X ∧ (SliceS X s (zl (apE g n m) n) (fun j => sf (g j).toNat)) | 7 => Below S.heap.size S X ∧ (SliceS X s (zl (apE g n m) n) (fun j => sf (g j).toNat)) | _ => Below S.heap.size S X ∧ (SliceS X s (zl (apE g n m) n) (fun j => sf (g j).toNat))) (fun s => fun i_ => match i_ with | 0 => qv | 1 => sv | 2 => .tuple #[s, .int .i64 ((apE g n m : Nat) : Int)] | 3 => .tuple #[s, .int .i64 ((apE g n m : Nat) : Int)] | 4 => s | 5 => .int .i64 ((apE g n m : Nat) : Int) | 6 => s | 7 => .int .i64 ((apE g n m : Nat) : Int) | _ => undef) undef A.1 (by kernel_rfl) (by decide) (by decide) (Below.refl _ _) ?_ ?_
  · intro i_ hi_ s a X hf hv hn hS
    match i_, hi_ with
    | 0, _ => exact stepV rfl rfl (execMvB rfl ((hf 1 (by decide)).trans t1)) ⟨s, ⟨_, rfl, rfl⟩, hS, fun _ _ => rfl⟩
    | 1, _ => exact stepV rfl rfl (execMvB rfl ((hf 3 (by decide)).trans t3)) ⟨s, ⟨_, rfl, rfl⟩, hS, fun _ _ => rfl⟩
    | 2, _ =>
      refine stepC rfl rfl (execCall2 Try.func31 (by kernel_rfl) (by kernel_rfl) rfl (hv 0 (by omega) _ rfl _ rfl) (hv 1 (by omega) _ rfl _ rfl)) (J.applyS g sf n m _ _ X (FQ.on hS) (by omega) (FXs.on hS) (by omega)) fun e w' hh => ?_
      obtain ⟨r_, he, hk, hb⟩ := hh
      refine ⟨_, he, r_, ⟨_, rfl, rfl⟩, ⟨(hS).trans ((hb).mono (hS).size), own_strs hk⟩, fun i hi => ?_⟩
      match i, hi with
      | 0, _ => rfl
      | 1, _ => rfl
      | n_ + 2, h_ => omega
    | 3, _ => exact stepV rfl rfl (execMvB rfl (hv 2 (by omega) _ rfl _ rfl)) ⟨s, ⟨_, rfl, rfl⟩, hS, fun _ _ => rfl⟩
    | 4, _ => exact stepV rfl rfl (execExtT rfl (hv 3 (by omega) _ rfl _ rfl) rfl) ⟨s, ⟨_, rfl, rfl⟩, hS, fun _ _ => rfl⟩
    | 5, _ => exact stepV rfl rfl (execExtT rfl (hv 3 (by omega) _ rfl _ rfl) rfl) ⟨s, ⟨_, rfl, rfl⟩, hS, fun _ _ => rfl⟩
    | 6, _ => exact stepV rfl rfl (execAsgB rfl (hv 4 (by omega) _ rfl _ rfl)) ⟨s, ⟨_, rfl, rfl⟩, hS, fun _ _ => rfl⟩
    | 7, _ => exact stepV rfl rfl (execAsgB rfl (hv 5 (by omega) _ rfl _ rfl)) ⟨s, ⟨_, rfl, rfl⟩, hS, fun _ _ => rfl⟩
    | k_ + 8, h_ => exact absurd h_ (by simp)
  rintro v173 a X19 h1 h2 h3 h4 hS
  replace hS : Below S.heap.size S X19 ∧ (SliceS X19 v173 (zl (apE g n m) n) (fun j => sf (g j).toNat)) := hS
  obtain ⟨bX, Fv173⟩ := hS
  replace t0 := (h3 0 (by decide)).trans t0
  replace t1 := (h3 1 (by decide)).trans t1
  replace t3 := (h3 3 (by decide)).trans t3
  replace t13 := (h3 13 (by decide)).trans t13
  replace t26 := (h3 26 (by decide)).trans t26
  have t32 : a.eval (.tmp 32) = v173 := h4 6 _ rfl _ rfl
  have t18 : a.eval (.tmp 18) = .int .i64 ((apE g n m : Nat) : Int) := h4 7 _ rfl _ rfl
  replace FP := (FP.on bX)
  replace FQ := (FQ.on bX)
  replace FXs := (FXs.on bX)
  replace FPQ := (FPQ.on bX)
  replace FIN := (FIN.on bX)
  have ZX19 := bX.size
  replace BW := BW.trans (bX.mono BW.size)
  clear bX
  replace A := (⟨h1, h2.trans A.2⟩ : a.tmps.size = 267 ∧ a.defers = [])
  clear h1 h2 h3 h4
  refine wp_seq ?_
  refine wp_seq ?_
  by_cases hnm : n = m
  · subst hnm
    have e1 : apE g n n = 0 := if_pos ⟨hg, rfl⟩
    rw [e1, zl_ok] at Fv173
    rw [e1] at t18
    refine wp_region_sq (σ := Unit) 267 [(0, 176), (1, 177), (2, 178), (3, 179), (4, 180)] (fun j_ s X => match j_ with | 0 => Below X19.heap.size X19 X | 1 => Below X19.heap.size X19 X | 2 => Below X19.heap.size X19 X | 3 => Below X19.heap.size X19 X | 4 => Below X19.heap.size X19 X | _ => Below X19.heap.size X19 X) (fun s => fun i_ => match i_ with | 0 => sv | 1 => .int .i64 ((n : Nat) : Int) | 2 => pv | 3 => .int .i64 ((n : Nat) : Int) | 4 => .bool false | _ => undef) () A.1 (by kernel_rfl) (by decide) (by decide) (Below.refl _ _) ?_ ?_
    · intro i_ hi_ s a X hf hv hn hS
      match i_, hi_ with
      | 0, _ => exact stepV rfl rfl (execMvB rfl ((hf 3 (by decide)).trans t3)) ⟨s, ⟨_, rfl, rfl⟩, hS, fun _ _ => rfl⟩
      | 1, _ => exact stepV rfl rfl (execLenS (len := n) rfl (hv 0 (by omega) _ rfl _ rfl) ((FXs.on hS)).shp) ⟨s, ⟨_, rfl, rfl⟩, hS, fun _ _ => rfl⟩
      | 2, _ => exact stepV rfl rfl (execMvB rfl ((hf 0 (by decide)).trans t0)) ⟨s, ⟨_, rfl, rfl⟩, hS, fun _ _ => rfl⟩
      | 3, _ => exact stepV rfl rfl (execLenI (len := n) rfl (hv 2 (by omega) _ rfl _ rfl) ((FP.on hS)).shp) ⟨s, ⟨_, rfl, rfl⟩, hS, fun _ _ => rfl⟩
      | 4, _ => exact stepV rfl rfl (execDec (execNeN (p := n) (q := n) rfl (hv 1 (by omega) _ rfl _ rfl) (hv 3 (by omega) _ rfl _ rfl)) (decide_eq_false (by omega))) ⟨s, ⟨_, rfl, rfl⟩, hS, fun _ _ => rfl⟩
      | k_ + 5, h_ => exact absurd h_ (by simp)
    rintro _ a X20 h1 h2 h3 h4 hS
    replace hS : Below X19.heap.size X19 X20 := hS
    have bX := hS
    clear hS
    replace t0 := (h3 0 (by decide)).trans t0
    replace t1 := (h3 1 (by decide)).trans t1
    replace t3 := (h3 3 (by decide)).trans t3
    replace t13 := (h3 13 (by decide)).trans t13
    replace t26 := (h3 26 (by decide)).trans t26
    replace t32 := (h3 32 (by decide)).trans t32
    replace t18 := (h3 18 (by decide)).trans t18
    have t180 : a.eval (.tmp 180) = .bool false := h4 4 _ rfl _ rfl
    replace FP := (FP.on bX)
    replace FQ := (FQ.on bX)
    replace FXs := (FXs.on bX)
    replace FPQ := (FPQ.on bX)
    replace FIN := (FIN.on bX)
    replace Fv173 := (Fv173.on bX)
    have ZX20 := bX.size
    replace BW := BW.trans (bX.mono BW.size)
    clear bX
    replace A := (⟨h1, h2.trans A.2⟩ : a.tmps.size = 267 ∧ a.defers = [])
    clear h1 h2 h3 h4
    refine wp_cond_false t180 ?_
    refine wp_skip ?_
    clear t180
    refine wp_seq ?_
    refine wp_region_sq (σ := Value) 267 [(0, 189), (1, 190), (2, 191), (3, 188), (4, 192), (5, 193), (6, 33), (7, 20)] (fun j_ s X => match j_ with | 0 => Below X20.heap.size X20 X | 1 => Below X20.heap.size X20 X | 2 => Below X20.heap.size X20 X | 3 => Below X20.heap.size X20 X ∧ (SliceS X s (zl (apE f n n) n) (fun j => (fun j => sf (g j).toNat) (f j).toNat)) | 4 => Below X20.heap.size X20 X ∧ (SliceS X s (zl (apE f n n) n) (fun j => (fun j => sf (g j).toNat) (f j).toNat)) | 5 => Below X20.heap.size X20 X ∧ (SliceS X s (zl (apE f n n) n) (fun j => (fun j => sf (g j).toNat) (f j).toNat)) | 6 => Below X20.heap.size X20 X ∧ (SliceS X s (zl (apE f n n) n) (fun j => (fun j => sf (g j).toNat) (f j).toNat)) | 7 => Below X20.heap.size X20 X ∧ (SliceS X s (zl (apE f n n) n) (fun j => (fun j => sf (g j).toNat) (f j).toNat)) | _ => Below X20.heap.size X20 X ∧ (SliceS X s (zl (apE f n n) n) (fun j => (fun j => sf (g j).toNat) (f j).toNat))) (fun s => fun i_ => match i_ with | 0 => pv | 1 => v173 | 2 => .tuple #[s, .int .i64 ((apE f n n : Nat) : Int)] | 3 => .tuple #[s, .int .i64 ((apE f n n : Nat) : Int)] | 4 => s | 5 => .int .i64 ((apE f n n : Nat) : Int) | 6 => s | 7 => .int .i64 ((apE f n n : Nat) : Int) | _ => undef) undef A.1 (by kernel_rfl) (by decide) (by decide) (Below.refl _ _) ?_ ?_
    · intro i_ hi_ s a X hf hv hn hS
      match i_, hi_ with
      | 0, _ => exact stepV rfl rfl (execMvB rfl ((hf 0 (by decide)).trans t0)) ⟨s, ⟨_, rfl, rfl⟩, hS, fun _ _ => rfl⟩
      | 1, _ => exact stepV rfl rfl (execMvB rfl ((hf 32 (by decide)).trans t32)) ⟨s, ⟨_, rfl, rfl⟩, hS, fun _ _ => rfl⟩
      | 2, _ =>
        refine stepC rfl rfl (execCall2 Try.func31 (by kernel_rfl) (by kernel_rfl) rfl (hv 0 (by omega) _ rfl _ rfl) (hv 1 (by omega) _ rfl _ rfl)) (J.applyS f (fun j => sf (g j).toNat) n n _ _ X (FP.on hS) (by omega) (Fv173.on hS) (by omega)) fun e w' hh => ?_
        obtain ⟨r_, he, hk, hb⟩ := hh
        refine ⟨_, he, r_, ⟨_, rfl, rfl⟩, ⟨(hS).trans ((hb).mono (hS).size), own_strs hk⟩, fun i hi => ?_⟩
        match i, hi with
        | 0, _ => rfl
        | 1, _ => rfl
        | n_ + 2, h_ => omega
      | 3, _ => exact stepV rfl rfl (execMvB rfl (hv 2 (by omega) _ rfl _ rfl)) ⟨s, ⟨_, rfl, rfl⟩, hS, fun _ _ => rfl⟩
      | 4, _ => exact stepV rfl rfl (execExtT rfl (hv 3 (by omega) _ rfl _ rfl) rfl) ⟨s, ⟨_, rfl, rfl⟩, hS, fun _ _ => rfl⟩
      | 5, _ => exact stepV rfl rfl (execExtT rfl (hv 3 (by omega) _ rfl _ rfl) rfl) ⟨s, ⟨_, rfl, rfl⟩, hS, fun _ _ => rfl⟩
      | 6, _ => exact stepV rfl rfl (execAsgB rfl (hv 4 (by omega) _ rfl _ rfl)) ⟨s, ⟨_, rfl, rfl⟩, hS, fun _ _ => rfl⟩
      | 7, _ => exact stepV rfl rfl (execAsgB rfl (hv 5 (by omega) _ rfl _ rfl)) ⟨s, ⟨_, rfl, rfl⟩, hS, fun _ _ => rfl⟩
      | k_ + 8, h_ => exact absurd h_ (by simp)
    rintro v191 a X22 h1 h2 h3 h4 hS
    replace hS : Below X20.heap.size X20 X22 ∧ (SliceS X22 v191 (zl (apE f n n) n) (fun j => (fun j => sf (g j).toNat) (f j).toNat)) := hS
    obtain ⟨bX, Fv191⟩ := hS
    replace t0 := (h3 0 (by decide)).trans t0
    replace t1 := (h3 1 (by decide)).trans t1
    replace t3 := (h3 3 (by decide)).trans t3
    replace t13 := (h3 13 (by decide)).trans t13
    replace t26 := (h3 26 (by decide)).trans t26
    replace t32 := (h3 32 (by decide)).trans t32
    replace t18 := (h3 18 (by decide)).trans t18
    have t33 : a.eval (.tmp 33) = v191 := h4 6 _ rfl _ rfl
    have t20 : a.eval (.tmp 20) = .int .i64 ((apE f n n : Nat) : Int) := h4 7 _ rfl _ rfl
    replace FP := (FP.on bX)
    replace FQ := (FQ.on bX)
    replace FXs := (FXs.on bX)
    replace FPQ := (FPQ.on bX)
    replace FIN := (FIN.on bX)
    replace Fv173 := (Fv173.on bX)
    have ZX22 := bX.size
    replace BW := BW.trans (bX.mono BW.size)
    clear bX
    replace A := (⟨h1, h2.trans A.2⟩ : a.tmps.size = 267 ∧ a.defers = [])
    clear h1 h2 h3 h4
    have e2 : apE f n n = 0 := if_pos ⟨hf, rfl⟩
    rw [e2, zl_ok] at Fv191
    rw [e2] at t20
    refine wp_seq ?_
    refine wp_region_sq (σ := Value) 267 [(0, 195), (1, 196), (2, 197), (3, 194), (4, 198), (5, 199), (6, 34), (7, 23)] (fun j_ s X => match j_ with | 0 => Below X22.heap.size X22 X | 1 => Below X22.heap.size X22 X | 2 => Below X22.heap.size X22 X | 3 => Below X22.heap.size X22 X ∧ (SliceS X s (zl (apE (fun j => g (f j).toNat) n n) n) (fun j => sf ((fun j => g (f j).toNat) j).toNat)) | 4 => Below X22.heap.size X22 X ∧ (SliceS X s (zl (apE (fun j => g (f j).toNat) n n) n) (fun j => sf ((fun j => g (f j).toNat) j).toNat)) | 5 => Below X22.heap.size X22 X ∧ (SliceS X s (zl (apE (fun j => g (f j).toNat) n n) n) (fun j => sf ((fun j => g (f j).toNat) j).toNat)) | 6 => Below X22.heap.size X22 X ∧ (SliceS X s (zl (apE (fun j => g (f j).toNat) n n) n) (fun j => sf ((fun j => g (f j).toNat) j).toNat)) | 7 => Below X22.heap.size X22 X ∧ (SliceS X s (zl (apE (fun j => g (f j).toNat) n n) n) (fun j => sf ((fun j => g (f j).toNat) j).toNat)) | _ => Below X22.heap.size X22 X ∧ (SliceS X s (zl (apE (fun j => g (f j).toNat) n n) n) (fun j => sf ((fun j => g (f j).toNat) j).toNat))) (fun s => fun i_ => match i_ with | 0 => pqv | 1 => sv | 2 => .tuple #[s, .int .i64 ((apE (fun j => g (f j).toNat) n n : Nat) : Int)] | 3 => .tuple #[s, .int .i64 ((apE (fun j => g (f j).toNat) n n : Nat) : Int)] | 4 => s | 5 => .int .i64 ((apE (fun j => g (f j).toNat) n n : Nat) : Int) | 6 => s | 7 => .int .i64 ((apE (fun j => g (f j).toNat) n n : Nat) : Int) | _ => undef) undef A.1 (by kernel_rfl) (by decide) (by decide) (Below.refl _ _) ?_ ?_
    · intro i_ hi_ s a X hf hv hn hS
      match i_, hi_ with
      | 0, _ => exact stepV rfl rfl (execMvB rfl ((hf 13 (by decide)).trans t13)) ⟨s, ⟨_, rfl, rfl⟩, hS, fun _ _ => rfl⟩
      | 1, _ => exact stepV rfl rfl (execMvB rfl ((hf 3 (by decide)).trans t3)) ⟨s, ⟨_, rfl, rfl⟩, hS, fun _ _ => rfl⟩
      | 2, _ =>
        refine stepC rfl rfl (execCall2 Try.func31 (by kernel_rfl) (by kernel_rfl) rfl (hv 0 (by omega) _ rfl _ rfl) (hv 1 (by omega) _ rfl _ rfl)) (J.applyS (fun j => g (f j).toNat) sf n n _ _ X (FPQ.on hS) (by omega) (FXs.on hS) (by omega)) fun e w' hh => ?_
        obtain ⟨r_, he, hk, hb⟩ := hh
        refine ⟨_, he, r_, ⟨_, rfl, rfl⟩, ⟨(hS).trans ((hb).mono (hS).size), own_strs hk⟩, fun i hi => ?_⟩
        match i, hi with
        | 0, _ => rfl
        | 1, _ => rfl
        | n_ + 2, h_ => omega
      | 3, _ => exact stepV rfl rfl (execMvB rfl (hv 2 (by omega) _ rfl _ rfl)) ⟨s, ⟨_, rfl, rfl⟩, hS, fun _ _ => rfl⟩
      | 4, _ => exact stepV rfl rfl (execExtT rfl (hv 3 (by omega) _ rfl _ rfl) rfl) ⟨s, ⟨_, rfl, rfl⟩, hS, fun _ _ => rfl⟩
      | 5, _ => exact stepV rfl rfl (execExtT rfl (hv 3 (by omega) _ rfl _ rfl) rfl) ⟨s, ⟨_, rfl, rfl⟩, hS, fun _ _ => rfl⟩
      | 6, _ => exact stepV rfl rfl (execAsgB rfl (hv 4 (by omega) _ rfl _ rfl)) ⟨s, ⟨_, rfl, rfl⟩, hS, fun _ _ => rfl⟩
      | 7, _ => exact stepV rfl rfl (execAsgB rfl (hv 5 (by omega) _ rfl _ rfl)) ⟨s, ⟨_, rfl, rfl⟩, hS, fun _ _ => rfl⟩
      | k_ + 8, h_ => exact absurd h_ (by simp)
    rintro v197 a X23 h1 h2 h3 h4 hS
    replace hS : Below X22.heap.size X22 X23 ∧ (SliceS X23 v197 (zl (apE (fun j => g (f j).toNat) n n) n) (fun j => sf ((fun j => g (f j).toNat) j).toNat)) := hS
    obtain ⟨bX, Fv197⟩ := hS
    replace t0 := (h3 0 (by decide)).trans t0
    replace t1 := (h3 1 (by decide)).trans t1
    replace t3 := (h3 3 (by decide)).trans t3
    replace t13 := (h3 13 (by decide)).trans t13
    replace t26 := (h3 26 (by decide)).trans t26
    replace t32 := (h3 32 (by decide)).trans t32
    replace t18 := (h3 18 (by decide)).trans t18
    replace t33 := (h3 33 (by decide)).trans t33
    replace t20 := (h3 20 (by decide)).trans t20
    have t34 : a.eval (.tmp 34) = v197 := h4 6 _ rfl _ rfl
    have t23 : a.eval (.tmp 23) = .int .i64 ((apE (fun j => g (f j).toNat) n n : Nat) : Int) := h4 7 _ rfl _ rfl
    replace FP := (FP.on bX)
    replace FQ := (FQ.on bX)
    replace FXs := (FXs.on bX)
    replace FPQ := (FPQ.on bX)
    replace FIN := (FIN.on bX)
    replace Fv173 := (Fv173.on bX)
    replace Fv191 := (Fv191.on bX)
    have ZX23 := bX.size
    replace BW := BW.trans (bX.mono BW.size)
    clear bX
    replace A := (⟨h1, h2.trans A.2⟩ : a.tmps.size = 267 ∧ a.defers = [])
    clear h1 h2 h3 h4
    have e3 : apE (fun j => g (f j).toNat) n n = 0 := if_pos ⟨hpqE, rfl⟩
    rw [e3, zl_ok] at Fv197
    rw [e3] at t23
    refine wp_seq ?_
    refine wp_region_sq (σ := Value) 267 [(0, 201), (1, 202), (2, 203), (3, 200), (4, 204), (5, 205), (6, 35), (7, 25)] (fun j_ s X => match j_ with | 0 => Below X23.heap.size X23 X | 1 => Below X23.heap.size X23 X | 2 => Below X23.heap.size X23 X | 3 => Below X23.heap.size X23 X ∧ (SliceS X s (zl (apE (fun j => (posN (gN f) j n : Int)) n n) n) (fun j => (fun j => (fun j => sf (g j).toNat) (f j).toNat) ((fun j => (posN (gN f) j n : Int)) j).toNat)) | 4 => Below X23.heap.size X23 X ∧ (SliceS X s (zl (apE (fun j => (posN (gN f) j n : Int)) n n) n) (fun j => (fun j => (fun j => sf (g j).toNat) (f j).toNat) ((fun j => (posN (gN f) j n : Int)) j).toNat)) | 5 => Below X23.heap.size X23 X ∧ (SliceS X s (zl (apE (fun j => (posN (gN f) j n : Int)) n n) n) (fun j => (fun j => (fun j => sf (g j).toNat) (f j).toNat) ((fun j => (posN (gN f) j n : Int)) j).toNat)) | 6 => Below X23.heap.size X23 X ∧ (SliceS X s (zl (apE (fun j => (posN (gN f) j n : Int)) n n) n) (fun j => (fun j => (fun j => sf (g j).toNat) (f j).toNat) ((fun j => (posN (gN f) j n : Int)) j).toNat)) | 7 => Below X23.heap.size X23 X ∧ (SliceS X s (zl (apE (fun j => (posN (gN f) j n : Int)) n n) n) (fun j => (fun j => (fun j => sf (g j).toNat) (f j).toNat) ((fun j => (posN (gN f) j n : Int)) j).toNat)) | _ => Below X23.heap.size X23 X ∧ (SliceS X s (zl (apE (fun j => (posN (gN f) j n : Int)) n n) n) (fun j => (fun j => (fun j => sf (g j).toNat) (f j).toNat) ((fun j => (posN (gN f) j n : Int)) j).toNat))) (fun s => fun i_ => match i_ with | 0 => iv_ | 1 => v191 | 2 => .tuple #[s, .int .i64 ((apE (fun j => (posN (gN f) j n : Int)) n n : Nat) : Int)] | 3 => .tuple #[s, .int .i64 ((apE (fun j => (posN (gN f) j n : Int)) n n : Nat) : Int)] | 4 => s | 5 => .int .i64 ((apE (fun j => (posN (gN f) j n : Int)) n n : Nat) : Int) | 6 => s | 7 => .int .i64 ((apE (fun j => (posN (gN f) j n : Int)) n n : Nat) : Int) | _ => undef) undef A.1 (by kernel_rfl) (by decide) (by decide) (Below.refl _ _) ?_ ?_
    · intro i_ hi_ s a X hf hv hn hS
      match i_, hi_ with
      | 0, _ => exact stepV rfl rfl (execMvB rfl ((hf 26 (by decide)).trans t26)) ⟨s, ⟨_, rfl, rfl⟩, hS, fun _ _ => rfl⟩
      | 1, _ => exact stepV rfl rfl (execMvB rfl ((hf 33 (by decide)).trans t33)) ⟨s, ⟨_, rfl, rfl⟩, hS, fun _ _ => rfl⟩
      | 2, _ =>
        refine stepC rfl rfl (execCall2 Try.func31 (by kernel_rfl) (by kernel_rfl) rfl (hv 0 (by omega) _ rfl _ rfl) (hv 1 (by omega) _ rfl _ rfl)) (J.applyS (fun j => (posN (gN f) j n : Int)) (fun j => (fun j => sf (g j).toNat) (f j).toNat) n n _ _ X (FIN.on hS) (by omega) (Fv191.on hS) (by omega)) fun e w' hh => ?_
        obtain ⟨r_, he, hk, hb⟩ := hh
        refine ⟨_, he, r_, ⟨_, rfl, rfl⟩, ⟨(hS).trans ((hb).mono (hS).size), own_strs hk⟩, fun i hi => ?_⟩
        match i, hi with
        | 0, _ => rfl
        | 1, _ => rfl
        | n_ + 2, h_ => omega
      | 3, _ => exact stepV rfl rfl (execMvB rfl (hv 2 (by omega) _ rfl _ rfl)) ⟨s, ⟨_, rfl, rfl⟩, hS, fun _ _ => rfl⟩
      | 4, _ => exact stepV rfl rfl (execExtT rfl (hv 3 (by omega) _ rfl _ rfl) rfl) ⟨s, ⟨_, rfl, rfl⟩, hS, fun _ _ => rfl⟩
      | 5, _ => exact stepV rfl rfl (execExtT rfl (hv 3 (by omega) _ rfl _ rfl) rfl) ⟨s, ⟨_, rfl, rfl⟩, hS, fun _ _ => rfl⟩
      | 6, _ => exact stepV rfl rfl (execAsgB rfl (hv 4 (by omega) _ rfl _ rfl)) ⟨s, ⟨_, rfl, rfl⟩, hS, fun _ _ => rfl⟩
      | 7, _ => exact stepV rfl rfl (execAsgB rfl (hv 5 (by omega) _ rfl _ rfl)) ⟨s, ⟨_, rfl, rfl⟩, hS, fun _ _ => rfl⟩
      | k_ + 8, h_ => exact absurd h_ (by simp)
    rintro v203 a X24 h1 h2 h3 h4 hS
    replace hS : Below X23.heap.size X23 X24 ∧ (SliceS X24 v203 (zl (apE (fun j => (posN (gN f) j n : Int)) n n) n) (fun j => (fun j => (fun j => sf (g j).toNat) (f j).toNat) ((fun j => (posN (gN f) j n : Int)) j).toNat)) := hS
    obtain ⟨bX, Fv203⟩ := hS
    replace t0 := (h3 0 (by decide)).trans t0
    replace t1 := (h3 1 (by decide)).trans t1
    replace t3 := (h3 3 (by decide)).trans t3
    replace t13 := (h3 13 (by decide)).trans t13
    replace t26 := (h3 26 (by decide)).trans t26
    replace t32 := (h3 32 (by decide)).trans t32
    replace t18 := (h3 18 (by decide)).trans t18
    replace t33 := (h3 33 (by decide)).trans t33
    replace t20 := (h3 20 (by decide)).trans t20
    replace t34 := (h3 34 (by decide)).trans t34
    replace t23 := (h3 23 (by decide)).trans t23
    have t35 : a.eval (.tmp 35) = v203 := h4 6 _ rfl _ rfl
    have t25 : a.eval (.tmp 25) = .int .i64 ((apE (fun j => (posN (gN f) j n : Int)) n n : Nat) : Int) := h4 7 _ rfl _ rfl
    replace FP := (FP.on bX)
    replace FQ := (FQ.on bX)
    replace FXs := (FXs.on bX)
    replace FPQ := (FPQ.on bX)
    replace FIN := (FIN.on bX)
    replace Fv173 := (Fv173.on bX)
    replace Fv191 := (Fv191.on bX)
    replace Fv197 := (Fv197.on bX)
    have ZX24 := bX.size
    replace BW := BW.trans (bX.mono BW.size)
    clear bX
    replace A := (⟨h1, h2.trans A.2⟩ : a.tmps.size = 267 ∧ a.defers = [])
    clear h1 h2 h3 h4
    have e4 : apE (fun j => (posN (gN f) j n : Int)) n n = 0 := if_pos ⟨hinE, rfl⟩
    rw [e4, zl_ok] at Fv203
    rw [e4] at t25
    refine wp_seq ?_
    refine wp_seq ?_
    refine wp_region_sq (σ := Unit) 267 [(0, 206), (1, 207), (2, 208), (3, 209), (4, 210), (5, 211), (6, 212), (7, 213), (8, 214), (9, 215), (10, 216), (11, 217), (12, 218), (13, 219), (14, 220), (15, 221), (16, 222), (17, 223), (18, 224), (19, 225), (20, 226), (21, 227), (22, 228), (23, 229), (24, 230), (25, 231), (26, 232), (27, 233), (28, 234), (29, 235), (30, 236), (31, 237), (32, 238), (33, 239), (34, 240)] (fun j_ s X => match j_ with | 0 => Below X24.heap.size X24 X | 1 => Below X24.heap.size X24 X | 2 => Below X24.heap.size X24 X | 3 => Below X24.heap.size X24 X | 4 => Below X24.heap.size X24 X | 5 => Below X24.heap.size X24 X | 6 => Below X24.heap.size X24 X | 7 => Below X24.heap.size X24 X | 8 => Below X24.heap.size X24 X | 9 => Below X24.heap.size X24 X | 10 => Below X24.heap.size X24 X | 11 => Below X24.heap.size X24 X | 12 => Below X24.heap.size X24 X | 13 => Below X24.heap.size X24 X | 14 => Below X24.heap.size X24 X | 15 => Below X24.heap.size X24 X | 16 => Below X24.heap.size X24 X | 17 => Below X24.heap.size X24 X | 18 => Below X24.heap.size X24 X | 19 => Below X24.heap.size X24 X | 20 => Below X24.heap.size X24 X | 21 => Below X24.heap.size X24 X | 22 => Below X24.heap.size X24 X | 23 => Below X24.heap.size X24 X | 24 => Below X24.heap.size X24 X | 25 => Below X24.heap.size X24 X | 26 => Below X24.heap.size X24 X | 27 => Below X24.heap.size X24 X | 28 => Below X24.heap.size X24 X | 29 => Below X24.heap.size X24 X | 30 => Below X24.heap.size X24 X | 31 => Below X24.heap.size X24 X | 32 => Below X24.heap.size X24 X | 33 => Below X24.heap.size X24 X | 34 => Below X24.heap.size X24 X | _ => Below X24.heap.size X24 X) (fun s => fun i_ => match i_ with | 0 => .int .i64 ((0 : Nat) : Int) | 1 => .bool false | 2 => .bool false | 3 => .int .i64 ((0 : Nat) : Int) | 4 => .bool false | 5 => .bool false | 6 => .bool false | 7 => .int .i64 ((0 : Nat) : Int) | 8 => .bool false | 9 => .bool false | 10 => .bool false | 11 => .int .i64 ((0 : Nat) : Int) | 12 => .bool false | 13 => .bool false | 14 => .bool false | 15 => v191 | 16 => .int .i64 ((n : Nat) : Int) | 17 => sv | 18 => .int .i64 ((n : Nat) : Int) | 19 => .bool false | 20 => .bool false | 21 => .bool false | 22 => v197 | 23 => .int .i64 ((n : Nat) : Int) | 24 => sv | 25 => .int .i64 ((n : Nat) : Int) | 26 => .bool false | 27 => .bool false | 28 => .bool false | 29 => v203 | 30 => .int .i64 ((n : Nat) : Int) | 31 => sv | 32 => .int .i64 ((n : Nat) : Int) | 33 => .bool false | 34 => .bool false | _ => undef) () A.1 (by kernel_rfl) (by decide) (by decide) (Below.refl _ _) ?_ ?_
    · intro i_ hi_ s a X hf hv hn hS
      match i_, hi_ with
      | 0, _ => exact stepV rfl rfl (execMvB rfl ((hf 18 (by decide)).trans t18)) ⟨s, ⟨_, rfl, rfl⟩, hS, fun _ _ => rfl⟩
      | 1, _ => exact stepV rfl rfl (execDec (execNeE (p := 0) (q := 0) rfl (hv 0 (by omega) _ rfl _ rfl) rfl) (decide_eq_false (by omega))) ⟨s, ⟨_, rfl, rfl⟩, hS, fun _ _ => rfl⟩
      | 2, _ => exact stepV rfl rfl (execMvB rfl (hv 1 (by omega) _ rfl _ rfl)) ⟨s, ⟨_, rfl, rfl⟩, hS, fun _ _ => rfl⟩
      | 3, _ => exact stepV rfl (wantedOf rfl (yieldedAt rfl rfl (show a.eval (.tmp 208) = .bool false from (hv 2 (by omega) _ rfl _ rfl)))) (execMvB rfl ((hf 20 (by decide)).trans t20)) ⟨s, ⟨_, rfl, rfl⟩, hS, fun _ _ => rfl⟩
      | 4, _ => exact stepV rfl (wantedOf rfl (yieldedAt rfl rfl (show a.eval (.tmp 208) = .bool false from (hv 2 (by omega) _ rfl _ rfl)))) (execDec (execNeE (p := 0) (q := 0) rfl (hv 3 (by omega) _ rfl _ rfl) rfl) (decide_eq_false (by omega))) ⟨s, ⟨_, rfl, rfl⟩, hS, fun _ _ => rfl⟩
      | 5, _ => exact stepV rfl rfl (execPickF rfl (hv 2 (by omega) _ rfl _ rfl) (hv 4 (by omega) _ rfl _ rfl)) ⟨s, ⟨_, rfl, rfl⟩, hS, fun _ _ => rfl⟩
      | 6, _ => exact stepV rfl rfl (execMvB rfl (hv 5 (by omega) _ rfl _ rfl)) ⟨s, ⟨_, rfl, rfl⟩, hS, fun _ _ => rfl⟩
      | 7, _ => exact stepV rfl (wantedOf rfl (yieldedAt rfl rfl (show a.eval (.tmp 212) = .bool false from (hv 6 (by omega) _ rfl _ rfl)))) (execMvB rfl ((hf 23 (by decide)).trans t23)) ⟨s, ⟨_, rfl, rfl⟩, hS, fun _ _ => rfl⟩
      | 8, _ => exact stepV rfl (wantedOf rfl (yieldedAt rfl rfl (show a.eval (.tmp 212) = .bool false from (hv 6 (by omega) _ rfl _ rfl)))) (execDec (execNeE (p := 0) (q := 0) rfl (hv 7 (by omega) _ rfl _ rfl) rfl) (decide_eq_false (by omega))) ⟨s, ⟨_, rfl, rfl⟩, hS, fun _ _ => rfl⟩
      | 9, _ => exact stepV rfl rfl (execPickF rfl (hv 6 (by omega) _ rfl _ rfl) (hv 8 (by omega) _ rfl _ rfl)) ⟨s, ⟨_, rfl, rfl⟩, hS, fun _ _ => rfl⟩
      | 10, _ => exact stepV rfl rfl (execMvB rfl (hv 9 (by omega) _ rfl _ rfl)) ⟨s, ⟨_, rfl, rfl⟩, hS, fun _ _ => rfl⟩
      | 11, _ => exact stepV rfl (wantedOf rfl (yieldedAt rfl rfl (show a.eval (.tmp 216) = .bool false from (hv 10 (by omega) _ rfl _ rfl)))) (execMvB rfl ((hf 25 (by decide)).trans t25)) ⟨s, ⟨_, rfl, rfl⟩, hS, fun _ _ => rfl⟩
      | 12, _ => exact stepV rfl (wantedOf rfl (yieldedAt rfl rfl (show a.eval (.tmp 216) = .bool false from (hv 10 (by omega) _ rfl _ rfl)))) (execDec (execNeE (p := 0) (q := 0) rfl (hv 11 (by omega) _ rfl _ rfl) rfl) (decide_eq_false (by omega))) ⟨s, ⟨_, rfl, rfl⟩, hS, fun _ _ => rfl⟩
      | 13, _ => exact stepV rfl rfl (execPickF rfl (hv 10 (by omega) _ rfl _ rfl) (hv 12 (by omega) _ rfl _ rfl)) ⟨s, ⟨_, rfl, rfl⟩, hS, fun _ _ => rfl⟩
      | 14, _ => exact stepV rfl rfl (execMvB rfl (hv 13 (by omega) _ rfl _ rfl)) ⟨s, ⟨_, rfl, rfl⟩, hS, fun _ _ => rfl⟩
      | 15, _ => exact stepV rfl (wantedOf rfl (yieldedAt rfl rfl (show a.eval (.tmp 220) = .bool false from (hv 14 (by omega) _ rfl _ rfl)))) (execMvB rfl ((hf 33 (by decide)).trans t33)) ⟨s, ⟨_, rfl, rfl⟩, hS, fun _ _ => rfl⟩
      | 16, _ => exact stepV rfl (wantedOf rfl (yieldedAt rfl rfl (show a.eval (.tmp 220) = .bool false from (hv 14 (by omega) _ rfl _ rfl)))) (execLenS (len := n) rfl (hv 15 (by omega) _ rfl _ rfl) ((Fv191.on hS)).shp) ⟨s, ⟨_, rfl, rfl⟩, hS, fun _ _ => rfl⟩
      | 17, _ => exact stepV rfl (wantedOf rfl (yieldedAt rfl rfl (show a.eval (.tmp 220) = .bool false from (hv 14 (by omega) _ rfl _ rfl)))) (execMvB rfl ((hf 3 (by decide)).trans t3)) ⟨s, ⟨_, rfl, rfl⟩, hS, fun _ _ => rfl⟩
      | 18, _ => exact stepV rfl (wantedOf rfl (yieldedAt rfl rfl (show a.eval (.tmp 220) = .bool false from (hv 14 (by omega) _ rfl _ rfl)))) (execLenS (len := n) rfl (hv 17 (by omega) _ rfl _ rfl) ((FXs.on hS)).shp) ⟨s, ⟨_, rfl, rfl⟩, hS, fun _ _ => rfl⟩
      | 19, _ => exact stepV rfl (wantedOf rfl (yieldedAt rfl rfl (show a.eval (.tmp 220) = .bool false from (hv 14 (by omega) _ rfl _ rfl)))) (execDec (execNeN (p := n) (q := n) rfl (hv 16 (by omega) _ rfl _ rfl) (hv 18 (by omega) _ rfl _ rfl)) (decide_eq_false (by omega))) ⟨s, ⟨_, rfl, rfl⟩, hS, fun _ _ => rfl⟩
      | 20, _ => exact stepV rfl rfl (execPickF rfl (hv 14 (by omega) _ rfl _ rfl) (hv 19 (by omega) _ rfl _ rfl)) ⟨s, ⟨_, rfl, rfl⟩, hS, fun _ _ => rfl⟩
      | 21, _ => exact stepV rfl rfl (execMvB rfl (hv 20 (by omega) _ rfl _ rfl)) ⟨s, ⟨_, rfl, rfl⟩, hS, fun _ _ => rfl⟩
      | 22, _ => exact stepV rfl (wantedOf rfl (yieldedAt rfl rfl (show a.eval (.tmp 227) = .bool false from (hv 21 (by omega) _ rfl _ rfl)))) (execMvB rfl ((hf 34 (by decide)).trans t34)) ⟨s, ⟨_, rfl, rfl⟩, hS, fun _ _ => rfl⟩
      | 23, _ => exact stepV rfl (wantedOf rfl (yieldedAt rfl rfl (show a.eval (.tmp 227) = .bool false from (hv 21 (by omega) _ rfl _ rfl)))) (execLenS (len := n) rfl (hv 22 (by omega) _ rfl _ rfl) ((Fv197.on hS)).shp) ⟨s, ⟨_, rfl, rfl⟩, hS, fun _ _ => rfl⟩
      | 24, _ => exact stepV rfl (wantedOf rfl (yieldedAt rfl rfl (show a.eval (.tmp 227) = .bool false from (hv 21 (by omega) _ rfl _ rfl)))) (execMvB rfl ((hf 3 (by decide)).trans t3)) ⟨s, ⟨_, rfl, rfl⟩, hS, fun _ _ => rfl⟩
      | 25, _ => exact stepV rfl (wantedOf rfl (yieldedAt rfl rfl (show a.eval (.tmp 227) = .bool false from (hv 21 (by omega) _ rfl _ rfl)))) (execLenS (len := n) rfl (hv 24 (by omega) _ rfl _ rfl) ((FXs.on hS)).shp) ⟨s, ⟨_, rfl, rfl⟩, hS, fun _ _ => rfl⟩
      | 26, _ => exact stepV rfl (wantedOf rfl (yieldedAt rfl rfl (show a.eval (.tmp 227) = .bool false from (hv 21 (by omega) _ rfl _ rfl)))) (execDec (execNeN (p := n) (q := n) rfl (hv 23 (by omega) _ rfl _ rfl) (hv 25 (by omega) _ rfl _ rfl)) (decide_eq_false (by omega))) ⟨s, ⟨_, rfl, rfl⟩, hS, fun _ _ => rfl⟩
      | 27, _ => exact stepV rfl rfl (execPickF rfl (hv 21 (by omega) _ rfl _ rfl) (hv 26 (by omega) _ rfl _ rfl)) ⟨s, ⟨_, rfl, rfl⟩, hS, fun _ _ => rfl⟩
      | 28, _ => exact stepV rfl rfl (execMvB rfl (hv 27 (by omega) _ rfl _ rfl)) ⟨s, ⟨_, rfl, rfl⟩, hS, fun _ _ => rfl⟩
      | 29, _ => exact stepV rfl (wantedOf rfl (yieldedAt rfl rfl (show a.eval (.tmp 234) = .bool false from (hv 28 (by omega) _ rfl _ rfl)))) (execMvB rfl ((hf 35 (by decide)).trans t35)) ⟨s, ⟨_, rfl, rfl⟩, hS, fun _ _ => rfl⟩
      | 30, _ => exact stepV rfl (wantedOf rfl (yieldedAt rfl rfl (show a.eval (.tmp 234) = .bool false from (hv 28 (by omega) _ rfl _ rfl)))) (execLenS (len := n) rfl (hv 29 (by omega) _ rfl _ rfl) ((Fv203.on hS)).shp) ⟨s, ⟨_, rfl, rfl⟩, hS, fun _ _ => rfl⟩
      | 31, _ => exact stepV rfl (wantedOf rfl (yieldedAt rfl rfl (show a.eval (.tmp 234) = .bool false from (hv 28 (by omega) _ rfl _ rfl)))) (execMvB rfl ((hf 3 (by decide)).trans t3)) ⟨s, ⟨_, rfl, rfl⟩, hS, fun _ _ => rfl⟩
      | 32, _ => exact stepV rfl (wantedOf rfl (yieldedAt rfl rfl (show a.eval (.tmp 234) = .bool false from (hv 28 (by omega) _ rfl _ rfl)))) (execLenS (len := n) rfl (hv 31 (by omega) _ rfl _ rfl) ((FXs.on hS)).shp) ⟨s, ⟨_, rfl, rfl⟩, hS, fun _ _ => rfl⟩
      | 33, _ => exact stepV rfl (wantedOf rfl (yieldedAt rfl rfl (show a.eval (.tmp 234) = .bool false from (hv 28 (by omega) _ rfl _ rfl)))) (execDec (execNeN (p := n) (q := n) rfl (hv 30 (by omega) _ rfl _ rfl) (hv 32 (by omega) _ rfl _ rfl)) (decide_eq_false (by omega))) ⟨s, ⟨_, rfl, rfl⟩, hS, fun _ _ => rfl⟩
      | 34, _ => exact stepV rfl rfl (execPickF rfl (hv 28 (by omega) _ rfl _ rfl) (hv 33 (by omega) _ rfl _ rfl)) ⟨s, ⟨_, rfl, rfl⟩, hS, fun _ _ => rfl⟩
      | k_ + 35, h_ => exact absurd h_ (by simp)
    rintro _ a X25 h1 h2 h3 h4 hS
    replace hS : Below X24.heap.size X24 X25 := hS
    have bX := hS
    clear hS
    replace t3 := (h3 3 (by decide)).trans t3
    replace t32 := (h3 32 (by decide)).trans t32
    replace t33 := (h3 33 (by decide)).trans t33
    replace t34 := (h3 34 (by decide)).trans t34
    replace t35 := (h3 35 (by decide)).trans t35
    have t240 : a.eval (.tmp 240) = .bool false := h4 34 _ rfl _ rfl
    replace FP := (FP.on bX)
    replace FQ := (FQ.on bX)
    replace FXs := (FXs.on bX)
    replace FPQ := (FPQ.on bX)
    replace FIN := (FIN.on bX)
    replace Fv173 := (Fv173.on bX)
    replace Fv191 := (Fv191.on bX)
    replace Fv197 := (Fv197.on bX)
    replace Fv203 := (Fv203.on bX)
    have ZX25 := bX.size
    replace BW := BW.trans (bX.mono BW.size)
    clear bX
    replace A := (⟨h1, h2.trans A.2⟩ : a.tmps.size = 267 ∧ a.defers = [])
    clear h1 h2 h3 h4
    clear t0 t1 t13 t26 t18 t20 t23 t25
    refine wp_cond_false t240 ?_
    refine wp_skip ?_
    clear t240
    refine wp_seq ?_
    refine wp_seq ?_
    refine wp_region_sq (σ := Unit) 267 [(0, 36)] (fun j_ s X => match j_ with | 0 => Below X25.heap.size X25 X | _ => Below X25.heap.size X25 X) (fun s => fun i_ => match i_ with | 0 => .int .i64 ((0 : Nat) : Int) | _ => undef) () A.1 (by kernel_rfl) (by decide) (by decide) (Below.refl _ _) ?_ ?_
    · intro i_ hi_ s a X hf hv hn hS
      match i_, hi_ with
      | 0, _ => exact stepV rfl rfl (execAsgB rfl rfl) ⟨s, ⟨_, rfl, rfl⟩, hS, fun _ _ => rfl⟩
      | k_ + 1, h_ => exact absurd h_ (by simp)
    rintro _ a X27 h1 h2 h3 h4 hS
    replace hS : Below X25.heap.size X25 X27 := hS
    have bX := hS
    clear hS
    replace t3 := (h3 3 (by decide)).trans t3
    replace t32 := (h3 32 (by decide)).trans t32
    replace t33 := (h3 33 (by decide)).trans t33
    replace t34 := (h3 34 (by decide)).trans t34
    replace t35 := (h3 35 (by decide)).trans t35
    have t36 : a.eval (.tmp 36) = .int .i64 ((0 : Nat) : Int) := h4 0 _ rfl _ rfl
    replace FP := (FP.on bX)
    replace FQ := (FQ.on bX)
    replace FXs := (FXs.on bX)
    replace FPQ := (FPQ.on bX)
    replace FIN := (FIN.on bX)
    replace Fv173 := (Fv173.on bX)
    replace Fv191 := (Fv191.on bX)
    replace Fv197 := (Fv197.on bX)
    replace Fv203 := (Fv203.on bX)
    have ZX27 := bX.size
    replace BW := BW.trans (bX.mono BW.size)
    clear bX
    replace A := (⟨h1, h2.trans A.2⟩ : a.tmps.size = 267 ∧ a.defers = [])
    clear h1 h2 h3 h4
    have BB : Below X27.heap.size X27 X27 := Below.refl _ _
    refine wp_block ?_
    refine wp_loop (fun a W => ∃ i : Nat, i ≤ n ∧ (a.tmps.size = 267 ∧ a.defers = []) ∧ a.eval (.tmp 3) = sv ∧ a.eval (.tmp 32) = v173 ∧ a.eval (.tmp 33) = v191 ∧ a.eval (.tmp 34) = v197 ∧ a.eval (.tmp 35) = v203 ∧ a.eval (.tmp 36) = .int .i64 ((i : Nat) : Int) ∧ Below X27.heap.size X27 W) (fun a _ => n - (intOf (a.eval (.tmp 36))).toNat) ⟨0, Nat.zero_le _, A, t3, t32, t33, t34, t35, t36, BB⟩ ?_
    clear A t3 t32 t33 t34 t35 t36 BB a
    rintro a XL ⟨i, hi, A, t3, t32, t33, t34, t35, t36, BB⟩
    have e36 := t36
    refine wp_seq ?_
    refine wp_seq ?_
    refine wp_region_sq (σ := Unit) 267 [(0, 241), (1, 242), (2, 243), (3, 244)] (fun j_ s X => match j_ with | 0 => Below X27.heap.size X27 X | 1 => Below X27.heap.size X27 X | 2 => Below X27.heap.size X27 X | 3 => Below X27.heap.size X27 X | _ => Below X27.heap.size X27 X) (fun s => fun i_ => match i_ with | 0 => .int .i64 ((i : Nat) : Int) | 1 => sv | 2 => .int .i64 ((n : Nat) : Int) | 3 => .bool (decide (i < n)) | _ => undef) () A.1 (by kernel_rfl) (by decide) (by decide) (BB) ?_ ?_
    · intro i_ hi_ s a X hf hv hn hS
      match i_, hi_ with
      | 0, _ => exact stepV rfl rfl (execMvB rfl ((hf 36 (by decide)).trans t36)) ⟨s, ⟨_, rfl, rfl⟩, hS, fun _ _ => rfl⟩
      | 1, _ => exact stepV rfl rfl (execMvB rfl ((hf 3 (by decide)).trans t3)) ⟨s, ⟨_, rfl, rfl⟩, hS, fun _ _ => rfl⟩
      | 2, _ => exact stepV rfl rfl (execLenS (len := n) rfl (hv 1 (by omega) _ rfl _ rfl) ((FXs.on hS)).shp) ⟨s, ⟨_, rfl, rfl⟩, hS, fun _ _ => rfl⟩
      | 3, _ => exact stepV rfl rfl (execLtW (p := i) (q := n) rfl (hv 0 (by omega) _ rfl _ rfl) (hv 2 (by omega) _ rfl _ rfl)) ⟨s, ⟨_, rfl, rfl⟩, hS, fun _ _ => rfl⟩
      | k_ + 4, h_ => exact absurd h_ (by simp)
    rintro _ a X28 h1 h2 h3 h4 hS
    clear BB
    replace hS : Below X27.heap.size X27 X28 := hS
    have BB := hS
    clear hS
    replace t3 := (h3 3 (by decide)).trans t3
    replace t32 := (h3 32 (by decide)).trans t32
    replace t33 := (h3 33 (by decide)).trans t33
    replace t34 := (h3 34 (by decide)).trans t34
    replace t35 := (h3 35 (by decide)).trans t35
    replace t36 := (h3 36 (by decide)).trans t36
    have t244 : a.eval (.tmp 244) = .bool (decide (i < n)) := h4 3 _ rfl _ rfl
    replace A := (⟨h1, h2.trans A.2⟩ : a.tmps.size = 267 ∧ a.defers = [])
    clear h1 h2 h3 h4
    by_cases hlt : i < n
    · rw [decide_eq_true hlt] at t244
      refine wp_cond_true t244 ?_
      refine wp_skip ?_
      clear t244
      refine wp_seq ?_
      refine wp_block ?_
      have hp0 : 0 < n := by omega
      have hback : f (((posN (gN f) i n : Nat) : Int)).toNat = (i : Int) := by rw [Int.toNat_natCast]; have h1 := (inv_at hP hlt).2; have h2 := gN_at hf (inv_at hP hlt).1; have h3 : gN f (posN (gN f) i n) = i := h1; have h4 : ((gN f (posN (gN f) i n) : Nat) : Int) = f (posN (gN f) i n) := h2; rw [← h4, h3]
      obtain ⟨xa, xc, ex, -, -, hx⟩ := id Fv191.shape
      obtain ⟨xb, xo, ex2, hxb, hxc⟩ := hx hp0
      clear hx
      rw [ex2] at ex
      have cx : ∀ X, Below X27.heap.size X27 X → X.cell? ⟨xb, xo + i, none⟩ = some (.string (sf (g (f i).toNat).toNat)) := fun X hX => by rw [cell_below hX hxb, hxc i hlt]
      obtain ⟨ya, yc, ey, -, -, hy⟩ := id Fv197.shape
      obtain ⟨yb, yo, ey2, hyb, hyc⟩ := hy hp0
      clear hy
      rw [ey2] at ey
      have cy : ∀ X, Below X27.heap.size X27 X → X.cell? ⟨yb, yo + i, none⟩ = some (.string (sf (g (f i).toNat).toNat)) := fun X hX => by rw [cell_below hX hyb, hyc i hlt]
      obtain ⟨za, zc, ez, -, -, hz⟩ := id Fv203.shape
      obtain ⟨zb, zo, ez2, hzb, hzc⟩ := hz hp0
      clear hz
      rw [ez2] at ez
      have cz : ∀ X, Below X27.heap.size X27 X → X.cell? ⟨zb, zo + i, none⟩ = some (.string (sf (g i).toNat)) := fun X hX => by rw [cell_below hX hzb, hzc i hlt]; show some (Value.string (sf (g (f (((posN (gN f) i n : Nat) : Int)).toNat).toNat).toNat)) = _; rw [hback, Int.toNat_natCast]
      obtain ⟨wa, wc, ew, -, -, hw⟩ := id Fv173.shape
      obtain ⟨wb, wo, ew2, hwb, hwc⟩ := hw hp0
      clear hw
      rw [ew2] at ew
      have cw : ∀ X, Below X27.heap.size X27 X → X.cell? ⟨wb, wo + i, none⟩ = some (.string (sf (g i).toNat)) := fun X hX => by rw [cell_below hX hwb, hwc i hlt]
      refine wp_seq ?_
      refine wp_region_detA 267 [(0, 247), (1, 248), (2, 249), (3, 250), (4, 251), (5, 252), (6, 253), (7, 254), (8, 255), (9, 256), (10, 257), (11, 258), (12, 259), (13, 260), (14, 261), (15, 262), (16, 263), (17, 264), (18, 265), (19, 266)] (fun i_ => match i_ with | 0 => v191 | 1 => .int .i64 ((i : Nat) : Int) | 2 => .pointer (some ⟨xb, xo + i, none⟩) | 3 => .string (sf (g (f i).toNat).toNat) | 4 => v197 | 5 => .int .i64 ((i : Nat) : Int) | 6 => .pointer (some ⟨yb, yo + i, none⟩) | 7 => .string (sf (g (f i).toNat).toNat) | 8 => .bool false | 9 => .bool false | 10 => v203 | 11 => .int .i64 ((i : Nat) : Int) | 12 => .pointer (some ⟨zb, zo + i, none⟩) | 13 => .string (sf (g i).toNat) | 14 => v173 | 15 => .int .i64 ((i : Nat) : Int) | 16 => .pointer (some ⟨wb, wo + i, none⟩) | 17 => .string (sf (g i).toNat) | 18 => .bool false | 19 => .bool false | _ => undef) (fun _ X => Below X27.heap.size X27 X) (by kernel_rfl) (by kernel_rfl) A.1 (by kernel_rfl) (by decide) (by decide) BB.drew ?_ ?_
      · intro i_ hi_ l_ a X hl_ hf hdep hl2 hcl hno hT
        match i_, hi_ with
        | 0, _ => exact stepV rfl rfl (execMvB rfl ((hf 33 (by decide)).trans t33)) ⟨⟨_, rfl, rfl⟩, hT⟩
        | 1, _ => exact stepV rfl rfl (execMvB rfl ((hf 36 (by decide)).trans t36)) ⟨⟨_, rfl, rfl⟩, hT⟩
        | 2, _ => exact stepV rfl rfl (execIdxS (k := i) rfl ((hdep _ rfl 0 rfl _ rfl _ rfl).trans ex) (hdep _ rfl 1 rfl _ rfl _ rfl) hlt) ⟨⟨_, rfl, rfl⟩, hT⟩
        | 3, _ => exact stepV rfl rfl (execLd9 rfl (hdep _ rfl 2 rfl _ rfl _ rfl) (cx X hT)) ⟨⟨_, rfl, rfl⟩, hT⟩
        | 4, _ => exact stepV rfl rfl (execMvB rfl ((hf 34 (by decide)).trans t34)) ⟨⟨_, rfl, rfl⟩, hT⟩
        | 5, _ => exact stepV rfl rfl (execMvB rfl ((hf 36 (by decide)).trans t36)) ⟨⟨_, rfl, rfl⟩, hT⟩
        | 6, _ => exact stepV rfl rfl (execIdxS (k := i) rfl ((hdep _ rfl 4 rfl _ rfl _ rfl).trans ey) (hdep _ rfl 5 rfl _ rfl _ rfl) hlt) ⟨⟨_, rfl, rfl⟩, hT⟩
        | 7, _ => exact stepV rfl rfl (execLd9 rfl (hdep _ rfl 6 rfl _ rfl _ rfl) (cy X hT)) ⟨⟨_, rfl, rfl⟩, hT⟩
        | 8, _ => exact stepV rfl rfl (By8.execNeqS rfl (hdep _ rfl 3 rfl _ rfl _ rfl) (hdep _ rfl 7 rfl _ rfl _ rfl)) ⟨⟨_, rfl, rfl⟩, hT⟩
        | 9, _ => exact stepV rfl rfl (execMvB rfl (hdep _ rfl 8 rfl _ rfl _ rfl)) ⟨⟨_, rfl, rfl⟩, hT⟩
        | 10, _ => exact stepV rfl (wantedOf rfl (yieldedAt rfl rfl (show a.eval (.tmp 256) = .bool false from (hdep _ rfl 9 rfl _ rfl _ rfl)))) (execMvB rfl ((hf 35 (by decide)).trans t35)) ⟨⟨_, rfl, rfl⟩, hT⟩
        | 11, _ => exact stepV rfl (wantedOf rfl (yieldedAt rfl rfl (show a.eval (.tmp 256) = .bool false from (hdep _ rfl 9 rfl _ rfl _ rfl)))) (execMvB rfl ((hf 36 (by decide)).trans t36)) ⟨⟨_, rfl, rfl⟩, hT⟩
        | 12, _ => exact stepV rfl (wantedOf rfl (yieldedAt rfl rfl (show a.eval (.tmp 256) = .bool false from (hdep _ rfl 9 rfl _ rfl _ rfl)))) (execIdxS (k := i) rfl ((hdep _ rfl 10 rfl _ rfl _ rfl).trans ez) (hdep _ rfl 11 rfl _ rfl _ rfl) hlt) ⟨⟨_, rfl, rfl⟩, hT⟩
        | 13, _ => exact stepV rfl (wantedOf rfl (yieldedAt rfl rfl (show a.eval (.tmp 256) = .bool false from (hdep _ rfl 9 rfl _ rfl _ rfl)))) (execLd9 rfl (hdep _ rfl 12 rfl _ rfl _ rfl) (cz X hT)) ⟨⟨_, rfl, rfl⟩, hT⟩
        | 14, _ => exact stepV rfl (wantedOf rfl (yieldedAt rfl rfl (show a.eval (.tmp 256) = .bool false from (hdep _ rfl 9 rfl _ rfl _ rfl)))) (execMvB rfl ((hf 32 (by decide)).trans t32)) ⟨⟨_, rfl, rfl⟩, hT⟩
        | 15, _ => exact stepV rfl (wantedOf rfl (yieldedAt rfl rfl (show a.eval (.tmp 256) = .bool false from (hdep _ rfl 9 rfl _ rfl _ rfl)))) (execMvB rfl ((hf 36 (by decide)).trans t36)) ⟨⟨_, rfl, rfl⟩, hT⟩
        | 16, _ => exact stepV rfl (wantedOf rfl (yieldedAt rfl rfl (show a.eval (.tmp 256) = .bool false from (hdep _ rfl 9 rfl _ rfl _ rfl)))) (execIdxS (k := i) rfl ((hdep _ rfl 14 rfl _ rfl _ rfl).trans ew) (hdep _ rfl 15 rfl _ rfl _ rfl) hlt) ⟨⟨_, rfl, rfl⟩, hT⟩
        | 17, _ => exact stepV rfl (wantedOf rfl (yieldedAt rfl rfl (show a.eval (.tmp 256) = .bool false from (hdep _ rfl 9 rfl _ rfl _ rfl)))) (execLd9 rfl (hdep _ rfl 16 rfl _ rfl _ rfl) (cw X hT)) ⟨⟨_, rfl, rfl⟩, hT⟩
        | 18, _ => exact stepV rfl (wantedOf rfl (yieldedAt rfl rfl (show a.eval (.tmp 256) = .bool false from (hdep _ rfl 9 rfl _ rfl _ rfl)))) (By8.execNeqS rfl (hdep _ rfl 13 rfl _ rfl _ rfl) (hdep _ rfl 17 rfl _ rfl _ rfl)) ⟨⟨_, rfl, rfl⟩, hT⟩
        | 19, _ => exact stepV rfl rfl (execPickF rfl (hdep _ rfl 9 rfl _ rfl _ rfl) (hdep _ rfl 18 rfl _ rfl _ rfl)) ⟨⟨_, rfl, rfl⟩, hT⟩
        | k_ + 20, h_ => exact absurd h_ (by simp)
      intro l_ a X30 h1 h2 h3 h4 hall hT
      clear hall
      clear BB
      have BB := hT
      clear hT
      replace t3 := (h3 3 (by decide)).trans t3
      replace t32 := (h3 32 (by decide)).trans t32
      replace t33 := (h3 33 (by decide)).trans t33
      replace t34 := (h3 34 (by decide)).trans t34
      replace t35 := (h3 35 (by decide)).trans t35
      replace t36 := (h3 36 (by decide)).trans t36
      have t266 : a.eval (.tmp 266) = .bool false := h4 (19, 266) (by decide)
      replace A := (⟨h1, h2.trans A.2⟩ : a.tmps.size = 267 ∧ a.defers = [])
      clear h1 h2 h3 h4
      refine wp_cond_false t266 ?_
      refine wp_skip ?_
      clear t266
      refine wp_region_sq (σ := Unit) 267 [(0, 245), (1, 246), (2, 36)] (fun j_ s X => match j_ with | 0 => Below X27.heap.size X27 X | 1 => Below X27.heap.size X27 X | 2 => Below X27.heap.size X27 X | _ => Below X27.heap.size X27 X) (fun s => fun i_ => match i_ with | 0 => .int .i64 ((i : Nat) : Int) | 1 => .int .i64 ((i + 1 : Nat) : Int) | 2 => .int .i64 ((i + 1 : Nat) : Int) | _ => undef) () A.1 (by kernel_rfl) (by decide) (by decide) (BB) ?_ ?_
      · intro i_ hi_ s a X hf hv hn hS
        match i_, hi_ with
        | 0, _ => exact stepV rfl rfl (execMvB rfl ((hn 2 (by omega) _ rfl _ rfl).trans t36)) ⟨s, ⟨_, rfl, rfl⟩, hS, fun _ _ => rfl⟩
        | 1, _ => exact stepV rfl rfl (execAd8 (p := i) (q := 1) rfl (hv 0 (by omega) _ rfl _ rfl) rfl (by omega)) ⟨s, ⟨_, rfl, rfl⟩, hS, fun _ _ => rfl⟩
        | 2, _ => exact stepV rfl rfl (execAsgB rfl (hv 1 (by omega) _ rfl _ rfl)) ⟨s, ⟨_, rfl, rfl⟩, hS, fun _ _ => rfl⟩
        | k_ + 3, h_ => exact absurd h_ (by simp)
      rintro _ a X29 h1 h2 h3 h4 hS
      clear BB
      replace hS : Below X27.heap.size X27 X29 := hS
      have BB := hS
      clear hS
      replace t3 := (h3 3 (by decide)).trans t3
      replace t32 := (h3 32 (by decide)).trans t32
      replace t33 := (h3 33 (by decide)).trans t33
      replace t34 := (h3 34 (by decide)).trans t34
      replace t35 := (h3 35 (by decide)).trans t35
      replace t36 : a.eval (.tmp 36) = .int .i64 ((i + 1 : Nat) : Int) := h4 2 _ rfl _ rfl
      replace A := (⟨h1, h2.trans A.2⟩ : a.tmps.size = 267 ∧ a.defers = [])
      clear h1 h2 h3 h4
      exact ⟨⟨i + 1, hlt, A, t3, t32, t33, t34, t35, t36, BB⟩, by show n - (intOf (a.eval (.tmp 36))).toNat < n - (intOf (Act.eval _ (.tmp 36))).toNat; rw [t36, e36]; show n - (i + 1) < n - i; omega⟩
    · rw [decide_eq_false hlt] at t244
      refine wp_cond_false t244 ?_
      refine wp_exit ?_
      first | refine exit_in ?_ | refine exit_then (exit_in ?_) | refine exit_then (exit_then (exit_in ?_))
      clear t244
      refine wp_seq ?_
      refine wp_region_sq (σ := Unit) 267 [(0, 8)] (fun j_ s X => match j_ with | 0 => Below X27.heap.size X27 X | _ => Below X27.heap.size X27 X) (fun s => fun i_ => match i_ with | 0 => .bool true | _ => undef) () A.1 (by kernel_rfl) (by decide) (by decide) (BB) ?_ ?_
      · intro i_ hi_ s a X hf hv hn hS
        match i_, hi_ with
        | 0, _ => exact stepV rfl rfl (execAsgB rfl rfl) ⟨s, ⟨_, rfl, rfl⟩, hS, fun _ _ => rfl⟩
        | k_ + 1, h_ => exact absurd h_ (by simp)
      rintro _ a X32 h1 h2 h3 h4 hS
      clear BB
      replace hS : Below X27.heap.size X27 X32 := hS
      have BB := hS
      clear hS
      have t8 : a.eval (.tmp 8) = .bool true := h4 0 _ rfl _ rfl
      replace A := (⟨h1, h2.trans A.2⟩ : a.tmps.size = 267 ∧ a.defers = [])
      clear h1 h2 h3 h4
      clear t3 t32 t33 t34 t35 t36
      replace BW := BW.trans (BB.mono BW.size)
      refine wp_ret ?_
      repeat (first | refine ret_in ?_ | refine ret_then ?_)
      refine bodyPost_ret (results_tmp rfl _ _ _) A.2 ⟨?_, BW⟩
      show Ending.returned (a.eval (.tmp 8)) = _
      rw [t8]
  · have e1 : apE g n m = 110 := if_neg (fun q => hnm q.2)
    rw [e1, zl_no (by decide)] at Fv173
    rw [e1] at t18
    refine wp_region_sq (σ := Unit) 267 [(0, 176), (1, 177), (2, 178), (3, 179), (4, 180)] (fun j_ s X => match j_ with | 0 => Below X19.heap.size X19 X | 1 => Below X19.heap.size X19 X | 2 => Below X19.heap.size X19 X | 3 => Below X19.heap.size X19 X | 4 => Below X19.heap.size X19 X | _ => Below X19.heap.size X19 X) (fun s => fun i_ => match i_ with | 0 => sv | 1 => .int .i64 ((m : Nat) : Int) | 2 => pv | 3 => .int .i64 ((n : Nat) : Int) | 4 => .bool true | _ => undef) () A.1 (by kernel_rfl) (by decide) (by decide) (Below.refl _ _) ?_ ?_
    · intro i_ hi_ s a X hf hv hn hS
      match i_, hi_ with
      | 0, _ => exact stepV rfl rfl (execMvB rfl ((hf 3 (by decide)).trans t3)) ⟨s, ⟨_, rfl, rfl⟩, hS, fun _ _ => rfl⟩
      | 1, _ => exact stepV rfl rfl (execLenS (len := m) rfl (hv 0 (by omega) _ rfl _ rfl) ((FXs.on hS)).shp) ⟨s, ⟨_, rfl, rfl⟩, hS, fun _ _ => rfl⟩
      | 2, _ => exact stepV rfl rfl (execMvB rfl ((hf 0 (by decide)).trans t0)) ⟨s, ⟨_, rfl, rfl⟩, hS, fun _ _ => rfl⟩
      | 3, _ => exact stepV rfl rfl (execLenI (len := n) rfl (hv 2 (by omega) _ rfl _ rfl) ((FP.on hS)).shp) ⟨s, ⟨_, rfl, rfl⟩, hS, fun _ _ => rfl⟩
      | 4, _ => exact stepV rfl rfl (execDec (execNeN (p := m) (q := n) rfl (hv 1 (by omega) _ rfl _ rfl) (hv 3 (by omega) _ rfl _ rfl)) (decide_eq_true (by omega))) ⟨s, ⟨_, rfl, rfl⟩, hS, fun _ _ => rfl⟩
      | k_ + 5, h_ => exact absurd h_ (by simp)
    rintro _ a X20 h1 h2 h3 h4 hS
    replace hS : Below X19.heap.size X19 X20 := hS
    have bX := hS
    clear hS
    replace t32 := (h3 32 (by decide)).trans t32
    replace t18 := (h3 18 (by decide)).trans t18
    have t180 : a.eval (.tmp 180) = .bool true := h4 4 _ rfl _ rfl
    replace FP := (FP.on bX)
    replace FQ := (FQ.on bX)
    replace FXs := (FXs.on bX)
    replace FPQ := (FPQ.on bX)
    replace FIN := (FIN.on bX)
    replace Fv173 := (Fv173.on bX)
    have ZX20 := bX.size
    replace BW := BW.trans (bX.mono BW.size)
    clear bX
    replace A := (⟨h1, h2.trans A.2⟩ : a.tmps.size = 267 ∧ a.defers = [])
    clear h1 h2 h3 h4
    clear t0 t1 t3 t13 t26
    refine wp_cond_true t180 ?_
    refine wp_seq ?_
    clear t180
    refine wp_region_sq (σ := Unit) 267 [(0, 181), (1, 182), (2, 183), (3, 184), (4, 185), (5, 186), (6, 187), (7, 8)] (fun j_ s X => match j_ with | 0 => Below X20.heap.size X20 X | 1 => Below X20.heap.size X20 X | 2 => Below X20.heap.size X20 X | 3 => Below X20.heap.size X20 X | 4 => Below X20.heap.size X20 X | 5 => Below X20.heap.size X20 X | 6 => Below X20.heap.size X20 X | 7 => Below X20.heap.size X20 X | _ => Below X20.heap.size X20 X) (fun s => fun i_ => match i_ with | 0 => .int .i64 ((110 : Nat) : Int) | 1 => .bool true | 2 => .bool true | 3 => v173 | 4 => .int .i64 ((0 : Nat) : Int) | 5 => .bool true | 6 => .bool true | 7 => .bool true | _ => undef) () A.1 (by kernel_rfl) (by decide) (by decide) (Below.refl _ _) ?_ ?_
    · intro i_ hi_ s a X hf hv hn hS
      match i_, hi_ with
      | 0, _ => exact stepV rfl rfl (execMvB rfl ((hf 18 (by decide)).trans t18)) ⟨s, ⟨_, rfl, rfl⟩, hS, fun _ _ => rfl⟩
      | 1, _ => exact stepV rfl rfl (execDec (execEqE (p := 110) (q := 110) rfl (hv 0 (by omega) _ rfl _ rfl) rfl) (decide_eq_true (by rfl))) ⟨s, ⟨_, rfl, rfl⟩, hS, fun _ _ => rfl⟩
      | 2, _ => exact stepV rfl rfl (execMvB rfl (hv 1 (by omega) _ rfl _ rfl)) ⟨s, ⟨_, rfl, rfl⟩, hS, fun _ _ => rfl⟩
      | 3, _ => exact stepV rfl (wantedOf rfl (yieldedAt rfl rfl (show a.eval (.tmp 183) = .bool true from (hv 2 (by omega) _ rfl _ rfl)))) (execMvB rfl ((hf 32 (by decide)).trans t32)) ⟨s, ⟨_, rfl, rfl⟩, hS, fun _ _ => rfl⟩
      | 4, _ => exact stepV rfl (wantedOf rfl (yieldedAt rfl rfl (show a.eval (.tmp 183) = .bool true from (hv 2 (by omega) _ rfl _ rfl)))) (execLenS (len := 0) rfl (hv 3 (by omega) _ rfl _ rfl) ((Fv173.on hS)).shp) ⟨s, ⟨_, rfl, rfl⟩, hS, fun _ _ => rfl⟩
      | 5, _ => exact stepV rfl (wantedOf rfl (yieldedAt rfl rfl (show a.eval (.tmp 183) = .bool true from (hv 2 (by omega) _ rfl _ rfl)))) (execDec (execEqN (p := 0) (q := 0) rfl (hv 4 (by omega) _ rfl _ rfl) rfl) (decide_eq_true (by rfl))) ⟨s, ⟨_, rfl, rfl⟩, hS, fun _ _ => rfl⟩
      | 6, _ => exact stepV rfl rfl (execPickT rfl (hv 2 (by omega) _ rfl _ rfl) (hv 5 (by omega) _ rfl _ rfl)) ⟨s, ⟨_, rfl, rfl⟩, hS, fun _ _ => rfl⟩
      | 7, _ => exact stepV rfl rfl (execAsgB rfl (hv 6 (by omega) _ rfl _ rfl)) ⟨s, ⟨_, rfl, rfl⟩, hS, fun _ _ => rfl⟩
      | k_ + 8, h_ => exact absurd h_ (by simp)
    rintro _ a X21 h1 h2 h3 h4 hS
    replace hS : Below X20.heap.size X20 X21 := hS
    have bX := hS
    clear hS
    have t8 : a.eval (.tmp 8) = .bool true := h4 7 _ rfl _ rfl
    replace FP := (FP.on bX)
    replace FQ := (FQ.on bX)
    replace FXs := (FXs.on bX)
    replace FPQ := (FPQ.on bX)
    replace FIN := (FIN.on bX)
    replace Fv173 := (Fv173.on bX)
    have ZX21 := bX.size
    replace BW := BW.trans (bX.mono BW.size)
    clear bX
    replace A := (⟨h1, h2.trans A.2⟩ : a.tmps.size = 267 ∧ a.defers = [])
    clear h1 h2 h3 h4
    clear t32 t18
    refine wp_ret ?_
    repeat (first | refine ret_in ?_ | refine ret_then ?_)
    refine bodyPost_ret (results_tmp rfl _ _ _) A.2 ⟨?_, BW⟩
    show Ending.returned (a.eval (.tmp 8)) = _
    rw [t8]
set_option maxRecDepth 100000 in
set_option maxHeartbeats 4000000 in
/-- PermGroup. -/
theorem group_any (I : Impl) (J : ImplS) (f g h : Nat → Int) (sf : Nat → ByteArray) (n m k l : Nat) (pv qv rv sv : Value) (V : World) (hp0 : SliceI V pv n f) (hn17 : n ≤ 17592186044416) (hq0 : SliceI V qv m g) (hm17 : m ≤ 17592186044416) (hr0 : SliceI V rv k h) (hk17 : k ≤ 17592186044416) (hs0 : SliceS V sv l sf) (hl17 : l ≤ 17592186044416) :
    Calls Try.prog 6 #[pv, qv, rv, sv] V fun e w' => e = .returned (.bool true) ∧ Below V.heap.size V w' := by
  have FP := hp0
  have FQ := hq0
  have FR := hr0
  have FXs := hs0
  go_enter Try.func6, Try.ntmps6
  refine wp_seq ?_
  refine wp_region_sqK 267 [(0, 8)] (fun i_ => match i_ with | 0 => .bool false | _ => undef) rfl (by kernel_rfl) (by decide) (by decide) ?_ ?_
  · intro i_ hi_ a hf hv hn
    match i_, hi_ with
    | 0, _ => exact stepV rfl rfl (execAsgB rfl rfl) ⟨⟨_, rfl, rfl⟩, rfl⟩
    | k_ + 1, h_ => exact absurd h_ (by simp)
  intro a h1 h2 h3 h4
  have t0 : a.eval (.tmp 0) = pv := (h3 0 (by decide)).trans rfl
  have t1 : a.eval (.tmp 1) = qv := (h3 1 (by decide)).trans rfl
  have t2 : a.eval (.tmp 2) = rv := (h3 2 (by decide)).trans rfl
  have t3 : a.eval (.tmp 3) = sv := (h3 3 (by decide)).trans rfl
  have A : a.tmps.size = 267 ∧ a.defers = [] := ⟨h1, h2⟩
  have BW : Below V.heap.size V V := Below.refl _ _
  clear h1 h2 h3 h4
  refine wp_seq ?_
  refine wp_seq ?_
  refine wp_region_sq (σ := Unit) 267 [(0, 37), (1, 38)] (fun j_ s X => match j_ with | 0 => Below V.heap.size V X | 1 => Below V.heap.size V X | _ => Below V.heap.size V X) (fun s => fun i_ => match i_ with | 0 => .bool true | 1 => .bool false | _ => undef) () A.1 (by kernel_rfl) (by decide) (by decide) (Below.refl _ _) ?_ ?_
  · intro i_ hi_ s a X hf hv hn hS
    match i_, hi_ with
    | 0, _ => exact stepC rfl rfl (execCall0 Try.func9 (by kernel_rfl) (by kernel_rfl) rfl ) (awake11 I X) fun e w' hh => ⟨_, hh.1, s, ⟨_, rfl, rfl⟩, (hS).trans ((hh.2).mono (hS).size), fun _ _ => rfl⟩
    | 1, _ => exact stepV rfl rfl (execNot8 rfl (hv 0 (by omega) _ rfl _ rfl)) ⟨s, ⟨_, rfl, rfl⟩, hS, fun _ _ => rfl⟩
    | k_ + 2, h_ => exact absurd h_ (by simp)
  rintro _ a X1 h1 h2 h3 h4 hS
  replace hS : Below V.heap.size V X1 := hS
  have bX := hS
  clear hS
  replace t0 := (h3 0 (by decide)).trans t0
  replace t1 := (h3 1 (by decide)).trans t1
  replace t2 := (h3 2 (by decide)).trans t2
  replace t3 := (h3 3 (by decide)).trans t3
  have t38 : a.eval (.tmp 38) = .bool false := h4 1 _ rfl _ rfl
  replace FP := (FP.on bX)
  replace FQ := (FQ.on bX)
  replace FR := (FR.on bX)
  replace FXs := (FXs.on bX)
  have ZX1 := bX.size
  replace BW := BW.trans (bX.mono BW.size)
  clear bX
  replace A := (⟨h1, h2.trans A.2⟩ : a.tmps.size = 267 ∧ a.defers = [])
  clear h1 h2 h3 h4
  refine wp_cond_false t38 ?_
  refine wp_skip ?_
  clear t38
  refine wp_seq ?_
  refine wp_seq ?_
  by_cases h3 : pE f n = 0 ∧ pE g m = 0 ∧ pE h k = 0 ∧ n = m ∧ m = k
  · have hth : ∀ X, Below X1.heap.size X1 X → Calls Try.prog 30 #[pv, qv, rv] X fun e w' => e = .returned (.bool true) ∧ Below X.heap.size X w' := fun X hX => by have h_ := three_any I f g h n m k _ _ _ X (FP.on hX) hn17 (FQ.on hX) hm17 (FR.on hX) hk17; rw [decide_eq_true h3] at h_; exact h_
    refine wp_region_sq (σ := Unit) 267 [(0, 39), (1, 40), (2, 41), (3, 42), (4, 43)] (fun j_ s X => match j_ with | 0 => Below X1.heap.size X1 X | 1 => Below X1.heap.size X1 X | 2 => Below X1.heap.size X1 X | 3 => Below X1.heap.size X1 X | 4 => Below X1.heap.size X1 X | _ => Below X1.heap.size X1 X) (fun s => fun i_ => match i_ with | 0 => pv | 1 => qv | 2 => rv | 3 => .bool true | 4 => .bool false | _ => undef) () A.1 (by kernel_rfl) (by decide) (by decide) (Below.refl _ _) ?_ ?_
    · intro i_ hi_ s a X hf hv hn hS
      match i_, hi_ with
      | 0, _ => exact stepV rfl rfl (execMvB rfl ((hf 0 (by decide)).trans t0)) ⟨s, ⟨_, rfl, rfl⟩, hS, fun _ _ => rfl⟩
      | 1, _ => exact stepV rfl rfl (execMvB rfl ((hf 1 (by decide)).trans t1)) ⟨s, ⟨_, rfl, rfl⟩, hS, fun _ _ => rfl⟩
      | 2, _ => exact stepV rfl rfl (execMvB rfl ((hf 2 (by decide)).trans t2)) ⟨s, ⟨_, rfl, rfl⟩, hS, fun _ _ => rfl⟩
      | 3, _ => exact stepC rfl rfl (execCall3 Try.func30 (by kernel_rfl) (by kernel_rfl) rfl (hv 0 (by omega) _ rfl _ rfl) (hv 1 (by omega) _ rfl _ rfl) (hv 2 (by omega) _ rfl _ rfl)) (hth X hS) fun e w' hh => ⟨_, hh.1, s, ⟨_, rfl, rfl⟩, (hS).trans ((hh.2).mono (hS).size), fun _ _ => rfl⟩
      | 4, _ => exact stepV rfl rfl (execNot8 rfl (hv 3 (by omega) _ rfl _ rfl)) ⟨s, ⟨_, rfl, rfl⟩, hS, fun _ _ => rfl⟩
      | k_ + 5, h_ => exact absurd h_ (by simp)
    rintro _ a X3 h1 h2 h3 h4 hS
    replace hS : Below X1.heap.size X1 X3 := hS
    have bX := hS
    clear hS
    replace t0 := (h3 0 (by decide)).trans t0
    replace t1 := (h3 1 (by decide)).trans t1
    replace t2 := (h3 2 (by decide)).trans t2
    replace t3 := (h3 3 (by decide)).trans t3
    have t43 : a.eval (.tmp 43) = .bool false := h4 4 _ rfl _ rfl
    replace FP := (FP.on bX)
    replace FQ := (FQ.on bX)
    replace FR := (FR.on bX)
    replace FXs := (FXs.on bX)
    have ZX3 := bX.size
    replace BW := BW.trans (bX.mono BW.size)
    clear bX
    replace A := (⟨h1, h2.trans A.2⟩ : a.tmps.size = 267 ∧ a.defers = [])
    clear h1 h2 h3 h4
    clear hth
    refine wp_cond_false t43 ?_
    refine wp_skip ?_
    clear t43
    obtain ⟨hf, hg, hh, e1, e2⟩ := h3
    subst e1
    subst e2
    have hP : IsP (gN f) n := isP_of (pE_0 hf)
    have hidE := pE_id n
    have hinE := pE_inv hf
    refine wp_seq ?_
    refine wp_region_sq (σ := Value) 267 [(0, 63), (1, 64), (2, 65), (3, 62), (4, 66), (5, 67), (6, 13), (7, 14)] (fun j_ s X => match j_ with | 0 => Below X3.heap.size X3 X | 1 => Below X3.heap.size X3 X | 2 => Below X3.heap.size X3 X | 3 => Below X3.heap.size X3 X ∧ (SliceI X s (zl (coE f n g n) n) (fun j => g (f j).toNat)) | 4 => Below X3.heap.size X3 X ∧ (SliceI X s (zl (coE f n g n) n) (fun j => g (f j).toNat)) | 5 => Below X3.heap.size X3 X ∧ (SliceI X s (zl (coE f n g n) n) (fun j => g (f j).toNat)) | 6 => Below X3.heap.size X3 X ∧ (SliceI X s (zl (coE f n g n) n) (fun j => g (f j).toNat)) | 7 => Below X3.heap.size X3 X ∧ (SliceI X s (zl (coE f n g n) n) (fun j => g (f j).toNat)) | _ => Below X3.heap.size X3 X ∧ (SliceI X s (zl (coE f n g n) n) (fun j => g (f j).toNat))) (fun s => fun i_ => match i_ with | 0 => pv | 1 => qv | 2 => .tuple #[s, .int .i64 ((coE f n g n : Nat) : Int)] | 3 => .tuple #[s, .int .i64 ((coE f n g n : Nat) : Int)] | 4 => s | 5 => .int .i64 ((coE f n g n : Nat) : Int) | 6 => s | 7 => .int .i64 ((coE f n g n : Nat) : Int) | _ => undef) undef A.1 (by kernel_rfl) (by decide) (by decide) (Below.refl _ _) ?_ ?_
    · intro i_ hi_ s a X hf hv hn hS
      match i_, hi_ with
      | 0, _ => exact stepV rfl rfl (execMvB rfl ((hf 0 (by decide)).trans t0)) ⟨s, ⟨_, rfl, rfl⟩, hS, fun _ _ => rfl⟩
      | 1, _ => exact stepV rfl rfl (execMvB rfl ((hf 1 (by decide)).trans t1)) ⟨s, ⟨_, rfl, rfl⟩, hS, fun _ _ => rfl⟩
      | 2, _ =>
        refine stepC rfl rfl (execCall2 Try.func28 (by kernel_rfl) (by kernel_rfl) rfl (hv 0 (by omega) _ rfl _ rfl) (hv 1 (by omega) _ rfl _ rfl)) (I.compose f g n n _ _ X (FP.on hS) (by omega) (FQ.on hS) (by omega)) fun e w' hh => ?_
        obtain ⟨r_, he, hk, hb⟩ := hh
        refine ⟨_, he, r_, ⟨_, rfl, rfl⟩, ⟨(hS).trans ((hb).mono (hS).size), own_ints hk (co_fits ((FQ.on hS)).fits)⟩, fun i hi => ?_⟩
        match i, hi with
        | 0, _ => rfl
        | 1, _ => rfl
        | n_ + 2, h_ => omega
      | 3, _ => exact stepV rfl rfl (execMvB rfl (hv 2 (by omega) _ rfl _ rfl)) ⟨s, ⟨_, rfl, rfl⟩, hS, fun _ _ => rfl⟩
      | 4, _ => exact stepV rfl rfl (execExtT rfl (hv 3 (by omega) _ rfl _ rfl) rfl) ⟨s, ⟨_, rfl, rfl⟩, hS, fun _ _ => rfl⟩
      | 5, _ => exact stepV rfl rfl (execExtT rfl (hv 3 (by omega) _ rfl _ rfl) rfl) ⟨s, ⟨_, rfl, rfl⟩, hS, fun _ _ => rfl⟩
      | 6, _ => exact stepV rfl rfl (execAsgB rfl (hv 4 (by omega) _ rfl _ rfl)) ⟨s, ⟨_, rfl, rfl⟩, hS, fun _ _ => rfl⟩
      | 7, _ => exact stepV rfl rfl (execAsgB rfl (hv 5 (by omega) _ rfl _ rfl)) ⟨s, ⟨_, rfl, rfl⟩, hS, fun _ _ => rfl⟩
      | k_ + 8, h_ => exact absurd h_ (by simp)
    rintro v65 a X7 h1 h2 h3 h4 hS
    replace hS : Below X3.heap.size X3 X7 ∧ (SliceI X7 v65 (zl (coE f n g n) n) (fun j => g (f j).toNat)) := hS
    obtain ⟨bX, Fv65⟩ := hS
    replace t0 := (h3 0 (by decide)).trans t0
    replace t1 := (h3 1 (by decide)).trans t1
    replace t2 := (h3 2 (by decide)).trans t2
    replace t3 := (h3 3 (by decide)).trans t3
    have t13 : a.eval (.tmp 13) = v65 := h4 6 _ rfl _ rfl
    have t14 : a.eval (.tmp 14) = .int .i64 ((coE f n g n : Nat) : Int) := h4 7 _ rfl _ rfl
    replace FP := (FP.on bX)
    replace FQ := (FQ.on bX)
    replace FR := (FR.on bX)
    replace FXs := (FXs.on bX)
    have ZX7 := bX.size
    replace BW := BW.trans (bX.mono BW.size)
    clear bX
    replace A := (⟨h1, h2.trans A.2⟩ : a.tmps.size = 267 ∧ a.defers = [])
    clear h1 h2 h3 h4
    have E1 : coE (f) n (g) n = 0 := if_pos ⟨hf, hg, rfl⟩
    rw [E1, zl_ok] at Fv65
    rw [E1] at t14
    refine wp_seq ?_
    refine wp_region_sq (σ := Value) 267 [(0, 69), (1, 70), (2, 71), (3, 68), (4, 72), (5, 73), (6, 15), (7, 16)] (fun j_ s X => match j_ with | 0 => Below X7.heap.size X7 X | 1 => Below X7.heap.size X7 X | 2 => Below X7.heap.size X7 X | 3 => Below X7.heap.size X7 X ∧ (SliceI X s (zl (coE g n h n) n) (fun j => h (g j).toNat)) | 4 => Below X7.heap.size X7 X ∧ (SliceI X s (zl (coE g n h n) n) (fun j => h (g j).toNat)) | 5 => Below X7.heap.size X7 X ∧ (SliceI X s (zl (coE g n h n) n) (fun j => h (g j).toNat)) | 6 => Below X7.heap.size X7 X ∧ (SliceI X s (zl (coE g n h n) n) (fun j => h (g j).toNat)) | 7 => Below X7.heap.size X7 X ∧ (SliceI X s (zl (coE g n h n) n) (fun j => h (g j).toNat)) | _ => Below X7.heap.size X7 X ∧ (SliceI X s (zl (coE g n h n) n) (fun j => h (g j).toNat))) (fun s => fun i_ => match i_ with | 0 => qv | 1 => rv | 2 => .tuple #[s, .int .i64 ((coE g n h n : Nat) : Int)] | 3 => .tuple #[s, .int .i64 ((coE g n h n : Nat) : Int)] | 4 => s | 5 => .int .i64 ((coE g n h n : Nat) : Int) | 6 => s | 7 => .int .i64 ((coE g n h n : Nat) : Int) | _ => undef) undef A.1 (by kernel_rfl) (by decide) (by decide) (Below.refl _ _) ?_ ?_
    · intro i_ hi_ s a X hf hv hn hS
      match i_, hi_ with
      | 0, _ => exact stepV rfl rfl (execMvB rfl ((hf 1 (by decide)).trans t1)) ⟨s, ⟨_, rfl, rfl⟩, hS, fun _ _ => rfl⟩
      | 1, _ => exact stepV rfl rfl (execMvB rfl ((hf 2 (by decide)).trans t2)) ⟨s, ⟨_, rfl, rfl⟩, hS, fun _ _ => rfl⟩
      | 2, _ =>
        refine stepC rfl rfl (execCall2 Try.func28 (by kernel_rfl) (by kernel_rfl) rfl (hv 0 (by omega) _ rfl _ rfl) (hv 1 (by omega) _ rfl _ rfl)) (I.compose g h n n _ _ X (FQ.on hS) (by omega) (FR.on hS) (by omega)) fun e w' hh => ?_
        obtain ⟨r_, he, hk, hb⟩ := hh
        refine ⟨_, he, r_, ⟨_, rfl, rfl⟩, ⟨(hS).trans ((hb).mono (hS).size), own_ints hk (co_fits ((FR.on hS)).fits)⟩, fun i hi => ?_⟩
        match i, hi with
        | 0, _ => rfl
        | 1, _ => rfl
        | n_ + 2, h_ => omega
      | 3, _ => exact stepV rfl rfl (execMvB rfl (hv 2 (by omega) _ rfl _ rfl)) ⟨s, ⟨_, rfl, rfl⟩, hS, fun _ _ => rfl⟩
      | 4, _ => exact stepV rfl rfl (execExtT rfl (hv 3 (by omega) _ rfl _ rfl) rfl) ⟨s, ⟨_, rfl, rfl⟩, hS, fun _ _ => rfl⟩
      | 5, _ => exact stepV rfl rfl (execExtT rfl (hv 3 (by omega) _ rfl _ rfl) rfl) ⟨s, ⟨_, rfl, rfl⟩, hS, fun _ _ => rfl⟩
      | 6, _ => exact stepV rfl rfl (execAsgB rfl (hv 4 (by omega) _ rfl _ rfl)) ⟨s, ⟨_, rfl, rfl⟩, hS, fun _ _ => rfl⟩
      | 7, _ => exact stepV rfl rfl (execAsgB rfl (hv 5 (by omega) _ rfl _ rfl)) ⟨s, ⟨_, rfl, rfl⟩, hS, fun _ _ => rfl⟩
      | k_ + 8, h_ => exact absurd h_ (by simp)
    rintro v71 a X8 h1 h2 h3 h4 hS
    replace hS : Below X7.heap.size X7 X8 ∧ (SliceI X8 v71 (zl (coE g n h n) n) (fun j => h (g j).toNat)) := hS
    obtain ⟨bX, Fv71⟩ := hS
    replace t0 := (h3 0 (by decide)).trans t0
    replace t1 := (h3 1 (by decide)).trans t1
    replace t2 := (h3 2 (by decide)).trans t2
    replace t3 := (h3 3 (by decide)).trans t3
    replace t13 := (h3 13 (by decide)).trans t13
    replace t14 := (h3 14 (by decide)).trans t14
    have t15 : a.eval (.tmp 15) = v71 := h4 6 _ rfl _ rfl
    have t16 : a.eval (.tmp 16) = .int .i64 ((coE g n h n : Nat) : Int) := h4 7 _ rfl _ rfl
    replace FP := (FP.on bX)
    replace FQ := (FQ.on bX)
    replace FR := (FR.on bX)
    replace FXs := (FXs.on bX)
    replace Fv65 := (Fv65.on bX)
    have ZX8 := bX.size
    replace BW := BW.trans (bX.mono BW.size)
    clear bX
    replace A := (⟨h1, h2.trans A.2⟩ : a.tmps.size = 267 ∧ a.defers = [])
    clear h1 h2 h3 h4
    have E2 : coE (g) n (h) n = 0 := if_pos ⟨hg, hh, rfl⟩
    rw [E2, zl_ok] at Fv71
    rw [E2] at t16
    refine wp_seq ?_
    refine wp_region_sq (σ := Value) 267 [(0, 75), (1, 76), (2, 77), (3, 74), (4, 78), (5, 79), (6, 17), (7, 18)] (fun j_ s X => match j_ with | 0 => Below X8.heap.size X8 X | 1 => Below X8.heap.size X8 X | 2 => Below X8.heap.size X8 X | 3 => Below X8.heap.size X8 X ∧ (SliceI X s (zl (coE (fun j => g (f j).toNat) n h n) n) (fun j => h ((fun j => g (f j).toNat) j).toNat)) | 4 => Below X8.heap.size X8 X ∧ (SliceI X s (zl (coE (fun j => g (f j).toNat) n h n) n) (fun j => h ((fun j => g (f j).toNat) j).toNat)) | 5 => Below X8.heap.size X8 X ∧ (SliceI X s (zl (coE (fun j => g (f j).toNat) n h n) n) (fun j => h ((fun j => g (f j).toNat) j).toNat)) | 6 => Below X8.heap.size X8 X ∧ (SliceI X s (zl (coE (fun j => g (f j).toNat) n h n) n) (fun j => h ((fun j => g (f j).toNat) j).toNat)) | 7 => Below X8.heap.size X8 X ∧ (SliceI X s (zl (coE (fun j => g (f j).toNat) n h n) n) (fun j => h ((fun j => g (f j).toNat) j).toNat)) | _ => Below X8.heap.size X8 X ∧ (SliceI X s (zl (coE (fun j => g (f j).toNat) n h n) n) (fun j => h ((fun j => g (f j).toNat) j).toNat))) (fun s => fun i_ => match i_ with | 0 => v65 | 1 => rv | 2 => .tuple #[s, .int .i64 ((coE (fun j => g (f j).toNat) n h n : Nat) : Int)] | 3 => .tuple #[s, .int .i64 ((coE (fun j => g (f j).toNat) n h n : Nat) : Int)] | 4 => s | 5 => .int .i64 ((coE (fun j => g (f j).toNat) n h n : Nat) : Int) | 6 => s | 7 => .int .i64 ((coE (fun j => g (f j).toNat) n h n : Nat) : Int) | _ => undef) undef A.1 (by kernel_rfl) (by decide) (by decide) (Below.refl _ _) ?_ ?_
    · intro i_ hi_ s a X hf hv hn hS
      match i_, hi_ with
      | 0, _ => exact stepV rfl rfl (execMvB rfl ((hf 13 (by decide)).trans t13)) ⟨s, ⟨_, rfl, rfl⟩, hS, fun _ _ => rfl⟩
      | 1, _ => exact stepV rfl rfl (execMvB rfl ((hf 2 (by decide)).trans t2)) ⟨s, ⟨_, rfl, rfl⟩, hS, fun _ _ => rfl⟩
      | 2, _ =>
        refine stepC rfl rfl (execCall2 Try.func28 (by kernel_rfl) (by kernel_rfl) rfl (hv 0 (by omega) _ rfl _ rfl) (hv 1 (by omega) _ rfl _ rfl)) (I.compose (fun j => g (f j).toNat) h n n _ _ X (Fv65.on hS) (by omega) (FR.on hS) (by omega)) fun e w' hh => ?_
        obtain ⟨r_, he, hk, hb⟩ := hh
        refine ⟨_, he, r_, ⟨_, rfl, rfl⟩, ⟨(hS).trans ((hb).mono (hS).size), own_ints hk (co_fits ((FR.on hS)).fits)⟩, fun i hi => ?_⟩
        match i, hi with
        | 0, _ => rfl
        | 1, _ => rfl
        | n_ + 2, h_ => omega
      | 3, _ => exact stepV rfl rfl (execMvB rfl (hv 2 (by omega) _ rfl _ rfl)) ⟨s, ⟨_, rfl, rfl⟩, hS, fun _ _ => rfl⟩
      | 4, _ => exact stepV rfl rfl (execExtT rfl (hv 3 (by omega) _ rfl _ rfl) rfl) ⟨s, ⟨_, rfl, rfl⟩, hS, fun _ _ => rfl⟩
      | 5, _ => exact stepV rfl rfl (execExtT rfl (hv 3 (by omega) _ rfl _ rfl) rfl) ⟨s, ⟨_, rfl, rfl⟩, hS, fun _ _ => rfl⟩
      | 6, _ => exact stepV rfl rfl (execAsgB rfl (hv 4 (by omega) _ rfl _ rfl)) ⟨s, ⟨_, rfl, rfl⟩, hS, fun _ _ => rfl⟩
      | 7, _ => exact stepV rfl rfl (execAsgB rfl (hv 5 (by omega) _ rfl _ rfl)) ⟨s, ⟨_, rfl, rfl⟩, hS, fun _ _ => rfl⟩
      | k_ + 8, h_ => exact absurd h_ (by simp)
    rintro v77 a X9 h1 h2 h3 h4 hS
    replace hS : Below X8.heap.size X8 X9 ∧ (SliceI X9 v77 (zl (coE (fun j => g (f j).toNat) n h n) n) (fun j => h ((fun j => g (f j).toNat) j).toNat)) := hS
    obtain ⟨bX, Fv77⟩ := hS
    replace t0 := (h3 0 (by decide)).trans t0
    replace t1 := (h3 1 (by decide)).trans t1
    replace t2 := (h3 2 (by decide)).trans t2
    replace t3 := (h3 3 (by decide)).trans t3
    replace t13 := (h3 13 (by decide)).trans t13
    replace t14 := (h3 14 (by decide)).trans t14
    replace t15 := (h3 15 (by decide)).trans t15
    replace t16 := (h3 16 (by decide)).trans t16
    have t17 : a.eval (.tmp 17) = v77 := h4 6 _ rfl _ rfl
    have t18 : a.eval (.tmp 18) = .int .i64 ((coE (fun j => g (f j).toNat) n h n : Nat) : Int) := h4 7 _ rfl _ rfl
    replace FP := (FP.on bX)
    replace FQ := (FQ.on bX)
    replace FR := (FR.on bX)
    replace FXs := (FXs.on bX)
    replace Fv65 := (Fv65.on bX)
    replace Fv71 := (Fv71.on bX)
    have ZX9 := bX.size
    replace BW := BW.trans (bX.mono BW.size)
    clear bX
    replace A := (⟨h1, h2.trans A.2⟩ : a.tmps.size = 267 ∧ a.defers = [])
    clear h1 h2 h3 h4
    have E3 : coE (fun j => g (f j).toNat) n (h) n = 0 := if_pos ⟨pE_comp hf hg, hh, rfl⟩
    rw [E3, zl_ok] at Fv77
    rw [E3] at t18
    refine wp_seq ?_
    refine wp_region_sq (σ := Value) 267 [(0, 81), (1, 82), (2, 83), (3, 80), (4, 84), (5, 85), (6, 19), (7, 20)] (fun j_ s X => match j_ with | 0 => Below X9.heap.size X9 X | 1 => Below X9.heap.size X9 X | 2 => Below X9.heap.size X9 X | 3 => Below X9.heap.size X9 X ∧ (SliceI X s (zl (coE f n (fun j => h (g j).toNat) n) n) (fun j => (fun j => h (g j).toNat) (f j).toNat)) | 4 => Below X9.heap.size X9 X ∧ (SliceI X s (zl (coE f n (fun j => h (g j).toNat) n) n) (fun j => (fun j => h (g j).toNat) (f j).toNat)) | 5 => Below X9.heap.size X9 X ∧ (SliceI X s (zl (coE f n (fun j => h (g j).toNat) n) n) (fun j => (fun j => h (g j).toNat) (f j).toNat)) | 6 => Below X9.heap.size X9 X ∧ (SliceI X s (zl (coE f n (fun j => h (g j).toNat) n) n) (fun j => (fun j => h (g j).toNat) (f j).toNat)) | 7 => Below X9.heap.size X9 X ∧ (SliceI X s (zl (coE f n (fun j => h (g j).toNat) n) n) (fun j => (fun j => h (g j).toNat) (f j).toNat)) | _ => Below X9.heap.size X9 X ∧ (SliceI X s (zl (coE f n (fun j => h (g j).toNat) n) n) (fun j => (fun j => h (g j).toNat) (f j).toNat))) (fun s => fun i_ => match i_ with | 0 => pv | 1 => v71 | 2 => .tuple #[s, .int .i64 ((coE f n (fun j => h (g j).toNat) n : Nat) : Int)] | 3 => .tuple #[s, .int .i64 ((coE f n (fun j => h (g j).toNat) n : Nat) : Int)] | 4 => s | 5 => .int .i64 ((coE f n (fun j => h (g j).toNat) n : Nat) : Int) | 6 => s | 7 => .int .i64 ((coE f n (fun j => h (g j).toNat) n : Nat) : Int) | _ => undef) undef A.1 (by kernel_rfl) (by decide) (by decide) (Below.refl _ _) ?_ ?_
    · intro i_ hi_ s a X hf hv hn hS
      match i_, hi_ with
      | 0, _ => exact stepV rfl rfl (execMvB rfl ((hf 0 (by decide)).trans t0)) ⟨s, ⟨_, rfl, rfl⟩, hS, fun _ _ => rfl⟩
      | 1, _ => exact stepV rfl rfl (execMvB rfl ((hf 15 (by decide)).trans t15)) ⟨s, ⟨_, rfl, rfl⟩, hS, fun _ _ => rfl⟩
      | 2, _ =>
        refine stepC rfl rfl (execCall2 Try.func28 (by kernel_rfl) (by kernel_rfl) rfl (hv 0 (by omega) _ rfl _ rfl) (hv 1 (by omega) _ rfl _ rfl)) (I.compose f (fun j => h (g j).toNat) n n _ _ X (FP.on hS) (by omega) (Fv71.on hS) (by omega)) fun e w' hh => ?_
        obtain ⟨r_, he, hk, hb⟩ := hh
        refine ⟨_, he, r_, ⟨_, rfl, rfl⟩, ⟨(hS).trans ((hb).mono (hS).size), own_ints hk (co_fits ((Fv71.on hS)).fits)⟩, fun i hi => ?_⟩
        match i, hi with
        | 0, _ => rfl
        | 1, _ => rfl
        | n_ + 2, h_ => omega
      | 3, _ => exact stepV rfl rfl (execMvB rfl (hv 2 (by omega) _ rfl _ rfl)) ⟨s, ⟨_, rfl, rfl⟩, hS, fun _ _ => rfl⟩
      | 4, _ => exact stepV rfl rfl (execExtT rfl (hv 3 (by omega) _ rfl _ rfl) rfl) ⟨s, ⟨_, rfl, rfl⟩, hS, fun _ _ => rfl⟩
      | 5, _ => exact stepV rfl rfl (execExtT rfl (hv 3 (by omega) _ rfl _ rfl) rfl) ⟨s, ⟨_, rfl, rfl⟩, hS, fun _ _ => rfl⟩
      | 6, _ => exact stepV rfl rfl (execAsgB rfl (hv 4 (by omega) _ rfl _ rfl)) ⟨s, ⟨_, rfl, rfl⟩, hS, fun _ _ => rfl⟩
      | 7, _ => exact stepV rfl rfl (execAsgB rfl (hv 5 (by omega) _ rfl _ rfl)) ⟨s, ⟨_, rfl, rfl⟩, hS, fun _ _ => rfl⟩
      | k_ + 8, h_ => exact absurd h_ (by simp)
    rintro v83 a X10 h1 h2 h3 h4 hS
    replace hS : Below X9.heap.size X9 X10 ∧ (SliceI X10 v83 (zl (coE f n (fun j => h (g j).toNat) n) n) (fun j => (fun j => h (g j).toNat) (f j).toNat)) := hS
    obtain ⟨bX, Fv83⟩ := hS
    replace t0 := (h3 0 (by decide)).trans t0
    replace t1 := (h3 1 (by decide)).trans t1
    replace t2 := (h3 2 (by decide)).trans t2
    replace t3 := (h3 3 (by decide)).trans t3
    replace t13 := (h3 13 (by decide)).trans t13
    replace t14 := (h3 14 (by decide)).trans t14
    replace t15 := (h3 15 (by decide)).trans t15
    replace t16 := (h3 16 (by decide)).trans t16
    replace t17 := (h3 17 (by decide)).trans t17
    replace t18 := (h3 18 (by decide)).trans t18
    have t19 : a.eval (.tmp 19) = v83 := h4 6 _ rfl _ rfl
    have t20 : a.eval (.tmp 20) = .int .i64 ((coE f n (fun j => h (g j).toNat) n : Nat) : Int) := h4 7 _ rfl _ rfl
    replace FP := (FP.on bX)
    replace FQ := (FQ.on bX)
    replace FR := (FR.on bX)
    replace FXs := (FXs.on bX)
    replace Fv65 := (Fv65.on bX)
    replace Fv71 := (Fv71.on bX)
    replace Fv77 := (Fv77.on bX)
    have ZX10 := bX.size
    replace BW := BW.trans (bX.mono BW.size)
    clear bX
    replace A := (⟨h1, h2.trans A.2⟩ : a.tmps.size = 267 ∧ a.defers = [])
    clear h1 h2 h3 h4
    have E4 : coE (f) n (fun j => h (g j).toNat) n = 0 := if_pos ⟨hf, pE_comp hg hh, rfl⟩
    rw [E4, zl_ok] at Fv83
    rw [E4] at t20
    refine wp_seq ?_
    refine wp_region_sq (σ := Value) 267 [(0, 86), (1, 87), (2, 88), (3, 21)] (fun j_ s X => match j_ with | 0 => Below X10.heap.size X10 X | 1 => Below X10.heap.size X10 X | 2 => Below X10.heap.size X10 X | 3 => Below X10.heap.size X10 X ∧ (SliceI X s ((((n : Nat) : Int)).toNat) (fun j => (j : Int))) | _ => Below X10.heap.size X10 X ∧ (SliceI X s ((((n : Nat) : Int)).toNat) (fun j => (j : Int)))) (fun s => fun i_ => match i_ with | 0 => pv | 1 => .int .i64 ((n : Nat) : Int) | 2 => s | 3 => s | _ => undef) undef A.1 (by kernel_rfl) (by decide) (by decide) (Below.refl _ _) ?_ ?_
    · intro i_ hi_ s a X hf hv hn hS
      match i_, hi_ with
      | 0, _ => exact stepV rfl rfl (execMvB rfl ((hf 0 (by decide)).trans t0)) ⟨s, ⟨_, rfl, rfl⟩, hS, fun _ _ => rfl⟩
      | 1, _ => exact stepV rfl rfl (execLenI (len := n) rfl (hv 0 (by omega) _ rfl _ rfl) ((FP.on hS)).shp) ⟨s, ⟨_, rfl, rfl⟩, hS, fun _ _ => rfl⟩
      | 2, _ =>
        refine stepC rfl rfl (execCall1 Try.func22 (by kernel_rfl) (by kernel_rfl) rfl (hv 1 (by omega) _ rfl _ rfl)) (I.ident (((n : Nat) : Int)) X (by omega)) fun e w' hh => ?_
        obtain ⟨r_, he, hk, hb⟩ := hh
        refine ⟨_, he, r_, ⟨_, rfl, rfl⟩, ⟨(hS).trans ((hb).mono (hS).size), own_ints hk (fun j hj => by omega)⟩, fun i hi => ?_⟩
        match i, hi with
        | 0, _ => rfl
        | 1, _ => rfl
        | n_ + 2, h_ => omega
      | 3, _ => exact stepV rfl rfl (execAsgB rfl (hv 2 (by omega) _ rfl _ rfl)) ⟨s, ⟨_, rfl, rfl⟩, hS, fun _ _ => rfl⟩
      | k_ + 4, h_ => exact absurd h_ (by simp)
    rintro v88 a X11 h1 h2 h3 h4 hS
    replace hS : Below X10.heap.size X10 X11 ∧ (SliceI X11 v88 ((((n : Nat) : Int)).toNat) (fun j => (j : Int))) := hS
    obtain ⟨bX, Fv88⟩ := hS
    replace t0 := (h3 0 (by decide)).trans t0
    replace t1 := (h3 1 (by decide)).trans t1
    replace t2 := (h3 2 (by decide)).trans t2
    replace t3 := (h3 3 (by decide)).trans t3
    replace t13 := (h3 13 (by decide)).trans t13
    replace t14 := (h3 14 (by decide)).trans t14
    replace t15 := (h3 15 (by decide)).trans t15
    replace t16 := (h3 16 (by decide)).trans t16
    replace t17 := (h3 17 (by decide)).trans t17
    replace t18 := (h3 18 (by decide)).trans t18
    replace t19 := (h3 19 (by decide)).trans t19
    replace t20 := (h3 20 (by decide)).trans t20
    have t21 : a.eval (.tmp 21) = v88 := h4 3 _ rfl _ rfl
    replace FP := (FP.on bX)
    replace FQ := (FQ.on bX)
    replace FR := (FR.on bX)
    replace FXs := (FXs.on bX)
    replace Fv65 := (Fv65.on bX)
    replace Fv71 := (Fv71.on bX)
    replace Fv77 := (Fv77.on bX)
    replace Fv83 := (Fv83.on bX)
    have ZX11 := bX.size
    replace BW := BW.trans (bX.mono BW.size)
    clear bX
    replace A := (⟨h1, h2.trans A.2⟩ : a.tmps.size = 267 ∧ a.defers = [])
    clear h1 h2 h3 h4
    rw [Int.toNat_natCast] at Fv88
    refine wp_seq ?_
    refine wp_region_sq (σ := Value) 267 [(0, 90), (1, 91), (2, 92), (3, 89), (4, 93), (5, 94), (6, 22), (7, 23)] (fun j_ s X => match j_ with | 0 => Below X11.heap.size X11 X | 1 => Below X11.heap.size X11 X | 2 => Below X11.heap.size X11 X | 3 => Below X11.heap.size X11 X ∧ (SliceI X s (zl (coE f n (fun j => (j : Int)) n) n) (fun j => (fun j => (j : Int)) (f j).toNat)) | 4 => Below X11.heap.size X11 X ∧ (SliceI X s (zl (coE f n (fun j => (j : Int)) n) n) (fun j => (fun j => (j : Int)) (f j).toNat)) | 5 => Below X11.heap.size X11 X ∧ (SliceI X s (zl (coE f n (fun j => (j : Int)) n) n) (fun j => (fun j => (j : Int)) (f j).toNat)) | 6 => Below X11.heap.size X11 X ∧ (SliceI X s (zl (coE f n (fun j => (j : Int)) n) n) (fun j => (fun j => (j : Int)) (f j).toNat)) | 7 => Below X11.heap.size X11 X ∧ (SliceI X s (zl (coE f n (fun j => (j : Int)) n) n) (fun j => (fun j => (j : Int)) (f j).toNat)) | _ => Below X11.heap.size X11 X ∧ (SliceI X s (zl (coE f n (fun j => (j : Int)) n) n) (fun j => (fun j => (j : Int)) (f j).toNat))) (fun s => fun i_ => match i_ with | 0 => pv | 1 => v88 | 2 => .tuple #[s, .int .i64 ((coE f n (fun j => (j : Int)) n : Nat) : Int)] | 3 => .tuple #[s, .int .i64 ((coE f n (fun j => (j : Int)) n : Nat) : Int)] | 4 => s | 5 => .int .i64 ((coE f n (fun j => (j : Int)) n : Nat) : Int) | 6 => s | 7 => .int .i64 ((coE f n (fun j => (j : Int)) n : Nat) : Int) | _ => undef) undef A.1 (by kernel_rfl) (by decide) (by decide) (Below.refl _ _) ?_ ?_
    · intro i_ hi_ s a X hf hv hn hS
      match i_, hi_ with
      | 0, _ => exact stepV rfl rfl (execMvB rfl ((hf 0 (by decide)).trans t0)) ⟨s, ⟨_, rfl, rfl⟩, hS, fun _ _ => rfl⟩
      | 1, _ => exact stepV rfl rfl (execMvB rfl ((hf 21 (by decide)).trans t21)) ⟨s, ⟨_, rfl, rfl⟩, hS, fun _ _ => rfl⟩
      | 2, _ =>
        refine stepC rfl rfl (execCall2 Try.func28 (by kernel_rfl) (by kernel_rfl) rfl (hv 0 (by omega) _ rfl _ rfl) (hv 1 (by omega) _ rfl _ rfl)) (I.compose f (fun j => (j : Int)) n n _ _ X (FP.on hS) (by omega) (Fv88.on hS) (by omega)) fun e w' hh => ?_
        obtain ⟨r_, he, hk, hb⟩ := hh
        refine ⟨_, he, r_, ⟨_, rfl, rfl⟩, ⟨(hS).trans ((hb).mono (hS).size), own_ints hk (co_fits ((Fv88.on hS)).fits)⟩, fun i hi => ?_⟩
        match i, hi with
        | 0, _ => rfl
        | 1, _ => rfl
        | n_ + 2, h_ => omega
      | 3, _ => exact stepV rfl rfl (execMvB rfl (hv 2 (by omega) _ rfl _ rfl)) ⟨s, ⟨_, rfl, rfl⟩, hS, fun _ _ => rfl⟩
      | 4, _ => exact stepV rfl rfl (execExtT rfl (hv 3 (by omega) _ rfl _ rfl) rfl) ⟨s, ⟨_, rfl, rfl⟩, hS, fun _ _ => rfl⟩
      | 5, _ => exact stepV rfl rfl (execExtT rfl (hv 3 (by omega) _ rfl _ rfl) rfl) ⟨s, ⟨_, rfl, rfl⟩, hS, fun _ _ => rfl⟩
      | 6, _ => exact stepV rfl rfl (execAsgB rfl (hv 4 (by omega) _ rfl _ rfl)) ⟨s, ⟨_, rfl, rfl⟩, hS, fun _ _ => rfl⟩
      | 7, _ => exact stepV rfl rfl (execAsgB rfl (hv 5 (by omega) _ rfl _ rfl)) ⟨s, ⟨_, rfl, rfl⟩, hS, fun _ _ => rfl⟩
      | k_ + 8, h_ => exact absurd h_ (by simp)
    rintro v92 a X12 h1 h2 h3 h4 hS
    replace hS : Below X11.heap.size X11 X12 ∧ (SliceI X12 v92 (zl (coE f n (fun j => (j : Int)) n) n) (fun j => (fun j => (j : Int)) (f j).toNat)) := hS
    obtain ⟨bX, Fv92⟩ := hS
    replace t0 := (h3 0 (by decide)).trans t0
    replace t1 := (h3 1 (by decide)).trans t1
    replace t2 := (h3 2 (by decide)).trans t2
    replace t3 := (h3 3 (by decide)).trans t3
    replace t13 := (h3 13 (by decide)).trans t13
    replace t14 := (h3 14 (by decide)).trans t14
    replace t15 := (h3 15 (by decide)).trans t15
    replace t16 := (h3 16 (by decide)).trans t16
    replace t17 := (h3 17 (by decide)).trans t17
    replace t18 := (h3 18 (by decide)).trans t18
    replace t19 := (h3 19 (by decide)).trans t19
    replace t20 := (h3 20 (by decide)).trans t20
    replace t21 := (h3 21 (by decide)).trans t21
    have t22 : a.eval (.tmp 22) = v92 := h4 6 _ rfl _ rfl
    have t23 : a.eval (.tmp 23) = .int .i64 ((coE f n (fun j => (j : Int)) n : Nat) : Int) := h4 7 _ rfl _ rfl
    replace FP := (FP.on bX)
    replace FQ := (FQ.on bX)
    replace FR := (FR.on bX)
    replace FXs := (FXs.on bX)
    replace Fv65 := (Fv65.on bX)
    replace Fv71 := (Fv71.on bX)
    replace Fv77 := (Fv77.on bX)
    replace Fv83 := (Fv83.on bX)
    replace Fv88 := (Fv88.on bX)
    have ZX12 := bX.size
    replace BW := BW.trans (bX.mono BW.size)
    clear bX
    replace A := (⟨h1, h2.trans A.2⟩ : a.tmps.size = 267 ∧ a.defers = [])
    clear h1 h2 h3 h4
    have E5 : coE (f) n (fun j => (j : Int)) n = 0 := if_pos ⟨hf, hidE, rfl⟩
    rw [E5, zl_ok] at Fv92
    rw [E5] at t23
    replace Fv92 := Fv92.cg (g := f) (fun j hj => gN_at hf hj)
    refine wp_seq ?_
    refine wp_region_sq (σ := Value) 267 [(0, 96), (1, 97), (2, 98), (3, 95), (4, 99), (5, 100), (6, 24), (7, 25)] (fun j_ s X => match j_ with | 0 => Below X12.heap.size X12 X | 1 => Below X12.heap.size X12 X | 2 => Below X12.heap.size X12 X | 3 => Below X12.heap.size X12 X ∧ (SliceI X s (zl (coE (fun j => (j : Int)) n f n) n) (fun j => f ((fun j => (j : Int)) j).toNat)) | 4 => Below X12.heap.size X12 X ∧ (SliceI X s (zl (coE (fun j => (j : Int)) n f n) n) (fun j => f ((fun j => (j : Int)) j).toNat)) | 5 => Below X12.heap.size X12 X ∧ (SliceI X s (zl (coE (fun j => (j : Int)) n f n) n) (fun j => f ((fun j => (j : Int)) j).toNat)) | 6 => Below X12.heap.size X12 X ∧ (SliceI X s (zl (coE (fun j => (j : Int)) n f n) n) (fun j => f ((fun j => (j : Int)) j).toNat)) | 7 => Below X12.heap.size X12 X ∧ (SliceI X s (zl (coE (fun j => (j : Int)) n f n) n) (fun j => f ((fun j => (j : Int)) j).toNat)) | _ => Below X12.heap.size X12 X ∧ (SliceI X s (zl (coE (fun j => (j : Int)) n f n) n) (fun j => f ((fun j => (j : Int)) j).toNat))) (fun s => fun i_ => match i_ with | 0 => v88 | 1 => pv | 2 => .tuple #[s, .int .i64 ((coE (fun j => (j : Int)) n f n : Nat) : Int)] | 3 => .tuple #[s, .int .i64 ((coE (fun j => (j : Int)) n f n : Nat) : Int)] | 4 => s | 5 => .int .i64 ((coE (fun j => (j : Int)) n f n : Nat) : Int) | 6 => s | 7 => .int .i64 ((coE (fun j => (j : Int)) n f n : Nat) : Int) | _ => undef) undef A.1 (by kernel_rfl) (by decide) (by decide) (Below.refl _ _) ?_ ?_
    · intro i_ hi_ s a X hf hv hn hS
      match i_, hi_ with
      | 0, _ => exact stepV rfl rfl (execMvB rfl ((hf 21 (by decide)).trans t21)) ⟨s, ⟨_, rfl, rfl⟩, hS, fun _ _ => rfl⟩
      | 1, _ => exact stepV rfl rfl (execMvB rfl ((hf 0 (by decide)).trans t0)) ⟨s, ⟨_, rfl, rfl⟩, hS, fun _ _ => rfl⟩
      | 2, _ =>
        refine stepC rfl rfl (execCall2 Try.func28 (by kernel_rfl) (by kernel_rfl) rfl (hv 0 (by omega) _ rfl _ rfl) (hv 1 (by omega) _ rfl _ rfl)) (I.compose (fun j => (j : Int)) f n n _ _ X (Fv88.on hS) (by omega) (FP.on hS) (by omega)) fun e w' hh => ?_
        obtain ⟨r_, he, hk, hb⟩ := hh
        refine ⟨_, he, r_, ⟨_, rfl, rfl⟩, ⟨(hS).trans ((hb).mono (hS).size), own_ints hk (co_fits ((FP.on hS)).fits)⟩, fun i hi => ?_⟩
        match i, hi with
        | 0, _ => rfl
        | 1, _ => rfl
        | n_ + 2, h_ => omega
      | 3, _ => exact stepV rfl rfl (execMvB rfl (hv 2 (by omega) _ rfl _ rfl)) ⟨s, ⟨_, rfl, rfl⟩, hS, fun _ _ => rfl⟩
      | 4, _ => exact stepV rfl rfl (execExtT rfl (hv 3 (by omega) _ rfl _ rfl) rfl) ⟨s, ⟨_, rfl, rfl⟩, hS, fun _ _ => rfl⟩
      | 5, _ => exact stepV rfl rfl (execExtT rfl (hv 3 (by omega) _ rfl _ rfl) rfl) ⟨s, ⟨_, rfl, rfl⟩, hS, fun _ _ => rfl⟩
      | 6, _ => exact stepV rfl rfl (execAsgB rfl (hv 4 (by omega) _ rfl _ rfl)) ⟨s, ⟨_, rfl, rfl⟩, hS, fun _ _ => rfl⟩
      | 7, _ => exact stepV rfl rfl (execAsgB rfl (hv 5 (by omega) _ rfl _ rfl)) ⟨s, ⟨_, rfl, rfl⟩, hS, fun _ _ => rfl⟩
      | k_ + 8, h_ => exact absurd h_ (by simp)
    rintro v98 a X13 h1 h2 h3 h4 hS
    replace hS : Below X12.heap.size X12 X13 ∧ (SliceI X13 v98 (zl (coE (fun j => (j : Int)) n f n) n) (fun j => f ((fun j => (j : Int)) j).toNat)) := hS
    obtain ⟨bX, Fv98⟩ := hS
    replace t0 := (h3 0 (by decide)).trans t0
    replace t1 := (h3 1 (by decide)).trans t1
    replace t2 := (h3 2 (by decide)).trans t2
    replace t3 := (h3 3 (by decide)).trans t3
    replace t13 := (h3 13 (by decide)).trans t13
    replace t14 := (h3 14 (by decide)).trans t14
    replace t15 := (h3 15 (by decide)).trans t15
    replace t16 := (h3 16 (by decide)).trans t16
    replace t17 := (h3 17 (by decide)).trans t17
    replace t18 := (h3 18 (by decide)).trans t18
    replace t19 := (h3 19 (by decide)).trans t19
    replace t20 := (h3 20 (by decide)).trans t20
    replace t21 := (h3 21 (by decide)).trans t21
    replace t22 := (h3 22 (by decide)).trans t22
    replace t23 := (h3 23 (by decide)).trans t23
    have t24 : a.eval (.tmp 24) = v98 := h4 6 _ rfl _ rfl
    have t25 : a.eval (.tmp 25) = .int .i64 ((coE (fun j => (j : Int)) n f n : Nat) : Int) := h4 7 _ rfl _ rfl
    replace FP := (FP.on bX)
    replace FQ := (FQ.on bX)
    replace FR := (FR.on bX)
    replace FXs := (FXs.on bX)
    replace Fv65 := (Fv65.on bX)
    replace Fv71 := (Fv71.on bX)
    replace Fv77 := (Fv77.on bX)
    replace Fv83 := (Fv83.on bX)
    replace Fv88 := (Fv88.on bX)
    replace Fv92 := (Fv92.on bX)
    have ZX13 := bX.size
    replace BW := BW.trans (bX.mono BW.size)
    clear bX
    replace A := (⟨h1, h2.trans A.2⟩ : a.tmps.size = 267 ∧ a.defers = [])
    clear h1 h2 h3 h4
    have E6 : coE (fun j => (j : Int)) n (f) n = 0 := if_pos ⟨hidE, hf, rfl⟩
    rw [E6, zl_ok] at Fv98
    rw [E6] at t25
    replace Fv98 := Fv98.cg (g := f) (fun j _ => by show f (((j : Nat) : Int)).toNat = f j; rw [Int.toNat_natCast])
    refine wp_seq ?_
    refine wp_region_sq (σ := Value) 267 [(0, 102), (1, 103), (2, 101), (3, 104), (4, 105), (5, 26), (6, 27)] (fun j_ s X => match j_ with | 0 => Below X13.heap.size X13 X | 1 => Below X13.heap.size X13 X | 2 => Below X13.heap.size X13 X ∧ (SliceI X s (zl (pE f n) n) (fun j => (posN (gN f) j n : Int))) | 3 => Below X13.heap.size X13 X ∧ (SliceI X s (zl (pE f n) n) (fun j => (posN (gN f) j n : Int))) | 4 => Below X13.heap.size X13 X ∧ (SliceI X s (zl (pE f n) n) (fun j => (posN (gN f) j n : Int))) | 5 => Below X13.heap.size X13 X ∧ (SliceI X s (zl (pE f n) n) (fun j => (posN (gN f) j n : Int))) | 6 => Below X13.heap.size X13 X ∧ (SliceI X s (zl (pE f n) n) (fun j => (posN (gN f) j n : Int))) | _ => Below X13.heap.size X13 X ∧ (SliceI X s (zl (pE f n) n) (fun j => (posN (gN f) j n : Int)))) (fun s => fun i_ => match i_ with | 0 => pv | 1 => .tuple #[s, .int .i64 ((pE f n : Nat) : Int)] | 2 => .tuple #[s, .int .i64 ((pE f n : Nat) : Int)] | 3 => s | 4 => .int .i64 ((pE f n : Nat) : Int) | 5 => s | 6 => .int .i64 ((pE f n : Nat) : Int) | _ => undef) undef A.1 (by kernel_rfl) (by decide) (by decide) (Below.refl _ _) ?_ ?_
    · intro i_ hi_ s a X hf hv hn hS
      match i_, hi_ with
      | 0, _ => exact stepV rfl rfl (execMvB rfl ((hf 0 (by decide)).trans t0)) ⟨s, ⟨_, rfl, rfl⟩, hS, fun _ _ => rfl⟩
      | 1, _ =>
        refine stepC rfl rfl (execCall1 Try.func14 (by kernel_rfl) (by kernel_rfl) rfl (hv 0 (by omega) _ rfl _ rfl)) (I.inverse f n _ X (FP.on hS) (by omega)) fun e w' hh => ?_
        obtain ⟨r_, he, hk, hb⟩ := hh
        refine ⟨_, he, r_, ⟨_, rfl, rfl⟩, ⟨(hS).trans ((hb).mono (hS).size), own_ints hk (pos_fits (by omega))⟩, fun i hi => ?_⟩
        match i, hi with
        | 0, _ => rfl
        | n_ + 1, h_ => omega
      | 2, _ => exact stepV rfl rfl (execMvB rfl (hv 1 (by omega) _ rfl _ rfl)) ⟨s, ⟨_, rfl, rfl⟩, hS, fun _ _ => rfl⟩
      | 3, _ => exact stepV rfl rfl (execExtT rfl (hv 2 (by omega) _ rfl _ rfl) rfl) ⟨s, ⟨_, rfl, rfl⟩, hS, fun _ _ => rfl⟩
      | 4, _ => exact stepV rfl rfl (execExtT rfl (hv 2 (by omega) _ rfl _ rfl) rfl) ⟨s, ⟨_, rfl, rfl⟩, hS, fun _ _ => rfl⟩
      | 5, _ => exact stepV rfl rfl (execAsgB rfl (hv 3 (by omega) _ rfl _ rfl)) ⟨s, ⟨_, rfl, rfl⟩, hS, fun _ _ => rfl⟩
      | 6, _ => exact stepV rfl rfl (execAsgB rfl (hv 4 (by omega) _ rfl _ rfl)) ⟨s, ⟨_, rfl, rfl⟩, hS, fun _ _ => rfl⟩
      | k_ + 7, h_ => exact absurd h_ (by simp)
    rintro v103 a X14 h1 h2 h3 h4 hS
    replace hS : Below X13.heap.size X13 X14 ∧ (SliceI X14 v103 (zl (pE f n) n) (fun j => (posN (gN f) j n : Int))) := hS
    obtain ⟨bX, Fv103⟩ := hS
    replace t0 := (h3 0 (by decide)).trans t0
    replace t1 := (h3 1 (by decide)).trans t1
    replace t2 := (h3 2 (by decide)).trans t2
    replace t3 := (h3 3 (by decide)).trans t3
    replace t13 := (h3 13 (by decide)).trans t13
    replace t14 := (h3 14 (by decide)).trans t14
    replace t15 := (h3 15 (by decide)).trans t15
    replace t16 := (h3 16 (by decide)).trans t16
    replace t17 := (h3 17 (by decide)).trans t17
    replace t18 := (h3 18 (by decide)).trans t18
    replace t19 := (h3 19 (by decide)).trans t19
    replace t20 := (h3 20 (by decide)).trans t20
    replace t21 := (h3 21 (by decide)).trans t21
    replace t22 := (h3 22 (by decide)).trans t22
    replace t23 := (h3 23 (by decide)).trans t23
    replace t24 := (h3 24 (by decide)).trans t24
    replace t25 := (h3 25 (by decide)).trans t25
    have t26 : a.eval (.tmp 26) = v103 := h4 5 _ rfl _ rfl
    have t27 : a.eval (.tmp 27) = .int .i64 ((pE f n : Nat) : Int) := h4 6 _ rfl _ rfl
    replace FP := (FP.on bX)
    replace FQ := (FQ.on bX)
    replace FR := (FR.on bX)
    replace FXs := (FXs.on bX)
    replace Fv65 := (Fv65.on bX)
    replace Fv71 := (Fv71.on bX)
    replace Fv77 := (Fv77.on bX)
    replace Fv83 := (Fv83.on bX)
    replace Fv88 := (Fv88.on bX)
    replace Fv92 := (Fv92.on bX)
    replace Fv98 := (Fv98.on bX)
    have ZX14 := bX.size
    replace BW := BW.trans (bX.mono BW.size)
    clear bX
    replace A := (⟨h1, h2.trans A.2⟩ : a.tmps.size = 267 ∧ a.defers = [])
    clear h1 h2 h3 h4
    rw [hf, zl_ok] at Fv103
    refine wp_seq ?_
    refine wp_region_sq (σ := Value) 267 [(0, 107), (1, 108), (2, 109), (3, 106), (4, 110), (5, 111), (6, 28), (7, 29)] (fun j_ s X => match j_ with | 0 => Below X14.heap.size X14 X | 1 => Below X14.heap.size X14 X | 2 => Below X14.heap.size X14 X | 3 => Below X14.heap.size X14 X ∧ (SliceI X s (zl (coE f n (fun j => (posN (gN f) j n : Int)) n) n) (fun j => (fun j => (posN (gN f) j n : Int)) (f j).toNat)) | 4 => Below X14.heap.size X14 X ∧ (SliceI X s (zl (coE f n (fun j => (posN (gN f) j n : Int)) n) n) (fun j => (fun j => (posN (gN f) j n : Int)) (f j).toNat)) | 5 => Below X14.heap.size X14 X ∧ (SliceI X s (zl (coE f n (fun j => (posN (gN f) j n : Int)) n) n) (fun j => (fun j => (posN (gN f) j n : Int)) (f j).toNat)) | 6 => Below X14.heap.size X14 X ∧ (SliceI X s (zl (coE f n (fun j => (posN (gN f) j n : Int)) n) n) (fun j => (fun j => (posN (gN f) j n : Int)) (f j).toNat)) | 7 => Below X14.heap.size X14 X ∧ (SliceI X s (zl (coE f n (fun j => (posN (gN f) j n : Int)) n) n) (fun j => (fun j => (posN (gN f) j n : Int)) (f j).toNat)) | _ => Below X14.heap.size X14 X ∧ (SliceI X s (zl (coE f n (fun j => (posN (gN f) j n : Int)) n) n) (fun j => (fun j => (posN (gN f) j n : Int)) (f j).toNat))) (fun s => fun i_ => match i_ with | 0 => pv | 1 => v103 | 2 => .tuple #[s, .int .i64 ((coE f n (fun j => (posN (gN f) j n : Int)) n : Nat) : Int)] | 3 => .tuple #[s, .int .i64 ((coE f n (fun j => (posN (gN f) j n : Int)) n : Nat) : Int)] | 4 => s | 5 => .int .i64 ((coE f n (fun j => (posN (gN f) j n : Int)) n : Nat) : Int) | 6 => s | 7 => .int .i64 ((coE f n (fun j => (posN (gN f) j n : Int)) n : Nat) : Int) | _ => undef) undef A.1 (by kernel_rfl) (by decide) (by decide) (Below.refl _ _) ?_ ?_
    · intro i_ hi_ s a X hf hv hn hS
      match i_, hi_ with
      | 0, _ => exact stepV rfl rfl (execMvB rfl ((hf 0 (by decide)).trans t0)) ⟨s, ⟨_, rfl, rfl⟩, hS, fun _ _ => rfl⟩
      | 1, _ => exact stepV rfl rfl (execMvB rfl ((hf 26 (by decide)).trans t26)) ⟨s, ⟨_, rfl, rfl⟩, hS, fun _ _ => rfl⟩
      | 2, _ =>
        refine stepC rfl rfl (execCall2 Try.func28 (by kernel_rfl) (by kernel_rfl) rfl (hv 0 (by omega) _ rfl _ rfl) (hv 1 (by omega) _ rfl _ rfl)) (I.compose f (fun j => (posN (gN f) j n : Int)) n n _ _ X (FP.on hS) (by omega) (Fv103.on hS) (by omega)) fun e w' hh => ?_
        obtain ⟨r_, he, hk, hb⟩ := hh
        refine ⟨_, he, r_, ⟨_, rfl, rfl⟩, ⟨(hS).trans ((hb).mono (hS).size), own_ints hk (co_fits ((Fv103.on hS)).fits)⟩, fun i hi => ?_⟩
        match i, hi with
        | 0, _ => rfl
        | 1, _ => rfl
        | n_ + 2, h_ => omega
      | 3, _ => exact stepV rfl rfl (execMvB rfl (hv 2 (by omega) _ rfl _ rfl)) ⟨s, ⟨_, rfl, rfl⟩, hS, fun _ _ => rfl⟩
      | 4, _ => exact stepV rfl rfl (execExtT rfl (hv 3 (by omega) _ rfl _ rfl) rfl) ⟨s, ⟨_, rfl, rfl⟩, hS, fun _ _ => rfl⟩
      | 5, _ => exact stepV rfl rfl (execExtT rfl (hv 3 (by omega) _ rfl _ rfl) rfl) ⟨s, ⟨_, rfl, rfl⟩, hS, fun _ _ => rfl⟩
      | 6, _ => exact stepV rfl rfl (execAsgB rfl (hv 4 (by omega) _ rfl _ rfl)) ⟨s, ⟨_, rfl, rfl⟩, hS, fun _ _ => rfl⟩
      | 7, _ => exact stepV rfl rfl (execAsgB rfl (hv 5 (by omega) _ rfl _ rfl)) ⟨s, ⟨_, rfl, rfl⟩, hS, fun _ _ => rfl⟩
      | k_ + 8, h_ => exact absurd h_ (by simp)
    rintro v109 a X15 h1 h2 h3 h4 hS
    replace hS : Below X14.heap.size X14 X15 ∧ (SliceI X15 v109 (zl (coE f n (fun j => (posN (gN f) j n : Int)) n) n) (fun j => (fun j => (posN (gN f) j n : Int)) (f j).toNat)) := hS
    obtain ⟨bX, Fv109⟩ := hS
    replace t0 := (h3 0 (by decide)).trans t0
    replace t1 := (h3 1 (by decide)).trans t1
    replace t2 := (h3 2 (by decide)).trans t2
    replace t3 := (h3 3 (by decide)).trans t3
    replace t13 := (h3 13 (by decide)).trans t13
    replace t14 := (h3 14 (by decide)).trans t14
    replace t15 := (h3 15 (by decide)).trans t15
    replace t16 := (h3 16 (by decide)).trans t16
    replace t17 := (h3 17 (by decide)).trans t17
    replace t18 := (h3 18 (by decide)).trans t18
    replace t19 := (h3 19 (by decide)).trans t19
    replace t20 := (h3 20 (by decide)).trans t20
    replace t21 := (h3 21 (by decide)).trans t21
    replace t22 := (h3 22 (by decide)).trans t22
    replace t23 := (h3 23 (by decide)).trans t23
    replace t24 := (h3 24 (by decide)).trans t24
    replace t25 := (h3 25 (by decide)).trans t25
    replace t26 := (h3 26 (by decide)).trans t26
    replace t27 := (h3 27 (by decide)).trans t27
    have t28 : a.eval (.tmp 28) = v109 := h4 6 _ rfl _ rfl
    have t29 : a.eval (.tmp 29) = .int .i64 ((coE f n (fun j => (posN (gN f) j n : Int)) n : Nat) : Int) := h4 7 _ rfl _ rfl
    replace FP := (FP.on bX)
    replace FQ := (FQ.on bX)
    replace FR := (FR.on bX)
    replace FXs := (FXs.on bX)
    replace Fv65 := (Fv65.on bX)
    replace Fv71 := (Fv71.on bX)
    replace Fv77 := (Fv77.on bX)
    replace Fv83 := (Fv83.on bX)
    replace Fv88 := (Fv88.on bX)
    replace Fv92 := (Fv92.on bX)
    replace Fv98 := (Fv98.on bX)
    replace Fv103 := (Fv103.on bX)
    have ZX15 := bX.size
    replace BW := BW.trans (bX.mono BW.size)
    clear bX
    replace A := (⟨h1, h2.trans A.2⟩ : a.tmps.size = 267 ∧ a.defers = [])
    clear h1 h2 h3 h4
    have E7 : coE (f) n (fun j => (posN (gN f) j n : Int)) n = 0 := if_pos ⟨hf, hinE, rfl⟩
    rw [E7, zl_ok] at Fv109
    rw [E7] at t29
    replace Fv109 := Fv109.cg (g := fun j => (j : Int)) (fun j hj => by show ((posN (gN f) (gN f j) n : Nat) : Int) = (j : Int); rw [show posN (gN f) (gN f j) n = j from inv_of hP hj])
    refine wp_seq ?_
    refine wp_region_sq (σ := Value) 267 [(0, 113), (1, 114), (2, 115), (3, 112), (4, 116), (5, 117), (6, 30), (7, 31)] (fun j_ s X => match j_ with | 0 => Below X15.heap.size X15 X | 1 => Below X15.heap.size X15 X | 2 => Below X15.heap.size X15 X | 3 => Below X15.heap.size X15 X ∧ (SliceI X s (zl (coE (fun j => (posN (gN f) j n : Int)) n f n) n) (fun j => f ((fun j => (posN (gN f) j n : Int)) j).toNat)) | 4 => Below X15.heap.size X15 X ∧ (SliceI X s (zl (coE (fun j => (posN (gN f) j n : Int)) n f n) n) (fun j => f ((fun j => (posN (gN f) j n : Int)) j).toNat)) | 5 => Below X15.heap.size X15 X ∧ (SliceI X s (zl (coE (fun j => (posN (gN f) j n : Int)) n f n) n) (fun j => f ((fun j => (posN (gN f) j n : Int)) j).toNat)) | 6 => Below X15.heap.size X15 X ∧ (SliceI X s (zl (coE (fun j => (posN (gN f) j n : Int)) n f n) n) (fun j => f ((fun j => (posN (gN f) j n : Int)) j).toNat)) | 7 => Below X15.heap.size X15 X ∧ (SliceI X s (zl (coE (fun j => (posN (gN f) j n : Int)) n f n) n) (fun j => f ((fun j => (posN (gN f) j n : Int)) j).toNat)) | _ => Below X15.heap.size X15 X ∧ (SliceI X s (zl (coE (fun j => (posN (gN f) j n : Int)) n f n) n) (fun j => f ((fun j => (posN (gN f) j n : Int)) j).toNat))) (fun s => fun i_ => match i_ with | 0 => v103 | 1 => pv | 2 => .tuple #[s, .int .i64 ((coE (fun j => (posN (gN f) j n : Int)) n f n : Nat) : Int)] | 3 => .tuple #[s, .int .i64 ((coE (fun j => (posN (gN f) j n : Int)) n f n : Nat) : Int)] | 4 => s | 5 => .int .i64 ((coE (fun j => (posN (gN f) j n : Int)) n f n : Nat) : Int) | 6 => s | 7 => .int .i64 ((coE (fun j => (posN (gN f) j n : Int)) n f n : Nat) : Int) | _ => undef) undef A.1 (by kernel_rfl) (by decide) (by decide) (Below.refl _ _) ?_ ?_
    · intro i_ hi_ s a X hf hv hn hS
      match i_, hi_ with
      | 0, _ => exact stepV rfl rfl (execMvB rfl ((hf 26 (by decide)).trans t26)) ⟨s, ⟨_, rfl, rfl⟩, hS, fun _ _ => rfl⟩
      | 1, _ => exact stepV rfl rfl (execMvB rfl ((hf 0 (by decide)).trans t0)) ⟨s, ⟨_, rfl, rfl⟩, hS, fun _ _ => rfl⟩
      | 2, _ =>
        refine stepC rfl rfl (execCall2 Try.func28 (by kernel_rfl) (by kernel_rfl) rfl (hv 0 (by omega) _ rfl _ rfl) (hv 1 (by omega) _ rfl _ rfl)) (I.compose (fun j => (posN (gN f) j n : Int)) f n n _ _ X (Fv103.on hS) (by omega) (FP.on hS) (by omega)) fun e w' hh => ?_
        obtain ⟨r_, he, hk, hb⟩ := hh
        refine ⟨_, he, r_, ⟨_, rfl, rfl⟩, ⟨(hS).trans ((hb).mono (hS).size), own_ints hk (co_fits ((FP.on hS)).fits)⟩, fun i hi => ?_⟩
        match i, hi with
        | 0, _ => rfl
        | 1, _ => rfl
        | n_ + 2, h_ => omega
      | 3, _ => exact stepV rfl rfl (execMvB rfl (hv 2 (by omega) _ rfl _ rfl)) ⟨s, ⟨_, rfl, rfl⟩, hS, fun _ _ => rfl⟩
      | 4, _ => exact stepV rfl rfl (execExtT rfl (hv 3 (by omega) _ rfl _ rfl) rfl) ⟨s, ⟨_, rfl, rfl⟩, hS, fun _ _ => rfl⟩
      | 5, _ => exact stepV rfl rfl (execExtT rfl (hv 3 (by omega) _ rfl _ rfl) rfl) ⟨s, ⟨_, rfl, rfl⟩, hS, fun _ _ => rfl⟩
      | 6, _ => exact stepV rfl rfl (execAsgB rfl (hv 4 (by omega) _ rfl _ rfl)) ⟨s, ⟨_, rfl, rfl⟩, hS, fun _ _ => rfl⟩
      | 7, _ => exact stepV rfl rfl (execAsgB rfl (hv 5 (by omega) _ rfl _ rfl)) ⟨s, ⟨_, rfl, rfl⟩, hS, fun _ _ => rfl⟩
      | k_ + 8, h_ => exact absurd h_ (by simp)
    rintro v115 a X16 h1 h2 h3 h4 hS
    replace hS : Below X15.heap.size X15 X16 ∧ (SliceI X16 v115 (zl (coE (fun j => (posN (gN f) j n : Int)) n f n) n) (fun j => f ((fun j => (posN (gN f) j n : Int)) j).toNat)) := hS
    obtain ⟨bX, Fv115⟩ := hS
    replace t0 := (h3 0 (by decide)).trans t0
    replace t1 := (h3 1 (by decide)).trans t1
    replace t2 := (h3 2 (by decide)).trans t2
    replace t3 := (h3 3 (by decide)).trans t3
    replace t13 := (h3 13 (by decide)).trans t13
    replace t14 := (h3 14 (by decide)).trans t14
    replace t15 := (h3 15 (by decide)).trans t15
    replace t16 := (h3 16 (by decide)).trans t16
    replace t17 := (h3 17 (by decide)).trans t17
    replace t18 := (h3 18 (by decide)).trans t18
    replace t19 := (h3 19 (by decide)).trans t19
    replace t20 := (h3 20 (by decide)).trans t20
    replace t21 := (h3 21 (by decide)).trans t21
    replace t22 := (h3 22 (by decide)).trans t22
    replace t23 := (h3 23 (by decide)).trans t23
    replace t24 := (h3 24 (by decide)).trans t24
    replace t25 := (h3 25 (by decide)).trans t25
    replace t26 := (h3 26 (by decide)).trans t26
    replace t27 := (h3 27 (by decide)).trans t27
    replace t28 := (h3 28 (by decide)).trans t28
    replace t29 := (h3 29 (by decide)).trans t29
    have t30 : a.eval (.tmp 30) = v115 := h4 6 _ rfl _ rfl
    have t31 : a.eval (.tmp 31) = .int .i64 ((coE (fun j => (posN (gN f) j n : Int)) n f n : Nat) : Int) := h4 7 _ rfl _ rfl
    replace FP := (FP.on bX)
    replace FQ := (FQ.on bX)
    replace FR := (FR.on bX)
    replace FXs := (FXs.on bX)
    replace Fv65 := (Fv65.on bX)
    replace Fv71 := (Fv71.on bX)
    replace Fv77 := (Fv77.on bX)
    replace Fv83 := (Fv83.on bX)
    replace Fv88 := (Fv88.on bX)
    replace Fv92 := (Fv92.on bX)
    replace Fv98 := (Fv98.on bX)
    replace Fv103 := (Fv103.on bX)
    replace Fv109 := (Fv109.on bX)
    have ZX16 := bX.size
    replace BW := BW.trans (bX.mono BW.size)
    clear bX
    replace A := (⟨h1, h2.trans A.2⟩ : a.tmps.size = 267 ∧ a.defers = [])
    clear h1 h2 h3 h4
    have E8 : coE (fun j => (posN (gN f) j n : Int)) n (f) n = 0 := if_pos ⟨hinE, hf, rfl⟩
    rw [E8, zl_ok] at Fv115
    rw [E8] at t31
    replace Fv115 := Fv115.cg (g := fun j => (j : Int)) (fun j hj => by show f (((posN (gN f) j n : Nat) : Int)).toNat = (j : Int); rw [Int.toNat_natCast]; have h2 : ((gN f (posN (gN f) j n) : Nat) : Int) = f (posN (gN f) j n) := gN_at hf (inv_at hP hj).1; have h1 : gN f (posN (gN f) j n) = j := (inv_at hP hj).2; rw [← h2, h1])
    refine wp_seq ?_
    refine wp_seq ?_
    refine wp_region_sq (σ := Unit) 267 [(0, 118), (1, 119), (2, 120), (3, 121), (4, 122), (5, 123), (6, 124), (7, 125), (8, 126), (9, 127), (10, 128), (11, 129), (12, 130), (13, 131), (14, 132), (15, 133), (16, 134), (17, 135), (18, 136), (19, 137), (20, 138), (21, 139), (22, 140), (23, 141), (24, 142), (25, 143), (26, 144), (27, 145), (28, 146), (29, 147), (30, 148), (31, 149), (32, 150), (33, 151), (34, 152), (35, 153), (36, 154), (37, 155), (38, 156), (39, 157), (40, 158), (41, 159), (42, 160), (43, 161), (44, 162), (45, 163), (46, 164), (47, 165), (48, 166), (49, 167), (50, 168), (51, 169)] (fun j_ s X => match j_ with | 0 => Below X16.heap.size X16 X | 1 => Below X16.heap.size X16 X | 2 => Below X16.heap.size X16 X | 3 => Below X16.heap.size X16 X | 4 => Below X16.heap.size X16 X | 5 => Below X16.heap.size X16 X | 6 => Below X16.heap.size X16 X | 7 => Below X16.heap.size X16 X | 8 => Below X16.heap.size X16 X | 9 => Below X16.heap.size X16 X | 10 => Below X16.heap.size X16 X | 11 => Below X16.heap.size X16 X | 12 => Below X16.heap.size X16 X | 13 => Below X16.heap.size X16 X | 14 => Below X16.heap.size X16 X | 15 => Below X16.heap.size X16 X | 16 => Below X16.heap.size X16 X | 17 => Below X16.heap.size X16 X | 18 => Below X16.heap.size X16 X | 19 => Below X16.heap.size X16 X | 20 => Below X16.heap.size X16 X | 21 => Below X16.heap.size X16 X | 22 => Below X16.heap.size X16 X | 23 => Below X16.heap.size X16 X | 24 => Below X16.heap.size X16 X | 25 => Below X16.heap.size X16 X | 26 => Below X16.heap.size X16 X | 27 => Below X16.heap.size X16 X | 28 => Below X16.heap.size X16 X | 29 => Below X16.heap.size X16 X | 30 => Below X16.heap.size X16 X | 31 => Below X16.heap.size X16 X | 32 => Below X16.heap.size X16 X | 33 => Below X16.heap.size X16 X | 34 => Below X16.heap.size X16 X | 35 => Below X16.heap.size X16 X | 36 => Below X16.heap.size X16 X | 37 => Below X16.heap.size X16 X | 38 => Below X16.heap.size X16 X | 39 => Below X16.heap.size X16 X | 40 => Below X16.heap.size X16 X | 41 => Below X16.heap.size X16 X | 42 => Below X16.heap.size X16 X | 43 => Below X16.heap.size X16 X | 44 => Below X16.heap.size X16 X | 45 => Below X16.heap.size X16 X | 46 => Below X16.heap.size X16 X | 47 => Below X16.heap.size X16 X | 48 => Below X16.heap.size X16 X | 49 => Below X16.heap.size X16 X | 50 => Below X16.heap.size X16 X | 51 => Below X16.heap.size X16 X | _ => Below X16.heap.size X16 X) (fun s => fun i_ => match i_ with | 0 => .int .i64 ((0 : Nat) : Int) | 1 => .bool false | 2 => .bool false | 3 => .int .i64 ((0 : Nat) : Int) | 4 => .bool false | 5 => .bool false | 6 => .bool false | 7 => .int .i64 ((0 : Nat) : Int) | 8 => .bool false | 9 => .bool false | 10 => .bool false | 11 => .int .i64 ((0 : Nat) : Int) | 12 => .bool false | 13 => .bool false | 14 => .bool false | 15 => .int .i64 ((0 : Nat) : Int) | 16 => .bool false | 17 => .bool false | 18 => .bool false | 19 => .int .i64 ((0 : Nat) : Int) | 20 => .bool false | 21 => .bool false | 22 => .bool false | 23 => v77 | 24 => v83 | 25 => .bool true | 26 => .bool false | 27 => .bool false | 28 => .bool false | 29 => v92 | 30 => pv | 31 => .bool true | 32 => .bool false | 33 => .bool false | 34 => .bool false | 35 => v98 | 36 => pv | 37 => .bool true | 38 => .bool false | 39 => .bool false | 40 => .bool false | 41 => v109 | 42 => v88 | 43 => .bool true | 44 => .bool false | 45 => .bool false | 46 => .bool false | 47 => v115 | 48 => v88 | 49 => .bool true | 50 => .bool false | 51 => .bool false | _ => undef) () A.1 (by kernel_rfl) (by decide) (by decide) (Below.refl _ _) ?_ ?_
    · intro i_ hi_ s a X hf hv hn hS
      match i_, hi_ with
      | 0, _ => exact stepV rfl rfl (execMvB rfl ((hf 18 (by decide)).trans t18)) ⟨s, ⟨_, rfl, rfl⟩, hS, fun _ _ => rfl⟩
      | 1, _ => exact stepV rfl rfl (execDec (execNeE (p := 0) (q := 0) rfl (hv 0 (by omega) _ rfl _ rfl) rfl) (decide_eq_false (by omega))) ⟨s, ⟨_, rfl, rfl⟩, hS, fun _ _ => rfl⟩
      | 2, _ => exact stepV rfl rfl (execMvB rfl (hv 1 (by omega) _ rfl _ rfl)) ⟨s, ⟨_, rfl, rfl⟩, hS, fun _ _ => rfl⟩
      | 3, _ => exact stepV rfl (wantedOf rfl (yieldedAt rfl rfl (show a.eval (.tmp 120) = .bool false from (hv 2 (by omega) _ rfl _ rfl)))) (execMvB rfl ((hf 20 (by decide)).trans t20)) ⟨s, ⟨_, rfl, rfl⟩, hS, fun _ _ => rfl⟩
      | 4, _ => exact stepV rfl (wantedOf rfl (yieldedAt rfl rfl (show a.eval (.tmp 120) = .bool false from (hv 2 (by omega) _ rfl _ rfl)))) (execDec (execNeE (p := 0) (q := 0) rfl (hv 3 (by omega) _ rfl _ rfl) rfl) (decide_eq_false (by omega))) ⟨s, ⟨_, rfl, rfl⟩, hS, fun _ _ => rfl⟩
      | 5, _ => exact stepV rfl rfl (execPickF rfl (hv 2 (by omega) _ rfl _ rfl) (hv 4 (by omega) _ rfl _ rfl)) ⟨s, ⟨_, rfl, rfl⟩, hS, fun _ _ => rfl⟩
      | 6, _ => exact stepV rfl rfl (execMvB rfl (hv 5 (by omega) _ rfl _ rfl)) ⟨s, ⟨_, rfl, rfl⟩, hS, fun _ _ => rfl⟩
      | 7, _ => exact stepV rfl (wantedOf rfl (yieldedAt rfl rfl (show a.eval (.tmp 124) = .bool false from (hv 6 (by omega) _ rfl _ rfl)))) (execMvB rfl ((hf 23 (by decide)).trans t23)) ⟨s, ⟨_, rfl, rfl⟩, hS, fun _ _ => rfl⟩
      | 8, _ => exact stepV rfl (wantedOf rfl (yieldedAt rfl rfl (show a.eval (.tmp 124) = .bool false from (hv 6 (by omega) _ rfl _ rfl)))) (execDec (execNeE (p := 0) (q := 0) rfl (hv 7 (by omega) _ rfl _ rfl) rfl) (decide_eq_false (by omega))) ⟨s, ⟨_, rfl, rfl⟩, hS, fun _ _ => rfl⟩
      | 9, _ => exact stepV rfl rfl (execPickF rfl (hv 6 (by omega) _ rfl _ rfl) (hv 8 (by omega) _ rfl _ rfl)) ⟨s, ⟨_, rfl, rfl⟩, hS, fun _ _ => rfl⟩
      | 10, _ => exact stepV rfl rfl (execMvB rfl (hv 9 (by omega) _ rfl _ rfl)) ⟨s, ⟨_, rfl, rfl⟩, hS, fun _ _ => rfl⟩
      | 11, _ => exact stepV rfl (wantedOf rfl (yieldedAt rfl rfl (show a.eval (.tmp 128) = .bool false from (hv 10 (by omega) _ rfl _ rfl)))) (execMvB rfl ((hf 25 (by decide)).trans t25)) ⟨s, ⟨_, rfl, rfl⟩, hS, fun _ _ => rfl⟩
      | 12, _ => exact stepV rfl (wantedOf rfl (yieldedAt rfl rfl (show a.eval (.tmp 128) = .bool false from (hv 10 (by omega) _ rfl _ rfl)))) (execDec (execNeE (p := 0) (q := 0) rfl (hv 11 (by omega) _ rfl _ rfl) rfl) (decide_eq_false (by omega))) ⟨s, ⟨_, rfl, rfl⟩, hS, fun _ _ => rfl⟩
      | 13, _ => exact stepV rfl rfl (execPickF rfl (hv 10 (by omega) _ rfl _ rfl) (hv 12 (by omega) _ rfl _ rfl)) ⟨s, ⟨_, rfl, rfl⟩, hS, fun _ _ => rfl⟩
      | 14, _ => exact stepV rfl rfl (execMvB rfl (hv 13 (by omega) _ rfl _ rfl)) ⟨s, ⟨_, rfl, rfl⟩, hS, fun _ _ => rfl⟩
      | 15, _ => exact stepV rfl (wantedOf rfl (yieldedAt rfl rfl (show a.eval (.tmp 132) = .bool false from (hv 14 (by omega) _ rfl _ rfl)))) (execMvB rfl ((hf 29 (by decide)).trans t29)) ⟨s, ⟨_, rfl, rfl⟩, hS, fun _ _ => rfl⟩
      | 16, _ => exact stepV rfl (wantedOf rfl (yieldedAt rfl rfl (show a.eval (.tmp 132) = .bool false from (hv 14 (by omega) _ rfl _ rfl)))) (execDec (execNeE (p := 0) (q := 0) rfl (hv 15 (by omega) _ rfl _ rfl) rfl) (decide_eq_false (by omega))) ⟨s, ⟨_, rfl, rfl⟩, hS, fun _ _ => rfl⟩
      | 17, _ => exact stepV rfl rfl (execPickF rfl (hv 14 (by omega) _ rfl _ rfl) (hv 16 (by omega) _ rfl _ rfl)) ⟨s, ⟨_, rfl, rfl⟩, hS, fun _ _ => rfl⟩
      | 18, _ => exact stepV rfl rfl (execMvB rfl (hv 17 (by omega) _ rfl _ rfl)) ⟨s, ⟨_, rfl, rfl⟩, hS, fun _ _ => rfl⟩
      | 19, _ => exact stepV rfl (wantedOf rfl (yieldedAt rfl rfl (show a.eval (.tmp 136) = .bool false from (hv 18 (by omega) _ rfl _ rfl)))) (execMvB rfl ((hf 31 (by decide)).trans t31)) ⟨s, ⟨_, rfl, rfl⟩, hS, fun _ _ => rfl⟩
      | 20, _ => exact stepV rfl (wantedOf rfl (yieldedAt rfl rfl (show a.eval (.tmp 136) = .bool false from (hv 18 (by omega) _ rfl _ rfl)))) (execDec (execNeE (p := 0) (q := 0) rfl (hv 19 (by omega) _ rfl _ rfl) rfl) (decide_eq_false (by omega))) ⟨s, ⟨_, rfl, rfl⟩, hS, fun _ _ => rfl⟩
      | 21, _ => exact stepV rfl rfl (execPickF rfl (hv 18 (by omega) _ rfl _ rfl) (hv 20 (by omega) _ rfl _ rfl)) ⟨s, ⟨_, rfl, rfl⟩, hS, fun _ _ => rfl⟩
      | 22, _ => exact stepV rfl rfl (execMvB rfl (hv 21 (by omega) _ rfl _ rfl)) ⟨s, ⟨_, rfl, rfl⟩, hS, fun _ _ => rfl⟩
      | 23, _ => exact stepV rfl (wantedOf rfl (yieldedAt rfl rfl (show a.eval (.tmp 140) = .bool false from (hv 22 (by omega) _ rfl _ rfl)))) (execMvB rfl ((hf 17 (by decide)).trans t17)) ⟨s, ⟨_, rfl, rfl⟩, hS, fun _ _ => rfl⟩
      | 24, _ => exact stepV rfl (wantedOf rfl (yieldedAt rfl rfl (show a.eval (.tmp 140) = .bool false from (hv 22 (by omega) _ rfl _ rfl)))) (execMvB rfl ((hf 19 (by decide)).trans t19)) ⟨s, ⟨_, rfl, rfl⟩, hS, fun _ _ => rfl⟩
      | 25, _ => exact stepC rfl (wantedOf rfl (yieldedAt rfl rfl (show a.eval (.tmp 140) = .bool false from (hv 22 (by omega) _ rfl _ rfl)))) (execCall2 Try.func17 (by kernel_rfl) (by kernel_rfl) rfl (hv 23 (by omega) _ rfl _ rfl) (hv 24 (by omega) _ rfl _ rfl)) (sameP _ _ (n) _ _ X (Fv77.on hS) (Fv83.on hS) (by intro i hi; rfl) (by omega)) fun e w' hh => ⟨_, hh.1, s, ⟨_, rfl, rfl⟩, (hS).trans ((hh.2).mono (hS).size), fun _ _ => rfl⟩
      | 26, _ => exact stepV rfl (wantedOf rfl (yieldedAt rfl rfl (show a.eval (.tmp 140) = .bool false from (hv 22 (by omega) _ rfl _ rfl)))) (execNot8 rfl (hv 25 (by omega) _ rfl _ rfl)) ⟨s, ⟨_, rfl, rfl⟩, hS, fun _ _ => rfl⟩
      | 27, _ => exact stepV rfl rfl (execPickF rfl (hv 22 (by omega) _ rfl _ rfl) (hv 26 (by omega) _ rfl _ rfl)) ⟨s, ⟨_, rfl, rfl⟩, hS, fun _ _ => rfl⟩
      | 28, _ => exact stepV rfl rfl (execMvB rfl (hv 27 (by omega) _ rfl _ rfl)) ⟨s, ⟨_, rfl, rfl⟩, hS, fun _ _ => rfl⟩
      | 29, _ => exact stepV rfl (wantedOf rfl (yieldedAt rfl rfl (show a.eval (.tmp 146) = .bool false from (hv 28 (by omega) _ rfl _ rfl)))) (execMvB rfl ((hf 22 (by decide)).trans t22)) ⟨s, ⟨_, rfl, rfl⟩, hS, fun _ _ => rfl⟩
      | 30, _ => exact stepV rfl (wantedOf rfl (yieldedAt rfl rfl (show a.eval (.tmp 146) = .bool false from (hv 28 (by omega) _ rfl _ rfl)))) (execMvB rfl ((hf 0 (by decide)).trans t0)) ⟨s, ⟨_, rfl, rfl⟩, hS, fun _ _ => rfl⟩
      | 31, _ => exact stepC rfl (wantedOf rfl (yieldedAt rfl rfl (show a.eval (.tmp 146) = .bool false from (hv 28 (by omega) _ rfl _ rfl)))) (execCall2 Try.func17 (by kernel_rfl) (by kernel_rfl) rfl (hv 29 (by omega) _ rfl _ rfl) (hv 30 (by omega) _ rfl _ rfl)) (sameP _ _ (n) _ _ X (Fv92.on hS) (FP.on hS) (by intro i hi; rfl) (by omega)) fun e w' hh => ⟨_, hh.1, s, ⟨_, rfl, rfl⟩, (hS).trans ((hh.2).mono (hS).size), fun _ _ => rfl⟩
      | 32, _ => exact stepV rfl (wantedOf rfl (yieldedAt rfl rfl (show a.eval (.tmp 146) = .bool false from (hv 28 (by omega) _ rfl _ rfl)))) (execNot8 rfl (hv 31 (by omega) _ rfl _ rfl)) ⟨s, ⟨_, rfl, rfl⟩, hS, fun _ _ => rfl⟩
      | 33, _ => exact stepV rfl rfl (execPickF rfl (hv 28 (by omega) _ rfl _ rfl) (hv 32 (by omega) _ rfl _ rfl)) ⟨s, ⟨_, rfl, rfl⟩, hS, fun _ _ => rfl⟩
      | 34, _ => exact stepV rfl rfl (execMvB rfl (hv 33 (by omega) _ rfl _ rfl)) ⟨s, ⟨_, rfl, rfl⟩, hS, fun _ _ => rfl⟩
      | 35, _ => exact stepV rfl (wantedOf rfl (yieldedAt rfl rfl (show a.eval (.tmp 152) = .bool false from (hv 34 (by omega) _ rfl _ rfl)))) (execMvB rfl ((hf 24 (by decide)).trans t24)) ⟨s, ⟨_, rfl, rfl⟩, hS, fun _ _ => rfl⟩
      | 36, _ => exact stepV rfl (wantedOf rfl (yieldedAt rfl rfl (show a.eval (.tmp 152) = .bool false from (hv 34 (by omega) _ rfl _ rfl)))) (execMvB rfl ((hf 0 (by decide)).trans t0)) ⟨s, ⟨_, rfl, rfl⟩, hS, fun _ _ => rfl⟩
      | 37, _ => exact stepC rfl (wantedOf rfl (yieldedAt rfl rfl (show a.eval (.tmp 152) = .bool false from (hv 34 (by omega) _ rfl _ rfl)))) (execCall2 Try.func17 (by kernel_rfl) (by kernel_rfl) rfl (hv 35 (by omega) _ rfl _ rfl) (hv 36 (by omega) _ rfl _ rfl)) (sameP _ _ (n) _ _ X (Fv98.on hS) (FP.on hS) (by intro i hi; rfl) (by omega)) fun e w' hh => ⟨_, hh.1, s, ⟨_, rfl, rfl⟩, (hS).trans ((hh.2).mono (hS).size), fun _ _ => rfl⟩
      | 38, _ => exact stepV rfl (wantedOf rfl (yieldedAt rfl rfl (show a.eval (.tmp 152) = .bool false from (hv 34 (by omega) _ rfl _ rfl)))) (execNot8 rfl (hv 37 (by omega) _ rfl _ rfl)) ⟨s, ⟨_, rfl, rfl⟩, hS, fun _ _ => rfl⟩
      | 39, _ => exact stepV rfl rfl (execPickF rfl (hv 34 (by omega) _ rfl _ rfl) (hv 38 (by omega) _ rfl _ rfl)) ⟨s, ⟨_, rfl, rfl⟩, hS, fun _ _ => rfl⟩
      | 40, _ => exact stepV rfl rfl (execMvB rfl (hv 39 (by omega) _ rfl _ rfl)) ⟨s, ⟨_, rfl, rfl⟩, hS, fun _ _ => rfl⟩
      | 41, _ => exact stepV rfl (wantedOf rfl (yieldedAt rfl rfl (show a.eval (.tmp 158) = .bool false from (hv 40 (by omega) _ rfl _ rfl)))) (execMvB rfl ((hf 28 (by decide)).trans t28)) ⟨s, ⟨_, rfl, rfl⟩, hS, fun _ _ => rfl⟩
      | 42, _ => exact stepV rfl (wantedOf rfl (yieldedAt rfl rfl (show a.eval (.tmp 158) = .bool false from (hv 40 (by omega) _ rfl _ rfl)))) (execMvB rfl ((hf 21 (by decide)).trans t21)) ⟨s, ⟨_, rfl, rfl⟩, hS, fun _ _ => rfl⟩
      | 43, _ => exact stepC rfl (wantedOf rfl (yieldedAt rfl rfl (show a.eval (.tmp 158) = .bool false from (hv 40 (by omega) _ rfl _ rfl)))) (execCall2 Try.func17 (by kernel_rfl) (by kernel_rfl) rfl (hv 41 (by omega) _ rfl _ rfl) (hv 42 (by omega) _ rfl _ rfl)) (sameP _ _ (n) _ _ X (Fv109.on hS) (Fv88.on hS) (by intro i hi; rfl) (by omega)) fun e w' hh => ⟨_, hh.1, s, ⟨_, rfl, rfl⟩, (hS).trans ((hh.2).mono (hS).size), fun _ _ => rfl⟩
      | 44, _ => exact stepV rfl (wantedOf rfl (yieldedAt rfl rfl (show a.eval (.tmp 158) = .bool false from (hv 40 (by omega) _ rfl _ rfl)))) (execNot8 rfl (hv 43 (by omega) _ rfl _ rfl)) ⟨s, ⟨_, rfl, rfl⟩, hS, fun _ _ => rfl⟩
      | 45, _ => exact stepV rfl rfl (execPickF rfl (hv 40 (by omega) _ rfl _ rfl) (hv 44 (by omega) _ rfl _ rfl)) ⟨s, ⟨_, rfl, rfl⟩, hS, fun _ _ => rfl⟩
      | 46, _ => exact stepV rfl rfl (execMvB rfl (hv 45 (by omega) _ rfl _ rfl)) ⟨s, ⟨_, rfl, rfl⟩, hS, fun _ _ => rfl⟩
      | 47, _ => exact stepV rfl (wantedOf rfl (yieldedAt rfl rfl (show a.eval (.tmp 164) = .bool false from (hv 46 (by omega) _ rfl _ rfl)))) (execMvB rfl ((hf 30 (by decide)).trans t30)) ⟨s, ⟨_, rfl, rfl⟩, hS, fun _ _ => rfl⟩
      | 48, _ => exact stepV rfl (wantedOf rfl (yieldedAt rfl rfl (show a.eval (.tmp 164) = .bool false from (hv 46 (by omega) _ rfl _ rfl)))) (execMvB rfl ((hf 21 (by decide)).trans t21)) ⟨s, ⟨_, rfl, rfl⟩, hS, fun _ _ => rfl⟩
      | 49, _ => exact stepC rfl (wantedOf rfl (yieldedAt rfl rfl (show a.eval (.tmp 164) = .bool false from (hv 46 (by omega) _ rfl _ rfl)))) (execCall2 Try.func17 (by kernel_rfl) (by kernel_rfl) rfl (hv 47 (by omega) _ rfl _ rfl) (hv 48 (by omega) _ rfl _ rfl)) (sameP _ _ (n) _ _ X (Fv115.on hS) (Fv88.on hS) (by intro i hi; rfl) (by omega)) fun e w' hh => ⟨_, hh.1, s, ⟨_, rfl, rfl⟩, (hS).trans ((hh.2).mono (hS).size), fun _ _ => rfl⟩
      | 50, _ => exact stepV rfl (wantedOf rfl (yieldedAt rfl rfl (show a.eval (.tmp 164) = .bool false from (hv 46 (by omega) _ rfl _ rfl)))) (execNot8 rfl (hv 49 (by omega) _ rfl _ rfl)) ⟨s, ⟨_, rfl, rfl⟩, hS, fun _ _ => rfl⟩
      | 51, _ => exact stepV rfl rfl (execPickF rfl (hv 46 (by omega) _ rfl _ rfl) (hv 50 (by omega) _ rfl _ rfl)) ⟨s, ⟨_, rfl, rfl⟩, hS, fun _ _ => rfl⟩
      | k_ + 52, h_ => exact absurd h_ (by simp)
    rintro _ a X17 h1 h2 h3 h4 hS
    replace hS : Below X16.heap.size X16 X17 := hS
    have bX := hS
    clear hS
    replace t0 := (h3 0 (by decide)).trans t0
    replace t1 := (h3 1 (by decide)).trans t1
    replace t3 := (h3 3 (by decide)).trans t3
    replace t13 := (h3 13 (by decide)).trans t13
    replace t26 := (h3 26 (by decide)).trans t26
    have t169 : a.eval (.tmp 169) = .bool false := h4 51 _ rfl _ rfl
    replace FP := (FP.on bX)
    replace FQ := (FQ.on bX)
    replace FR := (FR.on bX)
    replace FXs := (FXs.on bX)
    replace Fv65 := (Fv65.on bX)
    replace Fv71 := (Fv71.on bX)
    replace Fv77 := (Fv77.on bX)
    replace Fv83 := (Fv83.on bX)
    replace Fv88 := (Fv88.on bX)
    replace Fv92 := (Fv92.on bX)
    replace Fv98 := (Fv98.on bX)
    replace Fv103 := (Fv103.on bX)
    replace Fv109 := (Fv109.on bX)
    replace Fv115 := (Fv115.on bX)
    have ZX17 := bX.size
    replace BW := BW.trans (bX.mono BW.size)
    clear bX
    replace A := (⟨h1, h2.trans A.2⟩ : a.tmps.size = 267 ∧ a.defers = [])
    clear h1 h2 h3 h4
    clear t2 t14 t15 t16 t17 t18 t19 t20 t21 t22 t23 t24 t25 t27 t28 t29 t30 t31
    refine wp_cond_false t169 ?_
    refine wp_skip ?_
    clear t169
    exact group_tail J V X17 f g sf n l pv qv sv v65 v103 hf hg hn17 hl17 FP FQ FXs Fv65 Fv103 BW a A t0 t1 t3 t13 t26
  · have hth : ∀ X, Below X1.heap.size X1 X → Calls Try.prog 30 #[pv, qv, rv] X fun e w' => e = .returned (.bool false) ∧ Below X.heap.size X w' := fun X hX => by have h_ := three_any I f g h n m k _ _ _ X (FP.on hX) hn17 (FQ.on hX) hm17 (FR.on hX) hk17; rw [decide_eq_false h3] at h_; exact h_
    refine wp_region_sq (σ := Unit) 267 [(0, 39), (1, 40), (2, 41), (3, 42), (4, 43)] (fun j_ s X => match j_ with | 0 => Below X1.heap.size X1 X | 1 => Below X1.heap.size X1 X | 2 => Below X1.heap.size X1 X | 3 => Below X1.heap.size X1 X | 4 => Below X1.heap.size X1 X | _ => Below X1.heap.size X1 X) (fun s => fun i_ => match i_ with | 0 => pv | 1 => qv | 2 => rv | 3 => .bool false | 4 => .bool true | _ => undef) () A.1 (by kernel_rfl) (by decide) (by decide) (Below.refl _ _) ?_ ?_
    · intro i_ hi_ s a X hf hv hn hS
      match i_, hi_ with
      | 0, _ => exact stepV rfl rfl (execMvB rfl ((hf 0 (by decide)).trans t0)) ⟨s, ⟨_, rfl, rfl⟩, hS, fun _ _ => rfl⟩
      | 1, _ => exact stepV rfl rfl (execMvB rfl ((hf 1 (by decide)).trans t1)) ⟨s, ⟨_, rfl, rfl⟩, hS, fun _ _ => rfl⟩
      | 2, _ => exact stepV rfl rfl (execMvB rfl ((hf 2 (by decide)).trans t2)) ⟨s, ⟨_, rfl, rfl⟩, hS, fun _ _ => rfl⟩
      | 3, _ => exact stepC rfl rfl (execCall3 Try.func30 (by kernel_rfl) (by kernel_rfl) rfl (hv 0 (by omega) _ rfl _ rfl) (hv 1 (by omega) _ rfl _ rfl) (hv 2 (by omega) _ rfl _ rfl)) (hth X hS) fun e w' hh => ⟨_, hh.1, s, ⟨_, rfl, rfl⟩, (hS).trans ((hh.2).mono (hS).size), fun _ _ => rfl⟩
      | 4, _ => exact stepV rfl rfl (execNot8 rfl (hv 3 (by omega) _ rfl _ rfl)) ⟨s, ⟨_, rfl, rfl⟩, hS, fun _ _ => rfl⟩
      | k_ + 5, h_ => exact absurd h_ (by simp)
    rintro _ a X3 h1 h2 h3 h4 hS
    replace hS : Below X1.heap.size X1 X3 := hS
    have bX := hS
    clear hS
    replace t0 := (h3 0 (by decide)).trans t0
    replace t1 := (h3 1 (by decide)).trans t1
    replace t2 := (h3 2 (by decide)).trans t2
    have t43 : a.eval (.tmp 43) = .bool true := h4 4 _ rfl _ rfl
    replace FP := (FP.on bX)
    replace FQ := (FQ.on bX)
    replace FR := (FR.on bX)
    replace FXs := (FXs.on bX)
    have ZX3 := bX.size
    replace BW := BW.trans (bX.mono BW.size)
    clear bX
    replace A := (⟨h1, h2.trans A.2⟩ : a.tmps.size = 267 ∧ a.defers = [])
    clear h1 h2 h3 h4
    clear t3
    clear hth
    refine wp_cond_true t43 ?_
    clear t43
    refine wp_seq ?_
    refine wp_region_sq (σ := Value) 267 [(0, 45), (1, 46), (2, 47), (3, 44), (4, 48), (5, 49), (6, 9), (7, 10)] (fun j_ s X => match j_ with | 0 => Below X3.heap.size X3 X | 1 => Below X3.heap.size X3 X | 2 => Below X3.heap.size X3 X | 3 => Below X3.heap.size X3 X ∧ (SliceI X s (zl (coE f n g m) n) (fun j => g (f j).toNat)) | 4 => Below X3.heap.size X3 X ∧ (SliceI X s (zl (coE f n g m) n) (fun j => g (f j).toNat)) | 5 => Below X3.heap.size X3 X ∧ (SliceI X s (zl (coE f n g m) n) (fun j => g (f j).toNat)) | 6 => Below X3.heap.size X3 X ∧ (SliceI X s (zl (coE f n g m) n) (fun j => g (f j).toNat)) | 7 => Below X3.heap.size X3 X ∧ (SliceI X s (zl (coE f n g m) n) (fun j => g (f j).toNat)) | _ => Below X3.heap.size X3 X ∧ (SliceI X s (zl (coE f n g m) n) (fun j => g (f j).toNat))) (fun s => fun i_ => match i_ with | 0 => pv | 1 => qv | 2 => .tuple #[s, .int .i64 ((coE f n g m : Nat) : Int)] | 3 => .tuple #[s, .int .i64 ((coE f n g m : Nat) : Int)] | 4 => s | 5 => .int .i64 ((coE f n g m : Nat) : Int) | 6 => s | 7 => .int .i64 ((coE f n g m : Nat) : Int) | _ => undef) undef A.1 (by kernel_rfl) (by decide) (by decide) (Below.refl _ _) ?_ ?_
    · intro i_ hi_ s a X hf hv hn hS
      match i_, hi_ with
      | 0, _ => exact stepV rfl rfl (execMvB rfl ((hf 0 (by decide)).trans t0)) ⟨s, ⟨_, rfl, rfl⟩, hS, fun _ _ => rfl⟩
      | 1, _ => exact stepV rfl rfl (execMvB rfl ((hf 1 (by decide)).trans t1)) ⟨s, ⟨_, rfl, rfl⟩, hS, fun _ _ => rfl⟩
      | 2, _ =>
        refine stepC rfl rfl (execCall2 Try.func28 (by kernel_rfl) (by kernel_rfl) rfl (hv 0 (by omega) _ rfl _ rfl) (hv 1 (by omega) _ rfl _ rfl)) (I.compose f g n m _ _ X (FP.on hS) (by omega) (FQ.on hS) (by omega)) fun e w' hh => ?_
        obtain ⟨r_, he, hk, hb⟩ := hh
        refine ⟨_, he, r_, ⟨_, rfl, rfl⟩, ⟨(hS).trans ((hb).mono (hS).size), own_ints hk (co_fits ((FQ.on hS)).fits)⟩, fun i hi => ?_⟩
        match i, hi with
        | 0, _ => rfl
        | 1, _ => rfl
        | n_ + 2, h_ => omega
      | 3, _ => exact stepV rfl rfl (execMvB rfl (hv 2 (by omega) _ rfl _ rfl)) ⟨s, ⟨_, rfl, rfl⟩, hS, fun _ _ => rfl⟩
      | 4, _ => exact stepV rfl rfl (execExtT rfl (hv 3 (by omega) _ rfl _ rfl) rfl) ⟨s, ⟨_, rfl, rfl⟩, hS, fun _ _ => rfl⟩
      | 5, _ => exact stepV rfl rfl (execExtT rfl (hv 3 (by omega) _ rfl _ rfl) rfl) ⟨s, ⟨_, rfl, rfl⟩, hS, fun _ _ => rfl⟩
      | 6, _ => exact stepV rfl rfl (execAsgB rfl (hv 4 (by omega) _ rfl _ rfl)) ⟨s, ⟨_, rfl, rfl⟩, hS, fun _ _ => rfl⟩
      | 7, _ => exact stepV rfl rfl (execAsgB rfl (hv 5 (by omega) _ rfl _ rfl)) ⟨s, ⟨_, rfl, rfl⟩, hS, fun _ _ => rfl⟩
      | k_ + 8, h_ => exact absurd h_ (by simp)
    rintro v47 a X4 h1 h2 h3 h4 hS
    replace hS : Below X3.heap.size X3 X4 ∧ (SliceI X4 v47 (zl (coE f n g m) n) (fun j => g (f j).toNat)) := hS
    obtain ⟨bX, Fv47⟩ := hS
    replace t0 := (h3 0 (by decide)).trans t0
    replace t1 := (h3 1 (by decide)).trans t1
    replace t2 := (h3 2 (by decide)).trans t2
    have t10 : a.eval (.tmp 10) = .int .i64 ((coE f n g m : Nat) : Int) := h4 7 _ rfl _ rfl
    replace FP := (FP.on bX)
    replace FQ := (FQ.on bX)
    replace FR := (FR.on bX)
    replace FXs := (FXs.on bX)
    have ZX4 := bX.size
    replace BW := BW.trans (bX.mono BW.size)
    clear bX
    replace A := (⟨h1, h2.trans A.2⟩ : a.tmps.size = 267 ∧ a.defers = [])
    clear h1 h2 h3 h4
    refine wp_seq ?_
    refine wp_region_sq (σ := Value) 267 [(0, 51), (1, 52), (2, 53), (3, 50), (4, 54), (5, 55), (6, 11), (7, 12)] (fun j_ s X => match j_ with | 0 => Below X4.heap.size X4 X | 1 => Below X4.heap.size X4 X | 2 => Below X4.heap.size X4 X | 3 => Below X4.heap.size X4 X ∧ (SliceI X s (zl (coE g m h k) m) (fun j => h (g j).toNat)) | 4 => Below X4.heap.size X4 X ∧ (SliceI X s (zl (coE g m h k) m) (fun j => h (g j).toNat)) | 5 => Below X4.heap.size X4 X ∧ (SliceI X s (zl (coE g m h k) m) (fun j => h (g j).toNat)) | 6 => Below X4.heap.size X4 X ∧ (SliceI X s (zl (coE g m h k) m) (fun j => h (g j).toNat)) | 7 => Below X4.heap.size X4 X ∧ (SliceI X s (zl (coE g m h k) m) (fun j => h (g j).toNat)) | _ => Below X4.heap.size X4 X ∧ (SliceI X s (zl (coE g m h k) m) (fun j => h (g j).toNat))) (fun s => fun i_ => match i_ with | 0 => qv | 1 => rv | 2 => .tuple #[s, .int .i64 ((coE g m h k : Nat) : Int)] | 3 => .tuple #[s, .int .i64 ((coE g m h k : Nat) : Int)] | 4 => s | 5 => .int .i64 ((coE g m h k : Nat) : Int) | 6 => s | 7 => .int .i64 ((coE g m h k : Nat) : Int) | _ => undef) undef A.1 (by kernel_rfl) (by decide) (by decide) (Below.refl _ _) ?_ ?_
    · intro i_ hi_ s a X hf hv hn hS
      match i_, hi_ with
      | 0, _ => exact stepV rfl rfl (execMvB rfl ((hf 1 (by decide)).trans t1)) ⟨s, ⟨_, rfl, rfl⟩, hS, fun _ _ => rfl⟩
      | 1, _ => exact stepV rfl rfl (execMvB rfl ((hf 2 (by decide)).trans t2)) ⟨s, ⟨_, rfl, rfl⟩, hS, fun _ _ => rfl⟩
      | 2, _ =>
        refine stepC rfl rfl (execCall2 Try.func28 (by kernel_rfl) (by kernel_rfl) rfl (hv 0 (by omega) _ rfl _ rfl) (hv 1 (by omega) _ rfl _ rfl)) (I.compose g h m k _ _ X (FQ.on hS) (by omega) (FR.on hS) (by omega)) fun e w' hh => ?_
        obtain ⟨r_, he, hk, hb⟩ := hh
        refine ⟨_, he, r_, ⟨_, rfl, rfl⟩, ⟨(hS).trans ((hb).mono (hS).size), own_ints hk (co_fits ((FR.on hS)).fits)⟩, fun i hi => ?_⟩
        match i, hi with
        | 0, _ => rfl
        | 1, _ => rfl
        | n_ + 2, h_ => omega
      | 3, _ => exact stepV rfl rfl (execMvB rfl (hv 2 (by omega) _ rfl _ rfl)) ⟨s, ⟨_, rfl, rfl⟩, hS, fun _ _ => rfl⟩
      | 4, _ => exact stepV rfl rfl (execExtT rfl (hv 3 (by omega) _ rfl _ rfl) rfl) ⟨s, ⟨_, rfl, rfl⟩, hS, fun _ _ => rfl⟩
      | 5, _ => exact stepV rfl rfl (execExtT rfl (hv 3 (by omega) _ rfl _ rfl) rfl) ⟨s, ⟨_, rfl, rfl⟩, hS, fun _ _ => rfl⟩
      | 6, _ => exact stepV rfl rfl (execAsgB rfl (hv 4 (by omega) _ rfl _ rfl)) ⟨s, ⟨_, rfl, rfl⟩, hS, fun _ _ => rfl⟩
      | 7, _ => exact stepV rfl rfl (execAsgB rfl (hv 5 (by omega) _ rfl _ rfl)) ⟨s, ⟨_, rfl, rfl⟩, hS, fun _ _ => rfl⟩
      | k_ + 8, h_ => exact absurd h_ (by simp)
    rintro v53 a X5 h1 h2 h3 h4 hS
    replace hS : Below X4.heap.size X4 X5 ∧ (SliceI X5 v53 (zl (coE g m h k) m) (fun j => h (g j).toNat)) := hS
    obtain ⟨bX, Fv53⟩ := hS
    replace t10 := (h3 10 (by decide)).trans t10
    have t12 : a.eval (.tmp 12) = .int .i64 ((coE g m h k : Nat) : Int) := h4 7 _ rfl _ rfl
    replace FP := (FP.on bX)
    replace FQ := (FQ.on bX)
    replace FR := (FR.on bX)
    replace FXs := (FXs.on bX)
    replace Fv47 := (Fv47.on bX)
    have ZX5 := bX.size
    replace BW := BW.trans (bX.mono BW.size)
    clear bX
    replace A := (⟨h1, h2.trans A.2⟩ : a.tmps.size = 267 ∧ a.defers = [])
    clear h1 h2 h3 h4
    clear t0 t1 t2
    refine wp_seq ?_
    by_cases hE : coE f n g m = 0
    · refine wp_region_sq (σ := Unit) 267 [(0, 56), (1, 57), (2, 58), (3, 59), (4, 60), (5, 61), (6, 8)] (fun j_ s X => match j_ with | 0 => Below X5.heap.size X5 X | 1 => Below X5.heap.size X5 X | 2 => Below X5.heap.size X5 X | 3 => Below X5.heap.size X5 X | 4 => Below X5.heap.size X5 X | 5 => Below X5.heap.size X5 X | 6 => Below X5.heap.size X5 X | _ => Below X5.heap.size X5 X) (fun s => fun i_ => match i_ with | 0 => .int .i64 ((coE f n g m : Nat) : Int) | 1 => .bool false | 2 => .bool false | 3 => .int .i64 ((coE g m h k : Nat) : Int) | 4 => .bool true | 5 => .bool true | 6 => .bool true | _ => undef) () A.1 (by kernel_rfl) (by decide) (by decide) (Below.refl _ _) ?_ ?_
      · intro i_ hi_ s a X hf hv hn hS
        match i_, hi_ with
        | 0, _ => exact stepV rfl rfl (execMvB rfl ((hf 10 (by decide)).trans t10)) ⟨s, ⟨_, rfl, rfl⟩, hS, fun _ _ => rfl⟩
        | 1, _ => exact stepV rfl rfl (execDec (execNeE (p := coE f n g m) (q := 0) rfl (hv 0 (by omega) _ rfl _ rfl) rfl) (decide_eq_false (by exact fun q => q hE))) ⟨s, ⟨_, rfl, rfl⟩, hS, fun _ _ => rfl⟩
        | 2, _ => exact stepV rfl rfl (execMvB rfl (hv 1 (by omega) _ rfl _ rfl)) ⟨s, ⟨_, rfl, rfl⟩, hS, fun _ _ => rfl⟩
        | 3, _ => exact stepV rfl (wantedOf rfl (yieldedAt rfl rfl (show a.eval (.tmp 58) = .bool false from (hv 2 (by omega) _ rfl _ rfl)))) (execMvB rfl ((hf 12 (by decide)).trans t12)) ⟨s, ⟨_, rfl, rfl⟩, hS, fun _ _ => rfl⟩
        | 4, _ => exact stepV rfl (wantedOf rfl (yieldedAt rfl rfl (show a.eval (.tmp 58) = .bool false from (hv 2 (by omega) _ rfl _ rfl)))) (execDec (execNeE (p := coE g m h k) (q := 0) rfl (hv 3 (by omega) _ rfl _ rfl) rfl) (decide_eq_true (by exact not_three h3 hE))) ⟨s, ⟨_, rfl, rfl⟩, hS, fun _ _ => rfl⟩
        | 5, _ => exact stepV rfl rfl (execPickF rfl (hv 2 (by omega) _ rfl _ rfl) (hv 4 (by omega) _ rfl _ rfl)) ⟨s, ⟨_, rfl, rfl⟩, hS, fun _ _ => rfl⟩
        | 6, _ => exact stepV rfl rfl (execAsgB rfl (hv 5 (by omega) _ rfl _ rfl)) ⟨s, ⟨_, rfl, rfl⟩, hS, fun _ _ => rfl⟩
        | k_ + 7, h_ => exact absurd h_ (by simp)
      rintro _ a X6 h1 h2 h3 h4 hS
      replace hS : Below X5.heap.size X5 X6 := hS
      have bX := hS
      clear hS
      have t8 : a.eval (.tmp 8) = .bool true := h4 6 _ rfl _ rfl
      replace FP := (FP.on bX)
      replace FQ := (FQ.on bX)
      replace FR := (FR.on bX)
      replace FXs := (FXs.on bX)
      replace Fv47 := (Fv47.on bX)
      replace Fv53 := (Fv53.on bX)
      have ZX6 := bX.size
      replace BW := BW.trans (bX.mono BW.size)
      clear bX
      replace A := (⟨h1, h2.trans A.2⟩ : a.tmps.size = 267 ∧ a.defers = [])
      clear h1 h2 h3 h4
      clear t10 t12
      refine wp_ret ?_
      repeat (first | refine ret_in ?_ | refine ret_then ?_)
      refine bodyPost_ret (results_tmp rfl _ _ _) A.2 ⟨?_, BW⟩
      show Ending.returned (a.eval (.tmp 8)) = _
      rw [t8]
    · refine wp_region_sq (σ := Unit) 267 [(0, 56), (1, 57), (2, 58), (3, 59), (4, 60), (5, 61), (6, 8)] (fun j_ s X => match j_ with | 0 => Below X5.heap.size X5 X | 1 => Below X5.heap.size X5 X | 2 => Below X5.heap.size X5 X | 3 => Below X5.heap.size X5 X | 4 => Below X5.heap.size X5 X | 5 => Below X5.heap.size X5 X | 6 => Below X5.heap.size X5 X | _ => Below X5.heap.size X5 X) (fun s => fun i_ => match i_ with | 0 => .int .i64 ((coE f n g m : Nat) : Int) | 1 => .bool true | 2 => .bool true | 3 => undef | 4 => undef | 5 => .bool true | 6 => .bool true | _ => undef) () A.1 (by kernel_rfl) (by decide) (by decide) (Below.refl _ _) ?_ ?_
      · intro i_ hi_ s a X hf hv hn hS
        match i_, hi_ with
        | 0, _ => exact stepV rfl rfl (execMvB rfl ((hf 10 (by decide)).trans t10)) ⟨s, ⟨_, rfl, rfl⟩, hS, fun _ _ => rfl⟩
        | 1, _ => exact stepV rfl rfl (execDec (execNeE (p := coE f n g m) (q := 0) rfl (hv 0 (by omega) _ rfl _ rfl) rfl) (decide_eq_true (by exact hE))) ⟨s, ⟨_, rfl, rfl⟩, hS, fun _ _ => rfl⟩
        | 2, _ => exact stepV rfl rfl (execMvB rfl (hv 1 (by omega) _ rfl _ rfl)) ⟨s, ⟨_, rfl, rfl⟩, hS, fun _ _ => rfl⟩
        | 3, _ => exact stepU rfl (unwantedOf rfl (yieldedAt rfl rfl (show a.eval (.tmp 58) = .bool (!false) from (hv 2 (by omega) _ rfl _ rfl)))) ⟨s, ⟨_, rfl, rfl⟩, hS, fun _ _ => rfl⟩
        | 4, _ => exact stepU rfl (unwantedOf rfl (yieldedAt rfl rfl (show a.eval (.tmp 58) = .bool (!false) from (hv 2 (by omega) _ rfl _ rfl)))) ⟨s, ⟨_, rfl, rfl⟩, hS, fun _ _ => rfl⟩
        | 5, _ => exact stepV rfl rfl (execPickT rfl (hv 2 (by omega) _ rfl _ rfl) rfl) ⟨s, ⟨_, rfl, rfl⟩, hS, fun _ _ => rfl⟩
        | 6, _ => exact stepV rfl rfl (execAsgB rfl (hv 5 (by omega) _ rfl _ rfl)) ⟨s, ⟨_, rfl, rfl⟩, hS, fun _ _ => rfl⟩
        | k_ + 7, h_ => exact absurd h_ (by simp)
      rintro _ a X6 h1 h2 h3 h4 hS
      replace hS : Below X5.heap.size X5 X6 := hS
      have bX := hS
      clear hS
      have t8 : a.eval (.tmp 8) = .bool true := h4 6 _ rfl _ rfl
      replace FP := (FP.on bX)
      replace FQ := (FQ.on bX)
      replace FR := (FR.on bX)
      replace FXs := (FXs.on bX)
      replace Fv47 := (Fv47.on bX)
      replace Fv53 := (Fv53.on bX)
      have ZX6 := bX.size
      replace BW := BW.trans (bX.mono BW.size)
      clear bX
      replace A := (⟨h1, h2.trans A.2⟩ : a.tmps.size = 267 ∧ a.defers = [])
      clear h1 h2 h3 h4
      clear t10 t12
      refine wp_ret ?_
      repeat (first | refine ret_in ?_ | refine ret_then ?_)
      refine bodyPost_ret (results_tmp rfl _ _ _) A.2 ⟨?_, BW⟩
      show Ending.returned (a.eval (.tmp 8)) = _
      rw [t8]
end Go.Proofs.Ythiakjmjpchckaa.Prm
