import Derived.Test.YtigkmgoidbamnaaW9d
namespace Go.Proofs.Ytigkmgoidbamnaa.Tap
open Go.RowKit Gf8 Aes By8 Cel Cf
/- TapeScripts: Byte. Written by tools/mkW9e.py. -/

theorem slice_nil9 {V : World} {p : Nat → Nat} : SliceN V (.slice none 0 0) 0 p := ⟨⟨_, _, rfl, Nat.le_refl _, by omega, fun h => by omega⟩, fun j hj => by omega⟩
theorem nil_nil9 : ∀ l c, Value.slice none 0 0 = .slice none l c → c = 0 := fun l c e => by injection e with _ _ e; exact e.symm
set_option maxRecDepth 100000 in
set_option maxHeartbeats 4000000 in
theorem scr_case1 (V W : World) (tv bv : Value) (m : Nat) (P : Nat → Nat → Nat) (Ln At : Nat → Nat) (pvs : Nat → Value) (FT : TB V tv bv m P Ln At pvs W) (hm : m ≤ 3000000000000) (g6 : Nat) (kd tt nn : Int) (pw : Value) (F6 : W.heap[g6]? = some (.cells (stC kd tt nn pw) 32)) (BW : Below V.heap.size V W) (sc : Value) (n i : Nat) (k : Nat) (hk : k < m) (g8 g9 : Nat) (F8 : W.heap[g8]? = some (.cells (tpC (P k) (Ln k) (At k)) 25)) (F9 : W.heap[g9]? = some (.cells (bkC (pvs k) (At k)) 29)) (hn9 : bv.ownBlock ≠ some g9) (h9V : V.heap.size ≤ g9)
    (a : Act) (A : a.tmps.size = 270 ∧ a.defers = []) (t3 : a.eval (.tmp 3) = tv) (t4 : a.eval (.tmp 4) = bv) (t6 : a.eval (.tmp 6) = .pointer (some ⟨g6, 0, none⟩)) (t39 : a.eval (.tmp 39) = sc) (t40 : a.eval (.tmp 40) = .int .i64 ((n : Nat) : Int)) (t41 : a.eval (.tmp 41) = .int .i64 ((i : Nat) : Int)) (t8 : a.eval (.tmp 8) = .pointer (some ⟨g8, 0, none⟩)) (t9 : a.eval (.tmp 9) = .pointer (some ⟨g9, 0, none⟩))
    (Q : Exit → Act → World → Prop) (hQ : ∀ (a : Act) (X : World) (tv bv : Value) (m' : Nat) (P : Nat → Nat → Nat) (Ln At : Nat → Nat) (pvs : Nat → Value), (a.tmps.size = 270 ∧ a.defers = []) → a.eval (.tmp 3) = tv → a.eval (.tmp 4) = bv → a.eval (.tmp 6) = .pointer (some ⟨g6, 0, none⟩) → a.eval (.tmp 39) = sc → a.eval (.tmp 40) = .int .i64 ((n : Nat) : Int) → a.eval (.tmp 41) = .int .i64 ((i : Nat) : Int) → Below V.heap.size V X → TB V tv bv m' P Ln At pvs X → m' ≤ m + 1 → X.heap[g6]? = some (.cells (stC kd tt nn pw) 32) → Q .normal a X) :
    (findR 22 (Try.f3.body.getD .skip)).wp Try.prog Q a W := by
  obtain ⟨hat, hlk, hsk, hzk⟩ := FT.ok k hk
  have hpk := hsk.bytes
  have spk : ∃ g l k_, pvs k = .slice g l k_ := by obtain ⟨g, c, e⟩ := shp9 hsk; exact ⟨g, _, c, e⟩
  by_cases hc : At k < Ln k
  · have hskW := hsk.on BW
    refine wp_seq ?_
    refine wp_region_sq (σ := Nat) 270 [(0, 98), (1, 99), (2, 97), (3, 100), (4, 101), (5, 102), (6, 14), (7, 13), (9, 15)] (fun j_ s X => match j_ with | 0 => Below W.heap.size W X | 1 => Below W.heap.size W X | 2 => Below W.heap.size W X | 3 => Below W.heap.size W X | 4 => Below W.heap.size W X | 5 => Below W.heap.size W X | 6 => Below W.heap.size W X | 7 => Below W.heap.size W X ∧ X.heap[s]? = some (.cells (tpC (fun _ => 0) 0 0) 25) ∧ (W.heap.size ≤ s) | 8 => Below W.heap.size W X ∧ X.heap[s]? = some (.cells (tpC (fun _ => 0) 0 0) 25) ∧ (W.heap.size ≤ s) | 9 => Below W.heap.size W X ∧ (W.heap.size ≤ s) ∧ X.heap[s]? = some (.cells (tpC (P k) (Ln k) (At k + 1)) 25) | _ => Below W.heap.size W X ∧ (W.heap.size ≤ s) ∧ X.heap[s]? = some (.cells (tpC (P k) (Ln k) (At k + 1)) 25)) (fun s => fun i_ => match i_ with | 0 => .agg (tpC (P k) (Ln k) (At k)) | 1 => .tuple #[.int .u8 ((P k (At k) : Nat) : Int), .agg (tpC (P k) (Ln k) (At k + 1)), .int .i64 ((0 : Nat) : Int)] | 2 => .tuple #[.int .u8 ((P k (At k) : Nat) : Int), .agg (tpC (P k) (Ln k) (At k + 1)), .int .i64 ((0 : Nat) : Int)] | 3 => .int .u8 ((P k (At k) : Nat) : Int) | 4 => .agg (tpC (P k) (Ln k) (At k + 1)) | 5 => .int .i64 ((0 : Nat) : Int) | 6 => .pointer (some ⟨s, 0, none⟩) | 7 => .int .u8 ((P k (At k) : Nat) : Int) | 8 => undef | 9 => .int .i64 ((0 : Nat) : Int) | _ => undef) 0 A.1 (by kernel_rfl) (by decide) (by decide) (Below.refl _ _) ?_ ?_
    · intro i_ hi_ s a X hf hv hn hS
      match i_, hi_ with
      | 0, _ => exact stepV rfl rfl (execLdTp rfl ((hf 8 (by decide)).trans t8) (on9 F8 hS)) ⟨s, ⟨_, rfl, rfl⟩, hS, fun _ _ => rfl⟩
      | 1, _ => exact stepC rfl rfl (execCall1 Try.func11 (by kernel_rfl) (by kernel_rfl) rfl (hv 0 (by omega) _ rfl _ rfl)) (byte_ok (P k) (Ln k) (At k) X hc hlk hpk) fun e w' hh => ⟨_, hh.1, s, ⟨_, rfl, rfl⟩, (hS).trans ((hh.2).mono (hS).size), fun _ _ => rfl⟩
      | 2, _ => exact stepV rfl rfl (execMvB rfl (hv 1 (by omega) _ rfl _ rfl)) ⟨s, ⟨_, rfl, rfl⟩, hS, fun _ _ => rfl⟩
      | 3, _ => exact stepV rfl rfl (execExtT rfl (hv 2 (by omega) _ rfl _ rfl) rfl) ⟨s, ⟨_, rfl, rfl⟩, hS, fun _ _ => rfl⟩
      | 4, _ => exact stepV rfl rfl (execExtT rfl (hv 2 (by omega) _ rfl _ rfl) rfl) ⟨s, ⟨_, rfl, rfl⟩, hS, fun _ _ => rfl⟩
      | 5, _ => exact stepV rfl rfl (execExtT rfl (hv 2 (by omega) _ rfl _ rfl) rfl) ⟨s, ⟨_, rfl, rfl⟩, hS, fun _ _ => rfl⟩
      | 6, _ =>
        refine stepV rfl rfl (execAllTp rfl (fun _ => 0)) ⟨X.heap.size, ⟨_, rfl, rfl⟩, ⟨(hS).trans (((belNew X _)).mono (hS).size), heapNew X _, (hS).size⟩, fun i hi => ?_⟩
        match i, hi with
        | 0, _ => rfl
        | 1, _ => rfl
        | 2, _ => rfl
        | 3, _ => rfl
        | 4, _ => rfl
        | 5, _ => rfl
        | n_ + 6, h_ => omega
      | 7, _ => exact stepV rfl rfl (execAsgB rfl (hv 3 (by omega) _ rfl _ rfl)) ⟨s, ⟨_, rfl, rfl⟩, hS, fun _ _ => rfl⟩
      | 8, _ => exact stepS rfl rfl (execStTp rfl (hv 6 (by omega) _ rfl _ rfl) (hv 4 (by omega) _ rfl _ rfl) hS.2.1 rfl) ⟨s, ⟨_, rfl, rfl⟩, ⟨below4 hS.1 hS.2.2 _, hS.2.2, setRow_heap _ _ _ _ _ _ hS.2.1⟩, fun _ _ => rfl⟩
      | 9, _ => exact stepV rfl rfl (execAsgB rfl (hv 5 (by omega) _ rfl _ rfl)) ⟨s, ⟨_, rfl, rfl⟩, hS, fun _ _ => rfl⟩
      | k_ + 10, h_ => exact absurd h_ (by simp)
    rintro g14 a X22 h1 h2 h3 h4 hS
    replace hS : Below W.heap.size W X22 ∧ (W.heap.size ≤ g14) ∧ X22.heap[g14]? = some (.cells (tpC (P k) (Ln k) (At k + 1)) 25) := hS
    obtain ⟨bX, Fge14, F14⟩ := hS
    replace t3 := (h3 3 (by decide)).trans t3
    replace t4 := (h3 4 (by decide)).trans t4
    replace t6 := (h3 6 (by decide)).trans t6
    replace t9 := (h3 9 (by decide)).trans t9
    replace t39 := (h3 39 (by decide)).trans t39
    replace t40 := (h3 40 (by decide)).trans t40
    replace t41 := (h3 41 (by decide)).trans t41
    have t13 : a.eval (.tmp 13) = .int .u8 ((P k (At k) : Nat) : Int) := h4 7 _ rfl _ rfl
    have t14 : a.eval (.tmp 14) = .pointer (some ⟨g14, 0, none⟩) := h4 6 _ rfl _ rfl
    have t15 : a.eval (.tmp 15) = .int .i64 ((0 : Nat) : Int) := h4 9 _ rfl _ rfl
    replace FT := (FT.on bX)
    replace F6 := (on9 F6 bX)
    replace F8 := (on9 F8 bX)
    replace F9 := (on9 F9 bX)
    replace hskW := (hskW.on bX)
    have ZX22 := bX.size
    replace BW := BW.trans (bX.mono BW.size)
    clear bX
    replace A := (⟨h1, h2.trans A.2⟩ : a.tmps.size = 270 ∧ a.defers = [])
    clear h1 h2 h3 h4
    clear t8
    refine wp_seq ?_
    refine wp_region_sq (σ := Unit) 270 [(0, 104), (1, 105), (2, 106), (3, 107), (4, 108), (5, 103), (6, 109), (7, 110), (8, 111), (9, 16), (10, 17), (11, 18)] (fun j_ s X => match j_ with | 0 => Below X22.heap.size X22 X | 1 => Below X22.heap.size X22 X | 2 => Below X22.heap.size X22 X | 3 => Below X22.heap.size X22 X | 4 => Below X22.heap.size X22 X | 5 => Below X22.heap.size X22 X | 6 => Below X22.heap.size X22 X | 7 => Below X22.heap.size X22 X | 8 => Below X22.heap.size X22 X | 9 => Below X22.heap.size X22 X | 10 => Below X22.heap.size X22 X | 11 => Below X22.heap.size X22 X | _ => Below X22.heap.size X22 X) (fun s => fun i_ => match i_ with | 0 => .pointer (some ⟨g9, 0, none⟩) | 1 => (pvs k) | 2 => .pointer (some ⟨g9, 1, none⟩) | 3 => .int .i64 (((At k) : Nat) : Int) | 4 => .tuple #[.int .u8 ((P k (At k) : Nat) : Int), .int .i64 ((At k + 1 : Nat) : Int), .int .i64 ((0 : Nat) : Int)] | 5 => .tuple #[.int .u8 ((P k (At k) : Nat) : Int), .int .i64 ((At k + 1 : Nat) : Int), .int .i64 ((0 : Nat) : Int)] | 6 => .int .u8 ((P k (At k) : Nat) : Int) | 7 => .int .i64 ((At k + 1 : Nat) : Int) | 8 => .int .i64 ((0 : Nat) : Int) | 9 => .int .u8 ((P k (At k) : Nat) : Int) | 10 => .int .i64 ((At k + 1 : Nat) : Int) | 11 => .int .i64 ((0 : Nat) : Int) | _ => undef) () A.1 (by kernel_rfl) (by decide) (by decide) (Below.refl _ _) ?_ ?_
    · intro i_ hi_ s a X hf hv hn hS
      match i_, hi_ with
      | 0, _ => exact stepV rfl rfl (execFldK0 rfl ((hf 9 (by decide)).trans t9)) ⟨s, ⟨_, rfl, rfl⟩, hS, fun _ _ => rfl⟩
      | 1, _ => exact stepV rfl rfl (execLdL rfl (hv 0 (by omega) _ rfl _ rfl) (bkC_at (on9 F9 hS)).1) ⟨s, ⟨_, rfl, rfl⟩, hS, fun _ _ => rfl⟩
      | 2, _ => exact stepV rfl rfl (execFldK1 rfl ((hf 9 (by decide)).trans t9)) ⟨s, ⟨_, rfl, rfl⟩, hS, fun _ _ => rfl⟩
      | 3, _ => exact stepV rfl rfl (execLd3 rfl (hv 2 (by omega) _ rfl _ rfl) (bkC_at (on9 F9 hS)).2) ⟨s, ⟨_, rfl, rfl⟩, hS, fun _ _ => rfl⟩
      | 4, _ => exact stepC rfl rfl (execCall2 Try.func12 (by kernel_rfl) (by kernel_rfl) rfl (hv 1 (by omega) _ rfl _ rfl) (hv 3 (by omega) _ rfl _ rfl)) (rbyte_ok (P k) (Ln k) (At k) _ X (hskW.on hS) hlk hc) fun e w' hh => ⟨_, hh.1, s, ⟨_, rfl, rfl⟩, by rw [hh.2]; exact hS, fun _ _ => rfl⟩
      | 5, _ => exact stepV rfl rfl (execMvB rfl (hv 4 (by omega) _ rfl _ rfl)) ⟨s, ⟨_, rfl, rfl⟩, hS, fun _ _ => rfl⟩
      | 6, _ => exact stepV rfl rfl (execExtT rfl (hv 5 (by omega) _ rfl _ rfl) rfl) ⟨s, ⟨_, rfl, rfl⟩, hS, fun _ _ => rfl⟩
      | 7, _ => exact stepV rfl rfl (execExtT rfl (hv 5 (by omega) _ rfl _ rfl) rfl) ⟨s, ⟨_, rfl, rfl⟩, hS, fun _ _ => rfl⟩
      | 8, _ => exact stepV rfl rfl (execExtT rfl (hv 5 (by omega) _ rfl _ rfl) rfl) ⟨s, ⟨_, rfl, rfl⟩, hS, fun _ _ => rfl⟩
      | 9, _ => exact stepV rfl rfl (execAsgB rfl (hv 6 (by omega) _ rfl _ rfl)) ⟨s, ⟨_, rfl, rfl⟩, hS, fun _ _ => rfl⟩
      | 10, _ => exact stepV rfl rfl (execAsgB rfl (hv 7 (by omega) _ rfl _ rfl)) ⟨s, ⟨_, rfl, rfl⟩, hS, fun _ _ => rfl⟩
      | 11, _ => exact stepV rfl rfl (execAsgB rfl (hv 8 (by omega) _ rfl _ rfl)) ⟨s, ⟨_, rfl, rfl⟩, hS, fun _ _ => rfl⟩
      | k_ + 12, h_ => exact absurd h_ (by simp)
    rintro _ a X23 h1 h2 h3 h4 hS
    replace hS : Below X22.heap.size X22 X23 := hS
    have bX := hS
    clear hS
    replace t3 := (h3 3 (by decide)).trans t3
    replace t4 := (h3 4 (by decide)).trans t4
    replace t6 := (h3 6 (by decide)).trans t6
    replace t9 := (h3 9 (by decide)).trans t9
    replace t39 := (h3 39 (by decide)).trans t39
    replace t40 := (h3 40 (by decide)).trans t40
    replace t41 := (h3 41 (by decide)).trans t41
    replace t13 := (h3 13 (by decide)).trans t13
    replace t14 := (h3 14 (by decide)).trans t14
    replace t15 := (h3 15 (by decide)).trans t15
    have t16 : a.eval (.tmp 16) = .int .u8 ((P k (At k) : Nat) : Int) := h4 9 _ rfl _ rfl
    have t17 : a.eval (.tmp 17) = .int .i64 ((At k + 1 : Nat) : Int) := h4 10 _ rfl _ rfl
    have t18 : a.eval (.tmp 18) = .int .i64 ((0 : Nat) : Int) := h4 11 _ rfl _ rfl
    replace FT := (FT.on bX)
    replace F6 := (on9 F6 bX)
    replace F8 := (on9 F8 bX)
    replace F9 := (on9 F9 bX)
    replace hskW := (hskW.on bX)
    replace Fge14 := Fge14
    replace F14 := (on9 F14 bX)
    have ZX23 := bX.size
    replace BW := BW.trans (bX.mono BW.size)
    clear bX
    replace A := (⟨h1, h2.trans A.2⟩ : a.tmps.size = 270 ∧ a.defers = [])
    clear h1 h2 h3 h4
    refine wp_seq ?_
    refine wp_seq ?_
    refine wp_region_sq (σ := Unit) 270 [(0, 112), (1, 113), (2, 114), (3, 115), (4, 116), (5, 117), (6, 118), (7, 119)] (fun j_ s X => match j_ with | 0 => Below X23.heap.size X23 X | 1 => Below X23.heap.size X23 X | 2 => Below X23.heap.size X23 X | 3 => Below X23.heap.size X23 X | 4 => Below X23.heap.size X23 X | 5 => Below X23.heap.size X23 X | 6 => Below X23.heap.size X23 X | 7 => Below X23.heap.size X23 X | _ => Below X23.heap.size X23 X) (fun s => fun i_ => match i_ with | 0 => .int .u8 ((P k (At k) : Nat) : Int) | 1 => .int .u8 ((P k (At k) : Nat) : Int) | 2 => .bool false | 3 => .bool false | 4 => .int .i64 ((0 : Nat) : Int) | 5 => .int .i64 ((0 : Nat) : Int) | 6 => .bool false | 7 => .bool false | _ => undef) () A.1 (by kernel_rfl) (by decide) (by decide) (Below.refl _ _) ?_ ?_
    · intro i_ hi_ s a X hf hv hn hS
      match i_, hi_ with
      | 0, _ => exact stepV rfl rfl (execMvB rfl ((hf 13 (by decide)).trans t13)) ⟨s, ⟨_, rfl, rfl⟩, hS, fun _ _ => rfl⟩
      | 1, _ => exact stepV rfl rfl (execMvB rfl ((hf 16 (by decide)).trans t16)) ⟨s, ⟨_, rfl, rfl⟩, hS, fun _ _ => rfl⟩
      | 2, _ => exact stepV rfl rfl (execNeqU8 rfl (hv 0 (by omega) _ rfl _ rfl) (hv 1 (by omega) _ rfl _ rfl)) ⟨s, ⟨_, rfl, rfl⟩, hS, fun _ _ => rfl⟩
      | 3, _ => exact stepV rfl rfl (execMvB rfl (hv 2 (by omega) _ rfl _ rfl)) ⟨s, ⟨_, rfl, rfl⟩, hS, fun _ _ => rfl⟩
      | 4, _ => exact stepV rfl (wantedOf rfl (yieldedAt rfl rfl (show a.eval (.tmp 115) = .bool false from (hv 3 (by omega) _ rfl _ rfl)))) (execMvB rfl ((hf 15 (by decide)).trans t15)) ⟨s, ⟨_, rfl, rfl⟩, hS, fun _ _ => rfl⟩
      | 5, _ => exact stepV rfl (wantedOf rfl (yieldedAt rfl rfl (show a.eval (.tmp 115) = .bool false from (hv 3 (by omega) _ rfl _ rfl)))) (execMvB rfl ((hf 18 (by decide)).trans t18)) ⟨s, ⟨_, rfl, rfl⟩, hS, fun _ _ => rfl⟩
      | 6, _ => exact stepV rfl (wantedOf rfl (yieldedAt rfl rfl (show a.eval (.tmp 115) = .bool false from (hv 3 (by omega) _ rfl _ rfl)))) (execDec (execNeN (p := 0) (q := 0) rfl (hv 4 (by omega) _ rfl _ rfl) (hv 5 (by omega) _ rfl _ rfl)) (decide_eq_false (by omega))) ⟨s, ⟨_, rfl, rfl⟩, hS, fun _ _ => rfl⟩
      | 7, _ => exact stepV rfl rfl (execPickF rfl (hv 3 (by omega) _ rfl _ rfl) (hv 6 (by omega) _ rfl _ rfl)) ⟨s, ⟨_, rfl, rfl⟩, hS, fun _ _ => rfl⟩
      | k_ + 8, h_ => exact absurd h_ (by simp)
    rintro _ a X24 h1 h2 h3 h4 hS
    replace hS : Below X23.heap.size X23 X24 := hS
    have bX := hS
    clear hS
    replace t3 := (h3 3 (by decide)).trans t3
    replace t4 := (h3 4 (by decide)).trans t4
    replace t6 := (h3 6 (by decide)).trans t6
    replace t9 := (h3 9 (by decide)).trans t9
    replace t14 := (h3 14 (by decide)).trans t14
    replace t17 := (h3 17 (by decide)).trans t17
    replace t18 := (h3 18 (by decide)).trans t18
    replace t39 := (h3 39 (by decide)).trans t39
    replace t40 := (h3 40 (by decide)).trans t40
    replace t41 := (h3 41 (by decide)).trans t41
    have t119 : a.eval (.tmp 119) = .bool false := h4 7 _ rfl _ rfl
    replace FT := (FT.on bX)
    replace F6 := (on9 F6 bX)
    replace F8 := (on9 F8 bX)
    replace F9 := (on9 F9 bX)
    replace hskW := (hskW.on bX)
    replace Fge14 := Fge14
    replace F14 := (on9 F14 bX)
    have ZX24 := bX.size
    replace BW := BW.trans (bX.mono BW.size)
    clear bX
    replace A := (⟨h1, h2.trans A.2⟩ : a.tmps.size = 270 ∧ a.defers = [])
    clear h1 h2 h3 h4
    clear t13 t15 t16
    refine wp_cond_false t119 ?_
    refine wp_skip ?_
    clear t119
    refine wp_seq ?_
    refine wp_seq ?_
    refine wp_region_sq (σ := Unit) 270 [(0, 120), (1, 121)] (fun j_ s X => match j_ with | 0 => Below X24.heap.size X24 X | 1 => Below X24.heap.size X24 X | _ => Below X24.heap.size X24 X) (fun s => fun i_ => match i_ with | 0 => .int .i64 ((0 : Nat) : Int) | 1 => .bool false | _ => undef) () A.1 (by kernel_rfl) (by decide) (by decide) (Below.refl _ _) ?_ ?_
    · intro i_ hi_ s a X hf hv hn hS
      match i_, hi_ with
      | 0, _ => exact stepV rfl rfl (execMvB rfl ((hf 18 (by decide)).trans t18)) ⟨s, ⟨_, rfl, rfl⟩, hS, fun _ _ => rfl⟩
      | 1, _ => exact stepV rfl rfl (execDec (execNeN (p := 0) (q := 0) rfl (hv 0 (by omega) _ rfl _ rfl) rfl) (decide_eq_false (by omega))) ⟨s, ⟨_, rfl, rfl⟩, hS, fun _ _ => rfl⟩
      | k_ + 2, h_ => exact absurd h_ (by simp)
    rintro _ a X26 h1 h2 h3 h4 hS
    replace hS : Below X24.heap.size X24 X26 := hS
    have bX := hS
    clear hS
    replace t3 := (h3 3 (by decide)).trans t3
    replace t4 := (h3 4 (by decide)).trans t4
    replace t6 := (h3 6 (by decide)).trans t6
    replace t9 := (h3 9 (by decide)).trans t9
    replace t14 := (h3 14 (by decide)).trans t14
    replace t17 := (h3 17 (by decide)).trans t17
    replace t39 := (h3 39 (by decide)).trans t39
    replace t40 := (h3 40 (by decide)).trans t40
    replace t41 := (h3 41 (by decide)).trans t41
    have t121 : a.eval (.tmp 121) = .bool false := h4 1 _ rfl _ rfl
    replace FT := (FT.on bX)
    replace F6 := (on9 F6 bX)
    replace F8 := (on9 F8 bX)
    replace F9 := (on9 F9 bX)
    replace hskW := (hskW.on bX)
    replace Fge14 := Fge14
    replace F14 := (on9 F14 bX)
    have ZX26 := bX.size
    replace BW := BW.trans (bX.mono BW.size)
    clear bX
    replace A := (⟨h1, h2.trans A.2⟩ : a.tmps.size = 270 ∧ a.defers = [])
    clear h1 h2 h3 h4
    clear t18
    clear hskW
    refine wp_cond_false t121 ?_
    refine wp_skip ?_
    clear t121
    have FT0 := FT
    have BB := BW
    have FTa := FT.tap
    have FBo := FT.boo
    refine wp_region_stB (σ := Nat × Value × Nat × Value) 270 [(0, 123), (1, 124), (2, 125), (3, 126), (4, 127), (5, 128), (6, 129), (7, 130), (8, 131), (9, 132), (10, 133), (11, 3), (12, 4)] (fun l_ s X => Below V.heap.size V X ∧ (l_ 3 = false → (X.ownsRow V.heap.size 25 2 tv m (pairL (fun t => .string (strN (P t) (Ln t))) (fun t => .int .i64 (At t : Int)) m))) ∧ (l_ 10 = false → (X.ownsRow V.heap.size 29 2 bv m (pairL pvs (fun t => .int .i64 (At t : Int)) m))) ∧ (X.heap[g6]? = some (.cells (stC kd tt nn pw) 32)) ∧ (l_ 10 = false → X.heap[g9]? = some (.cells (bkC (pvs k) (At k)) 29)) ∧ (l_ 3 = false → X.heap[g14]? = some (.cells (tpC (P k) (Ln k) (At k + 1)) 25)) ∧ (l_ 2 = true → l_ 3 = false → (X.heap[s.1]? = some (.cells (tpC (P k) (Ln k) (At k + 1)) 25))) ∧ (l_ 2 = true → (V.heap.size ≤ s.1)) ∧ (l_ 3 = true → (X.ownsRow V.heap.size 25 2 s.2.1 (m + 1) ((pairL (fun t => .string (strN (P t) (Ln t))) (fun t => .int .i64 (At t : Int)) m) ++ [.string (strN (P k) (Ln k)), .int .i64 (((At k + 1) : Nat) : Int)]))) ∧ (l_ 9 = true → l_ 10 = false → (X.heap[s.2.2.1]? = some (.cells (bkC (pvs k) (At k + 1)) 29))) ∧ (l_ 9 = true → (V.heap.size ≤ s.2.2.1)) ∧ (l_ 10 = true → (X.ownsRow V.heap.size 29 2 s.2.2.2 (m + 1) ((pairL pvs (fun t => .int .i64 (At t : Int)) m) ++ [(pvs k), .int .i64 ((At k + 1 : Nat) : Int)])))) (fun s => fun i_ => match i_ with | 0 => tv | 1 => .agg (tpC (P k) (Ln k) (At k + 1)) | 2 => .slice (some ⟨s.1, 0, none⟩) 1 1 | 3 => s.2.1 | 4 => bv | 5 => .pointer (some ⟨g9, 0, none⟩) | 6 => (pvs k) | 7 => .int .i64 ((At k + 1 : Nat) : Int) | 8 => .agg (bkC (pvs k) (At k + 1)) | 9 => .slice (some ⟨s.2.2.1, 0, none⟩) 1 1 | 10 => s.2.2.2 | 11 => s.2.1 | 12 => s.2.2.2 | _ => undef) (0, undef, 0, undef) (by kernel_rfl) (by kernel_rfl) A.1 (by kernel_rfl) (by decide) (by decide) ⟨(BB.drew), (fun _ => (ownsLL_below FTa (Below.refl _ _).drew)), (fun _ => (ownsLL_below FBo (Below.refl _ _).drew)), ((on9 F6 (Below.refl _ _).drew)), (fun _ => (on9 F9 (Below.refl _ _).drew)), (fun _ => (on9 F14 (Below.refl _ _).drew)), (fun q0_ q1_ => by cases q0_), (fun q0_ => by cases q0_), (fun q0_ => by cases q0_), (fun q0_ q1_ => by cases q0_), (fun q0_ => by cases q0_), (fun q0_ => by cases q0_)⟩ ?_ ?_
    · intro i_ hi_ l_ s a X hl_ hf hdep hl2 hcl hno hT
      have up : ∀ j x, x ≠ j → updB l_ j x = l_ x := fun j x hj => by unfold updB; simp [hj]
      match i_, hi_ with
      | 0, _ => exact stepV rfl rfl (execMvB rfl ((hno 11 _ rfl _ rfl (by cases hq_ : l_ 11 with | false => rfl | true => exact absurd (hl_.symm.trans (hcl 11 _ rfl hq_ 0 rfl)) (by decide))).trans t3)) ⟨s, ⟨_, rfl, rfl⟩, ⟨hT.1, (fun q0_ => (hT.2.1 (by rw [up 0 3 (by decide)] at q0_; exact q0_))), (fun q0_ => (hT.2.2.1 (by rw [up 0 10 (by decide)] at q0_; exact q0_))), (hT.2.2.2.1), (fun q0_ => (hT.2.2.2.2.1 (by rw [up 0 10 (by decide)] at q0_; exact q0_))), (fun q0_ => (hT.2.2.2.2.2.1 (by rw [up 0 3 (by decide)] at q0_; exact q0_))), (fun q0_ q1_ => (hT.2.2.2.2.2.2.1 (by rw [up 0 2 (by decide)] at q0_; exact q0_) (by rw [up 0 3 (by decide)] at q1_; exact q1_))), (fun q0_ => (hT.2.2.2.2.2.2.2.1 (by rw [up 0 2 (by decide)] at q0_; exact q0_))), (fun q0_ => absurd (hl_.symm.trans (hcl 3 _ rfl ((up 0 3 (by decide)).symm.trans q0_) 0 rfl)) (by decide)), (fun q0_ q1_ => (hT.2.2.2.2.2.2.2.2.2.1 (by rw [up 0 9 (by decide)] at q0_; exact q0_) (by rw [up 0 10 (by decide)] at q1_; exact q1_))), (fun q0_ => (hT.2.2.2.2.2.2.2.2.2.2.1 (by rw [up 0 9 (by decide)] at q0_; exact q0_))), (fun q0_ => absurd (hl_.symm.trans (hcl 3 _ rfl (hcl 10 _ rfl ((up 0 10 (by decide)).symm.trans q0_) 3 rfl) 0 rfl)) (by decide))⟩, fun _ _ _ => rfl⟩
      | 1, _ => exact stepV rfl rfl (execLdTp rfl ((hf 14 (by decide)).trans t14) (hT.2.2.2.2.2.1 (by cases hq_ : l_ 3 with | false => rfl | true => exact absurd (hl_.symm.trans (hcl 2 _ rfl (hcl 3 _ rfl hq_ 2 rfl) 1 rfl)) (by decide)))) ⟨s, ⟨_, rfl, rfl⟩, ⟨hT.1, (fun q0_ => (hT.2.1 (by rw [up 1 3 (by decide)] at q0_; exact q0_))), (fun q0_ => (hT.2.2.1 (by rw [up 1 10 (by decide)] at q0_; exact q0_))), (hT.2.2.2.1), (fun q0_ => (hT.2.2.2.2.1 (by rw [up 1 10 (by decide)] at q0_; exact q0_))), (fun q0_ => (hT.2.2.2.2.2.1 (by rw [up 1 3 (by decide)] at q0_; exact q0_))), (fun q0_ q1_ => absurd (hl_.symm.trans (hcl 2 _ rfl ((up 1 2 (by decide)).symm.trans q0_) 1 rfl)) (by decide)), (fun q0_ => absurd (hl_.symm.trans (hcl 2 _ rfl ((up 1 2 (by decide)).symm.trans q0_) 1 rfl)) (by decide)), (fun q0_ => absurd (hl_.symm.trans (hcl 2 _ rfl (hcl 3 _ rfl ((up 1 3 (by decide)).symm.trans q0_) 2 rfl) 1 rfl)) (by decide)), (fun q0_ q1_ => (hT.2.2.2.2.2.2.2.2.2.1 (by rw [up 1 9 (by decide)] at q0_; exact q0_) (by rw [up 1 10 (by decide)] at q1_; exact q1_))), (fun q0_ => (hT.2.2.2.2.2.2.2.2.2.2.1 (by rw [up 1 9 (by decide)] at q0_; exact q0_))), (fun q0_ => absurd (hl_.symm.trans (hcl 2 _ rfl (hcl 3 _ rfl (hcl 10 _ rfl ((up 1 10 (by decide)).symm.trans q0_) 3 rfl) 2 rfl) 1 rfl)) (by decide))⟩, fun _ _ _ => rfl⟩
      | 2, _ =>
        refine stepV rfl rfl (execBsT rfl (hdep _ rfl 1 rfl _ rfl _ rfl)) ⟨(X.heap.size, s.2.1, s.2.2.1, s.2.2.2), ⟨_, rfl, rfl⟩, ⟨hT.1.trans (((belNew X _)).mono hT.1.size), (fun q0_ => (ownsLL_below (hT.2.1 (by rw [up 2 3 (by decide)] at q0_; exact q0_)) (belNew X _))), (fun q0_ => (ownsLL_below (hT.2.2.1 (by rw [up 2 10 (by decide)] at q0_; exact q0_)) (belNew X _))), ((on9 hT.2.2.2.1 (belNew X _))), (fun q0_ => (on9 (hT.2.2.2.2.1 (by rw [up 2 10 (by decide)] at q0_; exact q0_)) (belNew X _))), (fun q0_ => (on9 (hT.2.2.2.2.2.1 (by rw [up 2 3 (by decide)] at q0_; exact q0_)) (belNew X _))), (fun _q0_ _q1_ => heapNew X _), (fun _q0_ => (hT.1).size), (fun q0_ => absurd (hl_.symm.trans (hcl 3 _ rfl ((up 2 3 (by decide)).symm.trans q0_) 2 rfl)) (by decide)), (fun q0_ q1_ => (on9 (hT.2.2.2.2.2.2.2.2.2.1 (by rw [up 2 9 (by decide)] at q0_; exact q0_) (by rw [up 2 10 (by decide)] at q1_; exact q1_)) (belNew X _))), (fun q0_ => (hT.2.2.2.2.2.2.2.2.2.2.1 (by rw [up 2 9 (by decide)] at q0_; exact q0_))), (fun q0_ => absurd (hl_.symm.trans (hcl 3 _ rfl (hcl 10 _ rfl ((up 2 10 (by decide)).symm.trans q0_) 3 rfl) 2 rfl)) (by decide))⟩, fun i hi hli => ?_⟩
        match i, hi with
        | 0, _ => rfl
        | 1, _ => rfl
        | 2, _ => exact absurd (hl_.symm.trans hli) (by decide)
        | 3, _ => rfl
        | 4, _ => rfl
        | 5, _ => rfl
        | 6, _ => rfl
        | 7, _ => rfl
        | 8, _ => rfl
        | 9, _ => rfl
        | 10, _ => rfl
        | 11, _ => rfl
        | 12, _ => rfl
        | k_ + 13, h_ => exact absurd h_ (by simp)
      | 3, _ =>
        refine stepAppT rfl rfl rfl (hdep _ rfl 0 rfl _ rfl _ rfl) (hdep _ rfl 2 rfl _ rfl _ rfl) (hT.2.1 hl_) (hT.2.2.2.2.2.2.1 (hl2 _ rfl 2 rfl) hl_) hm (hT.1).size fun v' W' own' gr => ⟨(s.1, v', s.2.2.1, s.2.2.2), ⟨_, rfl, rfl⟩, ⟨(hT.1).grown gr (hT.1).size (fun k hk => ((hT.2.1 hl_).lt k hk).1), (fun q0_ => absurd q0_ (by unfold updB; simp)), (fun q0_ => own_overT (hT.2.2.1 (by rw [up 3 10 (by decide)] at q0_; exact q0_)) (hT.2.1 hl_) gr (by decide)), (heap_overL (hT.2.1 hl_) gr hT.2.2.2.1 (by decide)), (fun q0_ => heap_overL (hT.2.1 hl_) gr (hT.2.2.2.2.1 (by rw [up 3 10 (by decide)] at q0_; exact q0_)) (by decide)), (fun q0_ => absurd q0_ (by unfold updB; simp)), (fun q0_ q1_ => absurd q1_ (by unfold updB; simp)), (fun q0_ => (hT.2.2.2.2.2.2.2.1 (by rw [up 3 2 (by decide)] at q0_; exact q0_))), (fun _q0_ => own'), (fun q0_ q1_ => heap_overL (hT.2.1 hl_) gr (hT.2.2.2.2.2.2.2.2.2.1 (by rw [up 3 9 (by decide)] at q0_; exact q0_) (by rw [up 3 10 (by decide)] at q1_; exact q1_)) (by decide)), (fun q0_ => (hT.2.2.2.2.2.2.2.2.2.2.1 (by rw [up 3 9 (by decide)] at q0_; exact q0_))), (fun q0_ => absurd (hl_.symm.trans (hcl 10 _ rfl ((up 3 10 (by decide)).symm.trans q0_) 3 rfl)) (by decide))⟩, fun i hi hli => ?_⟩
        match i, hi with
        | 0, _ => rfl
        | 1, _ => rfl
        | 2, _ => rfl
        | 3, _ => exact absurd (hl_.symm.trans hli) (by decide)
        | 4, _ => rfl
        | 5, _ => rfl
        | 6, _ => rfl
        | 7, _ => rfl
        | 8, _ => rfl
        | 9, _ => rfl
        | 10, _ => rfl
        | 11, _ => exact absurd (hl_.symm.trans (hcl 11 _ rfl hli 3 rfl)) (by decide)
        | 12, _ => rfl
        | k_ + 13, h_ => exact absurd h_ (by simp)
      | 4, _ => exact stepV rfl rfl (execMvB rfl ((hno 12 _ rfl _ rfl (by cases hq_ : l_ 12 with | false => rfl | true => exact absurd (hl_.symm.trans (hcl 12 _ rfl hq_ 4 rfl)) (by decide))).trans t4)) ⟨s, ⟨_, rfl, rfl⟩, ⟨hT.1, (fun q0_ => (hT.2.1 (by rw [up 4 3 (by decide)] at q0_; exact q0_))), (fun q0_ => (hT.2.2.1 (by rw [up 4 10 (by decide)] at q0_; exact q0_))), (hT.2.2.2.1), (fun q0_ => (hT.2.2.2.2.1 (by rw [up 4 10 (by decide)] at q0_; exact q0_))), (fun q0_ => (hT.2.2.2.2.2.1 (by rw [up 4 3 (by decide)] at q0_; exact q0_))), (fun q0_ q1_ => (hT.2.2.2.2.2.2.1 (by rw [up 4 2 (by decide)] at q0_; exact q0_) (by rw [up 4 3 (by decide)] at q1_; exact q1_))), (fun q0_ => (hT.2.2.2.2.2.2.2.1 (by rw [up 4 2 (by decide)] at q0_; exact q0_))), (fun q0_ => (hT.2.2.2.2.2.2.2.2.1 (by rw [up 4 3 (by decide)] at q0_; exact q0_))), (fun q0_ q1_ => (hT.2.2.2.2.2.2.2.2.2.1 (by rw [up 4 9 (by decide)] at q0_; exact q0_) (by rw [up 4 10 (by decide)] at q1_; exact q1_))), (fun q0_ => (hT.2.2.2.2.2.2.2.2.2.2.1 (by rw [up 4 9 (by decide)] at q0_; exact q0_))), (fun q0_ => absurd (hl_.symm.trans (hcl 10 _ rfl ((up 4 10 (by decide)).symm.trans q0_) 4 rfl)) (by decide))⟩, fun _ _ _ => rfl⟩
      | 5, _ => exact stepV rfl rfl (execFldK0 rfl ((hf 9 (by decide)).trans t9)) ⟨s, ⟨_, rfl, rfl⟩, ⟨hT.1, (fun q0_ => (hT.2.1 (by rw [up 5 3 (by decide)] at q0_; exact q0_))), (fun q0_ => (hT.2.2.1 (by rw [up 5 10 (by decide)] at q0_; exact q0_))), (hT.2.2.2.1), (fun q0_ => (hT.2.2.2.2.1 (by rw [up 5 10 (by decide)] at q0_; exact q0_))), (fun q0_ => (hT.2.2.2.2.2.1 (by rw [up 5 3 (by decide)] at q0_; exact q0_))), (fun q0_ q1_ => (hT.2.2.2.2.2.2.1 (by rw [up 5 2 (by decide)] at q0_; exact q0_) (by rw [up 5 3 (by decide)] at q1_; exact q1_))), (fun q0_ => (hT.2.2.2.2.2.2.2.1 (by rw [up 5 2 (by decide)] at q0_; exact q0_))), (fun q0_ => (hT.2.2.2.2.2.2.2.2.1 (by rw [up 5 3 (by decide)] at q0_; exact q0_))), (fun q0_ q1_ => absurd (hl_.symm.trans (hcl 6 _ rfl (hcl 8 _ rfl (hcl 9 _ rfl ((up 5 9 (by decide)).symm.trans q0_) 8 rfl) 6 rfl) 5 rfl)) (by decide)), (fun q0_ => absurd (hl_.symm.trans (hcl 6 _ rfl (hcl 8 _ rfl (hcl 9 _ rfl ((up 5 9 (by decide)).symm.trans q0_) 8 rfl) 6 rfl) 5 rfl)) (by decide)), (fun q0_ => absurd (hl_.symm.trans (hcl 6 _ rfl (hcl 8 _ rfl (hcl 9 _ rfl (hcl 10 _ rfl ((up 5 10 (by decide)).symm.trans q0_) 9 rfl) 8 rfl) 6 rfl) 5 rfl)) (by decide))⟩, fun _ _ _ => rfl⟩
      | 6, _ => exact stepV rfl rfl (execLdL rfl (hdep _ rfl 5 rfl _ rfl _ rfl) (bkC_at (hT.2.2.2.2.1 (by cases hq_ : l_ 10 with | false => rfl | true => exact absurd (hl_.symm.trans (hcl 8 _ rfl (hcl 9 _ rfl (hcl 10 _ rfl hq_ 9 rfl) 8 rfl) 6 rfl)) (by decide)))).1) ⟨s, ⟨_, rfl, rfl⟩, ⟨hT.1, (fun q0_ => (hT.2.1 (by rw [up 6 3 (by decide)] at q0_; exact q0_))), (fun q0_ => (hT.2.2.1 (by rw [up 6 10 (by decide)] at q0_; exact q0_))), (hT.2.2.2.1), (fun q0_ => (hT.2.2.2.2.1 (by rw [up 6 10 (by decide)] at q0_; exact q0_))), (fun q0_ => (hT.2.2.2.2.2.1 (by rw [up 6 3 (by decide)] at q0_; exact q0_))), (fun q0_ q1_ => (hT.2.2.2.2.2.2.1 (by rw [up 6 2 (by decide)] at q0_; exact q0_) (by rw [up 6 3 (by decide)] at q1_; exact q1_))), (fun q0_ => (hT.2.2.2.2.2.2.2.1 (by rw [up 6 2 (by decide)] at q0_; exact q0_))), (fun q0_ => (hT.2.2.2.2.2.2.2.2.1 (by rw [up 6 3 (by decide)] at q0_; exact q0_))), (fun q0_ q1_ => absurd (hl_.symm.trans (hcl 8 _ rfl (hcl 9 _ rfl ((up 6 9 (by decide)).symm.trans q0_) 8 rfl) 6 rfl)) (by decide)), (fun q0_ => absurd (hl_.symm.trans (hcl 8 _ rfl (hcl 9 _ rfl ((up 6 9 (by decide)).symm.trans q0_) 8 rfl) 6 rfl)) (by decide)), (fun q0_ => absurd (hl_.symm.trans (hcl 8 _ rfl (hcl 9 _ rfl (hcl 10 _ rfl ((up 6 10 (by decide)).symm.trans q0_) 9 rfl) 8 rfl) 6 rfl)) (by decide))⟩, fun _ _ _ => rfl⟩
      | 7, _ => exact stepV rfl rfl (execMvB rfl ((hf 17 (by decide)).trans t17)) ⟨s, ⟨_, rfl, rfl⟩, ⟨hT.1, (fun q0_ => (hT.2.1 (by rw [up 7 3 (by decide)] at q0_; exact q0_))), (fun q0_ => (hT.2.2.1 (by rw [up 7 10 (by decide)] at q0_; exact q0_))), (hT.2.2.2.1), (fun q0_ => (hT.2.2.2.2.1 (by rw [up 7 10 (by decide)] at q0_; exact q0_))), (fun q0_ => (hT.2.2.2.2.2.1 (by rw [up 7 3 (by decide)] at q0_; exact q0_))), (fun q0_ q1_ => (hT.2.2.2.2.2.2.1 (by rw [up 7 2 (by decide)] at q0_; exact q0_) (by rw [up 7 3 (by decide)] at q1_; exact q1_))), (fun q0_ => (hT.2.2.2.2.2.2.2.1 (by rw [up 7 2 (by decide)] at q0_; exact q0_))), (fun q0_ => (hT.2.2.2.2.2.2.2.2.1 (by rw [up 7 3 (by decide)] at q0_; exact q0_))), (fun q0_ q1_ => absurd (hl_.symm.trans (hcl 8 _ rfl (hcl 9 _ rfl ((up 7 9 (by decide)).symm.trans q0_) 8 rfl) 7 rfl)) (by decide)), (fun q0_ => absurd (hl_.symm.trans (hcl 8 _ rfl (hcl 9 _ rfl ((up 7 9 (by decide)).symm.trans q0_) 8 rfl) 7 rfl)) (by decide)), (fun q0_ => absurd (hl_.symm.trans (hcl 8 _ rfl (hcl 9 _ rfl (hcl 10 _ rfl ((up 7 10 (by decide)).symm.trans q0_) 9 rfl) 8 rfl) 7 rfl)) (by decide))⟩, fun _ _ _ => rfl⟩
      | 8, _ => exact stepV rfl rfl (execBldK2 (at' := At k + 1) rfl (hdep _ rfl 6 rfl _ rfl _ rfl) (hdep _ rfl 7 rfl _ rfl _ rfl) spk) ⟨s, ⟨_, rfl, rfl⟩, ⟨hT.1, (fun q0_ => (hT.2.1 (by rw [up 8 3 (by decide)] at q0_; exact q0_))), (fun q0_ => (hT.2.2.1 (by rw [up 8 10 (by decide)] at q0_; exact q0_))), (hT.2.2.2.1), (fun q0_ => (hT.2.2.2.2.1 (by rw [up 8 10 (by decide)] at q0_; exact q0_))), (fun q0_ => (hT.2.2.2.2.2.1 (by rw [up 8 3 (by decide)] at q0_; exact q0_))), (fun q0_ q1_ => (hT.2.2.2.2.2.2.1 (by rw [up 8 2 (by decide)] at q0_; exact q0_) (by rw [up 8 3 (by decide)] at q1_; exact q1_))), (fun q0_ => (hT.2.2.2.2.2.2.2.1 (by rw [up 8 2 (by decide)] at q0_; exact q0_))), (fun q0_ => (hT.2.2.2.2.2.2.2.2.1 (by rw [up 8 3 (by decide)] at q0_; exact q0_))), (fun q0_ q1_ => absurd (hl_.symm.trans (hcl 9 _ rfl ((up 8 9 (by decide)).symm.trans q0_) 8 rfl)) (by decide)), (fun q0_ => absurd (hl_.symm.trans (hcl 9 _ rfl ((up 8 9 (by decide)).symm.trans q0_) 8 rfl)) (by decide)), (fun q0_ => absurd (hl_.symm.trans (hcl 9 _ rfl (hcl 10 _ rfl ((up 8 10 (by decide)).symm.trans q0_) 9 rfl) 8 rfl)) (by decide))⟩, fun _ _ _ => rfl⟩
      | 9, _ =>
        refine stepV rfl rfl (execBsK rfl (hdep _ rfl 8 rfl _ rfl _ rfl) spk) ⟨(s.1, s.2.1, X.heap.size, s.2.2.2), ⟨_, rfl, rfl⟩, ⟨hT.1.trans (((belNew X _)).mono hT.1.size), (fun q0_ => (ownsLL_below (hT.2.1 (by rw [up 9 3 (by decide)] at q0_; exact q0_)) (belNew X _))), (fun q0_ => (ownsLL_below (hT.2.2.1 (by rw [up 9 10 (by decide)] at q0_; exact q0_)) (belNew X _))), ((on9 hT.2.2.2.1 (belNew X _))), (fun q0_ => (on9 (hT.2.2.2.2.1 (by rw [up 9 10 (by decide)] at q0_; exact q0_)) (belNew X _))), (fun q0_ => (on9 (hT.2.2.2.2.2.1 (by rw [up 9 3 (by decide)] at q0_; exact q0_)) (belNew X _))), (fun q0_ q1_ => (on9 (hT.2.2.2.2.2.2.1 (by rw [up 9 2 (by decide)] at q0_; exact q0_) (by rw [up 9 3 (by decide)] at q1_; exact q1_)) (belNew X _))), (fun q0_ => (hT.2.2.2.2.2.2.2.1 (by rw [up 9 2 (by decide)] at q0_; exact q0_))), (fun q0_ => (ownsLL_below (hT.2.2.2.2.2.2.2.2.1 (by rw [up 9 3 (by decide)] at q0_; exact q0_)) (belNew X _))), (fun _q0_ _q1_ => heapNew X _), (fun _q0_ => (hT.1).size), (fun q0_ => absurd (hl_.symm.trans (hcl 10 _ rfl ((up 9 10 (by decide)).symm.trans q0_) 9 rfl)) (by decide))⟩, fun i hi hli => ?_⟩
        match i, hi with
        | 0, _ => rfl
        | 1, _ => rfl
        | 2, _ => rfl
        | 3, _ => rfl
        | 4, _ => rfl
        | 5, _ => rfl
        | 6, _ => rfl
        | 7, _ => rfl
        | 8, _ => rfl
        | 9, _ => exact absurd (hl_.symm.trans hli) (by decide)
        | 10, _ => rfl
        | 11, _ => rfl
        | 12, _ => rfl
        | k_ + 13, h_ => exact absurd h_ (by simp)
      | 10, _ =>
        refine stepAppK rfl rfl rfl (hdep _ rfl 4 rfl _ rfl _ rfl) (hdep _ rfl 9 rfl _ rfl _ rfl) (hT.2.2.1 hl_) (hT.2.2.2.2.2.2.2.2.2.1 (hl2 _ rfl 9 rfl) hl_) spk hm (hT.1).size fun v' W' own' gr => ⟨(s.1, s.2.1, s.2.2.1, v'), ⟨_, rfl, rfl⟩, ⟨(hT.1).grown gr (hT.1).size (fun k hk => ((hT.2.2.1 hl_).lt k hk).1), (fun q0_ => absurd (q0_.symm.trans ((up 10 3 (by decide)).trans (hl2 _ rfl 3 rfl))) (by decide)), (fun q0_ => absurd q0_ (by unfold updB; simp)), (heap_overL (hT.2.2.1 hl_) gr hT.2.2.2.1 (by decide)), (fun q0_ => absurd q0_ (by unfold updB; simp)), (fun q0_ => absurd (q0_.symm.trans ((up 10 3 (by decide)).trans (hl2 _ rfl 3 rfl))) (by decide)), (fun q0_ q1_ => absurd (q1_.symm.trans ((up 10 3 (by decide)).trans (hl2 _ rfl 3 rfl))) (by decide)), (fun q0_ => (hT.2.2.2.2.2.2.2.1 (by rw [up 10 2 (by decide)] at q0_; exact q0_))), (fun q0_ => own_overT (hT.2.2.2.2.2.2.2.2.1 (by rw [up 10 3 (by decide)] at q0_; exact q0_)) (hT.2.2.1 hl_) gr (by decide)), (fun q0_ q1_ => absurd q1_ (by unfold updB; simp)), (fun q0_ => (hT.2.2.2.2.2.2.2.2.2.2.1 (by rw [up 10 9 (by decide)] at q0_; exact q0_))), (fun _q0_ => own')⟩, fun i hi hli => ?_⟩
        match i, hi with
        | 0, _ => rfl
        | 1, _ => rfl
        | 2, _ => rfl
        | 3, _ => rfl
        | 4, _ => rfl
        | 5, _ => rfl
        | 6, _ => rfl
        | 7, _ => rfl
        | 8, _ => rfl
        | 9, _ => rfl
        | 10, _ => exact absurd (hl_.symm.trans hli) (by decide)
        | 11, _ => rfl
        | 12, _ => exact absurd (hl_.symm.trans (hcl 12 _ rfl hli 10 rfl)) (by decide)
        | k_ + 13, h_ => exact absurd h_ (by simp)
      | 11, _ => exact stepV rfl rfl (execAsgB rfl (hdep _ rfl 3 rfl _ rfl _ rfl)) ⟨s, ⟨_, rfl, rfl⟩, ⟨hT.1, (fun q0_ => absurd (q0_.symm.trans ((up 11 3 (by decide)).trans (hl2 _ rfl 3 rfl))) (by decide)), (fun q0_ => absurd (q0_.symm.trans ((up 11 10 (by decide)).trans (hl2 _ rfl 10 rfl))) (by decide)), (hT.2.2.2.1), (fun q0_ => absurd (q0_.symm.trans ((up 11 10 (by decide)).trans (hl2 _ rfl 10 rfl))) (by decide)), (fun q0_ => absurd (q0_.symm.trans ((up 11 3 (by decide)).trans (hl2 _ rfl 3 rfl))) (by decide)), (fun q0_ q1_ => absurd (q1_.symm.trans ((up 11 3 (by decide)).trans (hl2 _ rfl 3 rfl))) (by decide)), (fun q0_ => (hT.2.2.2.2.2.2.2.1 (by rw [up 11 2 (by decide)] at q0_; exact q0_))), (fun q0_ => (hT.2.2.2.2.2.2.2.2.1 (by rw [up 11 3 (by decide)] at q0_; exact q0_))), (fun q0_ q1_ => absurd (q1_.symm.trans ((up 11 10 (by decide)).trans (hl2 _ rfl 10 rfl))) (by decide)), (fun q0_ => (hT.2.2.2.2.2.2.2.2.2.2.1 (by rw [up 11 9 (by decide)] at q0_; exact q0_))), (fun q0_ => (hT.2.2.2.2.2.2.2.2.2.2.2 (by rw [up 11 10 (by decide)] at q0_; exact q0_)))⟩, fun _ _ _ => rfl⟩
      | 12, _ => exact stepV rfl rfl (execAsgB rfl (hdep _ rfl 10 rfl _ rfl _ rfl)) ⟨s, ⟨_, rfl, rfl⟩, ⟨hT.1, (fun q0_ => absurd (q0_.symm.trans ((up 12 3 (by decide)).trans (hl2 _ rfl 3 rfl))) (by decide)), (fun q0_ => absurd (q0_.symm.trans ((up 12 10 (by decide)).trans (hl2 _ rfl 10 rfl))) (by decide)), (hT.2.2.2.1), (fun q0_ => absurd (q0_.symm.trans ((up 12 10 (by decide)).trans (hl2 _ rfl 10 rfl))) (by decide)), (fun q0_ => absurd (q0_.symm.trans ((up 12 3 (by decide)).trans (hl2 _ rfl 3 rfl))) (by decide)), (fun q0_ q1_ => absurd (q1_.symm.trans ((up 12 3 (by decide)).trans (hl2 _ rfl 3 rfl))) (by decide)), (fun q0_ => (hT.2.2.2.2.2.2.2.1 (by rw [up 12 2 (by decide)] at q0_; exact q0_))), (fun q0_ => (hT.2.2.2.2.2.2.2.2.1 (by rw [up 12 3 (by decide)] at q0_; exact q0_))), (fun q0_ q1_ => absurd (q1_.symm.trans ((up 12 10 (by decide)).trans (hl2 _ rfl 10 rfl))) (by decide)), (fun q0_ => (hT.2.2.2.2.2.2.2.2.2.2.1 (by rw [up 12 9 (by decide)] at q0_; exact q0_))), (fun q0_ => (hT.2.2.2.2.2.2.2.2.2.2.2 (by rw [up 12 10 (by decide)] at q0_; exact q0_)))⟩, fun _ _ _ => rfl⟩
      | k_ + 13, h_ => exact absurd h_ (by simp)
    rintro l_ ⟨g125, v126, g132, v133⟩ a X28 h1 h2 h3 h4 hall hT
    clear BB
    clear FTa
    clear FBo
    clear F6
    clear F9
    clear F14
    obtain ⟨BB, FTa, FBo, F6, F9, F14, Fg125, Fgeg125, FTb, Fg132, Fgeg132, FBb⟩ := hT
    clear FTa
    clear FBo
    replace F6 : X28.heap[g6]? = some (.cells (stC kd tt nn pw) 32) := F6
    clear F9
    clear F14
    clear Fg125
    replace Fgeg125 : (V.heap.size ≤ g125) := Fgeg125 (hall 2 (by decide))
    replace FTb : (X28.ownsRow V.heap.size 25 2 v126 (m + 1) ((pairL (fun t => .string (strN (P t) (Ln t))) (fun t => .int .i64 (At t : Int)) m) ++ [.string (strN (P k) (Ln k)), .int .i64 (((At k + 1) : Nat) : Int)])) := FTb (hall 3 (by decide))
    clear Fg132
    replace Fgeg132 : (V.heap.size ≤ g132) := Fgeg132 (hall 9 (by decide))
    replace FBb : (X28.ownsRow V.heap.size 29 2 v133 (m + 1) ((pairL pvs (fun t => .int .i64 (At t : Int)) m) ++ [(pvs k), .int .i64 ((At k + 1 : Nat) : Int)])) := FBb (hall 10 (by decide))
    clear hall
    replace t3 : a.eval (.tmp 3) = v126 := h4 (11, 3) (by decide)
    replace t4 : a.eval (.tmp 4) = v133 := h4 (12, 4) (by decide)
    replace t6 := (h3 6 (by decide)).trans t6
    replace t39 := (h3 39 (by decide)).trans t39
    replace t40 := (h3 40 (by decide)).trans t40
    replace t41 := (h3 41 (by decide)).trans t41
    replace A := (⟨h1, h2.trans A.2⟩ : a.tmps.size = 270 ∧ a.defers = [])
    clear h1 h2 h3 h4
    clear t9 t14 t17
    exact hQ a _ _ _ (m + 1) _ _ _ _ A t3 t4 t6 t39 t40 t41 BB (tb_push FT0 FTb FBb hc hlk hsk hzk) (Nat.le_refl _) F6
  · have hce : At k = Ln k := by omega
    rw [hce] at F8 F9
    have hskW := hsk.on BW
    refine wp_seq ?_
    refine wp_region_sq (σ := Nat) 270 [(0, 98), (1, 99), (2, 97), (3, 100), (4, 101), (5, 102), (6, 14), (7, 13), (9, 15)] (fun j_ s X => match j_ with | 0 => Below W.heap.size W X | 1 => Below W.heap.size W X | 2 => Below W.heap.size W X | 3 => Below W.heap.size W X | 4 => Below W.heap.size W X | 5 => Below W.heap.size W X | 6 => Below W.heap.size W X | 7 => Below W.heap.size W X ∧ X.heap[s]? = some (.cells (tpC (fun _ => 0) 0 0) 25) ∧ (W.heap.size ≤ s) | 8 => Below W.heap.size W X ∧ X.heap[s]? = some (.cells (tpC (fun _ => 0) 0 0) 25) ∧ (W.heap.size ≤ s) | 9 => Below W.heap.size W X ∧ (W.heap.size ≤ s) ∧ X.heap[s]? = some (.cells (tpC (P k) 0 0) 25) | _ => Below W.heap.size W X ∧ (W.heap.size ≤ s) ∧ X.heap[s]? = some (.cells (tpC (P k) 0 0) 25)) (fun s => fun i_ => match i_ with | 0 => .agg (tpC (P k) (Ln k) (Ln k)) | 1 => .tuple #[.int .u8 ((0 : Nat) : Int), .agg (tpC (P k) 0 0), .int .i64 ((3 : Nat) : Int)] | 2 => .tuple #[.int .u8 ((0 : Nat) : Int), .agg (tpC (P k) 0 0), .int .i64 ((3 : Nat) : Int)] | 3 => .int .u8 ((0 : Nat) : Int) | 4 => .agg (tpC (P k) 0 0) | 5 => .int .i64 ((3 : Nat) : Int) | 6 => .pointer (some ⟨s, 0, none⟩) | 7 => .int .u8 ((0 : Nat) : Int) | 8 => undef | 9 => .int .i64 ((3 : Nat) : Int) | _ => undef) 0 A.1 (by kernel_rfl) (by decide) (by decide) (Below.refl _ _) ?_ ?_
    · intro i_ hi_ s a X hf hv hn hS
      match i_, hi_ with
      | 0, _ => exact stepV rfl rfl (execLdTp rfl ((hf 8 (by decide)).trans t8) (on9 F8 hS)) ⟨s, ⟨_, rfl, rfl⟩, hS, fun _ _ => rfl⟩
      | 1, _ => exact stepC rfl rfl (execCall1 Try.func11 (by kernel_rfl) (by kernel_rfl) rfl (hv 0 (by omega) _ rfl _ rfl)) (byte_no (P k) (Ln k) X hlk hpk) fun e w' hh => ⟨_, hh.1, s, ⟨_, rfl, rfl⟩, (hS).trans ((hh.2).mono (hS).size), fun _ _ => rfl⟩
      | 2, _ => exact stepV rfl rfl (execMvB rfl (hv 1 (by omega) _ rfl _ rfl)) ⟨s, ⟨_, rfl, rfl⟩, hS, fun _ _ => rfl⟩
      | 3, _ => exact stepV rfl rfl (execExtT rfl (hv 2 (by omega) _ rfl _ rfl) rfl) ⟨s, ⟨_, rfl, rfl⟩, hS, fun _ _ => rfl⟩
      | 4, _ => exact stepV rfl rfl (execExtT rfl (hv 2 (by omega) _ rfl _ rfl) rfl) ⟨s, ⟨_, rfl, rfl⟩, hS, fun _ _ => rfl⟩
      | 5, _ => exact stepV rfl rfl (execExtT rfl (hv 2 (by omega) _ rfl _ rfl) rfl) ⟨s, ⟨_, rfl, rfl⟩, hS, fun _ _ => rfl⟩
      | 6, _ =>
        refine stepV rfl rfl (execAllTp rfl (fun _ => 0)) ⟨X.heap.size, ⟨_, rfl, rfl⟩, ⟨(hS).trans (((belNew X _)).mono (hS).size), heapNew X _, (hS).size⟩, fun i hi => ?_⟩
        match i, hi with
        | 0, _ => rfl
        | 1, _ => rfl
        | 2, _ => rfl
        | 3, _ => rfl
        | 4, _ => rfl
        | 5, _ => rfl
        | n_ + 6, h_ => omega
      | 7, _ => exact stepV rfl rfl (execAsgB rfl (hv 3 (by omega) _ rfl _ rfl)) ⟨s, ⟨_, rfl, rfl⟩, hS, fun _ _ => rfl⟩
      | 8, _ => exact stepS rfl rfl (execStTp rfl (hv 6 (by omega) _ rfl _ rfl) (hv 4 (by omega) _ rfl _ rfl) hS.2.1 rfl) ⟨s, ⟨_, rfl, rfl⟩, ⟨below4 hS.1 hS.2.2 _, hS.2.2, setRow_heap _ _ _ _ _ _ hS.2.1⟩, fun _ _ => rfl⟩
      | 9, _ => exact stepV rfl rfl (execAsgB rfl (hv 5 (by omega) _ rfl _ rfl)) ⟨s, ⟨_, rfl, rfl⟩, hS, fun _ _ => rfl⟩
      | k_ + 10, h_ => exact absurd h_ (by simp)
    rintro g14 a X22 h1 h2 h3 h4 hS
    replace hS : Below W.heap.size W X22 ∧ (W.heap.size ≤ g14) ∧ X22.heap[g14]? = some (.cells (tpC (P k) 0 0) 25) := hS
    obtain ⟨bX, Fge14, F14⟩ := hS
    replace t3 := (h3 3 (by decide)).trans t3
    replace t4 := (h3 4 (by decide)).trans t4
    replace t6 := (h3 6 (by decide)).trans t6
    replace t9 := (h3 9 (by decide)).trans t9
    replace t39 := (h3 39 (by decide)).trans t39
    replace t40 := (h3 40 (by decide)).trans t40
    replace t41 := (h3 41 (by decide)).trans t41
    have t13 : a.eval (.tmp 13) = .int .u8 ((0 : Nat) : Int) := h4 7 _ rfl _ rfl
    have t14 : a.eval (.tmp 14) = .pointer (some ⟨g14, 0, none⟩) := h4 6 _ rfl _ rfl
    have t15 : a.eval (.tmp 15) = .int .i64 ((3 : Nat) : Int) := h4 9 _ rfl _ rfl
    replace FT := (FT.on bX)
    replace F6 := (on9 F6 bX)
    replace F8 := (on9 F8 bX)
    replace F9 := (on9 F9 bX)
    replace hskW := (hskW.on bX)
    have ZX22 := bX.size
    replace BW := BW.trans (bX.mono BW.size)
    clear bX
    replace A := (⟨h1, h2.trans A.2⟩ : a.tmps.size = 270 ∧ a.defers = [])
    clear h1 h2 h3 h4
    clear t8
    refine wp_seq ?_
    refine wp_region_sq (σ := Unit) 270 [(0, 104), (1, 105), (2, 106), (3, 107), (4, 108), (5, 103), (6, 109), (7, 110), (8, 111), (9, 16), (10, 17), (11, 18)] (fun j_ s X => match j_ with | 0 => Below X22.heap.size X22 X | 1 => Below X22.heap.size X22 X | 2 => Below X22.heap.size X22 X | 3 => Below X22.heap.size X22 X | 4 => Below X22.heap.size X22 X | 5 => Below X22.heap.size X22 X | 6 => Below X22.heap.size X22 X | 7 => Below X22.heap.size X22 X | 8 => Below X22.heap.size X22 X | 9 => Below X22.heap.size X22 X | 10 => Below X22.heap.size X22 X | 11 => Below X22.heap.size X22 X | _ => Below X22.heap.size X22 X) (fun s => fun i_ => match i_ with | 0 => .pointer (some ⟨g9, 0, none⟩) | 1 => (pvs k) | 2 => .pointer (some ⟨g9, 1, none⟩) | 3 => .int .i64 (((Ln k) : Nat) : Int) | 4 => .tuple #[.int .u8 ((0 : Nat) : Int), .int .i64 ((0 : Nat) : Int), .int .i64 ((3 : Nat) : Int)] | 5 => .tuple #[.int .u8 ((0 : Nat) : Int), .int .i64 ((0 : Nat) : Int), .int .i64 ((3 : Nat) : Int)] | 6 => .int .u8 ((0 : Nat) : Int) | 7 => .int .i64 ((0 : Nat) : Int) | 8 => .int .i64 ((3 : Nat) : Int) | 9 => .int .u8 ((0 : Nat) : Int) | 10 => .int .i64 ((0 : Nat) : Int) | 11 => .int .i64 ((3 : Nat) : Int) | _ => undef) () A.1 (by kernel_rfl) (by decide) (by decide) (Below.refl _ _) ?_ ?_
    · intro i_ hi_ s a X hf hv hn hS
      match i_, hi_ with
      | 0, _ => exact stepV rfl rfl (execFldK0 rfl ((hf 9 (by decide)).trans t9)) ⟨s, ⟨_, rfl, rfl⟩, hS, fun _ _ => rfl⟩
      | 1, _ => exact stepV rfl rfl (execLdL rfl (hv 0 (by omega) _ rfl _ rfl) (bkC_at (on9 F9 hS)).1) ⟨s, ⟨_, rfl, rfl⟩, hS, fun _ _ => rfl⟩
      | 2, _ => exact stepV rfl rfl (execFldK1 rfl ((hf 9 (by decide)).trans t9)) ⟨s, ⟨_, rfl, rfl⟩, hS, fun _ _ => rfl⟩
      | 3, _ => exact stepV rfl rfl (execLd3 rfl (hv 2 (by omega) _ rfl _ rfl) (bkC_at (on9 F9 hS)).2) ⟨s, ⟨_, rfl, rfl⟩, hS, fun _ _ => rfl⟩
      | 4, _ => exact stepC rfl rfl (execCall2 Try.func12 (by kernel_rfl) (by kernel_rfl) rfl (hv 1 (by omega) _ rfl _ rfl) (hv 3 (by omega) _ rfl _ rfl)) (rbyte_no (P k) (Ln k) _ X (hskW.on hS) hlk) fun e w' hh => ⟨_, hh.1, s, ⟨_, rfl, rfl⟩, by rw [hh.2]; exact hS, fun _ _ => rfl⟩
      | 5, _ => exact stepV rfl rfl (execMvB rfl (hv 4 (by omega) _ rfl _ rfl)) ⟨s, ⟨_, rfl, rfl⟩, hS, fun _ _ => rfl⟩
      | 6, _ => exact stepV rfl rfl (execExtT rfl (hv 5 (by omega) _ rfl _ rfl) rfl) ⟨s, ⟨_, rfl, rfl⟩, hS, fun _ _ => rfl⟩
      | 7, _ => exact stepV rfl rfl (execExtT rfl (hv 5 (by omega) _ rfl _ rfl) rfl) ⟨s, ⟨_, rfl, rfl⟩, hS, fun _ _ => rfl⟩
      | 8, _ => exact stepV rfl rfl (execExtT rfl (hv 5 (by omega) _ rfl _ rfl) rfl) ⟨s, ⟨_, rfl, rfl⟩, hS, fun _ _ => rfl⟩
      | 9, _ => exact stepV rfl rfl (execAsgB rfl (hv 6 (by omega) _ rfl _ rfl)) ⟨s, ⟨_, rfl, rfl⟩, hS, fun _ _ => rfl⟩
      | 10, _ => exact stepV rfl rfl (execAsgB rfl (hv 7 (by omega) _ rfl _ rfl)) ⟨s, ⟨_, rfl, rfl⟩, hS, fun _ _ => rfl⟩
      | 11, _ => exact stepV rfl rfl (execAsgB rfl (hv 8 (by omega) _ rfl _ rfl)) ⟨s, ⟨_, rfl, rfl⟩, hS, fun _ _ => rfl⟩
      | k_ + 12, h_ => exact absurd h_ (by simp)
    rintro _ a X23 h1 h2 h3 h4 hS
    replace hS : Below X22.heap.size X22 X23 := hS
    have bX := hS
    clear hS
    replace t3 := (h3 3 (by decide)).trans t3
    replace t4 := (h3 4 (by decide)).trans t4
    replace t6 := (h3 6 (by decide)).trans t6
    replace t9 := (h3 9 (by decide)).trans t9
    replace t39 := (h3 39 (by decide)).trans t39
    replace t40 := (h3 40 (by decide)).trans t40
    replace t41 := (h3 41 (by decide)).trans t41
    replace t13 := (h3 13 (by decide)).trans t13
    replace t14 := (h3 14 (by decide)).trans t14
    replace t15 := (h3 15 (by decide)).trans t15
    have t16 : a.eval (.tmp 16) = .int .u8 ((0 : Nat) : Int) := h4 9 _ rfl _ rfl
    have t17 : a.eval (.tmp 17) = .int .i64 ((0 : Nat) : Int) := h4 10 _ rfl _ rfl
    have t18 : a.eval (.tmp 18) = .int .i64 ((3 : Nat) : Int) := h4 11 _ rfl _ rfl
    replace FT := (FT.on bX)
    replace F6 := (on9 F6 bX)
    replace F8 := (on9 F8 bX)
    replace F9 := (on9 F9 bX)
    replace hskW := (hskW.on bX)
    replace Fge14 := Fge14
    replace F14 := (on9 F14 bX)
    have ZX23 := bX.size
    replace BW := BW.trans (bX.mono BW.size)
    clear bX
    replace A := (⟨h1, h2.trans A.2⟩ : a.tmps.size = 270 ∧ a.defers = [])
    clear h1 h2 h3 h4
    refine wp_seq ?_
    refine wp_seq ?_
    refine wp_region_sq (σ := Unit) 270 [(0, 112), (1, 113), (2, 114), (3, 115), (4, 116), (5, 117), (6, 118), (7, 119)] (fun j_ s X => match j_ with | 0 => Below X23.heap.size X23 X | 1 => Below X23.heap.size X23 X | 2 => Below X23.heap.size X23 X | 3 => Below X23.heap.size X23 X | 4 => Below X23.heap.size X23 X | 5 => Below X23.heap.size X23 X | 6 => Below X23.heap.size X23 X | 7 => Below X23.heap.size X23 X | _ => Below X23.heap.size X23 X) (fun s => fun i_ => match i_ with | 0 => .int .u8 ((0 : Nat) : Int) | 1 => .int .u8 ((0 : Nat) : Int) | 2 => .bool false | 3 => .bool false | 4 => .int .i64 ((3 : Nat) : Int) | 5 => .int .i64 ((3 : Nat) : Int) | 6 => .bool false | 7 => .bool false | _ => undef) () A.1 (by kernel_rfl) (by decide) (by decide) (Below.refl _ _) ?_ ?_
    · intro i_ hi_ s a X hf hv hn hS
      match i_, hi_ with
      | 0, _ => exact stepV rfl rfl (execMvB rfl ((hf 13 (by decide)).trans t13)) ⟨s, ⟨_, rfl, rfl⟩, hS, fun _ _ => rfl⟩
      | 1, _ => exact stepV rfl rfl (execMvB rfl ((hf 16 (by decide)).trans t16)) ⟨s, ⟨_, rfl, rfl⟩, hS, fun _ _ => rfl⟩
      | 2, _ => exact stepV rfl rfl (execNeqU8 rfl (hv 0 (by omega) _ rfl _ rfl) (hv 1 (by omega) _ rfl _ rfl)) ⟨s, ⟨_, rfl, rfl⟩, hS, fun _ _ => rfl⟩
      | 3, _ => exact stepV rfl rfl (execMvB rfl (hv 2 (by omega) _ rfl _ rfl)) ⟨s, ⟨_, rfl, rfl⟩, hS, fun _ _ => rfl⟩
      | 4, _ => exact stepV rfl (wantedOf rfl (yieldedAt rfl rfl (show a.eval (.tmp 115) = .bool false from (hv 3 (by omega) _ rfl _ rfl)))) (execMvB rfl ((hf 15 (by decide)).trans t15)) ⟨s, ⟨_, rfl, rfl⟩, hS, fun _ _ => rfl⟩
      | 5, _ => exact stepV rfl (wantedOf rfl (yieldedAt rfl rfl (show a.eval (.tmp 115) = .bool false from (hv 3 (by omega) _ rfl _ rfl)))) (execMvB rfl ((hf 18 (by decide)).trans t18)) ⟨s, ⟨_, rfl, rfl⟩, hS, fun _ _ => rfl⟩
      | 6, _ => exact stepV rfl (wantedOf rfl (yieldedAt rfl rfl (show a.eval (.tmp 115) = .bool false from (hv 3 (by omega) _ rfl _ rfl)))) (execDec (execNeN (p := 3) (q := 3) rfl (hv 4 (by omega) _ rfl _ rfl) (hv 5 (by omega) _ rfl _ rfl)) (decide_eq_false (by omega))) ⟨s, ⟨_, rfl, rfl⟩, hS, fun _ _ => rfl⟩
      | 7, _ => exact stepV rfl rfl (execPickF rfl (hv 3 (by omega) _ rfl _ rfl) (hv 6 (by omega) _ rfl _ rfl)) ⟨s, ⟨_, rfl, rfl⟩, hS, fun _ _ => rfl⟩
      | k_ + 8, h_ => exact absurd h_ (by simp)
    rintro _ a X24 h1 h2 h3 h4 hS
    replace hS : Below X23.heap.size X23 X24 := hS
    have bX := hS
    clear hS
    replace t3 := (h3 3 (by decide)).trans t3
    replace t4 := (h3 4 (by decide)).trans t4
    replace t6 := (h3 6 (by decide)).trans t6
    replace t9 := (h3 9 (by decide)).trans t9
    replace t14 := (h3 14 (by decide)).trans t14
    replace t17 := (h3 17 (by decide)).trans t17
    replace t18 := (h3 18 (by decide)).trans t18
    replace t39 := (h3 39 (by decide)).trans t39
    replace t40 := (h3 40 (by decide)).trans t40
    replace t41 := (h3 41 (by decide)).trans t41
    have t119 : a.eval (.tmp 119) = .bool false := h4 7 _ rfl _ rfl
    replace FT := (FT.on bX)
    replace F6 := (on9 F6 bX)
    replace F8 := (on9 F8 bX)
    replace F9 := (on9 F9 bX)
    replace hskW := (hskW.on bX)
    replace Fge14 := Fge14
    replace F14 := (on9 F14 bX)
    have ZX24 := bX.size
    replace BW := BW.trans (bX.mono BW.size)
    clear bX
    replace A := (⟨h1, h2.trans A.2⟩ : a.tmps.size = 270 ∧ a.defers = [])
    clear h1 h2 h3 h4
    clear t13 t15 t16
    refine wp_cond_false t119 ?_
    refine wp_skip ?_
    clear t119
    refine wp_seq ?_
    refine wp_seq ?_
    refine wp_region_sq (σ := Unit) 270 [(0, 120), (1, 121)] (fun j_ s X => match j_ with | 0 => Below X24.heap.size X24 X | 1 => Below X24.heap.size X24 X | _ => Below X24.heap.size X24 X) (fun s => fun i_ => match i_ with | 0 => .int .i64 ((3 : Nat) : Int) | 1 => .bool true | _ => undef) () A.1 (by kernel_rfl) (by decide) (by decide) (Below.refl _ _) ?_ ?_
    · intro i_ hi_ s a X hf hv hn hS
      match i_, hi_ with
      | 0, _ => exact stepV rfl rfl (execMvB rfl ((hf 18 (by decide)).trans t18)) ⟨s, ⟨_, rfl, rfl⟩, hS, fun _ _ => rfl⟩
      | 1, _ => exact stepV rfl rfl (execDec (execNeN (p := 3) (q := 0) rfl (hv 0 (by omega) _ rfl _ rfl) rfl) (decide_eq_true (by omega))) ⟨s, ⟨_, rfl, rfl⟩, hS, fun _ _ => rfl⟩
      | k_ + 2, h_ => exact absurd h_ (by simp)
    rintro _ a X26 h1 h2 h3 h4 hS
    replace hS : Below X24.heap.size X24 X26 := hS
    have bX := hS
    clear hS
    replace t3 := (h3 3 (by decide)).trans t3
    replace t4 := (h3 4 (by decide)).trans t4
    replace t6 := (h3 6 (by decide)).trans t6
    replace t9 := (h3 9 (by decide)).trans t9
    replace t14 := (h3 14 (by decide)).trans t14
    replace t17 := (h3 17 (by decide)).trans t17
    replace t39 := (h3 39 (by decide)).trans t39
    replace t40 := (h3 40 (by decide)).trans t40
    replace t41 := (h3 41 (by decide)).trans t41
    have t121 : a.eval (.tmp 121) = .bool true := h4 1 _ rfl _ rfl
    replace FT := (FT.on bX)
    replace F6 := (on9 F6 bX)
    replace F8 := (on9 F8 bX)
    replace F9 := (on9 F9 bX)
    replace hskW := (hskW.on bX)
    replace Fge14 := Fge14
    replace F14 := (on9 F14 bX)
    have ZX26 := bX.size
    replace BW := BW.trans (bX.mono BW.size)
    clear bX
    replace A := (⟨h1, h2.trans A.2⟩ : a.tmps.size = 270 ∧ a.defers = [])
    clear h1 h2 h3 h4
    clear t18
    clear hskW
    refine wp_cond_true t121 ?_
    clear t121
    have BB := BW
    refine wp_region_sq (σ := Unit) 270 [(0, 122), (2, 17)] (fun j_ s X => match j_ with | 0 => Below V.heap.size V X ∧ (TB V tv bv m P Ln At pvs X) ∧ X.heap[g6]? = some (.cells (stC kd tt nn pw) 32) ∧ X.heap[g9]? = some (.cells (bkC (pvs k) (Ln k)) 29) ∧ X.heap[g14]? = some (.cells (tpC (P k) 0 0) 25) | 1 => Below V.heap.size V X ∧ (TB V tv bv m P Ln At pvs X) ∧ X.heap[g6]? = some (.cells (stC kd tt nn pw) 32) ∧ X.heap[g9]? = some (.cells (bkC (pvs k) (Ln k)) 29) ∧ X.heap[g14]? = some (.cells (tpC (P k) 0 0) 25) | 2 => Below V.heap.size V X ∧ (TB V tv bv m P Ln At pvs X) ∧ X.heap[g6]? = some (.cells (stC kd tt nn pw) 32) ∧ X.heap[g14]? = some (.cells (tpC (P k) 0 0) 25) ∧ X.heap[g9]? = some (.cells (bkC (.slice none 0 0) 0) 29) | _ => Below V.heap.size V X ∧ (TB V tv bv m P Ln At pvs X) ∧ X.heap[g6]? = some (.cells (stC kd tt nn pw) 32) ∧ X.heap[g14]? = some (.cells (tpC (P k) 0 0) 25) ∧ X.heap[g9]? = some (.cells (bkC (.slice none 0 0) 0) 29)) (fun s => fun i_ => match i_ with | 0 => .agg (bkC (.slice none 0 0) 0) | 1 => undef | 2 => .int .i64 ((0 : Nat) : Int) | _ => undef) () A.1 (by kernel_rfl) (by decide) (by decide) ⟨BB, FT, F6, F9, F14⟩ ?_ ?_
    · intro i_ hi_ s a X hf hv hn hS
      match i_, hi_ with
      | 0, _ => exact stepV rfl rfl (execBldK0 rfl) ⟨s, ⟨_, rfl, rfl⟩, hS, fun _ _ => rfl⟩
      | 1, _ => exact stepS rfl rfl (execStRowA rfl ((hf 9 (by decide)).trans t9) (hv 0 (by omega) _ rfl _ rfl) hS.2.2.2.1 rfl (size_bk _ _) (bk_one _ ⟨_, _, _, rfl⟩)) ⟨s, ⟨_, rfl, rfl⟩, ⟨below4 hS.1 h9V _, (hS.2.1.setN (own_ty hS.2.1.tap hS.2.2.2.1 (by decide)) hn9), (by rw [setRow_other _ _ _ _ (ne_ty hS.2.2.1 hS.2.2.2.1 (by decide))]; exact hS.2.2.1), (by rw [setRow_other _ _ _ _ (ne_ty hS.2.2.2.2 hS.2.2.2.1 (by decide))]; exact hS.2.2.2.2), setRow_heap _ _ _ _ _ _ hS.2.2.2.1⟩, fun _ _ => rfl⟩
      | 2, _ => exact stepV rfl rfl (execAsgB rfl rfl) ⟨s, ⟨_, rfl, rfl⟩, hS, fun _ _ => rfl⟩
      | k_ + 3, h_ => exact absurd h_ (by simp)
    rintro _ a X27 h1 h2 h3 h4 hS
    clear BB
    clear FT
    clear F6
    clear F9
    clear F14
    replace hS : Below V.heap.size V X27 ∧ (TB V tv bv m P Ln At pvs X27) ∧ X27.heap[g6]? = some (.cells (stC kd tt nn pw) 32) ∧ X27.heap[g14]? = some (.cells (tpC (P k) 0 0) 25) ∧ X27.heap[g9]? = some (.cells (bkC (.slice none 0 0) 0) 29) := hS
    obtain ⟨BB, FT, F6, F14, F9⟩ := hS
    replace t3 := (h3 3 (by decide)).trans t3
    replace t4 := (h3 4 (by decide)).trans t4
    replace t6 := (h3 6 (by decide)).trans t6
    replace t9 := (h3 9 (by decide)).trans t9
    replace t14 := (h3 14 (by decide)).trans t14
    replace t17 : a.eval (.tmp 17) = .int .i64 ((0 : Nat) : Int) := h4 2 _ rfl _ rfl
    replace t39 := (h3 39 (by decide)).trans t39
    replace t40 := (h3 40 (by decide)).trans t40
    replace t41 := (h3 41 (by decide)).trans t41
    replace A := (⟨h1, h2.trans A.2⟩ : a.tmps.size = 270 ∧ a.defers = [])
    clear h1 h2 h3 h4
    replace BW := BB
    clear BB
    have FT0 := FT
    have BB := BW
    have FTa := FT.tap
    have FBo := FT.boo
    refine wp_region_stB (σ := Nat × Value × Nat × Value) 270 [(0, 123), (1, 124), (2, 125), (3, 126), (4, 127), (5, 128), (6, 129), (7, 130), (8, 131), (9, 132), (10, 133), (11, 3), (12, 4)] (fun l_ s X => Below V.heap.size V X ∧ (l_ 3 = false → (X.ownsRow V.heap.size 25 2 tv m (pairL (fun t => .string (strN (P t) (Ln t))) (fun t => .int .i64 (At t : Int)) m))) ∧ (l_ 10 = false → (X.ownsRow V.heap.size 29 2 bv m (pairL pvs (fun t => .int .i64 (At t : Int)) m))) ∧ (X.heap[g6]? = some (.cells (stC kd tt nn pw) 32)) ∧ (l_ 3 = false → X.heap[g14]? = some (.cells (tpC (P k) 0 0) 25)) ∧ (l_ 10 = false → X.heap[g9]? = some (.cells (bkC (.slice none 0 0) 0) 29)) ∧ (l_ 2 = true → l_ 3 = false → (X.heap[s.1]? = some (.cells (tpC (P k) 0 0) 25))) ∧ (l_ 2 = true → (V.heap.size ≤ s.1)) ∧ (l_ 3 = true → (X.ownsRow V.heap.size 25 2 s.2.1 (m + 1) ((pairL (fun t => .string (strN (P t) (Ln t))) (fun t => .int .i64 (At t : Int)) m) ++ [.string (strN (P k) 0), .int .i64 ((0 : Nat) : Int)]))) ∧ (l_ 9 = true → l_ 10 = false → (X.heap[s.2.2.1]? = some (.cells (bkC (.slice none 0 0) 0) 29))) ∧ (l_ 9 = true → (V.heap.size ≤ s.2.2.1)) ∧ (l_ 10 = true → (X.ownsRow V.heap.size 29 2 s.2.2.2 (m + 1) ((pairL pvs (fun t => .int .i64 (At t : Int)) m) ++ [(.slice none 0 0), .int .i64 ((0 : Nat) : Int)])))) (fun s => fun i_ => match i_ with | 0 => tv | 1 => .agg (tpC (P k) 0 0) | 2 => .slice (some ⟨s.1, 0, none⟩) 1 1 | 3 => s.2.1 | 4 => bv | 5 => .pointer (some ⟨g9, 0, none⟩) | 6 => .slice none 0 0 | 7 => .int .i64 ((0 : Nat) : Int) | 8 => .agg (bkC (.slice none 0 0) 0) | 9 => .slice (some ⟨s.2.2.1, 0, none⟩) 1 1 | 10 => s.2.2.2 | 11 => s.2.1 | 12 => s.2.2.2 | _ => undef) (0, undef, 0, undef) (by kernel_rfl) (by kernel_rfl) A.1 (by kernel_rfl) (by decide) (by decide) ⟨(BB.drew), (fun _ => (ownsLL_below FTa (Below.refl _ _).drew)), (fun _ => (ownsLL_below FBo (Below.refl _ _).drew)), ((on9 F6 (Below.refl _ _).drew)), (fun _ => (on9 F14 (Below.refl _ _).drew)), (fun _ => (on9 F9 (Below.refl _ _).drew)), (fun q0_ q1_ => by cases q0_), (fun q0_ => by cases q0_), (fun q0_ => by cases q0_), (fun q0_ q1_ => by cases q0_), (fun q0_ => by cases q0_), (fun q0_ => by cases q0_)⟩ ?_ ?_
    · intro i_ hi_ l_ s a X hl_ hf hdep hl2 hcl hno hT
      have up : ∀ j x, x ≠ j → updB l_ j x = l_ x := fun j x hj => by unfold updB; simp [hj]
      match i_, hi_ with
      | 0, _ => exact stepV rfl rfl (execMvB rfl ((hno 11 _ rfl _ rfl (by cases hq_ : l_ 11 with | false => rfl | true => exact absurd (hl_.symm.trans (hcl 11 _ rfl hq_ 0 rfl)) (by decide))).trans t3)) ⟨s, ⟨_, rfl, rfl⟩, ⟨hT.1, (fun q0_ => (hT.2.1 (by rw [up 0 3 (by decide)] at q0_; exact q0_))), (fun q0_ => (hT.2.2.1 (by rw [up 0 10 (by decide)] at q0_; exact q0_))), (hT.2.2.2.1), (fun q0_ => (hT.2.2.2.2.1 (by rw [up 0 3 (by decide)] at q0_; exact q0_))), (fun q0_ => (hT.2.2.2.2.2.1 (by rw [up 0 10 (by decide)] at q0_; exact q0_))), (fun q0_ q1_ => (hT.2.2.2.2.2.2.1 (by rw [up 0 2 (by decide)] at q0_; exact q0_) (by rw [up 0 3 (by decide)] at q1_; exact q1_))), (fun q0_ => (hT.2.2.2.2.2.2.2.1 (by rw [up 0 2 (by decide)] at q0_; exact q0_))), (fun q0_ => absurd (hl_.symm.trans (hcl 3 _ rfl ((up 0 3 (by decide)).symm.trans q0_) 0 rfl)) (by decide)), (fun q0_ q1_ => (hT.2.2.2.2.2.2.2.2.2.1 (by rw [up 0 9 (by decide)] at q0_; exact q0_) (by rw [up 0 10 (by decide)] at q1_; exact q1_))), (fun q0_ => (hT.2.2.2.2.2.2.2.2.2.2.1 (by rw [up 0 9 (by decide)] at q0_; exact q0_))), (fun q0_ => absurd (hl_.symm.trans (hcl 3 _ rfl (hcl 10 _ rfl ((up 0 10 (by decide)).symm.trans q0_) 3 rfl) 0 rfl)) (by decide))⟩, fun _ _ _ => rfl⟩
      | 1, _ => exact stepV rfl rfl (execLdTp rfl ((hf 14 (by decide)).trans t14) (hT.2.2.2.2.1 (by cases hq_ : l_ 3 with | false => rfl | true => exact absurd (hl_.symm.trans (hcl 2 _ rfl (hcl 3 _ rfl hq_ 2 rfl) 1 rfl)) (by decide)))) ⟨s, ⟨_, rfl, rfl⟩, ⟨hT.1, (fun q0_ => (hT.2.1 (by rw [up 1 3 (by decide)] at q0_; exact q0_))), (fun q0_ => (hT.2.2.1 (by rw [up 1 10 (by decide)] at q0_; exact q0_))), (hT.2.2.2.1), (fun q0_ => (hT.2.2.2.2.1 (by rw [up 1 3 (by decide)] at q0_; exact q0_))), (fun q0_ => (hT.2.2.2.2.2.1 (by rw [up 1 10 (by decide)] at q0_; exact q0_))), (fun q0_ q1_ => absurd (hl_.symm.trans (hcl 2 _ rfl ((up 1 2 (by decide)).symm.trans q0_) 1 rfl)) (by decide)), (fun q0_ => absurd (hl_.symm.trans (hcl 2 _ rfl ((up 1 2 (by decide)).symm.trans q0_) 1 rfl)) (by decide)), (fun q0_ => absurd (hl_.symm.trans (hcl 2 _ rfl (hcl 3 _ rfl ((up 1 3 (by decide)).symm.trans q0_) 2 rfl) 1 rfl)) (by decide)), (fun q0_ q1_ => (hT.2.2.2.2.2.2.2.2.2.1 (by rw [up 1 9 (by decide)] at q0_; exact q0_) (by rw [up 1 10 (by decide)] at q1_; exact q1_))), (fun q0_ => (hT.2.2.2.2.2.2.2.2.2.2.1 (by rw [up 1 9 (by decide)] at q0_; exact q0_))), (fun q0_ => absurd (hl_.symm.trans (hcl 2 _ rfl (hcl 3 _ rfl (hcl 10 _ rfl ((up 1 10 (by decide)).symm.trans q0_) 3 rfl) 2 rfl) 1 rfl)) (by decide))⟩, fun _ _ _ => rfl⟩
      | 2, _ =>
        refine stepV rfl rfl (execBsT rfl (hdep _ rfl 1 rfl _ rfl _ rfl)) ⟨(X.heap.size, s.2.1, s.2.2.1, s.2.2.2), ⟨_, rfl, rfl⟩, ⟨hT.1.trans (((belNew X _)).mono hT.1.size), (fun q0_ => (ownsLL_below (hT.2.1 (by rw [up 2 3 (by decide)] at q0_; exact q0_)) (belNew X _))), (fun q0_ => (ownsLL_below (hT.2.2.1 (by rw [up 2 10 (by decide)] at q0_; exact q0_)) (belNew X _))), ((on9 hT.2.2.2.1 (belNew X _))), (fun q0_ => (on9 (hT.2.2.2.2.1 (by rw [up 2 3 (by decide)] at q0_; exact q0_)) (belNew X _))), (fun q0_ => (on9 (hT.2.2.2.2.2.1 (by rw [up 2 10 (by decide)] at q0_; exact q0_)) (belNew X _))), (fun _q0_ _q1_ => heapNew X _), (fun _q0_ => (hT.1).size), (fun q0_ => absurd (hl_.symm.trans (hcl 3 _ rfl ((up 2 3 (by decide)).symm.trans q0_) 2 rfl)) (by decide)), (fun q0_ q1_ => (on9 (hT.2.2.2.2.2.2.2.2.2.1 (by rw [up 2 9 (by decide)] at q0_; exact q0_) (by rw [up 2 10 (by decide)] at q1_; exact q1_)) (belNew X _))), (fun q0_ => (hT.2.2.2.2.2.2.2.2.2.2.1 (by rw [up 2 9 (by decide)] at q0_; exact q0_))), (fun q0_ => absurd (hl_.symm.trans (hcl 3 _ rfl (hcl 10 _ rfl ((up 2 10 (by decide)).symm.trans q0_) 3 rfl) 2 rfl)) (by decide))⟩, fun i hi hli => ?_⟩
        match i, hi with
        | 0, _ => rfl
        | 1, _ => rfl
        | 2, _ => exact absurd (hl_.symm.trans hli) (by decide)
        | 3, _ => rfl
        | 4, _ => rfl
        | 5, _ => rfl
        | 6, _ => rfl
        | 7, _ => rfl
        | 8, _ => rfl
        | 9, _ => rfl
        | 10, _ => rfl
        | 11, _ => rfl
        | 12, _ => rfl
        | k_ + 13, h_ => exact absurd h_ (by simp)
      | 3, _ =>
        refine stepAppT rfl rfl rfl (hdep _ rfl 0 rfl _ rfl _ rfl) (hdep _ rfl 2 rfl _ rfl _ rfl) (hT.2.1 hl_) (hT.2.2.2.2.2.2.1 (hl2 _ rfl 2 rfl) hl_) hm (hT.1).size fun v' W' own' gr => ⟨(s.1, v', s.2.2.1, s.2.2.2), ⟨_, rfl, rfl⟩, ⟨(hT.1).grown gr (hT.1).size (fun k hk => ((hT.2.1 hl_).lt k hk).1), (fun q0_ => absurd q0_ (by unfold updB; simp)), (fun q0_ => own_overT (hT.2.2.1 (by rw [up 3 10 (by decide)] at q0_; exact q0_)) (hT.2.1 hl_) gr (by decide)), (heap_overL (hT.2.1 hl_) gr hT.2.2.2.1 (by decide)), (fun q0_ => absurd q0_ (by unfold updB; simp)), (fun q0_ => heap_overL (hT.2.1 hl_) gr (hT.2.2.2.2.2.1 (by rw [up 3 10 (by decide)] at q0_; exact q0_)) (by decide)), (fun q0_ q1_ => absurd q1_ (by unfold updB; simp)), (fun q0_ => (hT.2.2.2.2.2.2.2.1 (by rw [up 3 2 (by decide)] at q0_; exact q0_))), (fun _q0_ => own'), (fun q0_ q1_ => heap_overL (hT.2.1 hl_) gr (hT.2.2.2.2.2.2.2.2.2.1 (by rw [up 3 9 (by decide)] at q0_; exact q0_) (by rw [up 3 10 (by decide)] at q1_; exact q1_)) (by decide)), (fun q0_ => (hT.2.2.2.2.2.2.2.2.2.2.1 (by rw [up 3 9 (by decide)] at q0_; exact q0_))), (fun q0_ => absurd (hl_.symm.trans (hcl 10 _ rfl ((up 3 10 (by decide)).symm.trans q0_) 3 rfl)) (by decide))⟩, fun i hi hli => ?_⟩
        match i, hi with
        | 0, _ => rfl
        | 1, _ => rfl
        | 2, _ => rfl
        | 3, _ => exact absurd (hl_.symm.trans hli) (by decide)
        | 4, _ => rfl
        | 5, _ => rfl
        | 6, _ => rfl
        | 7, _ => rfl
        | 8, _ => rfl
        | 9, _ => rfl
        | 10, _ => rfl
        | 11, _ => exact absurd (hl_.symm.trans (hcl 11 _ rfl hli 3 rfl)) (by decide)
        | 12, _ => rfl
        | k_ + 13, h_ => exact absurd h_ (by simp)
      | 4, _ => exact stepV rfl rfl (execMvB rfl ((hno 12 _ rfl _ rfl (by cases hq_ : l_ 12 with | false => rfl | true => exact absurd (hl_.symm.trans (hcl 12 _ rfl hq_ 4 rfl)) (by decide))).trans t4)) ⟨s, ⟨_, rfl, rfl⟩, ⟨hT.1, (fun q0_ => (hT.2.1 (by rw [up 4 3 (by decide)] at q0_; exact q0_))), (fun q0_ => (hT.2.2.1 (by rw [up 4 10 (by decide)] at q0_; exact q0_))), (hT.2.2.2.1), (fun q0_ => (hT.2.2.2.2.1 (by rw [up 4 3 (by decide)] at q0_; exact q0_))), (fun q0_ => (hT.2.2.2.2.2.1 (by rw [up 4 10 (by decide)] at q0_; exact q0_))), (fun q0_ q1_ => (hT.2.2.2.2.2.2.1 (by rw [up 4 2 (by decide)] at q0_; exact q0_) (by rw [up 4 3 (by decide)] at q1_; exact q1_))), (fun q0_ => (hT.2.2.2.2.2.2.2.1 (by rw [up 4 2 (by decide)] at q0_; exact q0_))), (fun q0_ => (hT.2.2.2.2.2.2.2.2.1 (by rw [up 4 3 (by decide)] at q0_; exact q0_))), (fun q0_ q1_ => (hT.2.2.2.2.2.2.2.2.2.1 (by rw [up 4 9 (by decide)] at q0_; exact q0_) (by rw [up 4 10 (by decide)] at q1_; exact q1_))), (fun q0_ => (hT.2.2.2.2.2.2.2.2.2.2.1 (by rw [up 4 9 (by decide)] at q0_; exact q0_))), (fun q0_ => absurd (hl_.symm.trans (hcl 10 _ rfl ((up 4 10 (by decide)).symm.trans q0_) 4 rfl)) (by decide))⟩, fun _ _ _ => rfl⟩
      | 5, _ => exact stepV rfl rfl (execFldK0 rfl ((hf 9 (by decide)).trans t9)) ⟨s, ⟨_, rfl, rfl⟩, ⟨hT.1, (fun q0_ => (hT.2.1 (by rw [up 5 3 (by decide)] at q0_; exact q0_))), (fun q0_ => (hT.2.2.1 (by rw [up 5 10 (by decide)] at q0_; exact q0_))), (hT.2.2.2.1), (fun q0_ => (hT.2.2.2.2.1 (by rw [up 5 3 (by decide)] at q0_; exact q0_))), (fun q0_ => (hT.2.2.2.2.2.1 (by rw [up 5 10 (by decide)] at q0_; exact q0_))), (fun q0_ q1_ => (hT.2.2.2.2.2.2.1 (by rw [up 5 2 (by decide)] at q0_; exact q0_) (by rw [up 5 3 (by decide)] at q1_; exact q1_))), (fun q0_ => (hT.2.2.2.2.2.2.2.1 (by rw [up 5 2 (by decide)] at q0_; exact q0_))), (fun q0_ => (hT.2.2.2.2.2.2.2.2.1 (by rw [up 5 3 (by decide)] at q0_; exact q0_))), (fun q0_ q1_ => absurd (hl_.symm.trans (hcl 6 _ rfl (hcl 8 _ rfl (hcl 9 _ rfl ((up 5 9 (by decide)).symm.trans q0_) 8 rfl) 6 rfl) 5 rfl)) (by decide)), (fun q0_ => absurd (hl_.symm.trans (hcl 6 _ rfl (hcl 8 _ rfl (hcl 9 _ rfl ((up 5 9 (by decide)).symm.trans q0_) 8 rfl) 6 rfl) 5 rfl)) (by decide)), (fun q0_ => absurd (hl_.symm.trans (hcl 6 _ rfl (hcl 8 _ rfl (hcl 9 _ rfl (hcl 10 _ rfl ((up 5 10 (by decide)).symm.trans q0_) 9 rfl) 8 rfl) 6 rfl) 5 rfl)) (by decide))⟩, fun _ _ _ => rfl⟩
      | 6, _ => exact stepV rfl rfl (execLdL rfl (hdep _ rfl 5 rfl _ rfl _ rfl) (bkC_at (hT.2.2.2.2.2.1 (by cases hq_ : l_ 10 with | false => rfl | true => exact absurd (hl_.symm.trans (hcl 8 _ rfl (hcl 9 _ rfl (hcl 10 _ rfl hq_ 9 rfl) 8 rfl) 6 rfl)) (by decide)))).1) ⟨s, ⟨_, rfl, rfl⟩, ⟨hT.1, (fun q0_ => (hT.2.1 (by rw [up 6 3 (by decide)] at q0_; exact q0_))), (fun q0_ => (hT.2.2.1 (by rw [up 6 10 (by decide)] at q0_; exact q0_))), (hT.2.2.2.1), (fun q0_ => (hT.2.2.2.2.1 (by rw [up 6 3 (by decide)] at q0_; exact q0_))), (fun q0_ => (hT.2.2.2.2.2.1 (by rw [up 6 10 (by decide)] at q0_; exact q0_))), (fun q0_ q1_ => (hT.2.2.2.2.2.2.1 (by rw [up 6 2 (by decide)] at q0_; exact q0_) (by rw [up 6 3 (by decide)] at q1_; exact q1_))), (fun q0_ => (hT.2.2.2.2.2.2.2.1 (by rw [up 6 2 (by decide)] at q0_; exact q0_))), (fun q0_ => (hT.2.2.2.2.2.2.2.2.1 (by rw [up 6 3 (by decide)] at q0_; exact q0_))), (fun q0_ q1_ => absurd (hl_.symm.trans (hcl 8 _ rfl (hcl 9 _ rfl ((up 6 9 (by decide)).symm.trans q0_) 8 rfl) 6 rfl)) (by decide)), (fun q0_ => absurd (hl_.symm.trans (hcl 8 _ rfl (hcl 9 _ rfl ((up 6 9 (by decide)).symm.trans q0_) 8 rfl) 6 rfl)) (by decide)), (fun q0_ => absurd (hl_.symm.trans (hcl 8 _ rfl (hcl 9 _ rfl (hcl 10 _ rfl ((up 6 10 (by decide)).symm.trans q0_) 9 rfl) 8 rfl) 6 rfl)) (by decide))⟩, fun _ _ _ => rfl⟩
      | 7, _ => exact stepV rfl rfl (execMvB rfl ((hf 17 (by decide)).trans t17)) ⟨s, ⟨_, rfl, rfl⟩, ⟨hT.1, (fun q0_ => (hT.2.1 (by rw [up 7 3 (by decide)] at q0_; exact q0_))), (fun q0_ => (hT.2.2.1 (by rw [up 7 10 (by decide)] at q0_; exact q0_))), (hT.2.2.2.1), (fun q0_ => (hT.2.2.2.2.1 (by rw [up 7 3 (by decide)] at q0_; exact q0_))), (fun q0_ => (hT.2.2.2.2.2.1 (by rw [up 7 10 (by decide)] at q0_; exact q0_))), (fun q0_ q1_ => (hT.2.2.2.2.2.2.1 (by rw [up 7 2 (by decide)] at q0_; exact q0_) (by rw [up 7 3 (by decide)] at q1_; exact q1_))), (fun q0_ => (hT.2.2.2.2.2.2.2.1 (by rw [up 7 2 (by decide)] at q0_; exact q0_))), (fun q0_ => (hT.2.2.2.2.2.2.2.2.1 (by rw [up 7 3 (by decide)] at q0_; exact q0_))), (fun q0_ q1_ => absurd (hl_.symm.trans (hcl 8 _ rfl (hcl 9 _ rfl ((up 7 9 (by decide)).symm.trans q0_) 8 rfl) 7 rfl)) (by decide)), (fun q0_ => absurd (hl_.symm.trans (hcl 8 _ rfl (hcl 9 _ rfl ((up 7 9 (by decide)).symm.trans q0_) 8 rfl) 7 rfl)) (by decide)), (fun q0_ => absurd (hl_.symm.trans (hcl 8 _ rfl (hcl 9 _ rfl (hcl 10 _ rfl ((up 7 10 (by decide)).symm.trans q0_) 9 rfl) 8 rfl) 7 rfl)) (by decide))⟩, fun _ _ _ => rfl⟩
      | 8, _ => exact stepV rfl rfl (execBldK2 (at' := 0) rfl (hdep _ rfl 6 rfl _ rfl _ rfl) (hdep _ rfl 7 rfl _ rfl _ rfl) ⟨_, _, _, rfl⟩) ⟨s, ⟨_, rfl, rfl⟩, ⟨hT.1, (fun q0_ => (hT.2.1 (by rw [up 8 3 (by decide)] at q0_; exact q0_))), (fun q0_ => (hT.2.2.1 (by rw [up 8 10 (by decide)] at q0_; exact q0_))), (hT.2.2.2.1), (fun q0_ => (hT.2.2.2.2.1 (by rw [up 8 3 (by decide)] at q0_; exact q0_))), (fun q0_ => (hT.2.2.2.2.2.1 (by rw [up 8 10 (by decide)] at q0_; exact q0_))), (fun q0_ q1_ => (hT.2.2.2.2.2.2.1 (by rw [up 8 2 (by decide)] at q0_; exact q0_) (by rw [up 8 3 (by decide)] at q1_; exact q1_))), (fun q0_ => (hT.2.2.2.2.2.2.2.1 (by rw [up 8 2 (by decide)] at q0_; exact q0_))), (fun q0_ => (hT.2.2.2.2.2.2.2.2.1 (by rw [up 8 3 (by decide)] at q0_; exact q0_))), (fun q0_ q1_ => absurd (hl_.symm.trans (hcl 9 _ rfl ((up 8 9 (by decide)).symm.trans q0_) 8 rfl)) (by decide)), (fun q0_ => absurd (hl_.symm.trans (hcl 9 _ rfl ((up 8 9 (by decide)).symm.trans q0_) 8 rfl)) (by decide)), (fun q0_ => absurd (hl_.symm.trans (hcl 9 _ rfl (hcl 10 _ rfl ((up 8 10 (by decide)).symm.trans q0_) 9 rfl) 8 rfl)) (by decide))⟩, fun _ _ _ => rfl⟩
      | 9, _ =>
        refine stepV rfl rfl (execBsK rfl (hdep _ rfl 8 rfl _ rfl _ rfl) ⟨_, _, _, rfl⟩) ⟨(s.1, s.2.1, X.heap.size, s.2.2.2), ⟨_, rfl, rfl⟩, ⟨hT.1.trans (((belNew X _)).mono hT.1.size), (fun q0_ => (ownsLL_below (hT.2.1 (by rw [up 9 3 (by decide)] at q0_; exact q0_)) (belNew X _))), (fun q0_ => (ownsLL_below (hT.2.2.1 (by rw [up 9 10 (by decide)] at q0_; exact q0_)) (belNew X _))), ((on9 hT.2.2.2.1 (belNew X _))), (fun q0_ => (on9 (hT.2.2.2.2.1 (by rw [up 9 3 (by decide)] at q0_; exact q0_)) (belNew X _))), (fun q0_ => (on9 (hT.2.2.2.2.2.1 (by rw [up 9 10 (by decide)] at q0_; exact q0_)) (belNew X _))), (fun q0_ q1_ => (on9 (hT.2.2.2.2.2.2.1 (by rw [up 9 2 (by decide)] at q0_; exact q0_) (by rw [up 9 3 (by decide)] at q1_; exact q1_)) (belNew X _))), (fun q0_ => (hT.2.2.2.2.2.2.2.1 (by rw [up 9 2 (by decide)] at q0_; exact q0_))), (fun q0_ => (ownsLL_below (hT.2.2.2.2.2.2.2.2.1 (by rw [up 9 3 (by decide)] at q0_; exact q0_)) (belNew X _))), (fun _q0_ _q1_ => heapNew X _), (fun _q0_ => (hT.1).size), (fun q0_ => absurd (hl_.symm.trans (hcl 10 _ rfl ((up 9 10 (by decide)).symm.trans q0_) 9 rfl)) (by decide))⟩, fun i hi hli => ?_⟩
        match i, hi with
        | 0, _ => rfl
        | 1, _ => rfl
        | 2, _ => rfl
        | 3, _ => rfl
        | 4, _ => rfl
        | 5, _ => rfl
        | 6, _ => rfl
        | 7, _ => rfl
        | 8, _ => rfl
        | 9, _ => exact absurd (hl_.symm.trans hli) (by decide)
        | 10, _ => rfl
        | 11, _ => rfl
        | 12, _ => rfl
        | k_ + 13, h_ => exact absurd h_ (by simp)
      | 10, _ =>
        refine stepAppK rfl rfl rfl (hdep _ rfl 4 rfl _ rfl _ rfl) (hdep _ rfl 9 rfl _ rfl _ rfl) (hT.2.2.1 hl_) (hT.2.2.2.2.2.2.2.2.2.1 (hl2 _ rfl 9 rfl) hl_) ⟨_, _, _, rfl⟩ hm (hT.1).size fun v' W' own' gr => ⟨(s.1, s.2.1, s.2.2.1, v'), ⟨_, rfl, rfl⟩, ⟨(hT.1).grown gr (hT.1).size (fun k hk => ((hT.2.2.1 hl_).lt k hk).1), (fun q0_ => absurd (q0_.symm.trans ((up 10 3 (by decide)).trans (hl2 _ rfl 3 rfl))) (by decide)), (fun q0_ => absurd q0_ (by unfold updB; simp)), (heap_overL (hT.2.2.1 hl_) gr hT.2.2.2.1 (by decide)), (fun q0_ => absurd (q0_.symm.trans ((up 10 3 (by decide)).trans (hl2 _ rfl 3 rfl))) (by decide)), (fun q0_ => absurd q0_ (by unfold updB; simp)), (fun q0_ q1_ => absurd (q1_.symm.trans ((up 10 3 (by decide)).trans (hl2 _ rfl 3 rfl))) (by decide)), (fun q0_ => (hT.2.2.2.2.2.2.2.1 (by rw [up 10 2 (by decide)] at q0_; exact q0_))), (fun q0_ => own_overT (hT.2.2.2.2.2.2.2.2.1 (by rw [up 10 3 (by decide)] at q0_; exact q0_)) (hT.2.2.1 hl_) gr (by decide)), (fun q0_ q1_ => absurd q1_ (by unfold updB; simp)), (fun q0_ => (hT.2.2.2.2.2.2.2.2.2.2.1 (by rw [up 10 9 (by decide)] at q0_; exact q0_))), (fun _q0_ => own')⟩, fun i hi hli => ?_⟩
        match i, hi with
        | 0, _ => rfl
        | 1, _ => rfl
        | 2, _ => rfl
        | 3, _ => rfl
        | 4, _ => rfl
        | 5, _ => rfl
        | 6, _ => rfl
        | 7, _ => rfl
        | 8, _ => rfl
        | 9, _ => rfl
        | 10, _ => exact absurd (hl_.symm.trans hli) (by decide)
        | 11, _ => rfl
        | 12, _ => exact absurd (hl_.symm.trans (hcl 12 _ rfl hli 10 rfl)) (by decide)
        | k_ + 13, h_ => exact absurd h_ (by simp)
      | 11, _ => exact stepV rfl rfl (execAsgB rfl (hdep _ rfl 3 rfl _ rfl _ rfl)) ⟨s, ⟨_, rfl, rfl⟩, ⟨hT.1, (fun q0_ => absurd (q0_.symm.trans ((up 11 3 (by decide)).trans (hl2 _ rfl 3 rfl))) (by decide)), (fun q0_ => absurd (q0_.symm.trans ((up 11 10 (by decide)).trans (hl2 _ rfl 10 rfl))) (by decide)), (hT.2.2.2.1), (fun q0_ => absurd (q0_.symm.trans ((up 11 3 (by decide)).trans (hl2 _ rfl 3 rfl))) (by decide)), (fun q0_ => absurd (q0_.symm.trans ((up 11 10 (by decide)).trans (hl2 _ rfl 10 rfl))) (by decide)), (fun q0_ q1_ => absurd (q1_.symm.trans ((up 11 3 (by decide)).trans (hl2 _ rfl 3 rfl))) (by decide)), (fun q0_ => (hT.2.2.2.2.2.2.2.1 (by rw [up 11 2 (by decide)] at q0_; exact q0_))), (fun q0_ => (hT.2.2.2.2.2.2.2.2.1 (by rw [up 11 3 (by decide)] at q0_; exact q0_))), (fun q0_ q1_ => absurd (q1_.symm.trans ((up 11 10 (by decide)).trans (hl2 _ rfl 10 rfl))) (by decide)), (fun q0_ => (hT.2.2.2.2.2.2.2.2.2.2.1 (by rw [up 11 9 (by decide)] at q0_; exact q0_))), (fun q0_ => (hT.2.2.2.2.2.2.2.2.2.2.2 (by rw [up 11 10 (by decide)] at q0_; exact q0_)))⟩, fun _ _ _ => rfl⟩
      | 12, _ => exact stepV rfl rfl (execAsgB rfl (hdep _ rfl 10 rfl _ rfl _ rfl)) ⟨s, ⟨_, rfl, rfl⟩, ⟨hT.1, (fun q0_ => absurd (q0_.symm.trans ((up 12 3 (by decide)).trans (hl2 _ rfl 3 rfl))) (by decide)), (fun q0_ => absurd (q0_.symm.trans ((up 12 10 (by decide)).trans (hl2 _ rfl 10 rfl))) (by decide)), (hT.2.2.2.1), (fun q0_ => absurd (q0_.symm.trans ((up 12 3 (by decide)).trans (hl2 _ rfl 3 rfl))) (by decide)), (fun q0_ => absurd (q0_.symm.trans ((up 12 10 (by decide)).trans (hl2 _ rfl 10 rfl))) (by decide)), (fun q0_ q1_ => absurd (q1_.symm.trans ((up 12 3 (by decide)).trans (hl2 _ rfl 3 rfl))) (by decide)), (fun q0_ => (hT.2.2.2.2.2.2.2.1 (by rw [up 12 2 (by decide)] at q0_; exact q0_))), (fun q0_ => (hT.2.2.2.2.2.2.2.2.1 (by rw [up 12 3 (by decide)] at q0_; exact q0_))), (fun q0_ q1_ => absurd (q1_.symm.trans ((up 12 10 (by decide)).trans (hl2 _ rfl 10 rfl))) (by decide)), (fun q0_ => (hT.2.2.2.2.2.2.2.2.2.2.1 (by rw [up 12 9 (by decide)] at q0_; exact q0_))), (fun q0_ => (hT.2.2.2.2.2.2.2.2.2.2.2 (by rw [up 12 10 (by decide)] at q0_; exact q0_)))⟩, fun _ _ _ => rfl⟩
      | k_ + 13, h_ => exact absurd h_ (by simp)
    rintro l_ ⟨g125, v126, g132, v133⟩ a X28 h1 h2 h3 h4 hall hT
    clear BB
    clear FTa
    clear FBo
    clear F6
    clear F14
    clear F9
    obtain ⟨BB, FTa, FBo, F6, F14, F9, Fg125, Fgeg125, FTb, Fg132, Fgeg132, FBb⟩ := hT
    clear FTa
    clear FBo
    replace F6 : X28.heap[g6]? = some (.cells (stC kd tt nn pw) 32) := F6
    clear F14
    clear F9
    clear Fg125
    replace Fgeg125 : (V.heap.size ≤ g125) := Fgeg125 (hall 2 (by decide))
    replace FTb : (X28.ownsRow V.heap.size 25 2 v126 (m + 1) ((pairL (fun t => .string (strN (P t) (Ln t))) (fun t => .int .i64 (At t : Int)) m) ++ [.string (strN (P k) 0), .int .i64 ((0 : Nat) : Int)])) := FTb (hall 3 (by decide))
    clear Fg132
    replace Fgeg132 : (V.heap.size ≤ g132) := Fgeg132 (hall 9 (by decide))
    replace FBb : (X28.ownsRow V.heap.size 29 2 v133 (m + 1) ((pairL pvs (fun t => .int .i64 (At t : Int)) m) ++ [(.slice none 0 0), .int .i64 ((0 : Nat) : Int)])) := FBb (hall 10 (by decide))
    clear hall
    replace t3 : a.eval (.tmp 3) = v126 := h4 (11, 3) (by decide)
    replace t4 : a.eval (.tmp 4) = v133 := h4 (12, 4) (by decide)
    replace t6 := (h3 6 (by decide)).trans t6
    replace t39 := (h3 39 (by decide)).trans t39
    replace t40 := (h3 40 (by decide)).trans t40
    replace t41 := (h3 41 (by decide)).trans t41
    replace A := (⟨h1, h2.trans A.2⟩ : a.tmps.size = 270 ∧ a.defers = [])
    clear h1 h2 h3 h4
    clear t9 t14 t17
    exact hQ a _ _ _ (m + 1) _ _ _ _ A t3 t4 t6 t39 t40 t41 BB (tb_push FT0 FTb FBb (Nat.le_refl _) (by omega) slice_nil9 nil_nil9) (Nat.le_refl _) F6
end Go.Proofs.Ytigkmgoidbamnaa.Tap
