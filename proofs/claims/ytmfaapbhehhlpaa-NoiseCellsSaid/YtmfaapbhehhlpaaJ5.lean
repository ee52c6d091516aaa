import Derived.Test.YtmfaapbhehhlpaaJ4
namespace Go.Proofs.Ytmfaapbhehhlpaa.Aes
open Go.RowKit Gf8

theorem few_all : ∀ x : Fin 256, gm 2 x.val = xt x.val ∧ gm 3 x.val = xt x.val ^^^ x.val ∧ gm 1 x.val = x.val := by decide +kernel
/-- The reference's row of the mixing. -/
def mxF (x : Nat → Nat) (r : Nat) : Nat := x r ^^^ (x 0 ^^^ x 1 ^^^ x 2 ^^^ x 3) ^^^ xt (x r ^^^ x ((r + 1) % 4))
theorem mxF_mix {x : Nat → Nat} (hx : ∀ i, i < 4 → x i < 256) {r : Nat} (hr : r < 4) : mxF x r = mixk fwd x r := by
  have s (j : Nat) (h : j < 4) := few_all ⟨x j, hx j h⟩
  obtain ⟨a0, b0, e0⟩ := s 0 (by omega)
  obtain ⟨a1, b1, e1⟩ := s 1 (by omega)
  obtain ⟨a2, b2, e2⟩ := s 2 (by omega)
  obtain ⟨a3, b3, e3⟩ := s 3 (by omega)
  simp only at a0 b0 e0 a1 b1 e1 a2 b2 e2 a3 b3 e3
  have : r = 0 ∨ r = 1 ∨ r = 2 ∨ r = 3 := by omega
  rcases this with rfl | rfl | rfl | rfl
  · show x 0 ^^^ (x 0 ^^^ x 1 ^^^ x 2 ^^^ x 3) ^^^ xt (x 0 ^^^ x 1) = gm 2 (x 0) ^^^ gm 3 (x 1) ^^^ gm 1 (x 2) ^^^ gm 1 (x 3)
    rw [a0, b1, e2, e3, xt_xor]
    apply Nat.eq_of_testBit_eq
    intro i
    simp only [Nat.testBit_xor]
    cases (x 0).testBit i <;> cases (x 1).testBit i <;> cases (x 2).testBit i <;> cases (x 3).testBit i <;> cases (xt (x 0)).testBit i <;> cases (xt (x 1)).testBit i <;> rfl
  · show x 1 ^^^ (x 0 ^^^ x 1 ^^^ x 2 ^^^ x 3) ^^^ xt (x 1 ^^^ x 2) = gm 1 (x 0) ^^^ gm 2 (x 1) ^^^ gm 3 (x 2) ^^^ gm 1 (x 3)
    rw [e0, a1, b2, e3, xt_xor]
    apply Nat.eq_of_testBit_eq
    intro i
    simp only [Nat.testBit_xor]
    cases (x 0).testBit i <;> cases (x 1).testBit i <;> cases (x 2).testBit i <;> cases (x 3).testBit i <;> cases (xt (x 1)).testBit i <;> cases (xt (x 2)).testBit i <;> rfl
  · show x 2 ^^^ (x 0 ^^^ x 1 ^^^ x 2 ^^^ x 3) ^^^ xt (x 2 ^^^ x 3) = gm 1 (x 0) ^^^ gm 1 (x 1) ^^^ gm 2 (x 2) ^^^ gm 3 (x 3)
    rw [e0, e1, a2, b3, xt_xor]
    apply Nat.eq_of_testBit_eq
    intro i
    simp only [Nat.testBit_xor]
    cases (x 0).testBit i <;> cases (x 1).testBit i <;> cases (x 2).testBit i <;> cases (x 3).testBit i <;> cases (xt (x 2)).testBit i <;> cases (xt (x 3)).testBit i <;> rfl
  · show x 3 ^^^ (x 0 ^^^ x 1 ^^^ x 2 ^^^ x 3) ^^^ xt (x 3 ^^^ x 0) = gm 3 (x 0) ^^^ gm 1 (x 1) ^^^ gm 1 (x 2) ^^^ gm 2 (x 3)
    rw [b0, e1, e2, a3, xt_xor]
    apply Nat.eq_of_testBit_eq
    intro i
    simp only [Nat.testBit_xor]
    cases (x 0).testBit i <;> cases (x 1).testBit i <;> cases (x 2).testBit i <;> cases (x 3).testBit i <;> cases (xt (x 0)).testBit i <;> cases (xt (x 3)).testBit i <;> rfl
/-- The column's sum. -/
def sum4 (b : Nat → Nat) (c : Nat) : Nat := b c ^^^ b (c + 1) ^^^ b (c + 2) ^^^ b (c + 3)
theorem mx_at {b : Nat → Nat} (hb : By b) {q r : Nat} (hq : q < 4) (hr : r < 4) : b (4 * q + r) ^^^ sum4 b (4 * q) ^^^ xt (b (4 * q + r) ^^^ b (4 * q + (r + 1) % 4)) = mixB fwd b (4 * q + r) := by
  have e1 : (4 * q + r) / 4 * 4 = 4 * q := by omega
  have e2 : (4 * q + r) % 4 = r := by omega
  unfold mixB
  rw [e1, e2, ← mxF_mix (x := fun s => b (4 * q + s)) (fun i hi => hb _ (by omega)) hr]
  rfl
/-- What each operation of 'out[c+r] = ..' yields. -/
def mxV (A c r : Nat) (b : Nat → Nat) (j : Nat) : Value :=
  match j with
  | 0 => .int .i64 c | 1 => .int .i64 r | 2 => .int .i64 (c + r : Nat) | 3 => .int .i64 c | 4 => .int .i64 r | 5 => .int .i64 (c + r : Nat) | 6 => .pointer (some ⟨A, c + r, none⟩) | 7 => .int .u8 (b (c + r)) | 8 => .int .u8 (sum4 b c : Nat)
  | 9 => .int .u8 (b (c + r) ^^^ sum4 b c : Nat) | 10 => .int .i64 c | 11 => .int .i64 r | 12 => .int .i64 (c + r : Nat) | 13 => .pointer (some ⟨A, c + r, none⟩) | 14 => .int .u8 (b (c + r)) | 15 => .int .i64 c | 16 => .int .i64 r | 17 => .int .i64 (r + 1 : Nat)
  | 18 => .int .i64 ((r + 1) % 4 : Nat) | 19 => .int .i64 (c + (r + 1) % 4 : Nat) | 20 => .pointer (some ⟨A, c + (r + 1) % 4, none⟩) | 21 => .int .u8 (b (c + (r + 1) % 4)) | 22 => .int .u8 (b (c + r) ^^^ b (c + (r + 1) % 4) : Nat)
  | 23 => .int .u8 (xt (b (c + r) ^^^ b (c + (r + 1) % 4)) : Nat) | 24 => .int .u8 (b (c + r) ^^^ sum4 b c ^^^ xt (b (c + r) ^^^ b (c + (r + 1) % 4)) : Nat) | 25 => .pointer (some ⟨A + 2, c + r, none⟩) | _ => undef
structure MxT (A k : Nat) (b : Nat → Nat) (V : World) (l : Nat → Bool) (W : World) : Prop where
  bb : W.heap[A]? = some (.cells (bA 16 b) 55)
  rr : W.heap[A + 1]? = some (.cells (bA 16 fun _ => 0) 55)
  oo : W.heap[A + 2]? = some (.cells (bA 16 (uptoC (mixB fwd b) (if l 26 = true then k + 1 else k))) 55)
  bel : Below A V W

set_option maxRecDepth 20000 in
set_option maxHeartbeats 1000000 in
theorem mixed_any (b : Nat → Nat) (V : World) (hb : By b) :
    Calls Try.prog 57 #[.agg (bA 16 b)] V fun e w' => e = .returned (.agg (bA 16 (mixB fwd b))) ∧ Below V.heap.size V w' := by
  have HB : Hid (By b) := hb
  clear hb
  have z := zero16
  go_enter Try.func57, Try.ntmps57
  go_wp2_with fail
  have t0 : MxT V.heap.size 0 b V (fun _ => false) (((V.alloc (.cells (bA 16 b) 55)).alloc (.cells (bA 16 fun _ => 0) 55)).alloc (.cells (bA 16 fun _ => 0) 55)) := by
    have h := heap3c V (.cells (bA 16 b) 55) (.cells (bA 16 fun _ => 0) 55) (.cells (bA 16 fun _ => 0) 55)
    exact ⟨h.1, h.2.1, h.2.2, below3c _ _ _ _⟩
  obtain ⟨A, hA⟩ : ∃ A, A = V.heap.size := ⟨_, rfl⟩
  rw [← hA] at t0 ⊢
  have VA : Hid (V.heap.size = A) := hA.symm
  have T0 : Hid (_) := t0
  clear z t0 hA
  rw [show A + 1 + 1 = A + 2 from rfl]
  go_loopw [4] (fun x W => ∃ q : Nat, q ≤ 4 ∧ x = .int .i64 ((4 * q : Nat) : Int) ∧ MxT A (4 * q) b V (fun _ => false) W) (fun x _ => 16 - (intOf x).toNat)
  case atStart => exact ⟨0, by omega, rfl, T0.out⟩
  case round =>
    obtain ⟨q, hq, rfl, kt⟩ := hrel
    have KT : Hid (_) := kt
    clear kt T0
    by_cases hlt : q < 4
    · obtain ⟨c, hc⟩ : ∃ c, 4 * q = c := ⟨_, rfl⟩
      have HC : Hid (4 * q = c ∧ q < 4) := ⟨hc, hlt⟩
      rw [hc] at KT ⊢
      have i1 : (c : Int) < 16 := by omega
      obtain ⟨c1, h1⟩ : ∃ x, c + 1 = x := ⟨_, rfl⟩
      obtain ⟨c2, h2⟩ : ∃ x, c + 2 = x := ⟨_, rfl⟩
      obtain ⟨c3, h3⟩ : ∃ x, c + 3 = x := ⟨_, rfl⟩
      have e1 : (c : Int) + 1 = c1 := by omega
      have e2 : (c : Int) + 2 = c2 := by omega
      have e3 : (c : Int) + 3 = c3 := by omega
      have l1 : (c1 : Int) < 16 := by omega
      have l2 : (c2 : Int) < 16 := by omega
      have l3 : (c3 : Int) < 16 := by omega
      obtain ⟨p0, hp0⟩ : ∃ x, b c = x := ⟨_, rfl⟩
      obtain ⟨p1, hp1⟩ : ∃ x, b c1 = x := ⟨_, rfl⟩
      obtain ⟨p2, hp2⟩ : ∃ x, b c2 = x := ⟨_, rfl⟩
      obtain ⟨p3, hp3⟩ : ∃ x, b c3 = x := ⟨_, rfl⟩
      have u0 : p0 < 256 := by rw [← hp0]; exact HB.out _ (by omega)
      have u1 : p1 < 256 := by rw [← hp1]; exact HB.out _ (by omega)
      have u2 : p2 < 256 := by rw [← hp2]; exact HB.out _ (by omega)
      have u3 : p3 < 256 := by rw [← hp3]; exact HB.out _ (by omega)
      have r0 : wr.cell? ⟨A, c, none⟩ = some (.int .u8 p0) := by rw [cellN KT.out.bb (by omega), hp0]
      have r1 : wr.cell? ⟨A, c1, none⟩ = some (.int .u8 p1) := by rw [cellN KT.out.bb (by omega), hp1]
      have r2 : wr.cell? ⟨A, c2, none⟩ = some (.int .u8 p2) := by rw [cellN KT.out.bb (by omega), hp2]
      have r3 : wr.cell? ⟨A, c3, none⟩ = some (.int .u8 p3) := by rw [cellN KT.out.bb (by omega), hp3]
      have f1 := xor_u8 u0 u1
      have f2 := xor_u8 (xor_lt u0 u1) u2
      have f3 := xor_u8 (xor_lt (xor_lt u0 u1) u2) u3
      have ES : Hid (p0 ^^^ p1 ^^^ p2 ^^^ p3 = sum4 b c ∧ sum4 b c < 256) := by
        have e : p0 ^^^ p1 ^^^ p2 ^^^ p3 = sum4 b c := by rw [← hp0, ← hp1, ← hp2, ← hp3, ← h1, ← h2, ← h3]; rfl
        exact ⟨e, by rw [← e]; exact xor_lt (xor_lt (xor_lt u0 u1) u2) u3⟩
      clear hc hlt hq h1 h2 h3 hp0 hp1 hp2 hp3
      go_wp2_with fail
      go_quiet (skip)
      go_wp2_with fail
      rw [ES.out.1]
      clear r0 r1 r2 r3 f1 f2 f3 e1 e2 e3 l1 l2 l3 u0 u1 u2 u3
      go_loopw [6] (fun x W => ∃ r : Nat, r ≤ 4 ∧ x = .int .i64 r ∧ MxT A (c + r) b V (fun _ => false) W) (fun x _ => 4 - (intOf x).toNat)
      case atStart => exact ⟨0, by omega, rfl, KT.out.bb, KT.out.rr, KT.out.oo, belowD KT.out.bel _⟩
      case round =>
        obtain ⟨r, hr, rfl, kt⟩ := hrel
        have KR : Hid (_) := kt
        clear kt KT
        by_cases hrl : r < 4
        · have j1 : (r : Int) < 4 := by omega
          have HL : Hid (r < 4) := hrl
          clear hrl hr
          go_wp2_with fail
          refine wp_region_det 60 [(0, 33), (1, 34), (2, 35), (3, 36), (4, 37), (5, 38), (6, 39), (7, 40), (8, 41), (9, 42), (10, 43), (11, 44), (12, 45), (13, 46), (14, 47), (15, 48), (16, 49), (17, 50), (18, 51), (19, 52), (20, 53), (21, 54), (22, 55), (23, 56), (24, 57), (25, 58)] (mxV A c r b) (MxT A (c + r) b V) (by kernel_rfl) (by kernel_rfl) rfl (by kernel_rfl) (by decide) (by decide) ?_ ?_ ?_
          · exact ⟨KR.out.bb, KR.out.rr, KR.out.oo, KR.out.bel.drew⟩
          · intro j hj l a W hl hf hdep hl2 _ _ hT
            have lr := HL.out
            have lc := HC.out
            have s1 := ES.out.2
            have b1 : b (c + r) < 256 := HB.out _ (by omega)
            have b2 : b (c + (r + 1) % 4) < 256 := HB.out _ (by omega)
            have b3 := xt_lt (xor_lt b1 b2)
            match j, hj with
            | 0, _ => exact stepV rfl rfl (execMvB rfl (hf 4 (by decide))) ⟨⟨_, rfl, rfl⟩, ⟨hT.bb, hT.rr, hT.oo, hT.bel⟩⟩
            | 1, _ => exact stepV rfl rfl (execMvB rfl (hf 6 (by decide))) ⟨⟨_, rfl, rfl⟩, ⟨hT.bb, hT.rr, hT.oo, hT.bel⟩⟩
            | 2, _ => exact stepV rfl rfl (execAddI rfl (hdep _ rfl 0 rfl _ rfl _ rfl) (hdep _ rfl 1 rfl _ rfl _ rfl) (by omega)) ⟨⟨_, rfl, rfl⟩, ⟨hT.bb, hT.rr, hT.oo, hT.bel⟩⟩
            | 3, _ => exact stepV rfl rfl (execMvB rfl (hf 4 (by decide))) ⟨⟨_, rfl, rfl⟩, ⟨hT.bb, hT.rr, hT.oo, hT.bel⟩⟩
            | 4, _ => exact stepV rfl rfl (execMvB rfl (hf 6 (by decide))) ⟨⟨_, rfl, rfl⟩, ⟨hT.bb, hT.rr, hT.oo, hT.bel⟩⟩
            | 5, _ => exact stepV rfl rfl (execAddI rfl (hdep _ rfl 3 rfl _ rfl _ rfl) (hdep _ rfl 4 rfl _ rfl _ rfl) (by omega)) ⟨⟨_, rfl, rfl⟩, ⟨hT.bb, hT.rr, hT.oo, hT.bel⟩⟩
            | 6, _ => exact stepV rfl rfl (execIdx16 rfl (hf 1 (by decide)) (hdep _ rfl 5 rfl _ rfl _ rfl) (by omega)) ⟨⟨_, rfl, rfl⟩, ⟨hT.bb, hT.rr, hT.oo, hT.bel⟩⟩
            | 7, _ => exact stepV rfl rfl (execLdB rfl (hdep _ rfl 6 rfl _ rfl _ rfl) (cellN hT.bb (by omega))) ⟨⟨_, rfl, rfl⟩, ⟨hT.bb, hT.rr, hT.oo, hT.bel⟩⟩
            | 8, _ => exact stepV rfl rfl (execMvB rfl (hf 5 (by decide))) ⟨⟨_, rfl, rfl⟩, ⟨hT.bb, hT.rr, hT.oo, hT.bel⟩⟩
            | 9, _ => exact stepV rfl rfl (execXor5 rfl (hdep _ rfl 7 rfl _ rfl _ rfl) (hdep _ rfl 8 rfl _ rfl _ rfl) b1 s1) ⟨⟨_, rfl, rfl⟩, ⟨hT.bb, hT.rr, hT.oo, hT.bel⟩⟩
            | 10, _ => exact stepV rfl rfl (execMvB rfl (hf 4 (by decide))) ⟨⟨_, rfl, rfl⟩, ⟨hT.bb, hT.rr, hT.oo, hT.bel⟩⟩
            | 11, _ => exact stepV rfl rfl (execMvB rfl (hf 6 (by decide))) ⟨⟨_, rfl, rfl⟩, ⟨hT.bb, hT.rr, hT.oo, hT.bel⟩⟩
            | 12, _ => exact stepV rfl rfl (execAddI rfl (hdep _ rfl 10 rfl _ rfl _ rfl) (hdep _ rfl 11 rfl _ rfl _ rfl) (by omega)) ⟨⟨_, rfl, rfl⟩, ⟨hT.bb, hT.rr, hT.oo, hT.bel⟩⟩
            | 13, _ => exact stepV rfl rfl (execIdx16 rfl (hf 1 (by decide)) (hdep _ rfl 12 rfl _ rfl _ rfl) (by omega)) ⟨⟨_, rfl, rfl⟩, ⟨hT.bb, hT.rr, hT.oo, hT.bel⟩⟩
            | 14, _ => exact stepV rfl rfl (execLdB rfl (hdep _ rfl 13 rfl _ rfl _ rfl) (cellN hT.bb (by omega))) ⟨⟨_, rfl, rfl⟩, ⟨hT.bb, hT.rr, hT.oo, hT.bel⟩⟩
            | 15, _ => exact stepV rfl rfl (execMvB rfl (hf 4 (by decide))) ⟨⟨_, rfl, rfl⟩, ⟨hT.bb, hT.rr, hT.oo, hT.bel⟩⟩
            | 16, _ => exact stepV rfl rfl (execMvB rfl (hf 6 (by decide))) ⟨⟨_, rfl, rfl⟩, ⟨hT.bb, hT.rr, hT.oo, hT.bel⟩⟩
            | 17, _ => exact stepV rfl rfl (execAddI (q := 1) rfl (hdep _ rfl 16 rfl _ rfl _ rfl) rfl (by omega)) ⟨⟨_, rfl, rfl⟩, ⟨hT.bb, hT.rr, hT.oo, hT.bel⟩⟩
            | 18, _ => exact stepV rfl rfl (execRemI (q := 4) rfl (hdep _ rfl 17 rfl _ rfl _ rfl) rfl (by omega)) ⟨⟨_, rfl, rfl⟩, ⟨hT.bb, hT.rr, hT.oo, hT.bel⟩⟩
            | 19, _ => exact stepV rfl rfl (execAddI rfl (hdep _ rfl 15 rfl _ rfl _ rfl) (hdep _ rfl 18 rfl _ rfl _ rfl) (by omega)) ⟨⟨_, rfl, rfl⟩, ⟨hT.bb, hT.rr, hT.oo, hT.bel⟩⟩
            | 20, _ => exact stepV rfl rfl (execIdx16 rfl (hf 1 (by decide)) (hdep _ rfl 19 rfl _ rfl _ rfl) (by omega)) ⟨⟨_, rfl, rfl⟩, ⟨hT.bb, hT.rr, hT.oo, hT.bel⟩⟩
            | 21, _ => exact stepV rfl rfl (execLdB rfl (hdep _ rfl 20 rfl _ rfl _ rfl) (cellN hT.bb (by omega))) ⟨⟨_, rfl, rfl⟩, ⟨hT.bb, hT.rr, hT.oo, hT.bel⟩⟩
            | 22, _ => exact stepV rfl rfl (execXor5 rfl (hdep _ rfl 14 rfl _ rfl _ rfl) (hdep _ rfl 21 rfl _ rfl _ rfl) b1 b2) ⟨⟨_, rfl, rfl⟩, ⟨hT.bb, hT.rr, hT.oo, hT.bel⟩⟩
            | 23, _ => exact stepC rfl rfl (execCall1 Try.func55 (by kernel_rfl) (by kernel_rfl) rfl (hdep _ rfl 22 rfl _ rfl _ rfl)) (twice_any _ W (xor_lt b1 b2)) fun e w' h => ⟨_, h.1, ⟨_, rfl, rfl⟩, by rw [h.2]; exact ⟨hT.bb, hT.rr, hT.oo, hT.bel⟩⟩
            | 24, _ => exact stepV rfl rfl (execXor5 rfl (hdep _ rfl 9 rfl _ rfl _ rfl) (hdep _ rfl 23 rfl _ rfl _ rfl) (xor_lt b1 s1) b3) ⟨⟨_, rfl, rfl⟩, ⟨hT.bb, hT.rr, hT.oo, hT.bel⟩⟩
            | 25, _ => exact stepV rfl rfl (execIdx16 rfl (hf 3 (by decide)) (hdep _ rfl 2 rfl _ rfl _ rfl) (by omega)) ⟨⟨_, rfl, rfl⟩, ⟨hT.bb, hT.rr, hT.oo, hT.bel⟩⟩
            | 26, _ =>
              have ge := hT.oo
              rw [hl, if_neg (by decide)] at ge
              have em : b (c + r) ^^^ sum4 b c ^^^ xt (b (c + r) ^^^ b (c + (r + 1) % 4)) = mixB fwd b (c + r) := by rw [← lc.1]; exact mx_at HB.out lc.2 lr
              refine stepS rfl rfl (execStB rfl (hdep _ rfl 25 rfl _ rfl _ rfl) (hdep _ rfl 24 rfl _ rfl _ rfl) (cellN ge (by omega)) (frozen4 ge)) ⟨⟨_, rfl, rfl⟩, ⟨?_, ?_, ?_, hT.bel.setCell (by simp) _⟩⟩
              · rw [heap4o _ ge (by omega)]; exact hT.bb
              · rw [heap4o _ ge (by omega)]; exact hT.rr
              · rw [heap4 _ ge, em]; exact congrArg (fun z => some (Obj.cells z 55)) ((bA_set 16 _ (c + r) _).trans (congrArg (bA 16) (updN_upto (mixB fwd b) (c + r))))
            | n + 27, h => exact absurd h (by simp)
          · intro l W hall hT
            have he := hT.oo
            rw [hall 26 (by simp), if_pos rfl] at he
            have KT2 : Hid (MxT A (c + (r + 1)) b V (fun _ => false) W) := ⟨hT.bb, hT.rr, he, hT.bel⟩
            clear hall hT he KR
            simp only [putP, mxV, Act.put, List.setIfInBounds_toArray, List.set_cons_succ, List.set_cons_zero]
            go_wp2
            go_roundw
            case rel => exact ⟨r + 1, by have := HL.out; omega, by go_num, KT2.out⟩
            case measure => have := HL.out; simp [intOf]; omega
        · have er : r = 4 := by omega
          subst er
          have KT2 : Hid (MxT A (4 * (q + 1)) b V (fun _ => false) wr) := by
            have h := KR.out
            have e := HC.out.1
            rw [show c + 4 = 4 * (q + 1) by omega] at h
            exact h
          go_wp2
          go_roundw
          case rel => exact ⟨q + 1, by have := HC.out; omega, by have := HC.out.1; go_num, KT2.out⟩
          case measure => have := HC.out; simp [intOf]; omega
    · have eq : q = 4 := by omega
      subst eq
      have G : Hid (wr.heap[A + 2]? = some (.cells (bA 16 (mixB fwd b)) 55)) := by
        have h := KT.out.oo
        rw [if_neg (by decide), bA_congr (g := mixB fwd b) (fun j hj => by unfold uptoC; rw [if_pos (by omega)])] at h
        exact h
      go_wp2_with (first
        | (refine atLoad 55 (.tmp 3) rfl ?_; go_must (refine wpList_load_row rfl 55 (.tmp 3) rfl (A + 2) rfl 55 _ (0, 0) _ G.out Try.underlying55 rfl (size16 _) ?_; simp only [Act.put, List.setIfInBounds_toArray, List.set_cons_succ, List.set_cons_zero]))
        | (refine atStore 55 (.tmp 2) (.tmp 59) rfl ?_; go_must (refine wpList_store_row rfl 55 (.tmp 2) (.tmp 59) rfl (A + 1) _ rfl rfl 55 _ KT.out.rr (size16 _) rfl (bA_one _ _) ?_)))
      refine bodyPost_ret (v := .agg (bA 16 (mixB fwd b))) (results_cell_row Try.results57 _ _ (A + 1) 55 _ (0, 0) _ rfl (setRow_heap _ _ _ _ _ _ KT.out.rr) Try.underlying55 rfl (size16 _)) rfl ⟨rfl, ?_⟩
      rw [VA.out]
      exact below4 KT.out.bel (by omega) _
end Go.Proofs.Ytmfaapbhehhlpaa.Aes
