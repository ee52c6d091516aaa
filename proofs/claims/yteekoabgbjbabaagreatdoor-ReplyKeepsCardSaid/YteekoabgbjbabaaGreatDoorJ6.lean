import Derived.Test.YteekoabgbjbabaaGreatDoorJ5
namespace Go.Proofs.YteekoabgbjbabaaGreatDoor.Aes
open Go.RowKit Gf8

/-- The rows of Keys: the key, the answer's place, the bytes so far. -/
structure KyT (A n : Nat) (key : Nat → Nat) (V : World) (W : World) : Prop where
  kk : W.heap[A]? = some (.cells (bA 16 key) 35)
  rr : W.heap[A + 1]? = some (.cells (bA 176 fun _ => 0) 94)
  ww : W.heap[A + 2]? = some (.cells (bA 176 (uptoC (kw key) n)) 94)
  bel : Below A V W
theorem KyT.set {A n : Nat} {key : Nat → Nat} {V W : World} (h : KyT A n key V W) {z : Nat} (hz : kw key n = z) : KyT A (n + 1) key V (W.setCell ⟨A + 2, n, none⟩ (.int .u8 z)) := by
  refine ⟨?_, ?_, ?_, h.bel.setCell (by simp) _⟩
  · rw [heap4o _ h.ww (by omega)]; exact h.kk
  · rw [heap4o _ h.ww (by omega)]; exact h.rr
  · rw [heap4 _ h.ww, bA_set, ← hz, updN_upto]
theorem KyT.at {A n : Nat} {key : Nat → Nat} {V W : World} (h : KyT A n key V W) {j y : Nat} (hj : j < n) (h2 : j < 176) (hy : kw key j = y) : W.cell? ⟨A + 2, j, none⟩ = some (.int .u8 y) := by
  rw [cellN h.ww h2]
  unfold uptoC
  rw [if_pos hj, hy]
theorem KyT.new {A n : Nat} {key : Nat → Nat} {V W : World} (h : KyT A n key V W) {j : Nat} (hj : n ≤ j) (h2 : j < 176) : W.cell? ⟨A + 2, j, none⟩ = some (.int .u8 0) := by
  rw [cellN h.ww h2]
  unfold uptoC
  rw [if_neg (by omega)]
  rfl
theorem KyT.free {A n : Nat} {key : Nat → Nat} {V W : World} (h : KyT A n key V W) (j : Nat) : W.frozen? ⟨A + 2, j, none⟩ = false := frozen4 h.ww
theorem KyT.drewN {A n : Nat} {key : Nat → Nat} {V W : World} (h : KyT A n key V W) (m : Nat) : KyT A n key V (W.drewN m) := ⟨h.kk, h.rr, h.ww, belowD h.bel m⟩
/-- What each operation of 'a, b, c = boxes[b]^round, boxes[c], boxes[d]' yields. -/
def bxV (b c d u s x0 x1 x2 : Nat) (j : Nat) : Value :=
  match j with
  | 0 => .int .u8 b | 1 => .int .u8 s | 2 => .int .u8 u | 3 => .int .u8 x0 | 4 => .int .u8 c | 5 => .int .u8 x1 | 6 => .int .u8 d | 7 => .int .u8 x2
  | 8 => .int .u8 x0 | 9 => .int .u8 x1 | 10 => .int .u8 x2 | _ => undef
theorem execBoxV {o : Oper} {a : Act} {w : World} {x : Operand} {k s : Nat} (ho : o.op = .index 9 (.const (.string boxT)) x) (hx : a.eval x = .int .u8 (k : Int)) (hk : k < 256) (hs : gsub k = s) : (execOp a.eval o).run Tryz.prog w = .ok (.value (.int .u8 s)) w := by
  rw [← hs]; exact execBoxU ho hx hk
theorem execXorV {o : Oper} {a : Act} {w : World} {x y : Operand} {p q s : Nat} (ho : o.op = .binOp .xor 5 x y 5) (hx : a.eval x = .int .u8 p) (hy : a.eval y = .int .u8 q) (hp : p < 256) (hq : q < 256) (hs : p ^^^ q = s) : (execOp a.eval o).run Tryz.prog w = .ok (.value (.int .u8 s)) w := by
  rw [← hs]; exact execXor5 ho hx hy hp hq
theorem execAsgB {P : Program} {o : Oper} {a : Act} {w : World} {x : Operand} {v : Value} (ho : o.op = .assign x) (hx : a.eval x = v) : (execOp a.eval o).run P w = .ok (.value v) w := by
  unfold execOp
  simp only [ho, hx]
  rfl

set_option maxRecDepth 20000 in
set_option maxHeartbeats 4000000 in
theorem keys_any (key : Nat → Nat) (V : World) (hk : ∀ i, i < 16 → key i < 256) :
    Calls Tryz.prog 64 #[.agg (bA 16 key)] V fun e w' => e = .returned (.agg (bA 176 (kw key))) ∧ Below V.heap.size V w' := by
  have HK : Hid (∀ i, kw key i < 256) := kw_lt hk
  clear hk
  have z := zero176
  go_enter Tryz.func64, Tryz.ntmps64
  go_wp2_with fail
  have t0 : KyT V.heap.size 0 key V (((V.alloc (.cells (bA 16 key) 35)).alloc (.cells (bA 176 fun _ => 0) 94)).alloc (.cells (bA 176 fun _ => 0) 94)) := by
    have h := heap3c V (.cells (bA 16 key) 35) (.cells (bA 176 fun _ => 0) 94) (.cells (bA 176 fun _ => 0) 94)
    exact ⟨h.1, h.2.1, h.2.2, below3c _ _ _ _⟩
  obtain ⟨A, hA⟩ : ∃ A, A = V.heap.size := ⟨_, rfl⟩
  rw [← hA] at t0 ⊢
  have VA : Hid (V.heap.size = A) := hA.symm
  clear z hA
  rw [show A + 1 + 1 = A + 2 from rfl]
  go_loopw [4] (fun x W => ∃ k : Nat, k ≤ 16 ∧ x = .int .i64 k ∧ KyT A k key V W) (fun x _ => 16 - (intOf x).toNat)
  case atStart => exact ⟨0, by omega, rfl, t0⟩
  case round =>
    obtain ⟨k, hk, rfl, kt⟩ := hrel
    clear t0
    by_cases hlt : k < 16
    · have i1 : (k : Int) < 16 := by omega
      have i2 : (k : Int) < 176 := by omega
      obtain ⟨x, hx⟩ : ∃ x, kw key k = x := ⟨_, rfl⟩
      have c1 : wr.cell? ⟨A, k, none⟩ = some (.int .u8 x) := by rw [cellN kt.kk hlt, ← kw_low key hlt, hx]
      have c2 := kt.new (Nat.le_refl k) (by omega)
      have c3 := kt.free k
      have KT2 : Hid (KyT A (k + 1) key V (wr.setCell ⟨A + 2, k, none⟩ (.int .u8 x))) := kt.set hx
      clear hx kt
      go_wp2
      go_roundw
      case rel => exact ⟨k + 1, by omega, by go_num, KT2.out⟩
      case measure => simp [intOf]; omega
    · have ek : k = 16 := by omega
      subst ek
      clear hlt hk
      rw [show ((16 : Nat) : Int) = 16 from rfl]
      have KT : Hid (KyT A 16 key V wr) := kt
      clear kt
      go_wp2
      go_loopw [5, 6] (fun u x W => ∃ m : Nat, m ≤ 40 ∧ u = .int .u8 (rcon ((m + 3) / 4) : Nat) ∧ x = .int .i64 ((16 + 4 * m : Nat) : Int) ∧ KyT A (16 + 4 * m) key V W) (fun _ x _ => 176 - (intOf x).toNat)
      case atStart => exact ⟨0, by omega, rfl, rfl, KT.out⟩
      case round =>
        obtain ⟨m, hm, rfl, rfl, kt⟩ := hrel
        clear KT
        by_cases hlt : m < 40
        · obtain ⟨i, hi⟩ : ∃ i, 16 + 4 * m = i := ⟨_, rfl⟩
          rw [hi] at kt ⊢
          obtain ⟨u, hu⟩ : ∃ u, rcon ((m + 3) / 4) = u := ⟨_, rfl⟩
          rw [hu]
          have u1 : u < 256 := by rw [← hu]; exact rcon_lt _
          have i1 : (i : Int) < 176 := by omega
          obtain ⟨k0, hk0⟩ : ∃ x, i - 4 = x := ⟨_, rfl⟩
          obtain ⟨a0, ha0⟩ : ∃ x, kw key k0 = x := ⟨_, rfl⟩
          have ek0 : (i : Int) - 4 = k0 := by omega
          have lk0 : (k0 : Int) < 176 := by omega
          have ca0 := kt.at (j := k0) (by omega) (by omega) ha0
          obtain ⟨k1, hk1⟩ : ∃ x, i - 3 = x := ⟨_, rfl⟩
          obtain ⟨a1, ha1⟩ : ∃ x, kw key k1 = x := ⟨_, rfl⟩
          have ek1 : (i : Int) - 3 = k1 := by omega
          have lk1 : (k1 : Int) < 176 := by omega
          have ca1 := kt.at (j := k1) (by omega) (by omega) ha1
          obtain ⟨k2, hk2⟩ : ∃ x, i - 2 = x := ⟨_, rfl⟩
          obtain ⟨a2, ha2⟩ : ∃ x, kw key k2 = x := ⟨_, rfl⟩
          have ek2 : (i : Int) - 2 = k2 := by omega
          have lk2 : (k2 : Int) < 176 := by omega
          have ca2 := kt.at (j := k2) (by omega) (by omega) ha2
          obtain ⟨k3, hk3⟩ : ∃ x, i - 1 = x := ⟨_, rfl⟩
          obtain ⟨a3, ha3⟩ : ∃ x, kw key k3 = x := ⟨_, rfl⟩
          have ek3 : (i : Int) - 1 = k3 := by omega
          have lk3 : (k3 : Int) < 176 := by omega
          have ca3 := kt.at (j := k3) (by omega) (by omega) ha3
          have KT : Hid (KyT A i key V wr) := kt
          have HM : Hid (16 + 4 * m = i ∧ m < 40 ∧ rcon ((m + 3) / 4) = u ∧ u < 256) := ⟨hi, hlt, hu, u1⟩
          have HJ : Hid (i - 4 = k0 ∧ i - 3 = k1 ∧ i - 2 = k2 ∧ i - 1 = k3) := ⟨hk0, hk1, hk2, hk3⟩
          have HA : Hid (kw key k0 = a0 ∧ kw key k1 = a1 ∧ kw key k2 = a2 ∧ kw key k3 = a3) := ⟨ha0, ha1, ha2, ha3⟩
          have mt : (i : Int).tmod 16 = ((i % 16 : Nat) : Int) := by rw [Int.tmod_eq_emod_of_nonneg (by omega)]; omega
          clear kt hi hu u1 hlt hm hk0 hk1 hk2 hk3 ha0 ha1 ha2 ha3
          by_cases h4 : i % 16 = 0
          · have mt2 : (i : Int).tmod 16 = 0 := by rw [mt, h4]; rfl
            have H16 : Hid (i % 16 = 0) := h4
            clear mt h4
            go_wp2_with fail
            go_quiet (skip)
            go_wp2_with fail
            clear ca0 ca1 ca2 ca3 ek0 ek1 ek2 ek3 lk0 lk1 lk2 lk3 mt2
            have va0 : a0 < 256 := by rw [← HA.out.1]; exact HK.out _
            have va1 : a1 < 256 := by rw [← HA.out.2.1]; exact HK.out _
            have va2 : a2 < 256 := by rw [← HA.out.2.2.1]; exact HK.out _
            have va3 : a3 < 256 := by rw [← HA.out.2.2.2]; exact HK.out _
            obtain ⟨s, hs⟩ : ∃ x, gsub a1 = x := ⟨_, rfl⟩
            obtain ⟨x0, hx0⟩ : ∃ x, s ^^^ u = x := ⟨_, rfl⟩
            obtain ⟨x1, hx1⟩ : ∃ x, gsub a2 = x := ⟨_, rfl⟩
            obtain ⟨x2, hx2⟩ : ∃ x, gsub a3 = x := ⟨_, rfl⟩
            obtain ⟨x3, hx3⟩ : ∃ x, gsub a0 = x := ⟨_, rfl⟩
            obtain ⟨u', hu'⟩ : ∃ x, xt u = x := ⟨_, rfl⟩
            have vs : s < 256 := by rw [← hs]; exact gsub_lt va1
            have HX : Hid ((gsub a1 ^^^ u = x0 ∧ x0 < 256) ∧ (gsub a2 = x1 ∧ x1 < 256) ∧ (gsub a3 = x2 ∧ x2 < 256) ∧ (gsub a0 = x3 ∧ x3 < 256)) :=
              ⟨⟨by rw [hs, hx0], by rw [← hx0]; exact xor_lt vs HM.out.2.2.2⟩, ⟨hx1, by rw [← hx1]; exact gsub_lt va2⟩, ⟨hx2, by rw [← hx2]; exact gsub_lt va3⟩, ⟨hx3, by rw [← hx3]; exact gsub_lt va0⟩⟩
            refine wp_region_det 93 [(0, 45), (1, 46), (2, 47), (3, 48), (4, 49), (5, 50), (6, 51), (7, 52), (8, 7), (9, 8), (10, 9)] (bxV a1 a2 a3 u s x0 x1 x2) (fun _ W => KyT A i key V W) (by kernel_rfl) (by kernel_rfl) rfl (by kernel_rfl) (by decide) (by decide) ?_ ?_ ?_
            · exact (KT.out.drewN nq).drewN 1
            · intro j hj l a W hl hf hdep hl2 hcl hno hT
              match j, hj with
              | 0, _ =>
                have n9 : l 9 = false := by
                  cases h : l 9 with
                  | false => rfl
                  | true => have := hcl 9 _ rfl h 0 rfl; rw [hl] at this; cases this
                exact stepV rfl rfl (execMvB rfl (hno 9 _ rfl 8 rfl n9)) ⟨⟨_, rfl, rfl⟩, hT⟩
              | 1, _ => exact stepV rfl rfl (execBoxV rfl (hdep _ rfl 0 rfl _ rfl _ rfl) va1 hs) ⟨⟨_, rfl, rfl⟩, hT⟩
              | 2, _ => exact stepV rfl rfl (execMvB rfl (hf 5 (by decide))) ⟨⟨_, rfl, rfl⟩, hT⟩
              | 3, _ => exact stepV rfl rfl (execXorV rfl (hdep _ rfl 1 rfl _ rfl _ rfl) (hdep _ rfl 2 rfl _ rfl _ rfl) vs HM.out.2.2.2 hx0) ⟨⟨_, rfl, rfl⟩, hT⟩
              | 4, _ =>
                have n10 : l 10 = false := by
                  cases h : l 10 with
                  | false => rfl
                  | true => have := hcl 10 _ rfl h 4 rfl; rw [hl] at this; cases this
                exact stepV rfl rfl (execMvB rfl (hno 10 _ rfl 9 rfl n10)) ⟨⟨_, rfl, rfl⟩, hT⟩
              | 5, _ => exact stepV rfl rfl (execBoxV rfl (hdep _ rfl 4 rfl _ rfl _ rfl) va2 hx1) ⟨⟨_, rfl, rfl⟩, hT⟩
              | 6, _ => exact stepV rfl rfl (execMvB rfl (hf 10 (by decide))) ⟨⟨_, rfl, rfl⟩, hT⟩
              | 7, _ => exact stepV rfl rfl (execBoxV rfl (hdep _ rfl 6 rfl _ rfl _ rfl) va3 hx2) ⟨⟨_, rfl, rfl⟩, hT⟩
              | 8, _ => exact stepV rfl rfl (execAsgB rfl (hdep _ rfl 3 rfl _ rfl _ rfl)) ⟨⟨_, rfl, rfl⟩, hT⟩
              | 9, _ => exact stepV rfl rfl (execAsgB rfl (hdep _ rfl 5 rfl _ rfl _ rfl)) ⟨⟨_, rfl, rfl⟩, hT⟩
              | 10, _ => exact stepV rfl rfl (execAsgB rfl (hdep _ rfl 7 rfl _ rfl _ rfl)) ⟨⟨_, rfl, rfl⟩, hT⟩
              | n + 11, h => exact absurd h (by simp)
            · intro l W hall q0
              clear hall hs hx0 hx1 hx2 vs va1 va2 va3
              simp only [putP, bxV, Act.put, List.setIfInBounds_toArray, List.set_cons_succ, List.set_cons_zero]
              have HU : Hid (rcon ((m + 1 + 3) / 4) = u') := by
                show rcon ((m + 1 + 3) / 4) = u'
                have hM := HM.out
                have h6 := H16.out
                rw [← hu', ← hM.2.2.1, show (m + 1 + 3) / 4 = (m + 3) / 4 + 1 by omega]
                rfl
              have hM := HM.out
              have hJ := HJ.out
              have hA := HA.out
              obtain ⟨j0, hj0⟩ : ∃ x, i - 16 = x := ⟨_, rfl⟩
              obtain ⟨y0, hy0⟩ : ∃ x, kw key j0 = x := ⟨_, rfl⟩
              obtain ⟨z0, hz0⟩ : ∃ x, kw key i = x := ⟨_, rfl⟩
              have ej0 : (i : Int) - 16 = j0 := by omega
              have lj0 : (j0 : Int) < 176 := by omega
              have vy0 : y0 < 256 := by rw [← hy0]; exact HK.out _
              obtain ⟨j1, hj1⟩ : ∃ x, i - 15 = x := ⟨_, rfl⟩
              obtain ⟨y1, hy1⟩ : ∃ x, kw key j1 = x := ⟨_, rfl⟩
              obtain ⟨i1x, hi1x⟩ : ∃ x, i + 1 = x := ⟨_, rfl⟩
              have ei1 : (i : Int) + 1 = i1x := by omega
              have li1 : (i1x : Int) < 176 := by omega
              obtain ⟨z1, hz1⟩ : ∃ x, kw key i1x = x := ⟨_, rfl⟩
              have ej1 : (i : Int) - 15 = j1 := by omega
              have lj1 : (j1 : Int) < 176 := by omega
              have vy1 : y1 < 256 := by rw [← hy1]; exact HK.out _
              obtain ⟨j2, hj2⟩ : ∃ x, i - 14 = x := ⟨_, rfl⟩
              obtain ⟨y2, hy2⟩ : ∃ x, kw key j2 = x := ⟨_, rfl⟩
              obtain ⟨i2x, hi2x⟩ : ∃ x, i + 2 = x := ⟨_, rfl⟩
              have ei2 : (i : Int) + 2 = i2x := by omega
              have li2 : (i2x : Int) < 176 := by omega
              obtain ⟨z2, hz2⟩ : ∃ x, kw key i2x = x := ⟨_, rfl⟩
              have ej2 : (i : Int) - 14 = j2 := by omega
              have lj2 : (j2 : Int) < 176 := by omega
              have vy2 : y2 < 256 := by rw [← hy2]; exact HK.out _
              obtain ⟨j3, hj3⟩ : ∃ x, i - 13 = x := ⟨_, rfl⟩
              obtain ⟨y3, hy3⟩ : ∃ x, kw key j3 = x := ⟨_, rfl⟩
              obtain ⟨i3x, hi3x⟩ : ∃ x, i + 3 = x := ⟨_, rfl⟩
              have ei3 : (i : Int) + 3 = i3x := by omega
              have li3 : (i3x : Int) < 176 := by omega
              obtain ⟨z3, hz3⟩ : ∃ x, kw key i3x = x := ⟨_, rfl⟩
              have ej3 : (i : Int) - 13 = j3 := by omega
              have lj3 : (j3 : Int) < 176 := by omega
              have vy3 : y3 < 256 := by rw [← hy3]; exact HK.out _
              have f0 : bits .xor .u8 (y0 : Int) (x0 : Int) = (z0 : Int) := by
                have hx := HX.out.1
                have h6 := H16.out
                rw [xor_u8 vy0 hx.2, ← hz0, kw_turn key (by omega) (by omega), show i - 16 = j0 by omega, show i / 4 * 4 - 4 + (i + 1) % 4 = k1 by omega, hy0, hA.2.1]
                rw [if_pos (by omega), show i / 16 - 1 = (m + 3) / 4 by omega, hM.2.2.1, hx.1]
              have f1 : bits .xor .u8 (y1 : Int) (x1 : Int) = (z1 : Int) := by
                have hx := HX.out.2.1
                have h6 := H16.out
                rw [xor_u8 vy1 hx.2, ← hz1, kw_turn key (by omega) (by omega), show i1x - 16 = j1 by omega, show i1x / 4 * 4 - 4 + (i1x + 1) % 4 = k2 by omega, hy1, hA.2.2.1]
                rw [if_neg (by omega), Nat.xor_zero, hx.1]
              have f2 : bits .xor .u8 (y2 : Int) (x2 : Int) = (z2 : Int) := by
                have hx := HX.out.2.2.1
                have h6 := H16.out
                rw [xor_u8 vy2 hx.2, ← hz2, kw_turn key (by omega) (by omega), show i2x - 16 = j2 by omega, show i2x / 4 * 4 - 4 + (i2x + 1) % 4 = k3 by omega, hy2, hA.2.2.2]
                rw [if_neg (by omega), Nat.xor_zero, hx.1]
              have f3 : bits .xor .u8 (y3 : Int) (x3 : Int) = (z3 : Int) := by
                have hx := HX.out.2.2.2
                have h6 := H16.out
                rw [xor_u8 vy3 hx.2, ← hz3, kw_turn key (by omega) (by omega), show i3x - 16 = j3 by omega, show i3x / 4 * 4 - 4 + (i3x + 1) % 4 = k0 by omega, hy3, hA.1]
                rw [if_neg (by omega), Nat.xor_zero, hx.1]
              have n0 := q0.new (j := i) (Nat.le_refl _) (by omega)
              have m0 := q0.free i
              have o0 := q0.at (j := j0) (by omega) (by omega) hy0
              have q1 : KyT A i1x key V (W.setCell ⟨A + 2, i, none⟩ (.int .u8 z0)) := by
                have h := q0.set hz0
                rw [show i + 1 = i1x by omega] at h
                exact h
              have n1 := q1.new (j := i1x) (Nat.le_refl _) (by omega)
              have m1 := q1.free i1x
              have o1 := q1.at (j := j1) (by omega) (by omega) hy1
              have q2 : KyT A i2x key V ((W.setCell ⟨A + 2, i, none⟩ (.int .u8 z0)).setCell ⟨A + 2, i1x, none⟩ (.int .u8 z1)) := by
                have h := q1.set hz1
                rw [show i1x + 1 = i2x by omega] at h
                exact h
              have n2 := q2.new (j := i2x) (Nat.le_refl _) (by omega)
              have m2 := q2.free i2x
              have o2 := q2.at (j := j2) (by omega) (by omega) hy2
              have q3 : KyT A i3x key V (((W.setCell ⟨A + 2, i, none⟩ (.int .u8 z0)).setCell ⟨A + 2, i1x, none⟩ (.int .u8 z1)).setCell ⟨A + 2, i2x, none⟩ (.int .u8 z2)) := by
                have h := q2.set hz2
                rw [show i2x + 1 = i3x by omega] at h
                exact h
              have n3 := q3.new (j := i3x) (Nat.le_refl _) (by omega)
              have m3 := q3.free i3x
              have o3 := q3.at (j := j3) (by omega) (by omega) hy3
              have q4 : KyT A (16 + 4 * (m + 1)) key V ((((W.setCell ⟨A + 2, i, none⟩ (.int .u8 z0)).setCell ⟨A + 2, i1x, none⟩ (.int .u8 z1)).setCell ⟨A + 2, i2x, none⟩ (.int .u8 z2)).setCell ⟨A + 2, i3x, none⟩ (.int .u8 z3)) := by
                have h := q3.set hz3
                rw [show i3x + 1 = (16 + 4 * (m + 1)) by omega] at h
                exact h
              have Q4 : Hid (_) := q4
              clear q0 q1 q2 q3 q4 hM hJ hA hj0 hj1 hj2 hj3 hy0 hy1 hy2 hy3 hi1x hi2x hi3x hz0 hz1 hz2 hz3 vy0 vy1 vy2 vy3
              have u1 := HM.out.2.2.2
              go_wp2_with (first
                | (refine atBox (.tmp 53) rfl ?_; go_must (refine wpList_boxU (k := a0) rfl rfl rfl va0 ?_; simp only [Act.put, List.setIfInBounds_toArray, List.set_cons_succ, List.set_cons_zero, hx3]))
                | (go_at_call 79; refine (twice_any u _ u1).mono ?_; rintro e w' ⟨rfl, rfl⟩))
              go_roundw
              case rel => exact ⟨m + 1, by have := HM.out; omega, by rw [HU.out], by have := HM.out.1; go_num, Q4.out⟩
              case measure => have := HM.out; simp [intOf]; omega
          · obtain ⟨g, hg⟩ : ∃ g, i % 16 = g := ⟨_, rfl⟩
            have H16 : Hid (i % 16 ≠ 0 ∧ i % 4 = 0) := ⟨h4, by have := HM.out.1; omega⟩
            have mt2 : ¬ (g : Int) = 0 := by omega
            have mt3 : ((g : Int) == 0) = false := by simp; omega
            rw [hg] at mt
            clear h4 hg
            go_wp2_with fail
            go_quiet (skip)
            clear ca0 ca1 ca2 ca3 ek0 ek1 ek2 ek3 lk0 lk1 lk2 lk3
            have HU : Hid (rcon ((m + 1 + 3) / 4) = u) := by
              show rcon ((m + 1 + 3) / 4) = u
              have hM := HM.out
              have h6 := H16.out
              rw [← hM.2.2.1, show (m + 1 + 3) / 4 = (m + 3) / 4 by omega]
            have q0 := KT.out.drewN nq
            have hM := HM.out
            have hJ := HJ.out
            have hA := HA.out
            obtain ⟨j0, hj0⟩ : ∃ x, i - 16 = x := ⟨_, rfl⟩
            obtain ⟨y0, hy0⟩ : ∃ x, kw key j0 = x := ⟨_, rfl⟩
            obtain ⟨z0, hz0⟩ : ∃ x, kw key i = x := ⟨_, rfl⟩
            have ej0 : (i : Int) - 16 = j0 := by omega
            have lj0 : (j0 : Int) < 176 := by omega
            have vy0 : y0 < 256 := by rw [← hy0]; exact HK.out _
            obtain ⟨j1, hj1⟩ : ∃ x, i - 15 = x := ⟨_, rfl⟩
            obtain ⟨y1, hy1⟩ : ∃ x, kw key j1 = x := ⟨_, rfl⟩
            obtain ⟨i1x, hi1x⟩ : ∃ x, i + 1 = x := ⟨_, rfl⟩
            have ei1 : (i : Int) + 1 = i1x := by omega
            have li1 : (i1x : Int) < 176 := by omega
            obtain ⟨z1, hz1⟩ : ∃ x, kw key i1x = x := ⟨_, rfl⟩
            have ej1 : (i : Int) - 15 = j1 := by omega
            have lj1 : (j1 : Int) < 176 := by omega
            have vy1 : y1 < 256 := by rw [← hy1]; exact HK.out _
            obtain ⟨j2, hj2⟩ : ∃ x, i - 14 = x := ⟨_, rfl⟩
            obtain ⟨y2, hy2⟩ : ∃ x, kw key j2 = x := ⟨_, rfl⟩
            obtain ⟨i2x, hi2x⟩ : ∃ x, i + 2 = x := ⟨_, rfl⟩
            have ei2 : (i : Int) + 2 = i2x := by omega
            have li2 : (i2x : Int) < 176 := by omega
            obtain ⟨z2, hz2⟩ : ∃ x, kw key i2x = x := ⟨_, rfl⟩
            have ej2 : (i : Int) - 14 = j2 := by omega
            have lj2 : (j2 : Int) < 176 := by omega
            have vy2 : y2 < 256 := by rw [← hy2]; exact HK.out _
            obtain ⟨j3, hj3⟩ : ∃ x, i - 13 = x := ⟨_, rfl⟩
            obtain ⟨y3, hy3⟩ : ∃ x, kw key j3 = x := ⟨_, rfl⟩
            obtain ⟨i3x, hi3x⟩ : ∃ x, i + 3 = x := ⟨_, rfl⟩
            have ei3 : (i : Int) + 3 = i3x := by omega
            have li3 : (i3x : Int) < 176 := by omega
            obtain ⟨z3, hz3⟩ : ∃ x, kw key i3x = x := ⟨_, rfl⟩
            have ej3 : (i : Int) - 13 = j3 := by omega
            have lj3 : (j3 : Int) < 176 := by omega
            have vy3 : y3 < 256 := by rw [← hy3]; exact HK.out _
            have f0 : bits .xor .u8 (y0 : Int) (a0 : Int) = (z0 : Int) := by
              have h6 := H16.out
              rw [xor_u8 vy0 (by rw [← hA.1]; exact HK.out _), ← hz0, kw_plain key (by omega) (by omega), show i - 16 = j0 by omega, show i - 4 = k0 by omega, hy0, hA.1]
            have f1 : bits .xor .u8 (y1 : Int) (a1 : Int) = (z1 : Int) := by
              have h6 := H16.out
              rw [xor_u8 vy1 (by rw [← hA.2.1]; exact HK.out _), ← hz1, kw_plain key (by omega) (by omega), show i1x - 16 = j1 by omega, show i1x - 4 = k1 by omega, hy1, hA.2.1]
            have f2 : bits .xor .u8 (y2 : Int) (a2 : Int) = (z2 : Int) := by
              have h6 := H16.out
              rw [xor_u8 vy2 (by rw [← hA.2.2.1]; exact HK.out _), ← hz2, kw_plain key (by omega) (by omega), show i2x - 16 = j2 by omega, show i2x - 4 = k2 by omega, hy2, hA.2.2.1]
            have f3 : bits .xor .u8 (y3 : Int) (a3 : Int) = (z3 : Int) := by
              have h6 := H16.out
              rw [xor_u8 vy3 (by rw [← hA.2.2.2]; exact HK.out _), ← hz3, kw_plain key (by omega) (by omega), show i3x - 16 = j3 by omega, show i3x - 4 = k3 by omega, hy3, hA.2.2.2]
            have n0 := q0.new (j := i) (Nat.le_refl _) (by omega)
            have m0 := q0.free i
            have o0 := q0.at (j := j0) (by omega) (by omega) hy0
            have q1 : KyT A i1x key V ((wr.drewN nq).setCell ⟨A + 2, i, none⟩ (.int .u8 z0)) := by
              have h := q0.set hz0
              rw [show i + 1 = i1x by omega] at h
              exact h
            have n1 := q1.new (j := i1x) (Nat.le_refl _) (by omega)
            have m1 := q1.free i1x
            have o1 := q1.at (j := j1) (by omega) (by omega) hy1
            have q2 : KyT A i2x key V (((wr.drewN nq).setCell ⟨A + 2, i, none⟩ (.int .u8 z0)).setCell ⟨A + 2, i1x, none⟩ (.int .u8 z1)) := by
              have h := q1.set hz1
              rw [show i1x + 1 = i2x by omega] at h
              exact h
            have n2 := q2.new (j := i2x) (Nat.le_refl _) (by omega)
            have m2 := q2.free i2x
            have o2 := q2.at (j := j2) (by omega) (by omega) hy2
            have q3 : KyT A i3x key V ((((wr.drewN nq).setCell ⟨A + 2, i, none⟩ (.int .u8 z0)).setCell ⟨A + 2, i1x, none⟩ (.int .u8 z1)).setCell ⟨A + 2, i2x, none⟩ (.int .u8 z2)) := by
              have h := q2.set hz2
              rw [show i2x + 1 = i3x by omega] at h
              exact h
            have n3 := q3.new (j := i3x) (Nat.le_refl _) (by omega)
            have m3 := q3.free i3x
            have o3 := q3.at (j := j3) (by omega) (by omega) hy3
            have q4 : KyT A (16 + 4 * (m + 1)) key V (((((wr.drewN nq).setCell ⟨A + 2, i, none⟩ (.int .u8 z0)).setCell ⟨A + 2, i1x, none⟩ (.int .u8 z1)).setCell ⟨A + 2, i2x, none⟩ (.int .u8 z2)).setCell ⟨A + 2, i3x, none⟩ (.int .u8 z3)) := by
              have h := q3.set hz3
              rw [show i3x + 1 = (16 + 4 * (m + 1)) by omega] at h
              exact h
            have Q4 : Hid (_) := q4
            clear q0 q1 q2 q3 q4 hM hJ hA hj0 hj1 hj2 hj3 hy0 hy1 hy2 hy3 hi1x hi2x hi3x hz0 hz1 hz2 hz3 vy0 vy1 vy2 vy3
            go_wp2
            go_roundw
            case rel => exact ⟨m + 1, by have := HM.out; omega, by rw [HU.out], by have := HM.out.1; go_num, Q4.out⟩
            case measure => have := HM.out; simp [intOf]; omega
        · have em : m = 40 := by omega
          subst em
          have G : Hid (wr.heap[A + 2]? = some (.cells (bA 176 (kw key)) 94)) := by
            have h := kt.ww
            rw [bA_congr (g := kw key) (fun j hj => by unfold uptoC; rw [if_pos (by omega)])] at h
            exact h
          have KT : Hid (_) := kt
          clear kt
          go_wp2_with (first
            | (refine atLoad 94 (.tmp 3) rfl ?_; go_must (refine wpList_load_row rfl 94 (.tmp 3) rfl (A + 2) rfl 94 _ (0, 0) _ G.out Tryz.underlying94 rfl (size176 _) ?_; simp only [Act.put, List.setIfInBounds_toArray, List.set_cons_succ, List.set_cons_zero]))
            | (refine atStore 94 (.tmp 2) (.tmp 92) rfl ?_; go_must (refine wpList_store_row rfl 94 (.tmp 2) (.tmp 92) rfl (A + 1) _ rfl rfl 94 _ KT.out.rr (size176 _) rfl (bA_one _ _) ?_)))
          refine bodyPost_ret (v := .agg (bA 176 (kw key))) (results_cell_row Tryz.results64 _ _ (A + 1) 94 _ (0, 0) _ rfl (setRow_heap _ _ _ _ _ _ KT.out.rr) Tryz.underlying94 rfl (size176 _)) rfl ⟨rfl, ?_⟩
          rw [VA.out]
          exact below4 KT.out.bel (by omega) _
end Go.Proofs.YteekoabgbjbabaaGreatDoor.Aes
