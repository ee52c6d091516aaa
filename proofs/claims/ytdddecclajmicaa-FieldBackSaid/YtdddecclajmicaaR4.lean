import Derived.Test.YtdddecclajmicaaR3
namespace Go.Proofs.Ytdddecclajmicaa
open Go.RowKit

/-- The affine map's bit i by the first m of its five bits. -/
def affN (b i : Nat) : Nat → Bool
  | 0 => (99 : Nat).testBit i
  | m + 1 => affN b i m ^^ b.testBit ((i + 4 + m) % 8)
theorem affN_five (b i : Nat) : affN b i 5 = affB b i := rfl
def b2n (c : Bool) : Nat := if c then 1 else 0
theorem b2n_lt (c : Bool) : b2n c < 2 := by cases c <;> decide
theorem b2n_xor (c d : Bool) : b2n c ^^^ b2n d = b2n (c ^^ d) := by cases c <;> cases d <;> rfl
theorem b2n_pick (c : Bool) (k : Nat) : b2n c * 2 ^ k = pick c (2 ^ k) := by cases c <;> simp [b2n, pick]
theorem bit_i64' {b : Nat} (hb : b < 9223372036854775808) (i : Nat) : bits .and .i64 ((b : Int) / 2 ^ i) 1 = ((b2n (b.testBit i) : Nat) : Int) := by
  rw [bit_i64 hb]
  cases b.testBit i <;> rfl

set_option maxRecDepth 20000 in
set_option maxHeartbeats 400000 in
theorem rsub_any (a : Nat) (w : World) (ha : a < 256) :
    Calls Try.prog 18 #[.int .u8 a] w fun e w' => e = .returned (.int .u8 (gsub a : Nat)) ∧ w' = w := by
  have hg := ginv_lt ha
  have Q : Hid (upB (affB (ginv a)) 8 = gsub a ∧ gsub a < 256) := ⟨aff_sub ha, (sub_all ⟨a, ha⟩).1⟩
  go_enter Try.func18, Try.ntmps18
  go_wp2_with (go_at_call 14; refine (rinv_any a _ ha).mono ?_; rintro e w' ⟨rfl, rfl⟩)
  go_loopw [4, 5] (fun s i W => ∃ k : Nat, k ≤ 8 ∧ s = .int .i64 (upB (affB (ginv a)) k : Nat) ∧ i = .int .i64 k ∧ W = w') (fun _ i _ => 8 - (intOf i).toNat)
  case atStart => exact ⟨0, by omega, rfl, rfl, rfl⟩
  case round =>
    obtain ⟨k, hk, rfl, rfl, rfl⟩ := hrel
    by_cases hlt : k < 8
    · have i1 : (k : Int) < 8 := by omega
      have i0 : (0 : Int) ≤ (k : Int) := by omega
      have i3 : min k 64 = k := by omega
      have e1 := bit_i64' (b := 99) (by omega) k
      have e1' : bits .and .i64 ((99 : Int) / 2 ^ k) 1 = ((b2n ((99 : Nat).testBit k) : Nat) : Int) := e1
      clear e1
      have hu := upB_lt (affB (ginv a)) k
      have hu2 : 2 ^ k ≤ 2 ^ 7 := Nat.pow_le_pow_right (by omega) (by omega)
      have e4 : Hid (bits .or .i64 ((upB (affB (ginv a)) k : Nat) : Int) (wrap64 (((b2n (affN (ginv a) k 5) : Nat) : Int) * 2 ^ k)) = ((upB (affB (ginv a)) (k + 1) : Nat) : Int)) := by
        show bits .or .i64 ((upB (affB (ginv a)) k : Nat) : Int) (wrap64 (((b2n (affN (ginv a) k 5) : Nat) : Int) * 2 ^ k)) = ((upB (affB (ginv a)) (k + 1) : Nat) : Int)
        have h1 : pick (affB (ginv a) k) (2 ^ k) < 256 := pick_lt (by omega)
        rw [show (((b2n (affN (ginv a) k 5) : Nat) : Int) * 2 ^ k) = ((b2n (affN (ginv a) k 5) * 2 ^ k : Nat) : Int) by simp, b2n_pick, affN_five, wrap64_nat (by omega), or_i64 (by omega) (by omega)]
        rfl
      clear hu hu2
      go_wp2
      go_loopw [6, 7] (fun s i W => ∃ j : Nat, j ≤ 5 ∧ s = .int .i64 (b2n (affN (ginv a) k j) : Nat) ∧ i = .int .i64 ((4 + j : Nat) : Int) ∧ W = wr) (fun _ i _ => 9 - (intOf i).toNat)
      case atStart => exact ⟨0, by omega, rfl, rfl, rfl⟩
      case round =>
        obtain ⟨j, hj, rfl, rfl, rfl⟩ := hrel
        by_cases hjl : j < 5
        · obtain ⟨c, hc⟩ : ∃ c, 4 + j = c := ⟨_, rfl⟩
          obtain ⟨r, hr⟩ : ∃ r, (k + c) % 8 = r := ⟨_, rfl⟩
          have t0 : ((k : Int) + (c : Int)).tmod 8 = (r : Int) := by rw [Int.tmod_eq_emod_of_nonneg (by omega)]; omega
          have t1 : (0 : Int) ≤ (r : Int) := by omega
          have t2 : min r 64 = r := by omega
          have e1 := bit_i64' (b := ginv a) (by omega) r
          have i4 : (c : Int) ≤ 8 := by omega
          have e5 : Hid (bits .xor .i64 ((b2n (affN (ginv a) k j) : Nat) : Int) ((b2n ((ginv a).testBit r) : Nat) : Int) = ((b2n (affN (ginv a) k (j + 1)) : Nat) : Int)) := by
            show bits .xor .i64 ((b2n (affN (ginv a) k j) : Nat) : Int) ((b2n ((ginv a).testBit r) : Nat) : Int) = ((b2n (affN (ginv a) k (j + 1)) : Nat) : Int)
            have h1 := b2n_lt (affN (ginv a) k j)
            have h2 := b2n_lt ((ginv a).testBit r)
            rw [xor_i64 (by omega) (by omega), b2n_xor, ← hr, ← hc, ← Nat.add_assoc]
            rfl
          have HC : Hid (4 + j = c ∧ (k + c) % 8 = r) := ⟨hc, hr⟩
          rw [hc]
          clear hc hr
          go_wp2
          go_roundw
          case rel => exact ⟨j + 1, by omega, by rw [e5.out], by have := HC.out.1; go_num, trivial⟩
          case measure => simp [intOf]; omega
        · have ej : j = 5 := by omega
          subst ej
          go_wp2
          go_roundw
          case rel => exact ⟨k + 1, by omega, by rw [e4.out], by go_num, trivial⟩
          case measure => simp [intOf]; omega
    · have i1 : ¬ (k : Int) < 8 := by omega
      have ek : k = 8 := by omega
      subst ek
      have q : Hid (((upB (affB (ginv a)) 8 : Nat) : Int) % 256 = ((gsub a : Nat) : Int)) := by
        show ((upB (affB (ginv a)) 8 : Nat) : Int) % 256 = ((gsub a : Nat) : Int)
        have := Q.out.2
        rw [Q.out.1]
        omega
      go_wp2
      go_ret
      exact ⟨congrArg (fun x => Ending.returned (Value.int .u8 x)) q.out, rfl⟩

set_option maxRecDepth 20000 in
set_option maxHeartbeats 400000 in
theorem runs_any (a : Nat) (w : World) (ha : a < 256) :
    Calls Try.prog 20 #[.int .u8 a] w fun e w' => e = .returned (.int .u8 (guns a : Nat)) ∧ w' = w := by
  have hs := sub_all ⟨a, ha⟩
  simp only at hs
  have HS : Hid (_) := hs
  clear hs
  go_enter Try.func20, Try.ntmps20
  go_wp2
  go_loopw [3] (fun i W => ∃ k : Nat, k ≤ guns a ∧ i = .int .i64 k ∧ W = w) (fun i _ => 256 - (intOf i).toNat)
  case atStart => exact ⟨0, by omega, rfl, rfl⟩
  case round =>
    obtain ⟨k, hk, rfl, rfl⟩ := hrel
    have hlt : k < 256 := by have := HS.out.2.1; omega
    have i1 : (k : Int) < 256 := by omega
    have m0 : (k : Int) % 256 = k := by omega
    by_cases hm : k = guns a
    · have m1 : ((gsub k : Nat) : Int) = a := by rw [hm, HS.out.2.2.2.1]
      have q : Hid (k = guns a) := hm
      clear hm
      go_wp2_with (go_at_call 18; refine (rsub_any k _ hlt).mono ?_; rintro e w' ⟨rfl, rfl⟩)
      go_ret
      exact ⟨congrArg (fun x : Nat => Ending.returned (Value.int .u8 x)) q.out, rfl⟩
    · have m1 : ¬ ((gsub k : Nat) : Int) = a := by
        intro e
        have e2 : gsub k = a := by omega
        have e3 := (sub_all ⟨k, hlt⟩).2.2.1
        simp only at e3
        rw [e2] at e3
        exact hm e3.symm
      have HM : Hid (¬ k = guns a) := hm
      clear hm
      go_wp2_with (go_at_call 18; refine (rsub_any k _ hlt).mono ?_; rintro e w' ⟨rfl, rfl⟩)
      go_roundw
      case rel => exact ⟨k + 1, by have := HM.out; omega, by go_num, trivial⟩
      case measure => simp [intOf]; omega
end Go.Proofs.Ytdddecclajmicaa
