import Derived.Test.YtdddecclajmicaaR2
namespace Go.Proofs.Ytdddecclajmicaa
open Go.RowKit

theorem radd_any (a b : Nat) (w : World) (ha : a < 256) (hb : b < 256) :
    Calls Try.prog 10 #[.int .u8 a, .int .u8 b] w fun e w' => e = .returned (.int .u8 (a ^^^ b : Nat)) ∧ w' = w := by
  have q := xor_u8 ha hb
  go_enter Try.func10, Try.ntmps10
  go_wp2
  go_ret
  exact ⟨rfl, rfl⟩

set_option maxRecDepth 20000 in
set_option maxHeartbeats 400000 in
theorem rinv_any (a : Nat) (w : World) (ha : a < 256) :
    Calls Try.prog 14 #[.int .u8 a] w fun e w' => e = .returned (.int .u8 (ginv a : Nat)) ∧ w' = w := by
  go_enter Try.func14, Try.ntmps14
  go_wp2
  go_loopw [3] (fun i W => ∃ k : Nat, k ≤ 256 ∧ i = .int .i64 k ∧ (∀ j, j < k → gm a j ≠ 1) ∧ W = w) (fun i _ => 256 - (intOf i).toNat)
  case atStart => exact ⟨0, by omega, rfl, fun j hj => absurd hj (Nat.not_lt_zero j), rfl⟩
  case round =>
    obtain ⟨k, hk, rfl, hno, rfl⟩ := hrel
    have HN : Hid (∀ j, j < k → gm a j ≠ 1) := hno
    clear hno
    by_cases hlt : k < 256
    · have i1 : (k : Int) < 256 := by omega
      have m0 : (k : Int) % 256 = k := by omega
      by_cases hm : gm a k = 1
      · have m1 : ((gm a k : Nat) : Int) = 1 := by omega
        have q : Hid (ginv a = k) := ((inv_iff ha hlt).1 hm).2.symm
        go_wp2_with (go_at_call 12; refine (rmul_any a k _ ha hlt).mono ?_; rintro e w' ⟨rfl, rfl⟩)
        go_ret
        exact ⟨congrArg (fun x : Nat => Ending.returned (Value.int .u8 x)) q.out.symm, rfl⟩
      · have m1 : ¬ ((gm a k : Nat) : Int) = 1 := by omega
        have HM : Hid (¬ gm a k = 1) := hm
        clear hm
        go_wp2_with (go_at_call 12; refine (rmul_any a k _ ha hlt).mono ?_; rintro e w' ⟨rfl, rfl⟩)
        go_roundw
        case rel =>
          refine ⟨k + 1, by omega, by go_num, fun j hj => ?_, trivial⟩
          by_cases e : j = k
          · subst e; exact HM.out
          · exact HN.out j (by omega)
        case measure => simp [intOf]; omega
    · have i1 : ¬ (k : Int) < 256 := by omega
      have q : Hid (ginv a = 0) := by
        show ginv a = 0
        by_cases h0 : a = 0
        · subst h0; rfl
        · exact absurd (gm_inv ha h0) (HN.out _ (by have := ginv_lt ha; omega))
      go_wp2
      go_ret
      exact ⟨congrArg (fun x : Nat => Ending.returned (Value.int .u8 x)) q.out.symm, rfl⟩

set_option maxRecDepth 20000 in
set_option maxHeartbeats 400000 in
theorem rpow_any (a : Nat) (n : Int) (w : World) (ha : a < 256) :
    Calls Try.prog 16 #[.int .u8 a, .int .i64 n] w fun e w' => e = .returned (.int .u8 (gpz a n : Nat)) ∧ w' = w := by
  by_cases h0 : n = 0
  · subst h0
    go_enter Try.func16, Try.ntmps16
    go_wp2
    go_ret
    exact ⟨rfl, rfl⟩
  by_cases h1 : a = 0
  · subst h1
    have q : Hid (gpz 0 n = 0) := by show gpz 0 n = 0; unfold gpz; rw [if_neg h0, if_pos rfl]
    go_enter Try.func16, Try.ntmps16
    go_wp2
    go_ret
    exact ⟨congrArg (fun x : Nat => Ending.returned (Value.int .u8 x)) q.out.symm, rfl⟩
  have h3 : ¬ (a : Int) = 0 := by omega
  obtain ⟨K, hK⟩ : ∃ K : Nat, n % 255 = K := ⟨(n % 255).toNat, by omega⟩
  have q : Hid (gpz a n = gpow a K) := by show gpz a n = gpow a K; unfold gpz; rw [if_neg h0, if_neg h1, hK]; rfl
  have hK2 : K < 255 := by omega
  have ht : n.tmod 255 = K ∧ 0 ≤ n.tmod 255 ∨ n.tmod 255 = (K : Int) - 255 ∧ n.tmod 255 < 0 := by
    rw [← hK]
    rcases Int.le_total 0 n with h | h
    · left; rw [Int.tmod_eq_emod_of_nonneg h]; omega
    · have e : n.tmod 255 = -((-n) % 255) := by
        have := Int.neg_tmod n 255
        rw [Int.tmod_eq_emod_of_nonneg (by omega : 0 ≤ -n)] at this
        omega
      rw [e]
      omega
  clear hK
  rcases ht with ⟨ht, hs⟩ | ⟨ht, hs⟩
  · have hs2 : ¬ (K : Int) < 0 := by omega
    go_enter Try.func16, Try.ntmps16
    go_wp2
    go_loopw [6, 7] (fun p i W => ∃ k : Nat, k ≤ K ∧ p = .int .u8 (gpow a k : Nat) ∧ i = .int .i64 k ∧ W = w) (fun _ i _ => K - (intOf i).toNat)
    case atStart => exact ⟨0, by omega, rfl, rfl, rfl⟩
    case round =>
      obtain ⟨k, hk, rfl, rfl, rfl⟩ := hrel
      by_cases hlt : k < K
      · have i1 : (k : Int) < K := by omega
        go_wp2_with (go_at_call 12; refine (rmul_any (gpow a k) a _ (gpow_lt k) ha).mono ?_; rintro e w' ⟨rfl, rfl⟩)
        go_roundw
        case rel => exact ⟨k + 1, by omega, rfl, by go_num, trivial⟩
        case measure => simp [intOf]; omega
      · have i1 : ¬ (k : Int) < K := by omega
        have ek : k = K := by omega
        subst ek
        go_wp2
        go_ret
        exact ⟨congrArg (fun x : Nat => Ending.returned (Value.int .u8 x)) q.out.symm, rfl⟩
  · have hs2 : (K : Int) - 255 < 0 := by omega
    have hs3 : (K : Int) - 255 + 255 = K := by omega
    go_enter Try.func16, Try.ntmps16
    go_wp2
    go_loopw [6, 7] (fun p i W => ∃ k : Nat, k ≤ K ∧ p = .int .u8 (gpow a k : Nat) ∧ i = .int .i64 k ∧ W = w) (fun _ i _ => K - (intOf i).toNat)
    case atStart => exact ⟨0, by omega, rfl, rfl, rfl⟩
    case round =>
      obtain ⟨k, hk, rfl, rfl, rfl⟩ := hrel
      by_cases hlt : k < K
      · have i1 : (k : Int) < K := by omega
        go_wp2_with (go_at_call 12; refine (rmul_any (gpow a k) a _ (gpow_lt k) ha).mono ?_; rintro e w' ⟨rfl, rfl⟩)
        go_roundw
        case rel =>
          have z0 : (n == 0) = false := by simp [h0]
          have z3 : ((a : Int) == 0) = false := by simp [h1]
          rw [z0, z3]
          exact ⟨.int .u8 (gpow a (k + 1) : Nat), .int .i64 ((k : Int) + 1), _, _, _, _, _, _, _, _, ⟨k + 1, by omega, rfl, by go_num, trivial⟩, rfl⟩
        case measure => simp [intOf]; omega
      · have i1 : ¬ (k : Int) < K := by omega
        have ek : k = K := by omega
        subst ek
        go_wp2
        go_ret
        exact ⟨congrArg (fun x : Nat => Ending.returned (Value.int .u8 x)) q.out.symm, rfl⟩
end Go.Proofs.Ytdddecclajmicaa
