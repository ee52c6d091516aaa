import Derived.Test.YtfhldpdnoaoohaaDoorX5n
namespace Go.Proofs.YtfhldpdnoaoohaaDoor.Oni
open Go.RowKit Gf8 Aes By8 Cel
/- OnionNames. -/

set_option maxRecDepth 20000 in
set_option maxHeartbeats 1000000 in
theorem names_any (V : World) (hG : Glob V) : Calls Tryd.prog 3 #[] V fun e w' => e = .returned (.bool true) ∧ Below V.heap.size V w' := by
  have A := alive_any V hG
  clear hG
  go_enter Tryd.func3, Tryd.ntmps3
  go_wp2_with (go_at_call 8; refine A.mono ?_; rintro e w1 ⟨rfl, hb1⟩; have B1 : Hid (Below V.heap.size V w1) := hb1; clear hb1)
  go_loopw [1] (fun z W => ∃ i : Nat, 1 ≤ i ∧ i ≤ 9 ∧ z = .int .i64 (i : Int) ∧ W = w1) (fun z _ => 9 - (intOf z).toNat)
  case atStart => exact ⟨1, by omega, by omega, rfl, rfl⟩
  case round =>
    obtain ⟨i, h1, h9, rfl, rfl⟩ := hrel
    by_cases hlt : i ≤ 8
    · have i1 : (i : Int) ≤ 8 := by omega
      have i2 : (1 : Int) ≤ i := by omega
      have e : ((sz (i : Int) : Nat) : Int) = 82 + 34 * ((i : Int) - 1) := by unfold sz; rw [if_pos (by omega)]; omega
      have PS := psize_any (i : Int)
      rw [e] at PS
      have i3 : ((82 + 34 * ((i : Int) - 1)) != (82 + 34 * ((i : Int) - 1))) = false := by simp
      have HI : Hid (1 ≤ i ∧ i ≤ 8) := ⟨h1, hlt⟩
      clear h1 h9 hlt e
      go_wp2_with (go_at_call 9; refine (PS _).mono ?_; rintro e w2 ⟨rfl, hw2⟩; rw [hw2]; clear hw2)
      go_roundw
      case rel => exact ⟨i + 1, by omega, by have := HI.out; omega, by go_num, by first | rfl | trivial⟩
      case measure => have := HI.out; simp [intOf]; omega
    · have i1 : ¬ (i : Int) ≤ 8 := by omega
      clear h1 h9 hlt
      have z0 : sz 0 = 0 := rfl
      have z9 : sz 9 = 0 := rfl
      have zn : sz (-9223372036854775808) = 0 := rfl
      have zx : sz 9223372036854775807 = 0 := rfl
      go_wp2_with (go_at_call 9; refine (psize_any _ _).mono ?_; rintro e w2 ⟨rfl, hw2⟩; rw [hw2]; clear hw2)
      go_ret
      exact ⟨rfl, B1.out⟩
end Go.Proofs.YtfhldpdnoaoohaaDoor.Oni
