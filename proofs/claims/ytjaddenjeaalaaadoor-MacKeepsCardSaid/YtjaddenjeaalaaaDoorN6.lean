import Derived.Test.YtjaddenjeaalaaaDoorN5
namespace Go.Proofs.YtjaddenjeaalaaaDoor
open Go.RowKit

/-- Expand's error, and how many bytes it gives. -/
def expE (n : Int) : Int := if n < 0 then 2 else if n > 8160 then 1 else 0
def expN (n : Int) : Nat := if n < 0 then 0 else if n > 8160 then 0 else n.toNat
/-- The expansion by a key. -/
def ebK (pk : Nat → Int) (lk : Nat) (pi : Nat → Int) (li : Nat) : Nat → Int := eb (inS pk lk) (outS pk lk) pi li
theorem expN_le (n : Int) : expN n ≤ 8160 := by unfold expN; split <;> (try split) <;> omega

set_option maxHeartbeats 800000 in
theorem mexpand_any (vk vi : Value) (lk li : Nat) (pk pi : Nat → Int) (n : Int) (w : World) (hG : Glob w) (hk : lk < 1152921504606846976) (hli : li + 300 < 1152921504606846976) (h1 : SliceB w vk lk pk) (h2 : SliceB w vi li pi) :
    Calls Tryd.prog 16 #[vk, vi, .int .i64 n] w fun e w' => ∃ v', e = .returned (.tuple #[v', .int .i64 (expE n)]) ∧ w'.ownsRow w.heap.size 5 1 v' (expN n) (vals (firstL (ebK pk lk pi li) (expN n))) ∧ Below w.heap.size w w' := by
  have HG : Hid (_) := hG
  have HK : Hid (_) := hk
  have HL : Hid (_) := hli
  have H1 : Hid (_) := h1
  have H2 : Hid (_) := h2
  clear hG hk hli h1 h2
  by_cases hn : n < 0
  · go_enter Tryd.func16, Tryd.ntmps16
    go_wp2
    go_ret2
    refine ⟨.slice none 0 0, ?_, ?_, Below.refl _ _⟩
    · unfold expE; rw [if_pos hn]; rfl
    · unfold expN; rw [if_pos hn]; exact World.ownsRow_nil _ _ _ _
  · by_cases hm : n > 8160
    · go_enter Tryd.func16, Tryd.ntmps16
      go_wp2
      go_ret2
      refine ⟨.slice none 0 0, ?_, ?_, Below.refl _ _⟩
      · unfold expE; rw [if_neg (by omega), if_pos hm]; rfl
      · unfold expN; rw [if_neg (by omega), if_pos hm]; exact World.ownsRow_nil _ _ _ _
    · obtain ⟨k, rfl⟩ : ∃ k : Nat, n = (k : Int) := ⟨n.toNat, by omega⟩
      have HE : Hid (expE (k : Int) = 0 ∧ expN (k : Int) = k ∧ k ≤ 8160) := by
        show expE (k : Int) = 0 ∧ expN (k : Int) = k ∧ k ≤ 8160
        unfold expE expN
        rw [if_neg hn, if_neg hn, if_neg hm, if_neg hm]
        exact ⟨rfl, by omega, by omega⟩
      go_enter Tryd.func16, Tryd.ntmps16
      go_wp2_with fail
      refine (keyedBy_any vk lk pk w HG.out HK.out H1.out).mono ?_
      rintro e w1 ⟨rfl, hb1⟩
      have W1 : Hid (Below w.heap.size w w1) := hb1
      clear hb1
      go_wp2_with fail
      refine (expanded_any (inS pk lk) (outS pk lk) vi li pi k w1 (HG.out.below W1.out HG.out.sz) (ok_inS _ _) (ok_outS _ _) (inS_n _ _) (outS_n _ _) HL.out HE.out.2.2 (H2.out.below W1.out)).mono ?_
      rintro e w2 ⟨v', rfl, own2, hb2⟩
      have O2 : Hid (w2.ownsRow w.heap.size 5 1 v' k (vals (firstL (ebK pk lk pi li) k))) := own2.mono W1.out.size
      have W2 : Hid (Below w.heap.size w w2) := W1.out.trans (hb2.mono W1.out.size)
      clear own2 hb2 W1
      go_wp2
      go_ret2
      refine ⟨v', ?_, ?_, W2.out⟩
      · rw [HE.out.1]; rfl
      · rw [HE.out.2.1]; exact O2.out
end Go.Proofs.YtjaddenjeaalaaaDoor
