import Derived.Test.YtjaddenjeaalaaaDoorN7
import Derived.Test.YtjaddenjeaalaaaDoorM9
namespace Go.Proofs.YtjaddenjeaalaaaDoor
open Go.RowKit

theorem sliceB_nil (W : World) (f : Nat → Int) : SliceB W (.slice none 0 0) 0 f := ⟨⟨_, _, rfl, Nat.le_refl _, by omega, fun h => by omega⟩, fun j hj => by omega⟩

set_option maxRecDepth 20000 in
set_option maxHeartbeats 1000000 in
theorem macexpands_any (vk vi : Value) (lk li : Nat) (pk pi : Nat → Int) (n : Int) (w : World) (hG : Glob w) (hk : lk + 200 ≤ 140737488355328) (hli : li + 600 ≤ 140737488355328) (h1 : SliceB w vk lk pk) (h2 : SliceB w vi li pi)
    (hn1 : ∀ cap, vk = .slice none lk cap → cap = 0) (hn2 : ∀ cap, vi = .slice none li cap → cap = 0) :
    Calls Tryd.prog 4 #[vk, vi, .int .i64 n] w fun e w' => e = .returned (.bool true) ∧ Below w.heap.size w w' := by
  have HG : Hid (_) := hG
  have HK : Hid (_) := hk
  have HL : Hid (_) := hli
  have H1 : Hid (_) := h1
  have H2 : Hid (_) := h2
  have N1 : Hid (_) := hn1
  have N2 : Hid (_) := hn2
  clear hG hk hli h1 h2 hn1 hn2
  have cv := conv_const
  go_enter Tryd.func4, Tryd.ntmps4
  go_wp2_with fail
  have k1 := sliceB_lit w [107] #[.int .u8 107] (1, 2) rfl (by decide) (by decide)
  have b1 : Below w.heap.size w (w.alloc (.cells #[.int .u8 107] 5 (1, 2))) := (Below.refl _ _).alloc (Nat.le_refl _) _
  refine (mexpand_any _ (.slice none 0 0) 1 0 (fl [107]) (fun _ => 0) 3 _ (HG.out.below b1 HG.out.sz) (by omega) (by omega) k1 (sliceB_nil _ _)).mono ?_
  rintro e w1 ⟨v1, rfl, own1, hb1⟩
  have e3 : expE 3 = 0 := rfl
  have n3 : expN 3 = 3 := rfl
  rw [n3] at own1
  rw [e3]
  obtain ⟨ao, cap, rfl⟩ := own_form own1
  have W1 : Hid (Below w.heap.size w w1) := b1.trans (hb1.mono b1.size)
  clear k1 b1 own1 hb1 e3 n3 cv
  go_wp2_with fail
  refine (rexpand_any vk vi lk li pk pi n w1 HK.out HL.out (H1.out.below W1.out) (H2.out.below W1.out) N1.out N2.out).mono ?_
  rintro e w2 ⟨v2, rfl, s2, hb2⟩
  have S2 : Hid (_) := s2
  have W2 : Hid (Below w.heap.size w w2) := W1.out.trans (hb2.mono W1.out.size)
  clear s2 hb2 W1
  go_wp2_with fail
  refine (mexpand_any vk vi lk li pk pi n w2 (HG.out.below W2.out HG.out.sz) (by have := HK.out; omega) (by have := HL.out; omega) (H1.out.below W2.out) (H2.out.below W2.out)).mono ?_
  rintro e w3 ⟨v3, rfl, own3, hb3⟩
  have c2 := conv_strP (S2.out.below hb3)
  have c3 := conv_strP (sliceB_own own3 fun j _ => eb_bd _ _ _ _ j)
  have W3 : Hid (Below w.heap.size w w3) := W2.out.trans (hb3.mono W2.out.size)
  clear own3 hb3 W2
  go_wp2
  go_ret
  refine ⟨?_, W3.out⟩
  first | rfl | simp
end Go.Proofs.YtjaddenjeaalaaaDoor
