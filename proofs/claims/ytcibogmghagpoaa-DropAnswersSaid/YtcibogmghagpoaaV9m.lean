import Derived.Test.YtcibogmghagpoaaV9l
import Derived.Lib.Bytes
namespace Go.Proofs.Ytcibogmghagpoaa.Tap
open Go.RowKit Gf8 Aes By8 Cel Cf
/- The program's Take with its errors, bytes.Clone, the law's awake. -/

theorem own_none9 (V : World) (p : Nat → Nat) : (V.alloc (.cells #[] 5)).ownsRow V.heap.size 5 1 (.slice (some ⟨V.heap.size, 0, none⟩) 0 0) 0 (bytesL 0 p) :=
  ⟨rfl, .inr ⟨V.heap.size, 0, #[], rfl, Nat.le_refl _, heapNew V _, Nat.le_refl _, by unfold maxLen; omega, rfl, rfl⟩⟩
set_option maxRecDepth 20000 in
theorem clone9 (p : Nat → Nat) (len : Nat) (v : Value) (V : World) (hv : SliceN V v len p) (hl : len ≤ 140737488351232) :
    Calls Try.prog 24 #[v] V fun e w' => ∃ r, e = .returned r ∧ w'.ownsRow V.heap.size 5 1 r len (bytesL len p) ∧ Below V.heap.size V w' := by
  obtain ⟨ao, cap, rfl, _, _, hs⟩ := id hv.shape
  cases ao with
  | none =>
    obtain rfl : len = 0 := by
      by_cases h : 0 < len
      · obtain ⟨b, off, e, _⟩ := hs h
        cases e
      · omega
    have en := fun w => Go.Lib.run_eql_slice_nil (P := Try.prog) w 23 5 none 0 cap 0 0 Try.underlying23
    clear hs hv hl
    go_enter Try.func24, Try.ntmps24
    go_wp2
    go_ret
    exact ⟨_, rfl, World.ownsRow_nil _ _ _ _, Below.refl _ _⟩
  | some ad =>
    have HV : Hid (SliceN V (.slice (some ad) len cap) len p) := hv
    have HL : Hid (len ≤ 140737488351232) := hl
    have en := fun w => Go.Lib.run_eql_slice_nil (P := Try.prog) w 23 5 (some ad) len cap 0 0 Try.underlying23
    clear hs hv hl
    go_enter Try.func24, Try.ntmps24
    go_wp2_with (first
      | (refine atAppB (.tmp 5) (.tmp 6) rfl ?_; go_must (refine wpList_appS (B := V.heap.size) (n := 0) (m := len) (p := p) rfl (.tmp 5) (.tmp 6) rfl rfl rfl (own_none9 V p) (sliceN_cg (HV.out.on (belNew V _)) fun j _ => by rw [Nat.zero_add]) (fun l c e => by cases e) (by have := HL.out; omega) (belNew V _).size ?_; intro u1 W1 own1 gr1; have b1 : Below V.heap.size V W1 := below_grown (belNew V _) (belNew V _).size (own_none9 V p) gr1; rw [Nat.zero_add] at own1; clear gr1)))
    go_ret
    exact ⟨_, rfl, own1, b1⟩
end Go.Proofs.Ytcibogmghagpoaa.Tap
