import Derived.Test.YtmlealepeoefpaaV9l
import Derived.Lib.Bytes
namespace Go.Proofs.Ytmlealepeoefpaa.Tap
open Go.RowKit Gf8 Aes By8 Cel Cf
/- The program's Take with its errors, bytes.Clone, the law's awake. -/

theorem own_none9 (V : World) (p : Nat → Nat) : (V.alloc (.cells #[] 5)).ownsRow V.heap.size 5 1 (.slice (some ⟨V.heap.size, 0, none⟩) 0 0) 0 (bytesL 0 p) :=
  ⟨rfl, .inr ⟨V.heap.size, 0, #[], rfl, Nat.le_refl _, heapNew V _, Nat.le_refl _, by unfold maxLen; omega, rfl, rfl⟩⟩
set_option maxRecDepth 20000 in
theorem clone9 (p : Nat → Nat) (len : Nat) (v : Value) (V : World) (hv : SliceN V v len p) (hl : len ≤ 140737488351232) :
    Calls Try.prog 15 #[v] V fun e w' => ∃ r, e = .returned r ∧ w'.ownsRow V.heap.size 5 1 r len (bytesL len p) ∧ Below V.heap.size V w' := by
  obtain ⟨ao, cap, rfl, _, _, hs⟩ := id hv.shape
  cases ao with
  | none =>
    obtain rfl : len = 0 := by
      by_cases h : 0 < len
      · obtain ⟨b, off, e, _⟩ := hs h
        cases e
      · omega
    have en := fun w => Go.Lib.run_eql_slice_nil (P := Try.prog) w 30 5 none 0 cap 0 0 Try.underlying30
    clear hs hv hl
    go_enter Try.func15, Try.ntmps15
    go_wp2
    go_ret
    exact ⟨_, rfl, World.ownsRow_nil _ _ _ _, Below.refl _ _⟩
  | some ad =>
    have HV : Hid (SliceN V (.slice (some ad) len cap) len p) := hv
    have HL : Hid (len ≤ 140737488351232) := hl
    have en := fun w => Go.Lib.run_eql_slice_nil (P := Try.prog) w 30 5 (some ad) len cap 0 0 Try.underlying30
    clear hs hv hl
    go_enter Try.func15, Try.ntmps15
    go_wp2_with (first
      | (refine atAppB (.tmp 5) (.tmp 6) rfl ?_; go_must (refine wpList_appS (B := V.heap.size) (n := 0) (m := len) (p := p) rfl (.tmp 5) (.tmp 6) rfl rfl rfl (own_none9 V p) (sliceN_cg (HV.out.on (belNew V _)) fun j _ => by rw [Nat.zero_add]) (fun l c e => by cases e) (by have := HL.out; omega) (belNew V _).size ?_; intro u1 W1 own1 gr1; have b1 : Below V.heap.size V W1 := below_grown (belNew V _) (belNew V _).size (own_none9 V p) gr1; rw [Nat.zero_add] at own1; clear gr1)))
    go_ret
    exact ⟨_, rfl, own1, b1⟩
def l123 : Nat → Nat := fun j => j + 1
theorem slice123 (V : World) : SliceN (V.alloc (.cells #[.int .u8 1, .int .u8 2, .int .u8 3] 5)) (.slice (some ⟨V.heap.size, 0, none⟩) 3 3) 3 l123 :=
  lit_slice (heapNew V _) (fun j hj => by
    match j, hj with
    | 0, _ => rfl
    | 1, _ => rfl
    | 2, _ => rfl
    | k + 3, h => omega) (fun j hj => by unfold l123; omega) (by omega)
theorem slice12 (V : World) : SliceN (V.alloc (.cells #[.int .u8 1, .int .u8 2] 5)) (.slice (some ⟨V.heap.size, 0, none⟩) 2 2) 2 l123 :=
  lit_slice (heapNew V _) (fun j hj => by
    match j, hj with
    | 0, _ => rfl
    | 1, _ => rfl
    | k + 2, h => omega) (fun j hj => by unfold l123; omega) (by omega)
end Go.Proofs.Ytmlealepeoefpaa.Tap
