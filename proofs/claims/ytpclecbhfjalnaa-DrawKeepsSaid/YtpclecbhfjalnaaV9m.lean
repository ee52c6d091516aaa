import Derived.Test.YtpclecbhfjalnaaV9l
import Derived.Lib.Bytes
namespace Go.Proofs.Ytpclecbhfjalnaa.Tap
open Go.RowKit Gf8 Aes By8 Cel Cf
/- The program's Take with its errors, bytes.Clone, the law's awake. -/

set_option maxRecDepth 20000 in
theorem take_any (p : Nat → Nat) (l at' : Nat) (n : Int) (V : World) (hat : at' ≤ l) (hl : l ≤ 140737488351232) (hp : ∀ j, j < l → p j < 256) :
    Calls Try.prog 11 #[.agg (tpC p l at'), .int .i64 n] V fun e w' => ∃ r, e = .returned (.tuple #[r, .agg (tpC p (if tkE l at' n = 0 then l else 0) (tkA l at' n)), .int .i64 (tkE l at' n : Nat)]) ∧ TkA w' V.heap.size r (tkN l at' n) (fun j => p (at' + j)) ∧ (tkE l at' n ≠ 0 → r = .slice none 0 0) ∧ Below V.heap.size V w' := by
  by_cases h1 : n < 0
  · have E : tkE l at' n = 2 := if_pos h1
    have E2 : tkN l at' n = 0 := by unfold tkN; rw [E]; rfl
    have E3 : tkA l at' n = 0 := by unfold tkA; rw [E]; rfl
    rw [E, E2, E3, if_neg (by decide)]
    have i1 : n < 0 := h1
    clear E E2 E3 hat hl hp h1
    go_enter Try.func11, Try.ntmps11
    unfold tpC
    go_wp2
    refine bodyPost_ret (results_tct9 (cs := tpC p 0 0) rfl _ _ (V.heap.size + 1) 26 (0, 0) _ rfl (two9 V _ _).2 Try.underlying26 rfl (size_tp _ _ _)) rfl ⟨_, rfl, Or.inl ⟨rfl, rfl⟩, fun _ => rfl, (belNew V _).trans ((belNew _ _).mono (belNew V _).size)⟩
  · by_cases h2 : (l : Int) - at' < n
    · have E : tkE l at' n = 3 := by unfold tkE; rw [if_neg h1, if_pos h2]
      have E2 : tkN l at' n = 0 := by unfold tkN; rw [E]; rfl
      have E3 : tkA l at' n = 0 := by unfold tkA; rw [E]; rfl
      rw [E, E2, E3, if_neg (by decide)]
      have i1 : ¬ n < 0 := h1
      have i2 : n > (l : Int) - at' := h2
      have k0 : ∀ W, Calls Try.prog 15 #[.agg #[.string (strN p l), .int .i64 (at' : Int)]] W fun e w' => e = .returned (.int .i64 ((l : Int) - at')) ∧ Below W.heap.size W w' := fun W => by
        have := left_any p l at' W hat hl
        rw [show ((l - at' : Nat) : Int) = (l : Int) - at' by omega] at this
        exact this
      clear E E2 E3 hat hl hp h1 h2
      go_enter Try.func11, Try.ntmps11
      unfold tpC
      go_wp2_with (first
        | (go_at_call 15; refine (k0 _).mono ?_; rintro e w1 ⟨rfl, hb1⟩; have c0 := on9 (two9 V (.cells (tpC p l at') 26) (.cells (tpC p 0 0) 26)).2 hb1; have bb : Below V.heap.size V w1 := ((belNew V _).trans ((belNew _ _).mono (belNew V _).size)).trans (hb1.mono ((belNew V _).trans ((belNew _ _).mono (belNew V _).size)).size); clear hb1)
        | (refine wpList_exS rfl (execStTp (p := p) (l := 0) (at' := 0) rfl rfl rfl c0 rfl) ?_))
      refine bodyPost_ret (results_tct9 (cs := tpC p 0 0) rfl _ _ (V.heap.size + 1) 26 (0, 0) _ rfl (setRow_heap _ _ _ _ _ _ c0) Try.underlying26 rfl (size_tp _ _ _)) rfl ⟨_, rfl, Or.inl ⟨rfl, rfl⟩, fun _ => rfl, below4 bb (by omega) _⟩
    · have E : tkE l at' n = 0 := by unfold tkE; rw [if_neg h1, if_neg h2]
      obtain ⟨m, rfl⟩ : ∃ m : Nat, n = m := ⟨n.toNat, by omega⟩
      have E2 : tkN l at' (m : Int) = m := by unfold tkN; rw [E, if_pos rfl]; simp
      have E3 : tkA l at' (m : Int) = at' + m := by unfold tkA; rw [E, if_pos rfl]; simp
      rw [E, E2, E3, if_pos rfl]
      refine (take_ok p l at' m V (by omega) hl hp).mono ?_
      rintro e w' ⟨r, rfl, h3, h4⟩
      exact ⟨r, rfl, Or.inr h3, fun h => absurd rfl h, h4⟩
theorem own_none9 (V : World) (p : Nat → Nat) : (V.alloc (.cells #[] 5)).ownsRow V.heap.size 5 1 (.slice (some ⟨V.heap.size, 0, none⟩) 0 0) 0 (bytesL 0 p) :=
  ⟨rfl, .inr ⟨V.heap.size, 0, #[], rfl, Nat.le_refl _, heapNew V _, Nat.le_refl _, by unfold maxLen; omega, rfl, rfl⟩⟩
set_option maxRecDepth 20000 in
theorem clone9 (p : Nat → Nat) (len : Nat) (v : Value) (V : World) (hv : SliceN V v len p) (hl : len ≤ 140737488351232) :
    Calls Try.prog 27 #[v] V fun e w' => ∃ r, e = .returned r ∧ w'.ownsRow V.heap.size 5 1 r len (bytesL len p) ∧ Below V.heap.size V w' := by
  obtain ⟨ao, cap, rfl, _, _, hs⟩ := id hv.shape
  cases ao with
  | none =>
    obtain rfl : len = 0 := by
      by_cases h : 0 < len
      · obtain ⟨b, off, e, _⟩ := hs h
        cases e
      · omega
    have en := fun w => Go.Lib.run_eql_slice_nil (P := Try.prog) w 22 5 none 0 cap 0 0 Try.underlying22
    clear hs hv hl
    go_enter Try.func27, Try.ntmps27
    go_wp2
    go_ret
    exact ⟨_, rfl, World.ownsRow_nil _ _ _ _, Below.refl _ _⟩
  | some ad =>
    have HV : Hid (SliceN V (.slice (some ad) len cap) len p) := hv
    have HL : Hid (len ≤ 140737488351232) := hl
    have en := fun w => Go.Lib.run_eql_slice_nil (P := Try.prog) w 22 5 (some ad) len cap 0 0 Try.underlying22
    clear hs hv hl
    go_enter Try.func27, Try.ntmps27
    go_wp2_with (first
      | (refine atAppB (.tmp 5) (.tmp 6) rfl ?_; go_must (refine wpList_appS (B := V.heap.size) (n := 0) (m := len) (p := p) rfl (.tmp 5) (.tmp 6) rfl rfl rfl (own_none9 V p) (sliceN_cg (HV.out.on (belNew V _)) fun j _ => by rw [Nat.zero_add]) (fun l c e => by cases e) (by have := HL.out; omega) (belNew V _).size ?_; intro u1 W1 own1 gr1; have b1 : Below V.heap.size V W1 := below_grown (belNew V _) (belNew V _).size (own_none9 V p) gr1; rw [Nat.zero_add] at own1; clear gr1)))
    go_ret
    exact ⟨_, rfl, own1, b1⟩
def l123 : Nat → Nat := fun j => j + 1
theorem slice123 (V : World) : SliceN (V.alloc (.cells #[.int .u8 1, .int .u8 2, .int .u8 3] 5)) (.slice (some ⟨V.heap.size, 0, none⟩) 3 3) 3 l123 :=
  lit_slice (heapNew V _) (fun j hj => by
    match j, hj with
    | 0, _ => rfl
    | 1, _ => rfl
    | 2, _ => rfl
    | k + 3, h => omega) (fun j hj => by unfold l123; omega) (by omega)
theorem slice12 (V : World) : SliceN (V.alloc (.cells #[.int .u8 1, .int .u8 2] 5)) (.slice (some ⟨V.heap.size, 0, none⟩) 2 2) 2 l123 :=
  lit_slice (heapNew V _) (fun j hj => by
    match j, hj with
    | 0, _ => rfl
    | 1, _ => rfl
    | k + 2, h => omega) (fun j hj => by unfold l123; omega) (by omega)
end Go.Proofs.Ytpclecbhfjalnaa.Tap
