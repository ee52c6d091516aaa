import Derived.Test.YtmfaapbhehhlpaaI4
import Derived.Test.YtmfaapbhehhlpaaJ0
import Derived.Test.YtmfaapbhehhlpaaY0
import Derived.Laws.BytesArg
import Derived.Test.YtmfaapbhehhlpaaZ1
import Derived.Test.YtmfaapbhehhlpaaW7
namespace Go.Proofs.Ytmfaapbhehhlpaa.Aes
open Go.RowKit Gf8 By8
/- What the laws of layer 4 ask of the program, whatever a Schedule's cells are. -/

section
variable {ops : Array Oper} {rest : List Oper} {o : Oper} {a : Act} {w : World} {Q : Exit → Act → World → Prop}
end
theorem kw_by (key : Nat → Nat) (h : By key) : ∀ j, j < 176 → kw key j < 256 := fun j _ => kw_lt h j
end Go.Proofs.Ytmfaapbhehhlpaa.Aes

namespace Go.Proofs.Ytmfaapbhehhlpaa.Aes
open Go.RowKit Gf8 By8
/- The program's block: Stream, Mask; all of it keeps the chapter's words. -/

set_option maxRecDepth 20000 in
theorem pStream_any (key : Nat → Nat) (s0 : Nat) (n : Int) (V : World) (hk : By key) (h0 : -9223372036854775808 ≤ n) (h1 : n < 9223372036854775808) :
    Calls Try.prog 25 #[.agg (bA 16 key), .agg (bA 16 (be s0)), .int .i64 n] V fun e w' => ∃ r, e = .returned r ∧ w'.ownsRow V.heap.size 5 1 r (slen n) (bytesL (slen n) (maskF (kw key) s0 fun _ => 0)) ∧ Below V.heap.size V w' := by
  have HK : Hid (By key) := hk
  clear hk
  have kt : S0T V.heap.size key s0 V ((V.alloc (.cells (bA 16 key) 55)).alloc (.cells (bA 16 (be s0)) 55)) := by
    have h := heap2c V (.cells (bA 16 key) 55) (.cells (bA 16 (be s0)) 55)
    exact ⟨h.1, h.2, below2c _ _ _⟩
  by_cases hn : 0 ≤ n ∧ n ≤ 65536
  · obtain ⟨m, rfl⟩ : ∃ m : Nat, n = m := ⟨n.toNat, by omega⟩
    have HM : Hid (m ≤ 65536) := by show m ≤ 65536; omega
    have e1 : ¬ (m : Int) < 0 := by omega
    have e2 : ¬ (m : Int) > 65536 := by omega
    have es : slen (m : Int) = m := by unfold slen; rw [if_pos hn]; rfl
    rw [es]
    clear es hn
    go_enter Try.func25, Try.ntmps25
    go_wp2_with (first
      | (refine atLoad 55 (.tmp 3) rfl ?_; go_must (refine wpList_load_row rfl 55 (.tmp 3) rfl V.heap.size rfl 55 _ (0, 0) _ kt.k Try.underlying55 rfl (size16 _) ?_; simp only [Act.put, List.setIfInBounds_toArray, List.set_cons_succ, List.set_cons_zero]))
      | (refine atLoad 55 (.tmp 4) rfl ?_; go_must (refine wpList_load_row rfl 55 (.tmp 4) rfl (V.heap.size + 1) rfl 55 _ (0, 0) _ kt.s Try.underlying55 rfl (size16 _) ?_; simp only [Act.put, List.setIfInBounds_toArray, List.set_cons_succ, List.set_cons_zero]))
      | (go_at_call 33; refine (pstream_any key s0 m _ HK.out (by have := HM.out; omega)).mono ?_; rintro e w1 ⟨O, rfl, lO, gO, hb1⟩))
    go_ret
    have b := kt.bel
    exact ⟨_, rfl, own_full gO (by have := b.size; omega) (by have := HM.out; omega), b.trans (hb1.mono b.size)⟩
  · have es : slen n = 0 := by unfold slen; rw [if_neg hn]
    rw [es]
    by_cases hl : n < 0
    · clear hn
      go_enter Try.func25, Try.ntmps25
      go_wp2
      go_ret
      exact ⟨_, rfl, World.ownsRow_nil _ _ _ _, kt.bel⟩
    · have hg : n > 65536 := by omega
      clear hn
      go_enter Try.func25, Try.ntmps25
      go_wp2
      go_ret
      exact ⟨_, rfl, World.ownsRow_nil _ _ _ _, kt.bel⟩
/- A Schedule's == of itself. -/
end Go.Proofs.Ytmfaapbhehhlpaa.Aes
