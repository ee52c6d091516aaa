import Derived.Test.YtealknodagdjaaaW5
import Derived.Test.YtealknodagdjaaaS3
import Derived.Test.YtealknodagdjaaaX3
import Derived.Test.YtealknodagdjaaaS6
namespace Go.Proofs.Ytealknodagdjaaa.Aes
open Go.RowKit Gf8
/- The program's block: New, Round, encrypted, Encrypt, Decrypt. -/

theorem fn_sub (V : World) : FnB 27 #[] gsub V :=
  ⟨enters_of Try.func27 (by kernel_rfl) rfl, fun a W ha _ => by simpa using sub_any a W ha, fun _ h => gsub_lt h⟩
theorem fn_unsub (V : World) : FnB 33 #[] guns V :=
  ⟨enters_of Try.func33 (by kernel_rfl) rfl, fun a W ha _ => by simpa using unsub_any a W ha, fun _ h => guns_lt h⟩
theorem fn_column (V : World) : FnC 46 fwd V :=
  ⟨enters_of Try.func46 (by kernel_rfl) rfl, fun c W hc _ => column_any c W hc⟩
theorem fn_uncolumn (V : World) : FnC 35 bwd V :=
  ⟨enters_of Try.func35 (by kernel_rfl) rfl, fun c W hc _ => uncolumn_any c W hc⟩

set_option maxRecDepth 20000 in
theorem new_any (key : Nat → Nat) (V : World) (hk : By key) :
    Calls Try.prog 12 #[.agg (bA 16 key)] V fun e w' => e = .returned (.agg (bA 176 (kw key))) ∧ Below V.heap.size V w' := by
  have HK : Hid (By key) := hk
  clear hk
  have z := zero29
  have h2 := heap2c V (.cells (bA 16 key) 23) (.cells (bA 176 fun _ => 0) 29)
  have b2 := below2c V (.cells (bA 16 key) 23) (.cells (bA 176 fun _ => 0) 29)
  go_enter Try.func12, Try.ntmps12
  go_wp2_with (first
    | (refine atLoad 23 (.tmp 1) rfl ?_; go_must (refine wpList_load_row rfl 23 (.tmp 1) rfl V.heap.size rfl 23 _ (0, 0) _ h2.1 Try.underlying23 rfl (size16 _) ?_; simp only [Act.put, List.setIfInBounds_toArray, List.set_cons_succ, List.set_cons_zero]))
    | (go_at_call 26; refine (scheduled_any 27 #[] key _ (fn_sub _) HK.out).mono ?_; rintro e w1 ⟨rfl, hb1⟩; have r1 : w1.heap[V.heap.size + 1]? = some (.cells (bA 176 fun _ => 0) 29) := by rw [hb1.block _ (Array.getElem?_eq_some_iff.1 h2.2).1]; exact h2.2)
    | (refine atStore 29 (.tmp 2) (.tmp 4) rfl ?_; go_must (refine wpList_store_row rfl 29 (.tmp 2) (.tmp 4) rfl (V.heap.size + 1) _ rfl rfl 29 _ r1 (size29 _) (by rw [bA_size, bA_size]) (bA_one _ _) ?_)))
  refine bodyPost_ret (v := .agg (bA 176 (kw key))) (results_cell_row Try.results12 _ _ (V.heap.size + 1) 29 _ (0, 0) _ rfl (setRow_heap _ _ _ _ _ _ r1) Try.underlying29 rfl (size29 _)) rfl ⟨rfl, ?_⟩
  exact below4 (b2.trans (hb1.mono b2.size)) (by omega) _

set_option maxRecDepth 20000 in
theorem pround_any (w : Nat → Nat) (i : Int) (V : World) (h0 : -9223372036854775808 ≤ i) (h1 : i < 9223372036854775808) :
    Calls Try.prog 14 #[.agg (bA 176 w), .int .i64 i] V fun e w' => e = .returned (.agg (bA 16 (rkey w i))) ∧ Below V.heap.size V w' := by
  have z := zero16
  have h2 := heap2c V (.cells (bA 176 w) 29) (.cells (bA 16 fun _ => 0) 23)
  have b2 := below2c V (.cells (bA 176 w) 29) (.cells (bA 16 fun _ => 0) 23)
  by_cases hi : 0 ≤ i ∧ i ≤ 10
  · obtain ⟨n, rfl⟩ : ∃ n : Nat, i = n := ⟨i.toNat, by omega⟩
    have n0 : ¬ (n : Int) < 0 := by omega
    have n1 : ¬ (n : Int) > 10 := by omega
    have E : bA 16 (rkey w n) = bA 16 fun j => w (16 * n + j) := bA_congr fun j _ => by unfold rkey; rw [if_pos hi]; rfl
    rw [E]
    have HN : Hid (n < 11) := by show n < 11; omega
    clear E hi
    go_enter Try.func14, Try.ntmps14
    go_wp2_with (first
      | (refine wpList_ex rfl (execFldS rfl rfl) ?_)
      | (refine wpList_ex rfl (execIdxK (k := n) rfl rfl rfl HN.out) ?_)
      | (refine atLoad 23 (.tmp 14) rfl ?_; go_must (refine wpList_ex rfl (execLdKey (i := n) rfl rfl h2.1 HN.out) ?_))
      | (refine atStore 23 (.tmp 4) (.tmp 15) rfl ?_; go_must (refine wpList_store_row rfl 23 (.tmp 4) (.tmp 15) rfl (V.heap.size + 1) _ rfl rfl 23 _ h2.2 (size16 _) rfl (bA_one _ _) ?_)))
    refine bodyPost_ret (v := .agg (bA 16 fun j => w (16 * n + j))) (results_cell_row Try.results14 _ _ (V.heap.size + 1) 23 _ (0, 0) _ rfl (setRow_heap _ _ _ _ _ _ h2.2) Try.underlying23 rfl (size16 _)) rfl ⟨rfl, ?_⟩
    exact below4 b2 (by omega) _
  · have E : bA 16 (rkey w i) = bA 16 fun _ => 0 := bA_congr fun j _ => by unfold rkey; rw [if_neg hi]
    rw [E]
    clear E
    by_cases hn : i < 0
    · clear hi
      go_enter Try.func14, Try.ntmps14
      go_wp2_with (first
        | (refine atStore 23 (.tmp 4) (.tmp 11) rfl ?_; go_must (refine wpList_store_row rfl 23 (.tmp 4) (.tmp 11) rfl (V.heap.size + 1) (bA 16 fun _ => 0) rfl rfl 23 _ h2.2 (size16 _) rfl (bA_one _ _) ?_)))
      refine bodyPost_ret (v := .agg (bA 16 fun _ => 0)) (results_cell_row Try.results14 _ _ (V.heap.size + 1) 23 _ (0, 0) _ rfl (setRow_heap _ _ _ _ _ _ h2.2) Try.underlying23 rfl (size16 _)) rfl ⟨rfl, ?_⟩
      exact below4 b2 (by omega) _
    · have n1 : i > 10 := by omega
      clear hi
      go_enter Try.func14, Try.ntmps14
      go_wp2_with (first
        | (refine atStore 23 (.tmp 4) (.tmp 11) rfl ?_; go_must (refine wpList_store_row rfl 23 (.tmp 4) (.tmp 11) rfl (V.heap.size + 1) (bA 16 fun _ => 0) rfl rfl 23 _ h2.2 (size16 _) rfl (bA_one _ _) ?_)))
      refine bodyPost_ret (v := .agg (bA 16 fun _ => 0)) (results_cell_row Try.results14 _ _ (V.heap.size + 1) 23 _ (0, 0) _ rfl (setRow_heap _ _ _ _ _ _ h2.2) Try.underlying23 rfl (size16 _)) rfl ⟨rfl, ?_⟩
      exact below4 b2 (by omega) _
end Go.Proofs.Ytealknodagdjaaa.Aes
