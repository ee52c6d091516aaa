import Derived.Test.YtdddecclajmicaaU0
import Derived.Test.YtdddecclajmicaaX1
namespace Go.Proofs.Ytdddecclajmicaa
open Go.RowKit

def exC : Nat → Nat := fun i => [219, 19, 83, 69].getD i 0
def exD : Nat → Nat := fun i => [142, 77, 161, 188].getD i 0
theorem exC_lt : ∀ i, i < 4 → exC i < 256 := by
  intro i hi
  have : i = 0 ∨ i = 1 ∨ i = 2 ∨ i = 3 := by omega
  rcases this with rfl | rfl | rfl | rfl <;> decide
theorem ex_all : ∀ i : Fin 4, mixk fwd exC i.val = exD i.val := by decide +kernel
theorem ex_col : col (mixk fwd exC) = col exD := col_congr fun i hi => ex_all ⟨i, hi⟩

/-- What each operation of FieldColumns' region yields. -/
def fcS (c : Nat → Nat) (j : Nat) (v : Value) : Prop :=
  match j with
  | 0 => v = .agg (col exC) | 1 => v = .agg (col exD) | 2 => v = .agg (col exD) | 3 => v = .bool true | 4 => v = .bool true
  | 5 => v = .agg (col c) | 6 => v = .agg (col (mixk fwd c)) | 7 => v = .agg (col c) | 8 => v = .agg (col (mixk fwd c)) | 9 => v = .bool true | 10 => v = .bool true | 11 => v = .bool true
  | 12 => v = .agg (col c) | 13 => v = .agg (col (mixk bwd c)) | 14 => v = .agg (col c) | 15 => v = .agg (col (mixk bwd c)) | 16 => v = .bool true | _ => v = .bool true

set_option maxRecDepth 20000 in
set_option maxHeartbeats 1000000 in
theorem columns_any (c : Nat → Nat) (w : World) (hc : ∀ i, i < 4 → c i < 256) :
    Calls Try.prog 4 #[.agg (col c)] w fun e w' => e = .returned (.bool true) ∧ Below w.heap.size w w' := by
  have HC : Hid (_) := hc
  clear hc
  go_enter Try.func4, Try.ntmps4
  go_wp2_with fail
  obtain ⟨V, hV⟩ : ∃ V, V = w.alloc (.cells (col c) 27) := ⟨_, rfl⟩
  obtain ⟨A, hA⟩ : ∃ A, A = w.heap.size := ⟨_, rfl⟩
  have VA : V.heap[A]? = some (.cells (col c) 27) := by rw [hV, hA]; show (w.heap.push _)[w.heap.size]? = _; rw [Array.getElem?_push_size]
  have VW : Below w.heap.size w V := by rw [hV]; exact (Below.refl _ _).alloc (Nat.le_refl _) _
  rw [← hV, ← hA]
  clear hV hA
  have LA : A < V.heap.size := (Array.getElem?_eq_some_iff.1 VA).1
  refine wp_region_slotsA 18 21 [3, 4, 5, 6, 7, 8, 9, 10, 11, 12, 13, 14, 15, 16, 17, 18, 19, 20] (fun j v _ => fcS c j v) (by kernel_rfl) (by kernel_rfl) (by kernel_rfl) (by decide) rfl rfl (by decide) (by decide) (fun _ _ _ _ h _ => h) ?_ ?_
  · intro j hj a W hB hf hdep
    have gA : W.heap[A]? = some (.cells (col c) 27) := by rw [hB.block _ LA]; exact VA
    match j, hj with
    | 0, _ => exact stepV rfl rfl (exec_build4 rfl) ⟨_, rfl, rfl, Below.refl _ _⟩
    | 1, _ =>
      have h0 : a.eval (.tmp 3) = .agg (col exC) := hdep _ rfl 0 rfl
      have r := column_any exC W exC_lt
      rw [ex_col] at r
      exact stepC rfl rfl (execCall1 Try.func21 (by kernel_rfl) (by kernel_rfl) rfl h0) r fun e w' h => ⟨_, h.1, _, rfl, rfl, h.2⟩
    | 2, _ => exact stepV rfl rfl (exec_build4 rfl) ⟨_, rfl, rfl, Below.refl _ _⟩
    | 3, _ =>
      have h1 : a.eval (.tmp 4) = .agg (col exD) := hdep _ rfl 1 rfl
      have h2 : a.eval (.tmp 5) = .agg (col exD) := hdep _ rfl 2 rfl
      exact stepV rfl rfl (exec_same4 rfl h1 h2) ⟨_, rfl, rfl, Below.refl _ _⟩
    | 4, _ =>
      have h3 : a.eval (.tmp 6) = .bool true := hdep _ rfl 3 rfl
      exact stepV rfl rfl (execMove rfl) ⟨_, rfl, h3, Below.refl _ _⟩
    | 5, _ =>
      have g : a.eval (.tmp 7) = .bool true := hdep _ rfl 4 rfl
      exact stepV rfl (wantedOf rfl (yieldedAt rfl rfl g)) (execLoadRow rfl (hf 1 (by decide)) gA Try.underlying27 rfl (size4' _)) ⟨_, rfl, rfl, Below.refl _ _⟩
    | 6, _ =>
      have g : a.eval (.tmp 7) = .bool true := hdep _ rfl 4 rfl
      have h0 : a.eval (.tmp 8) = .agg (col c) := hdep _ rfl 5 rfl
      exact stepC rfl (wantedOf rfl (yieldedAt rfl rfl g)) (execCall1 Try.func21 (by kernel_rfl) (by kernel_rfl) rfl h0) (column_any c W HC.out) fun e w' h => ⟨_, h.1, _, rfl, rfl, h.2⟩
    | 7, _ =>
      have g : a.eval (.tmp 7) = .bool true := hdep _ rfl 4 rfl
      exact stepV rfl (wantedOf rfl (yieldedAt rfl rfl g)) (execLoadRow rfl (hf 1 (by decide)) gA Try.underlying27 rfl (size4' _)) ⟨_, rfl, rfl, Below.refl _ _⟩
    | 8, _ =>
      have g : a.eval (.tmp 7) = .bool true := hdep _ rfl 4 rfl
      have h0 : a.eval (.tmp 10) = .agg (col c) := hdep _ rfl 7 rfl
      exact stepC rfl (wantedOf rfl (yieldedAt rfl rfl g)) (execCall1 Try.func22 (by kernel_rfl) (by kernel_rfl) rfl h0) (rcolumn_any c W HC.out) fun e w' h => ⟨_, h.1, _, rfl, rfl, h.2⟩
    | 9, _ =>
      have g : a.eval (.tmp 7) = .bool true := hdep _ rfl 4 rfl
      have h1 : a.eval (.tmp 9) = .agg (col (mixk fwd c)) := hdep _ rfl 6 rfl
      have h2 : a.eval (.tmp 11) = .agg (col (mixk fwd c)) := hdep _ rfl 8 rfl
      exact stepV rfl (wantedOf rfl (yieldedAt rfl rfl g)) (exec_same4 rfl h1 h2) ⟨_, rfl, rfl, Below.refl _ _⟩
    | 10, _ =>
      have h4 : a.eval (.tmp 7) = .bool true := hdep _ rfl 4 rfl
      have h9 : a.eval (.tmp 12) = .bool true := hdep _ rfl 9 rfl
      exact stepV rfl rfl (execPick (b := true) rfl h4 h9) ⟨_, rfl, rfl, Below.refl _ _⟩
    | 11, _ =>
      have h3 : a.eval (.tmp 13) = .bool true := hdep _ rfl 10 rfl
      exact stepV rfl rfl (execMove rfl) ⟨_, rfl, h3, Below.refl _ _⟩
    | 12, _ =>
      have g : a.eval (.tmp 14) = .bool true := hdep _ rfl 11 rfl
      exact stepV rfl (wantedOf rfl (yieldedAt rfl rfl g)) (execLoadRow rfl (hf 1 (by decide)) gA Try.underlying27 rfl (size4' _)) ⟨_, rfl, rfl, Below.refl _ _⟩
    | 13, _ =>
      have g : a.eval (.tmp 14) = .bool true := hdep _ rfl 11 rfl
      have h0 : a.eval (.tmp 15) = .agg (col c) := hdep _ rfl 12 rfl
      exact stepC rfl (wantedOf rfl (yieldedAt rfl rfl g)) (execCall1 Try.func23 (by kernel_rfl) (by kernel_rfl) rfl h0) (uncolumn_any c W HC.out) fun e w' h => ⟨_, h.1, _, rfl, rfl, h.2⟩
    | 14, _ =>
      have g : a.eval (.tmp 14) = .bool true := hdep _ rfl 11 rfl
      exact stepV rfl (wantedOf rfl (yieldedAt rfl rfl g)) (execLoadRow rfl (hf 1 (by decide)) gA Try.underlying27 rfl (size4' _)) ⟨_, rfl, rfl, Below.refl _ _⟩
    | 15, _ =>
      have g : a.eval (.tmp 14) = .bool true := hdep _ rfl 11 rfl
      have h0 : a.eval (.tmp 17) = .agg (col c) := hdep _ rfl 14 rfl
      exact stepC rfl (wantedOf rfl (yieldedAt rfl rfl g)) (execCall1 Try.func24 (by kernel_rfl) (by kernel_rfl) rfl h0) (runcolumn_any c W HC.out) fun e w' h => ⟨_, h.1, _, rfl, rfl, h.2⟩
    | 16, _ =>
      have g : a.eval (.tmp 14) = .bool true := hdep _ rfl 11 rfl
      have h1 : a.eval (.tmp 16) = .agg (col (mixk bwd c)) := hdep _ rfl 13 rfl
      have h2 : a.eval (.tmp 18) = .agg (col (mixk bwd c)) := hdep _ rfl 15 rfl
      exact stepV rfl (wantedOf rfl (yieldedAt rfl rfl g)) (exec_same4 rfl h1 h2) ⟨_, rfl, rfl, Below.refl _ _⟩
    | 17, _ =>
      have h4 : a.eval (.tmp 14) = .bool true := hdep _ rfl 11 rfl
      have h9 : a.eval (.tmp 19) = .bool true := hdep _ rfl 16 rfl
      exact stepV rfl rfl (execPick (b := true) rfl h4 h9) ⟨_, rfl, rfl, Below.refl _ _⟩
    | n + 18, h => exact absurd h (by omega)
  · intro x W hB hS
    have hx : x 17 = .bool true := hS 17 (by omega)
    have gW : Below w.heap.size w W := VW.trans (hB.mono VW.size)
    have HW : Hid (_) := gW
    clear gW hB hS VA VW LA
    simp only [putL, Act.put, List.setIfInBounds_toArray, List.set_cons_succ, List.set_cons_zero, hx]
    go_wp2
    go_ret
    exact ⟨rfl, HW.out⟩
end Go.Proofs.Ytdddecclajmicaa
