import Derived.Test.YtedjoakpbknflaaDoorA7
namespace Go.Proofs.YtedjoakpbknflaaDoor
open Go.RowKit

def two64 : Nat := 18446744073709551616
def lenB (n : Nat) (i : Nat) : Int := IntKind.u64.wrap ((n : Int) * 8) / 2 ^ (56 - 8 * i) % 256
/-- the byte 80 behind what was taken in -/
def padR (r : Nat → Int) (n : Nat) : Nat → Int := upd r (n % 64) 128
def pg (g r : Nat → Int) (n : Nat) : Nat → Int := if n % 64 < 56 then g else wkG g (padR r n)
def pr (r : Nat → Int) (n : Nat) : Nat → Int := if n % 64 < 56 then padR r n else fun _ => 0
/-- k bytes of the length laid into the block's end -/
def lenR (r : Nat → Int) (n k : Nat) : Nat → Int := fun i => if 56 ≤ i ∧ i < 56 + k then lenB n (i - 56) else r i
def padG (g r : Nat → Int) (n : Nat) : Nat → Int := wkG (pg g r n) (lenR (pr r n) n 8)

theorem lenR_step (r : Nat → Int) (n k : Nat) : upd (lenR r n k) (56 + k) (lenB n k) = lenR r n (k + 1) := by
  funext i
  simp only [upd, lenR]
  by_cases h : i = 56 + k
  · subst h; simp
  · by_cases h2 : 56 ≤ i ∧ i < 56 + k
    · rw [if_neg h, if_pos h2, if_pos (by omega)]
    · rw [if_neg h, if_neg h2, if_neg (by omega)]
theorem padR_bd (r : Nat → Int) (n : Nat) (hr0 : ∀ i, 0 ≤ r i) (hr1 : ∀ i, r i < 256) : (∀ i, 0 ≤ padR r n i) ∧ (∀ i, padR r n i < 256) := by
  refine ⟨fun i => ?_, fun i => ?_⟩ <;> simp only [padR, upd] <;> split
  · omega
  · exact hr0 i
  · omega
  · exact hr1 i
theorem pr_bd (r : Nat → Int) (n : Nat) (hr0 : ∀ i, 0 ≤ r i) (hr1 : ∀ i, r i < 256) : (∀ i, 0 ≤ pr r n i) ∧ (∀ i, pr r n i < 256) := by
  unfold pr
  split
  · exact padR_bd r n hr0 hr1
  · exact ⟨fun _ => by simp, fun _ => by simp⟩
theorem lenR_bd (r : Nat → Int) (n k : Nat) (hr0 : ∀ i, 0 ≤ r i) (hr1 : ∀ i, r i < 256) : (∀ i, 0 ≤ lenR r n k i) ∧ (∀ i, lenR r n k i < 256) := by
  refine ⟨fun i => ?_, fun i => ?_⟩ <;> simp only [lenR] <;> split
  · unfold lenB; omega
  · exact hr0 i
  · unfold lenB; omega
  · exact hr1 i

theorem lenR_zero (r : Nat → Int) (n : Nat) : lenR r n 0 = r := by
  funext i; simp only [lenR]; rw [if_neg (by omega)]

set_option maxHeartbeats 400000 in
theorem padded_any (g r : Nat → Int) (n : Nat) (w : World) (hG : Glob w) (hr0 : ∀ i, 0 ≤ r i) (hr1 : ∀ i, r i < 256) :
    Calls Tryd.prog 26 #[.agg (hcells g r n)] w fun e w' => e = .returned (.agg (hcells (padG g r n) (fun _ => 0) n)) ∧ Below w.heap.size w w' := by
  have HG : Hid (_) := hG
  have HR0 : Hid (_) := hr0
  have HR1 : Hid (_) := hr1
  clear hG hr0 hr1
  have z27 := zero27
  have c72 := hc_n g r n
  have ck := hc_r g r n (n % 64) (by omega)
  have hz2 := heap2 w (.cells (hcells g (padR r n) n) 27) (.cells (hcells (fun _ => 0) (fun _ => 0) 0) 27)
  have HZ : Hid (_) := hz2
  clear hz2
  have hset : (hcells g r n).setIfInBounds (8 + n % 64) (.int .u8 128) = hcells g (padR r n) n := hc_set_r g r n (n % 64) 128 (by omega)
  by_cases h56 : n % 64 < 56
  · have h56' : ¬ (56 ≤ (n : Int) % 64) := by omega
    go_enter Tryd.func26, Tryd.ntmps26
    go_wp2
    have x1 : ((w.alloc (Obj.cells (hcells g (padR r n) n) 27)).alloc (Obj.cells (hcells (fun _ => 0) (fun _ => 0) 0) 27)).heap[w.heap.size]? = some (.cells (hcells (pg g r n) (pr r n) n) 27) := by
      unfold pg pr; rw [if_pos h56, if_pos h56]; exact HZ.out.1
    have x2 := HZ.out.2
    have x3 : Below w.heap.size w ((w.alloc (Obj.cells (hcells g (padR r n) n) 27)).alloc (Obj.cells (hcells (fun _ => 0) (fun _ => 0) 0) 27)) := ((Below.refl _ _).alloc (Nat.le_refl _) _).alloc (by simp) _
    clear HZ z27 c72 ck hset
    have X1 : Hid (_) := x1
    have X2 : Hid (_) := x2
    have X3 : Hid (_) := x3
    clear x1 x2 x3
    go_loopw [15] (fun i W => ∃ k : Nat, k ≤ 8 ∧ i = .int .i64 k ∧ W.heap[w.heap.size]? = some (.cells (hcells (pg g r n) (lenR (pr r n) n k) n) 27) ∧ W.heap[w.heap.size + 1]? = some (.cells (hcells (fun _ => 0) (fun _ => 0) 0) 27) ∧ Below w.heap.size w W) (fun i _ => 8 - (intOf i).toNat)
    case atStart => exact ⟨0, by omega, rfl, by rw [lenR_zero]; exact X1.out, X2.out, X3.out⟩
    case round =>
      obtain ⟨k, hk, rfl, h1, h2, h3⟩ := hrel
      have D1 : Hid (_) := h1
      have D2 : Hid (_) := h2
      have D3 : Hid (_) := h3
      clear h1 h2 h3 X1 X2 X3
      by_cases hlt : k < 8
      · have q1 : wr.cell? ⟨w.heap.size, 72, none⟩ = some (.int .u64 n) := by
          rw [cell_of_row _ _ _ _ _ _ D1.out, hc_n]
        have q2 : wr.cell? ⟨w.heap.size, 8 + (56 + k), none⟩ = some (.int .u8 (lenR (pr r n) n k (56 + k))) := by
          rw [cell_of_row _ _ _ _ _ _ D1.out, hc_r _ _ _ _ (by omega)]
        have q3 : wr.frozen? ⟨w.heap.size, 8 + (56 + k), none⟩ = false := frozen_of_row D1.out
        have q4 : (k : Int) < 8 := by omega
        go_wp2
        go_roundw
        case rel =>
          refine ⟨k + 1, by omega, by go_num, ?_, ?_, ?_⟩
          · rw [heap_setCell_row _ D1.out, hc_set_r _ _ _ _ _ (by omega)]
            exact congrArg (fun f => some (Obj.cells (hcells (pg g r n) f n) 27)) (lenR_step (pr r n) n k)
          · rw [Below.heap_setCell _ _ _ _ (by simp)]; exact D2.out
          · exact D3.out.setCell (by simp) _
        case measure => simp [intOf]; omega
      · have HK : Hid (k = 8) := by show k = 8; omega
        have hw2 : w.heap.size + 2 ≤ wr.heap.size := by
          have := (Array.getElem?_eq_some_iff.1 D2.out).1; omega
        have HS : Hid (_) := hw2
        clear hw2
        go_wp2_with (first
          | (refine isLoad 27 (.tmp 1) rfl ?_; refine wpList_load_row rfl 27 (.tmp 1) rfl w.heap.size rfl 27 _ (0, 0) _ D1.out Tryd.underlying27 rfl (size27' _ _ _) ?_; simp only [Act.put, List.setIfInBounds_toArray, List.set_cons_succ, List.set_cons_zero]))
        refine (workedIn_any _ _ _ _ (HG.out.below D3.out HG.out.sz) (lenR_bd _ n k (pr_bd r n HR0.out HR1.out).1 (pr_bd r n HR0.out HR1.out).2).1 (lenR_bd _ n k (pr_bd r n HR0.out HR1.out).1 (pr_bd r n HR0.out HR1.out).2).2).mono ?_
        rintro e w2 ⟨rfl, hb2⟩
        have HB2 : Hid (_) := hb2
        clear hb2
        have hr2 : w2.heap[w.heap.size + 1]? = some (.cells (hcells (fun _ => 0) (fun _ => 0) 0) 27) := by rw [HB2.out.block _ (by have := HS.out; omega)]; exact D2.out
        have HR2 : Hid (_) := hr2
        clear hr2
        go_wp2_with (first
          | (refine isStore 27 (.tmp 2) (.tmp 32) rfl ?_; refine wpList_store_row rfl 27 (.tmp 2) (.tmp 32) rfl (w.heap.size + 1) _ rfl rfl 27 _ HR2.out (size27' _ _ _) (by simp only [hc_size]) (hc_one _ _ _) ?_))
        refine bodyPost_ret (v := .agg (hcells (wkG (pg g r n) (lenR (pr r n) n k)) (fun _ => 0) n)) (results_cell_row Tryd.results26 _ _ (w.heap.size + 1) 27 _ (0, 0) _ rfl (setRow_heap _ _ _ _ _ _ HR2.out) Tryd.underlying27 rfl (size27' _ _ _)) rfl ⟨?_, ?_⟩
        · rw [HK.out]; rfl
        · exact below_setRow (D3.out.trans (HB2.out.mono (by have := HS.out; omega))) (by omega) _
  · have h56' : (56 ≤ (n : Int) % 64) := by omega
    go_enter Tryd.func26, Tryd.ntmps26
    go_wp2_with (first
      | (refine isLoad 27 (.tmp 1) rfl ?_; refine wpList_load_row rfl 27 (.tmp 1) rfl w.heap.size rfl 27 _ (0, 0) _ HZ.out.1 Tryd.underlying27 rfl (size27' _ _ _) ?_; simp only [Act.put, List.setIfInBounds_toArray, List.set_cons_succ, List.set_cons_zero]))
    refine (workedIn_any _ _ _ _ (HG.out.below (((Below.refl _ _).alloc (Nat.le_refl _) _).alloc (by simp) _) HG.out.sz) (padR_bd r n HR0.out HR1.out).1 (padR_bd r n HR0.out HR1.out).2).mono ?_
    rintro e w1 ⟨rfl, hb1⟩
    have HB1 : Hid (_) := hb1
    clear hb1
    have hs1 : w.heap.size + 2 ≤ w1.heap.size := by have := HB1.out.size; simpa using this
    have y1 : w1.heap[w.heap.size]? = some (.cells (hcells g (padR r n) n) 27) := by rw [HB1.out.block _ (by simp; omega)]; exact HZ.out.1
    have y2 : w1.heap[w.heap.size + 1]? = some (.cells (hcells (fun _ => 0) (fun _ => 0) 0) 27) := by rw [HB1.out.block _ (by simp)]; exact HZ.out.2
    have y3 : Below w.heap.size w w1 := (((Below.refl _ _).alloc (Nat.le_refl _) _).alloc (by simp) _).trans (HB1.out.mono (by simp; omega))
    have Y1 : Hid (_) := y1
    have Y2 : Hid (_) := y2
    have Y3 : Hid (_) := y3
    clear y1 y2 y3 hs1 HB1 HZ z27 c72 ck hset
    go_wp2_with (first
      | (refine isStore 27 (.tmp 1) (.tmp 14) rfl ?_; refine wpList_store_row rfl 27 (.tmp 1) (.tmp 14) rfl w.heap.size _ rfl rfl 27 _ Y1.out (size27' _ _ _) (by simp only [hc_size]) (hc_one _ _ _) ?_; simp only [Act.put]))
    have x1 : (w1.setRow w.heap.size (hcells (wkG g (padR r n)) (fun _ => 0) n)).heap[w.heap.size]? = some (.cells (hcells (pg g r n) (pr r n) n) 27) := by
      unfold pg pr; rw [if_neg h56, if_neg h56]; exact setRow_heap _ _ _ _ _ _ Y1.out
    have x2 : (w1.setRow w.heap.size (hcells (wkG g (padR r n)) (fun _ => 0) n)).heap[w.heap.size + 1]? = some (.cells (hcells (fun _ => 0) (fun _ => 0) 0) 27) := by rw [setRow_other _ _ _ _ (by omega)]; exact Y2.out
    have x3 : Below w.heap.size w (w1.setRow w.heap.size (hcells (wkG g (padR r n)) (fun _ => 0) n)) := below_setRow Y3.out (Nat.le_refl _) _
    clear Y1 Y2 Y3
    have X1 : Hid (_) := x1
    have X2 : Hid (_) := x2
    have X3 : Hid (_) := x3
    clear x1 x2 x3
    go_loopw [15] (fun i W => ∃ k : Nat, k ≤ 8 ∧ i = .int .i64 k ∧ W.heap[w.heap.size]? = some (.cells (hcells (pg g r n) (lenR (pr r n) n k) n) 27) ∧ W.heap[w.heap.size + 1]? = some (.cells (hcells (fun _ => 0) (fun _ => 0) 0) 27) ∧ Below w.heap.size w W) (fun i _ => 8 - (intOf i).toNat)
    case atStart => exact ⟨0, by omega, rfl, by rw [lenR_zero]; exact X1.out, X2.out, X3.out⟩
    case round =>
      obtain ⟨k, hk, rfl, h1, h2, h3⟩ := hrel
      have D1 : Hid (_) := h1
      have D2 : Hid (_) := h2
      have D3 : Hid (_) := h3
      clear h1 h2 h3 X1 X2 X3
      by_cases hlt : k < 8
      · have q1 : wr.cell? ⟨w.heap.size, 72, none⟩ = some (.int .u64 n) := by
          rw [cell_of_row _ _ _ _ _ _ D1.out, hc_n]
        have q2 : wr.cell? ⟨w.heap.size, 8 + (56 + k), none⟩ = some (.int .u8 (lenR (pr r n) n k (56 + k))) := by
          rw [cell_of_row _ _ _ _ _ _ D1.out, hc_r _ _ _ _ (by omega)]
        have q3 : wr.frozen? ⟨w.heap.size, 8 + (56 + k), none⟩ = false := frozen_of_row D1.out
        have q4 : (k : Int) < 8 := by omega
        go_wp2
        go_roundw
        case rel =>
          refine ⟨k + 1, by omega, by go_num, ?_, ?_, ?_⟩
          · rw [heap_setCell_row _ D1.out, hc_set_r _ _ _ _ _ (by omega)]
            exact congrArg (fun f => some (Obj.cells (hcells (pg g r n) f n) 27)) (lenR_step (pr r n) n k)
          · rw [Below.heap_setCell _ _ _ _ (by simp)]; exact D2.out
          · exact D3.out.setCell (by simp) _
        case measure => simp [intOf]; omega
      · have HK : Hid (k = 8) := by show k = 8; omega
        have hw2 : w.heap.size + 2 ≤ wr.heap.size := by
          have := (Array.getElem?_eq_some_iff.1 D2.out).1; omega
        have HS : Hid (_) := hw2
        clear hw2
        go_wp2_with (first
          | (refine isLoad 27 (.tmp 1) rfl ?_; refine wpList_load_row rfl 27 (.tmp 1) rfl w.heap.size rfl 27 _ (0, 0) _ D1.out Tryd.underlying27 rfl (size27' _ _ _) ?_; simp only [Act.put, List.setIfInBounds_toArray, List.set_cons_succ, List.set_cons_zero]))
        refine (workedIn_any _ _ _ _ (HG.out.below D3.out HG.out.sz) (lenR_bd _ n k (pr_bd r n HR0.out HR1.out).1 (pr_bd r n HR0.out HR1.out).2).1 (lenR_bd _ n k (pr_bd r n HR0.out HR1.out).1 (pr_bd r n HR0.out HR1.out).2).2).mono ?_
        rintro e w2 ⟨rfl, hb2⟩
        have HB2 : Hid (_) := hb2
        clear hb2
        have hr2 : w2.heap[w.heap.size + 1]? = some (.cells (hcells (fun _ => 0) (fun _ => 0) 0) 27) := by rw [HB2.out.block _ (by have := HS.out; omega)]; exact D2.out
        have HR2 : Hid (_) := hr2
        clear hr2
        go_wp2_with (first
          | (refine isStore 27 (.tmp 2) (.tmp 32) rfl ?_; refine wpList_store_row rfl 27 (.tmp 2) (.tmp 32) rfl (w.heap.size + 1) _ rfl rfl 27 _ HR2.out (size27' _ _ _) (by simp only [hc_size]) (hc_one _ _ _) ?_))
        refine bodyPost_ret (v := .agg (hcells (wkG (pg g r n) (lenR (pr r n) n k)) (fun _ => 0) n)) (results_cell_row Tryd.results26 _ _ (w.heap.size + 1) 27 _ (0, 0) _ rfl (setRow_heap _ _ _ _ _ _ HR2.out) Tryd.underlying27 rfl (size27' _ _ _)) rfl ⟨?_, ?_⟩
        · rw [HK.out]; rfl
        · exact below_setRow (D3.out.trans (HB2.out.mono (by have := HS.out; omega))) (by omega) _
end Go.Proofs.YtedjoakpbknflaaDoor
