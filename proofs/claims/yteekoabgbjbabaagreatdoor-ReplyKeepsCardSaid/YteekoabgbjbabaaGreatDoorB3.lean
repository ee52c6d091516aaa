import Derived.Test.YteekoabgbjbabaaGreatDoorA7
import Derived.Laws.CopyOwn
namespace Go.Proofs.YteekoabgbjbabaaGreatDoor
open Go.RowKit

def lenB (n : Nat) (i : Nat) : Int := IntKind.u64.wrap ((n : Int) * 8) / 2 ^ (56 - 8 * i) % 256
/-- the byte 80 behind what was taken in -/
def padR (r : Nat → Int) (n : Nat) : Nat → Int := upd r (n % 64) 128
def pg (g r : Nat → Int) (n : Nat) : Nat → Int := if n % 64 < 56 then g else wkG g (padR r n)
def pr (r : Nat → Int) (n : Nat) : Nat → Int := if n % 64 < 56 then padR r n else fun _ => 0
/-- k bytes of the length laid into the block's end -/
def lenR (r : Nat → Int) (n k : Nat) : Nat → Int := fun i => if 56 ≤ i ∧ i < 56 + k then lenB n (i - 56) else r i
def padG (g r : Nat → Int) (n : Nat) : Nat → Int := wkG (pg g r n) (lenR (pr r n) n 8)

theorem lenR_step (r : Nat → Int) (n k : Nat) : upd (lenR r n k) (56 + k) (lenB n k) = lenR r n (k + 1) := by
  funext i
  simp only [upd, lenR]
  by_cases h : i = 56 + k
  · subst h; simp
  · by_cases h2 : 56 ≤ i ∧ i < 56 + k
    · rw [if_neg h, if_pos h2, if_pos (by omega)]
    · rw [if_neg h, if_neg h2, if_neg (by omega)]
theorem padR_bd (r : Nat → Int) (n : Nat) (hr0 : ∀ i, 0 ≤ r i) (hr1 : ∀ i, r i < 256) : (∀ i, 0 ≤ padR r n i) ∧ (∀ i, padR r n i < 256) := by
  refine ⟨fun i => ?_, fun i => ?_⟩ <;> simp only [padR, upd] <;> split
  · omega
  · exact hr0 i
  · omega
  · exact hr1 i
theorem pr_bd (r : Nat → Int) (n : Nat) (hr0 : ∀ i, 0 ≤ r i) (hr1 : ∀ i, r i < 256) : (∀ i, 0 ≤ pr r n i) ∧ (∀ i, pr r n i < 256) := by
  unfold pr
  split
  · exact padR_bd r n hr0 hr1
  · exact ⟨fun _ => by simp, fun _ => by simp⟩
theorem lenR_bd (r : Nat → Int) (n k : Nat) (hr0 : ∀ i, 0 ≤ r i) (hr1 : ∀ i, r i < 256) : (∀ i, 0 ≤ lenR r n k i) ∧ (∀ i, lenR r n k i < 256) := by
  refine ⟨fun i => ?_, fun i => ?_⟩ <;> simp only [lenR] <;> split
  · unfold lenB; omega
  · exact hr0 i
  · unfold lenB; omega
  · exact hr1 i

theorem lenR_zero (r : Nat → Int) (n : Nat) : lenR r n 0 = r := by
  funext i; simp only [lenR]; rw [if_neg (by omega)]

set_option maxHeartbeats 400000 in
theorem padded_any (g r : Nat → Int) (n : Nat) (w : World) (hG : Glob w) (hr0 : ∀ i, 0 ≤ r i) (hr1 : ∀ i, r i < 256) :
    Calls Tryz.prog 83 #[.agg (hcells g r n)] w fun e w' => e = .returned (.agg (hcells (padG g r n) (fun _ => 0) n)) ∧ Below w.heap.size w w' := by
  have HG : Hid (_) := hG
  have HR0 : Hid (_) := hr0
  have HR1 : Hid (_) := hr1
  clear hG hr0 hr1
  have z27 := zero27
  have c72 := hc_n g r n
  have ck := hc_r g r n (n % 64) (by omega)
  have hz2 := heap2 w (.cells (hcells g (padR r n) n) 73) (.cells (hcells (fun _ => 0) (fun _ => 0) 0) 73)
  have HZ : Hid (_) := hz2
  clear hz2
  have hset : (hcells g r n).setIfInBounds (8 + n % 64) (.int .u8 128) = hcells g (padR r n) n := hc_set_r g r n (n % 64) 128 (by omega)
  by_cases h56 : n % 64 < 56
  · have h56' : ¬ (56 ≤ (n : Int) % 64) := by omega
    go_enter Tryz.func83, Tryz.ntmps83
    go_wp2
    have x1 : ((w.alloc (Obj.cells (hcells g (padR r n) n) 73)).alloc (Obj.cells (hcells (fun _ => 0) (fun _ => 0) 0) 73)).heap[w.heap.size]? = some (.cells (hcells (pg g r n) (pr r n) n) 73) := by
      unfold pg pr; rw [if_pos h56, if_pos h56]; exact HZ.out.1
    have x2 := HZ.out.2
    have x3 : Below w.heap.size w ((w.alloc (Obj.cells (hcells g (padR r n) n) 73)).alloc (Obj.cells (hcells (fun _ => 0) (fun _ => 0) 0) 73)) := ((Below.refl _ _).alloc (Nat.le_refl _) _).alloc (by simp) _
    clear HZ z27 c72 ck hset
    have X1 : Hid (_) := x1
    have X2 : Hid (_) := x2
    have X3 : Hid (_) := x3
    clear x1 x2 x3
    go_loopw [15] (fun i W => ∃ k : Nat, k ≤ 8 ∧ i = .int .i64 k ∧ W.heap[w.heap.size]? = some (.cells (hcells (pg g r n) (lenR (pr r n) n k) n) 73) ∧ W.heap[w.heap.size + 1]? = some (.cells (hcells (fun _ => 0) (fun _ => 0) 0) 73) ∧ Below w.heap.size w W) (fun i _ => 8 - (intOf i).toNat)
    case atStart => exact ⟨0, by omega, rfl, by rw [lenR_zero]; exact X1.out, X2.out, X3.out⟩
    case round =>
      obtain ⟨k, hk, rfl, h1, h2, h3⟩ := hrel
      have D1 : Hid (_) := h1
      have D2 : Hid (_) := h2
      have D3 : Hid (_) := h3
      clear h1 h2 h3 X1 X2 X3
      by_cases hlt : k < 8
      · have q1 : wr.cell? ⟨w.heap.size, 72, none⟩ = some (.int .u64 n) := by
          rw [cell_of_row _ _ _ _ _ _ D1.out, hc_n]
        have q2 : wr.cell? ⟨w.heap.size, 8 + (56 + k), none⟩ = some (.int .u8 (lenR (pr r n) n k (56 + k))) := by
          rw [cell_of_row _ _ _ _ _ _ D1.out, hc_r _ _ _ _ (by omega)]
        have q3 : wr.frozen? ⟨w.heap.size, 8 + (56 + k), none⟩ = false := frozen_of_row D1.out
        have q4 : (k : Int) < 8 := by omega
        go_wp2
        go_roundw
        case rel =>
          refine ⟨k + 1, by omega, by go_num, ?_, ?_, ?_⟩
          · rw [heap_setCell_row _ D1.out, hc_set_r _ _ _ _ _ (by omega)]
            exact congrArg (fun f => some (Obj.cells (hcells (pg g r n) f n) 73)) (lenR_step (pr r n) n k)
          · rw [Below.heap_setCell _ _ _ _ (by simp)]; exact D2.out
          · exact D3.out.setCell (by simp) _
        case measure => simp [intOf]; omega
      · have HK : Hid (k = 8) := by show k = 8; omega
        have hw2 : w.heap.size + 2 ≤ wr.heap.size := by
          have := (Array.getElem?_eq_some_iff.1 D2.out).1; omega
        have HS : Hid (_) := hw2
        clear hw2
        go_wp2_with (first
          | (refine isLoad 73 (.tmp 1) rfl ?_; refine wpList_load_row rfl 73 (.tmp 1) rfl w.heap.size rfl 73 _ (0, 0) _ D1.out Tryz.underlying73 rfl (size27' _ _ _) ?_; simp only [Act.put, List.setIfInBounds_toArray, List.set_cons_succ, List.set_cons_zero]))
        refine (workedIn_any _ _ _ _ (HG.out.below D3.out HG.out.sz) (lenR_bd _ n k (pr_bd r n HR0.out HR1.out).1 (pr_bd r n HR0.out HR1.out).2).1 (lenR_bd _ n k (pr_bd r n HR0.out HR1.out).1 (pr_bd r n HR0.out HR1.out).2).2).mono ?_
        rintro e w2 ⟨rfl, hb2⟩
        have HB2 : Hid (_) := hb2
        clear hb2
        have hr2 : w2.heap[w.heap.size + 1]? = some (.cells (hcells (fun _ => 0) (fun _ => 0) 0) 73) := by rw [HB2.out.block _ (by have := HS.out; omega)]; exact D2.out
        have HR2 : Hid (_) := hr2
        clear hr2
        go_wp2_with (first
          | (refine isStore 73 (.tmp 2) (.tmp 32) rfl ?_; refine wpList_store_row rfl 73 (.tmp 2) (.tmp 32) rfl (w.heap.size + 1) _ rfl rfl 73 _ HR2.out (size27' _ _ _) (by simp only [hc_size]) (hc_one _ _ _) ?_))
        refine bodyPost_ret (v := .agg (hcells (wkG (pg g r n) (lenR (pr r n) n k)) (fun _ => 0) n)) (results_cell_row Tryz.results83 _ _ (w.heap.size + 1) 73 _ (0, 0) _ rfl (setRow_heap _ _ _ _ _ _ HR2.out) Tryz.underlying73 rfl (size27' _ _ _)) rfl ⟨?_, ?_⟩
        · rw [HK.out]; rfl
        · exact below_setRow (D3.out.trans (HB2.out.mono (by have := HS.out; omega))) (by omega) _
  · have h56' : (56 ≤ (n : Int) % 64) := by omega
    go_enter Tryz.func83, Tryz.ntmps83
    go_wp2_with (first
      | (refine isLoad 73 (.tmp 1) rfl ?_; refine wpList_load_row rfl 73 (.tmp 1) rfl w.heap.size rfl 73 _ (0, 0) _ HZ.out.1 Tryz.underlying73 rfl (size27' _ _ _) ?_; simp only [Act.put, List.setIfInBounds_toArray, List.set_cons_succ, List.set_cons_zero]))
    refine (workedIn_any _ _ _ _ (HG.out.below (((Below.refl _ _).alloc (Nat.le_refl _) _).alloc (by simp) _) HG.out.sz) (padR_bd r n HR0.out HR1.out).1 (padR_bd r n HR0.out HR1.out).2).mono ?_
    rintro e w1 ⟨rfl, hb1⟩
    have HB1 : Hid (_) := hb1
    clear hb1
    have hs1 : w.heap.size + 2 ≤ w1.heap.size := by have := HB1.out.size; simpa using this
    have y1 : w1.heap[w.heap.size]? = some (.cells (hcells g (padR r n) n) 73) := by rw [HB1.out.block _ (by simp; omega)]; exact HZ.out.1
    have y2 : w1.heap[w.heap.size + 1]? = some (.cells (hcells (fun _ => 0) (fun _ => 0) 0) 73) := by rw [HB1.out.block _ (by simp)]; exact HZ.out.2
    have y3 : Below w.heap.size w w1 := (((Below.refl _ _).alloc (Nat.le_refl _) _).alloc (by simp) _).trans (HB1.out.mono (by simp; omega))
    have Y1 : Hid (_) := y1
    have Y2 : Hid (_) := y2
    have Y3 : Hid (_) := y3
    clear y1 y2 y3 hs1 HB1 HZ z27 c72 ck hset
    go_wp2_with (first
      | (refine isStore 73 (.tmp 1) (.tmp 14) rfl ?_; refine wpList_store_row rfl 73 (.tmp 1) (.tmp 14) rfl w.heap.size _ rfl rfl 73 _ Y1.out (size27' _ _ _) (by simp only [hc_size]) (hc_one _ _ _) ?_; simp only [Act.put]))
    have x1 : (w1.setRow w.heap.size (hcells (wkG g (padR r n)) (fun _ => 0) n)).heap[w.heap.size]? = some (.cells (hcells (pg g r n) (pr r n) n) 73) := by
      unfold pg pr; rw [if_neg h56, if_neg h56]; exact setRow_heap _ _ _ _ _ _ Y1.out
    have x2 : (w1.setRow w.heap.size (hcells (wkG g (padR r n)) (fun _ => 0) n)).heap[w.heap.size + 1]? = some (.cells (hcells (fun _ => 0) (fun _ => 0) 0) 73) := by rw [setRow_other _ _ _ _ (by omega)]; exact Y2.out
    have x3 : Below w.heap.size w (w1.setRow w.heap.size (hcells (wkG g (padR r n)) (fun _ => 0) n)) := below_setRow Y3.out (Nat.le_refl _) _
    clear Y1 Y2 Y3
    have X1 : Hid (_) := x1
    have X2 : Hid (_) := x2
    have X3 : Hid (_) := x3
    clear x1 x2 x3
    go_loopw [15] (fun i W => ∃ k : Nat, k ≤ 8 ∧ i = .int .i64 k ∧ W.heap[w.heap.size]? = some (.cells (hcells (pg g r n) (lenR (pr r n) n k) n) 73) ∧ W.heap[w.heap.size + 1]? = some (.cells (hcells (fun _ => 0) (fun _ => 0) 0) 73) ∧ Below w.heap.size w W) (fun i _ => 8 - (intOf i).toNat)
    case atStart => exact ⟨0, by omega, rfl, by rw [lenR_zero]; exact X1.out, X2.out, X3.out⟩
    case round =>
      obtain ⟨k, hk, rfl, h1, h2, h3⟩ := hrel
      have D1 : Hid (_) := h1
      have D2 : Hid (_) := h2
      have D3 : Hid (_) := h3
      clear h1 h2 h3 X1 X2 X3
      by_cases hlt : k < 8
      · have q1 : wr.cell? ⟨w.heap.size, 72, none⟩ = some (.int .u64 n) := by
          rw [cell_of_row _ _ _ _ _ _ D1.out, hc_n]
        have q2 : wr.cell? ⟨w.heap.size, 8 + (56 + k), none⟩ = some (.int .u8 (lenR (pr r n) n k (56 + k))) := by
          rw [cell_of_row _ _ _ _ _ _ D1.out, hc_r _ _ _ _ (by omega)]
        have q3 : wr.frozen? ⟨w.heap.size, 8 + (56 + k), none⟩ = false := frozen_of_row D1.out
        have q4 : (k : Int) < 8 := by omega
        go_wp2
        go_roundw
        case rel =>
          refine ⟨k + 1, by omega, by go_num, ?_, ?_, ?_⟩
          · rw [heap_setCell_row _ D1.out, hc_set_r _ _ _ _ _ (by omega)]
            exact congrArg (fun f => some (Obj.cells (hcells (pg g r n) f n) 73)) (lenR_step (pr r n) n k)
          · rw [Below.heap_setCell _ _ _ _ (by simp)]; exact D2.out
          · exact D3.out.setCell (by simp) _
        case measure => simp [intOf]; omega
      · have HK : Hid (k = 8) := by show k = 8; omega
        have hw2 : w.heap.size + 2 ≤ wr.heap.size := by
          have := (Array.getElem?_eq_some_iff.1 D2.out).1; omega
        have HS : Hid (_) := hw2
        clear hw2
        go_wp2_with (first
          | (refine isLoad 73 (.tmp 1) rfl ?_; refine wpList_load_row rfl 73 (.tmp 1) rfl w.heap.size rfl 73 _ (0, 0) _ D1.out Tryz.underlying73 rfl (size27' _ _ _) ?_; simp only [Act.put, List.setIfInBounds_toArray, List.set_cons_succ, List.set_cons_zero]))
        refine (workedIn_any _ _ _ _ (HG.out.below D3.out HG.out.sz) (lenR_bd _ n k (pr_bd r n HR0.out HR1.out).1 (pr_bd r n HR0.out HR1.out).2).1 (lenR_bd _ n k (pr_bd r n HR0.out HR1.out).1 (pr_bd r n HR0.out HR1.out).2).2).mono ?_
        rintro e w2 ⟨rfl, hb2⟩
        have HB2 : Hid (_) := hb2
        clear hb2
        have hr2 : w2.heap[w.heap.size + 1]? = some (.cells (hcells (fun _ => 0) (fun _ => 0) 0) 73) := by rw [HB2.out.block _ (by have := HS.out; omega)]; exact D2.out
        have HR2 : Hid (_) := hr2
        clear hr2
        go_wp2_with (first
          | (refine isStore 73 (.tmp 2) (.tmp 32) rfl ?_; refine wpList_store_row rfl 73 (.tmp 2) (.tmp 32) rfl (w.heap.size + 1) _ rfl rfl 73 _ HR2.out (size27' _ _ _) (by simp only [hc_size]) (hc_one _ _ _) ?_))
        refine bodyPost_ret (v := .agg (hcells (wkG (pg g r n) (lenR (pr r n) n k)) (fun _ => 0) n)) (results_cell_row Tryz.results83 _ _ (w.heap.size + 1) 73 _ (0, 0) _ rfl (setRow_heap _ _ _ _ _ _ HR2.out) Tryz.underlying73 rfl (size27' _ _ _)) rfl ⟨?_, ?_⟩
        · rw [HK.out]; rfl
        · exact below_setRow (D3.out.trans (HB2.out.mono (by have := HS.out; omega))) (by omega) _
end Go.Proofs.YteekoabgbjbabaaGreatDoor

namespace Go.Proofs.YteekoabgbjbabaaGreatDoor
open Go.RowKit

/-- What a hash has taken in. -/
structure HS where
  g : Nat → Int
  r : Nat → Int
  n : Nat
def HS.cells (s : HS) : Array Value := hcells s.g s.r s.n
def HS.new : HS := ⟨fun _ => 0, fun _ => 0, 0⟩
/-- one byte more -/
def add1 (s : HS) (b : Int) : HS :=
  if s.n % 64 = 63 then ⟨wkG s.g (upd s.r (s.n % 64) b), fun _ => 0, s.n + 1⟩ else ⟨s.g, upd s.r (s.n % 64) b, s.n + 1⟩
/-- the first m of p -/
def addN (s : HS) (p : Nat → Int) : Nat → HS
  | 0 => s
  | m + 1 => add1 (addN s p m) (p m)
/-- c bytes of q laid over r from h on -/
def overlay (r : Nat → Int) (h c : Nat) (q : Nat → Int) : Nat → Int := fun i => if h ≤ i ∧ i < h + c then q (i - h) else r i

theorem addN_n (s : HS) (p : Nat → Int) (m : Nat) : (addN s p m).n = s.n + m := by
  induction m with
  | zero => rfl
  | succ m ih =>
    simp only [addN, add1]
    split <;> simp only <;> omega
theorem addN_add (s : HS) (p : Nat → Int) (m c : Nat) : addN s p (m + c) = addN (addN s p m) (fun i => p (m + i)) c := by
  induction c with
  | zero => rfl
  | succ c ih => rw [Nat.add_succ]; simp only [addN]; rw [ih]
theorem addN_congr (s : HS) {p q : Nat → Int} (m : Nat) (h : ∀ i, i < m → p i = q i) : addN s p m = addN s q m := by
  induction m with
  | zero => rfl
  | succ m ih => simp only [addN]; rw [ih (fun i hi => h i (by omega)), h m (by omega)]
theorem overlay_zero (r : Nat → Int) (h : Nat) (q : Nat → Int) : overlay r h 0 q = r := by
  funext i; simp only [overlay]; rw [if_neg (by omega)]
theorem overlay_succ (r : Nat → Int) (h c : Nat) (q : Nat → Int) : upd (overlay r h c q) (h + c) (q c) = overlay r h (c + 1) q := by
  funext i
  simp only [upd, overlay]
  by_cases e : i = h + c
  · subst e; simp
  · by_cases h2 : h ≤ i ∧ i < h + c
    · rw [if_neg e, if_pos h2, if_pos (by omega)]
    · rw [if_neg e, if_neg h2, if_neg (by omega)]
/-- a chunk that does not fill the block -/
theorem addN_part (t : HS) (q : Nat → Int) (c : Nat) (hc : t.n % 64 + c < 64) : addN t q c = ⟨t.g, overlay t.r (t.n % 64) c q, t.n + c⟩ := by
  induction c with
  | zero => rw [overlay_zero]; rfl
  | succ c ih =>
    simp only [addN]
    rw [ih (by omega)]
    unfold add1
    simp only
    have e : (t.n + c) % 64 = t.n % 64 + c := by omega
    rw [e, if_neg (by omega), overlay_succ]
    rfl
/-- a chunk that fills it -/
theorem addN_full (t : HS) (q : Nat → Int) (c : Nat) (hc : t.n % 64 + c = 64) (h0 : 0 < c) : addN t q c = ⟨wkG t.g (overlay t.r (t.n % 64) c q), fun _ => 0, t.n + c⟩ := by
  obtain ⟨d, rfl⟩ : ∃ d, c = d + 1 := ⟨c - 1, by omega⟩
  simp only [addN]
  rw [addN_part t q d (by omega)]
  unfold add1
  simp only
  have e : (t.n + d) % 64 = t.n % 64 + d := by omega
  rw [e, if_pos (by omega), overlay_succ]
  rfl
def HS.ok (s : HS) : Prop := (∀ i, 0 ≤ s.r i) ∧ (∀ i, s.r i < 256)
theorem ok_new : HS.new.ok := ⟨fun _ => by simp [HS.new], fun _ => by simp [HS.new]⟩
theorem ok_add1 {s : HS} (h : s.ok) {b : Int} (h0 : 0 ≤ b) (h1 : b < 256) : (add1 s b).ok := by
  unfold add1 HS.ok
  split
  · exact ⟨fun _ => by simp, fun _ => by simp⟩
  · refine ⟨fun i => ?_, fun i => ?_⟩ <;> simp only [upd] <;> split
    · exact h0
    · exact h.1 i
    · exact h1
    · exact h.2 i
theorem ok_addN {s : HS} (h : s.ok) {p : Nat → Int} {m : Nat} (hp : ∀ i, i < m → 0 ≤ p i ∧ p i < 256) : (addN s p m).ok := by
  induction m with
  | zero => exact h
  | succ m ih => exact ok_add1 (ih fun i hi => hp i (by omega)) (hp m (by omega)).1 (hp m (by omega)).2
theorem ok_overlay {r : Nat → Int} {h c : Nat} {q : Nat → Int} (hr : (∀ i, 0 ≤ r i) ∧ (∀ i, r i < 256)) (hq : ∀ i, i < c → 0 ≤ q i ∧ q i < 256) : (∀ i, 0 ≤ overlay r h c q i) ∧ (∀ i, overlay r h c q i < 256) := by
  refine ⟨fun i => ?_, fun i => ?_⟩ <;> simp only [overlay] <;> split
  · exact (hq _ (by omega)).1
  · exact hr.1 i
  · exact (hq _ (by omega)).2
  · exact hr.2 i

/-- the bytes of a chunk, as cells -/
def chunk (c : Nat) (q : Nat → Int) : List Value := (List.range c).map fun i => Value.int .u8 (q i)
theorem chunk_len (c : Nat) (q : Nat → Int) : (chunk c q).length = c := by simp [chunk]
theorem chunk_get {c : Nat} {q : Nat → Int} {j : Nat} {v : Value} (h : (chunk c q)[j]? = some v) : j < c ∧ v = .int .u8 (q j) := by
  have hj : j < c := by have := (List.getElem?_eq_some_iff.1 h).1; rwa [chunk_len] at this
  refine ⟨hj, ?_⟩
  simp [chunk, hj] at h
  exact h.symm
theorem chunk_one (c : Nat) (q : Nat → Int) : ∀ v ∈ chunk c q, v.oneCell' = true := by
  intro v hv
  simp only [chunk, List.mem_map] at hv
  obtain ⟨i, _, rfl⟩ := hv
  rfl
theorem copied (g r : Nat → Int) (n : Int) (h c : Nat) (q : Nat → Int) (hc : h + c ≤ 64) :
    ((hcells g r n).toList.take (8 + h) ++ (chunk c q ++ (hcells g r n).toList.drop (8 + h + (chunk c q).length))).toArray = hcells g (overlay r h c q) n := by
  have hl : (hcells g r n).toList.length = 73 := hc_len g r n
  have hk := chunk_len c q
  have get : ∀ i, ((hcells g r n).toList.take (8 + h) ++ (chunk c q ++ (hcells g r n).toList.drop (8 + h + (chunk c q).length))).toArray[i]? = if 8 + h ≤ i ∧ i < 8 + h + c then (chunk c q)[i - (8 + h)]? else (hcells g r n)[i]? := by
    intro i
    rw [hk]
    simp only [List.getElem?_toArray]
    by_cases h1 : i < 8 + h
    · rw [if_neg (by omega), List.getElem?_append_left (by simp [hl]; omega), List.getElem?_take, if_pos h1, Array.getElem?_toList]
    · by_cases h2 : i < 8 + h + c
      · rw [if_pos (by omega), List.getElem?_append_right (by simp [hl]; omega), List.length_take, hl, Nat.min_eq_left (by omega), List.getElem?_append_left (by rw [hk]; omega)]
      · rw [if_neg (by omega), List.getElem?_append_right (by simp [hl]; omega), List.length_take, hl, Nat.min_eq_left (by omega), List.getElem?_append_right (by rw [hk]; omega), hk, List.getElem?_drop, show 8 + h + c + (i - (8 + h) - c) = i by omega, Array.getElem?_toList]
  refine hc_ext ?_ ?_ ?_ ?_
  · simp [hl, hk]; omega
  · intro i hi; rw [get, if_neg (by omega), hc_g _ _ _ i hi]
  · intro i hi
    rw [get]
    simp only [overlay]
    by_cases h1 : h ≤ i ∧ i < h + c
    · rw [if_pos (by omega), if_pos h1, show 8 + i - (8 + h) = i - h by omega]
      simp [chunk, show i - h < c by omega]
    · rw [if_neg (by omega), if_neg h1, hc_r _ _ _ i hi]
  · rw [get, if_neg (by omega), hc_n]
end Go.Proofs.YteekoabgbjbabaaGreatDoor

namespace Go.Proofs.YteekoabgbjbabaaGreatDoor
open Go.RowKit

theorem built27 : (Tryz.prog.built 73 []).getD #[] = hcells (fun _ => 0) (fun _ => 0) 0 := by kernel_rfl
theorem isBuilt27 : (Tryz.prog.built 73 []).isSome = true := by kernel_rfl
theorem wpList_build27 {ops : Array Oper} {rest : List Oper} {o : Oper} {a : Act} {w : World} {Q : Exit → Act → World → Prop} (hg : o.guard = none) (ho : o.op = .build 73 #[])
    (h : wpList Tryz.prog ops Q rest (a.put o.dst (.agg (hcells (fun _ => 0) (fun _ => 0) 0))) w) : wpList Tryz.prog ops Q (o :: rest) a w := by
  have e0 : ((#[] : Array (Nat × Operand)).map fun (i, x) => (i, a.eval x)).toList = [] := by simp
  refine wpList_build hg 73 #[] ho (by rw [e0]; exact isBuilt27) ?_
  rw [e0, built27]
  exact h

set_option maxHeartbeats 400000 in
theorem new_any (w : World) :
    Calls Tryz.prog 59 #[] w fun e w' => e = .returned (.agg HS.new.cells) ∧ Below w.heap.size w w' := by
  have z27 := zero27
  go_enter Tryz.func59, Tryz.ntmps59
  go_wp2_with (first
    | (refine wpList_build27 rfl rfl ?_; simp only [Act.put, List.setIfInBounds_toArray, List.set_cons_succ, List.set_cons_zero])
    | (refine isStore 73 (.tmp 0) (.tmp 1) rfl ?_; refine wpList_store_row rfl 73 (.tmp 0) (.tmp 1) rfl w.heap.size _ rfl rfl 73 _ (heap_alloc_new _ _) (size27' _ _ _) (by simp only [hc_size]) (hc_one _ _ _) ?_))
  refine bodyPost_ret (v := .agg HS.new.cells) (results_cell_row Tryz.results59 _ _ w.heap.size 73 _ (0, 0) _ rfl (setRow_heap _ _ _ _ _ _ (heap_alloc_new _ _)) Tryz.underlying73 rfl (size27' _ _ _)) rfl ⟨rfl, ?_⟩
  exact below_setRow ((Below.refl _ _).alloc (Nat.le_refl _) _) (Nat.le_refl _) _

/-- The digest of what was taken in. -/
def sumD (s : HS) : Nat → Int := digB (stW (padG s.g s.r s.n))

theorem zero28 : ∀ w, (zeroValue 54).run Tryz.prog w = .ok (.agg (tab8 32 (fun _ => 0))) w :=
  (zero_of_info (n := 32) (by kernel_rfl)).1

set_option maxHeartbeats 400000 in
theorem hsum_any (s : HS) (w : World) (hG : Glob w) (hs : s.ok) :
    Calls Tryz.prog 70 #[.agg s.cells] w fun e w' => e = .returned (.agg (tab8 32 (sumD s))) ∧ Below w.heap.size w w' := by
  have HG : Hid (_) := hG
  have HS' : Hid (_) := hs
  clear hG hs
  obtain ⟨g, r, n⟩ := s
  show Calls Tryz.prog 70 #[.agg (hcells g r n)] w fun e w' => e = .returned (.agg (tab8 32 (sumD ⟨g, r, n⟩))) ∧ Below w.heap.size w w'
  have z28 := zero28
  have hz2 := heap2 w (.cells (hcells g r n) 73) (.cells (tab8 32 (fun _ => 0)) 54)
  have HZ : Hid (_) := hz2
  clear hz2
  go_enter Tryz.func70, Tryz.ntmps70
  go_wp2_with (first
    | (refine isLoad 73 (.tmp 1) rfl ?_; refine wpList_load_row rfl 73 (.tmp 1) rfl w.heap.size rfl 73 _ (0, 0) _ HZ.out.1 Tryz.underlying73 rfl (size27' _ _ _) ?_; simp only [Act.put, List.setIfInBounds_toArray, List.set_cons_succ, List.set_cons_zero]))
  have hVB : Below w.heap.size w ((w.alloc (.cells (hcells g r n) 73)).alloc (.cells (tab8 32 (fun _ => 0)) 54)) := ((Below.refl _ _).alloc (Nat.le_refl _) _).alloc (by simp) _
  have HV : Hid (_) := hVB
  clear hVB
  refine (padded_any g r n _ (HG.out.below HV.out HG.out.sz) HS'.out.1 HS'.out.2).mono ?_
  rintro e w1 ⟨rfl, hb1⟩
  have HB1 : Hid (Below (w.heap.size + 2) ((w.alloc (.cells (hcells g r n) 73)).alloc (.cells (tab8 32 (fun _ => 0)) 54)) w1) := by
    have hsz : ((w.alloc (.cells (hcells g r n) 73)).alloc (.cells (tab8 32 (fun _ => 0)) 54)).heap.size = w.heap.size + 2 := by simp
    rw [← hsz]; exact hb1
  clear hb1
  have G1 : Hid (Glob w1) := (HG.out.below HV.out HG.out.sz).below HB1.out (Nat.le_trans HG.out.sz (Nat.le_add_right _ 2))
  go_wp2_with fail
  refine (state_any _ (padG g r n) hW _ G1.out.sz G1.out.h (hc_g _ _ _)).mono ?_
  rintro e w2 ⟨rfl, hb2⟩
  have HB2 : Hid (_) := hb2
  clear hb2
  go_wp2_with fail
  refine (digest_any _ (stW (padG g r n)) _ (tab32_get 8 _)).mono ?_
  rintro e w3 ⟨rfl, hb3⟩
  have hs1 : w.heap.size + 2 ≤ w1.heap.size := by have := HB1.out.size; simpa using this
  have hs2 := HB2.out.size
  have hs3 := hb3.size
  have hbb : Below (w.heap.size + 2) ((w.alloc (.cells (hcells g r n) 73)).alloc (.cells (tab8 32 (fun _ => 0)) 54)) w3 := (HB1.out.trans (HB2.out.mono hs1)).trans (hb3.mono (by omega))
  have hr3 : w3.heap[w.heap.size + 1]? = some (.cells (tab8 32 (fun _ => 0)) 54) := by rw [hbb.block _ (by omega)]; exact HZ.out.2
  have hB3 : Below w.heap.size w w3 := HV.out.trans (hbb.mono (by omega))
  have HR3 : Hid (_) := hr3
  have H3 : Hid (_) := hB3
  clear hr3 hB3 hbb hs1 hs2 hs3 hb3 HB1 HB2 HZ HV z28
  go_wp2_with (first
    | (refine isStore 54 (.tmp 2) (.tmp 6) rfl ?_; refine wpList_store_row rfl 54 (.tmp 2) (.tmp 6) rfl (w.heap.size + 1) _ rfl rfl 54 _ HR3.out (size28' _) (by simp only [tab8_size]) (tab8_one _ _) ?_))
  refine bodyPost_ret (v := .agg (tab8 32 (sumD ⟨g, r, n⟩))) (results_cell_row Tryz.results70 _ _ (w.heap.size + 1) 54 _ (0, 0) _ rfl (setRow_heap _ _ _ _ _ _ HR3.out) Tryz.underlying54 rfl (size28' _)) rfl ⟨rfl, ?_⟩
  exact below_setRow H3.out (by omega) _
end Go.Proofs.YteekoabgbjbabaaGreatDoor

namespace Go.Proofs.YteekoabgbjbabaaGreatDoor
open Go.RowKit

theorem isCopy {P : Program} {ops : Array Oper} {rest : List Oper} {o : Oper} {a : Act} {w : World} {Q : Exit → Act → World → Prop} (d s : Operand) (_ : o.op = .call { callee := .builtin .copy, args := #[d, s], argTypes := #[24, 24] }) (h : wpList P ops Q (o :: rest) a w) : wpList P ops Q (o :: rest) a w := h
theorem size5 : (Tryz.prog.info? 5).map (·.size) = some 1 := by kernel_rfl

theorem slice24 (b o n : Nat) (W : World) : (Instr.sliceAt 70 (.pointer (some ⟨b, o, none⟩)) (some (.int .i64 ((n : Int) % 64))) none none).run Tryz.prog W = .ok (.slice (some ⟨b, o + n % 64, none⟩) (64 - n % 64) (64 - n % 64)) W := by
  have h1 : ((n : Int) % 64) ≤ 64 := by omega
  have h0 : 0 ≤ ((n : Int) % 64) := by omega
  have h3 : ((n : Int) % 64).toNat = n % 64 := by omega
  have h4 : ¬ 64 = n % 64 := by omega
  simp [Instr.sliceAt, Instr.sureAddr, run_underlying Tryz.underlying70, Instr.sliceBounds, run_sliceBound, go_sem, h0, h1, h3, h4]

theorem slice33 (b o l k c : Nat) (hc : c ≤ l) (W : World) : (Instr.sliceAt 24 (.slice (some ⟨b, o, none⟩) l k) (some (.int .i64 (c : Int))) none none).run Tryz.prog W = .ok (.slice (some ⟨b, if k = c then o else o + c, none⟩) (l - c) (k - c)) W := by
  have h1 : (c : Int) ≤ l := by omega
  have h0 : 0 ≤ (c : Int) := by omega
  by_cases hk : k = c
  · simp [Instr.sliceAt, Instr.slice, run_underlying Tryz.underlying24, Instr.sliceBounds, run_sliceBound, go_sem, hc, hk]
  · simp [Instr.sliceAt, Instr.slice, run_underlying Tryz.underlying24, Instr.sliceBounds, run_sliceBound, go_sem, hc, hk]

set_option maxHeartbeats 400000 in
theorem add_some (s : HS) (b off len cap : Nat) (p : Nat → Int) (w : World) (hG : Glob w) (hs : s.ok) (hcap : len ≤ cap) (hbig : s.n + len < 1152921504606846976) (hb : b < w.heap.size)
    (hp : ∀ j, j < len → w.cell? ⟨b, off + j, none⟩ = some (.int .u8 (p j))) (hpb : ∀ j, j < len → 0 ≤ p j ∧ p j < 256) :
    Calls Tryz.prog 60 #[.agg s.cells, .slice (some ⟨b, off, none⟩) len cap] w fun e w' => e = .returned (.agg (addN s p len).cells) ∧ Below w.heap.size w w' := by
  have HBIG : Hid (_) := hbig
  clear hbig
  have HG : Hid (_) := hG
  have HO : Hid (_) := hs
  have HP : Hid (_) := hp
  have HPB : Hid (_) := hpb
  clear hG hs hp hpb
  have z27 := zero27
  have hz2 := heap2 w (.cells s.cells 73) (.cells (hcells (fun _ => 0) (fun _ => 0) 0) 73)
  have HZ : Hid (_) := hz2
  clear hz2
  go_enter Tryz.func60, Tryz.ntmps60
  go_wp2
  clear z27
  have hVB : Below w.heap.size w ((w.alloc (.cells s.cells 73)).alloc (.cells (hcells (fun _ => 0) (fun _ => 0) 0) 73)) := ((Below.refl _ _).alloc (Nat.le_refl _) _).alloc (by simp) _
  have HV : Hid (_) := hVB
  clear hVB
  go_loopw [1] (fun v W => ∃ m o : Nat, m ≤ len ∧ (m < len → o = off + m) ∧ v = .slice (some ⟨b, o, none⟩) (len - m) (cap - m) ∧ W.heap[w.heap.size]? = some (.cells (addN s p m).cells 73) ∧ W.heap[w.heap.size + 1]? = some (.cells (hcells (fun _ => 0) (fun _ => 0) 0) 73) ∧ Below w.heap.size w W) (fun v _ => match v with | .slice _ l _ => l | _ => 0)
  case atStart => exact ⟨0, off, by omega, fun _ => rfl, rfl, HZ.out.1, HZ.out.2, HV.out⟩
  case round =>
    obtain ⟨m, o, hm, ho, rfl, h1, h2, h3⟩ := hrel
    have HO' : Hid (_) := ho
    clear ho
    have D1 : Hid (_) := h1
    have D2 : Hid (_) := h2
    have D3 : Hid (_) := h3
    clear h1 h2 h3 HZ HV
    by_cases hlt : m < len
    · obtain ⟨t, ht⟩ : ∃ t, t = addN s p m := ⟨_, rfl⟩
      have hn := addN_n s p m
      rw [← ht] at hn
      have HT : Hid (_) := ht
      have HN : Hid (_) := hn
      have q0 : wr.cell? ⟨w.heap.size, 72, none⟩ = some (.int .u64 (t.n : Int)) := by
        rw [cell_of_row _ _ _ _ _ _ D1.out, ht]; exact hc_n _ _ _
      have D1' : Hid (wr.heap[w.heap.size]? = some (.cells (hcells t.g t.r t.n) 73)) := by rw [ht]; exact D1.out
      have b0 : (0 : Int) < ((len - m : Nat) : Int) := by omega
      have sl1 := slice24 w.heap.size 8 t.n
      obtain ⟨c, hc⟩ : ∃ c, c = Nat.min (len - m) (64 - t.n % 64) := ⟨_, rfl⟩
      have hc1 : c ≤ len - m := by rw [hc]; exact Nat.min_le_left _ _
      have hc3 : t.n % 64 + c ≤ 64 := by
        have : c ≤ 64 - t.n % 64 := by rw [hc]; exact Nat.min_le_right _ _
        omega
      have hc4 : 0 < c := by rw [hc]; exact Nat.lt_min.2 ⟨by omega, by omega⟩
      have sl2 := slice33 b o (len - m) (cap - m) c hc1
      obtain ⟨o2, ho2⟩ : ∃ o2, o2 = if cap - m = c then o else o + c := ⟨_, rfl⟩
      rw [← ho2] at sl2
      have HO2 : Hid (_) := ho2
      have HC : Hid (_) := hc
      clear ht hn hc ho2
      have hsrc : Hid (∀ j v, (chunk c (fun i => p (m + i)))[j]? = some v → wr.cell? ((⟨b, o, none⟩ : Addr).add j) = some v) := by
        intro j v hv
        obtain ⟨hj, rfl⟩ := chunk_get hv
        rw [Addr.add_mid, HO'.out hlt, D3.out.cell (p := ⟨b, off + m + j, none⟩) hb, Nat.add_assoc]
        exact HP.out (m + j) (by omega)
      have wn : IntKind.u64.wrap ((t.n : Int) + (c : Int)) = ((t.n + c : Nat) : Int) := by
        have h1 := HN.out
        have h2 := HBIG.out
        simp [IntKind.wrap, IntKind.bits, IntKind.signed]; omega
      have bc : (c : Int) ≤ 64 := by omega
      by_cases hfull : t.n % 64 + c = 64
      · have t64 : (t.n : Int) % 64 + (c : Int) = 64 := by omega
        go_wp2_with (first
          | (refine isCopy (.tmp 16) (.tmp 17) rfl ?_; go_must (refine wpList_copy_own rfl (.tmp 16) (.tmp 17) 24 24 rfl 5 Tryz.underlying24 size5 w.heap.size (8 + t.n % 64) (64 - t.n % 64) _ ⟨b, o, none⟩ (len - m) (cap - m) rfl rfl (hcells t.g t.r t.n) 73 D1'.out (chunk c (fun i => p (m + i))) (by rw [chunk_len]; exact HC.out) hsrc.out (by rw [chunk_len, hc_size]; omega) (chunk_one _ _) ?_; rw [copied _ _ _ _ _ _ (by omega), chunk_len]; simp only [Act.put, List.setIfInBounds_toArray, List.set_cons_succ, List.set_cons_zero]; obtain ⟨V, hV⟩ : ∃ V, V = wr.setRow w.heap.size (hcells t.g (overlay t.r (t.n % 64) c (fun i => p (m + i))) t.n) := ⟨_, rfl⟩; rw [← hV]; have V1 : Hid (V.heap[w.heap.size]? = some (.cells (hcells t.g (overlay t.r (t.n % 64) c (fun i => p (m + i))) t.n) 73)) := (by rw [hV]; exact setRow_heap _ _ _ _ _ _ D1'.out); have V2 : Hid (V.heap[w.heap.size + 1]? = some (.cells (hcells (fun _ => 0) (fun _ => 0) 0) 73)) := (by rw [hV, setRow_other _ _ _ _ (by omega)]; exact D2.out); have V3 : Hid (Below w.heap.size w V) := (by rw [hV]; exact below_setRow D3.out (Nat.le_refl _) _); have v4 : V.cell? ⟨w.heap.size, 72, none⟩ = some (.int .u64 (t.n : Int)) := (by rw [cell_of_row _ _ _ _ _ _ V1.out]; exact hc_n _ _ _); have v5 : V.frozen? ⟨w.heap.size, 72, none⟩ = false := frozen_of_row V1.out; clear hV))
          | (refine isLoad 73 (.tmp 2) rfl ?_; have U1 : Hid ((V.setCell ⟨w.heap.size, 72, none⟩ (.int .u64 ((t.n : Int) + (c : Int)))).heap[w.heap.size]? = some (.cells (hcells t.g (overlay t.r (t.n % 64) c (fun i => p (m + i))) ((t.n : Int) + (c : Int))) 73)) := (by rw [heap_setCell_row _ V1.out, hc_set_n]; exact rfl); go_must (refine wpList_load_row rfl 73 (.tmp 2) rfl w.heap.size rfl 73 _ (0, 0) _ U1.out Tryz.underlying73 rfl (size27' _ _ _) ?_; simp only [Act.put, List.setIfInBounds_toArray, List.set_cons_succ, List.set_cons_zero])))
        have U2 : Hid ((V.setCell ⟨w.heap.size, 72, none⟩ (.int .u64 ((t.n : Int) + (c : Int)))).heap[w.heap.size + 1]? = some (.cells (hcells (fun _ => 0) (fun _ => 0) 0) 73)) := by
          rw [Below.heap_setCell _ _ _ _ (by simp)]; exact V2.out
        have U3 : Hid (Below w.heap.size w (V.setCell ⟨w.heap.size, 72, none⟩ (.int .u64 ((t.n : Int) + (c : Int))))) := V3.out.setCell (by simp) _
        have okO := ok_overlay (h := t.n % 64) (c := c) (q := fun i => p (m + i)) (r := t.r) (by rw [HT.out]; exact ok_addN HO.out fun i hi => HPB.out i (by omega)) (fun i hi => HPB.out (m + i) (by omega))
        refine (workedIn_any _ _ _ _ (HG.out.below U3.out HG.out.sz) okO.1 okO.2).mono ?_
        rintro e w2 ⟨rfl, hb2⟩
        have HB2 : Hid (_) := hb2
        clear hb2 okO
        have hw2 : w.heap.size + 2 ≤ (V.setCell ⟨w.heap.size, 72, none⟩ (.int .u64 ((t.n : Int) + (c : Int)))).heap.size := by
          have := (Array.getElem?_eq_some_iff.1 U2.out).1; omega
        have W1 : Hid (w2.heap[w.heap.size]? = some (.cells (hcells t.g (overlay t.r (t.n % 64) c (fun i => p (m + i))) ((t.n : Int) + (c : Int))) 73)) := by rw [HB2.out.block _ (by omega), heap_setCell_row _ V1.out, hc_set_n]; exact rfl
        have W2 : Hid (w2.heap[w.heap.size + 1]? = some (.cells (hcells (fun _ => 0) (fun _ => 0) 0) 73)) := by rw [HB2.out.block _ (by omega)]; exact U2.out
        have W3 : Hid (Below w.heap.size w w2) := U3.out.trans (HB2.out.mono (by omega))
        clear hw2 U2 U3 HB2
        go_wp2_with (first
          | (refine isStore 73 (.tmp 2) (.tmp 33) rfl ?_; go_must (refine wpList_store_row rfl 73 (.tmp 2) (.tmp 33) rfl w.heap.size _ rfl rfl 73 _ W1.out (size27' _ _ _) (by simp only [hc_size]) (hc_one _ _ _) ?_; simp only [Act.put])))
        go_roundw
        case rel =>
          refine ⟨m + c, o2, by omega, ?_, by simp [Nat.sub_sub], ?_, ?_, ?_⟩
          · intro h
            rw [HO2.out, HO'.out hlt, if_neg (by omega), Nat.add_assoc]
          · rw [addN_add, ← HT.out, addN_full t _ c hfull hc4]
            exact setRow_heap _ _ _ _ _ _ W1.out
          · rw [setRow_other _ _ _ _ (by omega)]; exact W2.out
          · exact below_setRow W3.out (Nat.le_refl _) _
        case measure => simp; omega
      · have t64 : ((t.n : Int) % 64 + (c : Int) == 64) = false := by simp; omega
        go_wp2_with (first
          | (refine isCopy (.tmp 16) (.tmp 17) rfl ?_; go_must (refine wpList_copy_own rfl (.tmp 16) (.tmp 17) 24 24 rfl 5 Tryz.underlying24 size5 w.heap.size (8 + t.n % 64) (64 - t.n % 64) _ ⟨b, o, none⟩ (len - m) (cap - m) rfl rfl (hcells t.g t.r t.n) 73 D1'.out (chunk c (fun i => p (m + i))) (by rw [chunk_len]; exact HC.out) hsrc.out (by rw [chunk_len, hc_size]; omega) (chunk_one _ _) ?_; rw [copied _ _ _ _ _ _ (by omega), chunk_len]; simp only [Act.put, List.setIfInBounds_toArray, List.set_cons_succ, List.set_cons_zero]; obtain ⟨V, hV⟩ : ∃ V, V = wr.setRow w.heap.size (hcells t.g (overlay t.r (t.n % 64) c (fun i => p (m + i))) t.n) := ⟨_, rfl⟩; rw [← hV]; have V1 : Hid (V.heap[w.heap.size]? = some (.cells (hcells t.g (overlay t.r (t.n % 64) c (fun i => p (m + i))) t.n) 73)) := (by rw [hV]; exact setRow_heap _ _ _ _ _ _ D1'.out); have V2 : Hid (V.heap[w.heap.size + 1]? = some (.cells (hcells (fun _ => 0) (fun _ => 0) 0) 73)) := (by rw [hV, setRow_other _ _ _ _ (by omega)]; exact D2.out); have V3 : Hid (Below w.heap.size w V) := (by rw [hV]; exact below_setRow D3.out (Nat.le_refl _) _); have v4 : V.cell? ⟨w.heap.size, 72, none⟩ = some (.int .u64 (t.n : Int)) := (by rw [cell_of_row _ _ _ _ _ _ V1.out]; exact hc_n _ _ _); have v5 : V.frozen? ⟨w.heap.size, 72, none⟩ = false := frozen_of_row V1.out; clear hV))
          | fail)
        go_roundw
        case rel =>
          refine ⟨m + c, o2, by omega, ?_, by simp [Nat.sub_sub], ?_, ?_, ?_⟩
          · intro h
            rw [HO2.out, HO'.out hlt, if_neg (by omega), Nat.add_assoc]
          · rw [addN_add, ← HT.out, addN_part t _ c (by omega), heap_setCell_row _ V1.out, hc_set_n]
            rfl
          · rw [Below.heap_setCell _ _ _ _ (by simp)]; exact V2.out
          · exact V3.out.setCell (by simp) _
        case measure => simp; omega
    · go_wp2_with (first
        | (refine isLoad 73 (.tmp 2) rfl ?_; refine wpList_load_row rfl 73 (.tmp 2) rfl w.heap.size rfl 73 _ (0, 0) _ D1.out Tryz.underlying73 rfl (size27' _ _ _) ?_; simp only [Act.put, List.setIfInBounds_toArray, List.set_cons_succ, List.set_cons_zero])
        | (refine isStore 73 (.tmp 4) (.tmp 34) rfl ?_; refine wpList_store_row rfl 73 (.tmp 4) (.tmp 34) rfl (w.heap.size + 1) _ rfl rfl 73 _ D2.out (size27' _ _ _) (by simp only [HS.cells, hc_size]) (hc_one _ _ _) ?_))
      refine bodyPost_ret (v := .agg (addN s p m).cells) (results_cell_row Tryz.results60 _ _ (w.heap.size + 1) 73 _ (0, 0) _ rfl (setRow_heap _ _ _ _ _ _ D2.out) Tryz.underlying73 rfl (size27' _ _ _)) rfl ⟨?_, ?_⟩
      · rw [show m = len by omega]
      · exact below_setRow D3.out (by omega) _

set_option maxHeartbeats 400000 in
/-- Nothing is taken in. -/
theorem add_none (s : HS) (a : Option Addr) (cap : Nat) (w : World) :
    Calls Tryz.prog 60 #[.agg s.cells, .slice a 0 cap] w fun e w' => e = .returned (.agg s.cells) ∧ Below w.heap.size w w' := by
  have z27 := zero27
  have hz2 := heap2 w (.cells s.cells 73) (.cells (hcells (fun _ => 0) (fun _ => 0) 0) 73)
  have HZ : Hid (_) := hz2
  clear hz2
  go_enter Tryz.func60, Tryz.ntmps60
  go_wp2
  clear z27
  have hVB : Below w.heap.size w ((w.alloc (.cells s.cells 73)).alloc (.cells (hcells (fun _ => 0) (fun _ => 0) 0) 73)) := ((Below.refl _ _).alloc (Nat.le_refl _) _).alloc (by simp) _
  have HV : Hid (_) := hVB
  clear hVB
  go_loopw [1] (fun v W => v = .slice a 0 cap ∧ W.heap[w.heap.size]? = some (.cells s.cells 73) ∧ W.heap[w.heap.size + 1]? = some (.cells (hcells (fun _ => 0) (fun _ => 0) 0) 73) ∧ Below w.heap.size w W) (fun _ _ => 0)
  case atStart => exact ⟨rfl, HZ.out.1, HZ.out.2, HV.out⟩
  case round =>
    obtain ⟨rfl, h1, h2, h3⟩ := hrel
    have D1 : Hid (_) := h1
    have D2 : Hid (_) := h2
    have D3 : Hid (_) := h3
    clear h1 h2 h3 HZ HV
    go_wp2_with (first
        | (refine isLoad 73 (.tmp 2) rfl ?_; refine wpList_load_row rfl 73 (.tmp 2) rfl w.heap.size rfl 73 _ (0, 0) _ D1.out Tryz.underlying73 rfl (size27' _ _ _) ?_; simp only [Act.put, List.setIfInBounds_toArray, List.set_cons_succ, List.set_cons_zero])
        | (refine isStore 73 (.tmp 4) (.tmp 34) rfl ?_; refine wpList_store_row rfl 73 (.tmp 4) (.tmp 34) rfl (w.heap.size + 1) _ rfl rfl 73 _ D2.out (size27' _ _ _) (by simp only [HS.cells, hc_size]) (hc_one _ _ _) ?_))
    refine bodyPost_ret (v := .agg s.cells) (results_cell_row Tryz.results60 _ _ (w.heap.size + 1) 73 _ (0, 0) _ rfl (setRow_heap _ _ _ _ _ _ D2.out) Tryz.underlying73 rfl (size27' _ _ _)) rfl ⟨rfl, ?_⟩
    exact below_setRow D3.out (by omega) _
end Go.Proofs.YteekoabgbjbabaaGreatDoor

namespace Go.Proofs.YteekoabgbjbabaaGreatDoor
open Go.RowKit

/-- A []byte of len bytes p. -/
structure SliceB (w : World) (v : Value) (len : Nat) (p : Nat → Int) : Prop where
  shape : ∃ a cap, v = .slice a len cap ∧ len ≤ cap ∧ cap < 9223372036854775808 ∧ (0 < len → ∃ b off, a = some ⟨b, off, none⟩ ∧ b < w.heap.size ∧ ∀ j, j < len → w.cell? ⟨b, off + j, none⟩ = some (.int .u8 (p j)))
  bytes : ∀ j, j < len → 0 ≤ p j ∧ p j < 256
theorem SliceB.below {w w' : World} {v : Value} {len : Nat} {p : Nat → Int} (h : SliceB w v len p) (hb : Below w.heap.size w w') : SliceB w' v len p := by
  obtain ⟨⟨a, cap, e, h1, h2, h3⟩, hp⟩ := h
  refine ⟨⟨a, cap, e, h1, h2, fun h0 => ?_⟩, hp⟩
  obtain ⟨b, off, e1, e2, e3⟩ := h3 h0
  exact ⟨b, off, e1, Nat.lt_of_lt_of_le e2 hb.size, fun j hj => by rw [below_cell hb e2]; exact e3 j hj⟩

theorem add_any (s : HS) (v : Value) (len : Nat) (p : Nat → Int) (w : World) (hG : Glob w) (hs : s.ok) (hbig : s.n + len < 1152921504606846976) (hv : SliceB w v len p) :
    Calls Tryz.prog 60 #[.agg s.cells, v] w fun e w' => e = .returned (.agg (addN s p len).cells) ∧ Below w.heap.size w w' := by
  obtain ⟨⟨a, cap, rfl, h1, h2, h3⟩, hp⟩ := hv
  by_cases h0 : 0 < len
  · obtain ⟨b, off, rfl, e2, e3⟩ := h3 h0
    exact add_some s b off len cap p w hG hs h1 hbig e2 e3 hp
  · obtain rfl : len = 0 := by omega
    exact add_none s a cap w

set_option maxHeartbeats 400000 in
theorem sum_any (v : Value) (len : Nat) (p : Nat → Int) (w : World) (hG : Glob w) (hbig : len < 1152921504606846976) (hv : SliceB w v len p) :
    Calls Tryz.prog 71 #[v] w fun e w' => e = .returned (.agg (tab8 32 (sumD (addN HS.new p len)))) ∧ Below w.heap.size w w' := by
  have HG : Hid (_) := hG
  have HV : Hid (_) := hv
  have HB : Hid (_) := hbig
  clear hG hv hbig
  have z28 := zero28
  go_enter Tryz.func71, Tryz.ntmps71
  go_wp2_with fail
  clear z28
  have b0 : Hid (Below w.heap.size w (w.alloc (.cells (tab8 32 (fun _ => 0)) 54))) := (Below.refl _ _).alloc (Nat.le_refl _) _
  refine (new_any _).mono ?_
  rintro e w1 ⟨rfl, hb1⟩
  have B1 : Hid (Below (w.heap.size + 1) (w.alloc (.cells (tab8 32 (fun _ => 0)) 54)) w1) := by
    have hsz : (w.alloc (.cells (tab8 32 (fun _ => 0)) 54)).heap.size = w.heap.size + 1 := by simp
    rw [← hsz]; exact hb1
  clear hb1
  have s1 : Hid (w.heap.size + 1 ≤ w1.heap.size) := by
    show w.heap.size + 1 ≤ w1.heap.size
    have := B1.out.size
    simpa using this
  have c1 : Hid (Below w.heap.size w w1) := b0.out.trans (B1.out.mono (by omega))
  go_wp2_with fail
  refine (add_any HS.new v len p _ (HG.out.below c1.out HG.out.sz) ok_new (by simpa [HS.new] using HB.out) (HV.out.below c1.out)).mono ?_
  rintro e w2 ⟨rfl, hb2⟩
  have B2 : Hid (Below (w.heap.size + 1) w1 w2) := hb2.mono s1.out
  clear hb2
  go_wp2_with fail
  refine (hsum_any _ _ (HG.out.below (c1.out.trans (B2.out.mono (by omega))) HG.out.sz) (ok_addN ok_new HV.out.bytes)).mono ?_
  rintro e w3 ⟨rfl, hb3⟩
  have B3 : Hid (Below (w.heap.size + 1) w2 w3) := hb3.mono (Nat.le_trans s1.out B2.out.size)
  clear hb3
  have r3 : Hid (w3.heap[w.heap.size]? = some (.cells (tab8 32 (fun _ => 0)) 54)) := by
    rw [B3.out.block _ (by omega), B2.out.block _ (by omega), B1.out.block _ (by omega)]; exact heap_alloc_new _ _
  have c3 : Hid (Below w.heap.size w w3) := (c1.out.trans (B2.out.mono (by omega))).trans (B3.out.mono (by omega))
  clear B1 B2 B3 s1 c1 b0 HG HV HB
  go_wp2_with (first
    | (refine isStore 54 (.tmp 2) (.tmp 6) rfl ?_; refine wpList_store_row rfl 54 (.tmp 2) (.tmp 6) rfl w.heap.size _ rfl rfl 54 _ r3.out (size28' _) (by simp only [tab8_size]) (tab8_one _ _) ?_))
  refine bodyPost_ret (v := .agg (tab8 32 (sumD (addN HS.new p len)))) (results_cell_row Tryz.results71 _ _ w.heap.size 54 _ (0, 0) _ rfl (setRow_heap _ _ _ _ _ _ r3.out) Tryz.underlying54 rfl (size28' _)) rfl ⟨rfl, ?_⟩
  exact below_setRow c3.out (Nat.le_refl _) _
end Go.Proofs.YteekoabgbjbabaaGreatDoor
