import Derived.WalkKit
import Derived.WalkSpells
import Derived.Test.YtfhldpdnoaoohaaDoorRows
import Derived.Deep.MidRow
import Derived.Deep.WholeRow
import Derived.BigQuiet
import Derived.BigRegion
import Derived.Deep.QuietTactic
import Derived.Deep.RegionWith
namespace Go.Proofs.YtfhldpdnoaoohaaDoor
open Go.RowKit

/-- A table of n words: the cells. -/
def tab32 (n : Nat) (f : Nat → Int) : Array Value := ((List.range n).map fun i => Value.int .u32 (f i)).toArray
def tab8 (n : Nat) (f : Nat → Int) : Array Value := ((List.range n).map fun i => Value.int .u8 (f i)).toArray
def upd (f : Nat → Int) (k : Nat) (v : Int) : Nat → Int := fun i => if i = k then v else f i

theorem tab32_size (n : Nat) (f : Nat → Int) : (tab32 n f).size = n := by simp [tab32]
theorem tab8_size (n : Nat) (f : Nat → Int) : (tab8 n f).size = n := by simp [tab8]
theorem tab32_get (n : Nat) (f : Nat → Int) (i : Nat) (h : i < n) : (tab32 n f)[i]? = some (.int .u32 (f i)) := by simp [tab32, h]
theorem tab8_get (n : Nat) (f : Nat → Int) (i : Nat) (h : i < n) : (tab8 n f)[i]? = some (.int .u8 (f i)) := by simp [tab8, h]
theorem tab32_set (n : Nat) (f : Nat → Int) (k : Nat) (v : Int) : (tab32 n f).setIfInBounds k (.int .u32 v) = tab32 n (upd f k v) := by
  apply Array.ext_getElem?
  intro i
  simp only [tab32, upd, Array.getElem?_setIfInBounds, List.size_toArray, List.length_map, List.length_range, List.getElem?_toArray, List.getElem?_map]
  by_cases h : k = i
  · subst h
    by_cases h' : k < n <;> simp [h']
  · have h2 : ¬ i = k := fun e => h e.symm
    by_cases h' : i < n <;> simp [h, h2, h']
theorem tab8_set (n : Nat) (f : Nat → Int) (k : Nat) (v : Int) : (tab8 n f).setIfInBounds k (.int .u8 v) = tab8 n (upd f k v) := by
  apply Array.ext_getElem?
  intro i
  simp only [tab8, upd, Array.getElem?_setIfInBounds, List.size_toArray, List.length_map, List.length_range, List.getElem?_toArray, List.getElem?_map]
  by_cases h : k = i
  · subst h
    by_cases h' : k < n <;> simp [h']
  · have h2 : ¬ i = k := fun e => h e.symm
    by_cases h' : i < n <;> simp [h, h2, h']
theorem tab32_congr {n : Nat} {f g : Nat → Int} (h : ∀ i, i < n → f i = g i) : tab32 n f = tab32 n g := by
  unfold tab32
  congr 1
  apply List.map_congr_left
  intro i hi
  rw [h i (List.mem_range.1 hi)]
theorem tab8_congr {n : Nat} {f g : Nat → Int} (h : ∀ i, i < n → f i = g i) : tab8 n f = tab8 n g := by
  unfold tab8
  congr 1
  apply List.map_congr_left
  intro i hi
  rw [h i (List.mem_range.1 hi)]
theorem tab32_one (n : Nat) (f : Nat → Int) : (tab32 n f).all (·.oneCell') = true := by
  simp [tab32, Value.oneCell']
theorem tab8_one (n : Nat) (f : Nat → Int) : (tab8 n f).all (·.oneCell') = true := by
  simp [tab8, Value.oneCell']
/-- The first k places of g, noughts behind. -/
def upto (g : Nat → Int) (k : Nat) : Nat → Int := fun i => if i < k then g i else 0
theorem upd_upto (g : Nat → Int) (k : Nat) : upd (upto g k) k (g k) = upto g (k + 1) := by
  funext i
  simp only [upd, upto]
  by_cases h : i = k
  · subst h; simp
  · by_cases h2 : i < k
    · simp [h, h2, show i < k + 1 by omega]
    · simp [h, h2, show ¬ i < k + 1 by omega]
end Go.Proofs.YtfhldpdnoaoohaaDoor

namespace Go.Proofs.YtfhldpdnoaoohaaDoor
open Go.RowKit

/-- x turned to the left by m places. -/
def rotl (x : Int) (m : Nat) : Int := bits .or .u32 (x * 2 ^ m % 4294967296) (x / 2 ^ (32 - m))
/-- x turned to the right by n places. -/
def rotr (x : Int) (n : Nat) : Int := rotl x (32 - n)
def xor32 (x y : Int) : Int := bits .xor .u32 x y
def and32 (x y : Int) : Int := bits .and .u32 x y
def or32 (x y : Int) : Int := bits .or .u32 x y
def add32 (x y : Int) : Int := (x + y) % 4294967296
def sig0 (x : Int) : Int := bits .xor .u32 (bits .xor .u32 (rotr x 7) (rotr x 18)) (x / 8)
def sig1 (x : Int) : Int := bits .xor .u32 (bits .xor .u32 (rotr x 17) (rotr x 19)) (x / 1024)
def bsig0 (x : Int) : Int := bits .xor .u32 (bits .xor .u32 (rotr x 2) (rotr x 13)) (rotr x 22)
def bsig1 (x : Int) : Int := bits .xor .u32 (bits .xor .u32 (rotr x 6) (rotr x 11)) (rotr x 25)

theorem neg_and : ∀ n : Fin 32, bits .and .u64 (IntKind.u64.wrap (-(n.val : Int))) 31 = (((32 - n.val) % 32 : Nat) : Int) := by decide +kernel

set_option maxHeartbeats 400000 in
theorem rot_any (x k : Int) (m : Nat) (w : World) (hm : m ≤ 31) (hk : bits .and .u64 (IntKind.u64.wrap k) 31 = (m : Int)) :
    Calls Tryd.prog 99 #[.int .u32 x, .int .i64 k] w fun e w' => e = .returned (.int .u32 (rotl x m)) ∧ w' = w := by
  have h0 : (0 : Int) ≤ (m : Int) := by omega
  have h1 : (0 : Int) ≤ IntKind.u64.wrap (32 - (m : Int)) := by simp [IntKind.wrap, IntKind.bits, IntKind.signed]; omega
  have h2 : IntKind.u64.wrap (32 - (m : Int)) = 32 - (m : Int) := by simp [IntKind.wrap, IntKind.bits, IntKind.signed]; omega
  have h3 : (32 - (m : Int)).toNat = 32 - m := by omega
  have h4 : min m 32 = m := by omega
  have h5 : min (32 - m) 32 = 32 - m := by omega
  go_enter Tryd.func99, Tryd.ntmps99
  go_wp2
  go_ret
  exact ⟨rfl, rfl⟩

set_option maxHeartbeats 400000 in
theorem turned_any (x : Int) (k : Int) (n : Nat) (w : World) (hk : k = (n : Int)) (h1 : 1 ≤ n) (hn : n ≤ 31) :
    Calls Tryd.prog 97 #[.int .u32 x, .int .i64 k] w fun e w' => e = .returned (.int .u32 (rotr x n)) ∧ w' = w := by
  subst hk
  have hw : IntKind.i64.wrap (-(n : Int)) = -(n : Int) := by simp [IntKind.wrap, IntKind.bits, IntKind.signed]; omega
  have h : bits .and .u64 (IntKind.u64.wrap (-(n : Int))) 31 = ((32 - n : Nat) : Int) := by
    have := neg_and ⟨n, by omega⟩
    rw [this]
    simp only
    rw [Nat.mod_eq_of_lt (by omega)]
  have H : Hid (bits .and .u64 (IntKind.u64.wrap (-(n : Int))) 31 = ((32 - n : Nat) : Int)) := h
  clear h
  go_enter Tryd.func97, Tryd.ntmps97
  go_wp2_with (go_at_call 99; refine (rot_any x _ (32 - n) _ (by omega) H.out).mono ?_; rintro e w' ⟨rfl, rfl⟩)
  go_ret
  exact ⟨rfl, rfl⟩

set_option maxHeartbeats 400000 in
theorem sig0_any (x : Int) (w : World) :
    Calls Tryd.prog 96 #[.int .u32 x] w fun e w' => e = .returned (.int .u32 (sig0 x)) ∧ w' = w := by
  go_enter Tryd.func96, Tryd.ntmps96
  go_wp2_with fail
  refine (turned_any x 7 7 _ rfl (by omega) (by omega)).mono ?_
  rintro e w' ⟨rfl, rfl⟩
  go_wp2_with fail
  refine (turned_any x 18 18 _ rfl (by omega) (by omega)).mono ?_
  rintro e w' ⟨rfl, rfl⟩
  go_wp2_with fail
  go_ret
  exact ⟨rfl, rfl⟩
set_option maxHeartbeats 400000 in
theorem sig1_any (x : Int) (w : World) :
    Calls Tryd.prog 95 #[.int .u32 x] w fun e w' => e = .returned (.int .u32 (sig1 x)) ∧ w' = w := by
  go_enter Tryd.func95, Tryd.ntmps95
  go_wp2_with fail
  refine (turned_any x 17 17 _ rfl (by omega) (by omega)).mono ?_
  rintro e w' ⟨rfl, rfl⟩
  go_wp2_with fail
  refine (turned_any x 19 19 _ rfl (by omega) (by omega)).mono ?_
  rintro e w' ⟨rfl, rfl⟩
  go_wp2_with fail
  go_ret
  exact ⟨rfl, rfl⟩
set_option maxHeartbeats 400000 in
theorem bsig0_any (x : Int) (w : World) :
    Calls Tryd.prog 91 #[.int .u32 x] w fun e w' => e = .returned (.int .u32 (bsig0 x)) ∧ w' = w := by
  go_enter Tryd.func91, Tryd.ntmps91
  go_wp2_with fail
  refine (turned_any x 2 2 _ rfl (by omega) (by omega)).mono ?_
  rintro e w' ⟨rfl, rfl⟩
  go_wp2_with fail
  refine (turned_any x 13 13 _ rfl (by omega) (by omega)).mono ?_
  rintro e w' ⟨rfl, rfl⟩
  go_wp2_with fail
  refine (turned_any x 22 22 _ rfl (by omega) (by omega)).mono ?_
  rintro e w' ⟨rfl, rfl⟩
  go_wp2_with fail
  go_ret
  exact ⟨rfl, rfl⟩
set_option maxHeartbeats 400000 in
theorem bsig1_any (x : Int) (w : World) :
    Calls Tryd.prog 90 #[.int .u32 x] w fun e w' => e = .returned (.int .u32 (bsig1 x)) ∧ w' = w := by
  go_enter Tryd.func90, Tryd.ntmps90
  go_wp2_with fail
  refine (turned_any x 6 6 _ rfl (by omega) (by omega)).mono ?_
  rintro e w' ⟨rfl, rfl⟩
  go_wp2_with fail
  refine (turned_any x 11 11 _ rfl (by omega) (by omega)).mono ?_
  rintro e w' ⟨rfl, rfl⟩
  go_wp2_with fail
  refine (turned_any x 25 25 _ rfl (by omega) (by omega)).mono ?_
  rintro e w' ⟨rfl, rfl⟩
  go_wp2_with fail
  go_ret
  exact ⟨rfl, rfl⟩

end Go.Proofs.YtfhldpdnoaoohaaDoor

namespace Go.Proofs.YtfhldpdnoaoohaaDoor
open Go.RowKit

theorem z8 : #[Value.int IntKind.u32 0, Value.int IntKind.u32 0, Value.int IntKind.u32 0, Value.int IntKind.u32 0,
            Value.int IntKind.u32 0, Value.int IntKind.u32 0, Value.int IntKind.u32 0, Value.int IntKind.u32 0] = tab32 8 (upto (fun _ => 0) 0) := by kernel_rfl

theorem size23 : (Tryd.prog.info? 58).map (·.size) = some 8 := by kernel_rfl
theorem size23' (f : Nat → Int) : (Tryd.prog.info? 58).map (·.size) = some (tab32 8 f).size := by rw [tab32_size]; exact size23

theorem below_setRow {B : Nat} {a w : World} (h : Below B a w) {g : Nat} (hg : B ≤ g) (c : Array Value) : Below B a (w.setRow g c) :=
  h.trans ⟨rfl, rfl, rfl, by simp, fun k hk => setRow_other w g k c (by omega)⟩
theorem below_drewN {B : Nat} {a w : World} (h : Below B a w) (n : Nat) : Below B a (w.drewN n) := ⟨h.os, h.tape, h.output, h.size, h.block⟩

theorem heap3 (w : World) (A B C : Obj) (n : Nat) : ((((w.alloc A).alloc B).alloc C).drewN n).heap[w.heap.size]? = some A ∧ ((((w.alloc A).alloc B).alloc C).drewN n).heap[w.heap.size + 1]? = some B ∧ ((((w.alloc A).alloc B).alloc C).drewN n).heap[w.heap.size + 2]? = some C := by
  have hs : ∀ (v : World) (o : Obj), (v.alloc o).heap = v.heap.push o := fun _ _ => rfl
  simp only [World.heap_drewN, hs, Array.getElem?_push, Array.size_push]
  refine ⟨?_, ?_, ?_⟩
  · rw [if_neg (by omega), if_neg (by omega), if_pos trivial]
  · rw [if_neg (by omega), if_pos trivial]
  · rw [if_pos trivial]
theorem below3 (w : World) (A B C : Obj) (n : Nat) : Below w.heap.size w ((((w.alloc A).alloc B).alloc C).drewN n) :=
  below_drewN ((((Below.refl _ _).alloc (Nat.le_refl _) _).alloc (by simp) _).alloc (by simp; omega) _) n

theorem setTop3 (w : World) (A B : Obj) (c : Array Value) (t : TypeId) (k : Nat) (v : Value) (n : Nat) :
    ((((w.alloc A).alloc B).alloc (.cells c t)).drewN n).setCell ⟨w.heap.size + 2, k, none⟩ v = (((w.alloc A).alloc B).alloc (.cells (c.setIfInBounds k v) t)).drewN n := by
  have h := World.setCell_alloc_at (w := (w.alloc A).alloc B) c t (w.heap.size + 2) k v (by simp)
  show ((((w.alloc A).alloc B).alloc (.cells c t)).setCell ⟨w.heap.size + 2, k, none⟩ v).drewN n = _
  rw [h]

set_option maxHeartbeats 400000 in
theorem state_any (c : Array Value) (g H : Nat → Int) (w : World) (hz : 1 < w.heap.size)
    (hH : ∀ i : Nat, i < 8 → w.cell? ⟨0, i, none⟩ = some (.int .u32 (H i)))
    (hg : ∀ i : Nat, i < 8 → c[i]? = some (.int .u32 (g i))) :
    Calls Tryd.prog 66 #[.agg c] w fun e w' => e = .returned (.agg (tab32 8 fun i => (H i + g i) % 4294967296)) ∧ Below w.heap.size w w' := by
  go_enter Tryd.func66, Tryd.ntmps66
  go_wp2
  rw [show w.heap.size + 1 + 1 = w.heap.size + 2 from rfl]
  go_loopw [5] (fun i W => ∃ k n : Nat, k ≤ 8 ∧ i = .int .i64 k ∧ W = (((w.alloc (.cells c 62)).alloc (.cells (tab32 8 (upto (fun _ => 0) 0)) 58)).alloc (.cells (tab32 8 (upto (fun i => (H i + g i) % 4294967296) k)) 58)).drewN n) (fun i _ => 8 - (intOf i).toNat)
  case atStart => exact ⟨0, 0, by omega, rfl, by rw [z8]; rfl⟩
  case round =>
    obtain ⟨k, n, hk, rfl, rfl⟩ := hrel
    by_cases hlt : k < 8
    · have hz0 : 0 < w.heap.size := by omega
      have h1 := hH k hlt
      have h2 := hg k hlt
      have h3 := tab32_get 8 (upto (fun i => (H i + g i) % 4294967296) k) k hlt
      clear hH hg
      go_wp2
      go_region
      go_wp2
      refine ⟨⟨k + 1, n + 1, by omega, by go_num, ?_⟩, by simp [intOf]; omega⟩
      rw [setTop3, tab32_set, upd_upto (fun i => (H i + g i) % 4294967296) k]
    · have hb := heap3 w (.cells c 62) (.cells (tab32 8 (upto (fun _ => 0) 0)) 58) (.cells (tab32 8 (upto (fun i => (H i + g i) % 4294967296) k)) 58) n
      have hbl := below3 w (.cells c 62) (.cells (tab32 8 (upto (fun _ => 0) 0)) 58) (.cells (tab32 8 (upto (fun i => (H i + g i) % 4294967296) k)) 58) n
      have HB : Hid (_) := hb
      have HL : Hid (_) := hbl
      clear hb hbl hH hg
      go_wp2_with (first
        | refine wpList_load_row rfl 58 _ rfl _ rfl _ _ (0, 0) _ HB.out.2.2 Tryd.underlying58 rfl (size23' _) ?_
        | refine wpList_store_row rfl 58 _ _ rfl _ _ rfl rfl _ _ HB.out.2.1 (size23' _) (by simp only [tab32_size]) (tab32_one _ _) ?_)
      refine bodyPost_ret (v := .agg (tab32 8 (upto (fun i => (H i + g i) % 4294967296) k))) (results_cell_row Tryd.results66 _ _ _ _ _ (0, 0) _ rfl (setRow_heap _ _ _ _ _ _ HB.out.2.1) Tryd.underlying58 rfl (size23' _)) rfl ⟨?_, ?_⟩
      · rw [tab32_congr (n := 8)]
        intro i hi
        simp [upto, show i < k by omega]
      · exact below_setRow HL.out (by omega) _
end Go.Proofs.YtfhldpdnoaoohaaDoor
