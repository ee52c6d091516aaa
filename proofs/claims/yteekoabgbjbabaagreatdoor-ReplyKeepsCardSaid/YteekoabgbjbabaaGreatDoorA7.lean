import Derived.WalkKit
import Derived.WalkSpells
import Derived.Test.YteekoabgbjbabaaGreatDoorRows
import Derived.Deep.MidRow
import Derived.Deep.WholeRow
import Derived.BigQuiet
import Derived.BigRegion
import Derived.Deep.QuietTactic
import Derived.Deep.RegionWith
import Derived.Deep.RegionHeld
namespace Go.Proofs.YteekoabgbjbabaaGreatDoor
open Go.RowKit

/-- A table of n words: the cells. -/
def tab32 (n : Nat) (f : Nat → Int) : Array Value := ((List.range n).map fun i => Value.int .u32 (f i)).toArray
def tab8 (n : Nat) (f : Nat → Int) : Array Value := ((List.range n).map fun i => Value.int .u8 (f i)).toArray
def upd (f : Nat → Int) (k : Nat) (v : Int) : Nat → Int := fun i => if i = k then v else f i

theorem tab32_size (n : Nat) (f : Nat → Int) : (tab32 n f).size = n := by simp [tab32]
theorem tab8_size (n : Nat) (f : Nat → Int) : (tab8 n f).size = n := by simp [tab8]
theorem tab32_get (n : Nat) (f : Nat → Int) (i : Nat) (h : i < n) : (tab32 n f)[i]? = some (.int .u32 (f i)) := by simp [tab32, h]
theorem tab8_get (n : Nat) (f : Nat → Int) (i : Nat) (h : i < n) : (tab8 n f)[i]? = some (.int .u8 (f i)) := by simp [tab8, h]
theorem tab32_set (n : Nat) (f : Nat → Int) (k : Nat) (v : Int) : (tab32 n f).setIfInBounds k (.int .u32 v) = tab32 n (upd f k v) := by
  apply Array.ext_getElem?
  intro i
  simp only [tab32, upd, Array.getElem?_setIfInBounds, List.size_toArray, List.length_map, List.length_range, List.getElem?_toArray, List.getElem?_map]
  by_cases h : k = i
  · subst h
    by_cases h' : k < n <;> simp [h']
  · have h2 : ¬ i = k := fun e => h e.symm
    by_cases h' : i < n <;> simp [h, h2, h']
theorem tab8_set (n : Nat) (f : Nat → Int) (k : Nat) (v : Int) : (tab8 n f).setIfInBounds k (.int .u8 v) = tab8 n (upd f k v) := by
  apply Array.ext_getElem?
  intro i
  simp only [tab8, upd, Array.getElem?_setIfInBounds, List.size_toArray, List.length_map, List.length_range, List.getElem?_toArray, List.getElem?_map]
  by_cases h : k = i
  · subst h
    by_cases h' : k < n <;> simp [h']
  · have h2 : ¬ i = k := fun e => h e.symm
    by_cases h' : i < n <;> simp [h, h2, h']
theorem tab32_congr {n : Nat} {f g : Nat → Int} (h : ∀ i, i < n → f i = g i) : tab32 n f = tab32 n g := by
  unfold tab32
  congr 1
  apply List.map_congr_left
  intro i hi
  rw [h i (List.mem_range.1 hi)]
theorem tab8_congr {n : Nat} {f g : Nat → Int} (h : ∀ i, i < n → f i = g i) : tab8 n f = tab8 n g := by
  unfold tab8
  congr 1
  apply List.map_congr_left
  intro i hi
  rw [h i (List.mem_range.1 hi)]
theorem tab32_one (n : Nat) (f : Nat → Int) : (tab32 n f).all (·.oneCell') = true := by
  simp [tab32, Value.oneCell']
theorem tab8_one (n : Nat) (f : Nat → Int) : (tab8 n f).all (·.oneCell') = true := by
  simp [tab8, Value.oneCell']
/-- The first k places of g, noughts behind. -/
def upto (g : Nat → Int) (k : Nat) : Nat → Int := fun i => if i < k then g i else 0
theorem upd_upto (g : Nat → Int) (k : Nat) : upd (upto g k) k (g k) = upto g (k + 1) := by
  funext i
  simp only [upd, upto]
  by_cases h : i = k
  · subst h; simp
  · by_cases h2 : i < k
    · simp [h, h2, show i < k + 1 by omega]
    · simp [h, h2, show ¬ i < k + 1 by omega]
end Go.Proofs.YteekoabgbjbabaaGreatDoor

namespace Go.Proofs.YteekoabgbjbabaaGreatDoor
open Go.RowKit

/-- x turned to the left by m places. -/
def rotl (x : Int) (m : Nat) : Int := bits .or .u32 (x * 2 ^ m % 4294967296) (x / 2 ^ (32 - m))
/-- x turned to the right by n places. -/
def rotr (x : Int) (n : Nat) : Int := rotl x (32 - n)
def sig0 (x : Int) : Int := bits .xor .u32 (bits .xor .u32 (rotr x 7) (rotr x 18)) (x / 8)
def sig1 (x : Int) : Int := bits .xor .u32 (bits .xor .u32 (rotr x 17) (rotr x 19)) (x / 1024)
def bsig0 (x : Int) : Int := bits .xor .u32 (bits .xor .u32 (rotr x 2) (rotr x 13)) (rotr x 22)
def bsig1 (x : Int) : Int := bits .xor .u32 (bits .xor .u32 (rotr x 6) (rotr x 11)) (rotr x 25)

theorem neg_and : ∀ n : Fin 32, bits .and .u64 (IntKind.u64.wrap (-(n.val : Int))) 31 = (((32 - n.val) % 32 : Nat) : Int) := by decide +kernel

set_option maxHeartbeats 400000 in
theorem rot_any (x k : Int) (m : Nat) (w : World) (hm : m ≤ 31) (hk : bits .and .u64 (IntKind.u64.wrap k) 31 = (m : Int)) :
    Calls Tryz.prog 111 #[.int .u32 x, .int .i64 k] w fun e w' => e = .returned (.int .u32 (rotl x m)) ∧ w' = w := by
  have h0 : (0 : Int) ≤ (m : Int) := by omega
  have h1 : (0 : Int) ≤ IntKind.u64.wrap (32 - (m : Int)) := by simp [IntKind.wrap, IntKind.bits, IntKind.signed]; omega
  have h2 : IntKind.u64.wrap (32 - (m : Int)) = 32 - (m : Int) := by simp [IntKind.wrap, IntKind.bits, IntKind.signed]; omega
  have h3 : (32 - (m : Int)).toNat = 32 - m := by omega
  have h4 : min m 32 = m := by omega
  have h5 : min (32 - m) 32 = 32 - m := by omega
  go_enter Tryz.func111, Tryz.ntmps111
  go_wp2
  go_ret
  exact ⟨rfl, rfl⟩

set_option maxHeartbeats 400000 in
theorem turned_any (x : Int) (k : Int) (n : Nat) (w : World) (hk : k = (n : Int)) (h1 : 1 ≤ n) (hn : n ≤ 31) :
    Calls Tryz.prog 108 #[.int .u32 x, .int .i64 k] w fun e w' => e = .returned (.int .u32 (rotr x n)) ∧ w' = w := by
  subst hk
  have hw : IntKind.i64.wrap (-(n : Int)) = -(n : Int) := by simp [IntKind.wrap, IntKind.bits, IntKind.signed]; omega
  have h : bits .and .u64 (IntKind.u64.wrap (-(n : Int))) 31 = ((32 - n : Nat) : Int) := by
    have := neg_and ⟨n, by omega⟩
    rw [this]
    simp only
    rw [Nat.mod_eq_of_lt (by omega)]
  have H : Hid (bits .and .u64 (IntKind.u64.wrap (-(n : Int))) 31 = ((32 - n : Nat) : Int)) := h
  clear h
  go_enter Tryz.func108, Tryz.ntmps108
  go_wp2_with (go_at_call 111; refine (rot_any x _ (32 - n) _ (by omega) H.out).mono ?_; rintro e w' ⟨rfl, rfl⟩)
  go_ret
  exact ⟨rfl, rfl⟩

set_option maxHeartbeats 400000 in
theorem sig0_any (x : Int) (w : World) :
    Calls Tryz.prog 107 #[.int .u32 x] w fun e w' => e = .returned (.int .u32 (sig0 x)) ∧ w' = w := by
  go_enter Tryz.func107, Tryz.ntmps107
  go_wp2_with fail
  refine (turned_any x 7 7 _ rfl (by omega) (by omega)).mono ?_
  rintro e w' ⟨rfl, rfl⟩
  go_wp2_with fail
  refine (turned_any x 18 18 _ rfl (by omega) (by omega)).mono ?_
  rintro e w' ⟨rfl, rfl⟩
  go_wp2_with fail
  go_ret
  exact ⟨rfl, rfl⟩
set_option maxHeartbeats 400000 in
theorem sig1_any (x : Int) (w : World) :
    Calls Tryz.prog 106 #[.int .u32 x] w fun e w' => e = .returned (.int .u32 (sig1 x)) ∧ w' = w := by
  go_enter Tryz.func106, Tryz.ntmps106
  go_wp2_with fail
  refine (turned_any x 17 17 _ rfl (by omega) (by omega)).mono ?_
  rintro e w' ⟨rfl, rfl⟩
  go_wp2_with fail
  refine (turned_any x 19 19 _ rfl (by omega) (by omega)).mono ?_
  rintro e w' ⟨rfl, rfl⟩
  go_wp2_with fail
  go_ret
  exact ⟨rfl, rfl⟩
set_option maxHeartbeats 400000 in
theorem bsig0_any (x : Int) (w : World) :
    Calls Tryz.prog 100 #[.int .u32 x] w fun e w' => e = .returned (.int .u32 (bsig0 x)) ∧ w' = w := by
  go_enter Tryz.func100, Tryz.ntmps100
  go_wp2_with fail
  refine (turned_any x 2 2 _ rfl (by omega) (by omega)).mono ?_
  rintro e w' ⟨rfl, rfl⟩
  go_wp2_with fail
  refine (turned_any x 13 13 _ rfl (by omega) (by omega)).mono ?_
  rintro e w' ⟨rfl, rfl⟩
  go_wp2_with fail
  refine (turned_any x 22 22 _ rfl (by omega) (by omega)).mono ?_
  rintro e w' ⟨rfl, rfl⟩
  go_wp2_with fail
  go_ret
  exact ⟨rfl, rfl⟩
set_option maxHeartbeats 400000 in
theorem bsig1_any (x : Int) (w : World) :
    Calls Tryz.prog 99 #[.int .u32 x] w fun e w' => e = .returned (.int .u32 (bsig1 x)) ∧ w' = w := by
  go_enter Tryz.func99, Tryz.ntmps99
  go_wp2_with fail
  refine (turned_any x 6 6 _ rfl (by omega) (by omega)).mono ?_
  rintro e w' ⟨rfl, rfl⟩
  go_wp2_with fail
  refine (turned_any x 11 11 _ rfl (by omega) (by omega)).mono ?_
  rintro e w' ⟨rfl, rfl⟩
  go_wp2_with fail
  refine (turned_any x 25 25 _ rfl (by omega) (by omega)).mono ?_
  rintro e w' ⟨rfl, rfl⟩
  go_wp2_with fail
  go_ret
  exact ⟨rfl, rfl⟩

end Go.Proofs.YteekoabgbjbabaaGreatDoor

namespace Go.Proofs.YteekoabgbjbabaaGreatDoor
open Go.RowKit

theorem z8 : #[Value.int IntKind.u32 0, Value.int IntKind.u32 0, Value.int IntKind.u32 0, Value.int IntKind.u32 0,
            Value.int IntKind.u32 0, Value.int IntKind.u32 0, Value.int IntKind.u32 0, Value.int IntKind.u32 0] = tab32 8 (upto (fun _ => 0) 0) := by kernel_rfl

theorem size23 : (Tryz.prog.info? 69).map (·.size) = some 8 := by kernel_rfl
theorem size23' (f : Nat → Int) : (Tryz.prog.info? 69).map (·.size) = some (tab32 8 f).size := by rw [tab32_size]; exact size23

theorem below_setRow {B : Nat} {a w : World} (h : Below B a w) {g : Nat} (hg : B ≤ g) (c : Array Value) : Below B a (w.setRow g c) :=
  h.trans ⟨rfl, rfl, rfl, by simp, fun k hk => setRow_other w g k c (by omega)⟩
theorem below_drewN {B : Nat} {a w : World} (h : Below B a w) (n : Nat) : Below B a (w.drewN n) := ⟨h.os, h.tape, h.output, h.size, h.block⟩

theorem heap3 (w : World) (A B C : Obj) (n : Nat) : ((((w.alloc A).alloc B).alloc C).drewN n).heap[w.heap.size]? = some A ∧ ((((w.alloc A).alloc B).alloc C).drewN n).heap[w.heap.size + 1]? = some B ∧ ((((w.alloc A).alloc B).alloc C).drewN n).heap[w.heap.size + 2]? = some C := by
  have hs : ∀ (v : World) (o : Obj), (v.alloc o).heap = v.heap.push o := fun _ _ => rfl
  simp only [World.heap_drewN, hs, Array.getElem?_push, Array.size_push]
  refine ⟨?_, ?_, ?_⟩
  · rw [if_neg (by omega), if_neg (by omega), if_pos trivial]
  · rw [if_neg (by omega), if_pos trivial]
  · rw [if_pos trivial]
theorem below3 (w : World) (A B C : Obj) (n : Nat) : Below w.heap.size w ((((w.alloc A).alloc B).alloc C).drewN n) :=
  below_drewN ((((Below.refl _ _).alloc (Nat.le_refl _) _).alloc (by simp) _).alloc (by simp; omega) _) n

theorem setTop3 (w : World) (A B : Obj) (c : Array Value) (t : TypeId) (k : Nat) (v : Value) (n : Nat) :
    ((((w.alloc A).alloc B).alloc (.cells c t)).drewN n).setCell ⟨w.heap.size + 2, k, none⟩ v = (((w.alloc A).alloc B).alloc (.cells (c.setIfInBounds k v) t)).drewN n := by
  have h := World.setCell_alloc_at (w := (w.alloc A).alloc B) c t (w.heap.size + 2) k v (by simp)
  show ((((w.alloc A).alloc B).alloc (.cells c t)).setCell ⟨w.heap.size + 2, k, none⟩ v).drewN n = _
  rw [h]

set_option maxHeartbeats 400000 in
theorem state_any (c : Array Value) (g H : Nat → Int) (w : World) (hz : 1 < w.heap.size)
    (hH : ∀ i : Nat, i < 8 → w.cell? ⟨0, i, none⟩ = some (.int .u32 (H i)))
    (hg : ∀ i : Nat, i < 8 → c[i]? = some (.int .u32 (g i))) :
    Calls Tryz.prog 84 #[.agg c] w fun e w' => e = .returned (.agg (tab32 8 fun i => (H i + g i) % 4294967296)) ∧ Below w.heap.size w w' := by
  go_enter Tryz.func84, Tryz.ntmps84
  go_wp2
  rw [show w.heap.size + 1 + 1 = w.heap.size + 2 from rfl]
  go_loopw [5] (fun i W => ∃ k n : Nat, k ≤ 8 ∧ i = .int .i64 k ∧ W = (((w.alloc (.cells c 73)).alloc (.cells (tab32 8 (upto (fun _ => 0) 0)) 69)).alloc (.cells (tab32 8 (upto (fun i => (H i + g i) % 4294967296) k)) 69)).drewN n) (fun i _ => 8 - (intOf i).toNat)
  case atStart => exact ⟨0, 0, by omega, rfl, by rw [z8]; rfl⟩
  case round =>
    obtain ⟨k, n, hk, rfl, rfl⟩ := hrel
    by_cases hlt : k < 8
    · have hz0 : 0 < w.heap.size := by omega
      have hz1 : 0 < w.heap.size := by omega
      have hz2 : 0 ≤ w.heap.size := by omega
      have hz3 : 0 < w.heap.size + 1 := by omega
      have hz4 : 0 < w.heap.size + 2 := by omega
      have h1 := hH k hlt
      have h2 := hg k hlt
      have h3 := tab32_get 8 (upto (fun i => (H i + g i) % 4294967296) k) k hlt
      clear hH hg
      go_wp2
      go_region
      go_wp2
      refine ⟨⟨k + 1, n + 1, by omega, by go_num, ?_⟩, by simp [intOf]; omega⟩
      rw [setTop3, tab32_set, upd_upto (fun i => (H i + g i) % 4294967296) k]
    · have hb := heap3 w (.cells c 73) (.cells (tab32 8 (upto (fun _ => 0) 0)) 69) (.cells (tab32 8 (upto (fun i => (H i + g i) % 4294967296) k)) 69) n
      have hbl := below3 w (.cells c 73) (.cells (tab32 8 (upto (fun _ => 0) 0)) 69) (.cells (tab32 8 (upto (fun i => (H i + g i) % 4294967296) k)) 69) n
      have HB : Hid (_) := hb
      have HL : Hid (_) := hbl
      clear hb hbl hH hg
      go_wp2_with (first
        | refine wpList_load_row rfl 69 _ rfl _ rfl _ _ (0, 0) _ HB.out.2.2 Tryz.underlying69 rfl (size23' _) ?_
        | refine wpList_store_row rfl 69 _ _ rfl _ _ rfl rfl _ _ HB.out.2.1 (size23' _) (by simp only [tab32_size]) (tab32_one _ _) ?_)
      refine bodyPost_ret (v := .agg (tab32 8 (upto (fun i => (H i + g i) % 4294967296) k))) (results_cell_row Tryz.results84 _ _ _ _ _ (0, 0) _ rfl (setRow_heap _ _ _ _ _ _ HB.out.2.1) Tryz.underlying69 rfl (size23' _)) rfl ⟨?_, ?_⟩
      · rw [tab32_congr (n := 8)]
        intro i hi
        simp [upto, show i < k by omega]
      · exact below_setRow HL.out (by omega) _
end Go.Proofs.YteekoabgbjbabaaGreatDoor

namespace Go.Proofs.YteekoabgbjbabaaGreatDoor
open Go.RowKit

theorem size47 : (Tryz.prog.info? 119).map (·.size) = some 64 := by kernel_rfl
theorem size47' (f : Nat → Int) : (Tryz.prog.info? 119).map (·.size) = some (tab32 64 f).size := by rw [tab32_size]; exact size47
theorem size24 : (Tryz.prog.info? 70).map (·.size) = some 64 := by kernel_rfl
theorem size24' (f : Nat → Int) : (Tryz.prog.info? 70).map (·.size) = some (tab8 64 f).size := by rw [tab8_size]; exact size24
/-- The words of the bytes b, k bytes of them taken in. -/
def sch1 (b : Nat → Int) : Nat → Nat → Int
  | 0 => fun _ => 0
  | k + 1 => upd (sch1 b k) (k / 4) (bits .or .u32 (sch1 b k (k / 4) * 256 % 4294967296) (b k))
/-- One word more. -/
def nextW (f : Nat → Int) (t : Nat) : Int := (((sig1 (f (t - 2)) + f (t - 7)) % 4294967296 + sig0 (f (t - 15))) % 4294967296 + f (t - 16)) % 4294967296
def sch2 (f : Nat → Int) : Nat → Nat → Int
  | 0 => f
  | j + 1 => upd (sch2 f j) (16 + j) (nextW (sch2 f j) (16 + j))
def sched (b : Nat → Int) : Nat → Int := sch2 (sch1 b 64) 48

theorem index24 (b : Nat → Int) (k : Nat) (h : k < 64) (W : World) : (Instr.index 70 (.agg (tab8 64 b)) (.int .i64 (k : Int))).run Tryz.prog W = .ok (.int .u8 (b k)) W := by
  have h1 := tab8_get 64 b k h
  have h2 : (k : Int) < 64 := by omega
  simp [Instr.index, asIntOf, run_underlying Tryz.underlying70, h1, go_sem]
  intro h'
  omega
theorem cell3 (w : World) (A B : Obj) (c : Array Value) (t : TypeId) (n j : Nat) : ((((w.alloc A).alloc B).alloc (.cells c t)).drewN n).cell? ⟨w.heap.size + 2, j, none⟩ = c[j]? := cell_of_row _ _ _ _ _ _ (heap3 w A B (.cells c t) n).2.2
theorem frozen3 (w : World) (A B : Obj) (c : Array Value) (t : TypeId) (n j : Nat) : ((((w.alloc A).alloc B).alloc (.cells c t)).drewN n).frozen? ⟨w.heap.size + 2, j, none⟩ = false := by
  have h := World.frozen?_alloc_at (w := (w.alloc A).alloc B) c t (w.heap.size + 2) j (by simp)
  exact h
theorem keepCell {V : World} {b i j : Nat} {v u : Value} (hij : ¬ i = j) (h : V.cell? ⟨b, j, none⟩ = some u) : (V.setCell ⟨b, i, none⟩ v).drew.cell? ⟨b, j, none⟩ = some u := by
  show (V.setCell ⟨b, i, none⟩ v).cell? ⟨b, j, none⟩ = some u
  rw [World.cell?_setCell_other V ⟨b, i, none⟩ ⟨b, j, none⟩ v (by intro e; cases e; exact hij rfl)]
  exact h
theorem w3_size (w : World) (A B C : Obj) (n : Nat) : ((((w.alloc A).alloc B).alloc C).drewN n).heap.size = w.heap.size + 3 := by simp

set_option maxHeartbeats 400000 in
theorem schedule_any (b : Nat → Int) (w : World) (hb0 : ∀ i, 0 ≤ b i) (hb1 : ∀ i, b i < 256) :
    Calls Tryz.prog 98 #[.agg (tab8 64 b)] w fun e w' => e = .returned (.agg (tab32 64 (sched b))) ∧ Below w.heap.size w w' := by
  go_enter Tryz.func98, Tryz.ntmps98
  have hb := heap3 w (.cells (tab8 64 b) 70) (.cells (tab32 64 (sch1 b 0)) 119) (.cells (tab32 64 (sch1 b 0)) 119) 0
  have HB : Hid (_) := hb
  clear hb
  go_wp2_with (first
        | refine wpList_load_row rfl 70 _ rfl _ rfl _ _ (0, 0) _ HB.out.1 Tryz.underlying70 rfl (size24' _) ?_)
  rw [show w.heap.size + 1 + 1 = w.heap.size + 2 from rfl]
  clear HB
  go_loopw [8] (fun i W => ∃ k : Nat, k ≤ 64 ∧ i = .int .i64 k ∧ W = (((w.alloc (.cells (tab8 64 b) 70)).alloc (.cells (tab32 64 (sch1 b 0)) 119)).alloc (.cells (tab32 64 (sch1 b k)) 119)).drewN 0) (fun i _ => 64 - (intOf i).toNat)
  case atStart => exact ⟨0, by omega, rfl, by kernel_rfl⟩
  case round =>
    obtain ⟨k, hk, rfl, rfl⟩ := hrel
    by_cases hlt : k < 64
    · have h1 := tab8_get 64 b k hlt
      have h2 := tab32_get 64 (sch1 b k) (k / 4) (by omega)
      have hix := index24 b k hlt
      have g0 := hb0 k
      have g1 := hb1 k
      have g2 : b k % 4294967296 = b k := by omega
      clear hb0 hb1
      go_wp2
      refine ⟨⟨k + 1, by omega, by go_num, ?_⟩, by simp [intOf]; omega⟩
      rw [setTop3, tab32_set]
      rfl
    · have HK : Hid (k = 64) := by show k = 64; omega
      clear hb0 hb1
      go_wp2
      go_loopw [6] (fun i W => ∃ t n : Nat, 16 ≤ t ∧ t ≤ 64 ∧ i = .int .i64 (t : Int) ∧ W = (((w.alloc (.cells (tab8 64 b) 70)).alloc (.cells (tab32 64 (sch1 b 0)) 119)).alloc (.cells (tab32 64 (sch2 (sch1 b k) (t - 16))) 119)).drewN n) (fun i _ => 64 - (intOf i).toNat)
      case atStart => exact ⟨16, 0, by omega, by omega, rfl, rfl⟩
      case round =>
        obtain ⟨t, n, ht, hk, rfl, rfl⟩ := hrel
        by_cases hlt : t < 64
        · have h1 := tab32_get 64 (sch2 (sch1 b k) (t - 16)) (t - 2) (by omega)
          have h2 := tab32_get 64 (sch2 (sch1 b k) (t - 16)) (t - 7) (by omega)
          have h3 := tab32_get 64 (sch2 (sch1 b k) (t - 16)) (t - 15) (by omega)
          have h4 := tab32_get 64 (sch2 (sch1 b k) (t - 16)) (t - 16) (by omega)
          have h5 := tab32_get 64 (sch2 (sch1 b k) (t - 16)) t (by omega)
          have i1 : (16 : Int) ≤ t := by omega
          have i2 : (t : Int) < 64 := by omega
          have n1 : ¬ t = t - 2 := by omega
          have n2 : ¬ t = t - 7 := by omega
          have n3 : ¬ t = t - 15 := by omega
          have n4 : ¬ t = t - 16 := by omega
          have e1 : IntKind.i64.wrap ((t : Int) - 2) = ((t - 2 : Nat) : Int) := by simp [IntKind.wrap, IntKind.bits, IntKind.signed]; omega
          have e2 : IntKind.i64.wrap ((t : Int) - 7) = ((t - 7 : Nat) : Int) := by simp [IntKind.wrap, IntKind.bits, IntKind.signed]; omega
          have e3 : IntKind.i64.wrap ((t : Int) - 15) = ((t - 15 : Nat) : Int) := by simp [IntKind.wrap, IntKind.bits, IntKind.signed]; omega
          have e4 : IntKind.i64.wrap ((t : Int) - 16) = ((t - 16 : Nat) : Int) := by simp [IntKind.wrap, IntKind.bits, IntKind.signed]; omega
          have j2 : ((t - 2 : Nat) : Int) < 64 := by omega
          have j4 : ((t - 7 : Nat) : Int) < 64 := by omega
          have j6 : ((t - 15 : Nat) : Int) < 64 := by omega
          have j8 : ((t - 16 : Nat) : Int) < 64 := by omega
          go_wp2
          obtain ⟨V, hV⟩ : ∃ V, V = (((w.alloc (Obj.cells (tab8 64 b) 70)).alloc (Obj.cells (tab32 64 (sch1 b 0)) 119)).alloc (Obj.cells (tab32 64 (sch2 (sch1 b k) (t - 16))) 119)).drewN n := ⟨_, rfl⟩
          rw [← hV]
          have c1 : V.cell? ⟨w.heap.size + 2, t - 2, none⟩ = some (.int .u32 (sch2 (sch1 b k) (t - 16) (t - 2))) := by rw [hV, cell3]; exact h1
          have c2 : V.cell? ⟨w.heap.size + 2, t - 7, none⟩ = some (.int .u32 (sch2 (sch1 b k) (t - 16) (t - 7))) := by rw [hV, cell3]; exact h2
          have c3 : V.cell? ⟨w.heap.size + 2, t - 15, none⟩ = some (.int .u32 (sch2 (sch1 b k) (t - 16) (t - 15))) := by rw [hV, cell3]; exact h3
          have c4 : V.cell? ⟨w.heap.size + 2, t - 16, none⟩ = some (.int .u32 (sch2 (sch1 b k) (t - 16) (t - 16))) := by rw [hV, cell3]; exact h4
          have c5 : V.cell? ⟨w.heap.size + 2, t, none⟩ = some (.int .u32 (sch2 (sch1 b k) (t - 16) t)) := by rw [hV, cell3]; exact h5
          have c6 : V.frozen? ⟨w.heap.size + 2, t, none⟩ = false := by rw [hV, frozen3]
          have HV : Hid (_) := hV
          clear hV h1 h2 h3 h4 h5
          go_region_held (fun w' => w'.cell? ⟨w.heap.size + 2, t - 2, none⟩ = some (.int .u32 (sch2 (sch1 b k) (t - 16) (t - 2))) ∧ w'.cell? ⟨w.heap.size + 2, t - 7, none⟩ = some (.int .u32 (sch2 (sch1 b k) (t - 16) (t - 7)))
              ∧ w'.cell? ⟨w.heap.size + 2, t - 15, none⟩ = some (.int .u32 (sch2 (sch1 b k) (t - 16) (t - 15))) ∧ w'.cell? ⟨w.heap.size + 2, t - 16, none⟩ = some (.int .u32 (sch2 (sch1 b k) (t - 16) (t - 16)))) (first | exact ⟨keepCell n1 c1, keepCell n2 c2, keepCell n3 c3, keepCell n4 c4⟩ | go_keep)
            (first | (go_at_call 106; refine (sig1_any _ _).mono ?_; rintro e w' ⟨rfl, rfl⟩) | (go_at_call 107; refine (sig0_any _ _).mono ?_; rintro e w' ⟨rfl, rfl⟩))
          all_goals
            go_wp2
            go_roundw
            case rel =>
              refine ⟨t + 1, n + 1, by omega, by omega, by go_num, ?_⟩
              rw [HV.out]
              show World.setCell ((((w.alloc (Obj.cells (tab8 64 b) 70)).alloc (Obj.cells (tab32 64 (sch1 b 0)) 119)).alloc (Obj.cells (tab32 64 (sch2 (sch1 b k) (t - 16))) 119)).drewN (n + 1)) _ _ = _
              rw [setTop3, tab32_set]
              obtain ⟨j, rfl⟩ : ∃ j, t = 16 + j := ⟨t - 16, by omega⟩
              simp only [show 16 + j - 16 = j by omega, show 16 + j + 1 - 16 = j + 1 by omega]
              simp only [sch2, nextW, show 16 + j - 16 = j by omega]
            case measure => simp [intOf]; omega
        · have hb := heap3 w (.cells (tab8 64 b) 70) (.cells (tab32 64 (sch1 b 0)) 119) (.cells (tab32 64 (sch2 (sch1 b k) (t - 16))) 119) n
          have hbl := below3 w (.cells (tab8 64 b) 70) (.cells (tab32 64 (sch1 b 0)) 119) (.cells (tab32 64 (sch2 (sch1 b k) (t - 16))) 119) n
          have HB : Hid (_) := hb
          have HL : Hid (_) := hbl
          clear hb hbl
          go_wp2_with (first
            | refine wpList_load_row rfl 119 _ rfl _ rfl _ _ (0, 0) _ HB.out.2.2 Tryz.underlying119 rfl (size47' _) ?_
            | refine wpList_store_row rfl 119 _ _ rfl _ _ rfl rfl _ _ HB.out.2.1 (size47' _) (by simp only [tab32_size]) (tab32_one _ _) ?_)
          refine bodyPost_ret (v := .agg (tab32 64 (sch2 (sch1 b k) (t - 16)))) (results_cell_row Tryz.results98 _ _ _ _ _ (0, 0) _ rfl (setRow_heap _ _ _ _ _ _ HB.out.2.1) Tryz.underlying119 rfl (size47' _)) rfl ⟨?_, ?_⟩
          · rw [show t = 64 by omega, HK.out]
            rfl
          · exact below_setRow HL.out (by omega) _
end Go.Proofs.YteekoabgbjbabaaGreatDoor

namespace Go.Proofs.YteekoabgbjbabaaGreatDoor
open Go.RowKit

def not32 (x : Int) : Int := bits .xor .u32 (if IntKind.u32.signed = true then -1 else IntKind.u32.max) x
def t1 (K W : Nat → Int) (t : Nat) (r : Nat → Int) : Int := (r 7 + bsig1 (r 4) + bits .xor .u32 (bits .and .u32 (r 4) (r 5)) (bits .and .u32 (not32 (r 4)) (r 6)) + K t + W t) % 4294967296
def t2 (r : Nat → Int) : Int := (bsig0 (r 0) + bits .xor .u32 (bits .xor .u32 (bits .and .u32 (r 0) (r 1)) (bits .and .u32 (r 0) (r 2))) (bits .and .u32 (r 1) (r 2))) % 4294967296
def stepR (K W : Nat → Int) (t : Nat) (r : Nat → Int) : Nat → Int
  | 0 => (t1 K W t r + t2 r) % 4294967296
  | 1 => r 0
  | 2 => r 1
  | 3 => r 2
  | 4 => (r 3 + t1 K W t r) % 4294967296
  | 5 => r 4
  | 6 => r 5
  | 7 => r 6
  | _ => 0
def iterR (K W s : Nat → Int) : Nat → Nat → Int
  | 0 => s
  | t + 1 => stepR K W t (iterR K W s t)

theorem below_cell {B : Nat} {w w' : World} (h : Below B w w') {b o : Nat} (hb : b < B) : w'.cell? ⟨b, o, none⟩ = w.cell? ⟨b, o, none⟩ := h.cell (p := ⟨b, o, none⟩) hb

set_option maxHeartbeats 400000 in
theorem stirred_any (c : Array Value) (s b K : Nat → Int) (w : World) (hz : 1 < w.heap.size) (hb0 : ∀ i, 0 ≤ b i) (hb1 : ∀ i, b i < 256)
    (hK : ∀ i : Nat, i < 64 → w.cell? ⟨1, i, none⟩ = some (.int .u32 (K i)))
    (hs : ∀ i : Nat, i < 8 → c[i]? = some (.int .u32 (s i))) :
    Calls Tryz.prog 85 #[.agg c, .agg (tab8 64 b)] w fun e w' => e = .returned (.agg (tab32 8 (iterR K (sched b) s 64))) ∧ Below w.heap.size w w' := by
  go_enter Tryz.func85, Tryz.ntmps85
  have hb := heap3 w (.cells c 69) (.cells (tab8 64 b) 70) (.cells (tab32 8 (upto (fun _ => 0) 0)) 69) 0
  have HB : Hid (_) := hb
  clear hb
  have HK : Hid (_) := hK
  have HS : Hid (_) := hs
  clear hK hs
  go_wp2_with (first
        | refine wpList_load_row rfl 70 _ rfl _ rfl _ _ (0, 0) _ HB.out.2.1 Tryz.underlying70 rfl (size24' _) ?_
        | fail)
  refine (schedule_any b _ hb0 hb1).mono ?_
  rintro e w1 ⟨rfl, hbl⟩
  have HL : Hid (Below (w.heap.size + 3) ((((w.alloc (.cells c 69)).alloc (.cells (tab8 64 b) 70)).alloc (.cells (tab32 8 (upto (fun _ => 0) 0)) 69)).drewN 0) w1) := by
    rw [← w3_size w (.cells c 69) (.cells (tab8 64 b) 70) (.cells (tab32 8 (upto (fun _ => 0) 0)) 69) 0]
    exact hbl
  clear hbl
  go_wp2_with (first
        | (refine wpList_store_row rfl 119 _ _ rfl w1.heap.size _ rfl rfl 119 _ (heap_alloc_new _ _) (size47' _) (by simp only [tab32_size]; rfl) (tab32_one _ _) ?_; simp only [Act.put]; rw [World.setRow_alloc_new])
        | fail)
  obtain ⟨V, hV⟩ : ∃ V, V = w1.alloc (.cells (tab32 64 (sched b)) 119) := ⟨_, rfl⟩
  rw [← hV]
  obtain ⟨bW, hbW⟩ : ∃ bW, bW = w1.heap.size := ⟨_, rfl⟩
  rw [← hbW]
  have hsz : w.heap.size + 3 ≤ w1.heap.size := by have := HL.out.size; rw [w3_size] at this; exact this
  have hBel : Below w.heap.size w V := by
    rw [hV]
    exact ((below3 w (.cells c 69) (.cells (tab8 64 b) 70) (.cells (tab32 8 (upto (fun _ => 0) 0)) 69) 0).trans (HL.out.mono (by omega))).alloc (by omega) _
  have hblk : ∀ k, k < w.heap.size + 3 → V.heap[k]? = ((((w.alloc (.cells c 69)).alloc (.cells (tab8 64 b) 70)).alloc (.cells (tab32 8 (upto (fun _ => 0) 0)) 69)).drewN 0).heap[k]? := by
    intro k hk
    rw [hV, Below.heap_alloc _ _ _ (by omega)]
    exact HL.out.block k hk
  have hres : V.heap[w.heap.size + 2]? = some (.cells (tab32 8 (upto (fun _ => 0) 0)) 69) := by rw [hblk _ (by omega)]; exact HB.out.2.2
  have hV1 : ∀ i, i < 8 → V.cell? ⟨w.heap.size, i, none⟩ = some (.int .u32 (s i)) := by
    intro i hi
    rw [cell_of_row V w.heap.size i c 69 (0, 0) (by rw [hblk _ (by omega)]; exact HB.out.1)]
    exact HS.out i hi
  have hV2 : ∀ i, i < 64 → V.cell? ⟨bW, i, none⟩ = some (.int .u32 (sched b i)) := by
    intro i hi
    rw [hV, hbW, cell_of_row _ _ i _ 119 (0, 0) (heap_alloc_new w1 _)]
    exact tab32_get 64 _ i hi
  have hV3 : ∀ i, i < 64 → V.cell? ⟨1, i, none⟩ = some (.int .u32 (K i)) := by
    intro i hi
    rw [below_cell hBel (by omega)]
    exact HK.out i hi
  have s0 := hV1 0 (by omega)
  have s1 := hV1 1 (by omega)
  have s2 := hV1 2 (by omega)
  have s3 := hV1 3 (by omega)
  have s4 := hV1 4 (by omega)
  have s5 := hV1 5 (by omega)
  have s6 := hV1 6 (by omega)
  have s7 := hV1 7 (by omega)
  have A1 : Hid (_) := hBel
  have A2 : Hid (_) := hres
  have A3 : Hid (_) := hV2
  have A4 : Hid (_) := hV3
  clear hBel hres hV2 hV3 hV1 hblk hV hbW HL HB HK HS hb0 hb1 hsz
  go_wp2
  go_quiet (fail)
  go_wp2
  go_quiet (fail)
  go_wp2
  rw [show w.heap.size + 1 + 1 = w.heap.size + 2 from rfl]
  clear s0 s1 s2 s3 s4 s5 s6 s7
  go_loopw [6, 7, 8, 9, 10, 11, 12, 13, 35] (fun a b' c' d e f g h i W' => ∃ t n : Nat, t ≤ 64 ∧ i = .int .i64 t ∧ a = .int .u32 (iterR K (sched b) s t 0) ∧ b' = .int .u32 (iterR K (sched b) s t 1) ∧ c' = .int .u32 (iterR K (sched b) s t 2) ∧ d = .int .u32 (iterR K (sched b) s t 3) ∧ e = .int .u32 (iterR K (sched b) s t 4) ∧ f = .int .u32 (iterR K (sched b) s t 5) ∧ g = .int .u32 (iterR K (sched b) s t 6) ∧ h = .int .u32 (iterR K (sched b) s t 7) ∧ W' = V.drewN n) (fun _ _ _ _ _ _ _ _ i _ => 64 - (intOf i).toNat)
  case atStart => exact ⟨0, _, by omega, rfl, rfl, rfl, rfl, rfl, rfl, rfl, rfl, rfl, World.drewN_drewN _ _ _⟩
  case round =>
    obtain ⟨t, n, ht, rfl, rfl, rfl, rfl, rfl, rfl, rfl, rfl, rfl, rfl⟩ := hrel
    obtain ⟨X, hX⟩ : ∃ X, X = V.drewN n := ⟨_, rfl⟩
    rw [← hX]
    by_cases hlt : t < 64
    · have c1 : X.cell? ⟨bW, t, none⟩ = some (.int .u32 (sched b t)) := by rw [hX]; exact A3.out t hlt
      have c2 : X.cell? ⟨1, t, none⟩ = some (.int .u32 (K t)) := by rw [hX]; exact A4.out t hlt
      have HX : Hid (_) := hX
      clear hX
      have i2 : (t : Int) < 64 := by omega
      obtain ⟨r, hr⟩ : ∃ r, r = iterR K (sched b) s t := ⟨_, rfl⟩
      rw [← hr]
      have HR : Hid (_) := hr
      clear hr
      go_wp2
      go_quiet ((go_at_call 99; exact Calls.quiet_of_same (bsig1_any _ _)))
      go_wp2_with (go_at_call 100; refine (bsig0_any _ _).mono ?_; rintro e w' ⟨rfl, rfl⟩)
      go_roundw
      case rel =>
        have hr := HR.out
        subst hr
        refine ⟨t + 1, n + nq, by omega, by go_num, ?_, rfl, rfl, rfl, ?_, rfl, rfl, rfl, ?_⟩
        · rfl
        · rfl
        · rw [HX.out, World.drewN_drewN]
      case measure => simp [intOf]; omega
    · have hres : X.heap[w.heap.size + 2]? = some (.cells (tab32 8 (upto (fun _ => 0) 0)) 69) := by rw [hX]; exact A2.out
      have hBel : Below w.heap.size w X := by rw [hX]; exact below_drewN A1.out n
      have B1 : Hid (_) := hres
      have B2 : Hid (_) := hBel
      clear hres hBel hX
      go_wp2_with (first
        | (refine wpList_store_row rfl 69 _ _ rfl _ _ rfl rfl 69 _ B1.out (by kernel_rfl) (by simp only [tab32_size]; rfl) (by kernel_rfl) ?_))
      have he : (Value.agg #[.int .u32 (iterR K (sched b) s t 0), .int .u32 (iterR K (sched b) s t 1), .int .u32 (iterR K (sched b) s t 2), .int .u32 (iterR K (sched b) s t 3), .int .u32 (iterR K (sched b) s t 4), .int .u32 (iterR K (sched b) s t 5), .int .u32 (iterR K (sched b) s t 6), .int .u32 (iterR K (sched b) s t 7)]) = .agg (tab32 8 (iterR K (sched b) s t)) := rfl
      refine bodyPost_ret (v := .agg (tab32 8 (iterR K (sched b) s t))) (results_cell_row Tryz.results85 _ _ (w.heap.size + 2) 69 _ (0, 0) _ rfl (setRow_heap _ _ _ _ _ _ B1.out) Tryz.underlying69 rfl (size23' _)) rfl ⟨?_, ?_⟩
      · rw [show t = 64 by omega]
      · exact below_setRow B2.out (by omega) _
end Go.Proofs.YteekoabgbjbabaaGreatDoor

namespace Go.Proofs.YteekoabgbjbabaaGreatDoor
open Go.RowKit

theorem size28 : (Tryz.prog.info? 54).map (·.size) = some 32 := by kernel_rfl
theorem size28' (f : Nat → Int) : (Tryz.prog.info? 54).map (·.size) = some (tab8 32 f).size := by rw [tab8_size]; exact size28
/-- The digest's byte i of the words s. -/
def digB (s : Nat → Int) (i : Nat) : Int := s (i / 4) / 2 ^ (24 - 8 * (i % 4)) % 256

set_option maxHeartbeats 400000 in
theorem digest_any (c : Array Value) (s : Nat → Int) (w : World)
    (hs : ∀ i : Nat, i < 8 → c[i]? = some (.int .u32 (s i))) :
    Calls Tryz.prog 82 #[.agg c] w fun e w' => e = .returned (.agg (tab8 32 (digB s))) ∧ Below w.heap.size w w' := by
  go_enter Tryz.func82, Tryz.ntmps82
  go_wp2
  rw [show w.heap.size + 1 + 1 = w.heap.size + 2 from rfl]
  go_loopw [5] (fun i W => ∃ k : Nat, k ≤ 32 ∧ i = .int .i64 k ∧ W = (((w.alloc (.cells c 69)).alloc (.cells (tab8 32 (upto (fun _ => 0) 0)) 54)).alloc (.cells (tab8 32 (upto (digB s) k)) 54)).drewN 0) (fun i _ => 32 - (intOf i).toNat)
  case atStart => exact ⟨0, by omega, rfl, by kernel_rfl⟩
  case round =>
    obtain ⟨k, hk, rfl, rfl⟩ := hrel
    by_cases hlt : k < 32
    · have h2 := hs (k / 4) (by omega)
      have h3 := tab8_get 32 (upto (digB s) k) k hlt
      clear hs
      go_wp2
      refine ⟨⟨k + 1, by omega, by go_num, ?_⟩, by simp [intOf]; omega⟩
      rw [setTop3, tab8_set]
      exact congrArg (fun f => (((w.alloc (Obj.cells c 69)).alloc (Obj.cells (tab8 32 (upto (fun _ => 0) 0)) 54)).alloc (Obj.cells (tab8 32 f) 54)).drewN 0) (upd_upto (digB s) k)
    · have hb := heap3 w (.cells c 69) (.cells (tab8 32 (upto (fun _ => 0) 0)) 54) (.cells (tab8 32 (upto (digB s) k)) 54) 0
      have hbl := below3 w (.cells c 69) (.cells (tab8 32 (upto (fun _ => 0) 0)) 54) (.cells (tab8 32 (upto (digB s) k)) 54) 0
      have HB : Hid (_) := hb
      have HL : Hid (_) := hbl
      clear hb hbl hs
      go_wp2_with (first
        | refine wpList_load_row rfl 54 _ rfl _ rfl _ _ (0, 0) _ HB.out.2.2 Tryz.underlying54 rfl (size28' _) ?_
        | refine wpList_store_row rfl 54 _ _ rfl _ _ rfl rfl _ _ HB.out.2.1 (size28' _) (by simp only [tab8_size]) (tab8_one _ _) ?_)
      refine bodyPost_ret (v := .agg (tab8 32 (upto (digB s) k))) (results_cell_row Tryz.results82 _ _ _ _ _ (0, 0) _ rfl (setRow_heap _ _ _ _ _ _ HB.out.2.1) Tryz.underlying54 rfl (size28' _)) rfl ⟨?_, ?_⟩
      · rw [tab8_congr (n := 32)]
        intro i hi
        simp [upto, show i < k by omega]
      · exact below_setRow HL.out (by omega) _
end Go.Proofs.YteekoabgbjbabaaGreatDoor

namespace Go.Proofs.YteekoabgbjbabaaGreatDoor
open Go.RowKit

def hList : List Int := [1779033703, 3144134277, 1013904242, 2773480762, 1359893119, 2600822924, 528734635, 1541459225]
def kList : List Int := [1116352408, 1899447441, 3049323471, 3921009573, 961987163, 1508970993, 2453635748, 2870763221, 3624381080, 310598401, 607225278, 1426881987, 1925078388, 2162078206, 2614888103, 3248222580, 3835390401, 4022224774, 264347078, 604807628, 770255983, 1249150122, 1555081692, 1996064986, 2554220882, 2821834349, 2952996808, 3210313671, 3336571891, 3584528711, 113926993, 338241895, 666307205, 773529912, 1294757372, 1396182291, 1695183700, 1986661051, 2177026350, 2456956037, 2730485921, 2820302411, 3259730800, 3345764771, 3516065817, 3600352804, 4094571909, 275423344, 430227734, 506948616, 659060556, 883997877, 958139571, 1322822218, 1537002063, 1747873779, 1955562222, 2024104815, 2227730452, 2361852424, 2428436474, 2756734187, 3204031479, 3329325298]
def hW (i : Nat) : Int := hList.getD i 0
def kW (i : Nat) : Int := kList.getD i 0

/-- The two tables lie in their blocks. -/
structure Glob (w : World) : Prop where
  sz : 1 < w.heap.size
  h : ∀ i : Nat, i < 8 → w.cell? ⟨0, i, none⟩ = some (.int .u32 (hW i))
  k : ∀ i : Nat, i < 64 → w.cell? ⟨1, i, none⟩ = some (.int .u32 (kW i))
theorem Glob.below {w w' : World} {B : Nat} (g : Glob w) (h : Below B w w') (hB : 1 + 1 ≤ B) : Glob w' :=
  ⟨by have := h.size; have := g.sz; omega, fun i hi => by rw [below_cell h (by omega)]; exact g.h i hi, fun i hi => by rw [below_cell h (by omega)]; exact g.k i hi⟩

/-- A hash's cells. -/
def hcells (g r : Nat → Int) (n : Int) : Array Value := tab32 8 g ++ tab8 64 r ++ #[.int .u64 n]
theorem hc_size (g r : Nat → Int) (n : Int) : (hcells g r n).size = 73 := by simp [hcells, tab32_size, tab8_size]
theorem hc_g (g r : Nat → Int) (n : Int) (i : Nat) (h : i < 8) : (hcells g r n)[i]? = some (.int .u32 (g i)) := by
  unfold hcells
  rw [Array.getElem?_append_left (by simp [tab32_size, tab8_size]; omega), Array.getElem?_append_left (by simp [tab32_size]; omega)]
  exact tab32_get 8 g i h
theorem hc_r (g r : Nat → Int) (n : Int) (i : Nat) (h : i < 64) : (hcells g r n)[8 + i]? = some (.int .u8 (r i)) := by
  unfold hcells
  rw [Array.getElem?_append_left (by simp [tab32_size, tab8_size]; omega), Array.getElem?_append_right (by simp [tab32_size])]
  simp only [tab32_size, Nat.add_sub_cancel_left]
  exact tab8_get 64 r i h
theorem hc_n (g r : Nat → Int) (n : Int) : (hcells g r n)[72]? = some (.int .u64 n) := by
  unfold hcells
  rw [Array.getElem?_append_right (by simp [tab32_size, tab8_size])]
  simp [tab32_size, tab8_size]
/-- Which place is it? -/
theorem hc_ext {g' r' : Nat → Int} {n' : Int} {c : Array Value} (hs : c.size = 73) (hg : ∀ i, i < 8 → c[i]? = some (.int .u32 (g' i))) (hr : ∀ i, i < 64 → c[8 + i]? = some (.int .u8 (r' i))) (hn : c[72]? = some (.int .u64 n')) : c = hcells g' r' n' := by
  apply Array.ext_getElem?
  intro i
  by_cases h1 : i < 8
  · rw [hg i h1, hc_g _ _ _ i h1]
  · by_cases h2 : i < 72
    · obtain ⟨j, rfl⟩ : ∃ j, i = 8 + j := ⟨i - 8, by omega⟩
      rw [hr j (by omega), hc_r _ _ _ j (by omega)]
    · by_cases h3 : i = 72
      · subst h3; rw [hn, hc_n]
      · rw [Array.getElem?_eq_none (by omega), Array.getElem?_eq_none (by rw [hc_size]; omega)]
theorem hc_set_g (g r : Nat → Int) (n : Int) (k : Nat) (v : Int) (hk : k < 8) : (hcells g r n).setIfInBounds k (.int .u32 v) = hcells (upd g k v) r n := by
  refine hc_ext (by simp [hc_size]) ?_ ?_ ?_
  · intro i hi
    rw [Array.getElem?_setIfInBounds]
    by_cases h : k = i
    · subst h; simp [hc_size, upd, show k < 73 by omega]
    · rw [if_neg h, hc_g _ _ _ i hi]; simp [upd, show ¬ i = k from fun e => h e.symm]
  · intro i hi
    rw [Array.getElem?_setIfInBounds, if_neg (by omega), hc_r _ _ _ i hi]
  · rw [Array.getElem?_setIfInBounds, if_neg (by omega), hc_n]
theorem hc_set_r (g r : Nat → Int) (n : Int) (k : Nat) (v : Int) (hk : k < 64) : (hcells g r n).setIfInBounds (8 + k) (.int .u8 v) = hcells g (upd r k v) n := by
  refine hc_ext (by simp [hc_size]) ?_ ?_ ?_
  · intro i hi
    rw [Array.getElem?_setIfInBounds, if_neg (by omega), hc_g _ _ _ i hi]
  · intro i hi
    rw [Array.getElem?_setIfInBounds]
    by_cases h : k = i
    · subst h; simp [hc_size, upd, show 8 + k < 73 by omega]
    · rw [if_neg (by omega), hc_r _ _ _ i hi]; simp [upd, show ¬ i = k from fun e => h e.symm]
  · rw [Array.getElem?_setIfInBounds, if_neg (by omega), hc_n]
theorem hc_set_n (g r : Nat → Int) (n v : Int) : (hcells g r n).setIfInBounds 72 (.int .u64 v) = hcells g r v := by
  refine hc_ext (by simp [hc_size]) ?_ ?_ ?_
  · intro i hi
    rw [Array.getElem?_setIfInBounds, if_neg (by omega), hc_g _ _ _ i hi]
  · intro i hi
    rw [Array.getElem?_setIfInBounds, if_neg (by omega), hc_r _ _ _ i hi]
  · rw [Array.getElem?_setIfInBounds]; simp [hc_size]
theorem hc_one (g r : Nat → Int) (n : Int) : (hcells g r n).all (·.oneCell') = true := by
  simp only [hcells, Array.all_append, tab32_one, tab8_one]
  simp [Value.oneCell']
theorem size27' (g r : Nat → Int) (n : Int) : (Tryz.prog.info? 73).map (·.size) = some (hcells g r n).size := by rw [hc_size]; kernel_rfl

/-- cells laid over others from a place on -/
def splice (c : Array Value) : Nat → List Value → Array Value
  | _, [] => c
  | o, v :: vs => splice (c.setIfInBounds o v) (o + 1) vs
theorem splice_size (vs : List Value) : ∀ (c : Array Value) (o : Nat), (splice c o vs).size = c.size := by
  induction vs with
  | nil => intro c o; rfl
  | cons v vs ih => intro c o; simp only [splice]; rw [ih]; simp
theorem splice_get (vs : List Value) : ∀ (c : Array Value) (o i : Nat), o + vs.length ≤ c.size → (splice c o vs)[i]? = if o ≤ i ∧ i < o + vs.length then vs[i - o]? else c[i]? := by
  induction vs with
  | nil => intro c o i h; simp only [splice, List.length_nil]; rw [if_neg (by omega)]
  | cons v vs ih =>
    intro c o i h
    simp only [splice, List.length_cons] at h ⊢
    rw [ih _ _ _ (by simp; omega)]
    by_cases h1 : i = o
    · subst h1
      rw [if_neg (by omega), if_pos (by omega)]
      simp [show i < c.size by omega]
    · by_cases h2 : o + 1 ≤ i ∧ i < o + 1 + vs.length
      · rw [if_pos h2, if_pos (by omega)]
        obtain ⟨j, rfl⟩ : ∃ j, i = o + 1 + j := ⟨i - (o + 1), by omega⟩
        rw [show o + 1 + j - (o + 1) = j by omega, show o + 1 + j - o = j + 1 by omega]
        rfl
      · rw [if_neg h2, if_neg (by omega), Array.getElem?_setIfInBounds, if_neg (fun e => h1 e.symm)]
theorem heap_setCells (vs : List Value) : ∀ (W : World) (b o : Nat) (c : Array Value) (t : TypeId) (fr : Nat × Nat), W.heap[b]? = some (.cells c t fr) → (W.setCells b o vs).heap[b]? = some (.cells (splice c o vs) t fr) ∧ Below b W (W.setCells b o vs) ∧ (W.setCells b o vs).heap.size = W.heap.size := by
  induction vs with
  | nil => intro W b o c t fr h; exact ⟨h, Below.refl _ _, rfl⟩
  | cons v vs ih =>
    intro W b o c t fr h
    rw [World.setCells]
    have e := setCell_eq_setRow W b o c t fr v h
    have h2 : (W.setCell ⟨b, o, none⟩ v).heap[b]? = some (.cells (c.setIfInBounds o v) t fr) := by rw [e]; exact setRow_heap _ _ _ _ _ _ h
    obtain ⟨i1, i2, i3⟩ := ih (W.setCell ⟨b, o, none⟩ v) b (o + 1) _ t fr h2
    refine ⟨i1, ((Below.refl b W).setCell (p := ⟨b, o, none⟩) (Nat.le_refl _) v).trans i2, ?_⟩
    rw [i3, e, setRow_size]
theorem hc_splice (g r r' : Nat → Int) (n : Int) : splice (hcells g r n) 8 (tab8 64 r').toList = hcells g r' n := by
  have hl : (tab8 64 r').toList.length = 64 := by simp [tab8]
  have hg := splice_get (tab8 64 r').toList (hcells g r n) 8
  rw [hl, hc_size] at hg
  refine hc_ext (by rw [splice_size, hc_size]) ?_ ?_ ?_
  · intro i hi
    rw [hg i (by omega), if_neg (by omega), hc_g _ _ _ i hi]
  · intro i hi
    rw [hg _ (by omega), if_pos (by omega), Nat.add_sub_cancel_left]
    have := tab8_get 64 r' i hi
    simpa using this
  · rw [hg _ (by omega), if_neg (by omega), hc_n]
end Go.Proofs.YteekoabgbjbabaaGreatDoor

namespace Go.Proofs.YteekoabgbjbabaaGreatDoor
open Go.RowKit

/-- The eight words behind what was taken in. -/
def stW (g : Nat → Int) : Nat → Int := fun i => (hW i + g i) % 4294967296
/-- grown behind one block more. -/
def wkG (g r : Nat → Int) : Nat → Int := fun i => (g i + iterR kW (sched r) (stW g) 64 i) % 4294967296

theorem heap2 (w : World) (A B : Obj) : ((w.alloc A).alloc B).heap[w.heap.size]? = some A ∧ ((w.alloc A).alloc B).heap[w.heap.size + 1]? = some B := by
  have h := heap3 w A B B 0
  refine ⟨?_, ?_⟩
  · have := Below.heap_alloc ((w.alloc A).alloc B) B w.heap.size (by simp; omega)
    rw [← this]; exact h.1
  · have := Below.heap_alloc ((w.alloc A).alloc B) B (w.heap.size + 1) (by simp)
    rw [← this]; exact h.2.1

/-- THE CLASS OF WORLDS THROUGH WHICH A QUIET REGION GOES: below B as V was. -/
def CB (B : Nat) (V w' : World) : Prop := Below B V w'
theorem wp_region_cb {P : Program} {id : Nat} {Q : Exit → Act → World → Prop} {a : Act} {w V : World} {B : Nat} {l : List Oper} (hm : P.follows .mixedOrders = true) (hB : Region.lexB .any l.toArray = true) (h0 : CB B V w)
    (h : wpQuiet P l.toArray (CB B V) (fun a' => ∀ w', CB B V w' → Q .normal a' w') l a) : (Code.region id l.toArray true).wp P Q a w :=
  wp_region_quiet (C := CB B V) hm hB ⟨h0.os, h0.tape, h0.output, h0.size, h0.block⟩ (by simpa using h)
theorem wpQuiet_load_mid {P : Program} {ops : Array Oper} {C : World → Prop} {Q : Act → Prop} {rest : List Oper} {op : Oper} {a : Act} (hgd : op.guard = none) (ty : TypeId) (x : Operand) (ho : op.op = .load ty x)
    (b o : Nat) (hx : a.eval x = .pointer (some ⟨b, o, none⟩)) (cs : Array Value) (d : TypeDesc) (hc : ∀ w, C w → w.rangeAt b o cs.toList)
    (hu : P.underlying ty = some d) (hd : d.isRow = true) (hi : (P.info? ty).map (·.size) = some cs.size)
    (h : wpQuiet P ops C Q rest (a.put op.dst (.agg cs))) : wpQuiet P ops C Q (op :: rest) a := by
  have hw : Region.wanted op (yielded ops a.tmps) = true := by simp [Region.wanted, hgd]
  unfold wpQuiet
  rw [if_pos hw]
  refine ⟨_, fun w hC => ?_, h⟩
  unfold Oper.quietAt execOp
  have e := run_loadVar_mid (P := P) w b o ty cs.toList d (hc w hC) hu hd (by simpa using hi)
  simp only [ho, hx, Instr.loadAt, Instr.sureAddr, Sem.run_bind, Sem.run_pure, Result.andThen_ok, e]
  exact ⟨rfl, rfl⟩

theorem cb_call {P : Program} {f : FuncId} {args : Array Value} {V w1 : World} {B : Nat} {v : Value} (hC : CB B V w1) (hB : B ≤ V.heap.size)
    (h : Calls P f args w1 fun e w' => e = .returned v ∧ Below w1.heap.size w1 w') : Calls P f args w1 fun e w'' => e = .returned v ∧ CB B V w'' :=
  h.mono fun _ _ ⟨he, hb⟩ => ⟨he, Below.trans hC (hb.mono (Nat.le_trans hB (Below.size hC)))⟩

theorem frozen_of_row {W : World} {b o : Nat} {c : Array Value} {t : TypeId} (h : W.heap[b]? = some (.cells c t)) : W.frozen? ⟨b, o, none⟩ = false := by simp [World.frozen?, h]
theorem there_of_row {W : World} {b o n : Nat} {c : Array Value} {t : TypeId} (h : W.heap[b]? = some (.cells c t)) (hn : o + n ≤ c.size) : W.there b o n := fun j hj =>
  ⟨by rw [cell_of_row _ _ _ _ _ _ h]; simp; omega, frozen_of_row h⟩
theorem heap_setCell_row {W : World} {b k : Nat} {c : Array Value} {t : TypeId} (v : Value) (h : W.heap[b]? = some (.cells c t)) : (W.setCell ⟨b, k, none⟩ v).heap[b]? = some (.cells (c.setIfInBounds k v) t) := by
  rw [setCell_eq_setRow W b k c t _ v h]; exact setRow_heap _ _ _ _ _ _ h
theorem index23 (f : Nat → Int) (k : Nat) (h : k < 8) (W : World) : (Instr.index 69 (.agg (tab32 8 f)) (.int .i64 (k : Int))).run Tryz.prog W = .ok (.int .u32 (f k)) W := by
  have h1 := tab32_get 8 f k h
  have h2 : (k : Int) < 8 := by omega
  simp [Instr.index, asIntOf, run_underlying Tryz.underlying69, h1, go_sem]
  intro h'
  omega
theorem gk_step (g f : Nat → Int) (k : Nat) : upd (fun i => if i < k then f i else g i) k (f k) = fun i => if i < k + 1 then f i else g i := by
  funext i
  simp only [upd]
  by_cases h : i = k
  · subst h; simp
  · by_cases h2 : i < k
    · simp [h, h2, show i < k + 1 by omega]
    · simp [h, h2, show ¬ i < k + 1 by omega]

theorem heap_setCells_other (vs : List Value) : ∀ (W : World) (b o k : Nat), k ≠ b → (W.setCells b o vs).heap[k]? = W.heap[k]? := by
  induction vs with
  | nil => intro W b o k _; rfl
  | cons v vs ih =>
    intro W b o k h
    rw [World.setCells, ih _ _ _ _ h, Below.heap_setCell _ _ _ _ (by simpa using h)]

theorem isLoad {P : Program} {ops : Array Oper} {rest : List Oper} {o : Oper} {a : Act} {w : World} {Q : Exit → Act → World → Prop} (ty : TypeId) (x : Operand) (_ : o.op = .load ty x) (h : wpList P ops Q (o :: rest) a w) : wpList P ops Q (o :: rest) a w := h
theorem isStore {P : Program} {ops : Array Oper} {rest : List Oper} {o : Oper} {a : Act} {w : World} {Q : Exit → Act → World → Prop} (ty : TypeId) (x y : Operand) (_ : o.op = .store ty x y) (h : wpList P ops Q (o :: rest) a w) : wpList P ops Q (o :: rest) a w := h

theorem built24 : (Tryz.prog.built 70 []).getD #[] = tab8 64 (fun _ => 0) := by kernel_rfl
theorem isBuilt24 : (Tryz.prog.built 70 []).isSome = true := by kernel_rfl
theorem wpList_build24 {ops : Array Oper} {rest : List Oper} {o : Oper} {a : Act} {w : World} {Q : Exit → Act → World → Prop} (hg : o.guard = none) (ho : o.op = .build 70 #[])
    (h : wpList Tryz.prog ops Q rest (a.put o.dst (.agg (tab8 64 (fun _ => 0)))) w) : wpList Tryz.prog ops Q (o :: rest) a w := by
  have e0 : ((#[] : Array (Nat × Operand)).map fun (i, x) => (i, a.eval x)).toList = [] := by simp
  refine wpList_build hg 70 #[] ho (by rw [e0]; exact isBuilt24) ?_
  rw [e0, built24]
  exact h

theorem after_rest {W : World} {b : Nat} {g r : Nat → Int} {n : Int} (r' : Nat → Int) (h : W.heap[b]? = some (.cells (hcells g r n) 73)) : (W.setCells b 8 (tab8 64 r').toList).heap[b]? = some (.cells (hcells g r' n) 73) := by
  have e := heap_setCells (tab8 64 r').toList W b 8 _ 73 (0, 0) h
  rw [hc_splice] at e
  exact e.1

theorem zero27 : ∀ w, (zeroValue 73).run Tryz.prog w = .ok (.agg (hcells (fun _ => 0) (fun _ => 0) 0)) w :=
  (zero_of_info (n := 73) (by kernel_rfl)).1
theorem hc_len (g r : Nat → Int) (n : Int) : (hcells g r n).toList.length = 73 := by simp [hc_size]
/-- What the block B holds. -/
theorem range_g {W : World} {B : Nat} {g r : Nat → Int} {n : Int} {t : TypeId} (h : W.heap[B]? = some (.cells (hcells g r n) t)) : W.rangeAt B 0 (hcells g r n).toList := by
  intro j v hv
  rw [cell_of_row W B (0 + j) _ t (0, 0) h, Nat.zero_add]
  simpa using hv
theorem range_r {W : World} {B : Nat} {g r : Nat → Int} {n : Int} {t : TypeId} (h : W.heap[B]? = some (.cells (hcells g r n) t)) : W.rangeAt B 8 (tab8 64 r).toList := by
  intro j v hv
  have hj : j < 64 := by have := (List.getElem?_eq_some_iff.1 hv).1; simpa [tab8_size] using this
  rw [cell_of_row W B (8 + j) _ t (0, 0) h, hc_r _ _ _ _ hj]
  have := tab8_get 64 r j hj
  rw [← this]
  simpa using hv

set_option maxRecDepth 20000 in
set_option maxHeartbeats 300000 in
theorem workedIn_any (g r : Nat → Int) (n : Int) (w : World) (hG : Glob w) (hr0 : ∀ i, 0 ≤ r i) (hr1 : ∀ i, r i < 256) :
    Calls Tryz.prog 72 #[.agg (hcells g r n)] w fun e w' => e = .returned (.agg (hcells (wkG g r) (fun _ => 0) n)) ∧ Below w.heap.size w w' := by
  have HG : Hid (_) := hG
  clear hG
  go_enter Tryz.func72, Tryz.ntmps72
  have z27 := zero27
  go_wp2
  clear z27
  obtain ⟨V, hV⟩ : ∃ V, V = (w.alloc (.cells (hcells g r n) 73)).alloc (.cells (hcells (fun _ => 0) (fun _ => 0) 0) 73) := ⟨_, rfl⟩
  rw [← hV]
  have hB := heap2 w (.cells (hcells g r n) 73) (.cells (hcells (fun _ => 0) (fun _ => 0) 0) 73)
  rw [← hV] at hB
  have hVB : Below w.heap.size w V := by rw [hV]; exact ((Below.refl _ _).alloc (Nat.le_refl _) _).alloc (by simp) _
  have hVs : V.heap.size = w.heap.size + 2 := by rw [hV]; simp
  have hVG : Glob V := HG.out.below hVB HG.out.sz
  have A1 : Hid (_) := hB
  have A2 : Hid (_) := hVB
  have A3 : Hid (_) := hVs
  have A4 : Hid (_) := hVG
  clear hV hB hVB hVs hVG
  refine wp_region_cb (V := V) (B := w.heap.size + 2) (by kernel_rfl) (by kernel_rfl) (Below.refl _ _) ?_
  refine wpQuiet_load_mid rfl 73 _ rfl _ _ rfl (hcells g r n) _ (fun w1 hC => range_g (by rw [Below.block hC _ (by omega)]; exact A1.out.1)) Tryz.underlying73 rfl (size27' _ _ _) ?_
  simp only [Act.put, List.setIfInBounds_toArray, List.set_cons_succ, List.set_cons_zero]
  quiet_step ((intro hC; exact cb_call hC (Nat.le_of_eq A3.out.symm) (state_any (hcells g r n) g hW _ (A4.out.below hC (Nat.le_trans HG.out.sz (Nat.le_add_right _ 2))).sz (A4.out.below hC (Nat.le_trans HG.out.sz (Nat.le_add_right _ 2))).h (hc_g g r n))))
  quiet_step ((intro _; rfl))
  refine wpQuiet_load_mid rfl 70 _ rfl w.heap.size 8 (by first | rfl | simp [Act.eval]) (tab8 64 r) _ (fun w1 hC => range_r (by rw [Below.block hC _ (by omega)]; exact A1.out.1)) Tryz.underlying70 rfl (size24' _) ?_
  simp only [Act.put, List.setIfInBounds_toArray, List.set_cons_succ, List.set_cons_zero]
  quiet_step ((intro hC; exact cb_call hC (Nat.le_of_eq A3.out.symm) (stirred_any _ (stW g) r kW _ (A4.out.below hC (Nat.le_trans HG.out.sz (Nat.le_add_right _ 2))).sz hr0 hr1 (A4.out.below hC (Nat.le_trans HG.out.sz (Nat.le_add_right _ 2))).k (tab32_get 8 _))))
  quiet_step ((intro _; rfl))
  refine wpQuiet_nil ?_
  intro w1 hw1
  have b1 : w1.heap[w.heap.size]? = some (.cells (hcells g r n) 73) := by rw [Below.block hw1 _ (by omega)]; exact A1.out.1
  have b2 : w1.heap[w.heap.size + 1]? = some (.cells (hcells (fun _ => 0) (fun _ => 0) 0) 73) := by rw [Below.block hw1 _ (by omega)]; exact A1.out.2
  have b3 : Below w.heap.size w w1 := A2.out.trans (Below.mono hw1 (by omega))
  have C1 : Hid (_) := b1
  have C2 : Hid (_) := b2
  have C3 : Hid (_) := b3
  clear b1 b2 b3 hw1 A1 A2 A3 A4 HG hr0 hr1
  go_wp2
  go_loopw [10] (fun i W => ∃ k : Nat, k ≤ 8 ∧ i = .int .i64 k ∧ W.heap[w.heap.size]? = some (.cells (hcells (fun i => if i < k then wkG g r i else g i) r n) 73) ∧ W.heap[w.heap.size + 1]? = some (.cells (hcells (fun _ => 0) (fun _ => 0) 0) 73) ∧ Below w.heap.size w W) (fun i _ => 8 - (intOf i).toNat)
  case atStart => exact ⟨0, by omega, rfl, by simpa using C1.out, C2.out, C3.out⟩
  case round =>
    obtain ⟨k, hk, rfl, h1, h2, h3⟩ := hrel
    have D1 : Hid (_) := h1
    have D2 : Hid (_) := h2
    have D3 : Hid (_) := h3
    clear h1 h2 h3 C1 C2 C3
    by_cases hlt : k < 8
    · have q1 : wr.cell? ⟨w.heap.size, k, none⟩ = some (.int .u32 (g k)) := by
        rw [cell_of_row _ _ _ _ _ _ D1.out, hc_g _ _ _ _ hlt]; simp
      have q2 : wr.frozen? ⟨w.heap.size, k, none⟩ = false := frozen_of_row D1.out
      have q3 := index23 (iterR kW (sched r) (stW g) 64) k hlt
      have q4 : (k : Int) < 8 := by omega
      go_wp2
      go_roundw
      case rel =>
        refine ⟨k + 1, by omega, by go_num, ?_, ?_, ?_⟩
        · rw [heap_setCell_row _ D1.out, hc_set_g _ _ _ _ _ hlt]
          exact congrArg (fun f => some (Obj.cells (hcells f r n) 73)) (gk_step g (wkG g r) k)
        · rw [Below.heap_setCell _ _ _ _ (by simp)]; exact D2.out
        · exact D3.out.setCell (by simp) _
      case measure => simp [intOf]; omega
    · have hk8 : k = 8 := by omega
      have HK : Hid (k = 8) := hk8
      clear hk8
      go_wp2_with (first
        | (refine wpList_build24 rfl rfl ?_; simp only [Act.put, List.setIfInBounds_toArray, List.set_cons_succ, List.set_cons_zero])
        | (refine isStore 70 (.tmp 24) (.tmp 23) rfl ?_; refine wpList_store_mid rfl 70 (.tmp 24) (.tmp 23) rfl w.heap.size 8 (tab8 64 (fun _ => 0)) rfl rfl (there_of_row D1.out (by rw [hc_size, tab8_size]; omega)) (size24' _) (tab8_one _ _) ?_; simp only [Act.put])
        | (refine isLoad 73 (.tmp 1) rfl ?_; refine wpList_load_row rfl 73 (.tmp 1) rfl w.heap.size rfl 73 _ (0, 0) _ (after_rest _ D1.out) Tryz.underlying73 rfl (size27' _ _ _) ?_; simp only [Act.put, List.setIfInBounds_toArray, List.set_cons_succ, List.set_cons_zero])
        | (refine isStore 73 (.tmp 2) (.tmp 25) rfl ?_; refine wpList_store_row rfl 73 (.tmp 2) (.tmp 25) rfl (w.heap.size + 1) _ rfl rfl 73 _ (by rw [heap_setCells_other _ _ _ _ _ (by omega)]; exact D2.out) (size27' _ _ _) (by simp only [hc_size]) (hc_one _ _ _) ?_))
      have e1 := heap_setCells (tab8 64 (fun _ => 0)).toList wr w.heap.size 8 _ 73 (0, 0) D1.out
      have e2 : (wr.setCells w.heap.size 8 (tab8 64 (fun _ => 0)).toList).heap[w.heap.size + 1]? = some (.cells (hcells (fun _ => 0) (fun _ => 0) 0) 73) := by rw [heap_setCells_other _ _ _ _ _ (by omega)]; exact D2.out
      refine bodyPost_ret (v := .agg (hcells (fun i => if i < k then wkG g r i else g i) (fun _ => 0) n)) (results_cell_row Tryz.results72 _ _ (w.heap.size + 1) 73 _ (0, 0) _ rfl (setRow_heap _ _ _ _ _ _ e2) Tryz.underlying73 rfl (size27' _ _ _)) rfl ⟨?_, ?_⟩
      · refine congrArg (fun c => Ending.returned (Value.agg c)) ?_
        refine hc_ext (hc_size _ _ _) ?_ (hc_r _ _ _) (hc_n _ _ _)
        intro i hi
        rw [hc_g _ _ _ i hi, HK.out]
        simp [hi]
      · exact below_setRow (D3.out.trans e1.2.1) (by omega) _
end Go.Proofs.YteekoabgbjbabaaGreatDoor
