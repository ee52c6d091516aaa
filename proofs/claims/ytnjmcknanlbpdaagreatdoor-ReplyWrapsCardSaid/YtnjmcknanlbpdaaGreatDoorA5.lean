import Derived.WalkKit
import Derived.WalkSpells
import Derived.Test.YtnjmcknanlbpdaaGreatDoorRows
import Derived.Deep.MidRow
import Derived.Deep.WholeRow
import Derived.BigQuiet
import Derived.BigRegion
import Derived.Deep.QuietTactic
import Derived.Deep.RegionWith
import Derived.Deep.RegionHeld
namespace Go.Proofs.YtnjmcknanlbpdaaGreatDoor
open Go.RowKit

/-- A table of n words: the cells. -/
def tab32 (n : Nat) (f : Nat → Int) : Array Value := ((List.range n).map fun i => Value.int .u32 (f i)).toArray
def tab8 (n : Nat) (f : Nat → Int) : Array Value := ((List.range n).map fun i => Value.int .u8 (f i)).toArray
def upd (f : Nat → Int) (k : Nat) (v : Int) : Nat → Int := fun i => if i = k then v else f i

theorem tab32_size (n : Nat) (f : Nat → Int) : (tab32 n f).size = n := by simp [tab32]
theorem tab8_size (n : Nat) (f : Nat → Int) : (tab8 n f).size = n := by simp [tab8]
theorem tab32_get (n : Nat) (f : Nat → Int) (i : Nat) (h : i < n) : (tab32 n f)[i]? = some (.int .u32 (f i)) := by simp [tab32, h]
theorem tab8_get (n : Nat) (f : Nat → Int) (i : Nat) (h : i < n) : (tab8 n f)[i]? = some (.int .u8 (f i)) := by simp [tab8, h]
theorem tab32_set (n : Nat) (f : Nat → Int) (k : Nat) (v : Int) : (tab32 n f).setIfInBounds k (.int .u32 v) = tab32 n (upd f k v) := by
  apply Array.ext_getElem?
  intro i
  simp only [tab32, upd, Array.getElem?_setIfInBounds, List.size_toArray, List.length_map, List.length_range, List.getElem?_toArray, List.getElem?_map]
  by_cases h : k = i
  · subst h
    by_cases h' : k < n <;> simp [h']
  · have h2 : ¬ i = k := fun e => h e.symm
    by_cases h' : i < n <;> simp [h, h2, h']
theorem tab8_set (n : Nat) (f : Nat → Int) (k : Nat) (v : Int) : (tab8 n f).setIfInBounds k (.int .u8 v) = tab8 n (upd f k v) := by
  apply Array.ext_getElem?
  intro i
  simp only [tab8, upd, Array.getElem?_setIfInBounds, List.size_toArray, List.length_map, List.length_range, List.getElem?_toArray, List.getElem?_map]
  by_cases h : k = i
  · subst h
    by_cases h' : k < n <;> simp [h']
  · have h2 : ¬ i = k := fun e => h e.symm
    by_cases h' : i < n <;> simp [h, h2, h']
theorem tab32_congr {n : Nat} {f g : Nat → Int} (h : ∀ i, i < n → f i = g i) : tab32 n f = tab32 n g := by
  unfold tab32
  congr 1
  apply List.map_congr_left
  intro i hi
  rw [h i (List.mem_range.1 hi)]
theorem tab8_congr {n : Nat} {f g : Nat → Int} (h : ∀ i, i < n → f i = g i) : tab8 n f = tab8 n g := by
  unfold tab8
  congr 1
  apply List.map_congr_left
  intro i hi
  rw [h i (List.mem_range.1 hi)]
theorem tab32_one (n : Nat) (f : Nat → Int) : (tab32 n f).all (·.oneCell') = true := by
  simp [tab32, Value.oneCell']
theorem tab8_one (n : Nat) (f : Nat → Int) : (tab8 n f).all (·.oneCell') = true := by
  simp [tab8, Value.oneCell']
/-- The first k places of g, noughts behind. -/
def upto (g : Nat → Int) (k : Nat) : Nat → Int := fun i => if i < k then g i else 0
theorem upd_upto (g : Nat → Int) (k : Nat) : upd (upto g k) k (g k) = upto g (k + 1) := by
  funext i
  simp only [upd, upto]
  by_cases h : i = k
  · subst h; simp
  · by_cases h2 : i < k
    · simp [h, h2, show i < k + 1 by omega]
    · simp [h, h2, show ¬ i < k + 1 by omega]
end Go.Proofs.YtnjmcknanlbpdaaGreatDoor

namespace Go.Proofs.YtnjmcknanlbpdaaGreatDoor
open Go.RowKit

/-- x turned to the left by m places. -/
def rotl (x : Int) (m : Nat) : Int := bits .or .u32 (x * 2 ^ m % 4294967296) (x / 2 ^ (32 - m))
/-- x turned to the right by n places. -/
def rotr (x : Int) (n : Nat) : Int := rotl x (32 - n)
def sig0 (x : Int) : Int := bits .xor .u32 (bits .xor .u32 (rotr x 7) (rotr x 18)) (x / 8)
def sig1 (x : Int) : Int := bits .xor .u32 (bits .xor .u32 (rotr x 17) (rotr x 19)) (x / 1024)
def bsig0 (x : Int) : Int := bits .xor .u32 (bits .xor .u32 (rotr x 2) (rotr x 13)) (rotr x 22)
def bsig1 (x : Int) : Int := bits .xor .u32 (bits .xor .u32 (rotr x 6) (rotr x 11)) (rotr x 25)

theorem neg_and : ∀ n : Fin 32, bits .and .u64 (IntKind.u64.wrap (-(n.val : Int))) 31 = (((32 - n.val) % 32 : Nat) : Int) := by decide +kernel

set_option maxHeartbeats 400000 in
theorem rot_any (x k : Int) (m : Nat) (w : World) (hm : m ≤ 31) (hk : bits .and .u64 (IntKind.u64.wrap k) 31 = (m : Int)) :
    Calls Tryz.prog 117 #[.int .u32 x, .int .i64 k] w fun e w' => e = .returned (.int .u32 (rotl x m)) ∧ w' = w := by
  have h0 : (0 : Int) ≤ (m : Int) := by omega
  have h1 : (0 : Int) ≤ IntKind.u64.wrap (32 - (m : Int)) := by simp [IntKind.wrap, IntKind.bits, IntKind.signed]; omega
  have h2 : IntKind.u64.wrap (32 - (m : Int)) = 32 - (m : Int) := by simp [IntKind.wrap, IntKind.bits, IntKind.signed]; omega
  have h3 : (32 - (m : Int)).toNat = 32 - m := by omega
  have h4 : min m 32 = m := by omega
  have h5 : min (32 - m) 32 = 32 - m := by omega
  go_enter Tryz.func117, Tryz.ntmps117
  go_wp2
  go_ret
  exact ⟨rfl, rfl⟩

set_option maxHeartbeats 400000 in
theorem turned_any (x : Int) (k : Int) (n : Nat) (w : World) (hk : k = (n : Int)) (h1 : 1 ≤ n) (hn : n ≤ 31) :
    Calls Tryz.prog 114 #[.int .u32 x, .int .i64 k] w fun e w' => e = .returned (.int .u32 (rotr x n)) ∧ w' = w := by
  subst hk
  have hw : IntKind.i64.wrap (-(n : Int)) = -(n : Int) := by simp [IntKind.wrap, IntKind.bits, IntKind.signed]; omega
  have h : bits .and .u64 (IntKind.u64.wrap (-(n : Int))) 31 = ((32 - n : Nat) : Int) := by
    have := neg_and ⟨n, by omega⟩
    rw [this]
    simp only
    rw [Nat.mod_eq_of_lt (by omega)]
  have H : Hid (bits .and .u64 (IntKind.u64.wrap (-(n : Int))) 31 = ((32 - n : Nat) : Int)) := h
  clear h
  go_enter Tryz.func114, Tryz.ntmps114
  go_wp2_with (go_at_call 117; refine (rot_any x _ (32 - n) _ (by omega) H.out).mono ?_; rintro e w' ⟨rfl, rfl⟩)
  go_ret
  exact ⟨rfl, rfl⟩

set_option maxHeartbeats 400000 in
theorem sig0_any (x : Int) (w : World) :
    Calls Tryz.prog 113 #[.int .u32 x] w fun e w' => e = .returned (.int .u32 (sig0 x)) ∧ w' = w := by
  go_enter Tryz.func113, Tryz.ntmps113
  go_wp2_with fail
  refine (turned_any x 7 7 _ rfl (by omega) (by omega)).mono ?_
  rintro e w' ⟨rfl, rfl⟩
  go_wp2_with fail
  refine (turned_any x 18 18 _ rfl (by omega) (by omega)).mono ?_
  rintro e w' ⟨rfl, rfl⟩
  go_wp2_with fail
  go_ret
  exact ⟨rfl, rfl⟩
set_option maxHeartbeats 400000 in
theorem sig1_any (x : Int) (w : World) :
    Calls Tryz.prog 112 #[.int .u32 x] w fun e w' => e = .returned (.int .u32 (sig1 x)) ∧ w' = w := by
  go_enter Tryz.func112, Tryz.ntmps112
  go_wp2_with fail
  refine (turned_any x 17 17 _ rfl (by omega) (by omega)).mono ?_
  rintro e w' ⟨rfl, rfl⟩
  go_wp2_with fail
  refine (turned_any x 19 19 _ rfl (by omega) (by omega)).mono ?_
  rintro e w' ⟨rfl, rfl⟩
  go_wp2_with fail
  go_ret
  exact ⟨rfl, rfl⟩
set_option maxHeartbeats 400000 in
theorem bsig0_any (x : Int) (w : World) :
    Calls Tryz.prog 107 #[.int .u32 x] w fun e w' => e = .returned (.int .u32 (bsig0 x)) ∧ w' = w := by
  go_enter Tryz.func107, Tryz.ntmps107
  go_wp2_with fail
  refine (turned_any x 2 2 _ rfl (by omega) (by omega)).mono ?_
  rintro e w' ⟨rfl, rfl⟩
  go_wp2_with fail
  refine (turned_any x 13 13 _ rfl (by omega) (by omega)).mono ?_
  rintro e w' ⟨rfl, rfl⟩
  go_wp2_with fail
  refine (turned_any x 22 22 _ rfl (by omega) (by omega)).mono ?_
  rintro e w' ⟨rfl, rfl⟩
  go_wp2_with fail
  go_ret
  exact ⟨rfl, rfl⟩
set_option maxHeartbeats 400000 in
theorem bsig1_any (x : Int) (w : World) :
    Calls Tryz.prog 106 #[.int .u32 x] w fun e w' => e = .returned (.int .u32 (bsig1 x)) ∧ w' = w := by
  go_enter Tryz.func106, Tryz.ntmps106
  go_wp2_with fail
  refine (turned_any x 6 6 _ rfl (by omega) (by omega)).mono ?_
  rintro e w' ⟨rfl, rfl⟩
  go_wp2_with fail
  refine (turned_any x 11 11 _ rfl (by omega) (by omega)).mono ?_
  rintro e w' ⟨rfl, rfl⟩
  go_wp2_with fail
  refine (turned_any x 25 25 _ rfl (by omega) (by omega)).mono ?_
  rintro e w' ⟨rfl, rfl⟩
  go_wp2_with fail
  go_ret
  exact ⟨rfl, rfl⟩

end Go.Proofs.YtnjmcknanlbpdaaGreatDoor

namespace Go.Proofs.YtnjmcknanlbpdaaGreatDoor
open Go.RowKit

theorem z8 : #[Value.int IntKind.u32 0, Value.int IntKind.u32 0, Value.int IntKind.u32 0, Value.int IntKind.u32 0,
            Value.int IntKind.u32 0, Value.int IntKind.u32 0, Value.int IntKind.u32 0, Value.int IntKind.u32 0] = tab32 8 (upto (fun _ => 0) 0) := by kernel_rfl

theorem size23 : (Tryz.prog.info? 81).map (·.size) = some 8 := by kernel_rfl
theorem size23' (f : Nat → Int) : (Tryz.prog.info? 81).map (·.size) = some (tab32 8 f).size := by rw [tab32_size]; exact size23

theorem below_setRow {B : Nat} {a w : World} (h : Below B a w) {g : Nat} (hg : B ≤ g) (c : Array Value) : Below B a (w.setRow g c) :=
  h.trans ⟨rfl, rfl, rfl, by simp, fun k hk => setRow_other w g k c (by omega)⟩
theorem below_drewN {B : Nat} {a w : World} (h : Below B a w) (n : Nat) : Below B a (w.drewN n) := ⟨h.os, h.tape, h.output, h.size, h.block⟩

theorem heap3 (w : World) (A B C : Obj) (n : Nat) : ((((w.alloc A).alloc B).alloc C).drewN n).heap[w.heap.size]? = some A ∧ ((((w.alloc A).alloc B).alloc C).drewN n).heap[w.heap.size + 1]? = some B ∧ ((((w.alloc A).alloc B).alloc C).drewN n).heap[w.heap.size + 2]? = some C := by
  have hs : ∀ (v : World) (o : Obj), (v.alloc o).heap = v.heap.push o := fun _ _ => rfl
  simp only [World.heap_drewN, hs, Array.getElem?_push, Array.size_push]
  refine ⟨?_, ?_, ?_⟩
  · rw [if_neg (by omega), if_neg (by omega), if_pos trivial]
  · rw [if_neg (by omega), if_pos trivial]
  · rw [if_pos trivial]
theorem below3 (w : World) (A B C : Obj) (n : Nat) : Below w.heap.size w ((((w.alloc A).alloc B).alloc C).drewN n) :=
  below_drewN ((((Below.refl _ _).alloc (Nat.le_refl _) _).alloc (by simp) _).alloc (by simp; omega) _) n

theorem setTop3 (w : World) (A B : Obj) (c : Array Value) (t : TypeId) (k : Nat) (v : Value) (n : Nat) :
    ((((w.alloc A).alloc B).alloc (.cells c t)).drewN n).setCell ⟨w.heap.size + 2, k, none⟩ v = (((w.alloc A).alloc B).alloc (.cells (c.setIfInBounds k v) t)).drewN n := by
  have h := World.setCell_alloc_at (w := (w.alloc A).alloc B) c t (w.heap.size + 2) k v (by simp)
  show ((((w.alloc A).alloc B).alloc (.cells c t)).setCell ⟨w.heap.size + 2, k, none⟩ v).drewN n = _
  rw [h]

set_option maxHeartbeats 400000 in
theorem state_any (c : Array Value) (g H : Nat → Int) (w : World) (hz : 1 < w.heap.size)
    (hH : ∀ i : Nat, i < 8 → w.cell? ⟨0, i, none⟩ = some (.int .u32 (H i)))
    (hg : ∀ i : Nat, i < 8 → c[i]? = some (.int .u32 (g i))) :
    Calls Tryz.prog 94 #[.agg c] w fun e w' => e = .returned (.agg (tab32 8 fun i => (H i + g i) % 4294967296)) ∧ Below w.heap.size w w' := by
  go_enter Tryz.func94, Tryz.ntmps94
  go_wp2
  rw [show w.heap.size + 1 + 1 = w.heap.size + 2 from rfl]
  go_loopw [5] (fun i W => ∃ k n : Nat, k ≤ 8 ∧ i = .int .i64 k ∧ W = (((w.alloc (.cells c 85)).alloc (.cells (tab32 8 (upto (fun _ => 0) 0)) 81)).alloc (.cells (tab32 8 (upto (fun i => (H i + g i) % 4294967296) k)) 81)).drewN n) (fun i _ => 8 - (intOf i).toNat)
  case atStart => exact ⟨0, 0, by omega, rfl, by rw [z8]; rfl⟩
  case round =>
    obtain ⟨k, n, hk, rfl, rfl⟩ := hrel
    by_cases hlt : k < 8
    · have hz0 : 0 < w.heap.size := by omega
      have hz1 : 0 < w.heap.size := by omega
      have hz2 : 0 ≤ w.heap.size := by omega
      have hz3 : 0 < w.heap.size + 1 := by omega
      have hz4 : 0 < w.heap.size + 2 := by omega
      have h1 := hH k hlt
      have h2 := hg k hlt
      have h3 := tab32_get 8 (upto (fun i => (H i + g i) % 4294967296) k) k hlt
      clear hH hg
      go_wp2
      go_region
      go_wp2
      refine ⟨⟨k + 1, n + 1, by omega, by go_num, ?_⟩, by simp [intOf]; omega⟩
      rw [setTop3, tab32_set, upd_upto (fun i => (H i + g i) % 4294967296) k]
    · have hb := heap3 w (.cells c 85) (.cells (tab32 8 (upto (fun _ => 0) 0)) 81) (.cells (tab32 8 (upto (fun i => (H i + g i) % 4294967296) k)) 81) n
      have hbl := below3 w (.cells c 85) (.cells (tab32 8 (upto (fun _ => 0) 0)) 81) (.cells (tab32 8 (upto (fun i => (H i + g i) % 4294967296) k)) 81) n
      have HB : Hid (_) := hb
      have HL : Hid (_) := hbl
      clear hb hbl hH hg
      go_wp2_with (first
        | refine wpList_load_row rfl 81 _ rfl _ rfl _ _ (0, 0) _ HB.out.2.2 Tryz.underlying81 rfl (size23' _) ?_
        | refine wpList_store_row rfl 81 _ _ rfl _ _ rfl rfl _ _ HB.out.2.1 (size23' _) (by simp only [tab32_size]) (tab32_one _ _) ?_)
      refine bodyPost_ret (v := .agg (tab32 8 (upto (fun i => (H i + g i) % 4294967296) k))) (results_cell_row Tryz.results94 _ _ _ _ _ (0, 0) _ rfl (setRow_heap _ _ _ _ _ _ HB.out.2.1) Tryz.underlying81 rfl (size23' _)) rfl ⟨?_, ?_⟩
      · rw [tab32_congr (n := 8)]
        intro i hi
        simp [upto, show i < k by omega]
      · exact below_setRow HL.out (by omega) _
end Go.Proofs.YtnjmcknanlbpdaaGreatDoor

namespace Go.Proofs.YtnjmcknanlbpdaaGreatDoor
open Go.RowKit

theorem size47 : (Tryz.prog.info? 110).map (·.size) = some 64 := by kernel_rfl
theorem size47' (f : Nat → Int) : (Tryz.prog.info? 110).map (·.size) = some (tab32 64 f).size := by rw [tab32_size]; exact size47
theorem size24 : (Tryz.prog.info? 82).map (·.size) = some 64 := by kernel_rfl
theorem size24' (f : Nat → Int) : (Tryz.prog.info? 82).map (·.size) = some (tab8 64 f).size := by rw [tab8_size]; exact size24
/-- The words of the bytes b, k bytes of them taken in. -/
def sch1 (b : Nat → Int) : Nat → Nat → Int
  | 0 => fun _ => 0
  | k + 1 => upd (sch1 b k) (k / 4) (bits .or .u32 (sch1 b k (k / 4) * 256 % 4294967296) (b k))
/-- One word more. -/
def nextW (f : Nat → Int) (t : Nat) : Int := (((sig1 (f (t - 2)) + f (t - 7)) % 4294967296 + sig0 (f (t - 15))) % 4294967296 + f (t - 16)) % 4294967296
def sch2 (f : Nat → Int) : Nat → Nat → Int
  | 0 => f
  | j + 1 => upd (sch2 f j) (16 + j) (nextW (sch2 f j) (16 + j))
def sched (b : Nat → Int) : Nat → Int := sch2 (sch1 b 64) 48

theorem index24 (b : Nat → Int) (k : Nat) (h : k < 64) (W : World) : (Instr.index 82 (.agg (tab8 64 b)) (.int .i64 (k : Int))).run Tryz.prog W = .ok (.int .u8 (b k)) W := by
  have h1 := tab8_get 64 b k h
  have h2 : (k : Int) < 64 := by omega
  simp [Instr.index, asIntOf, run_underlying Tryz.underlying82, h1, go_sem]
  intro h'
  omega
theorem cell3 (w : World) (A B : Obj) (c : Array Value) (t : TypeId) (n j : Nat) : ((((w.alloc A).alloc B).alloc (.cells c t)).drewN n).cell? ⟨w.heap.size + 2, j, none⟩ = c[j]? := cell_of_row _ _ _ _ _ _ (heap3 w A B (.cells c t) n).2.2
theorem frozen3 (w : World) (A B : Obj) (c : Array Value) (t : TypeId) (n j : Nat) : ((((w.alloc A).alloc B).alloc (.cells c t)).drewN n).frozen? ⟨w.heap.size + 2, j, none⟩ = false := by
  have h := World.frozen?_alloc_at (w := (w.alloc A).alloc B) c t (w.heap.size + 2) j (by simp)
  exact h
theorem keepCell {V : World} {b i j : Nat} {v u : Value} (hij : ¬ i = j) (h : V.cell? ⟨b, j, none⟩ = some u) : (V.setCell ⟨b, i, none⟩ v).drew.cell? ⟨b, j, none⟩ = some u := by
  show (V.setCell ⟨b, i, none⟩ v).cell? ⟨b, j, none⟩ = some u
  rw [World.cell?_setCell_other V ⟨b, i, none⟩ ⟨b, j, none⟩ v (by intro e; cases e; exact hij rfl)]
  exact h
theorem w3_size (w : World) (A B C : Obj) (n : Nat) : ((((w.alloc A).alloc B).alloc C).drewN n).heap.size = w.heap.size + 3 := by simp

set_option maxHeartbeats 400000 in
theorem schedule_any (b : Nat → Int) (w : World) (hb0 : ∀ i, 0 ≤ b i) (hb1 : ∀ i, b i < 256) :
    Calls Tryz.prog 105 #[.agg (tab8 64 b)] w fun e w' => e = .returned (.agg (tab32 64 (sched b))) ∧ Below w.heap.size w w' := by
  go_enter Tryz.func105, Tryz.ntmps105
  have hb := heap3 w (.cells (tab8 64 b) 82) (.cells (tab32 64 (sch1 b 0)) 110) (.cells (tab32 64 (sch1 b 0)) 110) 0
  have HB : Hid (_) := hb
  clear hb
  go_wp2_with (first
        | refine wpList_load_row rfl 82 _ rfl _ rfl _ _ (0, 0) _ HB.out.1 Tryz.underlying82 rfl (size24' _) ?_)
  rw [show w.heap.size + 1 + 1 = w.heap.size + 2 from rfl]
  clear HB
  go_loopw [8] (fun i W => ∃ k : Nat, k ≤ 64 ∧ i = .int .i64 k ∧ W = (((w.alloc (.cells (tab8 64 b) 82)).alloc (.cells (tab32 64 (sch1 b 0)) 110)).alloc (.cells (tab32 64 (sch1 b k)) 110)).drewN 0) (fun i _ => 64 - (intOf i).toNat)
  case atStart => exact ⟨0, by omega, rfl, by kernel_rfl⟩
  case round =>
    obtain ⟨k, hk, rfl, rfl⟩ := hrel
    by_cases hlt : k < 64
    · have h1 := tab8_get 64 b k hlt
      have h2 := tab32_get 64 (sch1 b k) (k / 4) (by omega)
      have hix := index24 b k hlt
      have g0 := hb0 k
      have g1 := hb1 k
      have g2 : b k % 4294967296 = b k := by omega
      clear hb0 hb1
      go_wp2
      refine ⟨⟨k + 1, by omega, by go_num, ?_⟩, by simp [intOf]; omega⟩
      rw [setTop3, tab32_set]
      rfl
    · have HK : Hid (k = 64) := by show k = 64; omega
      clear hb0 hb1
      go_wp2
      go_loopw [6] (fun i W => ∃ t n : Nat, 16 ≤ t ∧ t ≤ 64 ∧ i = .int .i64 (t : Int) ∧ W = (((w.alloc (.cells (tab8 64 b) 82)).alloc (.cells (tab32 64 (sch1 b 0)) 110)).alloc (.cells (tab32 64 (sch2 (sch1 b k) (t - 16))) 110)).drewN n) (fun i _ => 64 - (intOf i).toNat)
      case atStart => exact ⟨16, 0, by omega, by omega, rfl, rfl⟩
      case round =>
        obtain ⟨t, n, ht, hk, rfl, rfl⟩ := hrel
        by_cases hlt : t < 64
        · have h1 := tab32_get 64 (sch2 (sch1 b k) (t - 16)) (t - 2) (by omega)
          have h2 := tab32_get 64 (sch2 (sch1 b k) (t - 16)) (t - 7) (by omega)
          have h3 := tab32_get 64 (sch2 (sch1 b k) (t - 16)) (t - 15) (by omega)
          have h4 := tab32_get 64 (sch2 (sch1 b k) (t - 16)) (t - 16) (by omega)
          have h5 := tab32_get 64 (sch2 (sch1 b k) (t - 16)) t (by omega)
          have i1 : (16 : Int) ≤ t := by omega
          have i2 : (t : Int) < 64 := by omega
          have n1 : ¬ t = t - 2 := by omega
          have n2 : ¬ t = t - 7 := by omega
          have n3 : ¬ t = t - 15 := by omega
          have n4 : ¬ t = t - 16 := by omega
          have e1 : IntKind.i64.wrap ((t : Int) - 2) = ((t - 2 : Nat) : Int) := by simp [IntKind.wrap, IntKind.bits, IntKind.signed]; omega
          have e2 : IntKind.i64.wrap ((t : Int) - 7) = ((t - 7 : Nat) : Int) := by simp [IntKind.wrap, IntKind.bits, IntKind.signed]; omega
          have e3 : IntKind.i64.wrap ((t : Int) - 15) = ((t - 15 : Nat) : Int) := by simp [IntKind.wrap, IntKind.bits, IntKind.signed]; omega
          have e4 : IntKind.i64.wrap ((t : Int) - 16) = ((t - 16 : Nat) : Int) := by simp [IntKind.wrap, IntKind.bits, IntKind.signed]; omega
          have j2 : ((t - 2 : Nat) : Int) < 64 := by omega
          have j4 : ((t - 7 : Nat) : Int) < 64 := by omega
          have j6 : ((t - 15 : Nat) : Int) < 64 := by omega
          have j8 : ((t - 16 : Nat) : Int) < 64 := by omega
          go_wp2
          obtain ⟨V, hV⟩ : ∃ V, V = (((w.alloc (Obj.cells (tab8 64 b) 82)).alloc (Obj.cells (tab32 64 (sch1 b 0)) 110)).alloc (Obj.cells (tab32 64 (sch2 (sch1 b k) (t - 16))) 110)).drewN n := ⟨_, rfl⟩
          rw [← hV]
          have c1 : V.cell? ⟨w.heap.size + 2, t - 2, none⟩ = some (.int .u32 (sch2 (sch1 b k) (t - 16) (t - 2))) := by rw [hV, cell3]; exact h1
          have c2 : V.cell? ⟨w.heap.size + 2, t - 7, none⟩ = some (.int .u32 (sch2 (sch1 b k) (t - 16) (t - 7))) := by rw [hV, cell3]; exact h2
          have c3 : V.cell? ⟨w.heap.size + 2, t - 15, none⟩ = some (.int .u32 (sch2 (sch1 b k) (t - 16) (t - 15))) := by rw [hV, cell3]; exact h3
          have c4 : V.cell? ⟨w.heap.size + 2, t - 16, none⟩ = some (.int .u32 (sch2 (sch1 b k) (t - 16) (t - 16))) := by rw [hV, cell3]; exact h4
          have c5 : V.cell? ⟨w.heap.size + 2, t, none⟩ = some (.int .u32 (sch2 (sch1 b k) (t - 16) t)) := by rw [hV, cell3]; exact h5
          have c6 : V.frozen? ⟨w.heap.size + 2, t, none⟩ = false := by rw [hV, frozen3]
          have HV : Hid (_) := hV
          clear hV h1 h2 h3 h4 h5
          go_region_held (fun w' => w'.cell? ⟨w.heap.size + 2, t - 2, none⟩ = some (.int .u32 (sch2 (sch1 b k) (t - 16) (t - 2))) ∧ w'.cell? ⟨w.heap.size + 2, t - 7, none⟩ = some (.int .u32 (sch2 (sch1 b k) (t - 16) (t - 7)))
              ∧ w'.cell? ⟨w.heap.size + 2, t - 15, none⟩ = some (.int .u32 (sch2 (sch1 b k) (t - 16) (t - 15))) ∧ w'.cell? ⟨w.heap.size + 2, t - 16, none⟩ = some (.int .u32 (sch2 (sch1 b k) (t - 16) (t - 16)))) (first | exact ⟨keepCell n1 c1, keepCell n2 c2, keepCell n3 c3, keepCell n4 c4⟩ | go_keep)
            (first | (go_at_call 112; refine (sig1_any _ _).mono ?_; rintro e w' ⟨rfl, rfl⟩) | (go_at_call 113; refine (sig0_any _ _).mono ?_; rintro e w' ⟨rfl, rfl⟩))
          all_goals
            go_wp2
            go_roundw
            case rel =>
              refine ⟨t + 1, n + 1, by omega, by omega, by go_num, ?_⟩
              rw [HV.out]
              show World.setCell ((((w.alloc (Obj.cells (tab8 64 b) 82)).alloc (Obj.cells (tab32 64 (sch1 b 0)) 110)).alloc (Obj.cells (tab32 64 (sch2 (sch1 b k) (t - 16))) 110)).drewN (n + 1)) _ _ = _
              rw [setTop3, tab32_set]
              obtain ⟨j, rfl⟩ : ∃ j, t = 16 + j := ⟨t - 16, by omega⟩
              simp only [show 16 + j - 16 = j by omega, show 16 + j + 1 - 16 = j + 1 by omega]
              simp only [sch2, nextW, show 16 + j - 16 = j by omega]
            case measure => simp [intOf]; omega
        · have hb := heap3 w (.cells (tab8 64 b) 82) (.cells (tab32 64 (sch1 b 0)) 110) (.cells (tab32 64 (sch2 (sch1 b k) (t - 16))) 110) n
          have hbl := below3 w (.cells (tab8 64 b) 82) (.cells (tab32 64 (sch1 b 0)) 110) (.cells (tab32 64 (sch2 (sch1 b k) (t - 16))) 110) n
          have HB : Hid (_) := hb
          have HL : Hid (_) := hbl
          clear hb hbl
          go_wp2_with (first
            | refine wpList_load_row rfl 110 _ rfl _ rfl _ _ (0, 0) _ HB.out.2.2 Tryz.underlying110 rfl (size47' _) ?_
            | refine wpList_store_row rfl 110 _ _ rfl _ _ rfl rfl _ _ HB.out.2.1 (size47' _) (by simp only [tab32_size]) (tab32_one _ _) ?_)
          refine bodyPost_ret (v := .agg (tab32 64 (sch2 (sch1 b k) (t - 16)))) (results_cell_row Tryz.results105 _ _ _ _ _ (0, 0) _ rfl (setRow_heap _ _ _ _ _ _ HB.out.2.1) Tryz.underlying110 rfl (size47' _)) rfl ⟨?_, ?_⟩
          · rw [show t = 64 by omega, HK.out]
            rfl
          · exact below_setRow HL.out (by omega) _
end Go.Proofs.YtnjmcknanlbpdaaGreatDoor

namespace Go.Proofs.YtnjmcknanlbpdaaGreatDoor
open Go.RowKit

def not32 (x : Int) : Int := bits .xor .u32 (if IntKind.u32.signed = true then -1 else IntKind.u32.max) x
def t1 (K W : Nat → Int) (t : Nat) (r : Nat → Int) : Int := (r 7 + bsig1 (r 4) + bits .xor .u32 (bits .and .u32 (r 4) (r 5)) (bits .and .u32 (not32 (r 4)) (r 6)) + K t + W t) % 4294967296
def t2 (r : Nat → Int) : Int := (bsig0 (r 0) + bits .xor .u32 (bits .xor .u32 (bits .and .u32 (r 0) (r 1)) (bits .and .u32 (r 0) (r 2))) (bits .and .u32 (r 1) (r 2))) % 4294967296
def stepR (K W : Nat → Int) (t : Nat) (r : Nat → Int) : Nat → Int
  | 0 => (t1 K W t r + t2 r) % 4294967296
  | 1 => r 0
  | 2 => r 1
  | 3 => r 2
  | 4 => (r 3 + t1 K W t r) % 4294967296
  | 5 => r 4
  | 6 => r 5
  | 7 => r 6
  | _ => 0
def iterR (K W s : Nat → Int) : Nat → Nat → Int
  | 0 => s
  | t + 1 => stepR K W t (iterR K W s t)

theorem below_cell {B : Nat} {w w' : World} (h : Below B w w') {b o : Nat} (hb : b < B) : w'.cell? ⟨b, o, none⟩ = w.cell? ⟨b, o, none⟩ := h.cell (p := ⟨b, o, none⟩) hb

set_option maxHeartbeats 400000 in
theorem stirred_any (c : Array Value) (s b K : Nat → Int) (w : World) (hz : 1 < w.heap.size) (hb0 : ∀ i, 0 ≤ b i) (hb1 : ∀ i, b i < 256)
    (hK : ∀ i : Nat, i < 64 → w.cell? ⟨1, i, none⟩ = some (.int .u32 (K i)))
    (hs : ∀ i : Nat, i < 8 → c[i]? = some (.int .u32 (s i))) :
    Calls Tryz.prog 95 #[.agg c, .agg (tab8 64 b)] w fun e w' => e = .returned (.agg (tab32 8 (iterR K (sched b) s 64))) ∧ Below w.heap.size w w' := by
  go_enter Tryz.func95, Tryz.ntmps95
  have hb := heap3 w (.cells c 81) (.cells (tab8 64 b) 82) (.cells (tab32 8 (upto (fun _ => 0) 0)) 81) 0
  have HB : Hid (_) := hb
  clear hb
  have HK : Hid (_) := hK
  have HS : Hid (_) := hs
  clear hK hs
  go_wp2_with (first
        | refine wpList_load_row rfl 82 _ rfl _ rfl _ _ (0, 0) _ HB.out.2.1 Tryz.underlying82 rfl (size24' _) ?_
        | fail)
  refine (schedule_any b _ hb0 hb1).mono ?_
  rintro e w1 ⟨rfl, hbl⟩
  have HL : Hid (Below (w.heap.size + 3) ((((w.alloc (.cells c 81)).alloc (.cells (tab8 64 b) 82)).alloc (.cells (tab32 8 (upto (fun _ => 0) 0)) 81)).drewN 0) w1) := by
    rw [← w3_size w (.cells c 81) (.cells (tab8 64 b) 82) (.cells (tab32 8 (upto (fun _ => 0) 0)) 81) 0]
    exact hbl
  clear hbl
  go_wp2_with (first
        | (refine wpList_store_row rfl 110 _ _ rfl w1.heap.size _ rfl rfl 110 _ (heap_alloc_new _ _) (size47' _) (by simp only [tab32_size]; rfl) (tab32_one _ _) ?_; simp only [Act.put]; rw [World.setRow_alloc_new])
        | fail)
  obtain ⟨V, hV⟩ : ∃ V, V = w1.alloc (.cells (tab32 64 (sched b)) 110) := ⟨_, rfl⟩
  rw [← hV]
  obtain ⟨bW, hbW⟩ : ∃ bW, bW = w1.heap.size := ⟨_, rfl⟩
  rw [← hbW]
  have hsz : w.heap.size + 3 ≤ w1.heap.size := by have := HL.out.size; rw [w3_size] at this; exact this
  have hBel : Below w.heap.size w V := by
    rw [hV]
    exact ((below3 w (.cells c 81) (.cells (tab8 64 b) 82) (.cells (tab32 8 (upto (fun _ => 0) 0)) 81) 0).trans (HL.out.mono (by omega))).alloc (by omega) _
  have hblk : ∀ k, k < w.heap.size + 3 → V.heap[k]? = ((((w.alloc (.cells c 81)).alloc (.cells (tab8 64 b) 82)).alloc (.cells (tab32 8 (upto (fun _ => 0) 0)) 81)).drewN 0).heap[k]? := by
    intro k hk
    rw [hV, Below.heap_alloc _ _ _ (by omega)]
    exact HL.out.block k hk
  have hres : V.heap[w.heap.size + 2]? = some (.cells (tab32 8 (upto (fun _ => 0) 0)) 81) := by rw [hblk _ (by omega)]; exact HB.out.2.2
  have hV1 : ∀ i, i < 8 → V.cell? ⟨w.heap.size, i, none⟩ = some (.int .u32 (s i)) := by
    intro i hi
    rw [cell_of_row V w.heap.size i c 81 (0, 0) (by rw [hblk _ (by omega)]; exact HB.out.1)]
    exact HS.out i hi
  have hV2 : ∀ i, i < 64 → V.cell? ⟨bW, i, none⟩ = some (.int .u32 (sched b i)) := by
    intro i hi
    rw [hV, hbW, cell_of_row _ _ i _ 110 (0, 0) (heap_alloc_new w1 _)]
    exact tab32_get 64 _ i hi
  have hV3 : ∀ i, i < 64 → V.cell? ⟨1, i, none⟩ = some (.int .u32 (K i)) := by
    intro i hi
    rw [below_cell hBel (by omega)]
    exact HK.out i hi
  have s0 := hV1 0 (by omega)
  have s1 := hV1 1 (by omega)
  have s2 := hV1 2 (by omega)
  have s3 := hV1 3 (by omega)
  have s4 := hV1 4 (by omega)
  have s5 := hV1 5 (by omega)
  have s6 := hV1 6 (by omega)
  have s7 := hV1 7 (by omega)
  have A1 : Hid (_) := hBel
  have A2 : Hid (_) := hres
  have A3 : Hid (_) := hV2
  have A4 : Hid (_) := hV3
  clear hBel hres hV2 hV3 hV1 hblk hV hbW HL HB HK HS hb0 hb1 hsz
  go_wp2
  go_quiet (fail)
  go_wp2
  go_quiet (fail)
  go_wp2
  rw [show w.heap.size + 1 + 1 = w.heap.size + 2 from rfl]
  clear s0 s1 s2 s3 s4 s5 s6 s7
  go_loopw [6, 7, 8, 9, 10, 11, 12, 13, 35] (fun a b' c' d e f g h i W' => ∃ t n : Nat, t ≤ 64 ∧ i = .int .i64 t ∧ a = .int .u32 (iterR K (sched b) s t 0) ∧ b' = .int .u32 (iterR K (sched b) s t 1) ∧ c' = .int .u32 (iterR K (sched b) s t 2) ∧ d = .int .u32 (iterR K (sched b) s t 3) ∧ e = .int .u32 (iterR K (sched b) s t 4) ∧ f = .int .u32 (iterR K (sched b) s t 5) ∧ g = .int .u32 (iterR K (sched b) s t 6) ∧ h = .int .u32 (iterR K (sched b) s t 7) ∧ W' = V.drewN n) (fun _ _ _ _ _ _ _ _ i _ => 64 - (intOf i).toNat)
  case atStart => exact ⟨0, _, by omega, rfl, rfl, rfl, rfl, rfl, rfl, rfl, rfl, rfl, World.drewN_drewN _ _ _⟩
  case round =>
    obtain ⟨t, n, ht, rfl, rfl, rfl, rfl, rfl, rfl, rfl, rfl, rfl, rfl⟩ := hrel
    obtain ⟨X, hX⟩ : ∃ X, X = V.drewN n := ⟨_, rfl⟩
    rw [← hX]
    by_cases hlt : t < 64
    · have c1 : X.cell? ⟨bW, t, none⟩ = some (.int .u32 (sched b t)) := by rw [hX]; exact A3.out t hlt
      have c2 : X.cell? ⟨1, t, none⟩ = some (.int .u32 (K t)) := by rw [hX]; exact A4.out t hlt
      have HX : Hid (_) := hX
      clear hX
      have i2 : (t : Int) < 64 := by omega
      obtain ⟨r, hr⟩ : ∃ r, r = iterR K (sched b) s t := ⟨_, rfl⟩
      rw [← hr]
      have HR : Hid (_) := hr
      clear hr
      go_wp2
      go_quiet ((go_at_call 106; exact Calls.quiet_of_same (bsig1_any _ _)))
      go_wp2_with (go_at_call 107; refine (bsig0_any _ _).mono ?_; rintro e w' ⟨rfl, rfl⟩)
      go_roundw
      case rel =>
        have hr := HR.out
        subst hr
        refine ⟨t + 1, n + nq, by omega, by go_num, ?_, rfl, rfl, rfl, ?_, rfl, rfl, rfl, ?_⟩
        · rfl
        · rfl
        · rw [HX.out, World.drewN_drewN]
      case measure => simp [intOf]; omega
    · have hres : X.heap[w.heap.size + 2]? = some (.cells (tab32 8 (upto (fun _ => 0) 0)) 81) := by rw [hX]; exact A2.out
      have hBel : Below w.heap.size w X := by rw [hX]; exact below_drewN A1.out n
      have B1 : Hid (_) := hres
      have B2 : Hid (_) := hBel
      clear hres hBel hX
      go_wp2_with (first
        | (refine wpList_store_row rfl 81 _ _ rfl _ _ rfl rfl 81 _ B1.out (by kernel_rfl) (by simp only [tab32_size]; rfl) (by kernel_rfl) ?_))
      have he : (Value.agg #[.int .u32 (iterR K (sched b) s t 0), .int .u32 (iterR K (sched b) s t 1), .int .u32 (iterR K (sched b) s t 2), .int .u32 (iterR K (sched b) s t 3), .int .u32 (iterR K (sched b) s t 4), .int .u32 (iterR K (sched b) s t 5), .int .u32 (iterR K (sched b) s t 6), .int .u32 (iterR K (sched b) s t 7)]) = .agg (tab32 8 (iterR K (sched b) s t)) := rfl
      refine bodyPost_ret (v := .agg (tab32 8 (iterR K (sched b) s t))) (results_cell_row Tryz.results95 _ _ (w.heap.size + 2) 81 _ (0, 0) _ rfl (setRow_heap _ _ _ _ _ _ B1.out) Tryz.underlying81 rfl (size23' _)) rfl ⟨?_, ?_⟩
      · rw [show t = 64 by omega]
      · exact below_setRow B2.out (by omega) _
end Go.Proofs.YtnjmcknanlbpdaaGreatDoor
