import Derived.WalkKit
import Derived.WalkSpells
namespace Go.Proofs.YtedjoakpbknflaaDoor
open Go.RowKit

/-- A table of n words: the cells. -/
def tab32 (n : Nat) (f : Nat → Int) : Array Value := ((List.range n).map fun i => Value.int .u32 (f i)).toArray
def tab8 (n : Nat) (f : Nat → Int) : Array Value := ((List.range n).map fun i => Value.int .u8 (f i)).toArray
def upd (f : Nat → Int) (k : Nat) (v : Int) : Nat → Int := fun i => if i = k then v else f i

theorem tab32_size (n : Nat) (f : Nat → Int) : (tab32 n f).size = n := by simp [tab32]
theorem tab8_size (n : Nat) (f : Nat → Int) : (tab8 n f).size = n := by simp [tab8]
theorem tab32_get (n : Nat) (f : Nat → Int) (i : Nat) (h : i < n) : (tab32 n f)[i]? = some (.int .u32 (f i)) := by simp [tab32, h]
theorem tab8_get (n : Nat) (f : Nat → Int) (i : Nat) (h : i < n) : (tab8 n f)[i]? = some (.int .u8 (f i)) := by simp [tab8, h]
theorem tab32_set (n : Nat) (f : Nat → Int) (k : Nat) (v : Int) : (tab32 n f).setIfInBounds k (.int .u32 v) = tab32 n (upd f k v) := by
  apply Array.ext_getElem?
  intro i
  simp only [tab32, upd, Array.getElem?_setIfInBounds, List.size_toArray, List.length_map, List.length_range, List.getElem?_toArray, List.getElem?_map]
  by_cases h : k = i
  · subst h
    by_cases h' : k < n <;> simp [h']
  · have h2 : ¬ i = k := fun e => h e.symm
    by_cases h' : i < n <;> simp [h, h2, h']
theorem tab8_set (n : Nat) (f : Nat → Int) (k : Nat) (v : Int) : (tab8 n f).setIfInBounds k (.int .u8 v) = tab8 n (upd f k v) := by
  apply Array.ext_getElem?
  intro i
  simp only [tab8, upd, Array.getElem?_setIfInBounds, List.size_toArray, List.length_map, List.length_range, List.getElem?_toArray, List.getElem?_map]
  by_cases h : k = i
  · subst h
    by_cases h' : k < n <;> simp [h']
  · have h2 : ¬ i = k := fun e => h e.symm
    by_cases h' : i < n <;> simp [h, h2, h']
theorem tab32_congr {n : Nat} {f g : Nat → Int} (h : ∀ i, i < n → f i = g i) : tab32 n f = tab32 n g := by
  unfold tab32
  congr 1
  apply List.map_congr_left
  intro i hi
  rw [h i (List.mem_range.1 hi)]
theorem tab8_congr {n : Nat} {f g : Nat → Int} (h : ∀ i, i < n → f i = g i) : tab8 n f = tab8 n g := by
  unfold tab8
  congr 1
  apply List.map_congr_left
  intro i hi
  rw [h i (List.mem_range.1 hi)]
theorem tab32_one (n : Nat) (f : Nat → Int) : (tab32 n f).all (·.oneCell') = true := by
  simp [tab32, Value.oneCell']
theorem tab8_one (n : Nat) (f : Nat → Int) : (tab8 n f).all (·.oneCell') = true := by
  simp [tab8, Value.oneCell']
/-- The first k places of g, noughts behind. -/
def upto (g : Nat → Int) (k : Nat) : Nat → Int := fun i => if i < k then g i else 0
theorem upd_upto (g : Nat → Int) (k : Nat) : upd (upto g k) k (g k) = upto g (k + 1) := by
  funext i
  simp only [upd, upto]
  by_cases h : i = k
  · subst h; simp
  · by_cases h2 : i < k
    · simp [h, h2, show i < k + 1 by omega]
    · simp [h, h2, show ¬ i < k + 1 by omega]
end Go.Proofs.YtedjoakpbknflaaDoor
