import Derived.Test.YtedjoakpbknflaaDoorA5
import Derived.Test.YtedjoakpbknflaaDoorA3
namespace Go.Proofs.YtedjoakpbknflaaDoor
open Go.RowKit

def hList : List Int := [1779033703, 3144134277, 1013904242, 2773480762, 1359893119, 2600822924, 528734635, 1541459225]
def kList : List Int := [1116352408, 1899447441, 3049323471, 3921009573, 961987163, 1508970993, 2453635748, 2870763221, 3624381080, 310598401, 607225278, 1426881987, 1925078388, 2162078206, 2614888103, 3248222580, 3835390401, 4022224774, 264347078, 604807628, 770255983, 1249150122, 1555081692, 1996064986, 2554220882, 2821834349, 2952996808, 3210313671, 3336571891, 3584528711, 113926993, 338241895, 666307205, 773529912, 1294757372, 1396182291, 1695183700, 1986661051, 2177026350, 2456956037, 2730485921, 2820302411, 3259730800, 3345764771, 3516065817, 3600352804, 4094571909, 275423344, 430227734, 506948616, 659060556, 883997877, 958139571, 1322822218, 1537002063, 1747873779, 1955562222, 2024104815, 2227730452, 2361852424, 2428436474, 2756734187, 3204031479, 3329325298]
def hW (i : Nat) : Int := hList.getD i 0
def kW (i : Nat) : Int := kList.getD i 0

/-- The two tables lie in their blocks. -/
structure Glob (w : World) : Prop where
  sz : 1 < w.heap.size
  h : ∀ i : Nat, i < 8 → w.cell? ⟨0, i, none⟩ = some (.int .u32 (hW i))
  k : ∀ i : Nat, i < 64 → w.cell? ⟨1, i, none⟩ = some (.int .u32 (kW i))
theorem Glob.below {w w' : World} {B : Nat} (g : Glob w) (h : Below B w w') (hB : 2 ≤ B) : Glob w' :=
  ⟨by have := h.size; have := g.sz; omega, fun i hi => by rw [below_cell h (by omega)]; exact g.h i hi, fun i hi => by rw [below_cell h (by omega)]; exact g.k i hi⟩

/-- A hash's cells. -/
def hcells (g r : Nat → Int) (n : Int) : Array Value := tab32 8 g ++ tab8 64 r ++ #[.int .u64 n]
theorem hc_size (g r : Nat → Int) (n : Int) : (hcells g r n).size = 73 := by simp [hcells, tab32_size, tab8_size]
theorem hc_g (g r : Nat → Int) (n : Int) (i : Nat) (h : i < 8) : (hcells g r n)[i]? = some (.int .u32 (g i)) := by
  unfold hcells
  rw [Array.getElem?_append_left (by simp [tab32_size, tab8_size]; omega), Array.getElem?_append_left (by simp [tab32_size]; omega)]
  exact tab32_get 8 g i h
theorem hc_r (g r : Nat → Int) (n : Int) (i : Nat) (h : i < 64) : (hcells g r n)[8 + i]? = some (.int .u8 (r i)) := by
  unfold hcells
  rw [Array.getElem?_append_left (by simp [tab32_size, tab8_size]; omega), Array.getElem?_append_right (by simp [tab32_size])]
  simp only [tab32_size, Nat.add_sub_cancel_left]
  exact tab8_get 64 r i h
theorem hc_n (g r : Nat → Int) (n : Int) : (hcells g r n)[72]? = some (.int .u64 n) := by
  unfold hcells
  rw [Array.getElem?_append_right (by simp [tab32_size, tab8_size])]
  simp [tab32_size, tab8_size]
/-- Which place is it? -/
theorem hc_ext {g' r' : Nat → Int} {n' : Int} {c : Array Value} (hs : c.size = 73) (hg : ∀ i, i < 8 → c[i]? = some (.int .u32 (g' i))) (hr : ∀ i, i < 64 → c[8 + i]? = some (.int .u8 (r' i))) (hn : c[72]? = some (.int .u64 n')) : c = hcells g' r' n' := by
  apply Array.ext_getElem?
  intro i
  by_cases h1 : i < 8
  · rw [hg i h1, hc_g _ _ _ i h1]
  · by_cases h2 : i < 72
    · obtain ⟨j, rfl⟩ : ∃ j, i = 8 + j := ⟨i - 8, by omega⟩
      rw [hr j (by omega), hc_r _ _ _ j (by omega)]
    · by_cases h3 : i = 72
      · subst h3; rw [hn, hc_n]
      · rw [Array.getElem?_eq_none (by omega), Array.getElem?_eq_none (by rw [hc_size]; omega)]
theorem hc_set_g (g r : Nat → Int) (n : Int) (k : Nat) (v : Int) (hk : k < 8) : (hcells g r n).setIfInBounds k (.int .u32 v) = hcells (upd g k v) r n := by
  refine hc_ext (by simp [hc_size]) ?_ ?_ ?_
  · intro i hi
    rw [Array.getElem?_setIfInBounds]
    by_cases h : k = i
    · subst h; simp [hc_size, upd, show k < 73 by omega]
    · rw [if_neg h, hc_g _ _ _ i hi]; simp [upd, show ¬ i = k from fun e => h e.symm]
  · intro i hi
    rw [Array.getElem?_setIfInBounds, if_neg (by omega), hc_r _ _ _ i hi]
  · rw [Array.getElem?_setIfInBounds, if_neg (by omega), hc_n]
theorem hc_set_r (g r : Nat → Int) (n : Int) (k : Nat) (v : Int) (hk : k < 64) : (hcells g r n).setIfInBounds (8 + k) (.int .u8 v) = hcells g (upd r k v) n := by
  refine hc_ext (by simp [hc_size]) ?_ ?_ ?_
  · intro i hi
    rw [Array.getElem?_setIfInBounds, if_neg (by omega), hc_g _ _ _ i hi]
  · intro i hi
    rw [Array.getElem?_setIfInBounds]
    by_cases h : k = i
    · subst h; simp [hc_size, upd, show 8 + k < 73 by omega]
    · rw [if_neg (by omega), hc_r _ _ _ i hi]; simp [upd, show ¬ i = k from fun e => h e.symm]
  · rw [Array.getElem?_setIfInBounds, if_neg (by omega), hc_n]
theorem hc_set_n (g r : Nat → Int) (n v : Int) : (hcells g r n).setIfInBounds 72 (.int .u64 v) = hcells g r v := by
  refine hc_ext (by simp [hc_size]) ?_ ?_ ?_
  · intro i hi
    rw [Array.getElem?_setIfInBounds, if_neg (by omega), hc_g _ _ _ i hi]
  · intro i hi
    rw [Array.getElem?_setIfInBounds, if_neg (by omega), hc_r _ _ _ i hi]
  · rw [Array.getElem?_setIfInBounds]; simp [hc_size]
theorem hc_one (g r : Nat → Int) (n : Int) : (hcells g r n).all (·.oneCell') = true := by
  simp only [hcells, Array.all_append, tab32_one, tab8_one]
  simp [Value.oneCell']
theorem size27' (g r : Nat → Int) (n : Int) : (Tryd.prog.info? 27).map (·.size) = some (hcells g r n).size := by rw [hc_size]; kernel_rfl

/-- cells laid over others from a place on -/
def splice (c : Array Value) : Nat → List Value → Array Value
  | _, [] => c
  | o, v :: vs => splice (c.setIfInBounds o v) (o + 1) vs
theorem splice_size (vs : List Value) : ∀ (c : Array Value) (o : Nat), (splice c o vs).size = c.size := by
  induction vs with
  | nil => intro c o; rfl
  | cons v vs ih => intro c o; simp only [splice]; rw [ih]; simp
theorem splice_get (vs : List Value) : ∀ (c : Array Value) (o i : Nat), o + vs.length ≤ c.size → (splice c o vs)[i]? = if o ≤ i ∧ i < o + vs.length then vs[i - o]? else c[i]? := by
  induction vs with
  | nil => intro c o i h; simp only [splice, List.length_nil]; rw [if_neg (by omega)]
  | cons v vs ih =>
    intro c o i h
    simp only [splice, List.length_cons] at h ⊢
    rw [ih _ _ _ (by simp; omega)]
    by_cases h1 : i = o
    · subst h1
      rw [if_neg (by omega), if_pos (by omega)]
      simp [show i < c.size by omega]
    · by_cases h2 : o + 1 ≤ i ∧ i < o + 1 + vs.length
      · rw [if_pos h2, if_pos (by omega)]
        obtain ⟨j, rfl⟩ : ∃ j, i = o + 1 + j := ⟨i - (o + 1), by omega⟩
        rw [show o + 1 + j - (o + 1) = j by omega, show o + 1 + j - o = j + 1 by omega]
        rfl
      · rw [if_neg h2, if_neg (by omega), Array.getElem?_setIfInBounds, if_neg (fun e => h1 e.symm)]
theorem heap_setCells (vs : List Value) : ∀ (W : World) (b o : Nat) (c : Array Value) (t : TypeId) (fr : Nat × Nat), W.heap[b]? = some (.cells c t fr) → (W.setCells b o vs).heap[b]? = some (.cells (splice c o vs) t fr) ∧ Below b W (W.setCells b o vs) ∧ (W.setCells b o vs).heap.size = W.heap.size := by
  induction vs with
  | nil => intro W b o c t fr h; exact ⟨h, Below.refl _ _, rfl⟩
  | cons v vs ih =>
    intro W b o c t fr h
    rw [World.setCells]
    have e := setCell_eq_setRow W b o c t fr v h
    have h2 : (W.setCell ⟨b, o, none⟩ v).heap[b]? = some (.cells (c.setIfInBounds o v) t fr) := by rw [e]; exact setRow_heap _ _ _ _ _ _ h
    obtain ⟨i1, i2, i3⟩ := ih (W.setCell ⟨b, o, none⟩ v) b (o + 1) _ t fr h2
    refine ⟨i1, ((Below.refl b W).setCell (p := ⟨b, o, none⟩) (Nat.le_refl _) v).trans i2, ?_⟩
    rw [i3, e, setRow_size]
theorem hc_splice (g r r' : Nat → Int) (n : Int) : splice (hcells g r n) 8 (tab8 64 r').toList = hcells g r' n := by
  have hl : (tab8 64 r').toList.length = 64 := by simp [tab8]
  have hg := splice_get (tab8 64 r').toList (hcells g r n) 8
  rw [hl, hc_size] at hg
  refine hc_ext (by rw [splice_size, hc_size]) ?_ ?_ ?_
  · intro i hi
    rw [hg i (by omega), if_neg (by omega), hc_g _ _ _ i hi]
  · intro i hi
    rw [hg _ (by omega), if_pos (by omega), Nat.add_sub_cancel_left]
    have := tab8_get 64 r' i hi
    simpa using this
  · rw [hg _ (by omega), if_neg (by omega), hc_n]
end Go.Proofs.YtedjoakpbknflaaDoor
