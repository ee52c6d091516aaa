import Derived.Test.YtijibdapooalcabJ9a
import Derived.Test.YtijibdapooalcabC9f
import Derived.Shelf.SlSortCmp.WholeK
namespace Go.Proofs.Ytijibdapooalcab.Win
open Go.RowKit Gf8 Aes By8 Cel Cf
/- slices.SortFunc of tags by compare: the shelf's contract laid at this program, in plain words. -/

def sortLR : Go.Shelf.Ren := ⟨fun | 6 => 36 | 15 => 45 | 14 => 44 | 28 => 56 | 29 => 57 | 20 => 48 | 21 => 49 | 22 => 50 | 23 => 51 | 24 => 52 | 25 => 53 | 26 => 54 | 27 => 55 | 46 => 60 | 47 => 61 | 48 => 62 | 49 => 63 | 50 => 64 | 57 => 65 | n => n, fun | 22 => 25 | 24 => 36 | 25 => 70 | 3 => 3 | 39 => 63 | 0 => 0 | 53 => 90 | 55 => 92 | 4 => 4 | 46 => 83 | 45 => 82 | 50 => 87 | 5 => 5 | 9 => 9 | 66 => 94 | 70 => 98 | 76 => 100 | 77 => 101 | n => n, fun | n => n⟩
theorem sortL : Go.Proofs.SlLaysF0.n6 Try.prog sortLR := {
  mixed := by kernel_rfl,
  f6 := ⟨Try.f36.name, by decide, Try.func36.trans (congrArg some (by kernel_rfl))⟩,
  f14 := ⟨Try.f44.name, by decide, Try.func44.trans (congrArg some (by kernel_rfl))⟩,
  f15 := Try.func45.trans (congrArg some (by kernel_rfl)),
  f20 := ⟨Try.f48.name, by decide, Try.func48.trans (congrArg some (by kernel_rfl))⟩,
  f21 := ⟨Try.f49.name, by decide, Try.func49.trans (congrArg some (by kernel_rfl))⟩,
  f22 := ⟨Try.f50.name, by decide, Try.func50.trans (congrArg some (by kernel_rfl))⟩,
  f23 := ⟨Try.f51.name, by decide, Try.func51.trans (congrArg some (by kernel_rfl))⟩,
  f24 := ⟨Try.f52.name, by decide, Try.func52.trans (congrArg some (by kernel_rfl))⟩,
  f25 := ⟨Try.f53.name, by decide, Try.func53.trans (congrArg some (by kernel_rfl))⟩,
  f26 := ⟨Try.f54.name, by decide, Try.func54.trans (congrArg some (by kernel_rfl))⟩,
  f27 := ⟨Try.f55.name, by decide, Try.func55.trans (congrArg some (by kernel_rfl))⟩,
  f28 := Try.func56.trans (congrArg some (by kernel_rfl)),
  f29 := Try.func57.trans (congrArg some (by kernel_rfl)),
  f46 := ⟨Try.f60.name, by decide, Try.func60.trans (congrArg some (by kernel_rfl))⟩,
  f47 := Try.func61.trans (congrArg some (by kernel_rfl)),
  f48 := Try.func62.trans (congrArg some (by kernel_rfl)),
  f49 := ⟨Try.f63.name, by decide, Try.func63.trans (congrArg some (by kernel_rfl))⟩,
  f50 := ⟨Try.f64.name, by decide, Try.func64.trans (congrArg some (by kernel_rfl))⟩,
  f57 := ⟨Try.f65.name, by decide, Try.func65.trans (congrArg some (by kernel_rfl))⟩,
  t0 := Try.underlying0,
  a0 := Try.isAgg0,
  z0 := Try.sizeOf0,
  v0 := Try.zeroValue0,
  t3 := Try.underlying3,
  a3 := Try.isAgg3,
  z3 := Try.sizeOf3,
  v3 := Try.zeroValue3,
  t4 := Try.underlying4,
  a4 := Try.isAgg4,
  z4 := Try.sizeOf4,
  v4 := Try.zeroValue4,
  t5 := Try.underlying5,
  a5 := Try.isAgg5,
  z5 := Try.sizeOf5,
  v5 := Try.zeroValue5,
  t9 := Try.underlying9,
  a9 := Try.isAgg9,
  z9 := Try.sizeOf9,
  v9 := Try.zeroValue9,
  t22 := Try.underlying25,
  a22 := Try.isAgg25,
  z22 := Try.sizeOf25,
  v22 := Try.zeroValue25,
  t25 := Try.underlying70,
  a25 := Try.isAgg70,
  z25 := Try.sizeOf70,
  v25 := Try.zeroValue70,
  t39 := Try.underlying63,
  a39 := Try.isAgg63,
  z39 := Try.sizeOf63,
  v39 := Try.zeroValue63,
  t45 := Try.underlying82,
  a45 := Try.isAgg82,
  z45 := Try.sizeOf82,
  v45 := Try.zeroValue82,
  t46 := Try.underlying83,
  a46 := Try.isAgg83,
  z46 := Try.sizeOf83,
  v46 := Try.zeroValue83,
  t50 := Try.underlying87,
  a50 := Try.isAgg87,
  z50 := Try.sizeOf87,
  v50 := Try.zeroValue87,
  t53 := Try.underlying90,
  a53 := Try.isAgg90,
  z53 := Try.sizeOf90,
  v53 := Try.zeroValue90,
  t55 := Try.underlying92,
  a55 := Try.isAgg92,
  z55 := Try.sizeOf92,
  v55 := Try.zeroValue92,
  t66 := Try.underlying94,
  a66 := Try.isAgg94,
  z66 := Try.sizeOf94,
  v66 := Try.zeroValue94,
  t70 := Try.underlying98,
  a70 := Try.isAgg98,
  z70 := Try.sizeOf98,
  v70 := Try.zeroValue98,
  t76 := Try.underlying100,
  a76 := Try.isAgg100,
  z76 := Try.sizeOf100,
  v76 := Try.zeroValue100,
  t77 := Try.underlying101,
  a77 := Try.isAgg101,
  z77 := Try.sizeOf101,
  v77 := Try.zeroValue101 }

/-- A tag's bytes, whatever the numbers. -/
def md (f : Nat → Nat) (i : Nat) : Nat := f i % 256
theorem md_lt (f : Nat → Nat) : ∀ i, i < 16 → md f i < 256 := fun _ _ => Nat.mod_lt _ (by omega)
def enT (f : Nat → Nat) : List Value := bytesL 16 (md f)
def cfT (f g : Nat → Nat) : Int := cmpT (tv (md f) 16) (tv (md g) 16)
theorem lt_cfT (f g : Nat → Nat) : ltOf cfT f g = decide (tv (md f) 16 < tv (md g) 16) := by
  unfold ltOf cfT cmpT
  by_cases h : tv (md f) 16 < tv (md g) 16
  · simp [h]
  · by_cases h2 : tv (md g) 16 < tv (md f) 16 <;> simp [h, h2]
theorem swoT : Sort.SWO (ltOf cfT) where
  irrefl x := by rw [lt_cfT]; simp
  trans x y z h1 h2 := by rw [lt_cfT] at *; simp at *; omega
  ntrans x y z h1 h2 := by rw [lt_cfT] at *; simp at *; omega
theorem enT_at (f : Nat → Nat) {i : Nat} (h : i < 16) : (enT f)[i]! = .int .u8 ((f i % 256 : Nat) : Int) := by
  have h2 := bA_at 16 (md f) h
  rw [← Array.getElem?_toList] at h2
  rw [List.getElem!_eq_getElem?_getD]
  show ((bytesL 16 (md f))[i]?).getD _ = _
  rw [show (bytesL 16 (md f)) = (bA 16 (md f)).toList from rfl, h2]
  rfl
abbrev flatOf (d : Array (Nat → Nat)) : Array Value := Sort.flatK enT 16 d
theorem heapS {W : World} {g : Nat} {cur : Array Value} {e : TypeId} {fr : Nat × Nat} (hb : W.heap[g]? = some (.cells cur e fr)) (m : Nat) (d : Array (Nat → Nat)) (os : Array Obj) : (sortWorldK enT 16 W g 0 m d os).heap[g]? = some (.cells (Sort.putCells id 0 (flatOf d) cur) e fr) := by
  have hg : g < W.heap.size := (Array.getElem?_eq_some_iff.1 hb).1
  unfold sortWorldK
  rw [Sort.heap_grow_old _ _ (by simpa [Sort.putRowK] using hg)]
  simp [Sort.putRowK, Sort.putRow, Sort.mapBlock, Sort.ahead, Array.getElem?_modify, hb, Sort.onCells]
theorem grownS {W : World} {g n cap m : Nat} {d : Array (Nat → Nat)} {os : Array Obj} : W.grownBy (sortWorldK enT 16 W g 0 m d os) (Value.slice (some ⟨g, 0, none⟩) n cap).ownBlock := by
  unfold sortWorldK
  refine ⟨rfl, rfl, rfl, by simp [Sort.putRowK], fun k hk hne => ?_⟩
  rw [Sort.heap_grow_old _ _ (by simpa [Sort.putRowK] using hk)]
  have : g ≠ k := fun e => hne (by rw [e]; rfl)
  simp [Sort.putRowK, Sort.putRow, Sort.mapBlock, Sort.ahead, Array.getElem?_modify, this]
theorem psort {B : Nat} {W : World} {v : Value} {n : Nat} {t : Nat → Nat → Nat} (h : W.ownsRow B 36 16 v n (tgV t n)) (hy : ∀ j, j < n → ∀ i, i < 16 → t j i < 256) (h0 : 0 < n) (hn : n < 4611686018427387904) :
    Calls Try.prog 36 #[v, .func (.func 37) #[] #[]] W fun e w' => e = .returned (.tuple #[]) ∧ ∃ s, w'.ownsRow B 36 16 v n (tgV s n) ∧ (∀ j, j < n → ∀ i, i < 16 → s j i < 256) ∧ (tgL n s).Perm (tgL n t) ∧ (tgL n s).Pairwise (· ≤ ·) ∧ W.grownBy w' v.ownBlock := by
  rcases h.2 with ⟨_, q⟩ | ⟨g, cap, cur, rfl, hB, hg, q1, q2, q3, q4⟩
  · omega
  have hgs : g < W.heap.size := (Array.getElem?_eq_some_iff.1 hg).1
  let d : Array (Nat → Nat) := ((List.range n).map t).toArray
  have ds : d.size = n := by simp [d]
  have dg : ∀ j, j < n → d[j]! = t j := fun j hj => by simp [d, hj]
  have hH : Sort.HoldsK enT 16 W g 0 d := by
    intro k hk
    rw [Sort.size_flatK, ds] at hk
    have hd : k / 16 < n := by omega
    refine ⟨?_, by simp [World.frozen?, hg]⟩
    rw [Sort.get_flatK _ _ _ _ (by rw [ds]; exact hk), dg _ hd, enT_at _ (Nat.mod_lt _ (by omega)), Nat.mod_eq_of_lt (hy _ hd _ (Nat.mod_lt _ (by omega)))]
    have h5 := tgV_at t n (k / 16) (k % 16) hd (Nat.mod_lt _ (by omega))
    rw [show k / 16 * 16 + k % 16 = k by omega, ← q4, List.getElem?_take_of_lt (by omega)] at h5
    rw [cell_of_row _ _ _ _ _ _ hg, Nat.zero_add, ← Array.getElem?_toList, h5]
    rfl
  have eg : ∀ args w, (callFunc 37 args).run Try.prog w = .ok (.enter 37 args) w := enters_of Try.func37 (by kernel_rfl) rfl
  have hc : CmpLays Try.prog 37 #[] enT 16 cfT g 0 d.size W := fun m os dk _ x y => pcompare (md_lt x) (md_lt y) _
  have hcon := AnyQ.slices_SortFunc sortL 16 Try.isAgg36 Try.sizeOf36 enT (fun f => bytesL_len 16 (md f)) (fun f x hx => by
    obtain ⟨i, hi⟩ := List.getElem?_of_mem hx
    have hil := (List.getElem?_eq_some_iff.1 hi).1
    rw [show (enT f).length = 16 from bytesL_len 16 (md f)] at hil
    have := enT_at f hil
    rw [List.getElem!_eq_getElem?_getD, hi] at this
    rw [show x = _ from this]
    rfl) cfT swoT 37 #[] g 0 cap d W eg hc hH hgs (by rw [ds]; exact hn)
  rw [ds] at hcon
  refine hcon.mono ?_
  rintro e w' ⟨rfl, d2, m, os, ⟨p1, -, p3⟩, srt2, rfl⟩
  refine ⟨rfl, fun j => md d2[j]!, ?_, fun j _ => md_lt _, ?_, ?_, ?_⟩
  · have hs : (flatOf d2).size = n * 16 := by rw [Sort.size_flatK, p1, ds]
    refine ⟨tgV_len _ _, Or.inr ⟨g, cap, _, rfl, hB, heapS hg _ _ _, q1, q2, by simp [Sort.putCells, q3], ?_⟩⟩
    apply List.ext_getElem?
    intro k
    by_cases hk : k < n * 16
    · have hd : k / 16 < n := by omega
      have h5 := tgV_at (fun j => md d2[j]!) n (k / 16) (k % 16) hd (Nat.mod_lt _ (by omega))
      rw [show k / 16 * 16 + k % 16 = k by omega] at h5
      rw [h5, List.getElem?_take_of_lt hk, Array.getElem?_toList]
      have hc2 : k < cur.size := by rw [q3]; omega
      simp only [Sort.putCells, Array.getElem?_mapIdx, Array.getElem?_eq_getElem hc2, Option.map_some, Nat.zero_le, true_and, Nat.zero_add, Nat.sub_zero, id]
      rw [if_pos (by rw [hs]; exact hk)]
      rw [show (flatOf d2)[k]! = _ from Sort.get_flatK _ _ _ _ (by rw [p1, ds]; exact hk), enT_at _ (Nat.mod_lt _ (by omega))]
      rfl
    · rw [List.getElem?_eq_none (by rw [List.length_take]; omega), List.getElem?_eq_none (by rw [tgV_len]; omega)]
  · have e1 : (d.extract 0 n).toList = (List.range n).map t := by
      have : d.extract 0 n = d := by rw [← ds]; exact Array.extract_size
      rw [this]
    have e2 : (d2.extract 0 n).toList = d2.toList := by
      have : d2.extract 0 n = d2 := by rw [show n = d2.size by rw [p1, ds]]; exact Array.extract_size
      rw [this]
    rw [e1, e2] at p3
    have e3 : tgL n (fun j => md d2[j]!) = d2.toList.map fun f => tv (md f) 16 := by
      unfold tgL
      apply List.ext_getElem?
      intro k
      by_cases hk : k < n
      · have : k < d2.size := by rw [p1, ds]; exact hk
        simp [hk, this]
      · rw [List.getElem?_eq_none (by simp; omega), List.getElem?_eq_none (by simp [p1, ds]; omega)]
    have e4 : tgL n t = ((List.range n).map t).map fun f => tv (md f) 16 := by
      unfold tgL
      rw [List.map_map]
      apply List.map_congr_left
      intro k hk
      refine tv_eq fun i hi => ?_
      show t k i = t k i % 256
      rw [Nat.mod_eq_of_lt (hy k (List.mem_range.1 hk) i hi)]
    rw [e3, e4]
    exact p3.map _
  · unfold tgL
    rw [List.pairwise_map]
    refine List.Pairwise.imp_of_mem (R := (· < ·)) ?_ List.pairwise_lt_range
    intro a b ha hb hab
    have := srt2 a b (Nat.zero_le _) hab (List.mem_range.1 hb)
    rw [lt_cfT] at this
    have := of_decide_eq_false this
    show tv (md d2[a]!) 16 ≤ tv (md d2[b]!) 16
    omega
  · exact grownS
end Go.Proofs.Ytijibdapooalcab.Win
