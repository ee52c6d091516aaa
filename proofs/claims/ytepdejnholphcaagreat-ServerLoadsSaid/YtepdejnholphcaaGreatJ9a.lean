import Derived.Test.YtepdejnholphcaaGreatC9d
import Derived.Lib.BytesEntry
import Derived.Sort.Grow
namespace Go.Proofs.YtepdejnholphcaaGreat.Win
open Go.RowKit Gf8 Aes By8 Cel Cf
/- The program's compare: two tags as numbers, three ways. -/

def cmpT (a b : Nat) : Int := if a < b then -1 else if b < a then 1 else 0
/-- Bytes from place k on. -/
def bL (f : Nat → Nat) (k m : Nat) : List UInt8 := (List.range' k m).map fun i => (f i).toUInt8
theorem u8_lt {x y : Nat} (hx : x < 256) (hy : y < 256) : (x.toUInt8 < y.toUInt8) ↔ x < y := by
  rw [UInt8.lt_iff_toNat_lt]
  simp [Nat.mod_eq_of_lt hx, Nat.mod_eq_of_lt hy]
theorem cmp_first {f g : Nat → Nat} (hf : ∀ i, i < 16 → f i < 256) (hg : ∀ i, i < 16 → g i < 256) : ∀ (m k : Nat), k + m ≤ 16 →
    (Lib.compareBytes (bL f k m) (bL g k m) = 0 ∧ ∀ j, k ≤ j → j < k + m → f j = g j) ∨ ∃ i, k ≤ i ∧ i < k + m ∧ (∀ j, k ≤ j → j < i → f j = g j) ∧ ((f i < g i ∧ Lib.compareBytes (bL f k m) (bL g k m) = -1) ∨ (g i < f i ∧ Lib.compareBytes (bL f k m) (bL g k m) = 1))
  | 0, k, _ => Or.inl ⟨rfl, fun j h1 h2 => by omega⟩
  | m + 1, k, h => by
    have e : ∀ f, bL f k (m + 1) = (f k).toUInt8 :: bL f (k + 1) m := fun f => by simp [bL, List.range'_succ]
    have h1 := hf k (by omega)
    have h2 := hg k (by omega)
    rw [e, e, Lib.compareBytes]
    by_cases p : f k < g k
    · rw [if_pos ((u8_lt h1 h2).2 p)]
      exact Or.inr ⟨k, Nat.le_refl _, by omega, fun j a b => by omega, Or.inl ⟨p, rfl⟩⟩
    · rw [if_neg (fun q => p ((u8_lt h1 h2).1 q))]
      by_cases p2 : g k < f k
      · rw [if_pos ((u8_lt h2 h1).2 p2)]
        exact Or.inr ⟨k, Nat.le_refl _, by omega, fun j a b => by omega, Or.inr ⟨p2, rfl⟩⟩
      · rw [if_neg (fun q => p2 ((u8_lt h2 h1).1 q))]
        have ek : f k = g k := by omega
        rcases cmp_first hf hg m (k + 1) (by omega) with ⟨r, q⟩ | ⟨i, a, b, c, d⟩
        · refine Or.inl ⟨r, fun j x y => ?_⟩
          by_cases z : j = k
          · subst z; exact ek
          · exact q j (by omega) (by omega)
        · refine Or.inr ⟨i, by omega, by omega, fun j x y => ?_, d⟩
          by_cases z : j = k
          · subst z; exact ek
          · exact c j (by omega) y
theorem cmp_tv {f g : Nat → Nat} (hf : ∀ i, i < 16 → f i < 256) (hg : ∀ i, i < 16 → g i < 256) : Lib.compareBytes (bL f 0 16) (bL g 0 16) = cmpT (tv f 16) (tv g 16) := by
  unfold cmpT
  rcases cmp_first hf hg 16 0 (by omega) with ⟨r, q⟩ | ⟨i, a, b, c, ⟨p, r⟩ | ⟨p, r⟩⟩
  · have e := tv_eq (b := f) (c := g) fun j hj => q j (by omega) (by omega)
    rw [r, if_neg (by omega), if_neg (by omega)]
  · have e := tv_lt hf 16 i (by omega) (by omega) (fun j hj => c j (by omega) hj) p
    rw [r, if_pos e]
  · have e := tv_lt hg 16 i (by omega) (by omega) (fun j hj => (c j (by omega) hj).symm) p
    rw [r, if_neg (by omega), if_pos e]
/-- The library's entry at two rows of sixteen bytes. -/
theorem run_cmp16 {f g : Nat → Nat} (hf : ∀ i, i < 16 → f i < 256) (hg : ∀ i, i < 16 → g i < 256) {b c u v : Nat} {w : World} (hb : ∀ i, i < 16 → w.cell? ⟨b, 0 + i, none⟩ = some (.int .u8 ((f i : Nat) : Int))) (hc : ∀ i, i < 16 → w.cell? ⟨c, 0 + i, none⟩ = some (.int .u8 ((g i : Nat) : Int))) :
    (Extern.BytealgCompare.compare #[.slice (some ⟨b, 0, none⟩) 16 u, .slice (some ⟨c, 0, none⟩) 16 v]).run Tryz.prog w = .ok (.int .i64 (cmpT (tv f 16) (tv g 16))) w := by
  have key : ∀ (f : Nat → Nat) (b u : Nat), (∀ i, i < 16 → f i < 256) → (∀ i, i < 16 → w.cell? ⟨b, 0 + i, none⟩ = some (.int .u8 ((f i : Nat) : Int))) → (Extern.Bytes.bytesOf (.slice (some ⟨b, 0, none⟩) 16 u)).run Tryz.prog w = .ok ⟨(bL f 0 16).toArray⟩ w := by
    intro f b u hf hb
    have hl := Lib.run_loadBytesX (P := Tryz.prog) w ((List.range' 0 16).map fun i => ((f i : Nat) : Int)) ⟨b, 0, none⟩ .empty (fun j x hj => by
      have hjl := (List.getElem?_eq_some_iff.1 hj).1
      simp only [List.length_map, List.length_range'] at hjl
      have e : (⟨b, 0, none⟩ : Addr).add j = ⟨b, 0 + j, none⟩ := by unfold Addr.add; split <;> simp_all
      rw [e, hb j hjl]
      simp [hjl] at hj
      rw [← hj])
    have e2 : Lib.bytesOf ((List.range' 0 16).map fun i => ((f i : Nat) : Int)) = bL f 0 16 := by
      unfold Lib.bytesOf bL
      rw [List.map_map]
      apply List.map_congr_left
      intro i hi
      simp
    simp only [List.length_map, List.length_range'] at hl
    rw [e2] at hl
    simp only [Extern.Bytes.bytesOf]
    rw [hl]
    congr 1
  change Sem.run Tryz.prog (do pure (goInt (Extern.BytealgCompare.cmp (← Extern.Bytes.bytesOf (.slice (some ⟨b, 0, none⟩) 16 u)) (← Extern.Bytes.bytesOf (.slice (some ⟨c, 0, none⟩) 16 v))))) w = _
  simp only [Sem.run_bind, key f b u hf hb, key g c v hg hc, Result.andThen, Sem.run_pure]
  rw [Lib.cmp_eq]
  show Result.ok (goInt (Lib.compareBytes (bL f 0 16).toArray.toList (bL g 0 16).toArray.toList)) w = _
  rw [List.toList_toArray, List.toList_toArray, cmp_tv hf hg]
  rfl
set_option maxHeartbeats 1000000 in
set_option maxRecDepth 100000 in
theorem pbcompare {f g : Nat → Nat} (hf : ∀ i, i < 16 → f i < 256) (hg : ∀ i, i < 16 → g i < 256) {b c u v : Nat} {w : World} (hb : ∀ i, i < 16 → w.cell? ⟨b, 0 + i, none⟩ = some (.int .u8 ((f i : Nat) : Int))) (hc : ∀ i, i < 16 → w.cell? ⟨c, 0 + i, none⟩ = some (.int .u8 ((g i : Nat) : Int))) :
    Calls Tryz.prog 39 #[.slice (some ⟨b, 0, none⟩) 16 u, .slice (some ⟨c, 0, none⟩) 16 v] w fun e w' => e = .returned (.int .i64 (cmpT (tv f 16) (tv g 16))) ∧ w' = w := by
  go_enter Tryz.func39, Tryz.ntmps39
  go_wp2
  rw [run_callFunc_extern Tryz.func40 (by kernel_rfl) (by kernel_rfl) (by kernel_rfl) (e := Extern.BytealgCompare.compare) (by kernel_rfl), run_cmp16 hf hg hb hc]
  simp only [Result.andThen]
  rw [Oper.upon_value]
  go_wp2
  go_ret
  exact ⟨rfl, rfl⟩
/-- The program's compare, in whatever world: blocks may be laid behind it, nothing else turns. -/
theorem pcompare {f g : Nat → Nat} (hf : ∀ i, i < 16 → f i < 256) (hg : ∀ i, i < 16 → g i < 256) (W : World) :
    Calls Tryz.prog 38 #[.agg (bA 16 f), .agg (bA 16 g)] W fun e w' => e = .returned (.int .i64 (cmpT (tv f 16) (tv g 16))) ∧ ∃ q os', w' = Sort.grow (W.drewN q) os' := by
  go_enter Tryz.func38, Tryz.ntmps38
  go_wp2
  have ha : ((W.alloc (.cells (bA 16 f) 66)).alloc (.cells (bA 16 g) 66)).heap[W.heap.size]? = some (.cells (bA 16 f) 66) := by
    rw [heapOld _ _ (by rw [World.size_alloc]; omega)]; exact heapNew _ _
  have hb : ((W.alloc (.cells (bA 16 f) 66)).alloc (.cells (bA 16 g) 66)).heap[W.heap.size + 1]? = some (.cells (bA 16 g) 66) := by
    have := heapNew (W.alloc (.cells (bA 16 f) 66)) (.cells (bA 16 g) 66)
    rwa [World.size_alloc] at this
  go_region_with (go_at_call 39; refine (pbcompare hf hg (fun i hi => at16 (W := World.drew _) ha hi) (fun i hi => at16 (W := World.drew _) hb hi)).mono ?_; rintro e w' ⟨rfl, rfl⟩)
  all_goals go_wp2
  all_goals go_ret
  all_goals exact ⟨rfl, 1, #[.cells (bA 16 f) 66, .cells (bA 16 g) 66], by rw [Sort.alloc_eq_grow, Sort.alloc_eq_grow, Sort.grow_grow]; rfl⟩
end Go.Proofs.YtepdejnholphcaaGreat.Win
