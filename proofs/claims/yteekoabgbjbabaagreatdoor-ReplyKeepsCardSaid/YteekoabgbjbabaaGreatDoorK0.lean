import Derived.Test.YteekoabgbjbabaaGreatDoorF3
import Derived.Test.YteekoabgbjbabaaGreatDoorB3
import Derived.Test.YteekoabgbjbabaaGreatDoorA7
import Derived.Laws.BytesArg
import Derived.Lib.SlBytesConst
namespace Go.Proofs.YteekoabgbjbabaaGreatDoor
open Go.RowKit

/-- The reference's state behind j blocks of P. -/
def rst (P : Nat → Int) : Nat → Nat → Int
  | 0 => hW
  | j + 1 => fun i => (rst P j i + iterR kW (sched fun b => P (64 * j + b)) (rst P j) 64 i) % 4294967296
theorem rst_succ (P : Nat → Int) (j : Nat) : rst P (j + 1) = fun i => (rst P j i + iterR kW (sched fun b => P (64 * j + b)) (rst P j) 64 i) % 4294967296 := by
  simp only [rst]
/-- The padded list as a function. -/
def padF (p : Nat → Int) (len z : Nat) : Nat → Int := fun i => (padL p len z 8).getD i 0
theorem lenB_bd (n i : Nat) : 0 ≤ lenB n i ∧ lenB n i < 256 := by unfold lenB; omega
theorem padF_bd (p : Nat → Int) (len z : Nat) (hp : ∀ j, j < len → 0 ≤ p j ∧ p j < 256) (i : Nat) : 0 ≤ padF p len z i ∧ padF p len z i < 256 := by
  unfold padF
  rw [List.getD_eq_getElem?_getD]
  cases h : (padL p len z 8)[i]? with
  | none => simp
  | some x =>
    have hm := List.mem_of_getElem? h
    simp only [Option.getD_some]
    simp only [padL, firstL, List.mem_append, List.mem_map, List.mem_range, List.mem_singleton, List.mem_replicate] at hm
    rcases hm with ((⟨j, hj, rfl⟩ | rfl) | ⟨_, rfl⟩) | ⟨j, _, rfl⟩
    · exact hp j hj
    · omega
    · omega
    · exact lenB_bd _ _

/-- The blocks of the reference's Sum. -/
structure RB (w W : World) (S Kb g T : Nat) (P s : Nat → Int) : Prop where
  r : W.heap[w.heap.size]? = some (.cells (tab8 32 fun _ => 0) 54)
  s : W.heap[S]? = some (.cells (tab32 8 s) 69)
  k : W.heap[Kb]? = some (.cells (tab32 64 kW) 119)
  m : ∀ i, i < T → W.cell? ⟨g, i, none⟩ = some (.int .u8 (P i))
  o1 : w.heap.size < S
  o2 : S < Kb
  o3 : Kb < g
  o4 : g < W.heap.size
  below : Below w.heap.size w W
theorem RB.go {w W W' : World} {S Kb g T : Nat} {P s : Nat → Int} (h : RB w W S Kb g T P s) (hb : Below W.heap.size W W') : RB w W' S Kb g T P s := by
  have h1 := h.o1
  have h2 := h.o2
  have h3 := h.o3
  have h4 := h.o4
  have h5 := hb.size
  exact ⟨by rw [hb.block _ (by omega)]; exact h.r, by rw [hb.block _ (by omega)]; exact h.s, by rw [hb.block _ (by omega)]; exact h.k, fun i hi => by rw [below_cell hb h4]; exact h.m i hi, h1, h2, h3, by omega, h.below.trans (hb.mono (by omega))⟩
theorem RB.setS {w W : World} {S Kb g T : Nat} {P s : Nat → Int} (h : RB w W S Kb g T P s) (s' : Nat → Int) : RB w (W.setRow S (tab32 8 s')) S Kb g T P s' := by
  have h1 := h.o1
  have h2 := h.o2
  have h3 := h.o3
  have h4 := h.o4
  exact ⟨by rw [setRow_other _ _ _ _ (by omega)]; exact h.r, setRow_heap _ _ _ _ _ _ h.s, by rw [setRow_other _ _ _ _ (by omega)]; exact h.k, fun i hi => by rw [cell_setRow_other _ _ _ _ (by simp; omega)]; exact h.m i hi, h1, h2, h3, by simpa using h4, below_setRow h.below (by omega) _⟩

set_option maxRecDepth 20000 in
set_option maxHeartbeats 2000000 in
theorem rsum_any (v : Value) (len : Nat) (p : Nat → Int) (w : World) (hbig : len + 200 ≤ 200000000000000) (hv : SliceB w v len p) (hnil : ∀ cap, v = .slice none len cap → cap = 0) :
    Calls Tryz.prog 77 #[v] w fun e w' => ∃ z, z < 64 ∧ (len + 1 + z) % 64 = 56 ∧ e = .returned (.agg (tab8 32 (digB (rst (padF p len z) ((len + 1 + z + 8) / 64))))) ∧ Below w.heap.size w w' := by
  have HB : Hid (_) := hbig
  have HV : Hid (SliceB w v len p) := hv
  have HN : Hid (_) := hnil
  clear hbig hv hnil
  have z28 := zero28
  go_enter Tryz.func77, Tryz.ntmps77
  go_wp2_with (first
    | (refine isStore 69 (.tmp 3) (.tmp 9) rfl ?_; go_must (refine wpList_store_row rfl 69 (.tmp 3) (.tmp 9) rfl (w.heap.size + 1) (tab32 8 hW) rfl (by rfl) 69 _ (heap2 w _ _).2 (size23' _) (by simp only [tab32_size]; rfl) (tab32_one _ _) ?_; simp only [Act.put])))
  clear z28
  have h2 := heap2 w (.cells (tab8 32 fun _ => 0) 54) (.cells (tab32 8 fun _ => 0) 69)
  obtain ⟨V1, hV1⟩ : ∃ V, V = ((w.alloc (.cells (tab8 32 fun _ => 0) 54)).alloc (.cells (tab32 8 fun _ => 0) 69)).setRow (w.heap.size + 1) (tab32 8 hW) := ⟨_, rfl⟩
  have a1 : Hid (V1.heap[w.heap.size]? = some (.cells (tab8 32 fun _ => 0) 54)) := by rw [hV1, setRow_other _ _ _ _ (by omega)]; exact h2.1
  have a2 : Hid (V1.heap[w.heap.size + 1]? = some (.cells (tab32 8 hW) 69)) := by rw [hV1]; exact setRow_heap _ _ _ _ _ _ h2.2
  have a3 : Hid (Below w.heap.size w V1) := by rw [hV1]; exact below_setRow (((Below.refl _ _).alloc (Nat.le_refl _) _).alloc (by simp) _) (by omega) _
  show Calls Tryz.prog 95 #[] (((w.alloc (.cells (tab8 32 fun _ => 0) 54)).alloc (.cells (tab32 8 fun _ => 0) 69)).setRow (w.heap.size + 1) (tab32 8 hW)) _
  rw [← hV1]
  clear hV1 h2
  refine (thirds_any V1).mono ?_
  rintro e w2 ⟨rfl, hb2⟩
  have l1 := (Array.getElem?_eq_some_iff.1 a2.out).1
  have l2 := hb2.size
  have b1 : Hid (w2.heap[w.heap.size]? = some (.cells (tab8 32 fun _ => 0) 54)) := by rw [hb2.block _ (by omega)]; exact a1.out
  have b2 : Hid (w2.heap[w.heap.size + 1]? = some (.cells (tab32 8 hW) 69)) := by rw [hb2.block _ (by omega)]; exact a2.out
  have b3 : Hid (Below w.heap.size w w2) := a3.out.trans (hb2.mono (by omega))
  have L : Hid (w.heap.size + 1 < w2.heap.size) := by show w.heap.size + 1 < w2.heap.size; omega
  clear hb2 a1 a2 a3 l1 l2
  go_wp2_with (first
    | (refine isStore 119 (.tmp 4) (.tmp 10) rfl ?_; go_must (refine wpList_store_row rfl 119 (.tmp 4) (.tmp 10) rfl w2.heap.size (tab32 64 kW) rfl rfl 119 _ (heap_alloc_new _ _) (size47' _) (by simp only [tab32_size]; rfl) (tab32_one _ _) ?_; rw [World.setRow_alloc_new]; simp only [Act.put])))
  obtain ⟨Kb, hKb⟩ : ∃ K, K = w2.heap.size := ⟨_, rfl⟩
  obtain ⟨V3, hV3⟩ : ∃ V, V = w2.alloc (.cells (tab32 64 kW) 119) := ⟨_, rfl⟩
  rw [← hV3, ← hKb]
  have c1 : Hid (V3.heap[w.heap.size]? = some (.cells (tab8 32 fun _ => 0) 54)) := by rw [hV3, Below.heap_alloc _ _ _ (by have := L.out; omega)]; exact b1.out
  have c2 : Hid (V3.heap[w.heap.size + 1]? = some (.cells (tab32 8 hW) 69)) := by rw [hV3, Below.heap_alloc _ _ _ L.out]; exact b2.out
  have c3 : Hid (V3.heap[Kb]? = some (.cells (tab32 64 kW) 119)) := by rw [hV3, hKb]; exact heap_alloc_new _ _
  have c4 : Hid (Below w.heap.size w V3) := by rw [hV3]; exact b3.out.alloc b3.out.size _
  have c5 : Hid (w.heap.size + 1 < Kb ∧ Kb < V3.heap.size) := by
    refine ⟨by rw [hKb]; exact L.out, ?_⟩
    rw [hV3, hKb]; simp
  clear hV3 hKb b1 b2 b3 L
  refine (rpadded_any v len p V3 HB.out (HV.out.below c4.out) HN.out).mono ?_
  rintro e w4 ⟨v4, z, rfl, hz1, hz2, own4, hb4⟩
  obtain ⟨g, cap, hv4⟩ := own_shape own4 (by omega)
  subst hv4
  have hg : V3.heap.size ≤ g ∧ g < w4.heap.size := own4.lt g rfl
  have R0 : RB w w4 (w.heap.size + 1) Kb g (len + 1 + z + 8) (padF p len z) hW := by
    obtain ⟨d1, d2⟩ := c5.out
    refine ⟨by rw [hb4.block _ (by omega)]; exact c1.out, by rw [hb4.block _ (by omega)]; exact c2.out, by rw [hb4.block _ (by omega)]; exact c3.out, fun i hi => ?_, by omega, by omega, by omega, hg.2, c4.out.trans (hb4.mono c4.out.size)⟩
    rw [own4.cellAt i (by omega)]
    have hl : i < (padL p len z 8).length := by rw [padL_len]; omega
    simp [vals, padF, hl]
  have bdF : Hid (∀ i, 0 ≤ padF p len z i ∧ padF p len z i < 256) := padF_bd p len z HV.out.bytes
  obtain ⟨P, hP⟩ : ∃ P, P = padF p len z := ⟨_, rfl⟩
  have HPf : Hid (_) := hP
  rw [← hP] at R0 bdF
  obtain ⟨T, hT⟩ : ∃ T, T = len + 1 + z + 8 := ⟨_, rfl⟩
  rw [← hT] at R0 ⊢
  have HT : Hid (_) := hT
  have HZ : Hid (z < 64 ∧ (len + 1 + z) % 64 = 56) := ⟨hz1, hz2⟩
  clear hP hT own4 hb4 hg c1 c2 c3 c4 c5 hz1 hz2 HV HN
  go_wp2
  go_loopw [6] (fun i W => ∃ j a : Nat, a = 64 * j ∧ a ≤ T ∧ i = .int .i64 a ∧ RB w W (w.heap.size + 1) Kb g T P (rst P j)) (fun i _ => T + 64 - (intOf i).toNat)
  case atStart => exact ⟨0, 0, rfl, by omega, rfl, R0⟩
  case round =>
    obtain ⟨j, a, haj, haT, rfl, Y⟩ := hrel
    have HJ : Hid (a = 64 * j) := haj
    clear haj R0
    have hT64 : Hid (T % 64 = 0) := by
      show T % 64 = 0
      have h1 := HT.out
      have h2 := HZ.out.2
      omega
    by_cases hlt : a < T
    · have il : (a : Int) < T := by omega
      have wa : wrap64 ((a : Int) + 64) = ((a + 64 : Nat) : Int) := by have h1 := HB.out; have h2 := HT.out; have h3 := HZ.out.1; simp [wrap64]; omega
      obtain ⟨st, hst⟩ : ∃ st, st = rst P j := ⟨_, rfl⟩
      rw [← hst] at Y
      have HST : Hid (_) := hst
      clear hst
      go_wp2_with (first
        | (refine isLoad 69 (.tmp 3) rfl ?_; go_must (refine wpList_load_row rfl 69 (.tmp 3) rfl (w.heap.size + 1) rfl 69 _ (0, 0) _ Y.s Tryz.underlying69 rfl (size23' _) ?_; simp only [Act.put, List.setIfInBounds_toArray, List.set_cons_succ, List.set_cons_zero]))
        | (refine isLoad 119 (.tmp 4) rfl ?_; go_must (refine wpList_load_row rfl 119 (.tmp 4) rfl Kb rfl 119 _ (0, 0) _ Y.k Tryz.underlying119 rfl (size47' _) ?_; simp only [Act.put, List.setIfInBounds_toArray, List.set_cons_succ, List.set_cons_zero])))
      obtain ⟨nx, hnx⟩ : ∃ nx : Nat → Int, nx = fun i => (st i + iterR kW (sched fun b => P (a + b)) st 64 i) % 4294967296 := ⟨_, rfl⟩
      have hwk := worked_any st kW P g 0 T cap a wr Y.o4 (by have h1 := hT64.out; have h2 := HJ.out; omega) (by have h1 := HB.out; have h2 := HT.out; have h3 := HZ.out.1; omega) (fun i hi => by rw [Nat.zero_add]; exact Y.m i hi) (fun i _ => bdF.out i)
      rw [← hnx] at hwk
      have HNX : Hid (nx = fun i => (st i + iterR kW (sched fun b => P (a + b)) st 64 i) % 4294967296) := hnx
      clear hnx
      refine hwk.mono ?_
      clear hwk
      rintro e w5 ⟨rfl, hb5⟩
      have Y5 := Y.go hb5
      clear hb5 Y
      go_wp2_with (first
        | (refine isStore 69 (.tmp 3) (.tmp 23) rfl ?_; go_must (refine wpList_store_row rfl 69 (.tmp 3) (.tmp 23) rfl (w.heap.size + 1) _ rfl rfl 69 _ Y5.s (size23' _) (by simp only [tab32_size]) (tab32_one _ _) ?_; simp only [Act.put])))
      go_roundw
      case rel =>
        refine ⟨j + 1, a + 64, by have := HJ.out; omega, by have h1 := hT64.out; have h2 := HJ.out; omega, by rw [wa], ?_⟩
        have h := Y5.setS nx
        have e : nx = rst P (j + 1) := by rw [HNX.out, HST.out, HJ.out, rst_succ]
        rw [e] at h ⊢
        exact h
      case measure =>
        rw [wa]
        simp only [intOf, Int.toNat_natCast]
        omega
    · have eT : Hid (a = T) := by show a = T; omega
      go_wp2
      obtain ⟨st, hst⟩ : ∃ st, st = rst P j := ⟨_, rfl⟩
      rw [← hst] at Y
      have HST : Hid (_) := hst
      clear hst
      obtain ⟨D, hD⟩ : ∃ D, D = wr.heap.size := ⟨_, rfl⟩
      have Z0 : RB w (wr.alloc (.cells (tab8 32 (upto (digB st) 0)) 54)) (w.heap.size + 1) Kb g T P st := Y.go ((Below.refl _ _).alloc (Nat.le_refl _) _)
      have Z1 : (wr.alloc (.cells (tab8 32 (upto (digB st) 0)) 54)).heap[D]? = some (.cells (tab8 32 (upto (digB st) 0)) 54) := by rw [hD]; exact heap_alloc_new _ _
      have Z2 : Hid (w.heap.size + 1 < D) := by
        show w.heap.size + 1 < D
        have h1 := Y.o2
        have h2 := Y.o3
        have h3 := Y.o4
        omega
      rw [← hD]
      go_loopw [8] (fun i W => ∃ m : Nat, m ≤ 32 ∧ i = .int .i64 m ∧ W.heap[w.heap.size]? = some (.cells (tab8 32 fun _ => 0) 54) ∧ W.heap[w.heap.size + 1]? = some (.cells (tab32 8 st) 69) ∧ W.heap[D]? = some (.cells (tab8 32 (upto (digB st) m)) 54) ∧ Below w.heap.size w W) (fun i _ => 32 - (intOf i).toNat)
      case atStart => exact ⟨0, by omega, rfl, Z0.r, Z0.s, Z1, Z0.below⟩
      case round =>
        obtain ⟨m, hm, rfl, x1, x2, x3, x4⟩ := hrel
        have X1 : Hid (_) := x1
        have X2 : Hid (_) := x2
        have X3 : Hid (_) := x3
        have X4 : Hid (_) := x4
        clear x1 x2 x3 x4 Z0 Z1 Y hD
        by_cases hlm : m < 32
        · have im : (m : Int) < 32 := by omega
          have f1 : wr.cell? ⟨w.heap.size + 1, m / 4, none⟩ = some (.int .u32 (st (m / 4))) := by rw [cell_of_row _ _ _ _ _ _ X2.out]; exact tab32_get 8 st _ (by omega)
          have f2 : wr.cell? ⟨D, m, none⟩ = some (.int .u8 (upto (digB st) m m)) := by rw [cell_of_row _ _ _ _ _ _ X3.out]; exact tab8_get 32 _ _ hlm
          have f3 : wr.frozen? ⟨D, m, none⟩ = false := frozen_of_row X3.out
          go_wp2
          go_roundw
          case rel =>
            have hz := Z2.out
            refine ⟨m + 1, by omega, by go_num, ?_, ?_, ?_, X4.out.setCell (by simp; omega) _⟩
            · rw [Below.heap_setCell _ _ _ _ (by simp; omega)]; exact X1.out
            · rw [Below.heap_setCell _ _ _ _ (by simp; omega)]; exact X2.out
            · rw [heap_setCell_row _ X3.out, tab8_set]
              exact congrArg (fun f => some (Obj.cells (tab8 32 f) 54)) (upd_upto (digB st) m)
          case measure => simp [intOf]; omega
        · go_wp2_with (first
            | (refine isLoad 54 (.tmp 7) rfl ?_; go_must (refine wpList_load_row rfl 54 (.tmp 7) rfl D rfl 54 _ (0, 0) _ X3.out Tryz.underlying54 rfl (size28' _) ?_; simp only [Act.put, List.setIfInBounds_toArray, List.set_cons_succ, List.set_cons_zero]))
            | (refine isStore 54 (.tmp 2) (.tmp 40) rfl ?_; go_must (refine wpList_store_row rfl 54 (.tmp 2) (.tmp 40) rfl w.heap.size _ rfl rfl 54 _ X1.out (size28' _) (by simp only [tab8_size]) (tab8_one _ _) ?_)))
          refine bodyPost_ret (v := .agg (tab8 32 (upto (digB st) m))) (results_cell_row Tryz.results77 _ _ w.heap.size 54 _ (0, 0) _ rfl (setRow_heap _ _ _ _ _ _ X1.out) Tryz.underlying54 rfl (size28' _)) rfl ⟨z, HZ.out.1, HZ.out.2, ?_, ?_⟩
          · refine congrArg (fun c => Ending.returned (Value.agg c)) ?_
            have ej : j = (len + 1 + z + 8) / 64 := by
              have h1 := HJ.out
              have h2 := eT.out
              have h3 := HT.out
              omega
            rw [← HPf.out, ← ej, ← HST.out]
            refine tab8_congr fun i hi => ?_
            simp [upto, show i < m by omega]
          · exact below_setRow X4.out (Nat.le_refl _) _
end Go.Proofs.YteekoabgbjbabaaGreatDoor

namespace Go.Proofs.YteekoabgbjbabaaGreatDoor
open Go.RowKit

theorem sch1_congr {b b' : Nat → Int} : ∀ k, (∀ i, i < k → b i = b' i) → sch1 b k = sch1 b' k
  | 0, _ => rfl
  | k + 1, h => by simp only [sch1]; rw [sch1_congr k (fun i hi => h i (by omega)), h k (by omega)]
theorem sched_congr {b b' : Nat → Int} (h : ∀ i, i < 64 → b i = b' i) : sched b = sched b' := by
  unfold sched; rw [sch1_congr 64 h]
theorem hW_mod (i : Nat) : hW i % 4294967296 = hW i := by
  by_cases h : i < 8
  · have : ∀ j : Fin 8, hW j.val % 4294967296 = hW j.val := by decide +kernel
    exact this ⟨i, h⟩
  · have : hW i = 0 := by
      unfold hW
      rw [List.getD_eq_getElem?_getD, List.getElem?_eq_none (by simp [hList]; omega)]
      rfl
    rw [this]; rfl
theorem stW_wkG (g r : Nat → Int) : stW (wkG g r) = fun i => (stW g i + iterR kW (sched r) (stW g) 64 i) % 4294967296 := by
  funext i
  show (hW i + (g i + iterR kW (sched r) (stW g) 64 i) % 4294967296) % 4294967296 = ((hW i + g i) % 4294967296 + iterR kW (sched r) (stW g) 64 i) % 4294967296
  generalize iterR kW (sched r) (stW g) 64 i = x
  omega
theorem overlay_full (r q : Nat → Int) (i : Nat) (hi : i < 64) : overlay r 0 64 q i = q i := by
  simp [overlay, hi]
/-- Behind whole blocks. -/
theorem blocks (p P : Nat → Int) : ∀ j, (∀ i, i < 64 * j → P i = p i) → stW (addN HS.new p (64 * j)).g = rst P j ∧ (addN HS.new p (64 * j)).r = fun _ => 0
  | 0, _ => ⟨by
      funext i
      show (hW i + 0) % 4294967296 = hW i
      rw [Int.add_zero, hW_mod], rfl⟩
  | j + 1, h => by
    obtain ⟨h1, h2⟩ := blocks p P j (fun i hi => h i (by omega))
    have hn : (addN HS.new p (64 * j)).n % 64 = 0 := by rw [addN_n]; simp [HS.new]
    have hf := addN_full (addN HS.new p (64 * j)) (fun i => p (64 * j + i)) 64 (by omega) (by omega)
    rw [show 64 * (j + 1) = 64 * j + 64 by omega, addN_add, hf]
    refine ⟨?_, rfl⟩
    simp only
    rw [stW_wkG, h1, rst_succ, hn]
    have e : sched (overlay (addN HS.new p (64 * j)).r 0 64 fun i => p (64 * j + i)) = sched fun b => P (64 * j + b) := sched_congr fun i hi => by
      rw [overlay_full _ _ _ hi, h (64 * j + i) (by omega)]
    rw [e]
theorem padF_get (p : Nat → Int) (len z i : Nat) : padF p len z i = if i < len then p i else if i = len then 128 else if i < len + 1 + z then 0 else if i < len + 1 + z + 8 then lenB len (i - (len + 1 + z)) else 0 := by
  unfold padF padL firstL
  rw [List.getD_eq_getElem?_getD]
  by_cases h1 : i < len
  · rw [if_pos h1, List.append_assoc, List.append_assoc, List.getElem?_append_left (by simpa using h1)]
    simp [h1]
  · rw [if_neg h1, List.append_assoc, List.append_assoc, List.getElem?_append_right (by simp; omega)]
    simp only [List.length_map, List.length_range]
    by_cases h2 : i = len
    · rw [if_pos h2]; subst h2; simp
    · rw [if_neg h2, List.getElem?_append_right (by simp; omega)]
      simp only [List.length_singleton]
      by_cases h3 : i < len + 1 + z
      · rw [if_pos h3, List.getElem?_append_left (by simp; omega)]
        simp [show i - len - 1 < z by omega]
      · rw [if_neg h3, List.getElem?_append_right (by simp; omega)]
        simp only [List.length_replicate]
        by_cases h4 : i < len + 1 + z + 8
        · rw [if_pos h4]
          rw [show i - len - 1 - z = i - (len + 1 + z) by omega]
          simp [show i - (len + 1 + z) < 8 by omega]
        · rw [if_neg h4]
          simp [show ¬ i - len - 1 - z < 8 by omega]

/-- THE DIGEST IS THE REFERENCE's. -/
theorem rst_sum (p : Nat → Int) (len z : Nat) (hz : z < 64) (hz2 : (len + 1 + z) % 64 = 56) : digB (rst (padF p len z) ((len + 1 + z + 8) / 64)) = sumD (addN HS.new p len) := by
  obtain ⟨q, r, hlen, hr⟩ : ∃ q r, len = 64 * q + r ∧ r < 64 := ⟨len / 64, len % 64, by omega, by omega⟩
  have hP := padF_get p len z
  obtain ⟨b1, b2⟩ := blocks p (padF p len z) q (fun i hi => by rw [hP, if_pos (by omega)])
  have hn0 : (addN HS.new p (64 * q)).n % 64 = 0 := by rw [addN_n]; simp [HS.new]
  have ht : addN HS.new p len = ⟨(addN HS.new p (64 * q)).g, overlay (addN HS.new p (64 * q)).r 0 r (fun i => p (64 * q + i)), (addN HS.new p (64 * q)).n + r⟩ := by
    have h := addN_part (addN HS.new p (64 * q)) (fun i => p (64 * q + i)) r (by omega)
    rw [hn0] at h
    rw [← h, ← addN_add, ← hlen]
  have hn : (addN HS.new p (64 * q)).n + r = len := by rw [addN_n]; simp [HS.new]; omega
  rw [hn, b2] at ht
  obtain ⟨g, hg⟩ : ∃ g, g = (addN HS.new p (64 * q)).g := ⟨_, rfl⟩
  rw [← hg] at ht b1
  rw [ht]
  unfold sumD
  congr 1
  simp only
  unfold padG
  have hm : len % 64 = r := by omega
  by_cases h56 : r < 56
  · have hT : (len + 1 + z + 8) / 64 = q + 1 := by omega
    have hpg : pg g (overlay (fun _ => 0) 0 r fun i => p (64 * q + i)) len = g := by unfold pg; rw [if_pos (by omega)]
    rw [hT, rst_succ, hpg, stW_wkG, b1]
    have e : (sched fun b => padF p len z (64 * q + b)) = sched (lenR (pr (overlay (fun _ => 0) 0 r fun i => p (64 * q + i)) len) len 8) := sched_congr fun i hi => by
      rw [hP]
      unfold lenR pr padR upd overlay
      rw [if_pos (show len % 64 < 56 by omega), hm]
      by_cases c1 : i < r
      · rw [if_pos (by omega), if_neg (by omega)]
        simp only
        rw [if_neg (by omega), if_pos (by omega), Nat.sub_zero]
      · by_cases c2 : i = r
        · rw [if_neg (by omega), if_pos (by omega), if_neg (by omega)]
          simp only
          rw [if_pos c2]
        · by_cases c3 : i < 56
          · rw [if_neg (by omega), if_neg (by omega), if_pos (by omega), if_neg (by omega)]
            simp only
            rw [if_neg c2, if_neg (by omega)]
          · rw [if_neg (by omega), if_neg (by omega), if_neg (by omega), if_pos (by omega), if_pos (by omega), show 64 * q + i - (len + 1 + z) = i - 56 by omega]
    rw [e]
  · have hT : (len + 1 + z + 8) / 64 = q + 1 + 1 := by omega
    have hpg : pg g (overlay (fun _ => 0) 0 r fun i => p (64 * q + i)) len = wkG g (padR (overlay (fun _ => 0) 0 r fun i => p (64 * q + i)) len) := by unfold pg; rw [if_neg (by omega)]
    have e1 : (sched fun b => padF p len z (64 * q + b)) = sched (padR (overlay (fun _ => 0) 0 r fun i => p (64 * q + i)) len) := sched_congr fun i hi => by
      rw [hP]
      unfold padR upd overlay
      rw [hm]
      by_cases c1 : i < r
      · rw [if_pos (by omega), if_neg (by omega), if_pos (by omega), Nat.sub_zero]
      · by_cases c2 : i = r
        · rw [if_neg (by omega), if_pos (by omega), if_pos c2]
        · rw [if_neg (by omega), if_neg (by omega), if_pos (by omega), if_neg c2, if_neg (by omega)]
    have e2 : (sched fun b => padF p len z (64 * (q + 1) + b)) = sched (lenR (pr (overlay (fun _ => 0) 0 r fun i => p (64 * q + i)) len) len 8) := sched_congr fun i hi => by
      rw [hP]
      unfold lenR pr
      rw [if_neg (show ¬ len % 64 < 56 by omega)]
      by_cases c3 : i < 56
      · rw [if_neg (by omega), if_neg (by omega), if_pos (by omega), if_neg (by omega)]
      · rw [if_neg (by omega), if_neg (by omega), if_neg (by omega), if_pos (by omega), if_pos (by omega), show 64 * (q + 1) + i - (len + 1 + z) = i - 56 by omega]
    rw [hT, rst_succ, rst_succ, hpg, stW_wkG, stW_wkG, b1, e1, e2]

/-- THE REFERENCE's SUM, by the program's own functions. -/
theorem rsum_is (v : Value) (len : Nat) (p : Nat → Int) (w : World) (hbig : len + 200 ≤ 200000000000000) (hv : SliceB w v len p) (hnil : ∀ cap, v = .slice none len cap → cap = 0) :
    Calls Tryz.prog 77 #[v] w fun e w' => e = .returned (.agg (tab8 32 (sumD (addN HS.new p len)))) ∧ Below w.heap.size w w' :=
  (rsum_any v len p w hbig hv hnil).mono fun e w' ⟨z, h1, h2, he, hb⟩ => by
    rw [rst_sum p len z h1 h2] at he
    exact ⟨he, hb⟩
end Go.Proofs.YteekoabgbjbabaaGreatDoor

namespace Go.Proofs.YteekoabgbjbabaaGreatDoor
open Go.RowKit

theorem size5' : ∀ W, (sizeOf 5).run Tryz.prog W = .ok 1 W := by intro W; simp [go_sem]
/-- A piece of a []byte. -/
theorem SliceB.sub {w : World} {a : Option Addr} {len cap : Nat} {p : Nat → Int} (hv : SliceB w (.slice a len cap) len p) (l h : Nat) (h1 : l ≤ h) (h2 : h ≤ len) :
    SliceB w (sliced a l h cap 1) (h - l) (fun j => p (l + j)) := by
  obtain ⟨⟨a', cap', e, e1, e2, e3⟩, hp⟩ := hv
  obtain ⟨rfl, _, rfl⟩ : a = a' ∧ len = len ∧ cap = cap' := by
    injection e with x y z
    exact ⟨x, rfl, z⟩
  refine ⟨⟨_, cap - l, rfl, by omega, by omega, fun h0 => ?_⟩, fun j hj => hp (l + j) (by omega)⟩
  obtain ⟨b, off, rfl, hb, hc⟩ := e3 (by omega)
  rw [if_neg (by omega)]
  refine ⟨b, off + l, ?_, hb, fun j hj => ?_⟩
  · simp [Addr.add_mid]
  · rw [Nat.add_assoc]; exact hc (l + j) (by omega)
theorem slice_lh (a : Option Addr) (len cap l h : Nat) (h1 : l ≤ h) (h2 : h ≤ cap) (W : World) : (Instr.sliceAt 24 (.slice a len cap) (some (.int .i64 (l : Int))) (some (.int .i64 (h : Int))) none).run Tryz.prog W = .ok (sliced a l h cap 1) W := by
  have e1 : (l : Int) ≤ h := by omega
  have e2 : (h : Int) ≤ cap := by omega
  simp [Instr.sliceAt, Instr.slice, run_underlying Tryz.underlying24, Instr.sliceBounds, run_sliceBound, sliced, h1, h2]
theorem slice_h (a : Option Addr) (len cap h : Nat) (h2 : h ≤ cap) (W : World) : (Instr.sliceAt 24 (.slice a len cap) none (some (.int .i64 (h : Int))) none).run Tryz.prog W = .ok (sliced a 0 h cap 1) W := by
  have e2 : (h : Int) ≤ cap := by omega
  simp [Instr.sliceAt, Instr.slice, run_underlying Tryz.underlying24, Instr.sliceBounds, run_sliceBound, sliced, h2]
theorem slice_l (a : Option Addr) (len cap l : Nat) (h1 : l ≤ len) (W : World) : (Instr.sliceAt 24 (.slice a len cap) (some (.int .i64 (l : Int))) none none).run Tryz.prog W = .ok (sliced a l len cap 1) W := by
  have e1 : (l : Int) ≤ len := by omega
  simp [Instr.sliceAt, Instr.slice, run_underlying Tryz.underlying24, Instr.sliceBounds, run_sliceBound, sliced, h1]

theorem conv_str {w : World} {v : Value} {l : Nat} {p : Nat → Int} (h : SliceB w v l p) : (convert 24 9 v).run Tryz.prog w = .ok (.string (strOfNums (firstL p l))) w := by
  obtain ⟨⟨a, cap, rfl, h1, h2, h3⟩, hp⟩ := h
  by_cases h0 : 0 < l
  · obtain ⟨b, off, rfl, _, hc⟩ := h3 h0
    refine run_convert_bytes_arg w 24 5 Tryz.underlying24 Tryz.underlying5 b off l cap (firstL p l) (by simp [firstL]) (fun i hi => ?_) 9 Tryz.underlying9
    rw [hc i hi]
    simp [firstL, hi]
  · obtain rfl : l = 0 := by omega
    cases a with
    | none => exact run_convert_bytes_nil w 24 5 Tryz.underlying24 Tryz.underlying5 0 cap 9 Tryz.underlying9
    | some ad =>
      have hl : (loadCells ad 0).run Tryz.prog w = .ok (([] : List Int).map (Value.int .u8)).toArray w := by simpa using run_loadCells_list (P := Tryz.prog) w ad [] (by simp)
      rw [run_convert_bytes_string w 24 9 5 _ 0 cap Tryz.underlying24 Tryz.underlying5 Tryz.underlying9, run_bytesToString w _ 0 cap [] hl]
      rfl
theorem own_cap {W : World} {B n m g cap : Nat} {xs : List Value} (h : W.ownsRow B 5 1 (.slice (some ⟨g, 0, none⟩) m cap) n xs) : n ≤ cap := by
  rcases h.2 with ⟨e, _⟩ | ⟨g', cap', cur, e, _, _, hn, _⟩
  · cases e
  · cases e
    exact hn
end Go.Proofs.YteekoabgbjbabaaGreatDoor
