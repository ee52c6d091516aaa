import Derived.Test.YtfhldpdnoaoohaaDoorF3
namespace Go.Proofs.YtfhldpdnoaoohaaDoor
open Go.RowKit

/-- The reference's state behind j blocks of P. -/
def rst (P : Nat → Int) : Nat → Nat → Int
  | 0 => hW
  | j + 1 => fun i => (rst P j i + iterR kW (sched fun b => P (64 * j + b)) (rst P j) 64 i) % 4294967296
theorem rst_succ (P : Nat → Int) (j : Nat) : rst P (j + 1) = fun i => (rst P j i + iterR kW (sched fun b => P (64 * j + b)) (rst P j) 64 i) % 4294967296 := by
  simp only [rst]
/-- The padded list as a function. -/
def padF (p : Nat → Int) (len z : Nat) : Nat → Int := fun i => (padL p len z 8).getD i 0
theorem lenB_bd (n i : Nat) : 0 ≤ lenB n i ∧ lenB n i < 256 := by unfold lenB; omega
theorem padF_bd (p : Nat → Int) (len z : Nat) (hp : ∀ j, j < len → 0 ≤ p j ∧ p j < 256) (i : Nat) : 0 ≤ padF p len z i ∧ padF p len z i < 256 := by
  unfold padF
  rw [List.getD_eq_getElem?_getD]
  cases h : (padL p len z 8)[i]? with
  | none => simp
  | some x =>
    have hm := List.mem_of_getElem? h
    simp only [Option.getD_some]
    simp only [padL, firstL, List.mem_append, List.mem_map, List.mem_range, List.mem_singleton, List.mem_replicate] at hm
    rcases hm with ((⟨j, hj, rfl⟩ | rfl) | ⟨_, rfl⟩) | ⟨j, _, rfl⟩
    · exact hp j hj
    · omega
    · omega
    · exact lenB_bd _ _

/-- The blocks of the reference's Sum. -/
structure RB (w W : World) (S Kb g T : Nat) (P s : Nat → Int) : Prop where
  r : W.heap[w.heap.size]? = some (.cells (tab8 32 fun _ => 0) 26)
  s : W.heap[S]? = some (.cells (tab32 8 s) 58)
  k : W.heap[Kb]? = some (.cells (tab32 64 kW) 113)
  m : ∀ i, i < T → W.cell? ⟨g, i, none⟩ = some (.int .u8 (P i))
  o1 : w.heap.size < S
  o2 : S < Kb
  o3 : Kb < g
  o4 : g < W.heap.size
  below : Below w.heap.size w W
theorem RB.go {w W W' : World} {S Kb g T : Nat} {P s : Nat → Int} (h : RB w W S Kb g T P s) (hb : Below W.heap.size W W') : RB w W' S Kb g T P s := by
  have h1 := h.o1
  have h2 := h.o2
  have h3 := h.o3
  have h4 := h.o4
  have h5 := hb.size
  exact ⟨by rw [hb.block _ (by omega)]; exact h.r, by rw [hb.block _ (by omega)]; exact h.s, by rw [hb.block _ (by omega)]; exact h.k, fun i hi => by rw [below_cell hb h4]; exact h.m i hi, h1, h2, h3, by omega, h.below.trans (hb.mono (by omega))⟩
theorem RB.setS {w W : World} {S Kb g T : Nat} {P s : Nat → Int} (h : RB w W S Kb g T P s) (s' : Nat → Int) : RB w (W.setRow S (tab32 8 s')) S Kb g T P s' := by
  have h1 := h.o1
  have h2 := h.o2
  have h3 := h.o3
  have h4 := h.o4
  exact ⟨by rw [setRow_other _ _ _ _ (by omega)]; exact h.r, setRow_heap _ _ _ _ _ _ h.s, by rw [setRow_other _ _ _ _ (by omega)]; exact h.k, fun i hi => by rw [cell_setRow_other _ _ _ _ (by simp; omega)]; exact h.m i hi, h1, h2, h3, by simpa using h4, below_setRow h.below (by omega) _⟩

set_option maxRecDepth 20000 in
set_option maxHeartbeats 2000000 in
theorem rsum_any (v : Value) (len : Nat) (p : Nat → Int) (w : World) (hbig : len + 200 ≤ 200000000000000) (hv : SliceB w v len p) (hnil : ∀ cap, v = .slice none len cap → cap = 0) :
    Calls Tryd.prog 76 #[v] w fun e w' => ∃ z, z < 64 ∧ (len + 1 + z) % 64 = 56 ∧ e = .returned (.agg (tab8 32 (digB (rst (padF p len z) ((len + 1 + z + 8) / 64))))) ∧ Below w.heap.size w w' := by
  have HB : Hid (_) := hbig
  have HV : Hid (SliceB w v len p) := hv
  have HN : Hid (_) := hnil
  clear hbig hv hnil
  have z28 := zero28
  go_enter Tryd.func76, Tryd.ntmps76
  go_wp2_with (first
    | (refine isStore 58 (.tmp 3) (.tmp 9) rfl ?_; go_must (refine wpList_store_row rfl 58 (.tmp 3) (.tmp 9) rfl (w.heap.size + 1) (tab32 8 hW) rfl (by rfl) 58 _ (heap2 w _ _).2 (size23' _) (by simp only [tab32_size]; rfl) (tab32_one _ _) ?_; simp only [Act.put])))
  clear z28
  have h2 := heap2 w (.cells (tab8 32 fun _ => 0) 26) (.cells (tab32 8 fun _ => 0) 58)
  obtain ⟨V1, hV1⟩ : ∃ V, V = ((w.alloc (.cells (tab8 32 fun _ => 0) 26)).alloc (.cells (tab32 8 fun _ => 0) 58)).setRow (w.heap.size + 1) (tab32 8 hW) := ⟨_, rfl⟩
  have a1 : Hid (V1.heap[w.heap.size]? = some (.cells (tab8 32 fun _ => 0) 26)) := by rw [hV1, setRow_other _ _ _ _ (by omega)]; exact h2.1
  have a2 : Hid (V1.heap[w.heap.size + 1]? = some (.cells (tab32 8 hW) 58)) := by rw [hV1]; exact setRow_heap _ _ _ _ _ _ h2.2
  have a3 : Hid (Below w.heap.size w V1) := by rw [hV1]; exact below_setRow (((Below.refl _ _).alloc (Nat.le_refl _) _).alloc (by simp) _) (by omega) _
  show Calls Tryd.prog 86 #[] (((w.alloc (.cells (tab8 32 fun _ => 0) 26)).alloc (.cells (tab32 8 fun _ => 0) 58)).setRow (w.heap.size + 1) (tab32 8 hW)) _
  rw [← hV1]
  clear hV1 h2
  refine (thirds_any V1).mono ?_
  rintro e w2 ⟨rfl, hb2⟩
  have l1 := (Array.getElem?_eq_some_iff.1 a2.out).1
  have l2 := hb2.size
  have b1 : Hid (w2.heap[w.heap.size]? = some (.cells (tab8 32 fun _ => 0) 26)) := by rw [hb2.block _ (by omega)]; exact a1.out
  have b2 : Hid (w2.heap[w.heap.size + 1]? = some (.cells (tab32 8 hW) 58)) := by rw [hb2.block _ (by omega)]; exact a2.out
  have b3 : Hid (Below w.heap.size w w2) := a3.out.trans (hb2.mono (by omega))
  have L : Hid (w.heap.size + 1 < w2.heap.size) := by show w.heap.size + 1 < w2.heap.size; omega
  clear hb2 a1 a2 a3 l1 l2
  go_wp2_with (first
    | (refine isStore 113 (.tmp 4) (.tmp 10) rfl ?_; go_must (refine wpList_store_row rfl 113 (.tmp 4) (.tmp 10) rfl w2.heap.size (tab32 64 kW) rfl rfl 113 _ (heap_alloc_new _ _) (size47' _) (by simp only [tab32_size]; rfl) (tab32_one _ _) ?_; rw [World.setRow_alloc_new]; simp only [Act.put])))
  obtain ⟨Kb, hKb⟩ : ∃ K, K = w2.heap.size := ⟨_, rfl⟩
  obtain ⟨V3, hV3⟩ : ∃ V, V = w2.alloc (.cells (tab32 64 kW) 113) := ⟨_, rfl⟩
  rw [← hV3, ← hKb]
  have c1 : Hid (V3.heap[w.heap.size]? = some (.cells (tab8 32 fun _ => 0) 26)) := by rw [hV3, Below.heap_alloc _ _ _ (by have := L.out; omega)]; exact b1.out
  have c2 : Hid (V3.heap[w.heap.size + 1]? = some (.cells (tab32 8 hW) 58)) := by rw [hV3, Below.heap_alloc _ _ _ L.out]; exact b2.out
  have c3 : Hid (V3.heap[Kb]? = some (.cells (tab32 64 kW) 113)) := by rw [hV3, hKb]; exact heap_alloc_new _ _
  have c4 : Hid (Below w.heap.size w V3) := by rw [hV3]; exact b3.out.alloc b3.out.size _
  have c5 : Hid (w.heap.size + 1 < Kb ∧ Kb < V3.heap.size) := by
    refine ⟨by rw [hKb]; exact L.out, ?_⟩
    rw [hV3, hKb]; simp
  clear hV3 hKb b1 b2 b3 L
  refine (rpadded_any v len p V3 HB.out (HV.out.below c4.out) HN.out).mono ?_
  rintro e w4 ⟨v4, z, rfl, hz1, hz2, own4, hb4⟩
  obtain ⟨g, cap, hv4⟩ := own_shape own4 (by omega)
  subst hv4
  have hg : V3.heap.size ≤ g ∧ g < w4.heap.size := own4.lt g rfl
  have R0 : RB w w4 (w.heap.size + 1) Kb g (len + 1 + z + 8) (padF p len z) hW := by
    obtain ⟨d1, d2⟩ := c5.out
    refine ⟨by rw [hb4.block _ (by omega)]; exact c1.out, by rw [hb4.block _ (by omega)]; exact c2.out, by rw [hb4.block _ (by omega)]; exact c3.out, fun i hi => ?_, by omega, by omega, by omega, hg.2, c4.out.trans (hb4.mono c4.out.size)⟩
    rw [own4.cellAt i (by omega)]
    have hl : i < (padL p len z 8).length := by rw [padL_len]; omega
    simp [vals, padF, hl]
  have bdF : Hid (∀ i, 0 ≤ padF p len z i ∧ padF p len z i < 256) := padF_bd p len z HV.out.bytes
  obtain ⟨P, hP⟩ : ∃ P, P = padF p len z := ⟨_, rfl⟩
  have HPf : Hid (_) := hP
  rw [← hP] at R0 bdF
  obtain ⟨T, hT⟩ : ∃ T, T = len + 1 + z + 8 := ⟨_, rfl⟩
  rw [← hT] at R0 ⊢
  have HT : Hid (_) := hT
  have HZ : Hid (z < 64 ∧ (len + 1 + z) % 64 = 56) := ⟨hz1, hz2⟩
  clear hP hT own4 hb4 hg c1 c2 c3 c4 c5 hz1 hz2 HV HN
  go_wp2
  go_loopw [6] (fun i W => ∃ j a : Nat, a = 64 * j ∧ a ≤ T ∧ i = .int .i64 a ∧ RB w W (w.heap.size + 1) Kb g T P (rst P j)) (fun i _ => T + 64 - (intOf i).toNat)
  case atStart => exact ⟨0, 0, rfl, by omega, rfl, R0⟩
  case round =>
    obtain ⟨j, a, haj, haT, rfl, Y⟩ := hrel
    have HJ : Hid (a = 64 * j) := haj
    clear haj R0
    have hT64 : Hid (T % 64 = 0) := by
      show T % 64 = 0
      have h1 := HT.out
      have h2 := HZ.out.2
      omega
    by_cases hlt : a < T
    · have il : (a : Int) < T := by omega
      have wa : wrap64 ((a : Int) + 64) = ((a + 64 : Nat) : Int) := by have h1 := HB.out; have h2 := HT.out; have h3 := HZ.out.1; simp [wrap64]; omega
      obtain ⟨st, hst⟩ : ∃ st, st = rst P j := ⟨_, rfl⟩
      rw [← hst] at Y
      have HST : Hid (_) := hst
      clear hst
      go_wp2_with (first
        | (refine isLoad 58 (.tmp 3) rfl ?_; go_must (refine wpList_load_row rfl 58 (.tmp 3) rfl (w.heap.size + 1) rfl 58 _ (0, 0) _ Y.s Tryd.underlying58 rfl (size23' _) ?_; simp only [Act.put, List.setIfInBounds_toArray, List.set_cons_succ, List.set_cons_zero]))
        | (refine isLoad 113 (.tmp 4) rfl ?_; go_must (refine wpList_load_row rfl 113 (.tmp 4) rfl Kb rfl 113 _ (0, 0) _ Y.k Tryd.underlying113 rfl (size47' _) ?_; simp only [Act.put, List.setIfInBounds_toArray, List.set_cons_succ, List.set_cons_zero])))
      obtain ⟨nx, hnx⟩ : ∃ nx : Nat → Int, nx = fun i => (st i + iterR kW (sched fun b => P (a + b)) st 64 i) % 4294967296 := ⟨_, rfl⟩
      have hwk := worked_any st kW P g 0 T cap a wr Y.o4 (by have h1 := hT64.out; have h2 := HJ.out; omega) (by have h1 := HB.out; have h2 := HT.out; have h3 := HZ.out.1; omega) (fun i hi => by rw [Nat.zero_add]; exact Y.m i hi) (fun i _ => bdF.out i)
      rw [← hnx] at hwk
      have HNX : Hid (nx = fun i => (st i + iterR kW (sched fun b => P (a + b)) st 64 i) % 4294967296) := hnx
      clear hnx
      refine hwk.mono ?_
      clear hwk
      rintro e w5 ⟨rfl, hb5⟩
      have Y5 := Y.go hb5
      clear hb5 Y
      go_wp2_with (first
        | (refine isStore 58 (.tmp 3) (.tmp 23) rfl ?_; go_must (refine wpList_store_row rfl 58 (.tmp 3) (.tmp 23) rfl (w.heap.size + 1) _ rfl rfl 58 _ Y5.s (size23' _) (by simp only [tab32_size]) (tab32_one _ _) ?_; simp only [Act.put])))
      go_roundw
      case rel =>
        refine ⟨j + 1, a + 64, by have := HJ.out; omega, by have h1 := hT64.out; have h2 := HJ.out; omega, by rw [wa], ?_⟩
        have h := Y5.setS nx
        have e : nx = rst P (j + 1) := by rw [HNX.out, HST.out, HJ.out, rst_succ]
        rw [e] at h ⊢
        exact h
      case measure =>
        rw [wa]
        simp only [intOf, Int.toNat_natCast]
        omega
    · have eT : Hid (a = T) := by show a = T; omega
      go_wp2
      obtain ⟨st, hst⟩ : ∃ st, st = rst P j := ⟨_, rfl⟩
      rw [← hst] at Y
      have HST : Hid (_) := hst
      clear hst
      obtain ⟨D, hD⟩ : ∃ D, D = wr.heap.size := ⟨_, rfl⟩
      have Z0 : RB w (wr.alloc (.cells (tab8 32 (upto (digB st) 0)) 26)) (w.heap.size + 1) Kb g T P st := Y.go ((Below.refl _ _).alloc (Nat.le_refl _) _)
      have Z1 : (wr.alloc (.cells (tab8 32 (upto (digB st) 0)) 26)).heap[D]? = some (.cells (tab8 32 (upto (digB st) 0)) 26) := by rw [hD]; exact heap_alloc_new _ _
      have Z2 : Hid (w.heap.size + 1 < D) := by
        show w.heap.size + 1 < D
        have h1 := Y.o2
        have h2 := Y.o3
        have h3 := Y.o4
        omega
      rw [← hD]
      go_loopw [8] (fun i W => ∃ m : Nat, m ≤ 32 ∧ i = .int .i64 m ∧ W.heap[w.heap.size]? = some (.cells (tab8 32 fun _ => 0) 26) ∧ W.heap[w.heap.size + 1]? = some (.cells (tab32 8 st) 58) ∧ W.heap[D]? = some (.cells (tab8 32 (upto (digB st) m)) 26) ∧ Below w.heap.size w W) (fun i _ => 32 - (intOf i).toNat)
      case atStart => exact ⟨0, by omega, rfl, Z0.r, Z0.s, Z1, Z0.below⟩
      case round =>
        obtain ⟨m, hm, rfl, x1, x2, x3, x4⟩ := hrel
        have X1 : Hid (_) := x1
        have X2 : Hid (_) := x2
        have X3 : Hid (_) := x3
        have X4 : Hid (_) := x4
        clear x1 x2 x3 x4 Z0 Z1 Y hD
        by_cases hlm : m < 32
        · have im : (m : Int) < 32 := by omega
          have f1 : wr.cell? ⟨w.heap.size + 1, m / 4, none⟩ = some (.int .u32 (st (m / 4))) := by rw [cell_of_row _ _ _ _ _ _ X2.out]; exact tab32_get 8 st _ (by omega)
          have f2 : wr.cell? ⟨D, m, none⟩ = some (.int .u8 (upto (digB st) m m)) := by rw [cell_of_row _ _ _ _ _ _ X3.out]; exact tab8_get 32 _ _ hlm
          have f3 : wr.frozen? ⟨D, m, none⟩ = false := frozen_of_row X3.out
          go_wp2
          go_roundw
          case rel =>
            have hz := Z2.out
            refine ⟨m + 1, by omega, by go_num, ?_, ?_, ?_, X4.out.setCell (by simp; omega) _⟩
            · rw [Below.heap_setCell _ _ _ _ (by simp; omega)]; exact X1.out
            · rw [Below.heap_setCell _ _ _ _ (by simp; omega)]; exact X2.out
            · rw [heap_setCell_row _ X3.out, tab8_set]
              exact congrArg (fun f => some (Obj.cells (tab8 32 f) 26)) (upd_upto (digB st) m)
          case measure => simp [intOf]; omega
        · go_wp2_with (first
            | (refine isLoad 26 (.tmp 7) rfl ?_; go_must (refine wpList_load_row rfl 26 (.tmp 7) rfl D rfl 26 _ (0, 0) _ X3.out Tryd.underlying26 rfl (size28' _) ?_; simp only [Act.put, List.setIfInBounds_toArray, List.set_cons_succ, List.set_cons_zero]))
            | (refine isStore 26 (.tmp 2) (.tmp 40) rfl ?_; go_must (refine wpList_store_row rfl 26 (.tmp 2) (.tmp 40) rfl w.heap.size _ rfl rfl 26 _ X1.out (size28' _) (by simp only [tab8_size]) (tab8_one _ _) ?_)))
          refine bodyPost_ret (v := .agg (tab8 32 (upto (digB st) m))) (results_cell_row Tryd.results76 _ _ w.heap.size 26 _ (0, 0) _ rfl (setRow_heap _ _ _ _ _ _ X1.out) Tryd.underlying26 rfl (size28' _)) rfl ⟨z, HZ.out.1, HZ.out.2, ?_, ?_⟩
          · refine congrArg (fun c => Ending.returned (Value.agg c)) ?_
            have ej : j = (len + 1 + z + 8) / 64 := by
              have h1 := HJ.out
              have h2 := eT.out
              have h3 := HT.out
              omega
            rw [← HPf.out, ← ej, ← HST.out]
            refine tab8_congr fun i hi => ?_
            simp [upto, show i < m by omega]
          · exact below_setRow X4.out (Nat.le_refl _) _
end Go.Proofs.YtfhldpdnoaoohaaDoor
