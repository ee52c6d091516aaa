import Derived.Test.YtedjoakpbknflaaDoorA4
namespace Go.Proofs.YtedjoakpbknflaaDoor
open Go.RowKit

def not32 (x : Int) : Int := bits .xor .u32 (if IntKind.u32.signed = true then -1 else IntKind.u32.max) x
def t1 (K W : Nat → Int) (t : Nat) (r : Nat → Int) : Int := (r 7 + bsig1 (r 4) + bits .xor .u32 (bits .and .u32 (r 4) (r 5)) (bits .and .u32 (not32 (r 4)) (r 6)) + K t + W t) % 4294967296
def t2 (r : Nat → Int) : Int := (bsig0 (r 0) + bits .xor .u32 (bits .xor .u32 (bits .and .u32 (r 0) (r 1)) (bits .and .u32 (r 0) (r 2))) (bits .and .u32 (r 1) (r 2))) % 4294967296
def stepR (K W : Nat → Int) (t : Nat) (r : Nat → Int) : Nat → Int
  | 0 => (t1 K W t r + t2 r) % 4294967296
  | 1 => r 0
  | 2 => r 1
  | 3 => r 2
  | 4 => (r 3 + t1 K W t r) % 4294967296
  | 5 => r 4
  | 6 => r 5
  | 7 => r 6
  | _ => 0
def iterR (K W s : Nat → Int) : Nat → Nat → Int
  | 0 => s
  | t + 1 => stepR K W t (iterR K W s t)

theorem below_cell {B : Nat} {w w' : World} (h : Below B w w') {b o : Nat} (hb : b < B) : w'.cell? ⟨b, o, none⟩ = w.cell? ⟨b, o, none⟩ := h.cell (p := ⟨b, o, none⟩) hb

set_option maxHeartbeats 400000 in
theorem stirred_any (c : Array Value) (s b K : Nat → Int) (w : World) (hz : 1 < w.heap.size) (hb0 : ∀ i, 0 ≤ b i) (hb1 : ∀ i, b i < 256)
    (hK : ∀ i : Nat, i < 64 → w.cell? ⟨1, i, none⟩ = some (.int .u32 (K i)))
    (hs : ∀ i : Nat, i < 8 → c[i]? = some (.int .u32 (s i))) :
    Calls Tryd.prog 37 #[.agg c, .agg (tab8 64 b)] w fun e w' => e = .returned (.agg (tab32 8 (iterR K (sched b) s 64))) ∧ Below w.heap.size w w' := by
  go_enter Tryd.func37, Tryd.ntmps37
  have hb := heap3 w (.cells c 23) (.cells (tab8 64 b) 24) (.cells (tab32 8 (upto (fun _ => 0) 0)) 23) 0
  have HB : Hid (_) := hb
  clear hb
  have HK : Hid (_) := hK
  have HS : Hid (_) := hs
  clear hK hs
  go_wp2_with (first
        | refine wpList_load_row rfl 24 _ rfl _ rfl _ _ (0, 0) _ HB.out.2.1 Tryd.underlying24 rfl (size24' _) ?_
        | fail)
  refine (schedule_any b _ hb0 hb1).mono ?_
  rintro e w1 ⟨rfl, hbl⟩
  have HL : Hid (Below (w.heap.size + 3) ((((w.alloc (.cells c 23)).alloc (.cells (tab8 64 b) 24)).alloc (.cells (tab32 8 (upto (fun _ => 0) 0)) 23)).drewN 0) w1) := by
    rw [← w3_size w (.cells c 23) (.cells (tab8 64 b) 24) (.cells (tab32 8 (upto (fun _ => 0) 0)) 23) 0]
    exact hbl
  clear hbl
  go_wp2_with (first
        | (refine wpList_store_row rfl 55 _ _ rfl w1.heap.size _ rfl rfl 55 _ (heap_alloc_new _ _) (size47' _) (by simp only [tab32_size]; rfl) (tab32_one _ _) ?_; simp only [Act.put]; rw [World.setRow_alloc_new])
        | fail)
  obtain ⟨V, hV⟩ : ∃ V, V = w1.alloc (.cells (tab32 64 (sched b)) 55) := ⟨_, rfl⟩
  rw [← hV]
  obtain ⟨bW, hbW⟩ : ∃ bW, bW = w1.heap.size := ⟨_, rfl⟩
  rw [← hbW]
  have hsz : w.heap.size + 3 ≤ w1.heap.size := by have := HL.out.size; rw [w3_size] at this; exact this
  have hBel : Below w.heap.size w V := by
    rw [hV]
    exact ((below3 w (.cells c 23) (.cells (tab8 64 b) 24) (.cells (tab32 8 (upto (fun _ => 0) 0)) 23) 0).trans (HL.out.mono (by omega))).alloc (by omega) _
  have hblk : ∀ k, k < w.heap.size + 3 → V.heap[k]? = ((((w.alloc (.cells c 23)).alloc (.cells (tab8 64 b) 24)).alloc (.cells (tab32 8 (upto (fun _ => 0) 0)) 23)).drewN 0).heap[k]? := by
    intro k hk
    rw [hV, Below.heap_alloc _ _ _ (by omega)]
    exact HL.out.block k hk
  have hres : V.heap[w.heap.size + 2]? = some (.cells (tab32 8 (upto (fun _ => 0) 0)) 23) := by rw [hblk _ (by omega)]; exact HB.out.2.2
  have hV1 : ∀ i, i < 8 → V.cell? ⟨w.heap.size, i, none⟩ = some (.int .u32 (s i)) := by
    intro i hi
    rw [cell_of_row V w.heap.size i c 23 (0, 0) (by rw [hblk _ (by omega)]; exact HB.out.1)]
    exact HS.out i hi
  have hV2 : ∀ i, i < 64 → V.cell? ⟨bW, i, none⟩ = some (.int .u32 (sched b i)) := by
    intro i hi
    rw [hV, hbW, cell_of_row _ _ i _ 55 (0, 0) (heap_alloc_new w1 _)]
    exact tab32_get 64 _ i hi
  have hV3 : ∀ i, i < 64 → V.cell? ⟨1, i, none⟩ = some (.int .u32 (K i)) := by
    intro i hi
    rw [below_cell hBel (by omega)]
    exact HK.out i hi
  have s0 := hV1 0 (by omega)
  have s1 := hV1 1 (by omega)
  have s2 := hV1 2 (by omega)
  have s3 := hV1 3 (by omega)
  have s4 := hV1 4 (by omega)
  have s5 := hV1 5 (by omega)
  have s6 := hV1 6 (by omega)
  have s7 := hV1 7 (by omega)
  have A1 : Hid (_) := hBel
  have A2 : Hid (_) := hres
  have A3 : Hid (_) := hV2
  have A4 : Hid (_) := hV3
  clear hBel hres hV2 hV3 hV1 hblk hV hbW HL HB HK HS hb0 hb1 hsz
  go_wp2
  go_quiet (fail)
  go_wp2
  go_quiet (fail)
  go_wp2
  rw [show w.heap.size + 1 + 1 = w.heap.size + 2 from rfl]
  clear s0 s1 s2 s3 s4 s5 s6 s7
  go_loopw [6, 7, 8, 9, 10, 11, 12, 13, 35] (fun a b' c' d e f g h i W' => ∃ t n : Nat, t ≤ 64 ∧ i = .int .i64 t ∧ a = .int .u32 (iterR K (sched b) s t 0) ∧ b' = .int .u32 (iterR K (sched b) s t 1) ∧ c' = .int .u32 (iterR K (sched b) s t 2) ∧ d = .int .u32 (iterR K (sched b) s t 3) ∧ e = .int .u32 (iterR K (sched b) s t 4) ∧ f = .int .u32 (iterR K (sched b) s t 5) ∧ g = .int .u32 (iterR K (sched b) s t 6) ∧ h = .int .u32 (iterR K (sched b) s t 7) ∧ W' = V.drewN n) (fun _ _ _ _ _ _ _ _ i _ => 64 - (intOf i).toNat)
  case atStart => exact ⟨0, _, by omega, rfl, rfl, rfl, rfl, rfl, rfl, rfl, rfl, rfl, World.drewN_drewN _ _ _⟩
  case round =>
    obtain ⟨t, n, ht, rfl, rfl, rfl, rfl, rfl, rfl, rfl, rfl, rfl, rfl⟩ := hrel
    obtain ⟨X, hX⟩ : ∃ X, X = V.drewN n := ⟨_, rfl⟩
    rw [← hX]
    by_cases hlt : t < 64
    · have c1 : X.cell? ⟨bW, t, none⟩ = some (.int .u32 (sched b t)) := by rw [hX]; exact A3.out t hlt
      have c2 : X.cell? ⟨1, t, none⟩ = some (.int .u32 (K t)) := by rw [hX]; exact A4.out t hlt
      have HX : Hid (_) := hX
      clear hX
      have i2 : (t : Int) < 64 := by omega
      obtain ⟨r, hr⟩ : ∃ r, r = iterR K (sched b) s t := ⟨_, rfl⟩
      rw [← hr]
      have HR : Hid (_) := hr
      clear hr
      go_wp2
      go_quiet ((go_at_call 42; exact Calls.quiet_of_same (bsig1_any _ _)))
      go_wp2_with (go_at_call 43; refine (bsig0_any _ _).mono ?_; rintro e w' ⟨rfl, rfl⟩)
      go_roundw
      case rel =>
        have hr := HR.out
        subst hr
        refine ⟨t + 1, n + nq, by omega, by go_num, ?_, rfl, rfl, rfl, ?_, rfl, rfl, rfl, ?_⟩
        · rfl
        · rfl
        · rw [HX.out, World.drewN_drewN]
      case measure => simp [intOf]; omega
    · have hres : X.heap[w.heap.size + 2]? = some (.cells (tab32 8 (upto (fun _ => 0) 0)) 23) := by rw [hX]; exact A2.out
      have hBel : Below w.heap.size w X := by rw [hX]; exact below_drewN A1.out n
      have B1 : Hid (_) := hres
      have B2 : Hid (_) := hBel
      clear hres hBel hX
      go_wp2_with (first
        | (refine wpList_store_row rfl 23 _ _ rfl _ _ rfl rfl 23 _ B1.out (by kernel_rfl) (by simp only [tab32_size]; rfl) (by kernel_rfl) ?_))
      have he : (Value.agg #[.int .u32 (iterR K (sched b) s t 0), .int .u32 (iterR K (sched b) s t 1), .int .u32 (iterR K (sched b) s t 2), .int .u32 (iterR K (sched b) s t 3), .int .u32 (iterR K (sched b) s t 4), .int .u32 (iterR K (sched b) s t 5), .int .u32 (iterR K (sched b) s t 6), .int .u32 (iterR K (sched b) s t 7)]) = .agg (tab32 8 (iterR K (sched b) s t)) := rfl
      refine bodyPost_ret (v := .agg (tab32 8 (iterR K (sched b) s t))) (results_cell_row Tryd.results37 _ _ (w.heap.size + 2) 23 _ (0, 0) _ rfl (setRow_heap _ _ _ _ _ _ B1.out) Tryd.underlying23 rfl (size23' _)) rfl ⟨?_, ?_⟩
      · rw [show t = 64 by omega]
      · exact below_setRow B2.out (by omega) _
end Go.Proofs.YtedjoakpbknflaaDoor
