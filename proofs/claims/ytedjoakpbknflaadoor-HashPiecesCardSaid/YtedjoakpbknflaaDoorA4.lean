import Derived.Test.YtedjoakpbknflaaDoorA2
import Derived.Deep.RegionHeld
namespace Go.Proofs.YtedjoakpbknflaaDoor
open Go.RowKit

theorem size47 : (Tryd.prog.info? 55).map (·.size) = some 64 := by kernel_rfl
theorem size47' (f : Nat → Int) : (Tryd.prog.info? 55).map (·.size) = some (tab32 64 f).size := by rw [tab32_size]; exact size47
theorem size24 : (Tryd.prog.info? 24).map (·.size) = some 64 := by kernel_rfl
theorem size24' (f : Nat → Int) : (Tryd.prog.info? 24).map (·.size) = some (tab8 64 f).size := by rw [tab8_size]; exact size24
/-- The words of the bytes b, k bytes of them taken in. -/
def sch1 (b : Nat → Int) : Nat → Nat → Int
  | 0 => fun _ => 0
  | k + 1 => upd (sch1 b k) (k / 4) (bits .or .u32 (sch1 b k (k / 4) * 256 % 4294967296) (b k))
/-- One word more. -/
def nextW (f : Nat → Int) (t : Nat) : Int := (((sig1 (f (t - 2)) + f (t - 7)) % 4294967296 + sig0 (f (t - 15))) % 4294967296 + f (t - 16)) % 4294967296
def sch2 (f : Nat → Int) : Nat → Nat → Int
  | 0 => f
  | j + 1 => upd (sch2 f j) (16 + j) (nextW (sch2 f j) (16 + j))
def sched (b : Nat → Int) : Nat → Int := sch2 (sch1 b 64) 48

theorem index24 (b : Nat → Int) (k : Nat) (h : k < 64) (W : World) : (Instr.index 24 (.agg (tab8 64 b)) (.int .i64 (k : Int))).run Tryd.prog W = .ok (.int .u8 (b k)) W := by
  have h1 := tab8_get 64 b k h
  have h2 : (k : Int) < 64 := by omega
  simp [Instr.index, asIntOf, run_underlying Tryd.underlying24, h1, go_sem]
  intro h'
  omega
theorem cell3 (w : World) (A B : Obj) (c : Array Value) (t : TypeId) (n j : Nat) : ((((w.alloc A).alloc B).alloc (.cells c t)).drewN n).cell? ⟨w.heap.size + 2, j, none⟩ = c[j]? := cell_of_row _ _ _ _ _ _ (heap3 w A B (.cells c t) n).2.2
theorem frozen3 (w : World) (A B : Obj) (c : Array Value) (t : TypeId) (n j : Nat) : ((((w.alloc A).alloc B).alloc (.cells c t)).drewN n).frozen? ⟨w.heap.size + 2, j, none⟩ = false := by
  have h := World.frozen?_alloc_at (w := (w.alloc A).alloc B) c t (w.heap.size + 2) j (by simp)
  exact h
theorem keepCell {V : World} {b i j : Nat} {v u : Value} (hij : ¬ i = j) (h : V.cell? ⟨b, j, none⟩ = some u) : (V.setCell ⟨b, i, none⟩ v).drew.cell? ⟨b, j, none⟩ = some u := by
  show (V.setCell ⟨b, i, none⟩ v).cell? ⟨b, j, none⟩ = some u
  rw [World.cell?_setCell_other V ⟨b, i, none⟩ ⟨b, j, none⟩ v (by intro e; cases e; exact hij rfl)]
  exact h
theorem wrap32u (x : Int) : IntKind.u32.wrap x = x % 4294967296 := by simp [IntKind.wrap, IntKind.bits, IntKind.signed]
theorem w3_size (w : World) (A B C : Obj) (n : Nat) : ((((w.alloc A).alloc B).alloc C).drewN n).heap.size = w.heap.size + 3 := by simp

set_option maxHeartbeats 400000 in
theorem schedule_any (b : Nat → Int) (w : World) (hb0 : ∀ i, 0 ≤ b i) (hb1 : ∀ i, b i < 256) :
    Calls Tryd.prog 41 #[.agg (tab8 64 b)] w fun e w' => e = .returned (.agg (tab32 64 (sched b))) ∧ Below w.heap.size w w' := by
  go_enter Tryd.func41, Tryd.ntmps41
  have hb := heap3 w (.cells (tab8 64 b) 24) (.cells (tab32 64 (sch1 b 0)) 55) (.cells (tab32 64 (sch1 b 0)) 55) 0
  have HB : Hid (_) := hb
  clear hb
  go_wp2_with (first
        | refine wpList_load_row rfl 24 _ rfl _ rfl _ _ (0, 0) _ HB.out.1 Tryd.underlying24 rfl (size24' _) ?_)
  rw [show w.heap.size + 1 + 1 = w.heap.size + 2 from rfl]
  clear HB
  go_loopw [8] (fun i W => ∃ k : Nat, k ≤ 64 ∧ i = .int .i64 k ∧ W = (((w.alloc (.cells (tab8 64 b) 24)).alloc (.cells (tab32 64 (sch1 b 0)) 55)).alloc (.cells (tab32 64 (sch1 b k)) 55)).drewN 0) (fun i _ => 64 - (intOf i).toNat)
  case atStart => exact ⟨0, by omega, rfl, by kernel_rfl⟩
  case round =>
    obtain ⟨k, hk, rfl, rfl⟩ := hrel
    by_cases hlt : k < 64
    · have h1 := tab8_get 64 b k hlt
      have h2 := tab32_get 64 (sch1 b k) (k / 4) (by omega)
      have hix := index24 b k hlt
      have g0 := hb0 k
      have g1 := hb1 k
      have g2 : b k % 4294967296 = b k := by omega
      clear hb0 hb1
      go_wp2
      refine ⟨⟨k + 1, by omega, by go_num, ?_⟩, by simp [intOf]; omega⟩
      rw [setTop3, tab32_set]
      rfl
    · have HK : Hid (k = 64) := by show k = 64; omega
      clear hb0 hb1
      go_wp2
      go_loopw [6] (fun i W => ∃ t n : Nat, 16 ≤ t ∧ t ≤ 64 ∧ i = .int .i64 (t : Int) ∧ W = (((w.alloc (.cells (tab8 64 b) 24)).alloc (.cells (tab32 64 (sch1 b 0)) 55)).alloc (.cells (tab32 64 (sch2 (sch1 b k) (t - 16))) 55)).drewN n) (fun i _ => 64 - (intOf i).toNat)
      case atStart => exact ⟨16, 0, by omega, by omega, rfl, rfl⟩
      case round =>
        obtain ⟨t, n, ht, hk, rfl, rfl⟩ := hrel
        by_cases hlt : t < 64
        · have h1 := tab32_get 64 (sch2 (sch1 b k) (t - 16)) (t - 2) (by omega)
          have h2 := tab32_get 64 (sch2 (sch1 b k) (t - 16)) (t - 7) (by omega)
          have h3 := tab32_get 64 (sch2 (sch1 b k) (t - 16)) (t - 15) (by omega)
          have h4 := tab32_get 64 (sch2 (sch1 b k) (t - 16)) (t - 16) (by omega)
          have h5 := tab32_get 64 (sch2 (sch1 b k) (t - 16)) t (by omega)
          have i1 : (16 : Int) ≤ t := by omega
          have i2 : (t : Int) < 64 := by omega
          have n1 : ¬ t = t - 2 := by omega
          have n2 : ¬ t = t - 7 := by omega
          have n3 : ¬ t = t - 15 := by omega
          have n4 : ¬ t = t - 16 := by omega
          have e1 : IntKind.i64.wrap ((t : Int) - 2) = ((t - 2 : Nat) : Int) := by simp [IntKind.wrap, IntKind.bits, IntKind.signed]; omega
          have e2 : IntKind.i64.wrap ((t : Int) - 7) = ((t - 7 : Nat) : Int) := by simp [IntKind.wrap, IntKind.bits, IntKind.signed]; omega
          have e3 : IntKind.i64.wrap ((t : Int) - 15) = ((t - 15 : Nat) : Int) := by simp [IntKind.wrap, IntKind.bits, IntKind.signed]; omega
          have e4 : IntKind.i64.wrap ((t : Int) - 16) = ((t - 16 : Nat) : Int) := by simp [IntKind.wrap, IntKind.bits, IntKind.signed]; omega
          have j2 : ((t - 2 : Nat) : Int) < 64 := by omega
          have j4 : ((t - 7 : Nat) : Int) < 64 := by omega
          have j6 : ((t - 15 : Nat) : Int) < 64 := by omega
          have j8 : ((t - 16 : Nat) : Int) < 64 := by omega
          go_wp2
          obtain ⟨V, hV⟩ : ∃ V, V = (((w.alloc (Obj.cells (tab8 64 b) 24)).alloc (Obj.cells (tab32 64 (sch1 b 0)) 55)).alloc (Obj.cells (tab32 64 (sch2 (sch1 b k) (t - 16))) 55)).drewN n := ⟨_, rfl⟩
          rw [← hV]
          have c1 : V.cell? ⟨w.heap.size + 2, t - 2, none⟩ = some (.int .u32 (sch2 (sch1 b k) (t - 16) (t - 2))) := by rw [hV, cell3]; exact h1
          have c2 : V.cell? ⟨w.heap.size + 2, t - 7, none⟩ = some (.int .u32 (sch2 (sch1 b k) (t - 16) (t - 7))) := by rw [hV, cell3]; exact h2
          have c3 : V.cell? ⟨w.heap.size + 2, t - 15, none⟩ = some (.int .u32 (sch2 (sch1 b k) (t - 16) (t - 15))) := by rw [hV, cell3]; exact h3
          have c4 : V.cell? ⟨w.heap.size + 2, t - 16, none⟩ = some (.int .u32 (sch2 (sch1 b k) (t - 16) (t - 16))) := by rw [hV, cell3]; exact h4
          have c5 : V.cell? ⟨w.heap.size + 2, t, none⟩ = some (.int .u32 (sch2 (sch1 b k) (t - 16) t)) := by rw [hV, cell3]; exact h5
          have c6 : V.frozen? ⟨w.heap.size + 2, t, none⟩ = false := by rw [hV, frozen3]
          have HV : Hid (_) := hV
          clear hV h1 h2 h3 h4 h5
          go_region_held (fun w' => w'.cell? ⟨w.heap.size + 2, t - 2, none⟩ = some (.int .u32 (sch2 (sch1 b k) (t - 16) (t - 2))) ∧ w'.cell? ⟨w.heap.size + 2, t - 7, none⟩ = some (.int .u32 (sch2 (sch1 b k) (t - 16) (t - 7)))
              ∧ w'.cell? ⟨w.heap.size + 2, t - 15, none⟩ = some (.int .u32 (sch2 (sch1 b k) (t - 16) (t - 15))) ∧ w'.cell? ⟨w.heap.size + 2, t - 16, none⟩ = some (.int .u32 (sch2 (sch1 b k) (t - 16) (t - 16)))) (first | exact ⟨keepCell n1 c1, keepCell n2 c2, keepCell n3 c3, keepCell n4 c4⟩ | go_keep)
            (first | (go_at_call 44; refine (sig1_any _ _).mono ?_; rintro e w' ⟨rfl, rfl⟩) | (go_at_call 45; refine (sig0_any _ _).mono ?_; rintro e w' ⟨rfl, rfl⟩))
          all_goals
            go_wp2
            go_roundw
            case rel =>
              refine ⟨t + 1, n + 1, by omega, by omega, by go_num, ?_⟩
              rw [HV.out]
              show World.setCell ((((w.alloc (Obj.cells (tab8 64 b) 24)).alloc (Obj.cells (tab32 64 (sch1 b 0)) 55)).alloc (Obj.cells (tab32 64 (sch2 (sch1 b k) (t - 16))) 55)).drewN (n + 1)) _ _ = _
              rw [setTop3, tab32_set]
              obtain ⟨j, rfl⟩ : ∃ j, t = 16 + j := ⟨t - 16, by omega⟩
              simp only [show 16 + j - 16 = j by omega, show 16 + j + 1 - 16 = j + 1 by omega]
              simp only [sch2, nextW, show 16 + j - 16 = j by omega]
            case measure => simp [intOf]; omega
        · have hb := heap3 w (.cells (tab8 64 b) 24) (.cells (tab32 64 (sch1 b 0)) 55) (.cells (tab32 64 (sch2 (sch1 b k) (t - 16))) 55) n
          have hbl := below3 w (.cells (tab8 64 b) 24) (.cells (tab32 64 (sch1 b 0)) 55) (.cells (tab32 64 (sch2 (sch1 b k) (t - 16))) 55) n
          have HB : Hid (_) := hb
          have HL : Hid (_) := hbl
          clear hb hbl
          go_wp2_with (first
            | refine wpList_load_row rfl 55 _ rfl _ rfl _ _ (0, 0) _ HB.out.2.2 Tryd.underlying55 rfl (size47' _) ?_
            | refine wpList_store_row rfl 55 _ _ rfl _ _ rfl rfl _ _ HB.out.2.1 (size47' _) (by simp only [tab32_size]) (tab32_one _ _) ?_)
          refine bodyPost_ret (v := .agg (tab32 64 (sch2 (sch1 b k) (t - 16)))) (results_cell_row Tryd.results41 _ _ _ _ _ (0, 0) _ rfl (setRow_heap _ _ _ _ _ _ HB.out.2.1) Tryd.underlying55 rfl (size47' _)) rfl ⟨?_, ?_⟩
          · rw [show t = 64 by omega, HK.out]
            rfl
          · exact below_setRow HL.out (by omega) _
end Go.Proofs.YtedjoakpbknflaaDoor
