import Derived.Test.YtmfaapbhehhlpaaL3
import Derived.Test.YtmfaapbhehhlpaaW2
import Derived.Test.YtmfaapbhehhlpaaI4
import Derived.Deep.MidRow
import Derived.Laws.CopyRow
namespace Go.Proofs.Ytmfaapbhehhlpaa.Aes
open Go.RowKit Gf8
/- The program's block: copy; mixed. -/

section
variable {P : Program} {ops : Array Oper} {rest : List Oper} {o : Oper} {a : Act} {w w' : World} {Q : Exit → Act → World → Prop}
/-- A piece of an array. -/
theorem sliceArrLH (b l h : Nat) (hl : l < 16) (h1 : l ≤ h) (hh : h ≤ 16) (W : World) : (Instr.sliceAt 55 (.pointer (some ⟨b, 0, none⟩)) (some (.int .i64 (l : Int))) (some (.int .i64 (h : Int))) none).run Try.prog W = .ok (.slice (some ⟨b, l, none⟩) (h - l) (16 - l)) W := by
  have e2 : (h : Int) ≤ 16 := by omega
  have e1 : (l : Int) ≤ h := by omega
  have e3 : ¬ 16 = l := by omega
  simp [Instr.sliceAt, Instr.sureAddr, run_underlying Try.underlying55, Instr.sliceBounds, run_sliceBound, go_sem, e2, h1, e3, Addr.add]
  omega
theorem sliceArrL (b l : Nat) (hl : l < 16) (W : World) : (Instr.sliceAt 55 (.pointer (some ⟨b, 0, none⟩)) (some (.int .i64 (l : Int))) none none).run Try.prog W = .ok (.slice (some ⟨b, l, none⟩) (16 - l) (16 - l)) W := by
  have e2 : (l : Int) ≤ 16 := by omega
  have e3 : ¬ 16 = l := by omega
  simp [Instr.sliceAt, Instr.sureAddr, run_underlying Try.underlying55, Instr.sliceBounds, run_sliceBound, go_sem, e2, e3, Addr.add]
  omega
theorem sliceArr4 (b : Nat) (W : World) : (Instr.sliceAt 84 (.pointer (some ⟨b, 0, none⟩)) none none none).run Try.prog W = .ok (.slice (some ⟨b, 0, none⟩) 4 4) W := by
  simp [Instr.sliceAt, Instr.sureAddr, run_underlying Try.underlying84, Instr.sliceBounds, go_sem, Addr.add]
theorem sliceArr16 (b : Nat) (W : World) : (Instr.sliceAt 55 (.pointer (some ⟨b, 0, none⟩)) none none none).run Try.prog W = .ok (.slice (some ⟨b, 0, none⟩) 16 16) W := by
  simp [Instr.sliceAt, Instr.sureAddr, run_underlying Try.underlying55, Instr.sliceBounds, go_sem, Addr.add]
/-- A slice as an array of four. -/
theorem execArr4 {x : Operand} {ad : Option Addr} {n c : Nat} (ho : o.op = .sliceToArrayPointer 84 x) (hx : a.eval x = .slice ad n c) (hn : 4 ≤ n) : (execOp a.eval o).run Try.prog w = .ok (.value (.pointer ad)) w := by
  have e : ¬ n < 4 := by omega
  unfold execOp
  simp only [ho, hx]
  simp [Instr.arrayAt, run_underlying Try.underlying84, e]
end
theorem bytesL_col (c : Nat → Nat) : (bytesL 4 c).toArray = col c := rfl

/-- A function of columns as a value. -/
structure FnC (g : Nat) (f : Nat → Nat) (V : World) : Prop where
  enters : Enters Try.prog g
  gives : ∀ (c : Nat → Nat) (W : World), (∀ i, i < 4 → c i < 256) → Below V.heap.size V W → Calls Try.prog g #[.agg (col c)] W fun e w' => e = .returned (.agg (col (mixk f c))) ∧ Below W.heap.size W w'
/-- The rows of mixed. -/
structure MiT (A n : Nat) (f b : Nat → Nat) (V W : World) : Prop where
  s : W.heap[A]? = some (.cells (bA 16 (mixU (mixB f b) b n)) 55)
  r : W.heap[A + 1]? = some (.cells (bA 16 fun _ => 0) 55)
  bel : Below A V W
theorem MiT.lt {A n : Nat} {f b : Nat → Nat} {V W : World} (h : MiT A n f b V W) : A + 1 < W.heap.size := (Array.getElem?_eq_some_iff.1 h.r).1
theorem MiT.on {A n : Nat} {f b : Nat → Nat} {V W W' : World} (h : MiT A n f b V W) (hb : Below W.heap.size W W') : MiT A n f b V W' := by
  have l := h.lt
  exact ⟨by rw [hb.block _ (by omega)]; exact h.s, by rw [hb.block _ (by omega)]; exact h.r, h.bel.trans (hb.mono (by omega))⟩
/-- What each operation of copy(b[i:], column[:]) yields. -/
def cpV (A T n : Nat) (j : Nat) : Value :=
  match j with
  | 0 => .int .i64 n | 1 => .slice (some ⟨A, n, none⟩) (16 - n) (16 - n) | 2 => .slice (some ⟨T, 0, none⟩) 4 4 | 3 => .int .i64 4 | _ => undef
/-- The rows within that region. -/
structure CpT (A T n : Nat) (f b d : Nat → Nat) (V : World) (l : Nat → Bool) (W : World) : Prop where
  m : MiT A (if l 3 = true then n + 4 else n) f b V W
  t : W.heap[T]? = some (.cells (col d) 84)
theorem mixB_col (f b : Nat → Nat) {n r : Nat} (hn : n % 4 = 0) (hr : r < 4) : mixB f b (n + r) = mixk f (fun s => b (n + s)) r := by
  unfold mixB
  rw [show (n + r) / 4 * 4 = n by omega, show (n + r) % 4 = r by omega]
theorem spl_mix (f b : Nat → Nat) {n : Nat} (hn : n % 4 = 0) : spl (mixU (mixB f b) b n) n 4 (mixk f fun s => b (n + s)) = mixU (mixB f b) b (n + 4) := by
  funext i
  unfold spl mixU
  by_cases h1 : n ≤ i ∧ i < n + 4
  · rw [if_pos h1, if_pos h1.2, show i = n + (i - n) by omega, mixB_col f b hn (by omega), show n + (i - n) - n = i - n by omega]
  · rw [if_neg h1]
    by_cases h2 : i < n
    · rw [if_pos h2, if_pos (by omega)]
    · rw [if_neg h2, if_neg (by omega)]

set_option maxRecDepth 20000 in
set_option maxHeartbeats 400000 in
theorem pmixed_any (g : Nat) (f b : Nat → Nat) (V : World) (hF : FnC g f V) (hb : By b) :
    Calls Try.prog 53 #[.agg (bA 16 b), .func (.func g) #[] #[]] V fun e w' => e = .returned (.agg (bA 16 (mixB f b))) ∧ Below V.heap.size V w' := by
  have HB : Hid (By b) := hb
  have HF : Hid (FnC g f V) := hF
  have eg : ∀ (args : Array Value) (w : World), (callFunc g args).run Try.prog w = .ok (.enter g args) w := hF.enters
  clear hb hF
  have z := zero16
  go_enter Try.func53, Try.ntmps53
  go_wp2_with fail
  have t0 : MiT V.heap.size 0 f b V ((V.alloc (.cells (bA 16 b) 55)).alloc (.cells (bA 16 fun _ => 0) 55)) := by
    have h := heap2c V (.cells (bA 16 b) 55) (.cells (bA 16 fun _ => 0) 55)
    exact ⟨h.1, h.2, below2c _ _ _⟩
  obtain ⟨A, hA⟩ : ∃ A, A = V.heap.size := ⟨_, rfl⟩
  rw [← hA] at t0 ⊢
  have VA : Hid (V.heap.size = A) := hA.symm
  have T0 : Hid (_) := t0
  clear z t0 hA
  go_loopw [5] (fun x W => ∃ n : Nat, n ≤ 16 ∧ n % 4 = 0 ∧ x = .int .i64 n ∧ MiT A n f b V W) (fun x _ => 16 - (intOf x).toNat)
  case atStart => exact ⟨0, by omega, rfl, rfl, T0.out⟩
  case round =>
    obtain ⟨n, hn, hn4, rfl, kt⟩ := hrel
    clear T0
    by_cases hlt : n < 16
    · have i1 : (n : Int) < 16 := by omega
      obtain ⟨n4, h4⟩ : ∃ x, n + 4 = x := ⟨_, rfl⟩
      have e4 : (n : Int) + 4 = n4 := by omega
      have l4 : (n4 : Int) < 20 := by omega
      have HL : Hid (n < 16 ∧ n % 4 = 0 ∧ n + 4 = n4) := ⟨hlt, hn4, h4⟩
      have RG : Hid (wr.rangeAt A n (bytesL 4 fun s => b (n + s))) := by
        intro j v hj
        have hj4 : j < 4 := by have := (List.getElem?_eq_some_iff.1 hj).1; rwa [bytesL_len] at this
        rw [bytesL_at 4 _ hj4] at hj
        rw [← hj, cellN kt.s (by omega)]
        unfold mixU; rw [if_neg (by omega)]
      have CF := HF.out.gives (fun s => b (n + s)) wr (fun i hi => HB.out _ (by omega)) (by rw [VA.out]; exact kt.bel)
      have KT : Hid (_) := kt
      have z4 : ∀ W, (zeroValue 84).run Try.prog W = .ok (.agg (col fun _ => 0)) W := (zero_of_info (n := 4) (by kernel_rfl)).1
      clear hlt hn hn4 h4 kt
      go_wp2_with (first
        | (refine wpList_ex rfl (execCutLH rfl rfl rfl rfl (sliceArrLH A n n4 HL.out.1 (by have := HL.out; omega) (by have := HL.out; omega) _)) ?_)
        | (refine wpList_ex rfl (execArr4 rfl rfl (by have := HL.out; omega)) ?_)
        | (refine atLoad 84 (.tmp 16) rfl ?_; go_must (refine wpList_ex rfl (execLoadMid rfl rfl RG.out Try.underlying84 rfl (by rw [bytesL_len]; kernel_rfl)) ?_; rw [bytesL_col]))
        | (go_at_fn g; refine CF.mono ?_; rintro e w1 ⟨rfl, hb1⟩; have kt := KT.out.on hb1)
        | (refine atStore 84 (.tmp 6) (.tmp 18) rfl ?_; go_must (refine wpList_store_row rfl 84 (.tmp 6) (.tmp 18) rfl w1.heap.size _ rfl rfl 84 _ (heapNew w1 _) (size4' _) rfl (col_one _) ?_)))
      have tA : A + 1 < w1.heap.size := kt.lt
      have k2 : MiT A n f b V ((w1.alloc (.cells (col fun _ => 0) 84)).setRow w1.heap.size (col (mixk f fun s => b (n + s)))) := by
        have k1 := kt.on (belNew w1 (.cells (col fun _ => 0) 84))
        exact ⟨by rw [setRow_other _ _ _ _ (by omega)]; exact k1.s, by rw [setRow_other _ _ _ _ (by omega)]; exact k1.r, below4 k1.bel (by omega) _⟩
      have gT : ((w1.alloc (.cells (col fun _ => 0) 84)).setRow w1.heap.size (col (mixk f fun s => b (n + s)))).heap[w1.heap.size]? = some (.cells (col (mixk f fun s => b (n + s))) 84) := setRow_heap _ _ _ _ _ _ (heapNew w1 _)
      obtain ⟨T, hT⟩ : ∃ T, T = w1.heap.size := ⟨_, rfl⟩
      obtain ⟨W0, hW⟩ : ∃ W0, W0 = (w1.alloc (.cells (col fun _ => 0) 84)).setRow w1.heap.size (col (mixk f fun s => b (n + s))) := ⟨_, rfl⟩
      rw [← hW] at k2 gT ⊢
      rw [← hT] at gT tA ⊢
      have CT : Hid (CpT A T n f b (mixk f fun s => b (n + s)) V (fun _ => false) W0) := ⟨k2, gT⟩
      have LT : Hid (A + 1 < T) := tA
      clear k2 gT hW hT hb1 kt KT CF RG tA z4
      refine wp_region_det 24 [(0, 19), (1, 20), (2, 21), (3, 22)] (cpV A T n) (CpT A T n f b (mixk f fun s => b (n + s)) V) (by kernel_rfl) (by kernel_rfl) rfl (by kernel_rfl) (by decide) (by decide) ?_ ?_ ?_
      · exact ⟨⟨CT.out.m.s, CT.out.m.r, CT.out.m.bel.drew⟩, CT.out.t⟩
      · intro j hj l a W hl hf hdep hl2 hcl _ hT
        have hL := HL.out
        match j, hj with
        | 0, _ => exact stepV rfl rfl (execMvB rfl (hf 5 (by decide))) ⟨⟨_, rfl, rfl⟩, ⟨hT.m, hT.t⟩⟩
        | 1, _ => exact stepV rfl rfl (execCutL rfl (hf 2 (by decide)) (hdep _ rfl 0 rfl _ rfl _ rfl) (sliceArrL A n hL.1 _)) ⟨⟨_, rfl, rfl⟩, ⟨hT.m, hT.t⟩⟩
        | 2, _ => exact stepV rfl rfl (execSlice rfl (hf 6 (by decide)) (sliceArr4 T _)) ⟨⟨_, rfl, rfl⟩, ⟨hT.m, hT.t⟩⟩
        | 3, _ =>
          have hm := hT.m
          rw [hl, if_neg (by decide)] at hm
          have hmin : Nat.min 4 (16 - n) = 4 := by show min 4 (16 - n) = 4; omega
          refine stepV rfl rfl (execCopyB (cs := bytesL 4 (mixk f fun s => b (n + s))) rfl (hdep _ rfl 1 rfl _ rfl _ rfl) (hdep _ rfl 2 rfl _ rfl _ rfl) hm.s (by rw [bytesL_len, hmin]) ?_ (by rw [bytesL_len, bA_size]; omega) ?_) ⟨⟨_, rfl, rfl⟩, ⟨⟨?_, ?_, below4 hm.bel (Nat.le_refl _) _⟩, ?_⟩⟩
          · intro j v hj
            have hj4 : j < 4 := by have := (List.getElem?_eq_some_iff.1 hj).1; rwa [bytesL_len] at this
            rw [bytesL_at 4 _ hj4] at hj
            rw [Addr.add_mid, cell_of_row _ _ _ _ _ _ hT.t, Nat.zero_add, ← hj]
            exact col_at _ hj4
          · intro u hu
            simp only [bytesL, List.mem_map] at hu
            obtain ⟨z, _, rfl⟩ := hu
            rfl
          · rw [setRow_heap _ _ _ _ _ _ hm.s, bytesL_len, bA_splice 16 n 4 _ _ (by omega), spl_mix f b hL.2.1]
            rfl
          · rw [setRow_other _ _ _ _ (by omega)]; exact hm.r
          · rw [setRow_other _ _ _ _ (by have := LT.out; omega)]; exact hT.t
        | n + 4, h => exact absurd h (by simp)
      · intro l W hall hT
        have he := hT.m
        rw [hall 3 (by simp), if_pos rfl] at he
        have KT2 : Hid (MiT A (n + 4) f b V W) := he
        clear hall hT he CT
        simp only [putP, cpV, Act.put, List.setIfInBounds_toArray, List.set_cons_succ, List.set_cons_zero]
        go_wp2
        go_roundw
        case rel => exact ⟨n + 4, by have := HL.out; omega, by have := HL.out; omega, by have := HL.out; go_num, KT2.out⟩
        case measure => have := HL.out; simp [intOf]; omega
    · have i1 : ¬ (n : Int) < 16 := by omega
      have ek : n = 16 := by omega
      subst ek
      have G : Hid (wr.heap[A]? = some (.cells (bA 16 (mixB f b)) 55)) := by
        have h := kt.s
        rw [bA_congr (g := mixB f b) (fun j hj => by unfold mixU; rw [if_pos hj])] at h
        exact h
      go_wp2_with (first
        | (refine atLoad 55 (.tmp 2) rfl ?_; go_must (refine wpList_load_row rfl 55 (.tmp 2) rfl A rfl 55 _ (0, 0) _ G.out Try.underlying55 rfl (size16 _) ?_; simp only [Act.put, List.setIfInBounds_toArray, List.set_cons_succ, List.set_cons_zero]))
        | (refine atStore 55 (.tmp 4) (.tmp 23) rfl ?_; go_must (refine wpList_store_row rfl 55 (.tmp 4) (.tmp 23) rfl (A + 1) _ rfl rfl 55 _ kt.r (size16 _) rfl (bA_one _ _) ?_)))
      refine bodyPost_ret (v := .agg (bA 16 (mixB f b))) (results_cell_row Try.results53 _ _ (A + 1) 55 _ (0, 0) _ rfl (setRow_heap _ _ _ _ _ _ kt.r) Try.underlying55 rfl (size16 _)) rfl ⟨rfl, ?_⟩
      rw [VA.out]
      exact below4 kt.bel (by omega) _
end Go.Proofs.Ytmfaapbhehhlpaa.Aes
