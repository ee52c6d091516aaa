import Derived.Test.YtmfaapbhehhlpaaL0
import Derived.Test.YtmfaapbhehhlpaaL3
import Derived.Test.YtmfaapbhehhlpaaJ0
namespace Go.Proofs.Ytmfaapbhehhlpaa.Aes
open Go.RowKit Gf8
/- Arrays of n bytes as rows of memory. -/

theorem size16 (f : Nat → Nat) : (Try.prog.info? 55).map (·.size) = some (bA 16 f).size := by rw [bA_size]; kernel_rfl
theorem size176 (f : Nat → Nat) : (Try.prog.info? 72).map (·.size) = some (bA 176 f).size := by rw [bA_size]; kernel_rfl
theorem zero16 : ∀ w, (zeroValue 55).run Try.prog w = .ok (.agg (bA 16 fun _ => 0)) w :=
  (zero_of_info (n := 16) (by kernel_rfl)).1
theorem zero176 : ∀ w, (zeroValue 72).run Try.prog w = .ok (.agg (bA 176 fun _ => 0)) w :=
  (zero_of_info (n := 176) (by kernel_rfl)).1
section
variable {o : Oper} {a : Act} {w : World}
theorem execIdx16 {x i : Operand} {g k : Nat} (ho : o.op = .indexAddr 55 x i) (hx : a.eval x = .pointer (some ⟨g, 0, none⟩)) (hi : a.eval i = .int .i64 (k : Int)) (hk : k < 16) : (execOp a.eval o).run Try.prog w = .ok (.value (.pointer (some ⟨g, k, none⟩))) w := by
  have h1 : (k : Int) < 16 := by omega
  unfold execOp
  simp only [ho, hx, hi]
  simp [go_sem, h1]
theorem execIdx176 {x i : Operand} {g k : Nat} (ho : o.op = .indexAddr 72 x i) (hx : a.eval x = .pointer (some ⟨g, 0, none⟩)) (hi : a.eval i = .int .i64 (k : Int)) (hk : k < 176) : (execOp a.eval o).run Try.prog w = .ok (.value (.pointer (some ⟨g, k, none⟩))) w := by
  have h1 : (k : Int) < 176 := by omega
  unfold execOp
  simp only [ho, hx, hi]
  simp [go_sem, h1]
end
end Go.Proofs.Ytmfaapbhehhlpaa.Aes

namespace Go.Proofs.Ytmfaapbhehhlpaa.Aes
open Go.RowKit Gf8

theorem twice_all : ∀ a : Fin 256, (a.val ≥ 128 → (a.val * 2 % 256) ^^^ 27 = xt a.val) ∧ (¬ a.val ≥ 128 → a.val * 2 = xt a.val) := by decide +kernel
set_option maxRecDepth 20000 in
theorem twice_any (a : Nat) (w : World) (ha : a < 256) :
    Calls Try.prog 55 #[.int .u8 a] w fun e w' => e = .returned (.int .u8 (xt a : Nat)) ∧ w' = w := by
  by_cases h : a ≥ 128
  · have h1 : (a : Int) ≥ 128 := by omega
    have e := (twice_all ⟨a, ha⟩).1 h
    simp only at e
    have q : Hid (bits .xor .u8 ((a : Int) * 2 % 256) 27 = ((xt a : Nat) : Int)) := by
      show bits .xor .u8 ((a : Int) * 2 % 256) 27 = ((xt a : Nat) : Int)
      rw [show ((a : Int) * 2 % 256) = ((a * 2 % 256 : Nat) : Int) by omega, show (27 : Int) = ((27 : Nat) : Int) from rfl, xor_u8 (by omega) (by omega), e]
    clear e h
    go_enter Try.func55, Try.ntmps55
    go_wp2
    go_ret
    exact ⟨congrArg (fun x => Ending.returned (Value.int .u8 x)) q.out, rfl⟩
  · have h1 : ¬ (a : Int) ≥ 128 := by omega
    have e := (twice_all ⟨a, ha⟩).2 h
    simp only at e
    have q : Hid ((a : Int) * 2 = ((xt a : Nat) : Int)) := by
      show (a : Int) * 2 = ((xt a : Nat) : Int)
      rw [← e]; omega
    clear e h
    go_enter Try.func55, Try.ntmps55
    go_wp2
    go_ret
    exact ⟨congrArg (fun x => Ending.returned (Value.int .u8 x)) q.out, rfl⟩

/-- What each operation of 'b[j] ^= w[16*i+j]' yields. -/
def adV (A i k : Nat) (b w : Nat → Nat) (j : Nat) : Value :=
  match j with
  | 0 => .int .i64 k | 1 => .pointer (some ⟨A, k, none⟩) | 2 => .int .u8 (b k) | 3 => .int .i64 i | 4 => .int .i64 (16 * i : Nat) | 5 => .int .i64 k | 6 => .int .i64 (16 * i + k : Nat) | 7 => .pointer (some ⟨A + 1, 16 * i + k, none⟩)
  | 8 => .int .u8 (w (16 * i + k)) | 9 => .int .u8 (addR w b i k : Nat) | 10 => .pointer (some ⟨A, k, none⟩) | _ => undef
structure AdT (A i k : Nat) (b w : Nat → Nat) (V : World) (l : Nat → Bool) (W : World) : Prop where
  b : W.heap[A]? = some (.cells (bA 16 (mixU (addR w b i) b (if l 11 = true then k + 1 else k))) 55)
  w : W.heap[A + 1]? = some (.cells (bA 176 w) 72)
  r : W.heap[A + 2]? = some (.cells (bA 16 fun _ => 0) 55)
  bel : Below A V W

set_option maxRecDepth 20000 in
set_option maxHeartbeats 400000 in
theorem added_any (b w : Nat → Nat) (i : Nat) (V : World) (hb : By b) (hw : ∀ i, i < 176 → w i < 256) (hi : i < 11) :
    Calls Try.prog 56 #[.agg (bA 16 b), .agg (bA 176 w), .int .i64 i] V fun e w' => e = .returned (.agg (bA 16 (addR w b i))) ∧ Below V.heap.size V w' := by
  have HB : Hid (_) := hb
  have HW : Hid (∀ i, i < 176 → w i < 256) := hw
  have HI : Hid (_) := hi
  clear hb hw hi
  have z := zero16
  go_enter Try.func56, Try.ntmps56
  go_wp2_with fail
  have t0 : AdT V.heap.size i 0 b w V (fun _ => false) (((V.alloc (.cells (bA 16 b) 55)).alloc (.cells (bA 176 w) 72)).alloc (.cells (bA 16 fun _ => 0) 55)) := by
    have h := heap3c V (.cells (bA 16 b) 55) (.cells (bA 176 w) 72) (.cells (bA 16 fun _ => 0) 55)
    exact ⟨h.1, h.2.1, h.2.2, below3c _ _ _ _⟩
  obtain ⟨A, hA⟩ : ∃ A, A = V.heap.size := ⟨_, rfl⟩
  rw [← hA] at t0 ⊢
  have VA : Hid (V.heap.size = A) := hA.symm
  have T0 : Hid (_) := t0
  clear z t0 hA
  rw [show A + 1 + 1 = A + 2 from rfl]
  go_loopw [7] (fun x W => ∃ k : Nat, k ≤ 16 ∧ x = .int .i64 k ∧ AdT A i k b w V (fun _ => false) W) (fun x _ => 16 - (intOf x).toNat)
  case atStart => exact ⟨0, by omega, rfl, T0.out⟩
  case round =>
    obtain ⟨k, hk, rfl, kt⟩ := hrel
    have KT : Hid (_) := kt
    clear kt T0
    by_cases hlt : k < 16
    · have i1 : (k : Int) < 16 := by omega
      have HL : Hid (k < 16) := hlt
      clear hlt hk
      go_wp2_with fail
      refine wp_region_det 24 [(0, 12), (1, 13), (2, 14), (3, 15), (4, 16), (5, 17), (6, 18), (7, 19), (8, 20), (9, 21), (10, 22)] (adV A i k b w) (AdT A i k b w V) (by kernel_rfl) (by kernel_rfl) rfl (by kernel_rfl) (by decide) (by decide) ?_ ?_ ?_
      · exact ⟨KT.out.b, KT.out.w, KT.out.r, KT.out.bel.drew⟩
      · intro j hj l a W hl hf hdep hl2 hcl _ hT
        have lk := HL.out
        have li := HI.out
        match j, hj with
        | 0, _ => exact stepV rfl rfl (execMvB rfl (hf 7 (by decide))) ⟨⟨_, rfl, rfl⟩, ⟨hT.b, hT.w, hT.r, hT.bel⟩⟩
        | 1, _ => exact stepV rfl rfl (execIdx16 rfl (hf 3 (by decide)) (hdep _ rfl 0 rfl _ rfl _ rfl) lk) ⟨⟨_, rfl, rfl⟩, ⟨hT.b, hT.w, hT.r, hT.bel⟩⟩
        | 2, _ =>
          have n11 : l 11 = false := by
            cases h : l 11 with
            | false => rfl
            | true =>
              have := hcl 9 _ rfl (hcl 11 _ rfl h 9 rfl) 2 rfl
              rw [hl] at this
              cases this
          have ge := hT.b
          rw [n11, if_neg (by decide)] at ge
          refine stepV rfl rfl (execLdB rfl (hdep _ rfl 1 rfl _ rfl _ rfl) (cellN ge lk)) ⟨⟨_, rfl, congrArg (fun z : Nat => Act.put a _ (.int .u8 z)) ?_⟩, ⟨hT.b, hT.w, hT.r, hT.bel⟩⟩
          unfold mixU; rw [if_neg (by omega)]
        | 3, _ => exact stepV rfl rfl (execMvB rfl (hf 2 (by decide))) ⟨⟨_, rfl, rfl⟩, ⟨hT.b, hT.w, hT.r, hT.bel⟩⟩
        | 4, _ => exact stepV rfl rfl (execMulI (p := 16) rfl rfl (hdep _ rfl 3 rfl _ rfl _ rfl) (by omega)) ⟨⟨_, rfl, rfl⟩, ⟨hT.b, hT.w, hT.r, hT.bel⟩⟩
        | 5, _ => exact stepV rfl rfl (execMvB rfl (hf 7 (by decide))) ⟨⟨_, rfl, rfl⟩, ⟨hT.b, hT.w, hT.r, hT.bel⟩⟩
        | 6, _ => exact stepV rfl rfl (execAddI rfl (hdep _ rfl 4 rfl _ rfl _ rfl) (hdep _ rfl 5 rfl _ rfl _ rfl) (by omega)) ⟨⟨_, rfl, rfl⟩, ⟨hT.b, hT.w, hT.r, hT.bel⟩⟩
        | 7, _ => exact stepV rfl rfl (execIdx176 rfl (hf 4 (by decide)) (hdep _ rfl 6 rfl _ rfl _ rfl) (by omega)) ⟨⟨_, rfl, rfl⟩, ⟨hT.b, hT.w, hT.r, hT.bel⟩⟩
        | 8, _ => exact stepV rfl rfl (execLdB rfl (hdep _ rfl 7 rfl _ rfl _ rfl) (cellN hT.w (by omega))) ⟨⟨_, rfl, rfl⟩, ⟨hT.b, hT.w, hT.r, hT.bel⟩⟩
        | 9, _ => exact stepV rfl rfl (execXor5 rfl (hdep _ rfl 2 rfl _ rfl _ rfl) (hdep _ rfl 8 rfl _ rfl _ rfl) (HB.out k lk) (HW.out _ (by omega))) ⟨⟨_, rfl, rfl⟩, ⟨hT.b, hT.w, hT.r, hT.bel⟩⟩
        | 10, _ => exact stepV rfl rfl (execIdx16 rfl (hf 3 (by decide)) (hdep _ rfl 0 rfl _ rfl _ rfl) lk) ⟨⟨_, rfl, rfl⟩, ⟨hT.b, hT.w, hT.r, hT.bel⟩⟩
        | 11, _ =>
          have ge := hT.b
          rw [hl, if_neg (by decide)] at ge
          refine stepS rfl rfl (execStB rfl (hdep _ rfl 10 rfl _ rfl _ rfl) (hdep _ rfl 9 rfl _ rfl _ rfl) (cellN ge lk) (frozen4 ge)) ⟨⟨_, rfl, rfl⟩, ⟨?_, ?_, ?_, hT.bel.setCell (Nat.le_refl _) _⟩⟩
          · rw [heap4 _ ge]; exact congrArg (fun z => some (Obj.cells z 55)) ((bA_set 16 _ k _).trans (congrArg (bA 16) (updN_mixU (addR w b i) b k)))
          · rw [heap4o _ ge (by omega)]; exact hT.w
          · rw [heap4o _ ge (by omega)]; exact hT.r
        | n + 12, h => exact absurd h (by simp)
      · intro l W hall hT
        have he := hT.b
        rw [hall 11 (by simp), if_pos rfl] at he
        have KT2 : Hid (AdT A i (k + 1) b w V (fun _ => false) W) := ⟨he, hT.w, hT.r, hT.bel⟩
        clear hall hT he KT
        simp only [putP, adV, Act.put, List.setIfInBounds_toArray, List.set_cons_succ, List.set_cons_zero]
        go_wp2
        go_roundw
        case rel => exact ⟨k + 1, by have := HL.out; omega, by go_num, KT2.out⟩
        case measure => have := HL.out; simp [intOf]; omega
    · have i1 : ¬ (k : Int) < 16 := by omega
      have ek : k = 16 := by omega
      subst ek
      have G : Hid (wr.heap[A]? = some (.cells (bA 16 (addR w b i)) 55)) := by
        have h := KT.out.b
        rw [if_neg (by decide)] at h
        rw [bA_congr (g := addR w b i) (fun j hj => by unfold mixU; rw [if_pos hj])] at h
        exact h
      go_wp2_with (first
        | (refine atLoad 55 (.tmp 3) rfl ?_; go_must (refine wpList_load_row rfl 55 (.tmp 3) rfl A rfl 55 _ (0, 0) _ G.out Try.underlying55 rfl (size16 _) ?_; simp only [Act.put, List.setIfInBounds_toArray, List.set_cons_succ, List.set_cons_zero]))
        | (refine atStore 55 (.tmp 6) (.tmp 23) rfl ?_; go_must (refine wpList_store_row rfl 55 (.tmp 6) (.tmp 23) rfl (A + 2) _ rfl rfl 55 _ KT.out.r (size16 _) rfl (bA_one _ _) ?_)))
      refine bodyPost_ret (v := .agg (bA 16 (addR w b i))) (results_cell_row Try.results56 _ _ (A + 2) 55 _ (0, 0) _ rfl (setRow_heap _ _ _ _ _ _ KT.out.r) Try.underlying55 rfl (size16 _)) rfl ⟨rfl, ?_⟩
      rw [VA.out]
      exact below4 KT.out.bel (by omega) _
end Go.Proofs.Ytmfaapbhehhlpaa.Aes

namespace Go.Proofs.Ytmfaapbhehhlpaa.Aes
open Go.RowKit Gf8

/-- The substitution as the reference holds it. -/
def boxT : ByteArray := ⟨#[99, 124, 119, 123, 242, 107, 111, 197, 48, 1, 103, 43, 254, 215, 171, 118, 202, 130, 201, 125, 250, 89, 71, 240, 173, 212, 162, 175, 156, 164, 114, 192, 183, 253, 147, 38, 54, 63, 247, 204, 52, 165, 229, 241, 113, 216, 49, 21, 4, 199, 35, 195, 24, 150, 5, 154, 7, 18, 128, 226, 235, 39, 178, 117, 9, 131, 44, 26, 27, 110, 90, 160, 82, 59, 214, 179, 41, 227, 47, 132, 83, 209, 0, 237, 32, 252, 177, 91, 106, 203, 190, 57, 74, 76, 88, 207, 208, 239, 170, 251, 67, 77, 51, 133, 69, 249, 2, 127, 80, 60, 159, 168, 81, 163, 64, 143, 146, 157, 56, 245, 188, 182, 218, 33, 16, 255, 243, 210, 205, 12, 19, 236, 95, 151, 68, 23, 196, 167, 126, 61, 100, 93, 25, 115, 96, 129, 79, 220, 34, 42, 144, 136, 70, 238, 184, 20, 222, 94, 11, 219, 224, 50, 58, 10, 73, 6, 36, 92, 194, 211, 172, 98, 145, 149, 228, 121, 231, 200, 55, 109, 141, 213, 78, 169, 108, 86, 244, 234, 101, 122, 174, 8, 186, 120, 37, 46, 28, 166, 180, 198, 232, 221, 116, 31, 75, 189, 139, 138, 112, 62, 181, 102, 72, 3, 246, 14, 97, 53, 87, 185, 134, 193, 29, 158, 225, 248, 152, 17, 105, 217, 142, 148, 155, 30, 135, 233, 206, 85, 40, 223, 140, 161, 137, 13, 191, 230, 66, 104, 65, 153, 45, 15, 176, 84, 187, 22]⟩
theorem boxT_size : boxT.size = 256 := by decide +kernel
theorem box_all : ∀ j : Fin 256, (boxT[j.val]'(by rw [boxT_size]; exact j.isLt)).toNat = gsub j.val := by decide +kernel
theorem box_at {k : Nat} (h : k < 256) : (boxT[k]'(by rw [boxT_size]; exact h)).toNat = gsub k := box_all ⟨k, h⟩
section
variable {ops : Array Oper} {rest : List Oper} {o : Oper} {a : Act} {w : World} {Q : Exit → Act → World → Prop}
theorem execBoxU {x : Operand} {k : Nat} (ho : o.op = .index 9 (.const (.string boxT)) x) (hx : a.eval x = .int .u8 (k : Int)) (hk : k < 256) : (execOp a.eval o).run Try.prog w = .ok (.value (.int .u8 (gsub k : Nat))) w := by
  have h1 : k < boxT.size := by rw [boxT_size]; exact hk
  have h2 := box_at hk
  unfold execOp
  simp only [ho, hx]
  simp [go_sem, h1, Act.eval]
  rw [← h2]
theorem wpList_boxU {x : Operand} {k : Nat} (hw : Region.wanted o (yielded ops a.tmps) = true) (ho : o.op = .index 9 (.const (.string boxT)) x) (hx : a.eval x = .int .u8 (k : Int)) (hk : k < 256)
    (h : wpList Try.prog ops Q rest (a.put o.dst (.int .u8 (gsub k : Nat))) w) : wpList Try.prog ops Q (o :: rest) a w :=
  BigFrame.wpList_want hw fun K hK => by unfold Oper.wp; rw [execBoxU ho hx hk]; exact hK _ _ h
theorem atBox {P : Program} (x : Operand) (_ : o.op = .index 9 (.const (.string boxT)) x) (h : wpList P ops Q (o :: rest) a w) : wpList P ops Q (o :: rest) a w := h
end
theorem zero256 : ∀ w, (zeroValue 75).run Try.prog w = .ok (.agg (bA 256 fun _ => 0)) w :=
  (zero_of_info (n := 256) (by kernel_rfl)).1
end Go.Proofs.Ytmfaapbhehhlpaa.Aes

namespace Go.Proofs.Ytmfaapbhehhlpaa.Aes
open Go.RowKit Gf8

/-- The number behind n, its last m bytes laid. -/
def nxF (n m : Nat) : Nat → Nat := fun j => if 16 ≤ j + m then be (n + 1) j else be n j
theorem nxF_step (n : Nat) {m : Nat} (h : m < 16) : updN (nxF n m) (15 - m) (be (n + 1) (15 - m)) = nxF n (m + 1) := by
  funext j
  unfold updN nxF
  by_cases e : j = 15 - m
  · subst e; rw [if_pos rfl, if_pos (by omega)]
  · rw [if_neg e]
    by_cases h2 : 16 ≤ j + m
    · rw [if_pos h2, if_pos (by omega)]
    · rw [if_neg h2, if_neg (by omega)]
theorem nxF_done {n m : Nat} (h : ¬ 256 ^ m ∣ n + 1) : Eq16 (nxF n m) (be (n + 1)) := fun j hj => by
  unfold nxF
  by_cases h2 : 16 ≤ j + m
  · rw [if_pos h2]
  · rw [if_neg h2, be_next, if_neg (carry_less h (by omega))]
theorem nxF_all (n : Nat) : Eq16 (nxF n 16) (be (n + 1)) := fun j _ => by unfold nxF; rw [if_pos (by omega)]

set_option maxRecDepth 20000 in
set_option maxHeartbeats 400000 in
theorem next_any (n : Nat) (V : World) :
    Calls Try.prog 45 #[.agg (bA 16 (be n))] V fun e w' => e = .returned (.agg (bA 16 (be (n + 1)))) ∧ Below V.heap.size V w' := by
  have z := zero16
  go_enter Try.func45, Try.ntmps45
  go_wp2_with fail
  clear z
  have hs : ∀ (v : World) (o : Obj), (v.alloc o).heap = v.heap.push o := fun _ _ => rfl
  have T0 : Hid (((V.alloc (.cells (bA 16 (be n)) 55)).alloc (.cells (bA 16 fun _ => 0) 55)).heap[V.heap.size]? = some (.cells (bA 16 (nxF n 0)) 55) ∧ ((V.alloc (.cells (bA 16 (be n)) 55)).alloc (.cells (bA 16 fun _ => 0) 55)).heap[V.heap.size + 1]? = some (.cells (bA 16 fun _ => 0) 55)) := by
    refine ⟨?_, ?_⟩
    · simp only [hs, Array.getElem?_push, Array.size_push]; rw [if_neg (by omega), if_pos trivial, bA_congr (f := nxF n 0) (g := be n) (fun j hj => by unfold nxF; rw [if_neg (by omega)])]
    · simp only [hs, Array.getElem?_push, Array.size_push]; rw [if_pos trivial]
  clear hs
  go_loopw [3] (fun x W => ∃ m : Nat, m ≤ 16 ∧ x = .int .i64 (15 - (m : Int)) ∧ 256 ^ m ∣ n + 1 ∧ W.heap[V.heap.size]? = some (.cells (bA 16 (nxF n m)) 55) ∧ W.heap[V.heap.size + 1]? = some (.cells (bA 16 fun _ => 0) 55) ∧ Below V.heap.size V W) (fun x _ => (intOf x + 1).toNat)
  case atStart => exact ⟨0, by omega, rfl, by simp, T0.out.1, T0.out.2, ((Below.refl _ _).alloc (Nat.le_refl _) _).alloc (by simp) _⟩
  case round =>
    obtain ⟨m, hm, rfl, hd, g1, g2, bel⟩ := hrel
    have G1 : Hid (_) := g1
    have G2 : Hid (_) := g2
    have HD : Hid (256 ^ m ∣ n + 1) := hd
    have BL : Hid (Below V.heap.size V wr) := bel
    clear g1 g2 bel T0 hd
    by_cases hlt : m < 16
    · obtain ⟨i, hi⟩ : ∃ i, 15 - m = i := ⟨_, rfl⟩
      have e0 : 15 - (m : Int) = (i : Int) := by omega
      have i1 : (i : Int) ≥ 0 := by omega
      have i2 : (i : Int) < 16 := by omega
      have hi16 : i < 16 := by omega
      obtain ⟨y, hy⟩ : ∃ y, be n i = y := ⟨_, rfl⟩
      obtain ⟨x, hx⟩ : ∃ x, be (n + 1) i = x := ⟨_, rfl⟩
      have x1 : x < 256 := by rw [← hx]; exact be_by _ i hi16
      have exy : ((y : Int) + 1) % 256 = (x : Int) := by
        have := be_next n i
        rw [if_pos (by rw [show 15 - i = m by omega]; exact HD.out), hy, hx] at this
        omega
      have c1 : wr.cell? ⟨V.heap.size, i, none⟩ = some (.int .u8 y) := by
        rw [cellN G1.out hi16]
        unfold nxF
        rw [if_neg (by omega), hy]
      have c2 : wr.frozen? ⟨V.heap.size, i, none⟩ = false := frozen4 G1.out
      have R1 : Hid ((wr.setCell ⟨V.heap.size, i, none⟩ (.int .u8 x)).heap[V.heap.size]? = some (.cells (bA 16 (nxF n (m + 1))) 55)) := by
        show (wr.setCell ⟨V.heap.size, i, none⟩ (.int .u8 x)).heap[V.heap.size]? = _
        rw [heap4 _ G1.out, bA_set, ← hx, ← hi, nxF_step n hlt]
      have R2 : Hid ((wr.setCell ⟨V.heap.size, i, none⟩ (.int .u8 x)).heap[V.heap.size + 1]? = some (.cells (bA 16 fun _ => 0) 55)) := by
        show (wr.setCell ⟨V.heap.size, i, none⟩ (.int .u8 x)).heap[V.heap.size + 1]? = _
        rw [heap4o _ G1.out (by omega)]; exact G2.out
      have R3 : Hid (Below V.heap.size V (wr.setCell ⟨V.heap.size, i, none⟩ (.int .u8 x))) := BL.out.setCell (Nat.le_refl _) _
      have c3 : (wr.setCell ⟨V.heap.size, i, none⟩ (.int .u8 x)).cell? ⟨V.heap.size, i, none⟩ = some (.int .u8 x) := by
        rw [cellN R1.out hi16]
        unfold nxF
        rw [if_pos (by omega), hx]
      have CM : Hid (256 ^ (m + 1) ∣ n + 1 ↔ x = 0) := by
        show 256 ^ (m + 1) ∣ n + 1 ↔ x = 0
        rw [carry_more n m HD.out, ← hx]
        unfold be
        rw [show 15 - i = m by omega]
      rw [e0]
      clear hi hy hx hm
      by_cases h0 : x = 0
      · have z0 : ((x : Int) != 0) = false := by simp [h0]
        have H0 : Hid (x = 0) := h0
        clear h0
        go_wp2
        go_roundw
        case rel => exact ⟨m + 1, by omega, by go_num, CM.out.2 H0.out, R1.out, R2.out, R3.out⟩
        case measure => simp [intOf]
      · have z0 : ((x : Int) != 0) = true := by simp [h0]
        have R4 : Hid ((wr.setCell ⟨V.heap.size, i, none⟩ (.int .u8 x)).heap[V.heap.size]? = some (.cells (bA 16 (be (n + 1))) 55)) := by
          have h := R1.out
          rw [bA_congr (nxF_done (fun e => h0 (CM.out.1 e)))] at h
          exact h
        go_wp2_with (first
          | (refine atLoad 55 (.tmp 1) rfl ?_; go_must (refine wpList_load_row rfl 55 (.tmp 1) rfl V.heap.size rfl 55 _ (0, 0) _ R4.out Try.underlying55 rfl (size16 _) ?_; simp only [Act.put, List.setIfInBounds_toArray, List.set_cons_succ, List.set_cons_zero]))
          | (refine atStore 55 (.tmp 2) (.tmp 17) rfl ?_; go_must (refine wpList_store_row rfl 55 (.tmp 2) (.tmp 17) rfl (V.heap.size + 1) _ rfl rfl 55 _ R2.out (size16 _) rfl (bA_one _ _) ?_)))
        refine bodyPost_ret (v := .agg (bA 16 (be (n + 1)))) (results_cell_row Try.results45 _ _ (V.heap.size + 1) 55 _ (0, 0) _ rfl (setRow_heap _ _ _ _ _ _ R2.out) Try.underlying55 rfl (size16 _)) rfl ⟨rfl, ?_⟩
        exact below4 R3.out (by omega) _
    · have em : m = 16 := by omega
      subst em
      have R4 : Hid (wr.heap[V.heap.size]? = some (.cells (bA 16 (be (n + 1))) 55)) := by
        have h := G1.out
        rw [bA_congr (nxF_all n)] at h
        exact h
      go_wp2_with (first
        | (refine atLoad 55 (.tmp 1) rfl ?_; go_must (refine wpList_load_row rfl 55 (.tmp 1) rfl V.heap.size rfl 55 _ (0, 0) _ R4.out Try.underlying55 rfl (size16 _) ?_; simp only [Act.put, List.setIfInBounds_toArray, List.set_cons_succ, List.set_cons_zero]))
        | (refine atStore 55 (.tmp 2) (.tmp 18) rfl ?_; go_must (refine wpList_store_row rfl 55 (.tmp 2) (.tmp 18) rfl (V.heap.size + 1) _ rfl rfl 55 _ G2.out (size16 _) rfl (bA_one _ _) ?_)))
      refine bodyPost_ret (v := .agg (bA 16 (be (n + 1)))) (results_cell_row Try.results45 _ _ (V.heap.size + 1) 55 _ (0, 0) _ rfl (setRow_heap _ _ _ _ _ _ G2.out) Try.underlying55 rfl (size16 _)) rfl ⟨rfl, ?_⟩
      exact below4 BL.out (by omega) _
end Go.Proofs.Ytmfaapbhehhlpaa.Aes
